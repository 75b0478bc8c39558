/- Several texts in one. -/
import Derived.Test.YtppjlpihaocdiaaRefAJ
/- The walk's step within a set; the whole step; the document's Pattern. -/
set_option linter.unusedSimpArgs false
set_option linter.unusedVariables false
namespace Go.Proofs.Ytppjlpihaocdiaa
open Go.RowKit

set_option maxHeartbeats 1000000 in
theorem setEsc_any (b : Nat) (st : St) (c : Nat) (w : World) (hc : c < 256) (hst : Small st) (hm : st.m = 9 ∨ st.m = 10) (hw : Wk w b st) :
    Calls Try.prog 32 #[.pointer (some ⟨b, 0, none⟩), .int .u8 c] w (Did b w (inSet st c)) := by
  have HW : Hid (Wk w b st) := hw
  have HS : Hid (Small st) := hst
  obtain ⟨m, o, a, l⟩ := st
  obtain ⟨c0, c1, c2, c3, f0, f1, f2, f3⟩ := hw
  obtain ⟨s1, s2, s3, s4⟩ := hst
  simp only at c0 c1 c2 c3 s1 s2 s3 s4 hm
  rcases bool_or (inB escs c) with hq | hq
  all_goals rcases hm with rfl | rfl
  all_goals go_enter Try.func32, Try.ntmps32
  all_goals go_wp2_with (first | (go_at_call 30; refine (escapes_any c _).mono ?_; rintro e w' ⟨rfl, rfl⟩) | (go_at_call 59; refine (value_any c _ hc).mono ?_; rintro e w' ⟨rfl, rfl⟩))
  all_goals (go_ret; go_light; try simp only [beq_iff_eq, beq_eq_false_iff_ne, ne_eq] at *)
  · exact .yes (((Only.refl _ _).setCell _ _).setCell _ _) _ (by simp only [inSet9, inSet10, hq]; simp; try omega) ((HW.out.set0 6 rfl).set3 (val c) rfl)
  · exact .no (.refl _ _) (by simp only [inSet9, inSet10, hq]; simp; try omega)
  · exact .yes ((((Only.refl _ _).setCell _ _).setCell _ _).setCell _ _) _ (by simp only [inSet9, inSet10, hq]; simp; try omega) (((HW.out.set0 6 rfl).set0 7 rfl).set3 (val c) rfl)
  · exact .no (.refl _ _) (by simp only [inSet9, inSet10, hq]; simp; try omega)
  · exact .no (.refl _ _) (by simp only [inSet9, inSet10, hq]; simp; try omega)

set_option maxHeartbeats 1000000 in
theorem setPlain_any (b : Nat) (st : St) (c : Nat) (w : World) (hc : c < 256) (hst : Small st) (hm : st.m = 4 ∨ st.m = 5 ∨ st.m = 6 ∨ st.m = 7 ∨ st.m = 8) (hw : Wk w b st) :
    Calls Try.prog 32 #[.pointer (some ⟨b, 0, none⟩), .int .u8 c] w (Did b w (inSet st c)) := by
  have HW : Hid (Wk w b st) := hw
  have HS : Hid (Small st) := hst
  obtain ⟨m, o, a, l⟩ := st
  obtain ⟨c0, c1, c2, c3, f0, f1, f2, f3⟩ := hw
  obtain ⟨s1, s2, s3, s4⟩ := hst
  simp only at c0 c1 c2 c3 s1 s2 s3 s4 hm
  rcases bool_or ((c : Int) == 10) with hq | hq
  all_goals rcases hm with rfl | rfl | rfl | rfl | rfl
  all_goals go_enter Try.func32, Try.ntmps32
  all_goals go_wp2_with fail
  all_goals (go_ret; go_light; try simp only [beq_iff_eq, beq_eq_false_iff_ne, ne_eq] at *)
  · exact .no (.refl _ _) (by rw [inSet4]; (repeat' split) <;> first | rfl | omega)
  · exact .no (.refl _ _) (by rw [inSet5]; (repeat' split) <;> first | rfl | omega)
  · exact .no (.refl _ _) (by rw [inSet6]; (repeat' split) <;> first | rfl | omega)
  · exact .no (.refl _ _) (by rw [inSet7]; (repeat' split) <;> first | rfl | omega)
  · exact .no (.refl _ _) (by rw [inSet8]; (repeat' split) <;> first | rfl | omega)
  · exact .yes ((Only.refl _ _).setCell _ _) _ (by rw [inSet4]; (repeat' split) <;> first | rfl | omega) (HW.out.set0 5 rfl)
  · exact .no ((Only.refl _ _).setCell _ _) (by rw [inSet4]; (repeat' split) <;> first | rfl | omega)
  · exact .no ((Only.refl _ _).setCell _ _) (by rw [inSet4]; (repeat' split) <;> first | rfl | omega)
  · exact .yes ((Only.refl _ _).setCell _ _) _ (by rw [inSet4]; (repeat' split) <;> first | rfl | omega) (HW.out.set0 9 rfl)
  · exact .yes (((Only.refl _ _).setCell _ _).setCell _ _) _ (by rw [inSet4]; (repeat' split) <;> first | rfl | omega) ((HW.out.set0 6 rfl).set3 c rfl)
  · exact .no ((Only.refl _ _).setCell _ _) (by rw [inSet5]; (repeat' split) <;> first | rfl | omega)
  · exact .no ((Only.refl _ _).setCell _ _) (by rw [inSet5]; (repeat' split) <;> first | rfl | omega)
  · exact .yes ((Only.refl _ _).setCell _ _) _ (by rw [inSet5]; (repeat' split) <;> first | rfl | omega) (HW.out.set0 9 rfl)
  · exact .yes (((Only.refl _ _).setCell _ _).setCell _ _) _ (by rw [inSet5]; (repeat' split) <;> first | rfl | omega) ((HW.out.set0 6 rfl).set3 c rfl)
  · exact .yes ((Only.refl _ _).setCell _ _) _ (by rw [inSet6]; (repeat' split) <;> first | rfl | omega) (HW.out.set0 1 rfl)
  · exact .yes ((Only.refl _ _).setCell _ _) _ (by rw [inSet6]; (repeat' split) <;> first | rfl | omega) (HW.out.set0 8 rfl)
  · exact .yes ((Only.refl _ _).setCell _ _) _ (by rw [inSet6]; (repeat' split) <;> first | rfl | omega) (HW.out.set0 9 rfl)
  · exact .yes (((Only.refl _ _).setCell _ _).setCell _ _) _ (by rw [inSet6]; (repeat' split) <;> first | rfl | omega) ((HW.out.set0 6 rfl).set3 c rfl)
  · exact .yes ((Only.refl _ _).setCell _ _) _ (by rw [inSet7]; (repeat' split) <;> first | rfl | omega) (HW.out.set0 1 rfl)
  · exact .no ((Only.refl _ _).setCell _ _) (by rw [inSet7]; (repeat' split) <;> first | rfl | omega)
  · exact .yes ((Only.refl _ _).setCell _ _) _ (by rw [inSet7]; (repeat' split) <;> first | rfl | omega) (HW.out.set0 9 rfl)
  · exact .yes (((Only.refl _ _).setCell _ _).setCell _ _) _ (by rw [inSet7]; (repeat' split) <;> first | rfl | omega) ((HW.out.set0 6 rfl).set3 c rfl)
  · exact .no ((Only.refl _ _).setCell _ _) (by rw [inSet8]; (repeat' split) <;> first | rfl | omega)
  · exact .no ((Only.refl _ _).setCell _ _) (by rw [inSet8]; (repeat' split) <;> first | rfl | omega)
  · exact .of (q := decide ((l : Int) ≤ 125)) (((Only.refl _ _).setCell _ _).setCell _ _) ⟨10, o, a, l⟩ (by rw [inSet8]; simp only [decide_eq_true_eq]; (repeat' split) <;> first | rfl | omega) ((HW.out.set0 9 rfl).set0 10 rfl)
  · exact .no (.refl _ _) (by rw [inSet8]; (repeat' split) <;> first | rfl | omega)
  · exact .yes ((((Only.refl _ _).setCell _ _).setCell _ _).setCell _ _) _ (by rw [inSet8]; (repeat' split) <;> first | rfl | omega) (((HW.out.set0 6 rfl).set0 7 rfl).set3 c rfl)

theorem step_any (b : Nat) (st : St) (c : Nat) (w : World) (hc : c < 256) (hst : Small st) (hw : Wk w b st) :
    Calls Try.prog 18 #[.pointer (some ⟨b, 0, none⟩), .int .u8 c] w (Did b w (step st c)) := by
  have HW : Hid (Wk w b st) := hw
  have HS : Hid (Small st) := hst
  obtain ⟨m, o, a, l⟩ := st
  obtain ⟨c0, c1, c2, c3, f0, f1, f2, f3⟩ := hw
  obtain ⟨s1, s2, s3, s4⟩ := hst
  simp only at c0 c1 c2 c3 s1 s2 s3 s4
  by_cases h0 : m = 0
  · subst h0
    go_enter Try.func18, Try.ntmps18
    go_wp2_with (go_at_call 28; refine (begins_any b _ c _ HS.out HW.out).mono ?_; rintro e w' ⟨q, rfl, hd⟩)
    go_ret
    exact ⟨q, rfl, hd⟩
  · by_cases h1 : m = 1
    · subst h1
      go_enter Try.func18, Try.ntmps18
      go_wp2_with (go_at_call 29; refine (goesOn_any b _ c _ HS.out (.inl rfl) HW.out).mono ?_; rintro e w' ⟨q, rfl, hd⟩)
      go_ret
      exact ⟨q, rfl, hd⟩
    · by_cases h2 : m = 2
      · subst h2
        go_enter Try.func18, Try.ntmps18
        go_wp2_with (go_at_call 29; refine (goesOn_any b _ c _ HS.out (.inr rfl) HW.out).mono ?_; rintro e w' ⟨q, rfl, hd⟩)
        go_ret
        exact ⟨q, rfl, hd⟩
      · by_cases h3 : m = 3
        · subst h3
          go_enter Try.func18, Try.ntmps18
          go_wp2_with (go_at_call 30; refine (escapes_any c _).mono ?_; rintro e w' ⟨rfl, rfl⟩)
          go_ret
          exact .of (q := inB escs c) ((Only.refl _ _).setCell _ _) ⟨1, o, a, l⟩ rfl (HW.out.set0 1 rfl)
        · obtain h4 | h4 | h4 : 11 ≤ m ∨ (m = 9 ∨ m = 10) ∨ (m = 4 ∨ m = 5 ∨ m = 6 ∨ m = 7 ∨ m = 8) := by omega
          · have hz : step ⟨m, o, a, l⟩ c = braced ⟨m, o, a, l⟩ c := by
              unfold step
              simp only
              rw [if_neg h0, if_neg (by omega), if_neg h3, if_pos h4]
            have HM : Hid (11 ≤ m) := h4
            rw [hz]
            clear hz
            obtain rfl | rfl | rfl | rfl : m = 11 ∨ m = 12 ∨ m = 13 ∨ m = 14 := by omega
            all_goals
              go_enter Try.func18, Try.ntmps18
              go_wp2_with (go_at_call 31; refine (braced_any b _ c _ hc HS.out HM.out HW.out).mono ?_; rintro e w' ⟨q, rfl, hd⟩)
              go_ret
              exact ⟨q, rfl, hd⟩
          · have hz : step ⟨m, o, a, l⟩ c = inSet ⟨m, o, a, l⟩ c := by
              unfold step
              simp only
              rw [if_neg h0, if_neg (by omega), if_neg h3, if_neg (by omega)]
            have HM : Hid (m = 9 ∨ m = 10) := h4
            rw [hz]
            clear hz
            obtain rfl | rfl := h4
            all_goals
              go_enter Try.func18, Try.ntmps18
              go_wp2_with (go_at_call 32; refine (setEsc_any b _ c _ hc HS.out HM.out HW.out).mono ?_; rintro e w' ⟨q, rfl, hd⟩)
              go_ret
              exact ⟨q, rfl, hd⟩
          · have hz : step ⟨m, o, a, l⟩ c = inSet ⟨m, o, a, l⟩ c := by
              unfold step
              simp only
              rw [if_neg h0, if_neg (by omega), if_neg h3, if_neg (by omega)]
            have HM : Hid (m = 4 ∨ m = 5 ∨ m = 6 ∨ m = 7 ∨ m = 8) := h4
            rw [hz]
            clear hz
            obtain rfl | rfl | rfl | rfl | rfl := h4
            all_goals
              go_enter Try.func18, Try.ntmps18
              go_wp2_with (go_at_call 32; refine (setPlain_any b _ c _ hc HS.out HM.out HW.out).mono ?_; rintro e w' ⟨q, rfl, hd⟩)
              go_ret
              exact ⟨q, rfl, hd⟩
end Go.Proofs.Ytppjlpihaocdiaa

/- The document's Pattern: it answers 'Ans'. -/
set_option linter.unusedSimpArgs false
set_option linter.unusedVariables false
namespace Go.Proofs.Ytppjlpihaocdiaa
open Go.RowKit

set_option maxHeartbeats 1000000 in
theorem refPattern_any (s : ByteArray) (w : World) (hs : s.size ≤ maxLen) :
    Calls Try.prog 9 #[.string s] w fun e w' => ∃ ec p : Int, e = .returned (.tuple #[.int .i64 ec, .int .i64 p]) ∧ Ans s ec p ∧ Below w.heap.size w w' := by
  unfold maxLen at hs
  by_cases h40 : 40 < s.size
  · go_enter Try.func9, Try.ntmps9
    go_wp2_with fail
    go_ret2
    exact ⟨1, 0, rfl, .inl ⟨h40, rfl, rfl⟩, Below.refl _ _⟩
  · have hle : s.size ≤ 40 := by omega
    go_enter Try.func9, Try.ntmps9
    go_wp2_with fail
    go_loopw [5] (fun v wr => ∃ (k : Nat) (st : St), k ≤ s.size ∧ v = .int .i64 k ∧ Hid (run s k = some st) ∧ Wk wr w.heap.size st ∧ Below w.heap.size w wr) (fun v _ => s.size - (intOf v).toNat)
    case atStart => exact ⟨0, ⟨0, 0, 0, 0⟩, Nat.zero_le _, rfl, rfl, by constructor <;> go_simp, (Below.refl _ _).alloc (Nat.le_refl _) _⟩
    case round =>
      obtain ⟨k, st, hk, rfl, HG, hW, hB⟩ := hrel
      have HW : Hid (Wk wr w.heap.size st) := hW
      have HB : Hid (Below w.heap.size w wr) := hB
      clear hW hB
      by_cases hlt : k < s.size
      · have HY : Hid ((s[k]'hlt).toNat = byt s k) := byt_eq s k hlt
        go_wp2_with fail
        refine (step_any w.heap.size st (s[k]'hlt).toNat _ (UInt8.toNat_lt _) (small_run HG.out) HW.out).mono ?_
        rintro e w1 ⟨q, rfl, ho, hd⟩
        have HB1 : Hid (Below w.heap.size w w1) := HB.out.trans ⟨ho.os, ho.tape, ho.output, by rw [ho.size]; exact Nat.le_refl _, fun i hi => ho.block i (by omega)⟩
        clear ho
        rcases hd with ⟨st', hst', rfl, hW'⟩ | ⟨hst', rfl⟩
        · have HG1 : Hid (run s (k + 1) = some st') := by rw [Hid, run_succ HG.out, ← HY.out]; exact hst'
          have HW1 : Hid (Wk w1 w.heap.size st') := hW'
          clear hst' hW'
          go_wp2_with fail
          go_roundw
          case rel => exact ⟨k + 1, st', by omega, by go_num, HG1, HW1.out, HB1.out⟩
          case measure => simp [intOf]; omega
        · have HF : Hid (Fails s k) := ⟨st, HG.out, hk, fun _ => by rw [← HY.out]; exact hst', fun e => by omega⟩
          clear hst'
          go_wp2_with fail
          go_ret2
          exact ⟨2, k, rfl, .inr (.inl ⟨hle, rfl, k, rfl, HF.out⟩), HB1.out⟩
      · have hks : k = s.size := by omega
        subst hks
        go_wp2_with fail
        refine (whole_any w.heap.size st _ HW.out).mono ?_
        rintro e w1 ⟨rfl, hw1⟩
        subst hw1
        rcases bool_or (whole st) with hw | hw
        · have HH : Hid (whole st = true) := hw
          rw [hw]
          clear hw
          go_wp2_with fail
          go_ret2
          exact ⟨0, 0, rfl, .inr (.inr ⟨hle, rfl, rfl, st, HG.out, HH.out⟩), HB.out⟩
        · have HF : Hid (Fails s s.size) := ⟨st, HG.out, Nat.le_refl _, fun h => absurd h (Nat.lt_irrefl _), fun _ => hw⟩
          rw [hw]
          clear hw
          go_wp2_with fail
          go_ret2
          exact ⟨2, s.size, rfl, .inr (.inl ⟨hle, rfl, s.size, rfl, HF.out⟩), HB.out⟩
end Go.Proofs.Ytppjlpihaocdiaa

