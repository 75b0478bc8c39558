/- The document's walk over a pattern, where it lies within the walk over a script: at the third cell of a block. -/
import Derived.Test.YtppjlpihaocdiaaRefAK
set_option linter.unusedSimpArgs false
set_option linter.unusedVariables false
namespace Go.Proofs.Ytppjlpihaocdiaa
namespace W2
open Go.RowKit

/-- OnlyW the walk's four cells of block b may have turned; no block has gone. -/
structure OnlyW (b : Nat) (w w' : World) : Prop where
  os : w'.os = w.os
  tape : w'.tape = w.tape
  output : w'.output = w.output
  size : w'.heap.size = w.heap.size
  block : ∀ k, k ≠ b → w'.heap[k]? = w.heap[k]?
  cell : ∀ k, k < 2 ∨ 5 < k → w'.cell? ⟨b, k, none⟩ = w.cell? ⟨b, k, none⟩
  frz : ∀ k, w'.frozen? ⟨b, k, none⟩ = w.frozen? ⟨b, k, none⟩

theorem OnlyW.refl (b : Nat) (w : World) : OnlyW b w w := ⟨rfl, rfl, rfl, rfl, fun _ _ => rfl, fun _ _ => rfl, fun _ => rfl⟩
theorem OnlyW.trans {b : Nat} {u v w : World} (h : OnlyW b u v) (k : OnlyW b v w) : OnlyW b u w :=
  ⟨k.os.trans h.os, k.tape.trans h.tape, k.output.trans h.output, k.size.trans h.size, fun i hi => (k.block i hi).trans (h.block i hi), fun i hi => (k.cell i hi).trans (h.cell i hi), fun i => (k.frz i).trans (h.frz i)⟩
theorem OnlyW.setCell {b : Nat} {u w : World} (h : OnlyW b u w) (o : Nat) (v : Value) (ho : 2 ≤ o ∧ o ≤ 5 := by omega) : OnlyW b u (w.setCell ⟨b, o, none⟩ v) :=
  h.trans ⟨rfl, rfl, rfl, by simp [World.setCell], fun k hk => Below.heap_setCell _ _ _ _ hk, fun k hk => World.cell?_setCell_other (h := fun e => by injection e with _ e _; omega) .., fun k => World.frozen?_setCell ..⟩

/-- A walk lies at block b. -/
structure Wk (w : World) (b : Nat) (st : St) : Prop where
  c0 : w.cell? ⟨b, 2, none⟩ = some (.int .i64 st.m)
  c1 : w.cell? ⟨b, 3, none⟩ = some (.int .i64 st.o)
  c2 : w.cell? ⟨b, 4, none⟩ = some (.int .i64 st.a)
  c3 : w.cell? ⟨b, 5, none⟩ = some (.int .i64 st.l)
  f0 : w.frozen? ⟨b, 2, none⟩ = false
  f1 : w.frozen? ⟨b, 3, none⟩ = false
  f2 : w.frozen? ⟨b, 4, none⟩ = false
  f3 : w.frozen? ⟨b, 5, none⟩ = false

theorem Wk.set0 {w : World} {b m o a l : Nat} (h : Wk w b ⟨m, o, a, l⟩) {v : Int} (n : Nat) (hv : v = n) : Wk (w.setCell ⟨b, 2, none⟩ (.int .i64 v)) b ⟨n, o, a, l⟩ := by
  obtain ⟨c0, c1, c2, c3, f0, f1, f2, f3⟩ := h
  subst hv
  simp only at c0 c1 c2 c3
  constructor <;> go_simp
theorem Wk.set1 {w : World} {b m o a l : Nat} (h : Wk w b ⟨m, o, a, l⟩) {v : Int} (n : Nat) (hv : v = n) : Wk (w.setCell ⟨b, 3, none⟩ (.int .i64 v)) b ⟨m, n, a, l⟩ := by
  obtain ⟨c0, c1, c2, c3, f0, f1, f2, f3⟩ := h
  subst hv
  simp only at c0 c1 c2 c3
  constructor <;> go_simp
theorem Wk.set2 {w : World} {b m o a l : Nat} (h : Wk w b ⟨m, o, a, l⟩) {v : Int} (n : Nat) (hv : v = n) : Wk (w.setCell ⟨b, 4, none⟩ (.int .i64 v)) b ⟨m, o, n, l⟩ := by
  obtain ⟨c0, c1, c2, c3, f0, f1, f2, f3⟩ := h
  subst hv
  simp only at c0 c1 c2 c3
  constructor <;> go_simp
theorem Wk.set3 {w : World} {b m o a l : Nat} (h : Wk w b ⟨m, o, a, l⟩) {v : Int} (n : Nat) (hv : v = n) : Wk (w.setCell ⟨b, 5, none⟩ (.int .i64 v)) b ⟨m, o, a, n⟩ := by
  obtain ⟨c0, c1, c2, c3, f0, f1, f2, f3⟩ := h
  subst hv
  simp only at c0 c1 c2 c3
  constructor <;> go_simp

/-- What a step of the walk leaves. -/
def Did (b : Nat) (w : World) (r : Option St) (e : Ending) (w' : World) : Prop :=
  ∃ q, e = .returned (.bool q) ∧ OnlyW b w w' ∧ ((∃ st', r = some st' ∧ q = true ∧ Wk w' b st') ∨ (r = none ∧ q = false))

theorem Did.yes {b : Nat} {w : World} {r : Option St} {w' : World} (h : OnlyW b w w') (st' : St) (hr : r = some st') (hw : Wk w' b st') : Did b w r (.returned (.bool true)) w' := ⟨_, rfl, h, .inl ⟨st', hr, rfl, hw⟩⟩
theorem Did.no {b : Nat} {w : World} {r : Option St} {w' : World} (h : OnlyW b w w') (hr : r = none) : Did b w r (.returned (.bool false)) w' := ⟨_, rfl, h, .inr ⟨hr, rfl⟩⟩
theorem Did.of {b : Nat} {w : World} {r : Option St} {w' : World} {q : Bool} (h : OnlyW b w w') (st' : St) (hr : r = if q = true then some st' else none) (hw : Wk w' b st') : Did b w r (.returned (.bool q)) w' := by
  cases q
  · exact .no h (by simpa using hr)
  · exact .yes h st' (by simpa using hr) hw

set_option maxHeartbeats 400000 in
theorem begins_any (b : Nat) (st : St) (c : Nat) (w : World) (hst : Small st) (hw : Wk w b st) :
    Calls Try.prog 28 #[.pointer (some ⟨b, 2, none⟩), .int .u8 c] w (Did b w (begins st c)) := by
  have HW : Hid (Wk w b st) := hw
  obtain ⟨m, o, a, l⟩ := st
  obtain ⟨c0, c1, c2, c3, f0, f1, f2, f3⟩ := hw
  obtain ⟨s1, s2, s3, s4⟩ := hst
  simp only at c0 c1 c2 c3 s1 s2 s3 s4
  go_enter Try.func28, Try.ntmps28
  go_wp2_with (go_at_call 58; refine (in_any noStart c _ (by decide)).mono ?_; rintro e w' ⟨rfl, rfl⟩)
  all_goals go_ret
  all_goals go_light
  all_goals simp only [beq_iff_eq, beq_eq_false_iff_ne, ne_eq] at *
  · exact .no (.refl _ _) (by unfold begins; simp only; (repeat' split) <;> first | rfl | omega)
  · exact .no (.refl _ _) (by unfold begins; simp only; (repeat' split) <;> first | rfl | omega)
  · exact .yes (((OnlyW.refl _ _).setCell _ _).setCell _ _ |>.setCell _ _) _ (by unfold begins; simp only; (repeat' split) <;> first | rfl | omega) (((HW.out.set1 (o + 1) (by omega)).set2 (a + 1) (by omega)).set0 0 rfl)
  · exact .yes ((OnlyW.refl _ _).setCell _ _) _ (by unfold begins; simp only; (repeat' split) <;> first | rfl | omega) (HW.out.set0 4 rfl)
  · exact .yes ((OnlyW.refl _ _).setCell _ _) _ (by unfold begins; simp only; (repeat' split) <;> first | rfl | omega) (HW.out.set0 3 rfl)
  · exact .of (q := !inB noStart c) ((OnlyW.refl _ _).setCell _ _) ⟨1, o, a, l⟩ (by unfold begins; rw [if_neg (by omega : ¬ c = 40), if_neg (by omega : ¬ c = 91), if_neg (by omega : ¬ c = 92)]; cases inB noStart c <;> rfl) (HW.out.set0 1 rfl)

theorem bool_or (q : Bool) : q = true ∨ q = false := by cases q <;> simp

set_option maxHeartbeats 400000 in
theorem goesOn_any (b : Nat) (st : St) (c : Nat) (w : World) (hst : Small st) (hm : st.m = 1 ∨ st.m = 2) (hw : Wk w b st) :
    Calls Try.prog 29 #[.pointer (some ⟨b, 2, none⟩), .int .u8 c] w (Did b w (goesOn st c)) := by
  have HW : Hid (Wk w b st) := hw
  have HS : Hid (Small st) := hst
  obtain ⟨m, o, a, l⟩ := st
  obtain ⟨c0, c1, c2, c3, f0, f1, f2, f3⟩ := hw
  obtain ⟨s1, s2, s3, s4⟩ := hst
  simp only at c0 c1 c2 c3 s1 s2 s3 s4 hm
  rcases hm with rfl | rfl
  · by_cases hq : inB quants c = true
    · go_enter Try.func29, Try.ntmps29
      go_wp2_with (go_at_call 58; refine (in_any quants c _ (by decide)).mono ?_; rintro e w' ⟨rfl, rfl⟩)
      go_ret
      go_light
      exact .yes ((OnlyW.refl _ _).setCell _ _) _ (by unfold goesOn; rw [if_pos ⟨rfl, hq⟩]) (HW.out.set0 2 rfl)
    · have hq' : inB quants c = false := by simpa using hq
      clear hq
      rcases bool_or ((c : Int) == 41) with h41 | h41
      all_goals go_enter Try.func29, Try.ntmps29
      all_goals go_wp2_with (first | (go_at_call 58; refine (in_any quants c _ (by decide)).mono ?_; rintro e w' ⟨rfl, rfl⟩) | (go_at_call 28; refine (begins_any b _ c _ HS.out HW.out).mono ?_; rintro e w' ⟨q, rfl, hd⟩))
      all_goals go_ret
      all_goals go_light
      all_goals simp only [beq_iff_eq, beq_eq_false_iff_ne, ne_eq] at *
      · exact .yes (((OnlyW.refl _ _).setCell _ _).setCell _ _) _ (by unfold goesOn; simp only [hq']; (repeat' split) <;> first | rfl | omega | (simp_all; done) | (exfalso; simp_all; omega)) ((HW.out.set1 (o - 1) (by omega)).set0 1 rfl)
      · exact ⟨q, rfl, by rw [show goesOn ⟨1, o, a, l⟩ c = begins ⟨1, o, a, l⟩ c from (by unfold goesOn; simp only [hq']; (repeat' split) <;> first | rfl | omega | (simp_all; done) | (exfalso; simp_all; omega))]; exact hd⟩
      · exact .yes (((OnlyW.refl _ _).setCell _ _).setCell _ _) _ (by unfold goesOn; simp only [hq']; (repeat' split) <;> first | rfl | omega | (simp_all; done) | (exfalso; simp_all; omega)) ((HW.out.set0 11 rfl).set3 0 rfl)
      · exact .yes ((OnlyW.refl _ _).setCell _ _) _ (by unfold goesOn; simp only [hq']; (repeat' split) <;> first | rfl | omega | (simp_all; done) | (exfalso; simp_all; omega)) (HW.out.set0 0 rfl)
      · exact ⟨q, rfl, by rw [show goesOn ⟨1, o, a, l⟩ c = begins ⟨1, o, a, l⟩ c from (by unfold goesOn; simp only [hq']; (repeat' split) <;> first | rfl | omega | (simp_all; done) | (exfalso; simp_all; omega))]; exact hd⟩
  · rcases bool_or ((c : Int) == 41) with h41 | h41
    all_goals go_enter Try.func29, Try.ntmps29
    all_goals go_wp2_with (first | (go_at_call 58; refine (in_any quants c _ (by decide)).mono ?_; rintro e w' ⟨rfl, rfl⟩) | (go_at_call 28; refine (begins_any b _ c _ HS.out HW.out).mono ?_; rintro e w' ⟨q, rfl, hd⟩))
    all_goals go_ret
    all_goals go_light
    all_goals simp only [beq_iff_eq, beq_eq_false_iff_ne, ne_eq] at *
    · exact .yes (((OnlyW.refl _ _).setCell _ _).setCell _ _) _ (by unfold goesOn; simp only; (repeat' split) <;> first | rfl | omega | (simp_all; done) | (exfalso; simp_all; omega)) ((HW.out.set1 (o - 1) (by omega)).set0 1 rfl)
    · exact ⟨q, rfl, by rw [show goesOn ⟨2, o, a, l⟩ c = begins ⟨2, o, a, l⟩ c from (by unfold goesOn; simp only; (repeat' split) <;> first | rfl | omega | (simp_all; done) | (exfalso; simp_all; omega))]; exact hd⟩
    · exact .yes ((OnlyW.refl _ _).setCell _ _) _ (by unfold goesOn; simp only; (repeat' split) <;> first | rfl | omega | (simp_all; done) | (exfalso; simp_all; omega)) (HW.out.set0 0 rfl)
    · exact ⟨q, rfl, by rw [show goesOn ⟨2, o, a, l⟩ c = begins ⟨2, o, a, l⟩ c from (by unfold goesOn; simp only; (repeat' split) <;> first | rfl | omega | (simp_all; done) | (exfalso; simp_all; omega))]; exact hd⟩

set_option maxHeartbeats 400000 in
theorem braced_any (b : Nat) (st : St) (c : Nat) (w : World) (hc : c < 256) (hst : Small st) (hm : 11 ≤ st.m) (hw : Wk w b st) :
    Calls Try.prog 31 #[.pointer (some ⟨b, 2, none⟩), .int .u8 c] w (Did b w (braced st c)) := by
  have HW : Hid (Wk w b st) := hw
  obtain ⟨m, o, a, l⟩ := st
  obtain ⟨c0, c1, c2, c3, f0, f1, f2, f3⟩ := hw
  obtain ⟨s1, s2, s3, s4⟩ := hst
  simp only at c0 c1 c2 c3 s1 s2 s3 s4 hm
  obtain rfl | rfl | rfl | rfl : m = 11 ∨ m = 12 ∨ m = 13 ∨ m = 14 := by omega
  · by_cases h1 : 48 ≤ c
    · by_cases h2 : c ≤ 57
      · go_enter Try.func31, Try.ntmps31
        go_wp2
        all_goals (go_ret; go_light; simp only [beq_iff_eq, beq_eq_false_iff_ne, ne_eq] at *)
        · exact .no (.refl _ _) (by unfold braced; simp only; (repeat' split) <;> first | rfl | omega | (simp_all; done) | (exfalso; simp_all; omega))
        · exact .yes (((OnlyW.refl _ _).setCell _ _).setCell _ _) _ (by unfold braced; simp only; (repeat' split) <;> first | rfl | omega | (simp_all; done) | (exfalso; simp_all; omega)) ((HW.out.set3 (c - 48) (by omega)).set0 12 rfl)
      · go_enter Try.func31, Try.ntmps31
        go_wp2
        all_goals (go_ret; go_light; simp only [beq_iff_eq, beq_eq_false_iff_ne, ne_eq] at *)
        exact .no (.refl _ _) (by unfold braced; simp only; (repeat' split) <;> first | rfl | omega | (simp_all; done) | (exfalso; simp_all; omega))
    · go_enter Try.func31, Try.ntmps31
      go_wp2
      all_goals (go_ret; go_light; simp only [beq_iff_eq, beq_eq_false_iff_ne, ne_eq] at *)
      exact .no (.refl _ _) (by unfold braced; simp only; (repeat' split) <;> first | rfl | omega | (simp_all; done) | (exfalso; simp_all; omega))
  · go_enter Try.func31, Try.ntmps31
    go_wp2
    all_goals (go_ret; go_light; simp only [beq_iff_eq, beq_eq_false_iff_ne, ne_eq] at *)
    · exact .yes ((OnlyW.refl _ _).setCell _ _) _ (by unfold braced; simp only; (repeat' split) <;> first | rfl | omega | (simp_all; done) | (exfalso; simp_all; omega)) (HW.out.set0 2 rfl)
    · exact .yes ((OnlyW.refl _ _).setCell _ _) _ (by unfold braced; simp only; (repeat' split) <;> first | rfl | omega | (simp_all; done) | (exfalso; simp_all; omega)) (HW.out.set0 13 rfl)
    · exact .no ((OnlyW.refl _ _).setCell _ _) (by unfold braced; simp only; (repeat' split) <;> first | rfl | omega | (simp_all; done) | (exfalso; simp_all; omega))
  · by_cases h1 : 48 ≤ c
    · by_cases h2 : c ≤ 57
      · go_enter Try.func31, Try.ntmps31
        go_wp2
        all_goals (go_ret; go_light; simp only [beq_iff_eq, beq_eq_false_iff_ne, ne_eq] at *)
        · exact .no (.refl _ _) (by unfold braced; simp only; (repeat' split) <;> first | rfl | omega | (simp_all; done) | (exfalso; simp_all; omega))
        · exact .yes (((OnlyW.refl _ _).setCell _ _).setCell _ _) _ (by unfold braced; simp only; (repeat' split) <;> first | rfl | omega | (simp_all; done) | (exfalso; simp_all; omega)) ((HW.out.set3 (c - 48) (by omega)).set0 14 rfl)
      · go_enter Try.func31, Try.ntmps31
        go_wp2
        all_goals (go_ret; go_light; simp only [beq_iff_eq, beq_eq_false_iff_ne, ne_eq] at *)
        exact .no (.refl _ _) (by unfold braced; simp only; (repeat' split) <;> first | rfl | omega | (simp_all; done) | (exfalso; simp_all; omega))
    · go_enter Try.func31, Try.ntmps31
      go_wp2
      all_goals (go_ret; go_light; simp only [beq_iff_eq, beq_eq_false_iff_ne, ne_eq] at *)
      exact .no (.refl _ _) (by unfold braced; simp only; (repeat' split) <;> first | rfl | omega | (simp_all; done) | (exfalso; simp_all; omega))
  · go_enter Try.func31, Try.ntmps31
    go_wp2
    all_goals (go_ret; go_light; simp only [beq_iff_eq, beq_eq_false_iff_ne, ne_eq] at *)
    · exact .yes ((OnlyW.refl _ _).setCell _ _) _ (by unfold braced; simp only; (repeat' split) <;> first | rfl | omega | (simp_all; done) | (exfalso; simp_all; omega)) (HW.out.set0 2 rfl)
    all_goals exact .no ((OnlyW.refl _ _).setCell _ _) (by unfold braced; simp only; (repeat' split) <;> first | rfl | omega | (simp_all; done) | (exfalso; simp_all; omega))

theorem whole_any (b : Nat) (st : St) (w : World) (hw : Wk w b st) :
    Calls Try.prog 19 #[.pointer (some ⟨b, 2, none⟩)] w fun e w' => e = .returned (.bool (whole st)) ∧ w' = w := by
  obtain ⟨m, o, a, l⟩ := st
  obtain ⟨c0, c1, c2, c3, f0, f1, f2, f3⟩ := hw
  simp only at c0 c1 c2 c3
  by_cases h0 : o = 0
  · subst h0
    by_cases h1 : m = 1
    · subst h1
      go_enter Try.func19, Try.ntmps19
      go_wp2
      go_ret
      exact ⟨ret_bool (by simp [whole]), rfl⟩
    · have h1' : ((m : Int) == 1) = false := by simp; omega
      go_enter Try.func19, Try.ntmps19
      go_wp2
      go_ret
      exact ⟨ret_bool (by rw [Bool.eq_iff_iff]; simp [whole, h1]; try omega), rfl⟩
  · have h0' : ((o : Int) == 0) = false := by simp; omega
    go_enter Try.func19, Try.ntmps19
    go_wp2
    go_ret
    exact ⟨ret_bool (by simp [whole, h0]), rfl⟩

set_option maxHeartbeats 1000000 in
theorem setEsc_any (b : Nat) (st : St) (c : Nat) (w : World) (hc : c < 256) (hst : Small st) (hm : st.m = 9 ∨ st.m = 10) (hw : Wk w b st) :
    Calls Try.prog 32 #[.pointer (some ⟨b, 2, none⟩), .int .u8 c] w (Did b w (inSet st c)) := by
  have HW : Hid (Wk w b st) := hw
  have HS : Hid (Small st) := hst
  obtain ⟨m, o, a, l⟩ := st
  obtain ⟨c0, c1, c2, c3, f0, f1, f2, f3⟩ := hw
  obtain ⟨s1, s2, s3, s4⟩ := hst
  simp only at c0 c1 c2 c3 s1 s2 s3 s4 hm
  rcases bool_or (inB escs c) with hq | hq
  all_goals rcases hm with rfl | rfl
  all_goals go_enter Try.func32, Try.ntmps32
  all_goals go_wp2_with (first | (go_at_call 30; refine (escapes_any c _).mono ?_; rintro e w' ⟨rfl, rfl⟩) | (go_at_call 59; refine (value_any c _ hc).mono ?_; rintro e w' ⟨rfl, rfl⟩))
  all_goals (go_ret; go_light; try simp only [beq_iff_eq, beq_eq_false_iff_ne, ne_eq] at *)
  · exact .yes (((OnlyW.refl _ _).setCell _ _).setCell _ _) _ (by simp only [inSet9, inSet10, hq]; simp; try omega) ((HW.out.set0 6 rfl).set3 (val c) rfl)
  · exact .no (.refl _ _) (by simp only [inSet9, inSet10, hq]; simp; try omega)
  · exact .yes ((((OnlyW.refl _ _).setCell _ _).setCell _ _).setCell _ _) _ (by simp only [inSet9, inSet10, hq]; simp; try omega) (((HW.out.set0 6 rfl).set0 7 rfl).set3 (val c) rfl)
  · exact .no (.refl _ _) (by simp only [inSet9, inSet10, hq]; simp; try omega)
  · exact .no (.refl _ _) (by simp only [inSet9, inSet10, hq]; simp; try omega)

set_option maxHeartbeats 1000000 in
theorem setPlain_any (b : Nat) (st : St) (c : Nat) (w : World) (hc : c < 256) (hst : Small st) (hm : st.m = 4 ∨ st.m = 5 ∨ st.m = 6 ∨ st.m = 7 ∨ st.m = 8) (hw : Wk w b st) :
    Calls Try.prog 32 #[.pointer (some ⟨b, 2, none⟩), .int .u8 c] w (Did b w (inSet st c)) := by
  have HW : Hid (Wk w b st) := hw
  have HS : Hid (Small st) := hst
  obtain ⟨m, o, a, l⟩ := st
  obtain ⟨c0, c1, c2, c3, f0, f1, f2, f3⟩ := hw
  obtain ⟨s1, s2, s3, s4⟩ := hst
  simp only at c0 c1 c2 c3 s1 s2 s3 s4 hm
  rcases bool_or ((c : Int) == 10) with hq | hq
  all_goals rcases hm with rfl | rfl | rfl | rfl | rfl
  all_goals go_enter Try.func32, Try.ntmps32
  all_goals go_wp2_with fail
  all_goals (go_ret; go_light; try simp only [beq_iff_eq, beq_eq_false_iff_ne, ne_eq] at *)
  · exact .no (.refl _ _) (by rw [inSet4]; (repeat' split) <;> first | rfl | omega)
  · exact .no (.refl _ _) (by rw [inSet5]; (repeat' split) <;> first | rfl | omega)
  · exact .no (.refl _ _) (by rw [inSet6]; (repeat' split) <;> first | rfl | omega)
  · exact .no (.refl _ _) (by rw [inSet7]; (repeat' split) <;> first | rfl | omega)
  · exact .no (.refl _ _) (by rw [inSet8]; (repeat' split) <;> first | rfl | omega)
  · exact .yes ((OnlyW.refl _ _).setCell _ _) _ (by rw [inSet4]; (repeat' split) <;> first | rfl | omega) (HW.out.set0 5 rfl)
  · exact .no ((OnlyW.refl _ _).setCell _ _) (by rw [inSet4]; (repeat' split) <;> first | rfl | omega)
  · exact .no ((OnlyW.refl _ _).setCell _ _) (by rw [inSet4]; (repeat' split) <;> first | rfl | omega)
  · exact .yes ((OnlyW.refl _ _).setCell _ _) _ (by rw [inSet4]; (repeat' split) <;> first | rfl | omega) (HW.out.set0 9 rfl)
  · exact .yes (((OnlyW.refl _ _).setCell _ _).setCell _ _) _ (by rw [inSet4]; (repeat' split) <;> first | rfl | omega) ((HW.out.set0 6 rfl).set3 c rfl)
  · exact .no ((OnlyW.refl _ _).setCell _ _) (by rw [inSet5]; (repeat' split) <;> first | rfl | omega)
  · exact .no ((OnlyW.refl _ _).setCell _ _) (by rw [inSet5]; (repeat' split) <;> first | rfl | omega)
  · exact .yes ((OnlyW.refl _ _).setCell _ _) _ (by rw [inSet5]; (repeat' split) <;> first | rfl | omega) (HW.out.set0 9 rfl)
  · exact .yes (((OnlyW.refl _ _).setCell _ _).setCell _ _) _ (by rw [inSet5]; (repeat' split) <;> first | rfl | omega) ((HW.out.set0 6 rfl).set3 c rfl)
  · exact .yes ((OnlyW.refl _ _).setCell _ _) _ (by rw [inSet6]; (repeat' split) <;> first | rfl | omega) (HW.out.set0 1 rfl)
  · exact .yes ((OnlyW.refl _ _).setCell _ _) _ (by rw [inSet6]; (repeat' split) <;> first | rfl | omega) (HW.out.set0 8 rfl)
  · exact .yes ((OnlyW.refl _ _).setCell _ _) _ (by rw [inSet6]; (repeat' split) <;> first | rfl | omega) (HW.out.set0 9 rfl)
  · exact .yes (((OnlyW.refl _ _).setCell _ _).setCell _ _) _ (by rw [inSet6]; (repeat' split) <;> first | rfl | omega) ((HW.out.set0 6 rfl).set3 c rfl)
  · exact .yes ((OnlyW.refl _ _).setCell _ _) _ (by rw [inSet7]; (repeat' split) <;> first | rfl | omega) (HW.out.set0 1 rfl)
  · exact .no ((OnlyW.refl _ _).setCell _ _) (by rw [inSet7]; (repeat' split) <;> first | rfl | omega)
  · exact .yes ((OnlyW.refl _ _).setCell _ _) _ (by rw [inSet7]; (repeat' split) <;> first | rfl | omega) (HW.out.set0 9 rfl)
  · exact .yes (((OnlyW.refl _ _).setCell _ _).setCell _ _) _ (by rw [inSet7]; (repeat' split) <;> first | rfl | omega) ((HW.out.set0 6 rfl).set3 c rfl)
  · exact .no ((OnlyW.refl _ _).setCell _ _) (by rw [inSet8]; (repeat' split) <;> first | rfl | omega)
  · exact .no ((OnlyW.refl _ _).setCell _ _) (by rw [inSet8]; (repeat' split) <;> first | rfl | omega)
  · exact .of (q := decide ((l : Int) ≤ 125)) (((OnlyW.refl _ _).setCell _ _).setCell _ _) ⟨10, o, a, l⟩ (by rw [inSet8]; simp only [decide_eq_true_eq]; (repeat' split) <;> first | rfl | omega) ((HW.out.set0 9 rfl).set0 10 rfl)
  · exact .no (.refl _ _) (by rw [inSet8]; (repeat' split) <;> first | rfl | omega)
  · exact .yes ((((OnlyW.refl _ _).setCell _ _).setCell _ _).setCell _ _) _ (by rw [inSet8]; (repeat' split) <;> first | rfl | omega) (((HW.out.set0 6 rfl).set0 7 rfl).set3 c rfl)

theorem step_any (b : Nat) (st : St) (c : Nat) (w : World) (hc : c < 256) (hst : Small st) (hw : Wk w b st) :
    Calls Try.prog 18 #[.pointer (some ⟨b, 2, none⟩), .int .u8 c] w (Did b w (step st c)) := by
  have HW : Hid (Wk w b st) := hw
  have HS : Hid (Small st) := hst
  obtain ⟨m, o, a, l⟩ := st
  obtain ⟨c0, c1, c2, c3, f0, f1, f2, f3⟩ := hw
  obtain ⟨s1, s2, s3, s4⟩ := hst
  simp only at c0 c1 c2 c3 s1 s2 s3 s4
  by_cases h0 : m = 0
  · subst h0
    go_enter Try.func18, Try.ntmps18
    go_wp2_with (go_at_call 28; refine (begins_any b _ c _ HS.out HW.out).mono ?_; rintro e w' ⟨q, rfl, hd⟩)
    go_ret
    exact ⟨q, rfl, hd⟩
  · by_cases h1 : m = 1
    · subst h1
      go_enter Try.func18, Try.ntmps18
      go_wp2_with (go_at_call 29; refine (goesOn_any b _ c _ HS.out (.inl rfl) HW.out).mono ?_; rintro e w' ⟨q, rfl, hd⟩)
      go_ret
      exact ⟨q, rfl, hd⟩
    · by_cases h2 : m = 2
      · subst h2
        go_enter Try.func18, Try.ntmps18
        go_wp2_with (go_at_call 29; refine (goesOn_any b _ c _ HS.out (.inr rfl) HW.out).mono ?_; rintro e w' ⟨q, rfl, hd⟩)
        go_ret
        exact ⟨q, rfl, hd⟩
      · by_cases h3 : m = 3
        · subst h3
          go_enter Try.func18, Try.ntmps18
          go_wp2_with (go_at_call 30; refine (escapes_any c _).mono ?_; rintro e w' ⟨rfl, rfl⟩)
          go_ret
          exact .of (q := inB escs c) ((OnlyW.refl _ _).setCell _ _) ⟨1, o, a, l⟩ rfl (HW.out.set0 1 rfl)
        · obtain h4 | h4 | h4 : 11 ≤ m ∨ (m = 9 ∨ m = 10) ∨ (m = 4 ∨ m = 5 ∨ m = 6 ∨ m = 7 ∨ m = 8) := by omega
          · have hz : step ⟨m, o, a, l⟩ c = braced ⟨m, o, a, l⟩ c := by
              unfold step
              simp only
              rw [if_neg h0, if_neg (by omega), if_neg h3, if_pos h4]
            have HM : Hid (11 ≤ m) := h4
            rw [hz]
            clear hz
            obtain rfl | rfl | rfl | rfl : m = 11 ∨ m = 12 ∨ m = 13 ∨ m = 14 := by omega
            all_goals
              go_enter Try.func18, Try.ntmps18
              go_wp2_with (go_at_call 31; refine (braced_any b _ c _ hc HS.out HM.out HW.out).mono ?_; rintro e w' ⟨q, rfl, hd⟩)
              go_ret
              exact ⟨q, rfl, hd⟩
          · have hz : step ⟨m, o, a, l⟩ c = inSet ⟨m, o, a, l⟩ c := by
              unfold step
              simp only
              rw [if_neg h0, if_neg (by omega), if_neg h3, if_neg (by omega)]
            have HM : Hid (m = 9 ∨ m = 10) := h4
            rw [hz]
            clear hz
            obtain rfl | rfl := h4
            all_goals
              go_enter Try.func18, Try.ntmps18
              go_wp2_with (go_at_call 32; refine (setEsc_any b _ c _ hc HS.out HM.out HW.out).mono ?_; rintro e w' ⟨q, rfl, hd⟩)
              go_ret
              exact ⟨q, rfl, hd⟩
          · have hz : step ⟨m, o, a, l⟩ c = inSet ⟨m, o, a, l⟩ c := by
              unfold step
              simp only
              rw [if_neg h0, if_neg (by omega), if_neg h3, if_neg (by omega)]
            have HM : Hid (m = 4 ∨ m = 5 ∨ m = 6 ∨ m = 7 ∨ m = 8) := h4
            rw [hz]
            clear hz
            obtain rfl | rfl | rfl | rfl | rfl := h4
            all_goals
              go_enter Try.func18, Try.ntmps18
              go_wp2_with (go_at_call 32; refine (setPlain_any b _ c _ hc HS.out HM.out HW.out).mono ?_; rintro e w' ⟨q, rfl, hd⟩)
              go_ret
              exact ⟨q, rfl, hd⟩
end W2
end Go.Proofs.Ytppjlpihaocdiaa
