/- What the document's own walk over a pattern (package lineworkref) does in memory, function by function. -/
import Derived.Test.YtppjlpihaocdiaaProg
import Derived.Test.YtppjlpihaocdiaaSSpecK
import Derived.WalkKit
import Derived.WalkSpells
import Derived.Deep.QuietTactic
import Derived.BigQuiet
import Derived.Deep.DeepFit
import Derived.Deep.Light
set_option linter.unusedSimpArgs false
set_option linter.unusedVariables false
namespace Go.Proofs.Ytppjlpihaocdiaa
open Go.RowKit

theorem ret_bool {a b : Bool} (h : a = b) : Ending.returned (.bool a) = .returned (.bool b) := by rw [h]
theorem ret_int {k : IntKind} {a b : Int} (h : a = b) : Ending.returned (.int k a) = .returned (.int k b) := by rw [h]

theorem take_snoc (s : ByteArray) (k : Nat) (h : k < s.size) : s.data.toList.take (k + 1) = s.data.toList.take k ++ [s[k]] := by
  rw [List.take_succ_eq_append_getElem (by simpa using h)]; rfl

theorem any_snoc (s : ByteArray) (k c : Nat) (h : k < s.size) (h0 : (s.data.toList.take k).any (fun x => x.toNat == c) = false) (h1 : ((s[k].toNat : Int) == (c : Int)) = false) :
    (s.data.toList.take (k + 1)).any (fun x => x.toNat == c) = false := by
  rw [take_snoc s k h, List.any_append, h0]
  simp at h1 ⊢; omega

theorem any_here (s : ByteArray) (k c : Nat) (h : k < s.size) (h1 : ((s[k].toNat : Int) == (c : Int)) = true) : inB s c = true := by
  unfold inB
  rw [List.any_eq_true]
  exact ⟨s[k], List.getElem_mem (l := s.data.toList) (n := k) (by simpa using h), by simp at h1 ⊢; omega⟩

theorem any_all (s : ByteArray) (k c : Nat) (h : ¬ k < s.size) (h0 : (s.data.toList.take k).any (fun x => x.toNat == c) = false) : inB s c = false := by
  rw [List.take_of_length_le (by simp; omega)] at h0; exact h0

set_option maxHeartbeats 400000 in
theorem in_any (t : ByteArray) (c : Nat) (w : World) (ht : t.size ≤ 40) :
    Calls Try.prog 58 #[.string t, .int .u8 c] w fun e w' => e = .returned (.bool (inB t c)) ∧ w' = w := by
  go_enter Try.func58, Try.ntmps58
  go_wp2
  go_loop [5] (fun i => ∃ k : Nat, k ≤ t.size ∧ i = .int .i64 k ∧ Hid ((t.data.toList.take k).any (fun x => x.toNat == c) = false)) (fun i => t.size - (intOf i).toNat)
  case atStart => exact ⟨0, Nat.zero_le _, rfl, by simp [Hid]⟩
  case round =>
    obtain ⟨k, hk, rfl, HD⟩ := hrel
    by_cases hlt : k < t.size
    · by_cases he : ((t[k].toNat : Int) == (c : Int)) = true
      · go_wp2
        go_ret
        exact ⟨ret_bool (any_here t k c hlt he).symm, rfl⟩
      · have he' : ((t[k].toNat : Int) == (c : Int)) = false := by simpa using he
        clear he
        go_wp2
        go_round
        case rel => exact ⟨k + 1, by omega, by go_num, any_snoc t k c hlt HD.out he'⟩
        case measure => simp [intOf]; omega
    · go_wp2
      go_ret
      exact ⟨ret_bool (any_all t k c hlt HD.out).symm, rfl⟩

theorem value_any (c : Nat) (w : World) (hc : c < 256) : Calls Try.prog 59 #[.int .u8 c] w fun e w' => e = .returned (.int .i64 (val c : Nat)) ∧ w' = w := by
  by_cases h : c = 110
  · subst h
    go_enter Try.func59, Try.ntmps59
    go_wp2
    go_ret
    exact ⟨ret_int (by simp [val]), rfl⟩
  · have h' : ((c : Int) == 110) = false := by simp; omega
    go_enter Try.func59, Try.ntmps59
    go_wp2
    go_ret
    exact ⟨ret_int (by simp [val, h]), rfl⟩

theorem escapes_any (c : Nat) (w : World) : Calls Try.prog 30 #[.int .u8 c] w fun e w' => e = .returned (.bool (inB escs c)) ∧ w' = w := by
  go_enter Try.func30, Try.ntmps30
  go_wp2_with (go_at_call 58; refine (in_any escs c _ (by decide)).mono ?_; rintro e w' ⟨rfl, rfl⟩)
  go_ret
  exact ⟨rfl, rfl⟩

/-- Only block b may have turned; no block has gone. -/
structure Only (b : Nat) (w w' : World) : Prop where
  os : w'.os = w.os
  tape : w'.tape = w.tape
  output : w'.output = w.output
  size : w'.heap.size = w.heap.size
  block : ∀ k, k ≠ b → w'.heap[k]? = w.heap[k]?

theorem Only.refl (b : Nat) (w : World) : Only b w w := ⟨rfl, rfl, rfl, rfl, fun _ _ => rfl⟩
theorem Only.trans {b : Nat} {u v w : World} (h : Only b u v) (k : Only b v w) : Only b u w :=
  ⟨k.os.trans h.os, k.tape.trans h.tape, k.output.trans h.output, k.size.trans h.size, fun i hi => (k.block i hi).trans (h.block i hi)⟩
theorem Only.setCell {b : Nat} {u w : World} (h : Only b u w) (o : Nat) (v : Value) : Only b u (w.setCell ⟨b, o, none⟩ v) :=
  h.trans ⟨rfl, rfl, rfl, by simp [World.setCell], fun k hk => Below.heap_setCell _ _ _ _ hk⟩

/-- A walk lies at block b. -/
structure Wk (w : World) (b : Nat) (st : St) : Prop where
  c0 : w.cell? ⟨b, 0, none⟩ = some (.int .i64 st.m)
  c1 : w.cell? ⟨b, 1, none⟩ = some (.int .i64 st.o)
  c2 : w.cell? ⟨b, 2, none⟩ = some (.int .i64 st.a)
  c3 : w.cell? ⟨b, 3, none⟩ = some (.int .i64 st.l)
  f0 : w.frozen? ⟨b, 0, none⟩ = false
  f1 : w.frozen? ⟨b, 1, none⟩ = false
  f2 : w.frozen? ⟨b, 2, none⟩ = false
  f3 : w.frozen? ⟨b, 3, none⟩ = false

theorem Wk.set0 {w : World} {b m o a l : Nat} (h : Wk w b ⟨m, o, a, l⟩) {v : Int} (n : Nat) (hv : v = n) : Wk (w.setCell ⟨b, 0, none⟩ (.int .i64 v)) b ⟨n, o, a, l⟩ := by
  obtain ⟨c0, c1, c2, c3, f0, f1, f2, f3⟩ := h
  subst hv
  simp only at c0 c1 c2 c3
  constructor <;> go_simp
theorem Wk.set1 {w : World} {b m o a l : Nat} (h : Wk w b ⟨m, o, a, l⟩) {v : Int} (n : Nat) (hv : v = n) : Wk (w.setCell ⟨b, 1, none⟩ (.int .i64 v)) b ⟨m, n, a, l⟩ := by
  obtain ⟨c0, c1, c2, c3, f0, f1, f2, f3⟩ := h
  subst hv
  simp only at c0 c1 c2 c3
  constructor <;> go_simp
theorem Wk.set2 {w : World} {b m o a l : Nat} (h : Wk w b ⟨m, o, a, l⟩) {v : Int} (n : Nat) (hv : v = n) : Wk (w.setCell ⟨b, 2, none⟩ (.int .i64 v)) b ⟨m, o, n, l⟩ := by
  obtain ⟨c0, c1, c2, c3, f0, f1, f2, f3⟩ := h
  subst hv
  simp only at c0 c1 c2 c3
  constructor <;> go_simp
theorem Wk.set3 {w : World} {b m o a l : Nat} (h : Wk w b ⟨m, o, a, l⟩) {v : Int} (n : Nat) (hv : v = n) : Wk (w.setCell ⟨b, 3, none⟩ (.int .i64 v)) b ⟨m, o, a, n⟩ := by
  obtain ⟨c0, c1, c2, c3, f0, f1, f2, f3⟩ := h
  subst hv
  simp only at c0 c1 c2 c3
  constructor <;> go_simp

/-- What a step of the walk leaves. -/
def Did (b : Nat) (w : World) (r : Option St) (e : Ending) (w' : World) : Prop :=
  ∃ q, e = .returned (.bool q) ∧ Only b w w' ∧ ((∃ st', r = some st' ∧ q = true ∧ Wk w' b st') ∨ (r = none ∧ q = false))

theorem Did.yes {b : Nat} {w : World} {r : Option St} {w' : World} (h : Only b w w') (st' : St) (hr : r = some st') (hw : Wk w' b st') : Did b w r (.returned (.bool true)) w' := ⟨_, rfl, h, .inl ⟨st', hr, rfl, hw⟩⟩
theorem Did.no {b : Nat} {w : World} {r : Option St} {w' : World} (h : Only b w w') (hr : r = none) : Did b w r (.returned (.bool false)) w' := ⟨_, rfl, h, .inr ⟨hr, rfl⟩⟩
theorem Did.of {b : Nat} {w : World} {r : Option St} {w' : World} {q : Bool} (h : Only b w w') (st' : St) (hr : r = if q = true then some st' else none) (hw : Wk w' b st') : Did b w r (.returned (.bool q)) w' := by
  cases q
  · exact .no h (by simpa using hr)
  · exact .yes h st' (by simpa using hr) hw

set_option maxHeartbeats 400000 in
theorem begins_any (b : Nat) (st : St) (c : Nat) (w : World) (hst : Small st) (hw : Wk w b st) :
    Calls Try.prog 28 #[.pointer (some ⟨b, 0, none⟩), .int .u8 c] w (Did b w (begins st c)) := by
  have HW : Hid (Wk w b st) := hw
  obtain ⟨m, o, a, l⟩ := st
  obtain ⟨c0, c1, c2, c3, f0, f1, f2, f3⟩ := hw
  obtain ⟨s1, s2, s3, s4⟩ := hst
  simp only at c0 c1 c2 c3 s1 s2 s3 s4
  go_enter Try.func28, Try.ntmps28
  go_wp2_with (go_at_call 58; refine (in_any noStart c _ (by decide)).mono ?_; rintro e w' ⟨rfl, rfl⟩)
  all_goals go_ret
  all_goals go_light
  all_goals simp only [beq_iff_eq, beq_eq_false_iff_ne, ne_eq] at *
  · exact .no (.refl _ _) (by unfold begins; simp only; (repeat' split) <;> first | rfl | omega)
  · exact .no (.refl _ _) (by unfold begins; simp only; (repeat' split) <;> first | rfl | omega)
  · exact .yes (((Only.refl _ _).setCell _ _).setCell _ _ |>.setCell _ _) _ (by unfold begins; simp only; (repeat' split) <;> first | rfl | omega) (((HW.out.set1 (o + 1) (by omega)).set2 (a + 1) (by omega)).set0 0 rfl)
  · exact .yes ((Only.refl _ _).setCell _ _) _ (by unfold begins; simp only; (repeat' split) <;> first | rfl | omega) (HW.out.set0 4 rfl)
  · exact .yes ((Only.refl _ _).setCell _ _) _ (by unfold begins; simp only; (repeat' split) <;> first | rfl | omega) (HW.out.set0 3 rfl)
  · exact .of (q := !inB noStart c) ((Only.refl _ _).setCell _ _) ⟨1, o, a, l⟩ (by unfold begins; rw [if_neg (by omega : ¬ c = 40), if_neg (by omega : ¬ c = 91), if_neg (by omega : ¬ c = 92)]; cases inB noStart c <;> rfl) (HW.out.set0 1 rfl)

theorem bool_or (q : Bool) : q = true ∨ q = false := by cases q <;> simp

set_option maxHeartbeats 400000 in
theorem goesOn_any (b : Nat) (st : St) (c : Nat) (w : World) (hst : Small st) (hm : st.m = 1 ∨ st.m = 2) (hw : Wk w b st) :
    Calls Try.prog 29 #[.pointer (some ⟨b, 0, none⟩), .int .u8 c] w (Did b w (goesOn st c)) := by
  have HW : Hid (Wk w b st) := hw
  have HS : Hid (Small st) := hst
  obtain ⟨m, o, a, l⟩ := st
  obtain ⟨c0, c1, c2, c3, f0, f1, f2, f3⟩ := hw
  obtain ⟨s1, s2, s3, s4⟩ := hst
  simp only at c0 c1 c2 c3 s1 s2 s3 s4 hm
  rcases hm with rfl | rfl
  · by_cases hq : inB quants c = true
    · go_enter Try.func29, Try.ntmps29
      go_wp2_with (go_at_call 58; refine (in_any quants c _ (by decide)).mono ?_; rintro e w' ⟨rfl, rfl⟩)
      go_ret
      go_light
      exact .yes ((Only.refl _ _).setCell _ _) _ (by unfold goesOn; rw [if_pos ⟨rfl, hq⟩]) (HW.out.set0 2 rfl)
    · have hq' : inB quants c = false := by simpa using hq
      clear hq
      rcases bool_or ((c : Int) == 41) with h41 | h41
      all_goals go_enter Try.func29, Try.ntmps29
      all_goals go_wp2_with (first | (go_at_call 58; refine (in_any quants c _ (by decide)).mono ?_; rintro e w' ⟨rfl, rfl⟩) | (go_at_call 28; refine (begins_any b _ c _ HS.out HW.out).mono ?_; rintro e w' ⟨q, rfl, hd⟩))
      all_goals go_ret
      all_goals go_light
      all_goals simp only [beq_iff_eq, beq_eq_false_iff_ne, ne_eq] at *
      · exact .yes (((Only.refl _ _).setCell _ _).setCell _ _) _ (by unfold goesOn; simp only [hq']; (repeat' split) <;> first | rfl | omega | (simp_all; done) | (exfalso; simp_all; omega)) ((HW.out.set1 (o - 1) (by omega)).set0 1 rfl)
      · exact ⟨q, rfl, by rw [show goesOn ⟨1, o, a, l⟩ c = begins ⟨1, o, a, l⟩ c from (by unfold goesOn; simp only [hq']; (repeat' split) <;> first | rfl | omega | (simp_all; done) | (exfalso; simp_all; omega))]; exact hd⟩
      · exact .yes (((Only.refl _ _).setCell _ _).setCell _ _) _ (by unfold goesOn; simp only [hq']; (repeat' split) <;> first | rfl | omega | (simp_all; done) | (exfalso; simp_all; omega)) ((HW.out.set0 11 rfl).set3 0 rfl)
      · exact .yes ((Only.refl _ _).setCell _ _) _ (by unfold goesOn; simp only [hq']; (repeat' split) <;> first | rfl | omega | (simp_all; done) | (exfalso; simp_all; omega)) (HW.out.set0 0 rfl)
      · exact ⟨q, rfl, by rw [show goesOn ⟨1, o, a, l⟩ c = begins ⟨1, o, a, l⟩ c from (by unfold goesOn; simp only [hq']; (repeat' split) <;> first | rfl | omega | (simp_all; done) | (exfalso; simp_all; omega))]; exact hd⟩
  · rcases bool_or ((c : Int) == 41) with h41 | h41
    all_goals go_enter Try.func29, Try.ntmps29
    all_goals go_wp2_with (first | (go_at_call 58; refine (in_any quants c _ (by decide)).mono ?_; rintro e w' ⟨rfl, rfl⟩) | (go_at_call 28; refine (begins_any b _ c _ HS.out HW.out).mono ?_; rintro e w' ⟨q, rfl, hd⟩))
    all_goals go_ret
    all_goals go_light
    all_goals simp only [beq_iff_eq, beq_eq_false_iff_ne, ne_eq] at *
    · exact .yes (((Only.refl _ _).setCell _ _).setCell _ _) _ (by unfold goesOn; simp only; (repeat' split) <;> first | rfl | omega | (simp_all; done) | (exfalso; simp_all; omega)) ((HW.out.set1 (o - 1) (by omega)).set0 1 rfl)
    · exact ⟨q, rfl, by rw [show goesOn ⟨2, o, a, l⟩ c = begins ⟨2, o, a, l⟩ c from (by unfold goesOn; simp only; (repeat' split) <;> first | rfl | omega | (simp_all; done) | (exfalso; simp_all; omega))]; exact hd⟩
    · exact .yes ((Only.refl _ _).setCell _ _) _ (by unfold goesOn; simp only; (repeat' split) <;> first | rfl | omega | (simp_all; done) | (exfalso; simp_all; omega)) (HW.out.set0 0 rfl)
    · exact ⟨q, rfl, by rw [show goesOn ⟨2, o, a, l⟩ c = begins ⟨2, o, a, l⟩ c from (by unfold goesOn; simp only; (repeat' split) <;> first | rfl | omega | (simp_all; done) | (exfalso; simp_all; omega))]; exact hd⟩

set_option maxHeartbeats 400000 in
theorem braced_any (b : Nat) (st : St) (c : Nat) (w : World) (hc : c < 256) (hst : Small st) (hm : 11 ≤ st.m) (hw : Wk w b st) :
    Calls Try.prog 31 #[.pointer (some ⟨b, 0, none⟩), .int .u8 c] w (Did b w (braced st c)) := by
  have HW : Hid (Wk w b st) := hw
  obtain ⟨m, o, a, l⟩ := st
  obtain ⟨c0, c1, c2, c3, f0, f1, f2, f3⟩ := hw
  obtain ⟨s1, s2, s3, s4⟩ := hst
  simp only at c0 c1 c2 c3 s1 s2 s3 s4 hm
  obtain rfl | rfl | rfl | rfl : m = 11 ∨ m = 12 ∨ m = 13 ∨ m = 14 := by omega
  · by_cases h1 : 48 ≤ c
    · by_cases h2 : c ≤ 57
      · go_enter Try.func31, Try.ntmps31
        go_wp2
        all_goals (go_ret; go_light; simp only [beq_iff_eq, beq_eq_false_iff_ne, ne_eq] at *)
        · exact .no (.refl _ _) (by unfold braced; simp only; (repeat' split) <;> first | rfl | omega | (simp_all; done) | (exfalso; simp_all; omega))
        · exact .yes (((Only.refl _ _).setCell _ _).setCell _ _) _ (by unfold braced; simp only; (repeat' split) <;> first | rfl | omega | (simp_all; done) | (exfalso; simp_all; omega)) ((HW.out.set3 (c - 48) (by omega)).set0 12 rfl)
      · go_enter Try.func31, Try.ntmps31
        go_wp2
        all_goals (go_ret; go_light; simp only [beq_iff_eq, beq_eq_false_iff_ne, ne_eq] at *)
        exact .no (.refl _ _) (by unfold braced; simp only; (repeat' split) <;> first | rfl | omega | (simp_all; done) | (exfalso; simp_all; omega))
    · go_enter Try.func31, Try.ntmps31
      go_wp2
      all_goals (go_ret; go_light; simp only [beq_iff_eq, beq_eq_false_iff_ne, ne_eq] at *)
      exact .no (.refl _ _) (by unfold braced; simp only; (repeat' split) <;> first | rfl | omega | (simp_all; done) | (exfalso; simp_all; omega))
  · go_enter Try.func31, Try.ntmps31
    go_wp2
    all_goals (go_ret; go_light; simp only [beq_iff_eq, beq_eq_false_iff_ne, ne_eq] at *)
    · exact .yes ((Only.refl _ _).setCell _ _) _ (by unfold braced; simp only; (repeat' split) <;> first | rfl | omega | (simp_all; done) | (exfalso; simp_all; omega)) (HW.out.set0 2 rfl)
    · exact .yes ((Only.refl _ _).setCell _ _) _ (by unfold braced; simp only; (repeat' split) <;> first | rfl | omega | (simp_all; done) | (exfalso; simp_all; omega)) (HW.out.set0 13 rfl)
    · exact .no ((Only.refl _ _).setCell _ _) (by unfold braced; simp only; (repeat' split) <;> first | rfl | omega | (simp_all; done) | (exfalso; simp_all; omega))
  · by_cases h1 : 48 ≤ c
    · by_cases h2 : c ≤ 57
      · go_enter Try.func31, Try.ntmps31
        go_wp2
        all_goals (go_ret; go_light; simp only [beq_iff_eq, beq_eq_false_iff_ne, ne_eq] at *)
        · exact .no (.refl _ _) (by unfold braced; simp only; (repeat' split) <;> first | rfl | omega | (simp_all; done) | (exfalso; simp_all; omega))
        · exact .yes (((Only.refl _ _).setCell _ _).setCell _ _) _ (by unfold braced; simp only; (repeat' split) <;> first | rfl | omega | (simp_all; done) | (exfalso; simp_all; omega)) ((HW.out.set3 (c - 48) (by omega)).set0 14 rfl)
      · go_enter Try.func31, Try.ntmps31
        go_wp2
        all_goals (go_ret; go_light; simp only [beq_iff_eq, beq_eq_false_iff_ne, ne_eq] at *)
        exact .no (.refl _ _) (by unfold braced; simp only; (repeat' split) <;> first | rfl | omega | (simp_all; done) | (exfalso; simp_all; omega))
    · go_enter Try.func31, Try.ntmps31
      go_wp2
      all_goals (go_ret; go_light; simp only [beq_iff_eq, beq_eq_false_iff_ne, ne_eq] at *)
      exact .no (.refl _ _) (by unfold braced; simp only; (repeat' split) <;> first | rfl | omega | (simp_all; done) | (exfalso; simp_all; omega))
  · go_enter Try.func31, Try.ntmps31
    go_wp2
    all_goals (go_ret; go_light; simp only [beq_iff_eq, beq_eq_false_iff_ne, ne_eq] at *)
    · exact .yes ((Only.refl _ _).setCell _ _) _ (by unfold braced; simp only; (repeat' split) <;> first | rfl | omega | (simp_all; done) | (exfalso; simp_all; omega)) (HW.out.set0 2 rfl)
    all_goals exact .no ((Only.refl _ _).setCell _ _) (by unfold braced; simp only; (repeat' split) <;> first | rfl | omega | (simp_all; done) | (exfalso; simp_all; omega))

theorem whole_any (b : Nat) (st : St) (w : World) (hw : Wk w b st) :
    Calls Try.prog 19 #[.pointer (some ⟨b, 0, none⟩)] w fun e w' => e = .returned (.bool (whole st)) ∧ w' = w := by
  obtain ⟨m, o, a, l⟩ := st
  obtain ⟨c0, c1, c2, c3, f0, f1, f2, f3⟩ := hw
  simp only at c0 c1 c2 c3
  by_cases h0 : o = 0
  · subst h0
    by_cases h1 : m = 1
    · subst h1
      go_enter Try.func19, Try.ntmps19
      go_wp2
      go_ret
      exact ⟨ret_bool (by simp [whole]), rfl⟩
    · have h1' : ((m : Int) == 1) = false := by simp; omega
      go_enter Try.func19, Try.ntmps19
      go_wp2
      go_ret
      exact ⟨ret_bool (by rw [Bool.eq_iff_iff]; simp [whole, h1]; try omega), rfl⟩
  · have h0' : ((o : Int) == 0) = false := by simp; omega
    go_enter Try.func19, Try.ntmps19
    go_wp2
    go_ret
    exact ⟨ret_bool (by simp [whole, h0]), rfl⟩

end Go.Proofs.Ytppjlpihaocdiaa
