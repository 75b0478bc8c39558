/- A part of the proof. -/
import Derived.Test.YtppjlpihaocdiaaGreatDoorPlacesH
import Derived.Test.YtppjlpihaocdiaaGreatDoorLenH
import Derived.Laws.MakeOwn
set_option linter.unusedSimpArgs false
set_option linter.unusedVariables false
namespace Go.Proofs.YtppjlpihaocdiaaGreatDoor
open Go.RowKit
set_option maxHeartbeats 400000 in
theorem greatest_any (A B : Nat) (w : World) (S : Nat → Bool) (hS : Pl A B S) :
    Calls Tryz.prog 67 #[.agg #[.int .u64 A, .int .u64 B]] w fun e w' => ∃ (p : Nat) (ok : Bool), e = .returned (.tuple #[.int .i64 p, .bool ok]) ∧ Below w.heap.size w w' ∧
      ((ok = true ∧ p < 128 ∧ S p = true ∧ ∀ q, p < q → q < 128 → S q = false) ∨ (ok = false ∧ ∀ q, q < 128 → S q = false)) := by
  have HS : Hid (Pl A B S) := hS
  have ha := hS.a
  have hb := hS.b
  have ha' : (A : Int) ≤ 18446744073709551615 := by omega
  have hb' : (B : Int) ≤ 18446744073709551615 := by omega
  have ha0 : (0 : Int) ≤ (A : Int) := by omega
  have hb0 : (0 : Int) ≤ (B : Int) := by omega
  clear hS ha hb
  go_enter Tryz.func67, Tryz.ntmps67
  go_wp2_with fail
  go_loopw [4] (fun v wr => ∃ (k : Int), -1 ≤ k ∧ k ≤ 1 ∧ v = .int .i64 k ∧ Two wr w.heap.size A B ∧ Below w.heap.size w wr ∧ Hid (k < 1 → B = 0) ∧ Hid (k < 0 → A = 0)) (fun v _ => (intOf v + 1).toNat)
  case atStart => exact ⟨1, by omega, by omega, rfl, by constructor <;> go_simp, (Below.refl _ _).alloc (Nat.le_refl _) _, fun h => by omega, fun h => by omega⟩
  case round =>
    obtain ⟨k, hk1, hk2, rfl, ⟨c0, c1, f0, f1⟩, hB, h1, h2⟩ := hrel
    have HB : Hid (Below w.heap.size w wr) := hB
    clear hB
    obtain rfl | rfl | rfl : k = 1 ∨ k = 0 ∨ k = -1 := by omega
    · rcases bool_or ((B : Int) != 0) with hb | hb
      · have hbn : B ≠ 0 := by simpa using hb
        have HBN : Hid (B ≠ 0) := hbn
        have hl : (Lib.bitLen B : Int) ≤ 64 := by have := (bitLen_top B HBN.out HS.out.b).2.1; omega
        have hl0 : (1 : Int) ≤ (Lib.bitLen B : Int) := by have := (bitLen_top B HBN.out HS.out.b).1; omega
        go_wp2_with fail
        refine (len64_int B _ hb0 hb').mono ?_
        rintro e w1 ⟨rfl, rfl⟩
        rw [Int.toNat_natCast]
        go_wp2_with fail
        go_ret2
        obtain ⟨t1, t2, t3, t4⟩ := bitLen_top B HBN.out HS.out.b
        refine ⟨64 + (Lib.bitLen B - 1), true, by go_num, HB.out, .inl ⟨rfl, by omega, ?_, fun q hq hq' => ?_⟩⟩
        · rw [← HS.out.m _ (by omega)]
          unfold mem
          rw [if_neg (by omega), Nat.add_sub_cancel_left]
          exact t3
        · rw [← HS.out.m _ (by omega)]
          unfold mem
          rw [if_neg (by omega)]
          exact t4 _ (by omega)
      · have hbn : B = 0 := by simpa using hb
        have HBN : Hid (B = 0) := hbn
        clear hbn
        go_wp2_with fail
        go_roundw
        case rel => exact ⟨0, by omega, by omega, rfl, ⟨c0, c1, f0, f1⟩, HB.out, fun _ => HBN.out, fun h => by omega⟩
        case measure => simp [intOf]
    · rcases bool_or ((A : Int) != 0) with hb | hb
      · have hbn : A ≠ 0 := by simpa using hb
        have HBN : Hid (A ≠ 0) := hbn
        have hl : (Lib.bitLen A : Int) ≤ 64 := by have := (bitLen_top A HBN.out HS.out.a).2.1; omega
        have hl0 : (1 : Int) ≤ (Lib.bitLen A : Int) := by have := (bitLen_top A HBN.out HS.out.a).1; omega
        go_wp2_with fail
        refine (len64_int A _ ha0 ha').mono ?_
        rintro e w1 ⟨rfl, rfl⟩
        rw [Int.toNat_natCast]
        go_wp2_with fail
        go_ret2
        obtain ⟨t1, t2, t3, t4⟩ := bitLen_top A HBN.out HS.out.a
        refine ⟨Lib.bitLen A - 1, true, by go_num, HB.out, .inl ⟨rfl, by omega, ?_, fun q hq hq' => ?_⟩⟩
        · rw [← HS.out.m _ (by omega)]
          unfold mem
          rw [if_pos (by omega)]
          exact t3
        · rw [← HS.out.m _ (by omega)]
          unfold mem
          have : B = 0 := h1.out (by omega)
          split
          · exact t4 _ (by omega)
          · rw [this, Nat.zero_testBit]
      · have hbn : A = 0 := by simpa using hb
        have HBN : Hid (A = 0) := hbn
        clear hbn
        go_wp2_with fail
        go_roundw
        case rel => exact ⟨-1, by omega, by omega, rfl, ⟨c0, c1, f0, f1⟩, HB.out, fun _ => h1.out (by omega), fun h => HBN.out⟩
        case measure => simp [intOf]
    · go_wp2_with fail
      go_ret2
      refine ⟨0, false, rfl, HB.out, .inr ⟨rfl, fun q hq => ?_⟩⟩
      rw [← HS.out.m _ (by omega)]
      unfold mem
      rw [h1.out (by omega), h2.out (by omega), Nat.zero_testBit, Nat.zero_testBit, ite_self]
def MP (a b : Value) : Sem Value := Instr.makeSlice 155 a b
theorem MP_eq (a b : Value) : Instr.makeSlice 155 a b = MP a b := rfl
attribute [local go_sem ↓] MP_eq
theorem Tryz.info158 : (Tryz.prog.info? 158).map (fun i => (i.zero, i.size, i.bytes)) = some (some (.agg #[.int .u64 0, .int .u64 0]), 2, 16) := by kernel_rfl
theorem madeCells_zero (z : Array Value) (v : Value) (hz : ∀ k, k < z.size → z[k]! = v) (hp : 0 < z.size) (n q : Nat) (hq : q < n) : (madeCells z n)[q]? = some v := by
  unfold madeCells
  rw [Array.getElem?_map]
  simp only [Array.getElem?_range, hq, if_true, Option.map_some]
  rw [hz _ (Nat.mod_lt _ hp)]
theorem run_MP (n : Nat) (hn : n ≤ 100000) : ∃ A : Array Value, (∀ q, q < n * 2 → A[q]? = some (.int .u64 0)) ∧ ∀ w, (MP (.int .i64 n) (.int .i64 n)).run Tryz.prog w = .ok (.slice (some ⟨w.heap.size, 0, none⟩) n n) (w.alloc (.cells A 158)) := by
  obtain ⟨i0, hi0, hz0, hz1, hz2⟩ := info_parts Tryz.info158
  refine ⟨madeCells (Value.agg #[.int .u64 0, .int .u64 0]).cells (n * 2), fun q hq => madeCells_zero _ _ ?_ ?_ _ q hq, fun w => ?_⟩
  · intro k hk
    have hk' : k < 2 := by simpa [Value.cells] using hk
    obtain rfl | rfl : k = 0 ∨ k = 1 := by omega
    · rfl
    · rfl
  · simp [Value.cells]
  · have := run_make (P := Tryz.prog) w 155 158 i0 _ Tryz.underlying155 hi0 hz0 .i64 .i64 n n (by omega) (Int.le_refl _) (by rw [hz2]; omega) (by omega)
    rw [hz1] at this
    rw [← MP_eq]
    simpa using this
structure Sts (w : World) (g L : Nat) (M : Nat → Nat → Bool) : Prop where
  cell : ∀ i, i ≤ L → ∃ A B : Nat, w.cell? ⟨g, i * 2, none⟩ = some (.int .u64 A) ∧ w.cell? ⟨g, i * 2 + 1, none⟩ = some (.int .u64 B) ∧ w.frozen? ⟨g, i * 2, none⟩ = false ∧ w.frozen? ⟨g, i * 2 + 1, none⟩ = false ∧ Pl A B (M i)
theorem Pl.zero : Pl 0 0 (fun _ => false) := ⟨by decide, by decide, fun q _ => by unfold mem; split <;> simp⟩
theorem Sts.cast {w : World} {g L : Nat} {M M' : Nat → Nat → Bool} (h : Sts w g L M) (e : ∀ i, i ≤ L → ∀ j, M i j = M' i j) : Sts w g L M' := by
  refine ⟨fun i hi => ?_⟩
  obtain ⟨A, B, h1, h2, h3, h4, h5⟩ := h.cell i hi
  exact ⟨A, B, h1, h2, h3, h4, by rw [show M' i = M i from funext fun j => (e i hi j).symm]; exact h5⟩
theorem Sts.of_block {w w' : World} {g L : Nat} {M : Nat → Nat → Bool} (h : Sts w g L M) (hb : w'.heap[g]? = w.heap[g]?) : Sts w' g L M := by
  refine ⟨fun i hi => ?_⟩
  obtain ⟨A, B, h1, h2, h3, h4, h5⟩ := h.cell i hi
  have hc : ∀ k, w'.cell? ⟨g, k, none⟩ = w.cell? ⟨g, k, none⟩ := fun k => World.cell?_of_block (w := w) (w' := w') (a := ⟨g, k, none⟩) hb
  have hf : ∀ k, w'.frozen? ⟨g, k, none⟩ = w.frozen? ⟨g, k, none⟩ := fun k => World.frozen?_of_block (w := w) (w' := w') (a := ⟨g, k, none⟩) hb
  exact ⟨A, B, (hc _).trans h1, (hc _).trans h2, (hf _).trans h3, (hf _).trans h4, h5⟩
theorem Sts.lt {w : World} {g L : Nat} {M : Nat → Nat → Bool} (h : Sts w g L M) : g < w.heap.size := by
  obtain ⟨A, B, h1, _⟩ := h.cell 0 (Nat.zero_le _)
  exact World.block_lt_of_cell? w _ h1
theorem Sts.below {w w' : World} {n g L : Nat} {M : Nat → Nat → Bool} (h : Sts w g L M) (hb : Below n w w') (hg : g < n) : Sts w' g L M := h.of_block (hb.block g hg)
theorem Sts.put {w : World} {g L k A B : Nat} {M : Nat → Nat → Bool} {S : Nat → Bool} (h : Sts w g L M) (hk : k ≤ L) (hP : Pl A B S) :
    Sts ((w.setCell ⟨g, k * 2, none⟩ (.int .u64 A)).setCell ⟨g, k * 2 + 1, none⟩ (.int .u64 B)) g L (fun i => if i = k then S else M i) := by
  refine ⟨fun i hi => ?_⟩
  obtain ⟨A', B', h1, h2, h3, h4, h5⟩ := h.cell i hi
  have hne : ∀ {a b : Nat}, a ≠ b → (⟨g, a, none⟩ : Addr) ≠ ⟨g, b, none⟩ := fun hab e => hab (by injection e)
  by_cases e : i = k
  · subst e
    refine ⟨A, B, ?_, ?_, ?_, ?_, by simp only [if_true]; exact hP⟩
    · rw [World.cell?_setCell_other (h := hne (by omega))]
      exact World.cell?_setCell_same _ _ _ h1
    · refine World.cell?_setCell_same _ _ _ (u := .int .u64 B') ?_
      rw [World.cell?_setCell_other (h := hne (by omega))]
      exact h2
    · rw [World.frozen?_setCell, World.frozen?_setCell]; exact h3
    · rw [World.frozen?_setCell, World.frozen?_setCell]; exact h4
  · refine ⟨A', B', ?_, ?_, ?_, ?_, by simp only [e, if_false]; exact h5⟩
    · rw [World.cell?_setCell_other (h := hne (by omega)), World.cell?_setCell_other (h := hne (by omega))]; exact h1
    · rw [World.cell?_setCell_other (h := hne (by omega)), World.cell?_setCell_other (h := hne (by omega))]; exact h2
    · rw [World.frozen?_setCell, World.frozen?_setCell]; exact h3
    · rw [World.frozen?_setCell, World.frozen?_setCell]; exact h4
theorem Sts.made {w : World} {g L : Nat} {A : Array Value} (hA : ∀ q, q < (L + 1) * 2 → A[q]? = some (.int .u64 0)) (hb : w.heap[g]? = some (.cells A 158)) : Sts w g L (fun _ _ => false) := by
  refine ⟨fun i hi => ⟨0, 0, ?_, ?_, ?_, ?_, Pl.zero⟩⟩
  · rw [cell_of_row _ g (i * 2) A 158 (0, 0) hb]; exact hA _ (by omega)
  · rw [cell_of_row _ g (i * 2 + 1) A 158 (0, 0) hb]; exact hA _ (by omega)
  · simp [World.frozen?, hb]
  · simp [World.frozen?, hb]
theorem Sts.new {w : World} {L : Nat} {A : Array Value} (hA : ∀ q, q < (L + 1) * 2 → A[q]? = some (.int .u64 0)) : Sts (w.alloc (.cells A 158)) w.heap.size L (fun _ _ => false) := Sts.made hA (heap_alloc_new w (.cells A 158))
def upto (k : Nat) (M : Nat → Nat → Bool) (i j : Nat) : Bool := decide (i < k) && M i j
theorem Sts.next {w : World} {g L k A B : Nat} {M : Nat → Nat → Bool} (h : Sts w g L (upto k M)) (hk : k ≤ L) (hP : Pl A B (M k)) :
    Sts ((w.setCell ⟨g, k * 2, none⟩ (.int .u64 A)).setCell ⟨g, k * 2 + 1, none⟩ (.int .u64 B)) g L (upto (k + 1) M) := by
  refine (h.put hk hP).cast fun i hi j => ?_
  unfold upto
  by_cases e : i = k
  · subst e; simp
  · simp only [e, if_false]
    rw [show decide (i < k) = decide (i < k + 1) from by rw [Bool.eq_iff_iff]; simp; omega]
set_option maxHeartbeats 400000 in
theorem empties_any (L : Nat) (w : World) (hL : L ≤ 80) :
    Calls Tryz.prog 154 #[.int .i64 L] w fun e w' => ∃ g : Nat, e = .returned (.slice (some ⟨g, 0, none⟩) (L + 1) (L + 1)) ∧ w.heap.size ≤ g ∧ Sts w' g L (fun i j => j == i) ∧ Below w.heap.size w w' := by
  obtain ⟨A1, hA1, m1⟩ := run_MP (L + 1) (by omega)
  rw [show ((L + 1 : Nat) : Int) = (L : Int) + 1 by omega] at m1
  go_enter Tryz.func154, Tryz.ntmps154
  go_wp2_with fail
  go_loopw [10] (fun v wr => ∃ (k : Nat), k ≤ L + 1 ∧ v = .int .i64 k ∧ Hid (Sts wr w.heap.size L (upto k fun i j => j == i)) ∧ Hid (Below w.heap.size w wr) ∧ w.heap.size < wr.heap.size) (fun v _ => L + 1 - (intOf v).toNat)
  case atStart => exact ⟨0, by omega, rfl, (Sts.new hA1).cast (fun i hi j => by simp [upto]), (Below.refl _ _).alloc (Nat.le_refl _) _, by simp⟩
  case round =>
    obtain ⟨k, hk, rfl, HS, HB, hsz⟩ := hrel
    by_cases hlt : k ≤ L
    · go_wp2_with fail
      refine (only_any k _ (by omega)).mono ?_
      rintro e w1 ⟨A, B, rfl, hP, hB1⟩
      have HP : Hid (Pl A B (fun q => q == k)) := hP
      have HS1 : Hid (Sts w1 w.heap.size L (upto k fun i j => j == i)) := HS.out.below hB1 hsz
      have HB1 : Hid (Below w.heap.size w w1) := HB.out.trans (hB1.mono (by omega))
      have hsz1 : w.heap.size < w1.heap.size := Nat.lt_of_lt_of_le hsz hB1.size
      obtain ⟨A', B', h1, h2, h3, h4, h5⟩ := HS1.out.cell k hlt
      clear hP hB1 h5
      go_wp2_with fail
      go_roundw
      case rel => exact ⟨k + 1, by omega, by go_num, HS1.out.next hlt HP.out, (HB1.out.setCell (Nat.le_refl _) _).setCell (Nat.le_refl _) _, by simp [World.setCell]; omega⟩
      case measure => simp [intOf]; omega
    · have hk2 : k = L + 1 := by omega
      subst hk2
      go_wp2_with fail
      go_ret
      exact ⟨_, rfl, Nat.le_refl _, HS.out.cast (fun i hi j => by simp [upto]; omega), HB.out⟩
end Go.Proofs.YtppjlpihaocdiaaGreatDoor
