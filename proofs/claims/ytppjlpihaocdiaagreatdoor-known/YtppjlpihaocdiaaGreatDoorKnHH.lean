/- Several texts in one. -/
import Derived.Test.YtppjlpihaocdiaaGreatDoorKnFH
import Derived.Test.YtppjlpihaocdiaaGreatDoorKnPH
import Derived.Deep.RegionHeldLaw
/- A part of the proof. -/
set_option linter.unusedSimpArgs false
set_option linter.unusedVariables false
namespace Go.Proofs.YtppjlpihaocdiaaGreatDoor
namespace Ee
open Go.RowKit
def WAt (w : World) (b : Nat) (l : List (Int × Int)) : Prop := ∀ (q : Nat) (x y : Int), l[q]? = some (x, y) → w.cell? ⟨b, q * 2, none⟩ = some (.int .i64 x) ∧ w.cell? ⟨b, q * 2 + 1, none⟩ = some (.int .i64 y)
def mv (B k : Nat) : Value := match mw k with
  | none => .slice none 0 0
  | some sp => .slice (some ⟨B + mo k, 0, none⟩) sp.length sp.length
def MTab (w : World) (B : Nat) : Prop := ∀ k, k < 10 → w.cell? ⟨B + 9, k * 3, none⟩ = some (.string (mp k)) ∧ w.cell? ⟨B + 9, k * 3 + 1, none⟩ = some (.string (mt k)) ∧ w.cell? ⟨B + 9, k * 3 + 2, none⟩ = some (mv B k) ∧ ∀ sp, mw k = some sp → WAt w (B + mo k) sp
def ETab (w : World) (b : Nat) (q : Nat → ByteArray) (e : Nat → Int × Int) : Prop := ∀ k, k < 8 → w.cell? ⟨b, k * 3, none⟩ = some (.string (q k)) ∧ w.cell? ⟨b, k * 3 + 1, none⟩ = some (.int .i64 (e k).1) ∧ w.cell? ⟨b, k * 3 + 2, none⟩ = some (.int .i64 (e k).2)
def DTab (w : World) (b : Nat) : Prop := ∀ k, k < 10 → w.cell? ⟨b, k * 3, none⟩ = some (.string (dq k)) ∧ w.cell? ⟨b, k * 3 + 1, none⟩ = some (.string (di k)) ∧ w.cell? ⟨b, k * 3 + 2, none⟩ = some (.string (dw k))
theorem WAt.of {w w' : World} {b : Nat} {l : List (Int × Int)} (h : WAt w b l) (hb : w'.heap[b]? = w.heap[b]?) : WAt w' b l := fun q x y hq => by
  have hc : ∀ k, w'.cell? ⟨b, k, none⟩ = w.cell? ⟨b, k, none⟩ := fun k => World.cell?_of_block (w := w) (w' := w') (a := ⟨b, k, none⟩) hb
  rw [hc, hc]
  exact h q x y hq
theorem mo_lt (k : Nat) : mo k ≤ 8 := by
  unfold mo
  split <;> omega
theorem MTab.of {w w' : World} {B n : Nat} (h : MTab w B) (hb : ∀ k, k < n → w'.heap[k]? = w.heap[k]?) (hn : B + 10 ≤ n) : MTab w' B := fun k hk => by
  have hc : ∀ k, w'.cell? ⟨B + 9, k, none⟩ = w.cell? ⟨B + 9, k, none⟩ := fun k => World.cell?_of_block (w := w) (w' := w') (a := ⟨B + 9, k, none⟩) (hb (B + 9) (by omega))
  rw [hc, hc, hc]
  obtain ⟨h1, h2, h3, h4⟩ := h k hk
  exact ⟨h1, h2, h3, fun sp hsp => (h4 sp hsp).of (hb _ (by have := mo_lt k; omega))⟩
theorem ETab.of {w w' : World} {b : Nat} {q : Nat → ByteArray} {e : Nat → Int × Int} (h : ETab w b q e) (hb : w'.heap[b]? = w.heap[b]?) : ETab w' b q e := fun k hk => by
  have hc : ∀ k, w'.cell? ⟨b, k, none⟩ = w.cell? ⟨b, k, none⟩ := fun k => World.cell?_of_block (w := w) (w' := w') (a := ⟨b, k, none⟩) hb
  rw [hc, hc, hc]
  exact h k hk
theorem DTab.of {w w' : World} {b : Nat} (h : DTab w b) (hb : w'.heap[b]? = w.heap[b]?) : DTab w' b := fun k hk => by
  have hc : ∀ k, w'.cell? ⟨b, k, none⟩ = w.cell? ⟨b, k, none⟩ := fun k => World.cell?_of_block (w := w) (w' := w') (a := ⟨b, k, none⟩) hb
  rw [hc, hc, hc]
  exact h k hk
theorem heap_last' {w : World} {o : Obj} {n : Nat} (h : n = w.heap.size) : (w.alloc o).heap[n]? = some o := by
  rw [h]
  exact heap_alloc_last w o
theorem heap_old {w : World} {o x : Obj} {n : Nat} (h : w.heap[n]? = some x) : (w.alloc o).heap[n]? = some x := by
  rw [Below.heap_alloc _ _ _ (Array.getElem?_eq_some_iff.1 h).1]
  exact h
theorem size_alloc (w : World) (o : Obj) : (w.alloc o).heap.size = w.heap.size + 1 := by simp
theorem wat_row {w : World} {b : Nat} {xs : Array Value} {T : TypeId} {l : List (Int × Int)} (h : w.heap[b]? = some (.cells xs T)) (hl : ∀ (q : Nat) (x y : Int), l[q]? = some (x, y) → xs[q * 2]? = some (.int .i64 x) ∧ xs[q * 2 + 1]? = some (.int .i64 y)) : WAt w b l := fun q x y hq => by
  rw [cell_of_row w b (q * 2) xs T (0, 0) h, cell_of_row w b (q * 2 + 1) xs T (0, 0) h]
  exact hl q x y hq
theorem mats_tab (w : World) : MTab ((matSpans w).alloc (.cells (matCells w) 46)) w.heap.size ∧ ((matSpans w).alloc (.cells (matCells w) 46)).heap.size = w.heap.size + 10 ∧ Below w.heap.size w ((matSpans w).alloc (.cells (matCells w) 46)) := by
  have hsz : (matSpans w).heap.size = w.heap.size + 9 := by simp [matSpans, size_alloc]
  refine ⟨fun k hk => ?_, by rw [size_alloc, hsz], ?_⟩
  · have hr : ((matSpans w).alloc (.cells (matCells w) 46)).heap[w.heap.size + 9]? = some (.cells (matCells w) 46) := heap_last' hsz.symm
    rw [cell_of_row _ _ (k * 3) _ _ (0, 0) hr, cell_of_row _ _ (k * 3 + 1) _ _ (0, 0) hr, cell_of_row _ _ (k * 3 + 2) _ _ (0, 0) hr]
    match k, hk with
    | 0, _ => exact ⟨rfl, rfl, rfl, fun sp hsp => by cases hsp; exact wat_row (by unfold matSpans; (iterate 9 apply heap_old); exact heap_last' (by simp [mo, size_alloc])) (fun q x y hq => by rcases q with _ | _ | _ | _ | q <;> simp at hq <;> (obtain ⟨rfl, rfl⟩ := hq; exact ⟨rfl, rfl⟩))⟩
    | 1, _ => exact ⟨rfl, rfl, rfl, fun sp hsp => by cases hsp; exact wat_row (by unfold matSpans; (iterate 8 apply heap_old); exact heap_last' (by simp [mo, size_alloc])) (fun q x y hq => by rcases q with _ | _ | _ | _ | q <;> simp at hq <;> (obtain ⟨rfl, rfl⟩ := hq; exact ⟨rfl, rfl⟩))⟩
    | 2, _ => exact ⟨rfl, rfl, rfl, fun sp hsp => by cases hsp; exact wat_row (by unfold matSpans; (iterate 7 apply heap_old); exact heap_last' (by simp [mo, size_alloc])) (fun q x y hq => by rcases q with _ | _ | _ | _ | q <;> simp at hq <;> (obtain ⟨rfl, rfl⟩ := hq; exact ⟨rfl, rfl⟩))⟩
    | 3, _ => exact ⟨rfl, rfl, rfl, fun sp hsp => by cases hsp; exact wat_row (by unfold matSpans; (iterate 6 apply heap_old); exact heap_last' (by simp [mo, size_alloc])) (fun q x y hq => by rcases q with _ | _ | _ | _ | q <;> simp at hq <;> (obtain ⟨rfl, rfl⟩ := hq; exact ⟨rfl, rfl⟩))⟩
    | 4, _ => exact ⟨rfl, rfl, rfl, fun sp hsp => by cases hsp; exact wat_row (by unfold matSpans; (iterate 5 apply heap_old); exact heap_last' (by simp [mo, size_alloc])) (fun q x y hq => by rcases q with _ | _ | _ | _ | q <;> simp at hq <;> (obtain ⟨rfl, rfl⟩ := hq; exact ⟨rfl, rfl⟩))⟩
    | 5, _ => exact ⟨rfl, rfl, rfl, fun sp hsp => by cases hsp; exact wat_row (by unfold matSpans; (iterate 4 apply heap_old); exact heap_last' (by simp [mo, size_alloc])) (fun q x y hq => by rcases q with _ | _ | _ | _ | q <;> simp at hq <;> (obtain ⟨rfl, rfl⟩ := hq; exact ⟨rfl, rfl⟩))⟩
    | 6, _ => exact ⟨rfl, rfl, rfl, fun sp hsp => by cases hsp; exact wat_row (by unfold matSpans; (iterate 3 apply heap_old); exact heap_last' (by simp [mo, size_alloc])) (fun q x y hq => by rcases q with _ | _ | _ | _ | q <;> simp at hq <;> (obtain ⟨rfl, rfl⟩ := hq; exact ⟨rfl, rfl⟩))⟩
    | 7, _ => exact ⟨rfl, rfl, rfl, fun sp hsp => by cases hsp; exact wat_row (by unfold matSpans; (iterate 2 apply heap_old); exact heap_last' (by simp [mo, size_alloc])) (fun q x y hq => by rcases q with _ | _ | _ | _ | q <;> simp at hq <;> (obtain ⟨rfl, rfl⟩ := hq; exact ⟨rfl, rfl⟩))⟩
    | 8, _ => exact ⟨rfl, rfl, rfl, fun sp hsp => by cases hsp⟩
    | 9, _ => exact ⟨rfl, rfl, rfl, fun sp hsp => by cases hsp; exact wat_row (by unfold matSpans; (iterate 1 apply heap_old); exact heap_last' (by simp [mo, size_alloc])) (fun q x y hq => by rcases q with _ | _ | _ | _ | q <;> simp at hq <;> (obtain ⟨rfl, rfl⟩ := hq; exact ⟨rfl, rfl⟩))⟩
  · unfold matSpans
    iterate 9 refine Below.alloc ?_ (by simp [size_alloc]; try omega) _
    exact below_alloc w _
theorem pats_tab (w w' : World) (h : w' = w.alloc (.cells patCells 52)) : ETab w' w.heap.size pq pe ∧ w'.heap.size = w.heap.size + 1 ∧ Below w.heap.size w w' := by
  subst h
  refine ⟨fun k hk => ?_, size_alloc _ _, below_alloc _ _⟩
  have hr := heap_alloc_last w (.cells patCells 52)
  rw [cell_of_row _ _ (k * 3) _ _ (0, 0) hr, cell_of_row _ _ (k * 3 + 1) _ _ (0, 0) hr, cell_of_row _ _ (k * 3 + 2) _ _ (0, 0) hr]
  exact match k, hk with
  | 0, _ => ⟨rfl, rfl, rfl⟩
  | 1, _ => ⟨rfl, rfl, rfl⟩
  | 2, _ => ⟨rfl, rfl, rfl⟩
  | 3, _ => ⟨rfl, rfl, rfl⟩
  | 4, _ => ⟨rfl, rfl, rfl⟩
  | 5, _ => ⟨rfl, rfl, rfl⟩
  | 6, _ => ⟨rfl, rfl, rfl⟩
  | 7, _ => ⟨rfl, rfl, rfl⟩
theorem scrs_tab (w w' : World) (h : w' = w.alloc (.cells scrCells 52)) : ETab w' w.heap.size sq se ∧ w'.heap.size = w.heap.size + 1 ∧ Below w.heap.size w w' := by
  subst h
  refine ⟨fun k hk => ?_, size_alloc _ _, below_alloc _ _⟩
  have hr := heap_alloc_last w (.cells scrCells 52)
  rw [cell_of_row _ _ (k * 3) _ _ (0, 0) hr, cell_of_row _ _ (k * 3 + 1) _ _ (0, 0) hr, cell_of_row _ _ (k * 3 + 2) _ _ (0, 0) hr]
  exact match k, hk with
  | 0, _ => ⟨rfl, rfl, rfl⟩
  | 1, _ => ⟨rfl, rfl, rfl⟩
  | 2, _ => ⟨rfl, rfl, rfl⟩
  | 3, _ => ⟨rfl, rfl, rfl⟩
  | 4, _ => ⟨rfl, rfl, rfl⟩
  | 5, _ => ⟨rfl, rfl, rfl⟩
  | 6, _ => ⟨rfl, rfl, rfl⟩
  | 7, _ => ⟨rfl, rfl, rfl⟩
theorem eds_tab (w w' : World) (h : w' = w.alloc (.cells edCells 55)) : DTab w' w.heap.size ∧ w'.heap.size = w.heap.size + 1 ∧ Below w.heap.size w w' := by
  subst h
  refine ⟨fun k hk => ?_, size_alloc _ _, below_alloc _ _⟩
  have hr := heap_alloc_last w (.cells edCells 55)
  rw [cell_of_row _ _ (k * 3) _ _ (0, 0) hr, cell_of_row _ _ (k * 3 + 1) _ _ (0, 0) hr, cell_of_row _ _ (k * 3 + 2) _ _ (0, 0) hr]
  exact match k, hk with
  | 0, _ => ⟨rfl, rfl, rfl⟩
  | 1, _ => ⟨rfl, rfl, rfl⟩
  | 2, _ => ⟨rfl, rfl, rfl⟩
  | 3, _ => ⟨rfl, rfl, rfl⟩
  | 4, _ => ⟨rfl, rfl, rfl⟩
  | 5, _ => ⟨rfl, rfl, rfl⟩
  | 6, _ => ⟨rfl, rfl, rfl⟩
  | 7, _ => ⟨rfl, rfl, rfl⟩
  | 8, _ => ⟨rfl, rfl, rfl⟩
  | 9, _ => ⟨rfl, rfl, rfl⟩
end Ee
end Go.Proofs.YtppjlpihaocdiaaGreatDoor

/- A part of the proof. -/
set_option linter.unusedSimpArgs false
set_option linter.unusedVariables false
namespace Go.Proofs.YtppjlpihaocdiaaGreatDoor
namespace Ee
open Go.RowKit
open Rs (readR)
theorem mw_len (k : Nat) (sp : List (Int × Int)) (h : mw k = some sp) : sp.length ≤ 4 := by
  unfold mw at h
  split at h <;> cases h <;> decide
set_option maxRecDepth 100000 in
set_option maxHeartbeats 8000000 in
theorem known_any (mf : Mf) (hm : MfOk mf) (c : Int) (w : World) (hc : -9223372036854775808 ≤ c ∧ c ≤ 9223372036854775807) (ht : Tab w) :
    Calls Tryz.prog 6 #[.int .i64 c] w fun e w' => e = .returned (.bool true) ∧ Below w.heap.size w w' := by
  have HT : Hid (Tab w) := ht
  have HM : Hid (MfOk mf) := hm
  have n26 : ∀ (W : World), (binOp .eql 41 (.slice none 0 0) (.slice none 0 0)).run Tryz.prog W = .ok (.bool true) W := fun W => Lib.run_eql_slice_nil W _ _ none 0 0 0 0 Tryz.underlying41
  have s26 : ∀ (W : World) (x : Addr) (n c : Nat), (binOp .eql 41 (.slice (some x) n c) (.slice none 0 0)).run Tryz.prog W = .ok (.bool false) W := fun W x n c => Lib.run_eql_slice_nil W _ _ (some x) n c 0 0 Tryz.underlying41
  have HPk : Hid (∀ W : World, Calls Tryz.prog 21 #[.int .i64 c, .int .i64 36] W fun e w' => ∃ j : Nat, j < 36 ∧ e = .returned (.int .i64 (j : Int)) ∧ w' = W) := fun W => pick_any c 36 W hc.1 hc.2 (by omega) (by omega)
  clear ht hm hc
  go_enter Tryz.func6, Tryz.ntmps6
  go_wp2_with fail
  refine (mats_k w).mono ?_
  rintro e w1 ⟨rfl, hw1⟩
  have hx := mats_tab w
  rw [← hw1] at hx
  have HT1 : Hid (MTab w1 w.heap.size) := hx.1
  have HS1 : Hid (w1.heap.size = w.heap.size + 10) := hx.2.1
  have HB1 : Hid (Below w.heap.size w w1) := hx.2.2
  clear hw1 hx
  go_wp2_with fail
  refine (pats_k w1).mono ?_
  rintro e w2 ⟨rfl, hw2⟩
  have hx := pats_tab w1 w2 hw2
  have HT2 : Hid (ETab w2 w1.heap.size pq pe) := hx.1
  have HS2 : Hid (w2.heap.size = w1.heap.size + 1) := hx.2.1
  have HB2 : Hid (Below w1.heap.size w1 w2) := hx.2.2
  clear hw2 hx
  go_wp2_with fail
  refine (scrs_k w2).mono ?_
  rintro e w3 ⟨rfl, hw3⟩
  have hx := scrs_tab w2 w3 hw3
  have HT3 : Hid (ETab w3 w2.heap.size sq se) := hx.1
  have HS3 : Hid (w3.heap.size = w2.heap.size + 1) := hx.2.1
  have HB3 : Hid (Below w2.heap.size w2 w3) := hx.2.2
  clear hw3 hx
  go_wp2_with fail
  refine (eds_k w3).mono ?_
  rintro e w4 ⟨rfl, hw4⟩
  have hx := eds_tab w3 w4 hw4
  have HT4 : Hid (DTab w4 w3.heap.size) := hx.1
  have HS4 : Hid (w4.heap.size = w3.heap.size + 1) := hx.2.1
  have HB4 : Hid (Below w3.heap.size w3 w4) := hx.2.2
  clear hw4 hx
  have HB14 : Hid (Below w1.heap.size w1 w4) := HB2.out.trans ((HB3.out.mono (by have := HS2.out; omega)).trans (HB4.out.mono (by have := HS2.out; have := HS3.out; omega)))
  have HBB : Hid (Below w.heap.size w w4) := HB1.out.trans (HB14.out.mono HB1.out.size)
  have HM4 : Hid (MTab w4 w.heap.size) := HT1.out.of (n := w1.heap.size) HB14.out.block (by have := HS1.out; omega)
  have HP4 : Hid (ETab w4 w1.heap.size pq pe) := HT2.out.of ((HB4.out.block _ (by have := HS2.out; have := HS3.out; omega)).trans (HB3.out.block _ (by have := HS2.out; omega)))
  have HK4 : Hid (ETab w4 w2.heap.size sq se) := HT3.out.of (HB4.out.block _ (by have := HS3.out; omega))
  have HZ : Hid (w1.heap.size = w.heap.size + 10 ∧ w2.heap.size = w1.heap.size + 1 ∧ w3.heap.size = w2.heap.size + 1 ∧ w4.heap.size = w3.heap.size + 1) := ⟨HS1.out, HS2.out, HS3.out, HS4.out⟩
  have HTa : Hid (Tab w4) := HT.out.below HBB.out
  clear HT1 HT2 HT3 HB1 HB2 HB3 HB4 HB14 HS1 HS2 HS3 HS4 HT
  go_wp2_with fail
  refine (HPk.out _).mono ?_
  rintro e w5 ⟨k, hk, rfl, hw5⟩
  have hw6 := hw5.symm
  subst hw6
  clear hw5 HPk
  have k0 : (0 : Int) ≤ (k : Int) := by omega
  by_cases g1 : k < 10
  · have k1 : (k : Int) < 10 := by omega
    obtain ⟨c0, c1, c2, hW⟩ := HM4.out k g1
    obtain ⟨em, ef, z1, z2⟩ := mf_k mf HM.out k g1
    have hMk : ∀ W, Calls Tryz.prog 22 #[.string (mp k), .string (mt k)] W fun e w' => ∃ u, e = .returned (.tuple #[u, .int .i64 0]) ∧ SpAt w' (mw k) u W.heap.size ∧ Below W.heap.size W w' := fun W => by
      have h := match_k mf HM.out (mp k) (mt k) W z1 z2 ef
      rw [em] at h
      exact h
    have hbl : w.heap.size + 9 < w4.drew.heap.size := by have := HZ.out; show w.heap.size + 9 < w4.heap.size; omega
    have hmo : w.heap.size + mo k < w4.drew.heap.size := by have := HZ.out; have := mo_lt k; show w.heap.size + mo k < w4.heap.size; omega
    unfold mv at c2
    generalize mp k = P at *
    generalize mt k = X at *
    have hS0 : w4.drew.cell? ⟨w.heap.size + 9, k * 3, none⟩ = some (.string P) ∧ w4.drew.cell? ⟨w.heap.size + 9, k * 3 + 1, none⟩ = some (.string X) := ⟨c0, c1⟩
    have HBd : Hid (Below w.heap.size w w4.drew) := ⟨HBB.out.os, HBB.out.tape, HBB.out.output, HBB.out.size, HBB.out.block⟩
    have HWd : Hid (∀ sp, mw k = some sp → WAt w4.drew (w.heap.size + mo k) sp) := hW
    have HCd : Hid (w4.drew.cell? ⟨w.heap.size + 9, k * 3 + 2, none⟩ = some (match mw k with
      | none => .slice none 0 0
      | some sp => .slice (some ⟨w.heap.size + mo k, 0, none⟩) sp.length sp.length)) := c2
    clear em ef z1 z2 HM4 HP4 HK4 HT4 HTa HM c0 c1 c2 hW HBB
    go_wp2_with fail
    go_region_held_law (fun W => W.cell? ⟨w.heap.size + 9, k * 3, none⟩ = some (.string P) ∧ W.cell? ⟨w.heap.size + 9, k * 3 + 1, none⟩ = some (.string X)) (first | exact hS0 | exact hS5)
      (first
      | (go_at_call 22; (refine (hMk w4.drew).mono ?_; rintro e w5 ⟨u, rfl, hsp, hb5⟩; have HB5 : Hid (Below w.heap.size w w5) := HBd.out.trans (hb5.mono HBd.out.size); have hcc : ∀ q, w5.cell? ⟨w.heap.size + 9, q, none⟩ = w4.drew.cell? ⟨w.heap.size + 9, q, none⟩ := fun q => World.cell?_of_block (w := w4.drew) (w' := w5) (a := ⟨w.heap.size + 9, q, none⟩) (hb5.block (w.heap.size + 9) hbl); have hS5 : w5.cell? ⟨w.heap.size + 9, k * 3, none⟩ = some (.string P) ∧ w5.cell? ⟨w.heap.size + 9, k * 3 + 1, none⟩ = some (.string X) := ⟨(hcc _).trans hS0.1, (hcc _).trans hS0.2⟩; have HC5 : Hid (w5.cell? ⟨w.heap.size + 9, k * 3 + 2, none⟩ = some (match mw k with | none => .slice none 0 0 | some sp => .slice (some ⟨w.heap.size + mo k, 0, none⟩) sp.length sp.length)) := (hcc _).trans HCd.out; have HW5 : Hid (∀ sp, mw k = some sp → WAt w5 (w.heap.size + mo k) sp) := (fun sp hsp => (HWd.out sp hsp).of (hb5.block _ hmo)); have HSP : Hid (SpAt w5 (mw k) u w4.drew.heap.size) := hsp; clear hb5 hcc hsp)))
    have c5 := HC5.out
    have hsp := HSP.out
    clear hS0 hS5 HBd HWd HCd HC5 hMk HSP hbl hmo
    cases hmw : mw k with
    | none =>
      rw [hmw] at hsp c5
      have hu : u = .slice none 0 0 := hsp
      subst hu
      clear hsp HW5 hmw HZ
      go_wp2_with fail
      go_loopw [10] (fun v wr => v = .int .i64 0 ∧ wr = w5) (fun _ _ => 0)
      case atStart => exact ⟨rfl, rfl⟩
      case round =>
        obtain ⟨rfl, rfl⟩ := hrel
        go_wp2_with fail
        go_ret
        exact ⟨rfl, HB5.out⟩
    | some sp =>
      rw [hmw] at hsp c5
      obtain ⟨ob, rfl, _, hO⟩ := hsp
      have HO : Hid (OutAt w5 ob sp) := hO
      have HW : Hid (WAt w5 (w.heap.size + mo k) sp) := HW5.out sp hmw
      have hn : sp.length ≤ 4 := mw_len k sp hmw
      generalize hnn : sp.length = n at *
      generalize w.heap.size + mo k = wb at *
      clear hO HW5 hmw HZ
      go_wp2_with fail
      go_loopw [10] (fun v wr => ∃ i m : Nat, i ≤ n ∧ v = .int .i64 i ∧ wr = w5.drewN m) (fun v _ => n - (intOf v).toNat)
      case atStart => exact ⟨0, 0, Nat.zero_le _, rfl, rfl⟩
      case round =>
        obtain ⟨i, m, hi, rfl, rfl⟩ := hrel
        by_cases hlt : i < n
        · have hq : sp[i]? = some sp[i] := List.getElem?_eq_getElem (by omega)
          obtain ⟨a1, a2, _, _⟩ := HO.out i sp[i].1 sp[i].2 hq
          obtain ⟨b1, b2⟩ := HW.out i sp[i].1 sp[i].2 hq
          generalize sp[i].1 = x at a1 b1
          generalize sp[i].2 = y at a2 b2
          have i1 : (0 : Int) ≤ (i : Int) := by omega
          have i2 : (i : Int) < (n : Int) := by omega
          clear hq
          go_wp2_with fail
          go_quiet (fail)
          go_wp2_with fail
          go_roundw
          case rel => exact ⟨i + 1, _, by omega, by go_num, rfl⟩
          case measure => simp [intOf]; omega
        · go_wp2_with fail
          go_ret
          exact ⟨rfl, ⟨HB5.out.os, HB5.out.tape, HB5.out.output, HB5.out.size, HB5.out.block⟩⟩
  · by_cases g2 : k < 18
    · obtain ⟨j, rfl⟩ : ∃ j, k = j + 10 := ⟨k - 10, by omega⟩
      have hj : j < 8 := by omega
      obtain ⟨c0, c1, c2⟩ := HP4.out j hj
      obtain ⟨ea, z1⟩ := pf_k j hj
      have hPk := pattern_k (pq j) w4 z1
      have ea2 : patAns (pq j) = pe j := ea
      rw [ea2] at hPk
      have hbl : w1.heap.size < w4.heap.size := by have := HZ.out; omega
      generalize pq j = P at *
      generalize (pe j).1 = x at *
      generalize (pe j).2 = y at *
      clear ea ea2 HM4 HP4 HK4 HT4 HTa HM HZ z1
      have e1 : ((j + 10 : Nat) : Int) - 10 = (j : Int) := by omega
      have j0 : (0 : Int) ≤ (j : Int) := by omega
      have j1 : (j : Int) < 8 := by omega
      have q1 : ¬ ((j + 10 : Nat) : Int) < 10 := by omega
      go_wp2_with fail
      refine hPk.mono ?_
      rintro e w5 ⟨rfl, hb5⟩
      have HB5 : Hid (Below w.heap.size w w5) := HBB.out.trans (hb5.mono HBB.out.size)
      have hcc : ∀ q, w5.cell? ⟨w1.heap.size, q, none⟩ = w4.cell? ⟨w1.heap.size, q, none⟩ := fun q => World.cell?_of_block (w := w4) (w' := w5) (a := ⟨w1.heap.size, q, none⟩) (hb5.block w1.heap.size hbl)
      have d1 := (hcc _).trans c1
      have d2 := (hcc _).trans c2
      clear hb5 hcc c0 c1 c2 hPk HBB hbl
      go_wp2_with fail
      go_ret
      exact ⟨rfl, HB5.out⟩
    · by_cases g3 : k < 26
      · obtain ⟨j, rfl⟩ : ∃ j, k = j + 18 := ⟨k - 18, by omega⟩
        have hj : j < 8 := by omega
        obtain ⟨c0, c1, c2⟩ := HK4.out j hj
        obtain ⟨ea, z1⟩ := sf_k j hj
        have hPk := check_k (sq j) w4 (by unfold maxLen; omega)
        have ea1 : ((readR (sq j)).2.1 : Int) = (se j).1 := congrArg Prod.fst ea
        have ea2 : ((readR (sq j)).2.2 : Int) = (se j).2 := congrArg Prod.snd ea
        rw [ea1, ea2] at hPk
        have hbl : w2.heap.size < w4.heap.size := by have := HZ.out; omega
        generalize (se j).1 = x at *
        generalize (se j).2 = y at *
        clear ea ea1 ea2
        generalize sq j = P at *
        clear HM4 HP4 HK4 HT4 HTa HM HZ z1
        have e1 : ((j + 18 : Nat) : Int) - 10 = (j : Int) + 8 := by omega
        have e2 : (j : Int) + 8 - 8 = (j : Int) := by omega
        have j0 : (0 : Int) ≤ (j : Int) := by omega
        have j1 : (j : Int) < 8 := by omega
        have q1 : ¬ ((j + 18 : Nat) : Int) < 10 := by omega
        go_wp2_with fail
        refine hPk.mono ?_
        rintro e w5 ⟨rfl, hb5⟩
        have HB5 : Hid (Below w.heap.size w w5) := HBB.out.trans (hb5.mono HBB.out.size)
        have hcc : ∀ q, w5.cell? ⟨w2.heap.size, q, none⟩ = w4.cell? ⟨w2.heap.size, q, none⟩ := fun q => World.cell?_of_block (w := w4) (w' := w5) (a := ⟨w2.heap.size, q, none⟩) (hb5.block w2.heap.size hbl)
        have d1 := (hcc _).trans c1
        have d2 := (hcc _).trans c2
        clear hb5 hcc c0 c1 c2 hPk HBB hbl
        go_wp2_with fail
        go_ret
        exact ⟨rfl, HB5.out⟩
      · obtain ⟨j, rfl⟩ : ∃ j, k = j + 26 := ⟨k - 26, by omega⟩
        have hj : j < 10 := by omega
        obtain ⟨c0, c1, c2⟩ := HT4.out j hj
        obtain ⟨ea, z1, z2⟩ := df_k mf HM.out j hj
        have hPk : ∀ W, Tab W → Calls Tryz.prog 25 #[.string (dq j), .bool false, .string (di j), .string (dw j)] W fun e w' => e = .returned (.bool true) ∧ Below W.heap.size W w' := fun W hW => makes_true mf HM.out (dq j) (di j) (dw j) false W (by unfold maxLen; omega) (by omega) hW ea
        generalize dq j = P at *
        generalize di j = X at *
        generalize dw j = Y at *
        have HZb : Hid (w3.heap.size < w4.drew.heap.size) := by have := HZ.out; show w3.heap.size < w4.heap.size; omega
        clear ea HM4 HP4 HK4 HT4 HM HZ z1 z2
        have e1 : ((j + 26 : Nat) : Int) - 10 = (j : Int) + 16 := by omega
        have e2 : (j : Int) + 16 - 8 = (j : Int) + 8 := by omega
        have e3 : (j : Int) + 8 - 8 = (j : Int) := by omega
        have j0 : (0 : Int) ≤ (j : Int) := by omega
        have j1 : (j : Int) < 10 := by omega
        have q1 : ¬ ((j + 26 : Nat) : Int) < 10 := by omega
        have hbl : w3.heap.size < w4.drew.heap.size := HZb.out
        have hS0 : w4.drew.cell? ⟨w3.heap.size, j * 3, none⟩ = some (.string P) ∧ w4.drew.cell? ⟨w3.heap.size, j * 3 + 1, none⟩ = some (.string X) ∧ w4.drew.cell? ⟨w3.heap.size, j * 3 + 2, none⟩ = some (.string Y) := ⟨c0, c1, c2⟩
        have HBd : Hid (Below w.heap.size w w4.drew) := ⟨HBB.out.os, HBB.out.tape, HBB.out.output, HBB.out.size, HBB.out.block⟩
        have HTd : Hid (Tab w4.drew) := HTa.out.below ⟨rfl, rfl, rfl, Nat.le_refl _, fun _ _ => rfl⟩
        clear c0 c1 c2 HBB HTa HZb
        go_wp2_with fail
        rw [show (j : Int) + 26 - 10 - 8 - 8 = (j : Int) by omega]
        go_region_held_law (fun W => W.cell? ⟨w3.heap.size, j * 3, none⟩ = some (.string P) ∧ W.cell? ⟨w3.heap.size, j * 3 + 1, none⟩ = some (.string X) ∧ W.cell? ⟨w3.heap.size, j * 3 + 2, none⟩ = some (.string Y)) (first | exact hS0 | exact hS5)
          (first
          | (go_at_call 25; (refine (hPk w4.drew HTd.out).mono ?_; rintro e w5 ⟨rfl, hb5⟩; have HB5 : Hid (Below w.heap.size w w5) := HBd.out.trans (hb5.mono HBd.out.size); have hcc : ∀ q, w5.cell? ⟨w3.heap.size, q, none⟩ = w4.drew.cell? ⟨w3.heap.size, q, none⟩ := fun q => World.cell?_of_block (w := w4.drew) (w' := w5) (a := ⟨w3.heap.size, q, none⟩) (hb5.block w3.heap.size hbl); have hS5 : w5.cell? ⟨w3.heap.size, j * 3, none⟩ = some (.string P) ∧ w5.cell? ⟨w3.heap.size, j * 3 + 1, none⟩ = some (.string X) ∧ w5.cell? ⟨w3.heap.size, j * 3 + 2, none⟩ = some (.string Y) := ⟨(hcc _).trans hS0.1, (hcc _).trans hS0.2.1, (hcc _).trans hS0.2.2⟩; clear hb5 hcc)))
        go_wp2_with fail
        go_ret
        exact ⟨rfl, HB5.out⟩
end Ee
end Go.Proofs.YtppjlpihaocdiaaGreatDoor

