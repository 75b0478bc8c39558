/- 'Parse', with the tree that it gives. -/
import Derived.Test.YtppjlpihaocdiaaTrChoice
import Derived.Test.YtppjlpihaocdiaaLook
set_option linter.unusedSimpArgs false
set_option linter.unusedVariables false
namespace Go.Proofs.Ytppjlpihaocdiaa
namespace Tr
open Go.RowKit

theorem Rd.tree {w : World} {b i o g T : Nat} {n : NX} {s : ByteArray} {nv : Value} (h : Rd w b s i o g nv n) (hl : 0 < n.l.length) (hm : n.l.length ≤ 200) (hX : n.X T) (hT : T < b) :
    ∃ nb cap, nv = .slice (some ⟨nb, 0, none⟩) n.l.length cap ∧ ∀ w' : World, (∀ k, k ≠ T → w'.heap[k]? = w.heap[k]?) → w'.heap.size = w.heap.size → TreeIs w' nb n.l g := by
  obtain ⟨xs, ho, hce⟩ := h.own
  obtain ⟨nb, cap, rfl, hg1, hg2⟩ := ho.form (by omega)
  refine ⟨nb, cap, rfl, fun w' hw hsz => ⟨fun a d hd => ?_, h.wf, hm, hl⟩⟩
  obtain ⟨ao, c, y0, y1, y2, y3, h1, h2, h3, h4⟩ := hce a d hd
  refine ⟨ao, c, y0, y1, y2, y3, h1, ?_, h3, fun o v hv => ?_⟩
  · rcases h2 with h2 | ⟨kb, e1, e2, e3, e4, e5⟩
    · exact .inl h2
    · by_cases hs : d.subs = []
      · exact .inl hs
      · obtain ⟨y, hy⟩ : ∃ y, d.subs[0]? = some y := by
          cases hd : d.subs with
          | nil => exact absurd hd hs
          | cons a l => exact ⟨a, rfl⟩
        have hlt : kb < w.heap.size := World.block_lt_of_cell? w _ (e5 0 y hy)
        have hne : kb ≠ T := fun e => e4 (by rw [e]; exact hX)
        exact .inr ⟨kb, e1, by omega, fun k y hy => (World.cell?_of_block (w := w) (w' := w') (a := ⟨kb, k, none⟩) (hw kb hne)).trans (e5 k y hy)⟩
  · have hx := h4 o v hv
    rcases ho.2 with ⟨e, _⟩ | ⟨g', cap', cur, hv', _, hh, _, _, _, ht⟩
    · cases e
    · cases hv'
      rw [World.cell?_of_block (w := w) (w' := w') (a := ⟨nb, a * 9 + o, none⟩) (hw nb (by omega)), cell_of_row w nb _ cur 92 (0, 0) hh]
      rw [← ht, List.getElem?_take] at hx
      split at hx
      · simpa using hx
      · cases hx

/-- The block that Parse's tree is laid in. -/
structure Tr (w : World) (N : Nat) (v0 v1 v2 : Value) : Prop where
  c0 : w.cell? ⟨N, 0, none⟩ = some v0
  c1 : w.cell? ⟨N, 1, none⟩ = some v1
  c2 : w.cell? ⟨N, 2, none⟩ = some v2
  f0 : w.frozen? ⟨N, 0, none⟩ = false
  f1 : w.frozen? ⟨N, 1, none⟩ = false
  f2 : w.frozen? ⟨N, 2, none⟩ = false

theorem Tr.below {w w' : World} {N B : Nat} {v0 v1 v2 : Value} (h : Tr w N v0 v1 v2) (hb : Below B w w') (hN : N < B) : Tr w' N v0 v1 v2 := by
  have hx := hb.block N hN
  have hc : ∀ k, w'.cell? ⟨N, k, none⟩ = w.cell? ⟨N, k, none⟩ := fun k => World.cell?_of_block (w := w) (w' := w') (a := ⟨N, k, none⟩) hx
  have hf : ∀ k, w'.frozen? ⟨N, k, none⟩ = w.frozen? ⟨N, k, none⟩ := fun k => World.frozen?_of_block (w := w) (w' := w') (a := ⟨N, k, none⟩) hx
  exact ⟨(hc 0).trans h.c0, (hc 1).trans h.c1, (hc 2).trans h.c2, (hf 0).trans h.f0, (hf 1).trans h.f1, (hf 2).trans h.f2⟩

set_option maxHeartbeats 1000000 in
theorem parse_any (s : ByteArray) (w : World) (hs : s.size ≤ 40) :
    Calls Try.prog 17 #[.string s] w fun e w' => ∃ (ao : Option Addr) (l c : Nat) (r g : Int) (p : Int) (ok : Bool), e = .returned (.tuple #[.agg #[.slice ao l c, .int .i64 r, .int .i64 g], .int .i64 p, .bool ok]) ∧
      ((ok = true ∧ Wholly s ∧ ∃ nb : Nat, ao = some ⟨nb, 0, none⟩ ∧ l = (treeOf s).1.l.length ∧ r = ((treeOf s).2 : Nat) ∧ g = ((treeOf s).1.g : Nat) ∧ (treeOf s).2 < (treeOf s).1.l.length ∧ (treeOf s).1.g ≤ 9 ∧ TreeIs w' nb (treeOf s).1.l (treeOf s).1.g) ∨ (ok = false ∧ ∃ j : Nat, p = j ∧ Fails s j)) ∧ Below w.heap.size w w' := by
  go_enter Try.func17, Try.ntmps17
  go_wp2_with fail
  have hR : Rd ((w.alloc (.cells #[.slice none 0 0, .int .i64 0, .int .i64 0] 43)).alloc (.cells #[.string s, .int .i64 0, .int .i64 0, .int .i64 0, .slice none 0 0] 70)) (w.heap.size + 1) s 0 0 0 (.slice none 0 0) ⟨[], fun k => k = w.heap.size⟩ :=
    ⟨⟨by go_simp, by go_simp, by go_simp, Nat.zero_le _, by omega⟩, by go_simp, by go_simp, by go_simp, by go_simp, by go_simp, by go_simp, ⟨[], World.ownsRow_nil _ _ _ _, fun k d hd => by cases hd⟩, fun a d hd => by cases hd⟩
  have hT : Tr ((w.alloc (.cells #[.slice none 0 0, .int .i64 0, .int .i64 0] 43)).alloc (.cells #[.string s, .int .i64 0, .int .i64 0, .int .i64 0, .slice none 0 0] 70)) w.heap.size (.slice none 0 0) (.int .i64 0) (.int .i64 0) := by
    constructor <;> go_simp
  have hB : Below w.heap.size w ((w.alloc (.cells #[.slice none 0 0, .int .i64 0, .int .i64 0] 43)).alloc (.cells #[.string s, .int .i64 0, .int .i64 0, .int .i64 0, .slice none 0 0] 70)) := ((Below.refl _ _).alloc (Nat.le_refl _) _).alloc (by simp) _
  have hw0 : w.heap.size < ((w.alloc (.cells #[.slice none 0 0, .int .i64 0, .int .i64 0] 43)).alloc (.cells #[.string s, .int .i64 0, .int .i64 0, .int .i64 0, .slice none 0 0] 70)).heap.size := by simp; omega
  generalize ((w.alloc (.cells #[.slice none 0 0, .int .i64 0, .int .i64 0] 43)).alloc (.cells #[.string s, .int .i64 0, .int .i64 0, .int .i64 0, .slice none 0 0] 70)) = w0 at hR hT hB hw0
  refine (choice_all 41 (w.heap.size + 1) 0 0 0 ⟨[], fun k => k = w.heap.size⟩ s (.slice none 0 0) ⟨0, 0, 0, 0⟩ _ hR (Nat.le_refl _) (fun q hq => by simp only at hq; omega) rfl rfl rfl rfl (by omega)).mono ?_
  rintro e w1 ⟨z, ok, rfl, hP⟩
  have hN : w.heap.size < w.heap.size + 1 := by omega
  rcases hP with ⟨rfl, j, g', n', nv', st, zn, q1, q2, q3, q4, q5, q6, q7, q8, q9, rfl, q11, q12⟩ | ⟨rfl, j, q1, q2, q3⟩
  · have hB1 := q2.below hR
    have HT1 : Hid (Tr w1 w.heap.size (.slice none 0 0) (.int .i64 0) (.int .i64 0)) := hT.below hB1 hN
    have HB1 : Hid (Below w.heap.size w w1) := hB.trans (hB1.mono (by omega))
    have hjs := q1.rc.le
    have hg9 : g' ≤ 9 := by have := (small_run q3).2.2.1; omega
    have HTO : Hid (treeOf s = (⟨j, g', n'.l⟩, zn)) := q12
    obtain ⟨nb, cap, rfl, htree⟩ := q1.tree (T := w.heap.size) (by omega) (by have h7 := q7; simp only [List.length_nil] at h7; omega) (by rw [q9]) (by omega)
    have HTR : Hid (∀ w' : World, (∀ k, k ≠ w.heap.size → w'.heap[k]? = w1.heap[k]?) → w'.heap.size = w1.heap.size → TreeIs w' nb n'.l g') := htree
    clear htree q9 q12
    obtain ⟨⟨r0, r1, rf, rle, r40⟩, c2, c3, c4, f2, f3, f4, own, hwf⟩ := q1
    obtain ⟨t0, t1, t2, u0, u1, u2⟩ := HT1.out
    have hne : w.heap.size + 1 ≠ w.heap.size := by omega
    clear own hwf hR hT hB q2 hB1
    by_cases hlt : j < s.size
    · have HF : Hid (Fails s j) := Fails.here q3 rle (fun h => step_stuck q8 h (.inr q4)) (fun e => by omega)
      clear q3 q8
      go_wp2_with fail
      go_region
      all_goals go_wp2
      all_goals exact bodyPost_ret (v := .tuple #[.agg #[.slice none 0 0, .int .i64 0, .int .i64 0], .int .i64 (j : Int), .bool false]) (by simp [results, Try.results17, go_sem, *]) rfl ⟨_, _, _, _, _, _, false, rfl, .inr ⟨rfl, j, rfl, HF.out⟩, (((HB1.out.setCell (Nat.le_refl _) _).setCell (Nat.le_refl _) _).setCell (Nat.le_refl _) _).drew⟩
    · have hjs : j = s.size := by omega
      have HW : Hid (Wholly s) := by
        rw [hjs] at q3
        refine ⟨st, q3, ?_⟩
        rcases q8.1.1 with x | x
        · simp [whole, q4, x.1]
        · simp [whole, q4, x]
      clear q3 q8
      go_wp2_with fail
      exact bodyPost_ret (v := .tuple #[.agg #[.slice (some ⟨nb, 0, none⟩) n'.l.length cap, .int .i64 (zn : Int), .int .i64 (g' : Int)], .int .i64 0, .bool true]) (by simp [results, Try.results17, go_sem, *]) rfl ⟨_, _, _, _, _, _, true, rfl, .inl ⟨rfl, HW.out, nb, rfl, by rw [HTO.out], by rw [HTO.out], by rw [HTO.out], by rw [HTO.out]; exact q11, by rw [HTO.out]; exact hg9, by rw [HTO.out]; exact HTR.out _ (fun k hk => by rw [Below.heap_setCell _ _ _ _ hk, Below.heap_setCell _ _ _ _ hk, Below.heap_setCell _ _ _ _ hk]) (by rw [size_set, size_set, size_set])⟩, ((HB1.out.setCell (Nat.le_refl _) _).setCell (Nat.le_refl _) _).setCell (Nat.le_refl _) _⟩
  · have hB1 := q3
    have HT1 : Hid (Tr w1 w.heap.size (.slice none 0 0) (.int .i64 0) (.int .i64 0)) := hT.below hB1 hN
    have HB1 : Hid (Below w.heap.size w w1) := hB.trans (hB1.mono (by omega))
    have HF : Hid (Fails s j) := q1
    obtain ⟨t0, t1, t2, u0, u1, u2⟩ := HT1.out
    clear hR hT hB q1 hB1 q3
    go_wp2_with fail
    go_region
    all_goals go_wp2
    all_goals exact bodyPost_ret (v := .tuple #[.agg #[.slice none 0 0, .int .i64 0, .int .i64 0], .int .i64 (j : Int), .bool false]) (by simp [results, Try.results17, go_sem, *]) rfl ⟨_, _, _, _, _, _, false, rfl, .inr ⟨rfl, j, rfl, HF.out⟩, (((HB1.out.setCell (Nat.le_refl _) _).setCell (Nat.le_refl _) _).setCell (Nat.le_refl _) _).drew⟩

end Tr
end Go.Proofs.Ytppjlpihaocdiaa
