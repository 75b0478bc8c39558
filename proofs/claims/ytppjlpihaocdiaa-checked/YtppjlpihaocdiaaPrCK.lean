/- Several texts in one. -/
import Derived.Test.YtppjlpihaocdiaaTrChoiceK
import Derived.Test.YtppjlpihaocdiaaLookK
import Derived.Test.YtppjlpihaocdiaaPrBK
/- 'Parse', with the tree that it gives. -/
set_option linter.unusedSimpArgs false
set_option linter.unusedVariables false
namespace Go.Proofs.Ytppjlpihaocdiaa
namespace Tr
open Go.RowKit

theorem Rd.tree {w : World} {b i o g T : Nat} {n : NX} {s : ByteArray} {nv : Value} (h : Rd w b s i o g nv n) (hl : 0 < n.l.length) (hm : n.l.length ≤ 200) (hX : n.X T) (hT : T < b) :
    ∃ nb cap, nv = .slice (some ⟨nb, 0, none⟩) n.l.length cap ∧ ∀ w' : World, (∀ k, k ≠ T → w'.heap[k]? = w.heap[k]?) → w'.heap.size = w.heap.size → TreeIs w' nb n.l g := by
  obtain ⟨xs, ho, hce⟩ := h.own
  obtain ⟨nb, cap, rfl, hg1, hg2⟩ := ho.form (by omega)
  refine ⟨nb, cap, rfl, fun w' hw hsz => ⟨fun a d hd => ?_, h.wf, hm, hl⟩⟩
  obtain ⟨ao, c, y0, y1, y2, y3, h1, h2, h3, h4⟩ := hce a d hd
  refine ⟨ao, c, y0, y1, y2, y3, h1, ?_, h3, fun o v hv => ?_⟩
  · rcases h2 with h2 | ⟨kb, e1, e2, e3, e4, e5⟩
    · exact .inl h2
    · by_cases hs : d.subs = []
      · exact .inl hs
      · obtain ⟨y, hy⟩ : ∃ y, d.subs[0]? = some y := by
          cases hd : d.subs with
          | nil => exact absurd hd hs
          | cons a l => exact ⟨a, rfl⟩
        have hlt : kb < w.heap.size := World.block_lt_of_cell? w _ (e5 0 y hy)
        have hne : kb ≠ T := fun e => e4 (by rw [e]; exact hX)
        exact .inr ⟨kb, e1, by omega, fun k y hy => (World.cell?_of_block (w := w) (w' := w') (a := ⟨kb, k, none⟩) (hw kb hne)).trans (e5 k y hy)⟩
  · have hx := h4 o v hv
    rcases ho.2 with ⟨e, _⟩ | ⟨g', cap', cur, hv', _, hh, _, _, _, ht⟩
    · cases e
    · cases hv'
      rw [World.cell?_of_block (w := w) (w' := w') (a := ⟨nb, a * 9 + o, none⟩) (hw nb (by omega)), cell_of_row w nb _ cur 92 (0, 0) hh]
      rw [← ht, List.getElem?_take] at hx
      split at hx
      · simpa using hx
      · cases hx

/-- The block that Parse's tree is laid in. -/
structure Tr (w : World) (N : Nat) (v0 v1 v2 : Value) : Prop where
  c0 : w.cell? ⟨N, 0, none⟩ = some v0
  c1 : w.cell? ⟨N, 1, none⟩ = some v1
  c2 : w.cell? ⟨N, 2, none⟩ = some v2
  f0 : w.frozen? ⟨N, 0, none⟩ = false
  f1 : w.frozen? ⟨N, 1, none⟩ = false
  f2 : w.frozen? ⟨N, 2, none⟩ = false

theorem Tr.below {w w' : World} {N B : Nat} {v0 v1 v2 : Value} (h : Tr w N v0 v1 v2) (hb : Below B w w') (hN : N < B) : Tr w' N v0 v1 v2 := by
  have hx := hb.block N hN
  have hc : ∀ k, w'.cell? ⟨N, k, none⟩ = w.cell? ⟨N, k, none⟩ := fun k => World.cell?_of_block (w := w) (w' := w') (a := ⟨N, k, none⟩) hx
  have hf : ∀ k, w'.frozen? ⟨N, k, none⟩ = w.frozen? ⟨N, k, none⟩ := fun k => World.frozen?_of_block (w := w) (w' := w') (a := ⟨N, k, none⟩) hx
  exact ⟨(hc 0).trans h.c0, (hc 1).trans h.c1, (hc 2).trans h.c2, (hf 0).trans h.f0, (hf 1).trans h.f1, (hf 2).trans h.f2⟩

set_option maxHeartbeats 1000000 in
theorem parse_any (s : ByteArray) (w : World) (hs : s.size ≤ 40) :
    Calls Try.prog 17 #[.string s] w fun e w' => ∃ (ao : Option Addr) (l c : Nat) (r g : Int) (p : Int) (ok : Bool), e = .returned (.tuple #[.agg #[.slice ao l c, .int .i64 r, .int .i64 g], .int .i64 p, .bool ok]) ∧
      ((ok = true ∧ Wholly s ∧ ∃ nb : Nat, ao = some ⟨nb, 0, none⟩ ∧ l = (treeOf s).1.l.length ∧ r = ((treeOf s).2 : Nat) ∧ g = ((treeOf s).1.g : Nat) ∧ (treeOf s).2 < (treeOf s).1.l.length ∧ (treeOf s).1.g ≤ 9 ∧ TreeIs w' nb (treeOf s).1.l (treeOf s).1.g) ∨ (ok = false ∧ ∃ j : Nat, p = j ∧ Fails s j)) ∧ Below w.heap.size w w' := by
  go_enter Try.func17, Try.ntmps17
  go_wp2_with fail
  have hR : Rd ((w.alloc (.cells #[.slice none 0 0, .int .i64 0, .int .i64 0] 43)).alloc (.cells #[.string s, .int .i64 0, .int .i64 0, .int .i64 0, .slice none 0 0] 70)) (w.heap.size + 1) s 0 0 0 (.slice none 0 0) ⟨[], fun k => k = w.heap.size⟩ :=
    ⟨⟨by go_simp, by go_simp, by go_simp, Nat.zero_le _, by omega⟩, by go_simp, by go_simp, by go_simp, by go_simp, by go_simp, by go_simp, ⟨[], World.ownsRow_nil _ _ _ _, fun k d hd => by cases hd⟩, fun a d hd => by cases hd⟩
  have hT : Tr ((w.alloc (.cells #[.slice none 0 0, .int .i64 0, .int .i64 0] 43)).alloc (.cells #[.string s, .int .i64 0, .int .i64 0, .int .i64 0, .slice none 0 0] 70)) w.heap.size (.slice none 0 0) (.int .i64 0) (.int .i64 0) := by
    constructor <;> go_simp
  have hB : Below w.heap.size w ((w.alloc (.cells #[.slice none 0 0, .int .i64 0, .int .i64 0] 43)).alloc (.cells #[.string s, .int .i64 0, .int .i64 0, .int .i64 0, .slice none 0 0] 70)) := ((Below.refl _ _).alloc (Nat.le_refl _) _).alloc (by simp) _
  have hw0 : w.heap.size < ((w.alloc (.cells #[.slice none 0 0, .int .i64 0, .int .i64 0] 43)).alloc (.cells #[.string s, .int .i64 0, .int .i64 0, .int .i64 0, .slice none 0 0] 70)).heap.size := by simp; omega
  generalize ((w.alloc (.cells #[.slice none 0 0, .int .i64 0, .int .i64 0] 43)).alloc (.cells #[.string s, .int .i64 0, .int .i64 0, .int .i64 0, .slice none 0 0] 70)) = w0 at hR hT hB hw0
  refine (choice_all 41 (w.heap.size + 1) 0 0 0 ⟨[], fun k => k = w.heap.size⟩ s (.slice none 0 0) ⟨0, 0, 0, 0⟩ _ hR (Nat.le_refl _) (fun q hq => by simp only at hq; omega) rfl rfl rfl rfl (by omega)).mono ?_
  rintro e w1 ⟨z, ok, rfl, hP⟩
  have hN : w.heap.size < w.heap.size + 1 := by omega
  rcases hP with ⟨rfl, j, g', n', nv', st, zn, q1, q2, q3, q4, q5, q6, q7, q8, q9, rfl, q11, q12⟩ | ⟨rfl, j, q1, q2, q3⟩
  · have hB1 := q2.below hR
    have HT1 : Hid (Tr w1 w.heap.size (.slice none 0 0) (.int .i64 0) (.int .i64 0)) := hT.below hB1 hN
    have HB1 : Hid (Below w.heap.size w w1) := hB.trans (hB1.mono (by omega))
    have hjs := q1.rc.le
    have hg9 : g' ≤ 9 := by have := (small_run q3).2.2.1; omega
    have HTO : Hid (treeOf s = (⟨j, g', n'.l⟩, zn)) := q12
    obtain ⟨nb, cap, rfl, htree⟩ := q1.tree (T := w.heap.size) (by omega) (by have h7 := q7; simp only [List.length_nil] at h7; omega) (by rw [q9]) (by omega)
    have HTR : Hid (∀ w' : World, (∀ k, k ≠ w.heap.size → w'.heap[k]? = w1.heap[k]?) → w'.heap.size = w1.heap.size → TreeIs w' nb n'.l g') := htree
    clear htree q9 q12
    obtain ⟨⟨r0, r1, rf, rle, r40⟩, c2, c3, c4, f2, f3, f4, own, hwf⟩ := q1
    obtain ⟨t0, t1, t2, u0, u1, u2⟩ := HT1.out
    have hne : w.heap.size + 1 ≠ w.heap.size := by omega
    clear own hwf hR hT hB q2 hB1
    by_cases hlt : j < s.size
    · have HF : Hid (Fails s j) := Fails.here q3 rle (fun h => step_stuck q8 h (.inr q4)) (fun e => by omega)
      clear q3 q8
      go_wp2_with fail
      go_region
      all_goals go_wp2
      all_goals exact bodyPost_ret (v := .tuple #[.agg #[.slice none 0 0, .int .i64 0, .int .i64 0], .int .i64 (j : Int), .bool false]) (by simp [results, Try.results17, go_sem, *]) rfl ⟨_, _, _, _, _, _, false, rfl, .inr ⟨rfl, j, rfl, HF.out⟩, (((HB1.out.setCell (Nat.le_refl _) _).setCell (Nat.le_refl _) _).setCell (Nat.le_refl _) _).drew⟩
    · have hjs : j = s.size := by omega
      have HW : Hid (Wholly s) := by
        rw [hjs] at q3
        refine ⟨st, q3, ?_⟩
        rcases q8.1.1 with x | x
        · simp [whole, q4, x.1]
        · simp [whole, q4, x]
      clear q3 q8
      go_wp2_with fail
      exact bodyPost_ret (v := .tuple #[.agg #[.slice (some ⟨nb, 0, none⟩) n'.l.length cap, .int .i64 (zn : Int), .int .i64 (g' : Int)], .int .i64 0, .bool true]) (by simp [results, Try.results17, go_sem, *]) rfl ⟨_, _, _, _, _, _, true, rfl, .inl ⟨rfl, HW.out, nb, rfl, by rw [HTO.out], by rw [HTO.out], by rw [HTO.out], by rw [HTO.out]; exact q11, by rw [HTO.out]; exact hg9, by rw [HTO.out]; exact HTR.out _ (fun k hk => by rw [Below.heap_setCell _ _ _ _ hk, Below.heap_setCell _ _ _ _ hk, Below.heap_setCell _ _ _ _ hk]) (by rw [size_set, size_set, size_set])⟩, ((HB1.out.setCell (Nat.le_refl _) _).setCell (Nat.le_refl _) _).setCell (Nat.le_refl _) _⟩
  · have hB1 := q3
    have HT1 : Hid (Tr w1 w.heap.size (.slice none 0 0) (.int .i64 0) (.int .i64 0)) := hT.below hB1 hN
    have HB1 : Hid (Below w.heap.size w w1) := hB.trans (hB1.mono (by omega))
    have HF : Hid (Fails s j) := q1
    obtain ⟨t0, t1, t2, u0, u1, u2⟩ := HT1.out
    clear hR hT hB q1 hB1 q3
    go_wp2_with fail
    go_region
    all_goals go_wp2
    all_goals exact bodyPost_ret (v := .tuple #[.agg #[.slice none 0 0, .int .i64 0, .int .i64 0], .int .i64 (j : Int), .bool false]) (by simp [results, Try.results17, go_sem, *]) rfl ⟨_, _, _, _, _, _, false, rfl, .inr ⟨rfl, j, rfl, HF.out⟩, (((HB1.out.setCell (Nat.le_refl _) _).setCell (Nat.le_refl _) _).setCell (Nat.le_refl _) _).drew⟩

end Tr
end Go.Proofs.Ytppjlpihaocdiaa

/- 'Parse' for texts of any length of a script, and the tree's own memory. -/
set_option linter.unusedSimpArgs false
set_option linter.unusedVariables false
namespace Go.Proofs.Ytppjlpihaocdiaa
namespace Rs
open Go.RowKit

/-- A tree that lies in the blocks above lo and below hi, whatever the others hold. -/
def TreeIn (w : World) (lo hi nb : Nat) (nodes : List Nd) (groups : Nat) : Prop :=
  hi ≤ w.heap.size ∧ ∀ w' : World, (∀ k, lo < k → k < hi → w'.heap[k]? = w.heap[k]?) → hi ≤ w'.heap.size → TreeIs w' nb nodes groups

theorem TreeIn.is {w : World} {lo hi nb : Nat} {nodes : List Nd} {groups : Nat} (h : TreeIn w lo hi nb nodes groups) : TreeIs w nb nodes groups := h.2 w (fun _ _ _ => rfl) h.1

theorem TreeIn.of {w w' : World} {lo hi nb : Nat} {nodes : List Nd} {groups : Nat} (h : TreeIn w lo hi nb nodes groups) (hb : ∀ k, lo < k → k < hi → w'.heap[k]? = w.heap[k]?) (hs : hi ≤ w'.heap.size) : TreeIn w' lo hi nb nodes groups :=
  ⟨hs, fun w'' h1 h2 => h.2 w'' (fun k a c => (h1 k a c).trans (hb k a c)) h2⟩

theorem Rd.treeIn {w : World} {b i o g T : Nat} {n : Tr.NX} {s : ByteArray} {nv : Value} (h : Tr.Rd w b s i o g nv n) (hl : 0 < n.l.length) (hX : ∀ k, k ≤ T → n.X k) (hT : T < b) :
    ∃ nb cap, nv = .slice (some ⟨nb, 0, none⟩) n.l.length cap ∧ (n.l.length ≤ 200 → ∀ w' : World, (∀ k, T < k → k < w.heap.size → w'.heap[k]? = w.heap[k]?) → w.heap.size ≤ w'.heap.size → TreeIs w' nb n.l g) := by
  obtain ⟨xs, ho, hce⟩ := h.own
  obtain ⟨nb, cap, rfl, hg1, hg2⟩ := ho.form (by omega)
  refine ⟨nb, cap, rfl, fun hm w' hw hsz => ⟨fun a d hd => ?_, h.wf, hm, hl⟩⟩
  obtain ⟨ao, c, y0, y1, y2, y3, h1, h2, h3, h4⟩ := hce a d hd
  refine ⟨ao, c, y0, y1, y2, y3, h1, ?_, h3, fun o v hv => ?_⟩
  · rcases h2 with h2 | ⟨kb, e1, e2, e3, e4, e5⟩
    · exact .inl h2
    · by_cases hs : d.subs = []
      · exact .inl hs
      · obtain ⟨y, hy⟩ : ∃ y, d.subs[0]? = some y := by
          cases hd : d.subs with
          | nil => exact absurd hd hs
          | cons a l => exact ⟨a, rfl⟩
        have hlt : kb < w.heap.size := World.block_lt_of_cell? w _ (e5 0 y hy)
        have hne : T < kb := by
          by_cases hk : T < kb
          · exact hk
          · exact absurd (hX kb (by omega)) e4
        exact .inr ⟨kb, e1, by omega, fun k y hy => (World.cell?_of_block (w := w) (w' := w') (a := ⟨kb, k, none⟩) (hw kb hne hlt)).trans (e5 k y hy)⟩
  · have hx := h4 o v hv
    have hnl := (ho.lt nb rfl)
    rcases ho.2 with ⟨e, _⟩ | ⟨g', cap', cur, hv', _, hh, _, _, _, ht⟩
    · cases e
    · cases hv'
      rw [World.cell?_of_block (w := w) (w' := w') (a := ⟨nb, a * 9 + o, none⟩) (hw nb (by omega) hnl.2), cell_of_row w nb _ cur 92 (0, 0) hh]
      rw [← ht, List.getElem?_take] at hx
      split at hx
      · simpa using hx
      · cases hx

set_option maxHeartbeats 1000000 in
theorem parse_at (N : Nat) (s : ByteArray) (w : World) (hs : s.size ≤ 400) (hN : s.size < N) :
    Calls Try.prog 17 #[.string s] w fun e w' => ∃ (ao : Option Addr) (l c : Nat) (r g : Int) (p : Int) (ok : Bool), e = .returned (.tuple #[.agg #[.slice ao l c, .int .i64 r, .int .i64 g], .int .i64 p, .bool ok]) ∧
      ((ok = true ∧ Wholly s ∧ g = (grps s : Nat) ∧ ∃ nb : Nat, ao = some ⟨nb, 0, none⟩ ∧ l = (choiceN s N ⟨0, 0, []⟩).1.l.length ∧ r = ((choiceN s N ⟨0, 0, []⟩).2 : Nat) ∧ (choiceN s N ⟨0, 0, []⟩).1.g = grps s ∧ (choiceN s N ⟨0, 0, []⟩).2 < (choiceN s N ⟨0, 0, []⟩).1.l.length ∧ grps s ≤ 9 ∧ (s.size ≤ 40 → TreeIn w' w.heap.size w'.heap.size nb (choiceN s N ⟨0, 0, []⟩).1.l (grps s))) ∨ (ok = false ∧ ∃ j : Nat, p = j ∧ Fails s j)) ∧ Below w.heap.size w w' := by
  obtain ⟨M, rfl⟩ : ∃ M, N = M := ⟨N, rfl⟩
  go_enter Try.func17, Try.ntmps17
  go_wp2_with fail
  have hR : Tr.Rd ((w.alloc (.cells #[.slice none 0 0, .int .i64 0, .int .i64 0] 43)).alloc (.cells #[.string s, .int .i64 0, .int .i64 0, .int .i64 0, .slice none 0 0] 70)) (w.heap.size + 1) s 0 0 0 (.slice none 0 0) ⟨[], fun k => k ≤ w.heap.size⟩ :=
    ⟨⟨by go_simp, by go_simp, by go_simp, Nat.zero_le _, hs⟩, by go_simp, by go_simp, by go_simp, by go_simp, by go_simp, by go_simp, ⟨[], World.ownsRow_nil _ _ _ _, fun k d hd => by cases hd⟩, fun a d hd => by cases hd⟩
  have hT : Tr.Tr ((w.alloc (.cells #[.slice none 0 0, .int .i64 0, .int .i64 0] 43)).alloc (.cells #[.string s, .int .i64 0, .int .i64 0, .int .i64 0, .slice none 0 0] 70)) w.heap.size (.slice none 0 0) (.int .i64 0) (.int .i64 0) := by
    constructor <;> go_simp
  have hB : Below w.heap.size w ((w.alloc (.cells #[.slice none 0 0, .int .i64 0, .int .i64 0] 43)).alloc (.cells #[.string s, .int .i64 0, .int .i64 0, .int .i64 0, .slice none 0 0] 70)) := ((Below.refl _ _).alloc (Nat.le_refl _) _).alloc (by simp) _
  have hw0 : w.heap.size < ((w.alloc (.cells #[.slice none 0 0, .int .i64 0, .int .i64 0] 43)).alloc (.cells #[.string s, .int .i64 0, .int .i64 0, .int .i64 0, .slice none 0 0] 70)).heap.size := by simp; omega
  generalize ((w.alloc (.cells #[.slice none 0 0, .int .i64 0, .int .i64 0] 43)).alloc (.cells #[.string s, .int .i64 0, .int .i64 0, .int .i64 0, .slice none 0 0] 70)) = w0 at hR hT hB hw0
  refine (Tr.choice_all N (w.heap.size + 1) 0 0 0 ⟨[], fun k => k ≤ w.heap.size⟩ s (.slice none 0 0) ⟨0, 0, 0, 0⟩ _ hR (by simp) (fun q hq => by simp only at hq; omega) rfl rfl rfl rfl (by omega)).mono ?_
  rintro e w1 ⟨z, ok, rfl, hP⟩
  have hNN : w.heap.size < w.heap.size + 1 := by omega
  rcases hP with ⟨rfl, j, g', n', nv', st, zn, q1, q2, q3, q4, q5, q6, q7, q8, q9, rfl, q11, q12⟩ | ⟨rfl, j, q1, q2, q3⟩
  · have hB1 := q2.below hR
    have HT1 : Hid (Tr.Tr w1 w.heap.size (.slice none 0 0) (.int .i64 0) (.int .i64 0)) := hT.below hB1 hNN
    have HB1 : Hid (Below w.heap.size w w1) := hB.trans (hB1.mono (by omega))
    have hjs := q1.rc.le
    have hg9 : g' ≤ 9 := by have := (small_run q3).2.2.1; omega
    have HTO : Hid (choiceN s N ⟨0, 0, []⟩ = (⟨j, g', n'.l⟩, zn)) := q12
    have hlen : s.size ≤ 40 → n'.l.length ≤ 200 := fun h => by have h7 := q7; simp only [List.length_nil] at h7; omega
    obtain ⟨nb, cap, rfl, htree⟩ := Rd.treeIn (T := w.heap.size) q1 (by omega) (fun k hk => by rw [q9]; exact hk) (by omega)
    have HTR : Hid (s.size ≤ 40 → ∀ w' : World, (∀ k, w.heap.size < k → k < w1.heap.size → w'.heap[k]? = w1.heap[k]?) → w1.heap.size ≤ w'.heap.size → TreeIs w' nb n'.l g') := fun h => htree (hlen h)
    have HSG : Hid (st.a = g') := q5
    clear htree q9 q12 hlen
    obtain ⟨⟨r0, r1, rf, rle, r40⟩, c2, c3, c4, f2, f3, f4, own, hwf⟩ := q1
    obtain ⟨t0, t1, t2, u0, u1, u2⟩ := HT1.out
    have hne : w.heap.size + 1 ≠ w.heap.size := by omega
    clear own hwf hR hT hB q2 hB1
    by_cases hlt : j < s.size
    · have HF : Hid (Fails s j) := Fails.here q3 rle (fun h => Tr.step_stuck q8 h (.inr q4)) (fun e => by omega)
      clear q3 q8
      go_wp2_with fail
      go_region
      all_goals go_wp2
      all_goals exact bodyPost_ret (v := .tuple #[.agg #[.slice none 0 0, .int .i64 0, .int .i64 0], .int .i64 (j : Int), .bool false]) (by simp [results, Try.results17, go_sem, *]) rfl ⟨_, _, _, _, _, _, false, rfl, .inr ⟨rfl, j, rfl, HF.out⟩, (((HB1.out.setCell (Nat.le_refl _) _).setCell (Nat.le_refl _) _).setCell (Nat.le_refl _) _).drew⟩
    · have hjs : j = s.size := by omega
      have HG : Hid (grps s = g') := by
        rw [hjs] at q3
        rw [Hid, grps, q3]
        exact HSG.out
      have HW : Hid (Wholly s) := by
        rw [hjs] at q3
        refine ⟨st, q3, ?_⟩
        rcases q8.1.1 with x | x
        · simp [whole, q4, x.1]
        · simp [whole, q4, x]
      clear q3 q8
      go_wp2_with fail
      refine bodyPost_ret (v := .tuple #[.agg #[.slice (some ⟨nb, 0, none⟩) n'.l.length cap, .int .i64 (zn : Int), .int .i64 (g' : Int)], .int .i64 0, .bool true]) (by simp [results, Try.results17, go_sem, *]) rfl ⟨_, _, _, _, _, _, true, rfl, .inl ⟨rfl, HW.out, by rw [HG.out], nb, rfl, by rw [HTO.out], by rw [HTO.out], by rw [HTO.out, HG.out], by rw [HTO.out]; exact q11, by rw [HG.out]; exact hg9, fun h => ?_⟩, ((HB1.out.setCell (Nat.le_refl _) _).setCell (Nat.le_refl _) _).setCell (Nat.le_refl _) _⟩
      rw [HTO.out, HG.out]
      refine ⟨Nat.le_refl _, fun w'' h1 h2 => HTR.out h w'' (fun k a c => ?_) (by rw [size_set, size_set, size_set] at h2; exact h2)⟩
      rw [h1 k a (by rw [size_set, size_set, size_set]; exact c), Below.heap_setCell _ _ _ _ (by simp only; omega), Below.heap_setCell _ _ _ _ (by simp only; omega), Below.heap_setCell _ _ _ _ (by simp only; omega)]
  · have hB1 := q3
    have HT1 : Hid (Tr.Tr w1 w.heap.size (.slice none 0 0) (.int .i64 0) (.int .i64 0)) := hT.below hB1 hNN
    have HB1 : Hid (Below w.heap.size w w1) := hB.trans (hB1.mono (by omega))
    have HF : Hid (Fails s j) := q1
    obtain ⟨t0, t1, t2, u0, u1, u2⟩ := HT1.out
    clear hR hT hB q1 hB1 q3
    go_wp2_with fail
    go_region
    all_goals go_wp2
    all_goals exact bodyPost_ret (v := .tuple #[.agg #[.slice none 0 0, .int .i64 0, .int .i64 0], .int .i64 (j : Int), .bool false]) (by simp [results, Try.results17, go_sem, *]) rfl ⟨_, _, _, _, _, _, false, rfl, .inr ⟨rfl, j, rfl, HF.out⟩, (((HB1.out.setCell (Nat.le_refl _) _).setCell (Nat.le_refl _) _).setCell (Nat.le_refl _) _).drew⟩

/-- The pattern's tree lies at these three values. -/
def PatAt (w : World) (lo hi : Nat) (t : ByteArray) (v0 v1 v2 : Value) : Prop :=
  v2 = .int .i64 (grps t : Nat) ∧ grps t ≤ 9 ∧ (t.size ≤ 40 → ∃ nb cap : Nat, v0 = .slice (some ⟨nb, 0, none⟩) (treeOf t).1.l.length cap ∧ v1 = .int .i64 ((treeOf t).2 : Nat) ∧ (treeOf t).1.g = grps t ∧ (treeOf t).2 < (treeOf t).1.l.length ∧ TreeIn w lo hi nb (treeOf t).1.l (grps t))

theorem failF_run {t : ByteArray} : ∀ (f i : Nat) (st : St), run t i = some st → f + i = t.size → (∀ j, failF t f i st = some j → Fails t j) ∧ (failF t f i st = none → Wholly t)
  | 0, i, st, h, e => by
    obtain rfl : i = t.size := by omega
    unfold failF
    split
    · rename_i hw
      exact ⟨fun j hj => (by cases hj), fun _ => ⟨st, h, hw⟩⟩
    · rename_i hw
      refine ⟨fun j hj => ?_, fun hj => (by cases hj)⟩
      cases hj
      exact ⟨st, h, Nat.le_refl _, fun hh => absurd hh (by omega), fun _ => by simpa using hw⟩
  | f + 1, i, st, h, e => by
    unfold failF
    cases hs : step st (byt t i) with
    | some st' =>
      simp only
      exact failF_run f (i + 1) st' (by rw [run_succ h, hs]) (by omega)
    | none =>
      simp only
      refine ⟨fun j hj => ?_, fun hj => (by cases hj)⟩
      cases hj
      exact ⟨st, h, by omega, fun _ => hs, fun hh => absurd hh (by omega)⟩

theorem failAt_fails {t : ByteArray} {j : Nat} (h : Fails t j) : failAt t = some j := by
  obtain ⟨h1, h2⟩ := failF_run t.size 0 ⟨0, 0, 0, 0⟩ (t := t) rfl (by omega)
  cases hf : failAt t with
  | some k => rw [(h1 k hf).unique h]
  | none => exact (h.not_wholly (h2 hf)).elim
theorem failAt_whole {t : ByteArray} (h : Wholly t) : failAt t = none := by
  obtain ⟨h1, h2⟩ := failF_run t.size 0 ⟨0, 0, 0, 0⟩ (t := t) rfl (by omega)
  cases hf : failAt t with
  | some k => exact ((h1 k hf).not_wholly h).elim
  | none => rfl

theorem parse_wide (s : ByteArray) (w : World) (hs : s.size ≤ 400) :
    Calls Try.prog 17 #[.string s] w fun e w' => ∃ (ao : Option Addr) (l c : Nat) (r g : Int) (p : Int) (ok : Bool), e = .returned (.tuple #[.agg #[.slice ao l c, .int .i64 r, .int .i64 g], .int .i64 p, .bool ok]) ∧
      ((ok = true ∧ failAt s = none ∧ PatAt w' w.heap.size w'.heap.size s (.slice ao l c) (.int .i64 r) (.int .i64 g)) ∨ (ok = false ∧ ∃ j : Nat, p = j ∧ j ≤ s.size ∧ failAt s = some j)) ∧ Below w.heap.size w w' := by
  by_cases h40 : s.size ≤ 40
  · refine (parse_at 41 s w hs (by omega)).mono ?_
    rintro e w' ⟨ao, l, c, r, g, p, ok, rfl, h, hB⟩
    refine ⟨_, _, _, _, _, p, ok, rfl, ?_, hB⟩
    rcases h with ⟨rfl, h1, rfl, nb, rfl, rfl, rfl, h2, h3, h4, h5⟩ | ⟨rfl, j, rfl, h1⟩
    · exact .inl ⟨rfl, failAt_whole h1, rfl, h4, fun _ => ⟨nb, c, rfl, rfl, h2, h3, h5 h40⟩⟩
    · exact .inr ⟨rfl, j, rfl, by obtain ⟨_, _, h, _⟩ := h1; exact h, failAt_fails h1⟩
  · refine (parse_at 401 s w hs (by omega)).mono ?_
    rintro e w' ⟨ao, l, c, r, g, p, ok, rfl, h, hB⟩
    refine ⟨_, _, _, _, _, p, ok, rfl, ?_, hB⟩
    rcases h with ⟨rfl, h1, rfl, nb, rfl, rfl, rfl, h2, h3, h4, h5⟩ | ⟨rfl, j, rfl, h1⟩
    · exact .inl ⟨rfl, failAt_whole h1, rfl, h4, fun h => absurd h h40⟩
    · exact .inr ⟨rfl, j, rfl, by obtain ⟨_, _, h, _⟩ := h1; exact h, failAt_fails h1⟩

end Rs
end Go.Proofs.Ytppjlpihaocdiaa

/- The program's reader of scripts: a pattern and the slash behind it. -/
set_option linter.unusedSimpArgs false
set_option linter.unusedVariables false
namespace Go.Proofs.Ytppjlpihaocdiaa
namespace Rs
open Go.RowKit

theorem byt_extract (s : ByteArray) (i e k : Nat) (hk : i + k < e) : byt (s.extract i e) k = byt s (i + k) := by
  unfold byt
  rw [List.getD_eq_getElem?_getD, List.getD_eq_getElem?_getD, Lib.extract_data, List.getElem?_take, if_pos (by omega), List.getElem?_drop]

theorem slash_shift (s : ByteArray) (i : Nat) (hi : i ≤ s.size) : ∀ (f k : Nat), slashF (s.extract i s.size) f k + i = slashF s f (i + k)
  | 0, k => by simp [slashF, ByteArray.size_extract]; omega
  | f + 1, k => by
    unfold slashF
    have hsz : (s.extract i s.size).size = s.size - i := by simp [ByteArray.size_extract]
    by_cases h : k < s.size - i
    · rw [if_pos (by rw [hsz]; exact h), if_pos (show i + k < s.size by omega), byt_extract s i s.size k (by omega)]
      by_cases h1 : byt s (i + k) = 47
      · rw [if_pos h1, if_pos h1]; omega
      · rw [if_neg h1, if_neg h1]
        by_cases h2 : byt s (i + k) = 92
        · rw [if_pos h2, if_pos h2, slash_shift s i hi f (k + 2)]; rfl
        · rw [if_neg h2, if_neg h2, slash_shift s i hi f (k + 1)]; rfl
    · rw [if_neg (by rw [hsz]; exact h), if_neg (show ¬ i + k < s.size by omega)]; omega

/-- More steps than bytes change nothing. -/
theorem slashF_more (s : ByteArray) : ∀ (f f' k : Nat), s.size < f + k → s.size < f' + k → slashF s f k = slashF s f' k
  | 0, 0, k, _, _ => rfl
  | 0, f' + 1, k, h, h' => by unfold slashF; rw [if_neg (by omega)]
  | f + 1, 0, k, h, h' => by unfold slashF; rw [if_neg (by omega)]
  | f + 1, f' + 1, k, h, h' => by
    unfold slashF
    split
    · split
      · rfl
      · split
        · exact slashF_more s f f' (k + 2) (by omega) (by omega)
        · exact slashF_more s f f' (k + 1) (by omega) (by omega)
    · rfl

theorem slash_ge (s : ByteArray) : ∀ (f k : Nat), k ≤ s.size → k ≤ slashF s f k
  | 0, k, h => h
  | f + 1, k, h => by
    unfold slashF
    split
    · split
      · exact Nat.le_refl _
      · split
        · by_cases h2 : k + 2 ≤ s.size
          · have := slash_ge s f (k + 2) h2; omega
          · have e : slashF s f (k + 2) = s.size := by
              cases f with
              | zero => rfl
              | succ f => rw [slashF, if_neg (by omega)]
            omega
        · have := slash_ge s f (k + 1) (by omega); omega
    · omega

theorem pat_text (s : ByteArray) (i : Nat) (hi : i ≤ s.size) : (s.extract i s.size).extract 0 (slash (s.extract i s.size) 0) = s.extract i (slash s i) := by
  have h1 := slash_shift s i hi ((s.extract i s.size).size + 1) 0
  have hsz : (s.extract i s.size).size = s.size - i := by simp [ByteArray.size_extract]
  have h2 : slashF s ((s.extract i s.size).size + 1) (i + 0) = slash s i := slashF_more s _ _ _ (by omega) (by omega)
  rw [h2] at h1
  have h3 : slash (s.extract i s.size) 0 = slash s i - i := by unfold slash at *; omega
  have h4 : i ≤ slash s i := slash_ge s _ i hi
  have h5 : slash s i ≤ s.size := slashF_le s _ _
  rw [h3]
  apply ByteArray.ext
  apply Array.toList_inj.1
  rw [Lib.extract_data, Lib.extract_data, Lib.extract_data]
  rw [Nat.sub_zero, List.drop_zero, List.take_take]
  congr 1
  omega

theorem pat_size (s : ByteArray) (i : Nat) (hi : i ≤ s.size) : (s.extract i (slash s i)).size = slash s i - i := by
  have h5 : slash s i ≤ s.size := slashF_le s _ _
  simp [ByteArray.size_extract]; omega

/-- The reader's place, and where the first too long pattern is. -/
structure Cu (w : World) (b : Nat) (s : ByteArray) (i : Nat) (lg : Int) : Prop where
  rc : Rc w b s i
  c5 : w.cell? ⟨b, 5, none⟩ = some (.int .i64 lg)
  f5 : w.frozen? ⟨b, 5, none⟩ = false

/-- Nothing old has turned but these two. -/
structure Mw (b : Nat) (w w' : World) : Prop where
  os : w'.os = w.os
  tape : w'.tape = w.tape
  output : w'.output = w.output
  size : w.heap.size ≤ w'.heap.size
  block : ∀ k, k < w.heap.size → k ≠ b → w'.heap[k]? = w.heap[k]?
  cell : ∀ k, k ≠ 1 → k ≠ 5 → w'.cell? ⟨b, k, none⟩ = w.cell? ⟨b, k, none⟩
  frz : ∀ k, w'.frozen? ⟨b, k, none⟩ = w.frozen? ⟨b, k, none⟩

theorem Mw.refl (b : Nat) (w : World) : Mw b w w := ⟨rfl, rfl, rfl, Nat.le_refl _, fun _ _ _ => rfl, fun _ _ _ => rfl, fun _ => rfl⟩
theorem Mw.trans {b : Nat} {u v w : World} (h : Mw b u v) (k : Mw b v w) : Mw b u w :=
  ⟨k.os.trans h.os, k.tape.trans h.tape, k.output.trans h.output, Nat.le_trans h.size k.size, fun i hi hb => (k.block i (Nat.lt_of_lt_of_le hi h.size) hb).trans (h.block i hi hb), fun i h1 h2 => (k.cell i h1 h2).trans (h.cell i h1 h2), fun i => (k.frz i).trans (h.frz i)⟩
theorem Mw.mv {b j : Nat} {w w' : World} (h : Mv b w w' j) : Mw b w w' :=
  ⟨h.only.os, h.only.tape, h.only.output, by rw [h.only.size]; exact Nat.le_refl _, fun k _ hb => h.only.block k hb, fun k h1 _ => h.cell k h1, h.frz⟩
theorem Mw.below {b : Nat} {w w' : World} (h : Below w.heap.size w w') (hb : b < w.heap.size) : Mw b w w' :=
  ⟨h.os, h.tape, h.output, h.size, fun k hk _ => h.block k hk, fun k _ _ => h.cell (p := ⟨b, k, none⟩) hb, fun k => h.frozen (p := ⟨b, k, none⟩) hb⟩
theorem Mw.drewN {b : Nat} {u w : World} (h : Mw b u w) (n : Nat) : Mw b u (w.drewN n) := h.trans ⟨rfl, rfl, rfl, Nat.le_refl _, fun _ _ _ => rfl, fun _ _ _ => rfl, fun _ => rfl⟩
theorem Mw.set1 {b : Nat} {u w : World} (h : Mw b u w) (v : Value) : Mw b u (w.setCell ⟨b, 1, none⟩ v) :=
  h.trans ⟨rfl, rfl, rfl, by rw [size_set]; exact Nat.le_refl _, fun k _ hb => Below.heap_setCell _ _ _ _ hb, fun k h1 _ => World.cell?_setCell_other (h := fun e => h1 (by injection e with _ e _; exact e.symm)) .., fun k => World.frozen?_setCell ..⟩
theorem Mw.set5 {b : Nat} {u w : World} (h : Mw b u w) (v : Value) : Mw b u (w.setCell ⟨b, 5, none⟩ v) :=
  h.trans ⟨rfl, rfl, rfl, by rw [size_set]; exact Nat.le_refl _, fun k _ hb => Below.heap_setCell _ _ _ _ hb, fun k _ h1 => World.cell?_setCell_other (h := fun e => h1 (by injection e with _ e _; exact e.symm)) .., fun k => World.frozen?_setCell ..⟩
/-- A block that is new, and a store into it. -/
theorem Mw.alloc {b : Nat} {u w : World} (h : Mw b u w) (hb : b < u.heap.size) (o : Obj) : Mw b u (w.alloc o) :=
  h.trans (Mw.below ((Below.refl _ _).alloc (Nat.le_refl _) o) (Nat.lt_of_lt_of_le hb h.size))
theorem Mw.setNew {b B k : Nat} {u w : World} (h : Mw b u w) (hB : u.heap.size ≤ B) (hb : b < u.heap.size) (v : Value) : Mw b u (w.setCell ⟨B, k, none⟩ v) := by
  have hne : b ≠ B := by omega
  exact ⟨h.os, h.tape, h.output, by rw [size_set]; exact h.size, fun i hi hb' => by rw [Below.heap_setCell _ _ _ _ (by simp only; omega)]; exact h.block i hi hb', fun i h1 h2 => by rw [World.cell?_setCell_other (h := fun e => hne (by injection e with e _ _; exact e.symm))]; exact h.cell i h1 h2, fun i => by rw [World.frozen?_setCell]; exact h.frz i⟩

theorem Cu.lt {w : World} {b : Nat} {s : ByteArray} {i : Nat} {lg : Int} (h : Cu w b s i lg) : b < w.heap.size := World.block_lt_of_cell? w _ h.rc.c0
theorem Cu.below {w w' : World} {b : Nat} {s : ByteArray} {i : Nat} {lg : Int} (h : Cu w b s i lg) (hb : Below w.heap.size w w') : Cu w' b s i lg := by
  have hl := h.lt
  obtain ⟨⟨r0, r1, rf, rle, r40⟩, c5, f5⟩ := h
  have hc : ∀ k, w'.cell? ⟨b, k, none⟩ = w.cell? ⟨b, k, none⟩ := fun k => hb.cell (p := ⟨b, k, none⟩) hl
  have hf : ∀ k, w'.frozen? ⟨b, k, none⟩ = w.frozen? ⟨b, k, none⟩ := fun k => hb.frozen (p := ⟨b, k, none⟩) hl
  exact ⟨⟨(hc 0).trans r0, (hc 1).trans r1, (hf 1).trans rf, rle, r40⟩, (hc 5).trans c5, (hf 5).trans f5⟩
theorem Cu.mv {w w' : World} {b : Nat} {s : ByteArray} {i j : Nat} {lg : Int} (h : Cu w b s i lg) (hm : Mv b w w' j) (hj : j ≤ s.size) : Cu w' b s j lg :=
  ⟨hm.rc h.rc hj, (hm.cell 5 (by omega)).trans h.c5, (hm.frz 5).trans h.f5⟩
theorem Cu.drewN {w : World} {b : Nat} {s : ByteArray} {i : Nat} {lg : Int} (h : Cu w b s i lg) (n : Nat) : Cu (w.drewN n) b s i lg := ⟨h.rc.drewN n, h.c5, h.f5⟩

theorem Cu.alloc {w : World} {b : Nat} {s : ByteArray} {i : Nat} {lg : Int} (h : Cu w b s i lg) (o : Obj) : Cu (w.alloc o) b s i lg := h.below ((Below.refl _ _).alloc (Nat.le_refl _) o)
theorem Cu.setNew {w : World} {b B k : Nat} {s : ByteArray} {i : Nat} {lg : Int} (h : Cu w b s i lg) (hB : b ≠ B) (v : Value) : Cu (w.setCell ⟨B, k, none⟩ v) b s i lg := by
  obtain ⟨⟨r0, r1, rf, rle, r40⟩, c5, f5⟩ := h
  have hc : ∀ o, (w.setCell ⟨B, k, none⟩ v).cell? ⟨b, o, none⟩ = w.cell? ⟨b, o, none⟩ := fun o => World.cell?_setCell_other (h := fun e => hB (by injection e with e _ _; exact e.symm)) ..
  have hf : ∀ o, (w.setCell ⟨B, k, none⟩ v).frozen? ⟨b, o, none⟩ = w.frozen? ⟨b, o, none⟩ := fun o => World.frozen?_setCell ..
  exact ⟨⟨(hc 0).trans r0, (hc 1).trans r1, (hf 1).trans rf, rle, r40⟩, (hc 5).trans c5, (hf 5).trans f5⟩
theorem Cu.put {w : World} {b : Nat} {s : ByteArray} {i : Nat} {lg : Int} (h : Cu w b s i lg) {v : Int} (j : Nat) (hv : v = j) (hj : j ≤ s.size) : Cu (w.setCell ⟨b, 1, none⟩ (.int .i64 v)) b s j lg := h.mv (.put h.rc.c1 j hv) hj
theorem Cu.put5 {w : World} {b : Nat} {s : ByteArray} {i : Nat} {lg : Int} (h : Cu w b s i lg) (v : Int) : Cu (w.setCell ⟨b, 5, none⟩ (.int .i64 v)) b s i v := by
  obtain ⟨⟨r0, r1, rf, rle, r40⟩, c5, f5⟩ := h
  exact ⟨⟨by go_simp, by go_simp, by go_simp, rle, r40⟩, by go_simp, by go_simp⟩

/-- Three values in a block. -/
structure Th (w : World) (N : Nat) (v0 v1 v2 : Value) : Prop where
  c0 : w.cell? ⟨N, 0, none⟩ = some v0
  c1 : w.cell? ⟨N, 1, none⟩ = some v1
  c2 : w.cell? ⟨N, 2, none⟩ = some v2
  f0 : w.frozen? ⟨N, 0, none⟩ = false
  f1 : w.frozen? ⟨N, 1, none⟩ = false
  f2 : w.frozen? ⟨N, 2, none⟩ = false

theorem Th.of {w w' : World} {N : Nat} {v0 v1 v2 : Value} (h : Th w N v0 v1 v2) (hx : w'.heap[N]? = w.heap[N]?) : Th w' N v0 v1 v2 := by
  have hc : ∀ k, w'.cell? ⟨N, k, none⟩ = w.cell? ⟨N, k, none⟩ := fun k => World.cell?_of_block (w := w) (w' := w') (a := ⟨N, k, none⟩) hx
  have hf : ∀ k, w'.frozen? ⟨N, k, none⟩ = w.frozen? ⟨N, k, none⟩ := fun k => World.frozen?_of_block (w := w) (w' := w') (a := ⟨N, k, none⟩) hx
  exact ⟨(hc 0).trans h.c0, (hc 1).trans h.c1, (hc 2).trans h.c2, (hf 0).trans h.f0, (hf 1).trans h.f1, (hf 2).trans h.f2⟩

theorem PatAt.of {w w' : World} {lo hi : Nat} {t : ByteArray} {v0 v1 v2 : Value} (h : PatAt w lo hi t v0 v1 v2) (hb : ∀ k, lo < k → k < hi → w'.heap[k]? = w.heap[k]?) (hs : hi ≤ w'.heap.size) : PatAt w' lo hi t v0 v1 v2 := by
  obtain ⟨h1, h2, h3⟩ := h
  refine ⟨h1, h2, fun h40 => ?_⟩
  obtain ⟨nb, cap, a1, a2, a3, a4, a5⟩ := h3 h40
  exact ⟨nb, cap, a1, a2, a3, a4, a5.of hb hs⟩

/-- What is wider holds too. -/
theorem PatAt.wide {w : World} {lo hi lo' hi' : Nat} {t : ByteArray} {v0 v1 v2 : Value} (h : PatAt w lo hi t v0 v1 v2) (h1 : lo' ≤ lo) (h2 : hi ≤ hi') (h3 : hi' ≤ w.heap.size) : PatAt w lo' hi' t v0 v1 v2 := by
  obtain ⟨a1, a2, a3⟩ := h
  refine ⟨a1, a2, fun h40 => ?_⟩
  obtain ⟨nb, cap, b1, b2, b3, b4, b5⟩ := a3 h40
  exact ⟨nb, cap, b1, b2, b3, b4, h3, fun w' c1 c2 => b5.2 w' (fun k d1 d2 => c1 k (by omega) (by omega)) (by omega)⟩

/-- The blocks between lo and hi are as they were. -/
structure Keep (lo hi : Nat) (u w : World) : Prop where
  same : ∀ k, lo < k → k < hi → w.heap[k]? = u.heap[k]?
  size : hi ≤ w.heap.size
theorem Keep.refl {lo hi : Nat} {u : World} (h : hi ≤ u.heap.size) : Keep lo hi u u := ⟨fun _ _ _ => rfl, h⟩
theorem Keep.set {lo hi : Nat} {u w : World} (h : Keep lo hi u w) {B o : Nat} {v : Value} (hB : B ≤ lo ∨ hi ≤ B) : Keep lo hi u (w.setCell ⟨B, o, none⟩ v) :=
  ⟨fun k h1 h2 => by rw [Below.heap_setCell _ _ _ _ (by simp only; omega)]; exact h.same k h1 h2, by rw [size_set]; exact h.size⟩
theorem Keep.alloc {lo hi : Nat} {u w : World} (h : Keep lo hi u w) {o : Obj} : Keep lo hi u (w.alloc o) :=
  ⟨fun k h1 h2 => by rw [Below.heap_alloc _ _ _ (Nat.lt_of_lt_of_le h2 h.size)]; exact h.same k h1 h2, by have := h.size; simp; omega⟩
theorem Keep.drewN {lo hi : Nat} {u w : World} (h : Keep lo hi u w) (n : Nat) : Keep lo hi u (w.drewN n) := ⟨h.same, h.size⟩
theorem Keep.drew {lo hi : Nat} {u w : World} (h : Keep lo hi u w) : Keep lo hi u w.drew := ⟨h.same, h.size⟩
theorem PatAt.kept {u w : World} {lo hi : Nat} {t : ByteArray} {v0 v1 v2 : Value} (h : PatAt u lo hi t v0 v1 v2) (k : Keep lo hi u w) : PatAt w lo hi t v0 v1 v2 := h.of k.same k.size
theorem PatAt.keep {u w : World} {lo lo' hi : Nat} {t : ByteArray} {v0 v1 v2 : Value} (h : PatAt u lo hi t v0 v1 v2) (k : Keep lo hi u w) (hl : lo' ≤ lo) : PatAt w lo' w.heap.size t v0 v1 v2 := (h.of k.same k.size).wide hl k.size (Nat.le_refl _)

end Rs
end Go.Proofs.Ytppjlpihaocdiaa

