/- The two Patterns, the program's and the document's: each answers 'Ans'. -/
import Derived.Test.YtppjlpihaocdiaaChoice
import Derived.Test.YtppjlpihaocdiaaRefP
set_option linter.unusedSimpArgs false
set_option linter.unusedVariables false
namespace Go.Proofs.Ytppjlpihaocdiaa
open Go.RowKit

/-- The block that Parse's tree is laid in. -/
structure Tr (w : World) (N : Nat) (v0 v1 v2 : Value) : Prop where
  c0 : w.cell? ⟨N, 0, none⟩ = some v0
  c1 : w.cell? ⟨N, 1, none⟩ = some v1
  c2 : w.cell? ⟨N, 2, none⟩ = some v2
  f0 : w.frozen? ⟨N, 0, none⟩ = false
  f1 : w.frozen? ⟨N, 1, none⟩ = false
  f2 : w.frozen? ⟨N, 2, none⟩ = false

theorem Tr.below {w w' : World} {N B : Nat} {v0 v1 v2 : Value} (h : Tr w N v0 v1 v2) (hb : Below B w w') (hN : N < B) : Tr w' N v0 v1 v2 := by
  have hx := hb.block N hN
  have hc : ∀ k, w'.cell? ⟨N, k, none⟩ = w.cell? ⟨N, k, none⟩ := fun k => World.cell?_of_block (w := w) (w' := w') (a := ⟨N, k, none⟩) hx
  have hf : ∀ k, w'.frozen? ⟨N, k, none⟩ = w.frozen? ⟨N, k, none⟩ := fun k => World.frozen?_of_block (w := w) (w' := w') (a := ⟨N, k, none⟩) hx
  exact ⟨(hc 0).trans h.c0, (hc 1).trans h.c1, (hc 2).trans h.c2, (hf 0).trans h.f0, (hf 1).trans h.f1, (hf 2).trans h.f2⟩

set_option maxHeartbeats 1000000 in
theorem parse_any (s : ByteArray) (w : World) (hs : s.size ≤ 40) :
    Calls Try.prog 17 #[.string s] w fun e w' => ∃ (ao : Option Addr) (l c : Nat) (r g : Int) (p : Int) (ok : Bool), e = .returned (.tuple #[.agg #[.slice ao l c, .int .i64 r, .int .i64 g], .int .i64 p, .bool ok]) ∧
      ((ok = true ∧ Wholly s) ∨ (ok = false ∧ ∃ j : Nat, p = j ∧ Fails s j)) ∧ Below w.heap.size w w' := by
  go_enter Try.func17, Try.ntmps17
  go_wp2_with fail
  have hR : Rd ((w.alloc (.cells #[.slice none 0 0, .int .i64 0, .int .i64 0] 43)).alloc (.cells #[.string s, .int .i64 0, .int .i64 0, .int .i64 0, .slice none 0 0] 70)) (w.heap.size + 1) s 0 0 0 (.slice none 0 0) 0 :=
    ⟨⟨by go_simp, by go_simp, by go_simp, Nat.zero_le _, by omega⟩, by go_simp, by go_simp, by go_simp, by go_simp, by go_simp, by go_simp, [], World.ownsRow_nil _ _ _ _⟩
  have hT : Tr ((w.alloc (.cells #[.slice none 0 0, .int .i64 0, .int .i64 0] 43)).alloc (.cells #[.string s, .int .i64 0, .int .i64 0, .int .i64 0, .slice none 0 0] 70)) w.heap.size (.slice none 0 0) (.int .i64 0) (.int .i64 0) := by
    constructor <;> go_simp
  have hB : Below w.heap.size w ((w.alloc (.cells #[.slice none 0 0, .int .i64 0, .int .i64 0] 43)).alloc (.cells #[.string s, .int .i64 0, .int .i64 0, .int .i64 0, .slice none 0 0] 70)) := ((Below.refl _ _).alloc (Nat.le_refl _) _).alloc (by simp) _
  generalize ((w.alloc (.cells #[.slice none 0 0, .int .i64 0, .int .i64 0] 43)).alloc (.cells #[.string s, .int .i64 0, .int .i64 0, .int .i64 0, .slice none 0 0] 70)) = w0 at hR hT hB
  refine (choice_all 41 (w.heap.size + 1) 0 0 0 0 s (.slice none 0 0) ⟨0, 0, 0, 0⟩ _ hR (by omega) rfl rfl rfl rfl (by omega)).mono ?_
  rintro e w1 ⟨z, ok, rfl, hP⟩
  have hN : w.heap.size < w.heap.size + 1 := by omega
  rcases hP with ⟨rfl, j, g', n', nv', st, q1, q2, q3, q4, q5, q6, q7, q8⟩ | ⟨rfl, j, q1, q2, q3⟩
  · have hB1 := q2.below hR
    have HT1 : Hid (Tr w1 w.heap.size (.slice none 0 0) (.int .i64 0) (.int .i64 0)) := hT.below hB1 hN
    have HB1 : Hid (Below w.heap.size w w1) := hB.trans (hB1.mono (by omega))
    obtain ⟨ao, l, c, rfl⟩ : ∃ ao l c, nv' = .slice ao l c := by
      obtain ⟨xs, _, ho⟩ := q1.own
      rcases ho with ⟨h, _⟩ | ⟨g0, cap, cur, h, _⟩
      · exact ⟨_, _, _, h⟩
      · exact ⟨_, _, _, h⟩
    obtain ⟨⟨r0, r1, rf, rle, r40⟩, c2, c3, c4, f2, f3, f4, own⟩ := q1
    obtain ⟨t0, t1, t2, u0, u1, u2⟩ := HT1.out
    have hne : w.heap.size + 1 ≠ w.heap.size := by omega
    clear own hR hT hB q2 hB1
    by_cases hlt : j < s.size
    · have HF : Hid (Fails s j) := Fails.here q3 rle (fun h => step_stuck q8 h (.inr q4)) (fun e => by omega)
      clear q3 q8
      go_wp2_with fail
      go_region
      all_goals go_wp2
      all_goals exact bodyPost_ret (v := .tuple #[.agg #[.slice none 0 0, .int .i64 0, .int .i64 0], .int .i64 (j : Int), .bool false]) (by simp [results, Try.results17, go_sem, *]) rfl ⟨_, _, _, _, _, _, false, rfl, .inr ⟨rfl, j, rfl, HF.out⟩, (((HB1.out.setCell (Nat.le_refl _) _).setCell (Nat.le_refl _) _).setCell (Nat.le_refl _) _).drew⟩
    · have hjs : j = s.size := by omega
      have HW : Hid (Wholly s) := by
        rw [hjs] at q3
        refine ⟨st, q3, ?_⟩
        rcases q8.1.1 with x | x
        · simp [whole, q4, x.1]
        · simp [whole, q4, x]
      clear q3 q8
      go_wp2_with fail
      exact bodyPost_ret (v := .tuple #[.agg #[.slice ao l c, .int .i64 z, .int .i64 (g' : Int)], .int .i64 0, .bool true]) (by simp [results, Try.results17, go_sem, *]) rfl ⟨_, _, _, _, _, _, true, rfl, .inl ⟨rfl, HW.out⟩, ((HB1.out.setCell (Nat.le_refl _) _).setCell (Nat.le_refl _) _).setCell (Nat.le_refl _) _⟩
  · have hB1 := q3
    have HT1 : Hid (Tr w1 w.heap.size (.slice none 0 0) (.int .i64 0) (.int .i64 0)) := hT.below hB1 hN
    have HB1 : Hid (Below w.heap.size w w1) := hB.trans (hB1.mono (by omega))
    have HF : Hid (Fails s j) := q1
    obtain ⟨t0, t1, t2, u0, u1, u2⟩ := HT1.out
    clear hR hT hB q1 hB1 q3
    go_wp2_with fail
    go_region
    all_goals go_wp2
    all_goals exact bodyPost_ret (v := .tuple #[.agg #[.slice none 0 0, .int .i64 0, .int .i64 0], .int .i64 (j : Int), .bool false]) (by simp [results, Try.results17, go_sem, *]) rfl ⟨_, _, _, _, _, _, false, rfl, .inr ⟨rfl, j, rfl, HF.out⟩, (((HB1.out.setCell (Nat.le_refl _) _).setCell (Nat.le_refl _) _).setCell (Nat.le_refl _) _).drew⟩

set_option maxHeartbeats 1000000 in
theorem pattern_any (s : ByteArray) (w : World) (hs : s.size ≤ maxLen) :
    Calls Try.prog 8 #[.string s] w fun e w' => ∃ ec p : Int, e = .returned (.tuple #[.int .i64 ec, .int .i64 p]) ∧ Ans s ec p ∧ Below w.heap.size w w' := by
  unfold maxLen at hs
  by_cases h40 : 40 < s.size
  · go_enter Try.func8, Try.ntmps8
    go_wp2_with fail
    go_ret2
    exact ⟨1, 0, rfl, .inl ⟨h40, rfl, rfl⟩, Below.refl _ _⟩
  · have hle : s.size ≤ 40 := by omega
    go_enter Try.func8, Try.ntmps8
    go_wp2_with fail
    refine (parse_any s _ hle).mono ?_
    rintro e w1 ⟨ao, l, c, r, g, p, ok, rfl, hP, hB⟩
    have HB : Hid (Below w.heap.size w w1) := hB
    have hsz := hB.size
    rcases hP with ⟨rfl, hW⟩ | ⟨rfl, j, rfl, hF⟩
    · have HW : Hid (Wholly s) := hW
      clear hW hB
      go_wp2_with fail
      go_ret2
      exact ⟨0, 0, rfl, .inr (.inr ⟨hle, rfl, rfl, HW.out⟩), HB.out.alloc hsz _⟩
    · have HF : Hid (Fails s j) := hF
      clear hF hB
      go_wp2_with fail
      go_ret2
      exact ⟨2, j, rfl, .inr (.inl ⟨hle, rfl, j, rfl, HF.out⟩), HB.out.alloc hsz _⟩

set_option maxHeartbeats 1000000 in
theorem patterned_any (s : ByteArray) (w : World) (hs : s.size ≤ maxLen) :
    Calls Try.prog 3 #[.string s] w fun e w' => e = .returned (.bool true) ∧ Below w.heap.size w w' := by
  go_enter Try.func3, Try.ntmps3
  go_wp2_with fail
  refine (pattern_any s _ hs).mono ?_
  rintro e w1 ⟨ec, p, rfl, hA, hB⟩
  have HA : Hid (Ans s ec p) := hA
  have HB : Hid (Below w.heap.size w w1) := hB
  clear hA hB
  go_wp2_with fail
  refine (refPattern_any s _ hs).mono ?_
  rintro e w2 ⟨ec', p', rfl, hA', hB'⟩
  obtain ⟨rfl, rfl⟩ := HA.out.unique hA'
  have HB2 : Hid (Below w.heap.size w w2) := HB.out.trans (hB'.mono HB.out.size)
  clear hA' hB' HA HB
  go_wp2_with fail
  go_ret
  exact ⟨ret_bool (by simp), HB2.out⟩

end Go.Proofs.Ytppjlpihaocdiaa
