import Derived.Test.YtppjlpihaocdiaaRefAJ
import Derived.Test.YtppjlpihaocdiaaRefRowLawsJ
set_option linter.unusedSimpArgs false
set_option linter.unusedVariables false
namespace Go.Proofs.Ytppjlpihaocdiaa
open Go.RowKit

/-- A set of places, as the 82 cells of an Ends. -/
def endsL (f : Nat → Bool) : List Value := (List.range 82).map fun k => Value.bool (f k)
theorem endsL_length (f : Nat → Bool) : (endsL f).length = 82 := by simp [endsL]
theorem endsL_at (f : Nat → Bool) {k : Nat} (hk : k < 82) : (endsL f)[k]? = some (.bool (f k)) := by simp [endsL, hk]
theorem endsL_set (f : Nat → Bool) (k : Nat) (b : Bool) : (endsL f).set k (.bool b) = endsL fun j => if j = k then b else f j := by
  apply List.ext_getElem?
  intro j
  by_cases hj : j < 82
  · rw [endsL_at _ hj]
    by_cases hjk : j = k
    · subst hjk
      rw [List.getElem?_set_self (by rw [endsL_length]; exact hj), if_pos rfl]
    · rw [List.getElem?_set_ne (fun e => hjk e.symm), endsL_at _ hj, if_neg hjk]
  · rw [List.getElem?_eq_none (by rw [List.length_set, endsL_length]; omega), List.getElem?_eq_none (by rw [endsL_length]; omega)]
theorem endsL_one (f : Nat → Bool) : ∀ v ∈ endsL f, v.oneCell' = true := by
  intro v hv
  simp only [endsL, List.mem_map] at hv
  obtain ⟨k, _, rfl⟩ := hv
  rfl
theorem endsL_congr {f g : Nat → Bool} (h : ∀ k, k < 82 → f k = g k) : endsL f = endsL g := by
  unfold endsL
  apply List.map_congr_left
  intro k hk
  rw [h k (by simpa using hk)]

theorem Try.info114 : (Try.prog.info? 114).map (fun i => (i.zero, i.size)) = some (some (.agg (endsL fun _ => false).toArray), (endsL fun _ => false).length) := by kernel_rfl
theorem Try.size114 (f : Nat → Bool) : (Try.prog.info? 114).map (·.size) = some (endsL f).length := by
  rw [endsL_length]; kernel_rfl

set_option maxRecDepth 100000 in
set_option maxHeartbeats 1000000 in
theorem donly_any (i : Nat) (w : World) (hi : i ≤ 81) :
    Calls Try.prog 86 #[.int .i64 i] w fun e w' => e = .returned (.agg (endsL fun k => decide (k = i)).toArray) ∧ Below w.heap.size w w' := by
  have k1 : (0 : Int) ≤ (i : Int) := by omega
  have k2 : (i : Int) < 82 := by omega
  go_enter Try.func86, Try.ntmps86
  go_wp2_with (first
    | (refine wpList_alloc_row 2 rfl rfl 114 rfl _ Try.info114 ?_; intro w1 h1 hR1 hB1; have HR1 : Hid (Row w1 w.heap.size (endsL fun _ => false)) := hR1; have HB1 : Hid (Below w.heap.size w w1) := hB1; clear hR1 hB1)
    | (refine wpList_alloc_row 3 rfl rfl 114 rfl _ Try.info114 ?_; intro w2 h2 hR2 hB2; rw [h1] at hR2 hB2 h2; have HR2 : Hid (Row w2 (w.heap.size + 1) (endsL fun _ => false)) := hR2; have HB2 : Hid (Below (w.heap.size + 1) w1 w2) := hB2; have c2 := hR2.cell (endsL_at _ (k := i) (by omega)); have f2 := hR2.frozen (k := i) (by rw [endsL_length]; omega); clear hR2 hB2)
    | (refine wpList_load_row 6 rfl rfl 114 (.tmp 3) rfl _ rfl _ _ (HR2.out.put i (by rw [endsL_length]; omega) _) Try.underlying114 rfl (by rw [endsL_set]; exact Try.size114 _) ?_)
    | (refine wpList_store_row rfl 114 (.tmp 2) (.tmp 6) rfl _ rfl _ rfl _ ((HR1.out.below HB2.out (by omega)).sole ((Sole.refl _ _).setCell _ _) (by omega)) (by rw [endsL_set, endsL_length, endsL_length]) (by rw [endsL_set]; exact Try.size114 _) (by rw [endsL_set]; exact endsL_one _) ?_; intro w3 hR3 hS3))
  refine bodyPost_row 2 114 Try.results86 rfl _ rfl _ _ hR3 Try.underlying114 rfl (by rw [endsL_set]; exact Try.size114 _) ⟨?_, ?_⟩
  · rw [endsL_set]
    rw [endsL_congr (g := fun k => decide (k = i)) (fun k _ => by by_cases h : k = i <;> simp [h])]
  · have hx : Below w.heap.size w w2 := HB1.out.trans (HB2.out.mono (by omega))
    exact Below.sole (hx.setCell (Nat.le_succ _) _) hS3 (Nat.le_refl _)

theorem put_or (f g : Nat → Bool) (k : Nat) : (endsL fun j => if j < k then f j || g j else f j).set k (.bool (f k || g k)) = endsL fun j => if j < k + 1 then f j || g j else f j := by
  rw [endsL_set]
  apply endsL_congr
  intro j _
  by_cases h : j = k
  · subst h; simp
  · by_cases h2 : j < k
    · simp [h, h2, show j < k + 1 by omega]
    · simp [h, h2, show ¬ j < k + 1 by omega]

set_option maxRecDepth 100000 in
set_option maxHeartbeats 1000000 in
theorem joined_any (f g : Nat → Bool) (w : World) :
    Calls Try.prog 106 #[.agg (endsL f).toArray, .agg (endsL g).toArray] w fun e w' => e = .returned (.agg (endsL fun k => f k || g k).toArray) ∧ Below w.heap.size w w' := by
  go_enter Try.func106, Try.ntmps106
  go_wp2_with (first
    | (refine wpList_box_row 2 rfl rfl 114 (.tmp 0) rfl _ rfl ?_; intro w1 h1 hR1 hB1; have HR1 : Hid (Row w1 w.heap.size (endsL f)) := hR1; have HB1 : Hid (Below w.heap.size w w1) := hB1; clear hR1 hB1)
    | (refine wpList_box_row 3 rfl rfl 114 (.tmp 1) rfl _ rfl ?_; intro w2 h2 hR2 hB2; rw [h1] at hR2 hB2 h2; have HR2 : Hid (Row w2 (w.heap.size + 1) (endsL g)) := hR2; have HB2 : Hid (Below (w.heap.size + 1) w1 w2) := hB2; clear hR2 hB2)
    | (refine wpList_alloc_row 4 rfl rfl 114 rfl _ Try.info114 ?_; intro w3 h3 hR3 hB3; rw [h2] at hR3 hB3 h3; have HR3 : Hid (Row w3 (w.heap.size + 1 + 1) (endsL fun _ => false)) := hR3; have HB3 : Hid (Below (w.heap.size + 1 + 1) w2 w3) := hB3; clear hR3 hB3))
  go_loopw [5] (fun v wr => ∃ k : Nat, k ≤ 82 ∧ v = .int .i64 k ∧ Row wr w.heap.size (endsL fun j => if j < k then f j || g j else f j) ∧ Row wr (w.heap.size + 1) (endsL g) ∧ Row wr (w.heap.size + 1 + 1) (endsL fun _ => false) ∧ Below w.heap.size w wr) (fun v _ => 82 - (intOf v).toNat)
  case atStart =>
    refine ⟨0, by omega, rfl, ?_, ?_, HR3.out, ?_⟩
    · have := (HR1.out.below HB2.out (by omega)).below HB3.out (by omega)
      simpa using this
    · exact HR2.out.below HB3.out (by omega)
    · exact (HB1.out.trans (HB2.out.mono (by omega))).trans (HB3.out.mono (by omega))
  case round =>
    obtain ⟨k, hk, rfl, hA, hG, hZ, hB⟩ := hrel
    have HA : Hid (Row wr w.heap.size (endsL fun j => if j < k then f j || g j else f j)) := hA
    have HG : Hid (Row wr (w.heap.size + 1) (endsL g)) := hG
    have HZ : Hid (Row wr (w.heap.size + 1 + 1) (endsL fun _ => false)) := hZ
    have HB : Hid (Below w.heap.size w wr) := hB
    by_cases hlt : k < 82
    · have ca := hA.cell (endsL_at _ hlt)
      have fa := hA.frozen (k := k) (by rw [endsL_length]; exact hlt)
      have cg := hG.cell (endsL_at _ hlt)
      rw [if_neg (Nat.lt_irrefl k)] at ca
      have k1 : (0 : Int) ≤ (k : Int) := by omega
      have k2 : (k : Int) < 82 := by omega
      clear hA hG hZ hB
      have HP : Hid (∀ b, b = (f k || g k) → Row (wr.setCell ⟨w.heap.size, k, none⟩ (.bool b)) w.heap.size (endsL fun j => if j < k + 1 then f j || g j else f j)) := by
        intro b hb
        subst hb
        have := HA.out.put k (by rw [endsL_length]; exact hlt) (.bool (f k || g k))
        rw [put_or] at this
        exact this
      rcases bool_or (f k) with hf | hf
      all_goals
        rw [hf] at ca
        have HF : Hid (f k = _) := hf
        clear hf
        go_wp2_with fail
        go_roundw
        case rel => exact ⟨k + 1, by omega, by go_num, HP.out _ (by rw [HF.out]; simp), HG.out.sole ((Sole.refl _ _).setCell _ _) (by omega), HZ.out.sole ((Sole.refl _ _).setCell _ _) (by omega), HB.out.setCell (Nat.le_refl _) _⟩
        case measure => simp [intOf]; omega
    · have hk82 : k = 82 := by omega
      subst hk82
      clear hA hG hZ hB
      have HA' : Hid (Row wr w.heap.size (endsL fun j => f j || g j)) := by
        have := HA.out
        rw [endsL_congr (g := fun j => f j || g j) (fun j hj => by simp [hj])] at this
        exact this
      go_wp2_with (first
        | (refine wpList_load_row 20 rfl rfl 114 (.tmp 2) rfl _ rfl _ _ HA'.out Try.underlying114 rfl (Try.size114 _) ?_)
        | (refine wpList_store_row rfl 114 (.tmp 4) (.tmp 20) rfl _ rfl _ rfl _ HZ.out (by rw [endsL_length, endsL_length]) (Try.size114 _) (endsL_one _) ?_; intro w4 hR4 hS4))
      exact bodyPost_row 4 114 Try.results106 rfl _ rfl _ _ hR4 Try.underlying114 rfl (Try.size114 _) ⟨rfl, Below.sole HB.out hS4 (by omega)⟩
end Go.Proofs.Ytppjlpihaocdiaa
