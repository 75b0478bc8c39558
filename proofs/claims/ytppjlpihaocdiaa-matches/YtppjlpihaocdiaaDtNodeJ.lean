/- The document's reader: a node being made, as a row of cells; how many nodes there are. -/
import Derived.Test.YtppjlpihaocdiaaDtSetJ
set_option linter.unusedSimpArgs false
set_option linter.unusedVariables false
namespace Go.Proofs.Ytppjlpihaocdiaa
namespace Dt
open Go.RowKit

theorem ndL_b256 (d : Nd) (sv : Value) : ndL d sv = Value.int .i64 d.kind :: (b256 d.set ++ [sv, .int .i64 d.num, .int .i64 d.lo, .int .i64 d.hi]) := rfl

theorem ndL_put_kind (d : Nd) (sv : Value) (k : Nat) : (ndL d sv).set 0 (.int .i64 k) = ndL { d with kind := k } sv := rfl

theorem ndL_put_set (d : Nd) (sv : Value) {k : Nat} (hk : k < 256) (v : Bool) : (ndL d sv).set (k + 1) (.bool v) = ndL { d with set := fun j => if j = k then v else d.set j } sv := by
  rw [ndL_b256, ndL_b256, List.set_cons_succ, List.set_append_left _ _ (by rw [b256_length]; exact hk), b256_set]

theorem ndL_put_tail (d : Nd) (sv : Value) (k : Nat) (v : Value) : (ndL d sv).set (257 + k) v = Value.int .i64 d.kind :: (b256 d.set ++ [sv, .int .i64 d.num, .int .i64 d.lo, .int .i64 d.hi].set k v) := by
  rw [ndL_b256, show 257 + k = (256 + k) + 1 by omega, List.set_cons_succ, List.set_append_right _ _ (by rw [b256_length]; omega), b256_length, show 256 + k - 256 = k by omega]
theorem ndL_put_subs (d : Nd) (sv v : Value) : (ndL d sv).set 257 v = ndL d v := ndL_put_tail d sv 0 v
theorem ndL_put_num (d : Nd) (sv : Value) (k : Nat) : (ndL d sv).set 258 (.int .i64 k) = ndL { d with num := k } sv := ndL_put_tail d sv 1 _
theorem ndL_put_lo (d : Nd) (sv : Value) (k : Nat) : (ndL d sv).set 259 (.int .i64 k) = ndL { d with lo := k } sv := ndL_put_tail d sv 2 _
theorem ndL_put_hi (d : Nd) (sv : Value) (k : Int) : (ndL d sv).set 260 (.int .i64 k) = ndL { d with hi := k } sv := ndL_put_tail d sv 3 _

theorem ndL_oneB (d : Nd) {sv : Value} (h : sv.oneCell' = true) : ∀ v ∈ ndL d sv, v.oneCell' = true := by
  intro v hv
  simp only [ndL, List.mem_cons, List.mem_append, List.mem_map, List.not_mem_nil, or_false] at hv
  rcases hv with rfl | ⟨k, _, rfl⟩ | rfl | rfl | rfl | rfl <;> first | rfl | exact h

/-- A whole set is stored into a node. -/
theorem Row.put_set {w : World} {b : Nat} {d : Nd} {sv : Value} (h : Row w b (ndL d sv)) (f : Nat → Bool) : Row (w.setCells b 1 (b256 f)) b (ndL { d with set := f } sv) := by
  have ht : w.there b 1 (b256 f).length := fun j hj => by
    have := h.free (1 + j) (by rw [b256_length] at hj; rw [ndL_length]; omega)
    simpa using this
  have hlen : (ndL { d with set := f } sv).length = (ndL d sv).length := by rw [ndL_length, ndL_length]
  refine ⟨fun j v hv => ?_, by rw [hlen]; exact World.there_setCells h.free b 1 _⟩
  rw [Nat.zero_add]
  by_cases h0 : j = 0
  · subst h0
    rw [World.cell?_setCells_out b _ _ _ _ (fun _ _ => .inl (by show 0 < 1; omega))]
    exact h.cell hv
  · by_cases h1 : j ≤ 256
    · have hin := World.rangeAt_setCells_same w b 1 (b256 f) ht (j - 1) v (by
        rw [show j = (j - 1) + 1 by omega, ndL_set _ _ (by omega)] at hv
        rw [b256_at _ (by omega)]
        exact hv)
      rw [show 1 + (j - 1) = j by omega] at hin
      exact hin
    · rw [World.cell?_setCells_out b _ _ _ _ (fun _ _ => .inr (by show 1 + (b256 f).length ≤ j; rw [b256_length]; omega))]
      apply h.cell
      rw [show j = 257 + (j - 257) by omega, ndL_tail] at hv ⊢
      exact hv

section
variable {P : Program} {ops : Array Oper} {rest : List Oper} {op : Oper} {a : Act} {w : World} {Q : Exit → Act → World → Prop}

/-- 'build' of a whole row. -/
theorem wpList_build_row (dst : Nat) (hdst : op.dst = some dst) (hgd : op.guard = none) (ty : TypeId) (parts : Array (Nat × Operand)) (ho : op.op = .build ty parts) (cs : List Value) (hb : P.built ty (parts.toList.map fun x => (x.1, a.eval x.2)) = some cs.toArray)
    (h : wpList P ops Q rest (a.put (some dst) (.agg cs.toArray)) w) : wpList P ops Q (op :: rest) a w := by
  refine wpList_plain hgd fun K hK => ?_
  have hb' : P.built ty (parts.map fun (i, x) => (i, a.eval x)).toList = some cs.toArray := by rw [Array.toList_map]; exact hb
  refine wp_build ty parts ho (by rw [hb']; rfl) ?_
  rw [hb', hdst]
  exact hK _ _ h

/-- 'store' of a set into a node. -/
theorem wpList_store_set (hgd : op.guard = none) (ty : TypeId) (x y : Operand) (ho : op.op = .store ty x y) (b : Nat) (hx : a.eval x = .pointer (some ⟨b, 1, none⟩)) (f : Nat → Bool) (hy : a.eval y = .agg (b256 f).toArray) (d : Nd) (sv : Value)
    (hc : Row w b (ndL d sv)) (hi : (P.info? ty).map (·.size) = some (b256 f).length)
    (h : ∀ w', Row w' b (ndL { d with set := f } sv) → Sole b w w' → wpList P ops Q rest (a.put op.dst undef) w') : wpList P ops Q (op :: rest) a w := by
  have ht : w.there b 1 (b256 f).toArray.size := fun j hj => by
    have := hc.free (1 + j) (by simp [b256_length] at hj; rw [ndL_length]; omega)
    simpa using this
  refine wpList_store_mid hgd ty x y ho b 1 (b256 f).toArray hx hy ht (by simpa using hi) (all_oneCell_toArray (b256_one f)) ?_
  have := h (w.setCells b 1 (b256 f)) (Row.put_set hc f) (Sole.setCells b _ 1 w)
  simpa using this
end

theorem Try.zero140 : (Try.prog.info? 140).map (fun i => (i.zero, i.size)) = some (some (.agg (ndL ⟨0, noSet, [], 0, 0, 0⟩ (.slice none 0 0)).toArray), (ndL ⟨0, noSet, [], 0, 0, 0⟩ (.slice none 0 0)).length) := by kernel_rfl
theorem Try.size140 (d : Nd) (sv : Value) : (Try.prog.info? 140).map (·.size) = some (ndL d sv).length := by rw [ndL_length]; kernel_rfl
theorem built0 : Try.prog.built 140 [(0, .int .i64 0)] = some (ndL ⟨0, noSet, [], 0, 0, 0⟩ (.slice none 0 0)).toArray := by kernel_rfl
theorem built4 : Try.prog.built 140 [(0, .int .i64 4)] = some (ndL ⟨4, noSet, [], 0, 0, 0⟩ (.slice none 0 0)).toArray := by kernel_rfl
theorem built5 : Try.prog.built 140 [(0, .int .i64 5)] = some (ndL ⟨5, noSet, [], 0, 0, 0⟩ (.slice none 0 0)).toArray := by kernel_rfl
theorem built6 (ao : Option Addr) : Try.prog.built 140 [(0, .int .i64 6), (2, .slice ao 1 1)] = some (ndL ⟨6, noSet, [], 0, 0, 0⟩ (.slice ao 1 1)).toArray := by kernel_rfl

/- How many nodes there are. -/
theorem dSetL_le (s : ByteArray) : ∀ (f i : Nat) (S : Nat → Bool), i ≤ (dSetL s f i S).1
  | 0, i, S => Nat.le_refl _
  | f + 1, i, S => by
    have h1 := betV_lt s i
    rw [dSetL]
    split
    · simp only; omega
    · have := dSetL_le s f (betV s i).2.2 (addR S (betV s i).1 (betV s i).2.1)
      omega
theorem dSetV_lt (s : ByteArray) (i : Nat) : i < (dSetV s i).1 := by
  unfold dSetV
  split
  · have := dSetL_le s (s.size + 1) (i + 2) noSet
    simp only; omega
  · have := dSetL_le s (s.size + 1) (i + 1) noSet
    omega

section
variable {ch : PSt → PSt × Nat} {s : ByteArray}
theorem cnt_one (hc : ∀ p, (ch p).1.l.length + 2 * p.at' ≤ p.l.length + 2 * (ch p).1.at' + 2) (p : PSt) : (dOneF ch s p).1.l.length + 2 * p.at' + 1 ≤ p.l.length + 2 * (dOneF ch s p).1.at' := by
  have h1 := hc ⟨p.at' + 1, p.g + 1, p.l⟩
  have h2 := dSetV_lt s p.at'
  unfold dOneF
  simp only at h1 ⊢
  (repeat' split) <;> simp only [addN, List.length_append, List.length_cons, List.length_nil] <;> omega
theorem cnt_part (hc : ∀ p, (ch p).1.l.length + 2 * p.at' ≤ p.l.length + 2 * (ch p).1.at' + 2) (p : PSt) : (dPartF ch s p).1.l.length + 2 * p.at' + 1 ≤ p.l.length + 2 * (dPartF ch s p).1.at' := by
  have h1 := cnt_one (s := s) hc p
  unfold dPartF
  simp only
  (repeat' split) <;> first | (simp only [addN, List.length_append, List.length_cons, List.length_nil]; omega) | omega
theorem cnt_wayL (hc : ∀ p, (ch p).1.l.length + 2 * p.at' ≤ p.l.length + 2 * (ch p).1.at' + 2) : ∀ (f : Nat) (p : PSt) (zs : List Nat), (dWayL ch s f p zs).1.l.length + 2 * p.at' ≤ p.l.length + 2 * (dWayL ch s f p zs).1.at' + 1
  | 0, p, zs => by simp only [dWayL]; omega
  | f + 1, p, zs => by
    have h1 := cnt_part (s := s) hc p
    have h2 := cnt_wayL hc f (dPartF ch s p).1 (zs ++ [(dPartF ch s p).2])
    rw [dWayL]
    split
    · simp only [addN, List.length_append, List.length_cons, List.length_nil]; omega
    · simp only; omega
theorem cnt_choiceL (hc : ∀ p, (ch p).1.l.length + 2 * p.at' ≤ p.l.length + 2 * (ch p).1.at' + 2) : ∀ (f : Nat) (p : PSt) (zs : List Nat), (dChoiceL ch s f p zs).1.l.length + 2 * p.at' ≤ p.l.length + 2 * (dChoiceL ch s f p zs).1.at' + 2
  | 0, p, zs => by simp only [dChoiceL]; omega
  | f + 1, p, zs => by
    have h1 : (dWayF ch s p).1.l.length + 2 * p.at' ≤ p.l.length + 2 * (dWayF ch s p).1.at' + 1 := cnt_wayL hc (s.size + 1) p []
    have h2 := cnt_choiceL hc f ⟨(dWayF ch s p).1.at' + 1, (dWayF ch s p).1.g, (dWayF ch s p).1.l⟩ (zs ++ [(dWayF ch s p).2])
    rw [dChoiceL]
    simp only at h2 ⊢
    split
    · omega
    · simp only [addN, List.length_append, List.length_cons, List.length_nil]; omega
end
theorem cnt_choiceN (s : ByteArray) : ∀ (n : Nat) (p : PSt), (dChoiceN s n p).1.l.length + 2 * p.at' ≤ p.l.length + 2 * (dChoiceN s n p).1.at' + 2
  | 0, p => by simp only [dChoiceN]; omega
  | n + 1, p => cnt_choiceL (cnt_choiceN s n) _ _ _

section
variable {ch : PSt → PSt × Nat} {s : ByteArray}
theorem gcnt_one (hc : ∀ p, (ch p).1.g + p.at' ≤ p.g + (ch p).1.at') (p : PSt) : (dOneF ch s p).1.g + p.at' ≤ p.g + (dOneF ch s p).1.at' := by
  have h1 := hc ⟨p.at' + 1, p.g + 1, p.l⟩
  have h2 := dSetV_lt s p.at'
  unfold dOneF
  simp only at h1 ⊢
  (repeat' split) <;> simp only [addN] <;> omega
theorem gcnt_part (hc : ∀ p, (ch p).1.g + p.at' ≤ p.g + (ch p).1.at') (p : PSt) : (dPartF ch s p).1.g + p.at' ≤ p.g + (dPartF ch s p).1.at' := by
  have h1 := gcnt_one (s := s) hc p
  unfold dPartF
  simp only
  (repeat' split) <;> first | (simp only [addN]; omega) | omega
theorem gcnt_wayL (hc : ∀ p, (ch p).1.g + p.at' ≤ p.g + (ch p).1.at') : ∀ (f : Nat) (p : PSt) (zs : List Nat), (dWayL ch s f p zs).1.g + p.at' ≤ p.g + (dWayL ch s f p zs).1.at'
  | 0, p, zs => by simp only [dWayL]; omega
  | f + 1, p, zs => by
    have h1 := gcnt_part (s := s) hc p
    have h2 := gcnt_wayL hc f (dPartF ch s p).1 (zs ++ [(dPartF ch s p).2])
    rw [dWayL]
    split
    · simp only [addN]; omega
    · simp only; omega
theorem gcnt_choiceL (hc : ∀ p, (ch p).1.g + p.at' ≤ p.g + (ch p).1.at') : ∀ (f : Nat) (p : PSt) (zs : List Nat), (dChoiceL ch s f p zs).1.g + p.at' ≤ p.g + (dChoiceL ch s f p zs).1.at'
  | 0, p, zs => by simp only [dChoiceL]; omega
  | f + 1, p, zs => by
    have h1 : (dWayF ch s p).1.g + p.at' ≤ p.g + (dWayF ch s p).1.at' := gcnt_wayL hc (s.size + 1) p []
    have h2 := gcnt_choiceL hc f ⟨(dWayF ch s p).1.at' + 1, (dWayF ch s p).1.g, (dWayF ch s p).1.l⟩ (zs ++ [(dWayF ch s p).2])
    rw [dChoiceL]
    simp only at h2 ⊢
    split
    · omega
    · simp only [addN]; omega
end
theorem gcnt_choiceN (s : ByteArray) : ∀ (n : Nat) (p : PSt), (dChoiceN s n p).1.g + p.at' ≤ p.g + (dChoiceN s n p).1.at'
  | 0, p => by simp only [dChoiceN]; omega
  | n + 1, p => gcnt_choiceL (gcnt_choiceN s n) _ _ _
end Dt
end Go.Proofs.Ytppjlpihaocdiaa
