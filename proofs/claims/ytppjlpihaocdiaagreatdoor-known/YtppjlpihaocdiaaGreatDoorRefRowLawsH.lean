/- A part of the proof. -/
import Derived.WalkKit
import Derived.WalkSpells
import Derived.Deep.MidRow
import Derived.Deep.WholeRow
import Derived.Deep.Light
set_option linter.unusedSimpArgs false
set_option linter.unusedVariables false
namespace Go.Proofs.YtppjlpihaocdiaaGreatDoor
open Go.RowKit
structure Sole (b : Nat) (w w' : World) : Prop where
  os : w'.os = w.os
  tape : w'.tape = w.tape
  output : w'.output = w.output
  size : w'.heap.size = w.heap.size
  block : ∀ k, k ≠ b → w'.heap[k]? = w.heap[k]?
structure Row (w : World) (b : Nat) (cs : List Value) : Prop where
  lies : w.rangeAt b 0 cs
  free : w.there b 0 cs.length
theorem Row.cell {w : World} {b : Nat} {cs : List Value} (h : Row w b cs) {k : Nat} {v : Value} (hk : cs[k]? = some v) : w.cell? ⟨b, k, none⟩ = some v := by
  have := h.lies k v hk
  simpa using this
theorem Row.frozen {w : World} {b : Nat} {cs : List Value} (h : Row w b cs) {k : Nat} (hk : k < cs.length) : w.frozen? ⟨b, k, none⟩ = false := by
  have := (h.free k hk).2
  simpa using this
theorem Row.lt {w : World} {b : Nat} {cs : List Value} (h : Row w b cs) (hk : 0 < cs.length) : b < w.heap.size := by
  obtain ⟨v, hv⟩ : ∃ v, cs[0]? = some v := ⟨cs[0], List.getElem?_eq_getElem hk⟩
  exact World.block_lt_of_cell? w _ (h.cell hv)
theorem Row.of_block {w w' : World} {b : Nat} {cs : List Value} (h : Row w b cs) (hb : w'.heap[b]? = w.heap[b]?) : Row w' b cs := by
  have hc : ∀ k, w'.cell? ⟨b, k, none⟩ = w.cell? ⟨b, k, none⟩ := fun k => World.cell?_of_block (w := w) (w' := w') (a := ⟨b, k, none⟩) hb
  have hf : ∀ k, w'.frozen? ⟨b, k, none⟩ = w.frozen? ⟨b, k, none⟩ := fun k => World.frozen?_of_block (w := w) (w' := w') (a := ⟨b, k, none⟩) hb
  exact ⟨fun j v hv => (hc _).trans (h.lies j v hv), fun j hj => ⟨by rw [hc]; exact (h.free j hj).1, by rw [hf]; exact (h.free j hj).2⟩⟩
theorem Row.below {w w' : World} {b B : Nat} {cs : List Value} (h : Row w b cs) (hB : Below B w w') (hb : b < B) : Row w' b cs := h.of_block (hB.block b hb)
theorem Row.sole {w w' : World} {b a : Nat} {cs : List Value} (h : Row w b cs) (hs : Sole a w w') (hne : b ≠ a) : Row w' b cs := h.of_block (hs.block b hne)
theorem Row.new (w : World) (cs : List Value) (t : TypeId) : Row (w.alloc (.cells cs.toArray t)) w.heap.size cs := by
  have hb := heap_alloc_last w (.cells cs.toArray t)
  have hc : ∀ k, (w.alloc (.cells cs.toArray t)).cell? ⟨w.heap.size, k, none⟩ = cs[k]? := fun k => by
    rw [cell_of_row _ w.heap.size k cs.toArray t (0, 0) hb]; simp
  refine ⟨fun j v hv => by rw [Nat.zero_add, hc]; exact hv, fun j hj => ⟨?_, ?_⟩⟩
  · rw [Nat.zero_add, hc]; simp [hj]
  · have h2 := frozen?_alloc_cells w cs.toArray t ⟨w.heap.size, 0 + j, none⟩
    rw [h2]
    simp [World.frozen?]
theorem Row.put {w : World} {b : Nat} {cs : List Value} (h : Row w b cs) (k : Nat) (hk : k < cs.length) (v : Value) : Row (w.setCell ⟨b, k, none⟩ v) b (cs.set k v) := by
  have hs : ∃ u, w.cell? ⟨b, k, none⟩ = some u := ⟨cs[k], h.cell (List.getElem?_eq_getElem hk)⟩
  obtain ⟨u, hu⟩ := hs
  refine ⟨fun j x hx => ?_, fun j hj => ⟨?_, ?_⟩⟩
  · rw [Nat.zero_add]
    by_cases hjk : j = k
    · subst hjk
      rw [World.cell?_setCell_same (h := hu)]
      rw [List.getElem?_set_self hk] at hx
      exact hx
    · rw [World.cell?_setCell_other (h := fun e => hjk (by injection e with _ e _; exact e.symm))]
      rw [List.getElem?_set_ne (fun e => hjk e.symm)] at hx
      exact h.cell hx
  · rw [Nat.zero_add]
    rw [List.length_set] at hj
    by_cases hjk : j = k
    · subst hjk
      rw [World.cell?_setCell_same (h := hu)]; rfl
    · rw [World.cell?_setCell_other (h := fun e => hjk (by injection e with _ e _; exact e.symm))]
      rw [h.cell (List.getElem?_eq_getElem hj)]; rfl
  · rw [List.length_set] at hj
    rw [World.frozen?_setCell, Nat.zero_add]
    exact h.frozen hj
theorem Sole.refl (b : Nat) (w : World) : Sole b w w := ⟨rfl, rfl, rfl, rfl, fun _ _ => rfl⟩
theorem Sole.trans {b : Nat} {u v w : World} (h : Sole b u v) (k : Sole b v w) : Sole b u w :=
  ⟨k.os.trans h.os, k.tape.trans h.tape, k.output.trans h.output, k.size.trans h.size, fun i hi => (k.block i hi).trans (h.block i hi)⟩
theorem Sole.setCell {b : Nat} {u w : World} (h : Sole b u w) (o : Nat) (v : Value) : Sole b u (w.setCell ⟨b, o, none⟩ v) :=
  h.trans ⟨rfl, rfl, rfl, by simp [World.setCell], fun k hk => Below.heap_setCell _ _ _ _ hk⟩
theorem Sole.setCells (b : Nat) : ∀ (vs : List Value) (o : Nat) (w : World), Sole b w (w.setCells b o vs)
  | [], o, w => by simp only [World.setCells]; exact .refl _ _
  | v :: vs, o, w => by
    simp only [World.setCells]
    exact ((Sole.refl b w).setCell o v).trans (Sole.setCells b vs (o + 1) _)
theorem Below.sole {B b : Nat} {a w w' : World} (h : Below B a w) (hs : Sole b w w') (hb : B ≤ b) : Below B a w' :=
  h.trans ⟨hs.os, hs.tape, hs.output, by rw [hs.size]; exact Nat.le_refl _, fun k hk => hs.block k (by omega)⟩
section
variable {P : Program} {ops : Array Oper} {rest : List Oper} {op : Oper} {a : Act} {w : World} {Q : Exit → Act → World → Prop}
theorem wpList_alloc_row (dst : Nat) (hdst : op.dst = some dst) (hgd : op.guard = none) (ty : TypeId) (ho : op.op = .alloc ty) (Z : List Value)
    (hz : (P.info? ty).map (fun i => (i.zero, i.size)) = some (some (.agg Z.toArray), Z.length))
    (h : ∀ w', w'.heap.size = w.heap.size + 1 → Row w' w.heap.size Z → Below w.heap.size w w' → wpList P ops Q rest (a.put (some dst) (.pointer (some ⟨w.heap.size, 0, none⟩))) w') : wpList P ops Q (op :: rest) a w := by
  have hh := h (w.alloc (.cells Z.toArray ty)) (by simp) (Row.new w Z ty) ((Below.refl _ _).alloc (Nat.le_refl _) _)
  refine wpList_plain hgd fun K hK => ?_
  have hz' := (zero_of_info hz).1
  unfold Oper.wp execOp
  have e : K (a.put op.dst (.pointer (some ⟨w.heap.size, 0, none⟩))) (w.alloc (.cells Z.toArray ty)) := by rw [hdst]; exact hK _ _ hh
  simp only [ho, Instr.alloc, newVar, Sem.run_bind, Sem.run_pure, Result.andThen_ok, hz']
  exact e
theorem wpList_box_row (dst : Nat) (hdst : op.dst = some dst) (hgd : op.guard = none) (ty : TypeId) (x : Operand) (ho : op.op = .box ty x) (cs : List Value) (hx : a.eval x = .agg cs.toArray)
    (h : ∀ w', w'.heap.size = w.heap.size + 1 → Row w' w.heap.size cs → Below w.heap.size w w' → wpList P ops Q rest (a.put (some dst) (.pointer (some ⟨w.heap.size, 0, none⟩))) w') : wpList P ops Q (op :: rest) a w := by
  have hh := h (w.alloc (.cells cs.toArray ty)) (by simp) (Row.new w cs ty) ((Below.refl _ _).alloc (Nat.le_refl _) _)
  refine wpList_plain hgd fun K hK => ?_
  unfold Oper.wp execOp
  have e : K (a.put op.dst (.pointer (some ⟨w.heap.size, 0, none⟩))) (w.alloc (.cells cs.toArray ty)) := by rw [hdst]; exact hK _ _ hh
  simp only [ho, hx, Instr.box, newVar, Sem.run_bind, Sem.run_pure, Result.andThen_ok]
  exact e
theorem wpList_load_row (dst : Nat) (hdst : op.dst = some dst) (hgd : op.guard = none) (ty : TypeId) (x : Operand) (ho : op.op = .load ty x) (b : Nat) (hx : a.eval x = .pointer (some ⟨b, 0, none⟩)) (cs : List Value) (d : TypeDesc)
    (hc : Row w b cs) (hu : P.underlying ty = some d) (hd : d.isRow = true) (hi : (P.info? ty).map (·.size) = some cs.length)
    (h : wpList P ops Q rest (a.put (some dst) (.agg cs.toArray)) w) : wpList P ops Q (op :: rest) a w :=
  wpList_load_mid hgd ty x ho b 0 hx cs d hc.lies hu hd hi (by rw [hdst]; exact h)
theorem Row.store {w : World} {b : Nat} {cs : List Value} (h : Row w b cs) (vs : List Value) (hl : vs.length = cs.length) : Row (w.setCells b 0 vs) b vs := by
  have ht : w.there b 0 vs.length := by rw [hl]; exact h.free
  exact ⟨World.rangeAt_setCells_same w b 0 vs ht, World.there_setCells ht b 0 vs⟩
theorem wpList_store_row (hgd : op.guard = none) (ty : TypeId) (x y : Operand) (ho : op.op = .store ty x y) (b : Nat) (hx : a.eval x = .pointer (some ⟨b, 0, none⟩)) (vs : List Value) (hy : a.eval y = .agg vs.toArray) (cs : List Value)
    (hc : Row w b cs) (hl : vs.length = cs.length) (hi : (P.info? ty).map (·.size) = some vs.length) (h1 : ∀ v ∈ vs, v.oneCell' = true)
    (h : ∀ w', Row w' b vs → Sole b w w' → wpList P ops Q rest (a.put op.dst undef) w') : wpList P ops Q (op :: rest) a w := by
  have ht : w.there b 0 vs.toArray.size := by
    have := hc.free
    rw [← hl] at this
    simpa using this
  refine wpList_store_mid hgd ty x y ho b 0 vs.toArray hx hy ht (by simpa using hi) (all_oneCell_toArray h1) ?_
  have := h (w.setCells b 0 vs) (hc.store vs hl) (Sole.setCells b vs 0 w)
  simpa using this
end
end Go.Proofs.YtppjlpihaocdiaaGreatDoor
