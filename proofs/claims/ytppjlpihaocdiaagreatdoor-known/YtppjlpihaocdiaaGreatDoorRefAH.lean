/- A part of the proof. -/
import Derived.Test.YtppjlpihaocdiaaGreatDoorProg
import Derived.Test.YtppjlpihaocdiaaGreatDoorDecAH
import Derived.WalkKit
import Derived.WalkSpells
import Derived.Deep.QuietTactic
import Derived.BigQuiet
import Derived.Deep.DeepFit
import Derived.Deep.Light
set_option linter.unusedSimpArgs false
set_option linter.unusedVariables false
namespace Go.Proofs.YtppjlpihaocdiaaGreatDoor
open Go.RowKit
theorem ret_bool {a b : Bool} (h : a = b) : Ending.returned (.bool a) = .returned (.bool b) := by rw [h]
theorem ret_int {k : IntKind} {a b : Int} (h : a = b) : Ending.returned (.int k a) = .returned (.int k b) := by rw [h]
structure Only (b : Nat) (w w' : World) : Prop where
  os : w'.os = w.os
  tape : w'.tape = w.tape
  output : w'.output = w.output
  size : w'.heap.size = w.heap.size
  block : ∀ k, k ≠ b → w'.heap[k]? = w.heap[k]?
theorem Only.refl (b : Nat) (w : World) : Only b w w := ⟨rfl, rfl, rfl, rfl, fun _ _ => rfl⟩
theorem Only.trans {b : Nat} {u v w : World} (h : Only b u v) (k : Only b v w) : Only b u w :=
  ⟨k.os.trans h.os, k.tape.trans h.tape, k.output.trans h.output, k.size.trans h.size, fun i hi => (k.block i hi).trans (h.block i hi)⟩
theorem Only.setCell {b : Nat} {u w : World} (h : Only b u w) (o : Nat) (v : Value) : Only b u (w.setCell ⟨b, o, none⟩ v) :=
  h.trans ⟨rfl, rfl, rfl, by simp [World.setCell], fun k hk => Below.heap_setCell _ _ _ _ hk⟩
structure Wk (w : World) (b : Nat) (st : St) : Prop where
  c0 : w.cell? ⟨b, 0, none⟩ = some (.int .i64 st.m)
  c1 : w.cell? ⟨b, 1, none⟩ = some (.int .i64 st.o)
  c2 : w.cell? ⟨b, 2, none⟩ = some (.int .i64 st.a)
  c3 : w.cell? ⟨b, 3, none⟩ = some (.int .i64 st.l)
  f0 : w.frozen? ⟨b, 0, none⟩ = false
  f1 : w.frozen? ⟨b, 1, none⟩ = false
  f2 : w.frozen? ⟨b, 2, none⟩ = false
  f3 : w.frozen? ⟨b, 3, none⟩ = false
theorem Wk.set1 {w : World} {b m o a l : Nat} (h : Wk w b ⟨m, o, a, l⟩) {v : Int} (n : Nat) (hv : v = n) : Wk (w.setCell ⟨b, 1, none⟩ (.int .i64 v)) b ⟨m, n, a, l⟩ := by
  obtain ⟨c0, c1, c2, c3, f0, f1, f2, f3⟩ := h
  subst hv
  simp only at c0 c1 c2 c3
  constructor <;> go_simp
def Did (b : Nat) (w : World) (r : Option St) (e : Ending) (w' : World) : Prop :=
  ∃ q, e = .returned (.bool q) ∧ Only b w w' ∧ ((∃ st', r = some st' ∧ q = true ∧ Wk w' b st') ∨ (r = none ∧ q = false))
theorem Did.yes {b : Nat} {w : World} {r : Option St} {w' : World} (h : Only b w w') (st' : St) (hr : r = some st') (hw : Wk w' b st') : Did b w r (.returned (.bool true)) w' := ⟨_, rfl, h, .inl ⟨st', hr, rfl, hw⟩⟩
theorem Did.no {b : Nat} {w : World} {r : Option St} {w' : World} (h : Only b w w') (hr : r = none) : Did b w r (.returned (.bool false)) w' := ⟨_, rfl, h, .inr ⟨hr, rfl⟩⟩
theorem Did.of {b : Nat} {w : World} {r : Option St} {w' : World} {q : Bool} (h : Only b w w') (st' : St) (hr : r = if q = true then some st' else none) (hw : Wk w' b st') : Did b w r (.returned (.bool q)) w' := by
  cases q
  · exact .no h (by simpa using hr)
  · exact .yes h st' (by simpa using hr) hw
theorem bool_or (q : Bool) : q = true ∨ q = false := by cases q <;> simp
end Go.Proofs.YtppjlpihaocdiaaGreatDoor
