/- A part of the proof. -/
import Derived.Test.YtppjlpihaocdiaaGreatDoorPrRH
import Derived.Test.YtppjlpihaocdiaaGreatDoorEdSpecH
import Derived.Test.YtppjlpihaocdiaaGreatDoorRefRowLawsH
import Derived.Lib.LaidTab
import Derived.Lib.ItoaNum
set_option linter.unusedSimpArgs false
set_option linter.unusedVariables false
namespace Go.Proofs.YtppjlpihaocdiaaGreatDoor
namespace Ee
open Go.RowKit
open Rs (Cm CmAt Pts cmL Keep own_of)
def bv (l : List UInt8) : List Value := l.map fun b => Value.int .u8 (b.toNat : Int)
def sv (l : List ByteArray) : List Value := l.map Value.string
def ov (l : List Bool) : List Value := l.map Value.bool
structure Ev where
  nx : Value
  ot : Value
  cg : Value
  cm : Value
  op : Value
def edL (cf : Cf) (E : Ed) (v : Ev) : List Value :=
  [.int .i64 (cf.line : Int), v.nx, .bool E.whole, .bool E.ended, .int .i64 (E.number : Int), .string E.pat, .int .i64 (cf.space : Int), .string E.hold, .int .i64 (cf.space : Int), v.ot, .int .i64 (E.taken : Int), v.cg, v.cm, v.op,
   .int .i64 (E.at' : Int), .int .i64 (E.stage : Int), .int .i64 (E.looked : Int), .int .i64 (cf.fuel : Int), .bool E.put, .bool cf.quiet, .int .i64 (E.state : Int)]
theorem edL_length (cf : Cf) (E : Ed) (v : Ev) : (edL cf E v).length = 21 := rfl
def Mine (b : Nat) (v : Ev) (k : Nat) : Prop := k = b ∨ v.nx.ownBlock = some k ∨ v.ot.ownBlock = some k ∨ v.cg.ownBlock = some k ∨ v.op.ownBlock = some k
structure Apart (b : Nat) (v : Ev) : Prop where
  b1 : v.nx.ownBlock ≠ some b
  b2 : v.ot.ownBlock ≠ some b
  b3 : v.cg.ownBlock ≠ some b
  b4 : v.op.ownBlock ≠ some b
  d12 : ∀ k, v.nx.ownBlock = some k → v.ot.ownBlock ≠ some k
  d13 : ∀ k, v.nx.ownBlock = some k → v.cg.ownBlock ≠ some k
  d14 : ∀ k, v.nx.ownBlock = some k → v.op.ownBlock ≠ some k
  d23 : ∀ k, v.ot.ownBlock = some k → v.cg.ownBlock ≠ some k
  d24 : ∀ k, v.ot.ownBlock = some k → v.op.ownBlock ≠ some k
  d34 : ∀ k, v.cg.ownBlock = some k → v.op.ownBlock ≠ some k
def Tw (w : World) (X : Nat → Prop) : Prop := Lib.TabIs Tryz.prog w "internal/strconv.uint64pow10" .u64 Lib.pow10Tab ∧ ∀ g, Tryz.prog.globalNamed "internal/strconv.uint64pow10" = some g → g < w.heap.size ∧ ¬ X g
theorem Tw.keep {w w' : World} {X X' : Nat → Prop} (h : Tw w X) (hb : ∀ k, k < w.heap.size → ¬ X k → w'.heap[k]? = w.heap[k]?) (hs : w.heap.size ≤ w'.heap.size) (hx : ∀ k, X' k → X k ∨ w.heap.size ≤ k) : Tw w' X' := by
  obtain ⟨h1, h2⟩ := h
  refine ⟨?_, fun g hg => ⟨Nat.lt_of_lt_of_le (h2 g hg).1 hs, fun hX => ?_⟩⟩
  · unfold Lib.TabIs at h1 ⊢
    rw [← h1]
    unfold World.var?
    cases hg : Tryz.prog.globalNamed "internal/strconv.uint64pow10" with
    | none => rfl
    | some g => simp only [Option.bind_some]; rw [hb g (h2 g hg).1 (h2 g hg).2]
  · rcases hx g hX with e | e
    · exact (h2 g hg).2 e
    · have := (h2 g hg).1; omega
def Cmds0 (w : World) (X : Nat → Prop) (cm : Value) (cs : List Cm) : Prop :=
  ∃ xs, w.ownsRow 0 200 23 cm cs.length xs ∧ (∀ g, cm.ownBlock = some g → ¬ X g) ∧ ∀ (k : Nat) (x : Cm), cs[k]? = some x →
    ∃ l h q, h ≤ w.heap.size ∧ (∀ j, l < j → j < h → ¬ X j) ∧ CmAt w l h x q ∧ ∀ o u, (cmL x q)[o]? = some u → xs[k * 23 + o]? = some u
def Cmds (w : World) (X : Nat → Prop) (cm : Value) (cs : List Cm) : Prop := Tw w X ∧ Cmds0 w X cm cs
structure At (w : World) (b : Nat) (cf : Cf) (E : Ed) (v : Ev) : Prop where
  row : Row w b (edL cf E v)
  nx : w.ownsRow 0 5 1 v.nx E.next.length (bv E.next)
  ot : w.ownsRow 0 5 1 v.ot E.out.length (bv E.out)
  cg : w.ownsRow 0 9 1 v.cg E.coming.length (sv E.coming)
  op : w.ownsRow 0 4 1 v.op E.opn.length (ov E.opn)
  cm : Cmds w (Mine b v) v.cm cf.cmds
  ap : Apart b v
structure Fe (b : Nat) (v v' : Ev) (w w' : World) : Prop where
  os : w'.os = w.os
  tape : w'.tape = w.tape
  output : w'.output = w.output
  size : w.heap.size ≤ w'.heap.size
  block : ∀ k, k < w.heap.size → ¬ Mine b v k → w'.heap[k]? = w.heap[k]?
  mine : ∀ k, Mine b v' k → Mine b v k ∨ w.heap.size ≤ k
  cm : v'.cm = v.cm
theorem Fe.refl (b : Nat) (v : Ev) (w : World) : Fe b v v w w := ⟨rfl, rfl, rfl, Nat.le_refl _, fun _ _ _ => rfl, fun _ h => .inl h, rfl⟩
theorem Fe.trans {b : Nat} {v v' v'' : Ev} {u w x : World} (h : Fe b v v' u w) (k : Fe b v' v'' w x) : Fe b v v'' u x := by
  refine ⟨k.os.trans h.os, k.tape.trans h.tape, k.output.trans h.output, Nat.le_trans h.size k.size, fun i hi hn => ?_, fun i hi => ?_, k.cm.trans h.cm⟩
  · refine (k.block i (Nat.lt_of_lt_of_le hi h.size) (fun hm => ?_)).trans (h.block i hi hn)
    rcases h.mine i hm with e | e
    · exact hn e
    · omega
  · rcases k.mine i hi with e | e
    · exact h.mine i e
    · exact .inr (Nat.le_trans h.size e)
theorem Fe.drewN {b : Nat} {v v' : Ev} {u w : World} (h : Fe b v v' u w) (n : Nat) : Fe b v v' u (w.drewN n) := ⟨h.os, h.tape, h.output, h.size, h.block, h.mine, h.cm⟩
theorem Cmds0.keep {w w' : World} {X X' : Nat → Prop} {cm : Value} {cs : List Cm} (h : Cmds0 w X cm cs) (hb : ∀ k, k < w.heap.size → ¬ X k → w'.heap[k]? = w.heap[k]?) (hs : w.heap.size ≤ w'.heap.size) (hx : ∀ k, X' k → X k ∨ w.heap.size ≤ k) : Cmds0 w' X' cm cs := by
  obtain ⟨xs, own, hg, hc⟩ := h
  have hown := own
  refine ⟨xs, own_of own fun k hk => hb k (own.lt k hk).2 (hg k hk), fun g hgg hX => ?_, fun k x hkx => ?_⟩
  · rcases hx g hX with e | e
    · exact hg g hgg e
    · have := (hown.lt g hgg).2; omega
  · obtain ⟨l, hh, q, a1, a2, a3, a4⟩ := hc k x hkx
    refine ⟨l, hh, q, Nat.le_trans a1 hs, fun j h1 h2 hX => ?_, a3.keep ⟨fun j h1 h2 => hb j (by omega) (a2 j h1 h2), Nat.le_trans a1 hs⟩, a4⟩
    rcases hx j hX with e | e
    · exact a2 j h1 h2 e
    · omega
theorem Cmds.keep {w w' : World} {X X' : Nat → Prop} {cm : Value} {cs : List Cm} (h : Cmds w X cm cs) (hb : ∀ k, k < w.heap.size → ¬ X k → w'.heap[k]? = w.heap[k]?) (hs : w.heap.size ≤ w'.heap.size) (hx : ∀ k, X' k → X k ∨ w.heap.size ≤ k) : Cmds w' X' cm cs := ⟨h.1.keep hb hs hx, h.2.keep hb hs hx⟩
theorem At.lt {w : World} {b : Nat} {cf : Cf} {E : Ed} {v : Ev} (h : At w b cf E v) : b < w.heap.size := h.row.lt (by rw [edL_length]; omega)
theorem At.beside {w w' : World} {b : Nat} {cf : Cf} {E : Ed} {v : Ev} (h : At w b cf E v) (hs : w.heap.size ≤ w'.heap.size) (hb : ∀ k, k < w.heap.size → w'.heap[k]? = w.heap[k]?) : At w' b cf E v :=
  ⟨h.row.of_block (hb b h.lt), own_of h.nx fun k hk => hb k (h.nx.lt k hk).2, own_of h.ot fun k hk => hb k (h.ot.lt k hk).2, own_of h.cg fun k hk => hb k (h.cg.lt k hk).2, own_of h.op fun k hk => hb k (h.op.lt k hk).2, h.cm.keep (fun k hk _ => hb k hk) hs (fun k hk => .inl hk), h.ap⟩
theorem At.drewN {w : World} {b : Nat} {cf : Cf} {E : Ed} {v : Ev} (h : At w b cf E v) (n : Nat) : At (w.drewN n) b cf E v := h.beside (Nat.le_refl _) (fun _ _ => rfl)
theorem At.drew {w : World} {b : Nat} {cf : Cf} {E : Ed} {v : Ev} (h : At w b cf E v) : At w.drew b cf E v := h.beside (Nat.le_refl _) (fun _ _ => rfl)
theorem Fe.below {b : Nat} {v : Ev} {w w' : World} (h : Below w.heap.size w w') : Fe b v v w w' := ⟨h.os, h.tape, h.output, h.size, fun k hk _ => h.block k hk, fun k hk => .inl hk, rfl⟩
theorem At.below {w w' : World} {b : Nat} {cf : Cf} {E : Ed} {v : Ev} (h : At w b cf E v) (hb : Below w.heap.size w w') : At w' b cf E v := h.beside hb.size hb.block
def Ok (w : World) (b : Nat) (cf : Cf) (v : Ev) (E' : Ed) (w' : World) : Prop := ∃ v', At w' b cf E' v' ∧ Fe b v v' w w'
theorem Ok.refl {w : World} {b : Nat} {cf : Cf} {E : Ed} {v : Ev} (h : At w b cf E v) : Ok w b cf v E w := ⟨v, h, Fe.refl _ _ _⟩
theorem Ok.drewN {w w' : World} {b : Nat} {cf : Cf} {E : Ed} {v : Ev} (h : Ok w b cf v E w') (n : Nat) : Ok w b cf v E (w'.drewN n) := by
  obtain ⟨v', h1, h2⟩ := h
  exact ⟨v', h1.drewN n, h2.drewN n⟩
theorem At.put {w w' : World} {b : Nat} {cf : Cf} {E E' : Ed} {v : Ev} (h : At w b cf E v) (hs : Sole b w w') (hr : Row w' b (edL cf E' v)) (e1 : E'.next = E.next := by rfl) (e2 : E'.out = E.out := by rfl) (e3 : E'.coming = E.coming := by rfl) (e4 : E'.opn = E.opn := by rfl) : Ok w b cf v E' w' := by
  have hk : ∀ k, ¬ Mine b v k → w'.heap[k]? = w.heap[k]? := fun k hk => hs.block k (fun e => hk (.inl e))
  refine ⟨v, ⟨hr, ?_, ?_, ?_, ?_, ?_, h.ap⟩, ⟨hs.os, hs.tape, hs.output, Nat.le_of_eq hs.size.symm, fun k _ hn => hk k hn, fun k hk => .inl hk, rfl⟩⟩
  · rw [e1]; exact own_of h.nx fun k hk => hs.block k (fun e => h.ap.b1 (by rw [← e]; exact hk))
  · rw [e2]; exact own_of h.ot fun k hk => hs.block k (fun e => h.ap.b2 (by rw [← e]; exact hk))
  · rw [e3]; exact own_of h.cg fun k hk => hs.block k (fun e => h.ap.b3 (by rw [← e]; exact hk))
  · rw [e4]; exact own_of h.op fun k hk => hs.block k (fun e => h.ap.b4 (by rw [← e]; exact hk))
  · exact h.cm.keep (fun k _ hn => hk k hn) (Nat.le_of_eq hs.size.symm) (fun k hk => .inl hk)
theorem rput {w : World} {b : Nat} {cf : Cf} {E E' : Ed} {v v' : Ev} (h : Row w b (edL cf E v)) (k : Nat) (x : Value) (hk : k < 21) (he : (edL cf E v).set k x = edL cf E' v') : Row (w.setCell ⟨b, k, none⟩ x) b (edL cf E' v') := by
  have := h.put k (by rw [edL_length]; exact hk) x
  rw [he] at this
  exact this
theorem Ok.trans {w w' w'' : World} {b : Nat} {cf : Cf} {E' E'' : Ed} {v : Ev} (h : Ok w b cf v E' w') (k : ∀ v', At w' b cf E' v' → Ok w' b cf v' E'' w'') : Ok w b cf v E'' w'' := by
  obtain ⟨v', h1, h2⟩ := h
  obtain ⟨v'', k1, k2⟩ := k v' h1
  exact ⟨v'', k1, h2.trans k2⟩
end Ee
end Go.Proofs.YtppjlpihaocdiaaGreatDoor
