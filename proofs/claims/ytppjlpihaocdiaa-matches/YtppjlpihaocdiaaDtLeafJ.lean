/- Several texts in one. -/
import Derived.Test.YtppjlpihaocdiaaRefFromJ
import Derived.Test.YtppjlpihaocdiaaTrSetsJ
import Derived.Great.BuildSlice
import Derived.Test.YtppjlpihaocdiaaTrGroupJ
/- The document's tree as it is read: what lies in memory, and how a node is added. -/
set_option linter.unusedSimpArgs false
set_option linter.unusedVariables false
namespace Go.Proofs.Ytppjlpihaocdiaa
namespace Dt
open Go.RowKit

/-- The cells of the document's nodes. -/
def Cells (w : World) (b : Nat) (nv : Value) (xs : List Value) (l : List Nd) (X : Nat → Prop) : Prop := ∀ (k : Nat) (d : Nd), l[k]? = some d →
  ∃ ao c, Tr.KidsC w b nv X ao d.subs ∧ ∀ o v, (ndL d (.slice ao d.subs.length c))[o]? = some v → xs[k * 261 + o]? = some v

theorem Cells.of {w w' : World} {b : Nat} {nv : Value} {xs : List Value} {l : List Nd} {X : Nat → Prop} (h : Cells w b nv xs l X) (hb : ∀ k, k < w.heap.size → k ≠ b → some k ≠ nv.ownBlock → ¬ X k → w'.heap[k]? = w.heap[k]?) : Cells w' b nv xs l X := fun k d hd => by
  obtain ⟨ao, c, h2, h4⟩ := h k d hd
  refine ⟨ao, c, ?_, h4⟩
  rcases h2 with h2 | ⟨kb, e1, e2, e3, e4, e5⟩
  · exact .inl h2
  · refine .inr ⟨kb, e1, e2, e3, e4, fun k y hy => ?_⟩
    have := e5 k y hy
    exact (World.cell?_of_block (w := w) (w' := w') (a := ⟨kb, k, none⟩) (hb kb (World.block_lt_of_cell? w _ this) e2 (fun e => e3 e.symm) e4)).trans this

/-- The tree lies at block b: its text, the place, the brackets so far, the nodes so far; no kids lie in the blocks X. -/
structure Dr (w : World) (b : Nat) (s : ByteArray) (p : PSt) (nv : Value) (X : Nat → Prop) : Prop where
  c0 : w.cell? ⟨b, 0, none⟩ = some nv
  c1 : w.cell? ⟨b, 1, none⟩ = some (.int .i64 p.g)
  c2 : w.cell? ⟨b, 2, none⟩ = some (.int .i64 0)
  c3 : w.cell? ⟨b, 3, none⟩ = some (.string s)
  c4 : w.cell? ⟨b, 4, none⟩ = some (.int .i64 p.at')
  f0 : w.frozen? ⟨b, 0, none⟩ = false
  f1 : w.frozen? ⟨b, 1, none⟩ = false
  f2 : w.frozen? ⟨b, 2, none⟩ = false
  f4 : w.frozen? ⟨b, 4, none⟩ = false
  le : p.at' ≤ s.size
  s40 : s.size ≤ 40
  own : ∃ xs, w.ownsRow (b + 1) 140 261 nv p.l.length xs ∧ Cells w b nv xs p.l X

theorem Dr.lt {w : World} {b : Nat} {s : ByteArray} {p : PSt} {nv : Value} {X : Nat → Prop} (h : Dr w b s p nv X) : b < w.heap.size := World.block_lt_of_cell? w _ h.c0

/-- The blocks that a tree lies in are as they were. -/
theorem Dr.of {w w' : World} {b : Nat} {s : ByteArray} {p : PSt} {nv : Value} {X : Nat → Prop} (h : Dr w b s p nv X) (hb : w'.heap[b]? = w.heap[b]?) (hk : ∀ k, k < w.heap.size → k ≠ b → ¬ X k → w'.heap[k]? = w.heap[k]?) (hn : ∀ k, nv.ownBlock = some k → ¬ X k) : Dr w' b s p nv X := by
  obtain ⟨c0, c1, c2, c3, c4, f0, f1, f2, f4, le, s40, xs, hown, hce⟩ := h
  have hc : ∀ k, w'.cell? ⟨b, k, none⟩ = w.cell? ⟨b, k, none⟩ := fun k => World.cell?_of_block (w := w) (w' := w') (a := ⟨b, k, none⟩) hb
  have hf : ∀ k, w'.frozen? ⟨b, k, none⟩ = w.frozen? ⟨b, k, none⟩ := fun k => World.frozen?_of_block (w := w) (w' := w') (a := ⟨b, k, none⟩) hb
  exact ⟨(hc 0).trans c0, (hc 1).trans c1, (hc 2).trans c2, (hc 3).trans c3, (hc 4).trans c4, (hf 0).trans f0, (hf 1).trans f1, (hf 2).trans f2, (hf 4).trans f4, le, s40, xs,
    Tr.ownsRow_of_block hown fun k hk' => hk k (hown.lt k hk').2 (by have := (hown.lt k hk').1; omega) (hn k hk'), hce.of fun k h1 h2 _ h4 => hk k h1 h2 h4⟩

/-- Fewer blocks are barred. -/
theorem Dr.bar {w : World} {b : Nat} {s : ByteArray} {p : PSt} {nv : Value} {X : Nat → Prop} (h : Dr w b s p nv X) (Y : Nat → Prop) (hY : ∀ k, k < w.heap.size → Y k → X k) : Dr w b s p nv Y := by
  obtain ⟨c0, c1, c2, c3, c4, f0, f1, f2, f4, le, s40, xs, hown, hce⟩ := h
  refine ⟨c0, c1, c2, c3, c4, f0, f1, f2, f4, le, s40, xs, hown, fun k d hd => ?_⟩
  obtain ⟨ao, c, h2, h4⟩ := hce k d hd
  refine ⟨ao, c, ?_, h4⟩
  rcases h2 with h2 | ⟨kb, e1, e2, e3, e4, e5⟩
  · exact .inl h2
  · by_cases hs : d.subs = []
    · exact .inl hs
    · obtain ⟨y, hy⟩ : ∃ y, d.subs[0]? = some y := by
        cases hd : d.subs with
        | nil => exact absurd hd hs
        | cons a l => exact ⟨a, rfl⟩
      have hlt : kb < w.heap.size := World.block_lt_of_cell? w _ (e5 0 y hy)
      exact .inr ⟨kb, e1, e2, e3, fun hy => e4 (hY kb hlt hy), e5⟩

/-- New memory, and nothing old turned. -/
theorem Dr.grow {w w' : World} {b : Nat} {s : ByteArray} {p : PSt} {nv : Value} {X : Nat → Prop} (h : Dr w b s p nv X) (hB : Below w.heap.size w w') : Dr w' b s p nv X := by
  obtain ⟨c0, c1, c2, c3, c4, f0, f1, f2, f4, le, s40, xs, hown, hce⟩ := h
  have hb : b < w.heap.size := World.block_lt_of_cell? w _ c0
  have hc : ∀ k, w'.cell? ⟨b, k, none⟩ = w.cell? ⟨b, k, none⟩ := fun k => hB.cell (p := ⟨b, k, none⟩) hb
  have hf : ∀ k, w'.frozen? ⟨b, k, none⟩ = w.frozen? ⟨b, k, none⟩ := fun k => hB.frozen (p := ⟨b, k, none⟩) hb
  exact ⟨(hc 0).trans c0, (hc 1).trans c1, (hc 2).trans c2, (hc 3).trans c3, (hc 4).trans c4, (hf 0).trans f0, (hf 1).trans f1, (hf 2).trans f2, (hf 4).trans f4, le, s40, xs,
    Tr.ownsRow_of_block hown fun k hk' => hB.block k (hown.lt k hk').2, hce.of fun k h1 _ _ _ => hB.block k h1⟩

/-- A store into a block that the tree does not lie in, and that is barred. -/
theorem Dr.sole {w w' : World} {b a : Nat} {s : ByteArray} {p : PSt} {nv : Value} {X : Nat → Prop} (h : Dr w b s p nv X) (hs : Sole a w w') (hab : a ≠ b) (hn : nv.ownBlock ≠ some a) (hX : X a) : Dr w' b s p nv X := by
  obtain ⟨c0, c1, c2, c3, c4, f0, f1, f2, f4, le, s40, xs, hown, hce⟩ := h
  have hb := hs.block b (fun e => hab e.symm)
  have hc : ∀ k, w'.cell? ⟨b, k, none⟩ = w.cell? ⟨b, k, none⟩ := fun k => World.cell?_of_block (w := w) (w' := w') (a := ⟨b, k, none⟩) hb
  have hf : ∀ k, w'.frozen? ⟨b, k, none⟩ = w.frozen? ⟨b, k, none⟩ := fun k => World.frozen?_of_block (w := w) (w' := w') (a := ⟨b, k, none⟩) hb
  exact ⟨(hc 0).trans c0, (hc 1).trans c1, (hc 2).trans c2, (hc 3).trans c3, (hc 4).trans c4, (hf 0).trans f0, (hf 1).trans f1, (hf 2).trans f2, (hf 4).trans f4, le, s40, xs,
    Tr.ownsRow_of_block hown fun k hk' => hs.block k (fun e => hn (by rw [← e]; exact hk')), hce.of fun k _ _ _ h4 => hs.block k (fun e => h4 (by rw [e]; exact hX))⟩

theorem Try.info140 : (Try.prog.info? 140).map (fun i => (i.zero, i.size, i.bytes)) = some (some (.agg (ndL ⟨0, noSet, [], 0, 0, 0⟩ (.slice none 0 0)).toArray), 261, 312) := by kernel_rfl

/-- The load of a node and the row of one, under names that the walk does not open. -/
def LN (v : Value) : Sem Value := Instr.loadAt 140 v
def BN (ps : Array (Nat × Value)) : Sem Value := Instr.buildSlice 105 1 ps
theorem LN_eq (v : Value) : Instr.loadAt 140 v = LN v := rfl
theorem BN_eq (ps : Array (Nat × Value)) : Instr.buildSlice 105 1 ps = BN ps := rfl

theorem run_LN {w : World} {b : Nat} {cs : List Value} (h : Row w b cs) (hl : cs.length = 261) : (LN (.pointer (some ⟨b, 0, none⟩))).run Try.prog w = .ok (.agg cs.toArray) w :=
  run_loadAt_mid (P := Try.prog) w b 0 140 cs _ h.lies Try.underlying140 rfl (by rw [hl]; kernel_rfl)

theorem run_BN (w : World) (cs : List Value) (hl : cs.length = 261) : (BN #[(0, .agg cs.toArray)]).run Try.prog w = .ok (.slice (some ⟨w.heap.size, 0, none⟩) 1 1) (w.alloc (.cells cs.toArray 140)) := by
  obtain ⟨i0, hi0, hz0, hz1, hz2⟩ := info_parts Try.info140
  have hf := Great.fill_whole (s := 261) (by omega) [Value.agg cs.toArray] ((Array.range (1 * 261)).map ((Value.agg (ndL ⟨0, noSet, [], 0, 0, 0⟩ (.slice none 0 0)).toArray).cells[· % (Value.agg (ndL ⟨0, noSet, [], 0, 0, 0⟩ (.slice none 0 0)).toArray).cells.size]!))
    (fun v hv => by
      obtain rfl : v = .agg cs.toArray := by simpa using hv
      simp [Value.cells, hl]) (by simp)
  have := run_buildSlice (P := Try.prog) w 105 140 1 #[(0, .agg cs.toArray)] cs.toArray i0 _ Try.underlying105 hi0 hz0 (by rw [hz1]; omega) (by rw [hz1]; omega) (by
    rw [hz1]
    have e : (#[(0, Value.agg cs.toArray)] : Array (Nat × Value)).toList = (([Value.agg cs.toArray].zipIdx 0).map fun x => (x.2, x.1)) := rfl
    rw [e, hf]
    simp [Value.cells])
  exact this
/-- The nodes' cells behind the append that adds a node. -/
theorem Cells.added {w w' : World} {b gg cap : Nat} {nv : Value} {xs : List Value} {l : List Nd} {X : Nat → Prop} {d : Nd} {ao : Option Addr} {c : Nat}
    (h : Cells w b nv xs l X) (hx : xs.length = l.length * 261) (hfar : ∀ k, k < w.heap.size → k ≠ b → some k ≠ nv.ownBlock → w'.heap[k]? = w.heap[k]?)
    (hat : nv.ownBlock = some gg ∨ w.heap.size ≤ gg) (hK : Tr.KidsC w b nv X ao d.subs) :
    Cells w' b (.slice (some ⟨gg, 0, none⟩) (l.length + 1) cap) (xs ++ ndL d (.slice ao d.subs.length c)) (l ++ [d]) X := by
  have hk' : ∀ {ao : Option Addr} {subs : List Nat}, Tr.KidsC w b nv X ao subs → Tr.KidsC w' b (.slice (some ⟨gg, 0, none⟩) (l.length + 1) cap) X ao subs := by
    intro ao subs h
    rcases h with h | ⟨kb, h1, h2, h3, h4, h5⟩
    · exact .inl h
    · by_cases hs : subs = []
      · exact .inl hs
      · obtain ⟨y, hy⟩ : ∃ y, subs[0]? = some y := by
          cases hd : subs with
          | nil => exact absurd hd hs
          | cons a l => exact ⟨a, rfl⟩
        have hlt : kb < w.heap.size := World.block_lt_of_cell? w _ (h5 0 y hy)
        refine .inr ⟨kb, h1, h2, ?_, h4, fun k y hy => ?_⟩
        · intro e
          have e' : gg = kb := by simpa [Value.ownBlock] using e
          rcases hat with hat | hat
          · exact h3 (by rw [hat, e'])
          · omega
        · exact (World.cell?_of_block (w := w) (w' := w') (a := ⟨kb, k, none⟩) (hfar kb hlt h2 (fun e => h3 e.symm))).trans (h5 k y hy)
  intro k d' hd'
  by_cases e : k < l.length
  · have hd2 : l[k]? = some d' := by
      rwa [List.getElem?_append_left e] at hd'
    obtain ⟨ao', c', h2, h4⟩ := h k d' hd2
    refine ⟨ao', c', hk' h2, fun o v hv => ?_⟩
    have := h4 o v hv
    rw [List.getElem?_append_left]
    · exact this
    · exact (List.getElem?_eq_some_iff.1 this).1
  · have hk : k = l.length := by
      have := (List.getElem?_eq_some_iff.1 hd').1
      simp at this
      omega
    subst hk
    have hdd : d' = d := by simpa using hd'.symm
    subst hdd
    refine ⟨ao, c, hk' hK, fun o v hv => ?_⟩
    rw [List.getElem?_append_right (by omega), hx, Nat.add_sub_cancel_left]
    exact hv

/-- The tree behind the append that adds a node. -/
theorem Dr.added {w w1 : World} {b gg cap : Nat} {p : PSt} {X : Nat → Prop} {d : Nd} {s : ByteArray} {nv : Value} {o1 o2 : Obj} {xs : List Value} {ao : Option Addr} {c : Nat} (hr : Dr w b s p nv X) (hxs : w.ownsRow (b + 1) 140 261 nv p.l.length xs) (hce : Cells w b nv xs p.l X)
    (hg : ((w.alloc o1).alloc o2).drew.grownBy w1 nv.ownBlock) (hown : w1.ownsRow (b + 1) 140 261 (.slice (some ⟨gg, 0, none⟩) (p.l.length + 1) cap) (p.l.length + 1) (xs ++ ndL d (.slice ao d.subs.length c)))
    (hat : nv.ownBlock = some gg ∨ gg = w.heap.size + 2) (hK : Tr.KidsC w b nv X ao d.subs) :
    Dr (w1.setCell ⟨b, 0, none⟩ (.slice (some ⟨gg, 0, none⟩) (p.l.length + 1) cap)) b s ⟨p.at', p.g, p.l ++ [d]⟩ (.slice (some ⟨gg, 0, none⟩) (p.l.length + 1) cap) X ∧
    Tr.Fr b nv (.slice (some ⟨gg, 0, none⟩) (p.l.length + 1) cap) w (w1.setCell ⟨b, 0, none⟩ (.slice (some ⟨gg, 0, none⟩) (p.l.length + 1) cap)) := by
  obtain ⟨c0, c1, c2, c3, c4, f0, f1, f2, f4, le, s40, xs', ho, hce'⟩ := hr
  have hb : b < w.heap.size := World.block_lt_of_cell? w _ c0
  have hx := Tr.far2 hg hb (fun e => by have := (ho.lt _ e.symm).1; omega)
  have kc : ∀ k, w1.cell? ⟨b, k, none⟩ = w.cell? ⟨b, k, none⟩ := fun k => World.cell?_of_block (w := w) (w' := w1) (a := ⟨b, k, none⟩) hx
  have kf : ∀ k, w1.frozen? ⟨b, k, none⟩ = w.frozen? ⟨b, k, none⟩ := fun k => World.frozen?_of_block (w := w) (w' := w1) (a := ⟨b, k, none⟩) hx
  have ko : ∀ k, k ≠ 0 → (w1.setCell ⟨b, 0, none⟩ (.slice (some ⟨gg, 0, none⟩) (p.l.length + 1) cap)).cell? ⟨b, k, none⟩ = w.cell? ⟨b, k, none⟩ := fun k hk =>
    (World.cell?_setCell_other (h := fun e => hk (by injection e with _ e _; exact e.symm)) ..).trans (kc k)
  have kz : ∀ k, (w1.setCell ⟨b, 0, none⟩ (.slice (some ⟨gg, 0, none⟩) (p.l.length + 1) cap)).frozen? ⟨b, k, none⟩ = w.frozen? ⟨b, k, none⟩ := fun k => by
    rw [World.frozen?_setCell]; exact kf k
  have hgb : b + 1 ≤ gg := (hown.lt gg rfl).1
  have hfar : ∀ k, k < w.heap.size → k ≠ b → some k ≠ nv.ownBlock → (w1.setCell ⟨b, 0, none⟩ (.slice (some ⟨gg, 0, none⟩) (p.l.length + 1) cap)).heap[k]? = w.heap[k]? := fun k hk hkb hkn => by
    rw [Below.heap_setCell _ _ _ _ hkb, Tr.far2 hg hk hkn]
  refine ⟨⟨?_, (ko 1 (by omega)).trans c1, (ko 2 (by omega)).trans c2, (ko 3 (by omega)).trans c3, (ko 4 (by omega)).trans c4, (kz 0).trans f0, (kz 1).trans f1, (kz 2).trans f2, (kz 4).trans f4, le, s40, xs ++ ndL d (.slice ao d.subs.length c), ?_, Cells.added (c := c) hce hxs.1 hfar (hat.imp id fun h => by omega) hK⟩, ?_⟩
  · exact World.cell?_setCell_same _ _ _ ((kc 0).trans c0)
  · rw [List.length_append]
    exact Tr.ownsRow_of_block hown fun k hk => Below.heap_setCell _ _ _ _ (by
      have : gg = k := by simpa [Value.ownBlock] using hk
      simp only; omega)
  · have hsz : w.heap.size + 2 ≤ w1.heap.size := by have := hg.size; simp at this; omega
    refine ⟨hg.os, hg.tape, hg.output, by simp [World.setCell]; omega, hfar, ?_⟩
    · rcases hat with hat | hat
      · exact .inl hat.symm
      · right
        intro k hk
        have : gg = k := by simpa [Value.ownBlock] using hk
        omega

attribute [local go_sem ↓] LN_eq BN_eq Go.wp_at_zero Go.wp_at_succ

set_option maxRecDepth 100000 in
set_option maxHeartbeats 1600000 in
theorem add_any (b : Nat) (p : PSt) (X : Nat → Prop) (s : ByteArray) (nv : Value) (w : World) (hr : Dr w b s p nv X) (hn : p.l.length ≤ 1000) (d : Nd) (ao : Option Addr) (c : Nat) (hK : Tr.KidsC w b nv X ao d.subs) :
    Calls Try.prog 83 #[.pointer (some ⟨b, 0, none⟩), .agg (ndL d (.slice ao d.subs.length c)).toArray] w
      fun e w' => ∃ nv', e = .returned (.int .i64 p.l.length) ∧ Dr w' b s ⟨p.at', p.g, p.l ++ [d]⟩ nv' X ∧ Tr.Fr b nv nv' w w' := by
  have HR : Hid (Dr w b s p nv X) := hr
  obtain ⟨c0, c1, c2, c3, c4, f0, f1, f2, f4, le, s40, xs, hown, hce⟩ := hr
  have hb : b < w.heap.size := World.block_lt_of_cell? w _ c0
  have HO : Hid (w.ownsRow (b + 1) 140 261 nv p.l.length xs) := hown
  have HL : Hid (∀ k, nv.ownBlock = some k → b + 1 ≤ k ∧ k < w.heap.size) := fun k hk => hown.lt k hk
  generalize hcs : ndL d (.slice ao d.subs.length c) = cs
  have h261 : Hid (cs.length = 261) := by rw [Hid, ← hcs, ndL_length]
  have h1c : Hid (∀ v ∈ cs, v.oneCell' = true) := by rw [Hid, ← hcs]; exact ndL_one _ _ _ _
  have HE : Hid (∀ {w1 : World} {gg cap : Nat} {o1 o2 : Obj}, ((w.alloc o1).alloc o2).drew.grownBy w1 nv.ownBlock → w1.ownsRow (b + 1) 140 261 (.slice (some ⟨gg, 0, none⟩) (p.l.length + 1) cap) (p.l.length + 1) (xs ++ cs) → (nv.ownBlock = some gg ∨ gg = w.heap.size + 2) →
      Dr (w1.setCell ⟨b, 0, none⟩ (.slice (some ⟨gg, 0, none⟩) (p.l.length + 1) cap)) b s ⟨p.at', p.g, p.l ++ [d]⟩ (.slice (some ⟨gg, 0, none⟩) (p.l.length + 1) cap) X ∧
      Tr.Fr b nv (.slice (some ⟨gg, 0, none⟩) (p.l.length + 1) cap) w (w1.setCell ⟨b, 0, none⟩ (.slice (some ⟨gg, 0, none⟩) (p.l.length + 1) cap))) := by
    intro w1 gg cap o1 o2 h1 h2 h3
    rw [← hcs] at h2
    exact Dr.added HR.out hown hce h1 h2 h3 hK
  obtain ⟨i0, hi0, hz0, hz1, hz2⟩ := info_parts Try.info140
  have hRow : Row (w.alloc (.cells cs.toArray 140)) w.heap.size cs := Row.new w cs 140
  have hl := run_LN (w := (w.alloc (.cells cs.toArray 140)).drew) (hRow.of_block rfl) h261.out
  have hbn := run_BN (w.alloc (.cells cs.toArray 140)).drew cs h261.out
  clear hown hce hK hcs c1 c2 c3 c4 f1 f2 f4 hRow
  generalize hnl : p.l.length = nl at HO HE hn ⊢
  go_enter Try.func83, Try.ntmps83
  go_wp2_with fail
  go_region_law
    ((refine step_append_lies _ (by rfl) _ _ _ (by rfl) (b + 1) 140 i0 _ 261 312 Try.underlying105 hi0 hz0 hz1 hz2 (by simp [Value.cells, ndL_length]) (by omega) nv nl xs (by rfl) (((HO.out.alloc _).alloc _).drew)
        ⟨w.heap.size + 1, 0, none⟩ 1 1 cs (by rfl) (by rw [h261.out]) (World.news_of_block (cs := cs.toArray) (t := 140) (fr := (0, 0)) (Tr.new2 w _ _)) h1c.out
        (by omega) (by unfold maxLen; omega) (by omega) (by simp; omega) (w.heap.size + 2) (by simp) ?_; intro gg cap w1 hown1 hgrow hat hlt; have hx := Tr.far2 hgrow hb (fun e => by have := (HL.out _ e.symm).1; omega); have kc := World.cell?_of_block (w := w) (w' := w1) (a := ⟨b, 0, none⟩) hx; have kf := World.frozen?_of_block (w := w) (w' := w1) (a := ⟨b, 0, none⟩) hx; rw [c0] at kc; rw [f0] at kf; have HX : Hid (w1.heap[b]? = w.heap[b]?) := hx; clear hx))
  all_goals go_wp2
  all_goals go_ret
  all_goals exact ⟨_, rfl, HE.out hgrow hown1 hat⟩
end Dt
end Go.Proofs.Ytppjlpihaocdiaa

/- The document's reader: what comes next, and a byte of a set. -/
set_option linter.unusedSimpArgs false
set_option linter.unusedVariables false
namespace Go.Proofs.Ytppjlpihaocdiaa
namespace Dt
open Go.RowKit

theorem Dr.drewN {w : World} {b : Nat} {s : ByteArray} {p : PSt} {nv : Value} {X : Nat → Prop} (h : Dr w b s p nv X) (n : Nat) : Dr (w.drewN n) b s p nv X :=
  h.grow ⟨rfl, rfl, rfl, Nat.le_refl _, fun _ _ => rfl⟩

theorem Cells.set {w : World} {b k : Nat} {nv v : Value} {xs : List Value} {l : List Nd} {X : Nat → Prop} (h : Cells w b nv xs l X) : Cells (w.setCell ⟨b, k, none⟩ v) b nv xs l X := h.of fun q _ hb _ _ => Below.heap_setCell _ _ _ _ hb

theorem Dr.put4 {w : World} {b : Nat} {s : ByteArray} {p : PSt} {nv : Value} {X : Nat → Prop} (h : Dr w b s p nv X) {v : Int} (j : Nat) (hv : v = j) (hj : j ≤ s.size) : Dr (w.setCell ⟨b, 4, none⟩ (.int .i64 v)) b s ⟨j, p.g, p.l⟩ nv X := by
  obtain ⟨c0, c1, c2, c3, c4, f0, f1, f2, f4, le, s40, xs, hown, hce⟩ := h
  subst hv
  have hx : (w.setCell ⟨b, 4, none⟩ (.int .i64 (j : Int))).ownsRow (b + 1) 140 261 nv p.l.length xs := Tr.ownsRow_of_block hown fun k hk => Below.heap_setCell _ _ _ _ (by have := (hown.lt k hk).1; simp only; omega)
  exact ⟨by go_simp, by go_simp, by go_simp, by go_simp, by go_simp, by go_simp, by go_simp, by go_simp, by go_simp, hj, s40, xs, hx, hce.set⟩

theorem Dr.put1 {w : World} {b : Nat} {s : ByteArray} {p : PSt} {nv : Value} {X : Nat → Prop} (h : Dr w b s p nv X) {v : Int} (g : Nat) (hv : v = g) : Dr (w.setCell ⟨b, 1, none⟩ (.int .i64 v)) b s ⟨p.at', g, p.l⟩ nv X := by
  obtain ⟨c0, c1, c2, c3, c4, f0, f1, f2, f4, le, s40, xs, hown, hce⟩ := h
  subst hv
  have hx : (w.setCell ⟨b, 1, none⟩ (.int .i64 (g : Int))).ownsRow (b + 1) 140 261 nv p.l.length xs := Tr.ownsRow_of_block hown fun k hk => Below.heap_setCell _ _ _ _ (by have := (hown.lt k hk).1; simp only; omega)
  exact ⟨by go_simp, by go_simp, by go_simp, by go_simp, by go_simp, by go_simp, by go_simp, by go_simp, by go_simp, le, s40, xs, hx, hce.set⟩

theorem Only.drewN {b : Nat} {u w : World} (h : Only b u w) (n : Nat) : Only b u (w.drewN n) := h.trans ⟨rfl, rfl, rfl, rfl, fun _ _ => rfl⟩

theorem is_any (b : Nat) (p : PSt) (X : Nat → Prop) (s : ByteArray) (nv : Value) (c : Nat) (w : World) (hr : Dr w b s p nv X) :
    Calls Try.prog 82 #[.pointer (some ⟨b, 0, none⟩), .int .u8 c] w fun e w' => e = .returned (.bool (decide (pk s p.at' = (c : Int)))) ∧ ∃ n, w' = w.drewN n := by
  obtain ⟨i, g, l⟩ := p
  obtain ⟨c0, c1, c2, c3, c4, f0, f1, f2, f4, le, s40, own⟩ := hr
  simp only at c1 c4 le
  clear own c0 c1 c2 f0 f1 f2 f4
  by_cases hi : i < s.size
  · have HP : Hid (pk s i = (byt s i : Int)) := pk_in hi
    have hy : ((s[i]).toNat : Int) = (byt s i : Int) := byt_int s i hi
    have k1 : (0 : Int) ≤ (i : Int) := by omega
    have k2 : (i : Int) < (s.size : Int) := by omega
    have hd : decide ((i : Int) < (s.size : Int)) = true := by simp; omega
    generalize byt s i = y at hy HP
    go_enter Try.func82, Try.ntmps82
    go_wp2_with fail
    go_quiet (fail)
    go_wp2_with fail
    go_ret
    refine ⟨ret_bool ?_, _, rfl⟩
    rw [HP.out]
    rfl
  · have HP : Hid (pk s i = -1) := pk_out hi
    have hd : decide ((i : Int) < (s.size : Int)) = false := by simp; omega
    have hd2 : decide (i < s.size) = false := by simp; omega
    go_enter Try.func82, Try.ntmps82
    go_wp2_with fail
    go_quiet (fail)
    go_wp2_with fail
    go_ret
    refine ⟨ret_bool ?_, _, rfl⟩
    rw [HP.out]
    simp

theorem inner_any (b : Nat) (p : PSt) (X : Nat → Prop) (s : ByteArray) (nv : Value) (w : World) (hr : Dr w b s p nv X) (hi : p.at' < s.size) (he : byt s p.at' = 92 → p.at' + 1 < s.size) :
    Calls Try.prog 145 #[.pointer (some ⟨b, 0, none⟩)] w fun e w' => e = .returned (.int .i64 ((innV s p.at').1 : Nat)) ∧ Dr w' b s ⟨(innV s p.at').2, p.g, p.l⟩ nv X ∧ Only b w w' := by
  have HR : Hid (Dr w b s p nv X) := hr
  obtain ⟨i, g, l⟩ := p
  obtain ⟨c0, c1, c2, c3, c4, f0, f1, f2, f4, le, s40, own⟩ := hr
  simp only at c1 c4 le hi he HR ⊢
  clear own c0 c1 c2 f0 f1 f2
  have hy : ((s[i]).toNat : Int) = (byt s i : Int) := byt_int s i hi
  have k1 : (0 : Int) ≤ (i : Int) := by omega
  have k2 : (i : Int) < (s.size : Int) := by omega
  by_cases h92 : byt s i = 92
  · have HV : Hid (innV s i = (val (byt s (i + 1)), i + 2)) := by unfold innV; rw [Hid, if_pos h92]
    have hi1 := he h92
    have hy1 : ((s[i + 1]).toNat : Int) = (byt s (i + 1) : Int) := byt_int s (i + 1) hi1
    have hyl := byt_lt s (i + 1)
    have HN : Hid ((s[i + 1]'hi1).toNat = byt s (i + 1)) := by rw [Hid]; omega
    have k3 : (0 : Int) ≤ (i : Int) + 1 := by omega
    have k4 : (i : Int) + 1 < (s.size : Int) := by omega
    rw [h92] at hy
    generalize hv : byt s (i + 1) = y at HV hy1 hyl HN
    clear he hv h92
    go_enter Try.func145, Try.ntmps145
    go_wp2_with fail
    go_quiet (fail)
    go_wp2_with fail
    go_quiet (fail)
    go_wp2_with fail
    refine (value_any y _ hyl).mono ?_
    rintro e w2 ⟨rfl, rfl⟩
    go_wp2_with fail
    go_ret
    rw [HV.out]
    refine ⟨rfl, ?_, ?_⟩
    · exact ((((HR.out.drewN _).put4 (v := (i : Int) + 1) (i + 1) (by omega) (by omega)).drewN _).put4 (v := (i : Int) + 1 + 1) (i + 2) (by omega) (by omega))
    · exact (Only.drewN ((Only.drewN (Only.refl b w) _).setCell 4 _) _).setCell 4 _
  · have HV : Hid (innV s i = (byt s i, i + 1)) := by unfold innV; rw [Hid, if_neg h92]
    have h92' : ((byt s i : Int) == 92) = false := by simp; omega
    have hyl := byt_lt s i
    generalize hv : byt s i = y at HV hy h92' hyl
    clear he hv h92
    go_enter Try.func145, Try.ntmps145
    go_wp2_with fail
    go_quiet (fail)
    go_wp2_with fail
    go_ret
    rw [HV.out]
    refine ⟨ret_int (by simp only), ?_, ?_⟩
    · exact (HR.out.drewN _).put4 (v := (i : Int) + 1) (i + 1) (by omega) (by omega)
    · exact (Only.drewN (Only.refl b w) _).setCell 4 _
end Dt
end Go.Proofs.Ytppjlpihaocdiaa

