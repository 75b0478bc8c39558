/- The reader as a whole, with what its nodes hold, and how it adds a node. -/
import Derived.Test.YtppjlpihaocdiaaBitsK
import Derived.Test.YtppjlpihaocdiaaReptK
import Derived.Test.YtppjlpihaocdiaaRefCapsK
import Derived.Test.YtppjlpihaocdiaaLookK
import Derived.Deep.RegionLaw
import Derived.BigRegion
import Derived.Deep.AppendLies
import Derived.Deep.DrawnRows
set_option linter.unusedSimpArgs false
set_option linter.unusedVariables false
namespace Go.Proofs.Ytppjlpihaocdiaa
namespace Tr
open Go.RowKit

/-- The nodes so far, and the blocks where none of their kids may lie. -/
structure NX where
  l : List Nd
  X : Nat → Prop

def NX.add (n : NX) (d : Nd) : NX := ⟨n.l ++ [d], n.X⟩

/-- A node's kids lie apart from the reader, its nodes and the blocks X. -/
def KidsC (w : World) (b : Nat) (nv : Value) (X : Nat → Prop) (ao : Option Addr) (subs : List Nat) : Prop :=
  subs = [] ∨ ∃ kb, ao = some ⟨kb, 0, none⟩ ∧ kb ≠ b ∧ nv.ownBlock ≠ some kb ∧ ¬ X kb ∧ ∀ (k y : Nat), subs[k]? = some y → w.cell? ⟨kb, k, none⟩ = some (.int .i64 y)

/-- The cells of the nodes. -/
def Cells (w : World) (b : Nat) (nv : Value) (xs : List Value) (n : NX) : Prop := ∀ (k : Nat) (d : Nd), n.l[k]? = some d →
  ∃ ao c y0 y1 y2 y3, S4 y0 y1 y2 y3 d.set ∧ KidsC w b nv n.X ao d.subs ∧ d.subs.length ≤ c ∧ ∀ o v, (pnL d ao c y0 y1 y2 y3)[o]? = some v → xs[k * 9 + o]? = some v

theorem KidsC.of {w w' : World} {b : Nat} {nv : Value} {X : Nat → Prop} {ao : Option Addr} {subs : List Nat} (h : KidsC w b nv X ao subs) (hb : ∀ k, k < w.heap.size → k ≠ b → some k ≠ nv.ownBlock → w'.heap[k]? = w.heap[k]?) : KidsC w' b nv X ao subs := by
  rcases h with h | ⟨kb, h1, h2, h3, h4, h5⟩
  · exact .inl h
  · refine .inr ⟨kb, h1, h2, h3, h4, fun k y hy => ?_⟩
    have := h5 k y hy
    exact (World.cell?_of_block (w := w) (w' := w') (a := ⟨kb, k, none⟩) (hb kb (World.block_lt_of_cell? w _ this) h2 (fun e => h3 e.symm))).trans this

theorem Cells.of {w w' : World} {b : Nat} {nv : Value} {xs : List Value} {n : NX} (h : Cells w b nv xs n) (hb : ∀ k, k < w.heap.size → k ≠ b → some k ≠ nv.ownBlock → w'.heap[k]? = w.heap[k]?) : Cells w' b nv xs n := fun k d hd => by
  obtain ⟨ao, c, y0, y1, y2, y3, h1, h2, h3, h4⟩ := h k d hd
  exact ⟨ao, c, y0, y1, y2, y3, h1, h2.of hb, h3, h4⟩

/-- The reader lies at block b: its text, its place, the brackets open and in all, its nodes. -/
structure Rd (w : World) (b : Nat) (s : ByteArray) (i o g : Nat) (nv : Value) (n : NX) : Prop where
  rc : Rc w b s i
  c2 : w.cell? ⟨b, 2, none⟩ = some (.int .i64 o)
  c3 : w.cell? ⟨b, 3, none⟩ = some (.int .i64 g)
  c4 : w.cell? ⟨b, 4, none⟩ = some nv
  f2 : w.frozen? ⟨b, 2, none⟩ = false
  f3 : w.frozen? ⟨b, 3, none⟩ = false
  f4 : w.frozen? ⟨b, 4, none⟩ = false
  own : ∃ xs, w.ownsRow (b + 1) 92 9 nv n.l.length xs ∧ Cells w b nv xs n
  wf : ∀ (a : Nat) (d : Nd), n.l[a]? = some d → PNd a g d

/-- What the reader's calls leave alone: all blocks that were there but its own and its nodes'. -/
structure Fr (b : Nat) (nv nv' : Value) (w w' : World) : Prop where
  os : w'.os = w.os
  tape : w'.tape = w.tape
  output : w'.output = w.output
  size : w.heap.size ≤ w'.heap.size
  block : ∀ k, k < w.heap.size → k ≠ b → some k ≠ nv.ownBlock → w'.heap[k]? = w.heap[k]?
  lies : nv'.ownBlock = nv.ownBlock ∨ ∀ k, nv'.ownBlock = some k → w.heap.size ≤ k

theorem Fr.refl (b : Nat) (nv : Value) (w : World) : Fr b nv nv w w := ⟨rfl, rfl, rfl, Nat.le_refl _, fun _ _ _ _ => rfl, .inl rfl⟩

theorem Fr.trans {b : Nat} {nv nv' nv'' : Value} {u v w : World} (h : Fr b nv nv' u v) (k : Fr b nv' nv'' v w) : Fr b nv nv'' u w := by
  refine ⟨k.os.trans h.os, k.tape.trans h.tape, k.output.trans h.output, Nat.le_trans h.size k.size, fun i hi hb hn => ?_, ?_⟩
  · refine (k.block i (Nat.lt_of_lt_of_le hi h.size) hb ?_).trans (h.block i hi hb hn)
    rcases h.lies with e | e
    · rw [e]; exact hn
    · intro hh
      have := e i hh.symm
      omega
  · rcases k.lies with e | e
    · rw [e]; exact h.lies
    · exact .inr fun j hj => Nat.le_trans h.size (e j hj)

theorem Mv.fr {b j : Nat} {w w' : World} (h : Mv b w w' j) (nv : Value) : Fr b nv nv w w' :=
  ⟨h.only.os, h.only.tape, h.only.output, by rw [h.only.size]; exact Nat.le_refl _, fun k _ hb _ => h.only.block k hb, .inl rfl⟩

theorem ownsRow_of_block {w w' : World} {base : Nat} {e : TypeId} {size n : Nat} {v : Value} {xs : List Value} (h : w.ownsRow base e size v n xs) (hb : ∀ k, v.ownBlock = some k → w'.heap[k]? = w.heap[k]?) : w'.ownsRow base e size v n xs := by
  obtain ⟨h1, h2⟩ := h
  refine ⟨h1, ?_⟩
  rcases h2 with h2 | ⟨g, cap, cur, hv, hg, hh, r⟩
  · exact .inl h2
  · exact .inr ⟨g, cap, cur, hv, hg, by rw [hb g (by rw [hv]; rfl)]; exact hh, r⟩

theorem Mv.rd {b i j o g : Nat} {n : NX} {s : ByteArray} {nv : Value} {w w' : World} (h : Mv b w w' j) (hr : Rd w b s i o g nv n) (hj : j ≤ s.size) : Rd w' b s j o g nv n := by
  obtain ⟨rc, c2, c3, c4, f2, f3, f4, ⟨xs, hown, hce⟩, hwf⟩ := hr
  refine ⟨h.rc rc hj, by rw [h.cell 2 (by omega)]; exact c2, by rw [h.cell 3 (by omega)]; exact c3, by rw [h.cell 4 (by omega)]; exact c4, by rw [h.frz]; exact f2, by rw [h.frz]; exact f3, by rw [h.frz]; exact f4, ⟨xs, ?_, ?_⟩, hwf⟩
  · exact ownsRow_of_block hown fun k hk => h.only.block k (by have := (hown.lt k hk).1; omega)
  · exact hce.of fun k _ hb _ => h.only.block k hb

/-- New memory, and nothing old turned: the reader is as it was. -/
theorem Below.rd {b i o g : Nat} {n : NX} {s : ByteArray} {nv : Value} {w w' : World} (h : Below w.heap.size w w') (hr : Rd w b s i o g nv n) : Rd w' b s i o g nv n := by
  obtain ⟨⟨r0, r1, rf, rle, r40⟩, c2, c3, c4, f2, f3, f4, ⟨xs, hown, hce⟩, hwf⟩ := hr
  have hb : b < w.heap.size := World.block_lt_of_cell? w _ r0
  have hc : ∀ k, w'.cell? ⟨b, k, none⟩ = w.cell? ⟨b, k, none⟩ := fun k => h.cell (p := ⟨b, k, none⟩) hb
  have hf : ∀ k, w'.frozen? ⟨b, k, none⟩ = w.frozen? ⟨b, k, none⟩ := fun k => h.frozen (p := ⟨b, k, none⟩) hb
  exact ⟨⟨(hc 0).trans r0, (hc 1).trans r1, (hf 1).trans rf, rle, r40⟩, (hc 2).trans c2, (hc 3).trans c3, (hc 4).trans c4, (hf 2).trans f2, (hf 3).trans f3, (hf 4).trans f4, ⟨xs,
    ownsRow_of_block hown fun k hk => h.block k (hown.lt k hk).2, hce.of fun k hk _ _ => h.block k hk⟩, hwf⟩

theorem Below.fr {b : Nat} {w w' : World} (h : Below w.heap.size w w') (nv : Value) : Fr b nv nv w w' :=
  ⟨h.os, h.tape, h.output, h.size, fun k hk _ _ => h.block k hk, .inl rfl⟩

theorem Fr.below {b i o g : Nat} {n : NX} {s : ByteArray} {nv nv' : Value} {w w' : World} (h : Fr b nv nv' w w') (hr : Rd w b s i o g nv n) : Below b w w' := by
  obtain ⟨⟨r0, r1, rf, rle, r40⟩, c2, c3, c4, f2, f3, f4, ⟨xs, hown, hce⟩, hwf⟩ := hr
  have hb : b < w.heap.size := World.block_lt_of_cell? w _ r0
  exact ⟨h.os, h.tape, h.output, h.size, fun k hk => h.block k (by omega) (by omega) (fun e => by have := (hown.lt k e.symm).1; omega)⟩

theorem Try.info92 : (Try.prog.info? 92).map (fun i => (i.zero, i.size, i.bytes)) = some (some (.agg #[.int .i64 0, .slice none 0 0, .int .u64 0, .int .u64 0, .int .u64 0, .int .u64 0, .int .i64 0, .int .i64 0, .int .i64 0]), 9, 88) := by kernel_rfl

theorem new2 (w : World) (o1 o2 : Obj) : ((w.alloc o1).alloc o2).drew.heap[w.heap.size + 1]? = some o2 := by
  have e : (w.alloc o1).heap.size = w.heap.size + 1 := by simp
  have h := heap_alloc_new (w.alloc o1) o2
  rw [e] at h
  exact h

theorem far2 {w w1 : World} {o1 o2 : Obj} {row : Option Nat} (hg : ((w.alloc o1).alloc o2).drew.grownBy w1 row) {k : Nat} (hk : k < w.heap.size) (hne : some k ≠ row) : w1.heap[k]? = w.heap[k]? := by
  have e : (w.alloc o1).heap.size = w.heap.size + 1 := by simp
  have e2 : ((w.alloc o1).alloc o2).drew.heap.size = w.heap.size + 2 := by simp
  have h := hg.block k (by omega) hne
  rw [h]
  show ((w.alloc o1).alloc o2).heap[k]? = _
  rw [Below.heap_alloc _ _ _ (by omega), Below.heap_alloc _ _ _ hk]

/-- The nodes' cells behind the append that adds a node. -/
theorem Cells.added {w w' : World} {b gg cap : Nat} {nv : Value} {xs : List Value} {n : NX} {d : Nd} {ao : Option Addr} {c y0 y1 y2 y3 : Nat}
    (h : Cells w b nv xs n) (hx : xs.length = n.l.length * 9) (hfar : ∀ k, k < w.heap.size → k ≠ b → some k ≠ nv.ownBlock → w'.heap[k]? = w.heap[k]?)
    (hat : nv.ownBlock = some gg ∨ w.heap.size ≤ gg) (hS : S4 y0 y1 y2 y3 d.set) (hK : KidsC w b nv n.X ao d.subs) (hc : d.subs.length ≤ c) :
    Cells w' b (.slice (some ⟨gg, 0, none⟩) (n.l.length + 1) cap) (xs ++ pnL d ao c y0 y1 y2 y3) (n.add d) := by
  have hk' : ∀ {ao : Option Addr} {subs : List Nat}, KidsC w b nv n.X ao subs → KidsC w' b (.slice (some ⟨gg, 0, none⟩) (n.l.length + 1) cap) n.X ao subs := by
    intro ao subs h
    rcases h with h | ⟨kb, h1, h2, h3, h4, h5⟩
    · exact .inl h
    · by_cases hs : subs = []
      · exact .inl hs
      · obtain ⟨y, hy⟩ : ∃ y, subs[0]? = some y := by
          cases hd : subs with
          | nil => exact absurd hd hs
          | cons a l => exact ⟨a, rfl⟩
        have hlt : kb < w.heap.size := World.block_lt_of_cell? w _ (h5 0 y hy)
        refine .inr ⟨kb, h1, h2, ?_, h4, fun k y hy => ?_⟩
        · intro e
          have e' : gg = kb := by simpa [Value.ownBlock] using e
          rcases hat with hat | hat
          · exact h3 (by rw [hat, e'])
          · omega
        · exact (World.cell?_of_block (w := w) (w' := w') (a := ⟨kb, k, none⟩) (hfar kb hlt h2 (fun e => h3 e.symm))).trans (h5 k y hy)
  intro k d' hd'
  by_cases e : k < n.l.length
  · have hd2 : n.l[k]? = some d' := by
      have : (n.l ++ [d])[k]? = some d' := hd'
      rwa [List.getElem?_append_left e] at this
    obtain ⟨ao', c', z0, z1, z2, z3, h1, h2, h3, h4⟩ := h k d' hd2
    refine ⟨ao', c', z0, z1, z2, z3, h1, hk' h2, h3, fun o v hv => ?_⟩
    have := h4 o v hv
    rw [List.getElem?_append_left]
    · exact this
    · exact (List.getElem?_eq_some_iff.1 this).1
  · have hk : k = n.l.length := by
      have := (List.getElem?_eq_some_iff.1 hd').1
      simp [NX.add] at this
      omega
    subst hk
    have hdd : d' = d := by
      have : (n.l ++ [d])[n.l.length]? = some d' := hd'
      simpa using this.symm
    subst hdd
    refine ⟨ao, c, y0, y1, y2, y3, hS, hk' hK, hc, fun o v hv => ?_⟩
    rw [List.getElem?_append_right (by omega), hx, Nat.add_sub_cancel_left]
    exact hv

/-- The reader behind the append that adds a node. -/
theorem Rd.added {w w1 : World} {b i o g gg cap : Nat} {n : NX} {d : Nd} {s : ByteArray} {nv : Value} {o1 o2 : Obj} {xs : List Value} {ao : Option Addr} {c y0 y1 y2 y3 : Nat} (hr : Rd w b s i o g nv n) (hxs : w.ownsRow (b + 1) 92 9 nv n.l.length xs) (hce : Cells w b nv xs n)
    (hg : ((w.alloc o1).alloc o2).drew.grownBy w1 nv.ownBlock) (hown : w1.ownsRow (b + 1) 92 9 (.slice (some ⟨gg, 0, none⟩) (n.l.length + 1) cap) (n.l.length + 1) (xs ++ pnL d ao c y0 y1 y2 y3))
    (hat : nv.ownBlock = some gg ∨ gg = w.heap.size + 2) (hS : S4 y0 y1 y2 y3 d.set) (hK : KidsC w b nv n.X ao d.subs) (hc : d.subs.length ≤ c) (hP : PNd n.l.length g d) :
    Rd (w1.setCell ⟨b, 4, none⟩ (.slice (some ⟨gg, 0, none⟩) (n.l.length + 1) cap)) b s i o g (.slice (some ⟨gg, 0, none⟩) (n.l.length + 1) cap) (n.add d) ∧
    Fr b nv (.slice (some ⟨gg, 0, none⟩) (n.l.length + 1) cap) w (w1.setCell ⟨b, 4, none⟩ (.slice (some ⟨gg, 0, none⟩) (n.l.length + 1) cap)) := by
  obtain ⟨⟨r0, r1, rf, rle, r40⟩, c2, c3, c4, f2, f3, f4, ⟨xs', ho, hce'⟩, hwf⟩ := hr
  have hb : b < w.heap.size := World.block_lt_of_cell? w _ r0
  have hx := far2 hg hb (fun e => by have := (ho.lt _ e.symm).1; omega)
  have kc : ∀ k, w1.cell? ⟨b, k, none⟩ = w.cell? ⟨b, k, none⟩ := fun k => World.cell?_of_block (w := w) (w' := w1) (a := ⟨b, k, none⟩) hx
  have kf : ∀ k, w1.frozen? ⟨b, k, none⟩ = w.frozen? ⟨b, k, none⟩ := fun k => World.frozen?_of_block (w := w) (w' := w1) (a := ⟨b, k, none⟩) hx
  have ko : ∀ k, k ≠ 4 → (w1.setCell ⟨b, 4, none⟩ (.slice (some ⟨gg, 0, none⟩) (n.l.length + 1) cap)).cell? ⟨b, k, none⟩ = w.cell? ⟨b, k, none⟩ := fun k hk =>
    (World.cell?_setCell_other (h := fun e => hk (by injection e with _ e _; exact e.symm)) ..).trans (kc k)
  have kz : ∀ k, (w1.setCell ⟨b, 4, none⟩ (.slice (some ⟨gg, 0, none⟩) (n.l.length + 1) cap)).frozen? ⟨b, k, none⟩ = w.frozen? ⟨b, k, none⟩ := fun k => by
    rw [World.frozen?_setCell]; exact kf k
  have hgb : b + 1 ≤ gg := (hown.lt gg rfl).1
  have hlen : (n.add d).l.length = n.l.length + 1 := by simp [NX.add]
  have hfar : ∀ k, k < w.heap.size → k ≠ b → some k ≠ nv.ownBlock → (w1.setCell ⟨b, 4, none⟩ (.slice (some ⟨gg, 0, none⟩) (n.l.length + 1) cap)).heap[k]? = w.heap[k]? := fun k hk hkb hkn => by
    rw [Below.heap_setCell _ _ _ _ hkb, far2 hg hk hkn]
  refine ⟨⟨⟨(ko 0 (by omega)).trans r0, (ko 1 (by omega)).trans r1, (kz 1).trans rf, rle, r40⟩, (ko 2 (by omega)).trans c2, (ko 3 (by omega)).trans c3, ?_, (kz 2).trans f2, (kz 3).trans f3, (kz 4).trans f4, ⟨_, ?_, Cells.added hce hxs.1 hfar (hat.imp id fun h => by omega) hS hK hc⟩, ?_⟩, ?_⟩
  · exact World.cell?_setCell_same _ _ _ ((kc 4).trans c4)
  · rw [hlen]
    exact ownsRow_of_block hown fun k hk => Below.heap_setCell _ _ _ _ (by
      have : gg = k := by simpa [Value.ownBlock] using hk
      simp only; omega)
  · intro a d' hd'
    by_cases e : a < n.l.length
    · have : (n.l ++ [d])[a]? = some d' := hd'
      rw [List.getElem?_append_left e] at this
      exact hwf a d' this
    · have ha : a = n.l.length := by
        have := (List.getElem?_eq_some_iff.1 hd').1
        simp [NX.add] at this
        omega
      subst ha
      have : (n.l ++ [d])[n.l.length]? = some d' := hd'
      have hdd : d' = d := by simpa using this.symm
      rw [hdd]; exact hP
  · have hsz : w.heap.size + 2 ≤ w1.heap.size := by have := hg.size; simp at this; omega
    refine ⟨hg.os, hg.tape, hg.output, by simp [World.setCell]; omega, hfar, ?_⟩
    · rcases hat with hat | hat
      · exact .inl hat.symm
      · right
        intro k hk
        have : gg = k := by simpa [Value.ownBlock] using hk
        omega

attribute [local go_sem ↓] Go.wp_at_zero Go.wp_at_succ

set_option maxRecDepth 100000 in
set_option maxHeartbeats 1600000 in
theorem add_any (b i o g : Nat) (n : NX) (s : ByteArray) (nv : Value) (w : World) (hr : Rd w b s i o g nv n) (hn : n.l.length ≤ 1000)
    (d : Nd) (k num lo hi : Int) (m : Nat) (ao : Option Addr) (c y0 y1 y2 y3 : Nat) (hk : k = pkind d.kind) (hm : m = d.subs.length) (hnum : num = pnum d) (hlo : lo = d.lo) (hhi : hi = d.hi) (hS : S4 y0 y1 y2 y3 d.set) (hK : KidsC w b nv n.X ao d.subs) (hc : d.subs.length ≤ c) (hP : PNd n.l.length g d) :
    Calls Try.prog 80 #[.pointer (some ⟨b, 0, none⟩), .agg #[.int .i64 k, .slice ao m c, .int .u64 y0, .int .u64 y1, .int .u64 y2, .int .u64 y3, .int .i64 num, .int .i64 lo, .int .i64 hi]] w
      fun e w' => ∃ nv', e = .returned (.int .i64 n.l.length) ∧ Rd w' b s i o g nv' (n.add d) ∧ Fr b nv nv' w w' := by
  have HR : Hid (Rd w b s i o g nv n) := hr
  obtain ⟨⟨r0, r1, rf, rle, r40⟩, c2, c3, c4, f2, f3, f4, ⟨xs, hown, hce⟩, hwf⟩ := hr
  have hb : b < w.heap.size := World.block_lt_of_cell? w _ r0
  have HO : Hid (w.ownsRow (b + 1) 92 9 nv n.l.length xs) := hown
  have HL : Hid (∀ k, nv.ownBlock = some k → b + 1 ≤ k ∧ k < w.heap.size) := fun k hk => hown.lt k hk
  have HE : Hid (∀ {w1 : World} {gg cap : Nat} {o1 o2 : Obj}, ((w.alloc o1).alloc o2).drew.grownBy w1 nv.ownBlock → w1.ownsRow (b + 1) 92 9 (.slice (some ⟨gg, 0, none⟩) (n.l.length + 1) cap) (n.l.length + 1) (xs ++ [.int .i64 k, .slice ao m c, .int .u64 y0, .int .u64 y1, .int .u64 y2, .int .u64 y3, .int .i64 num, .int .i64 lo, .int .i64 hi]) → (nv.ownBlock = some gg ∨ gg = w.heap.size + 2) →
      Rd (w1.setCell ⟨b, 4, none⟩ (.slice (some ⟨gg, 0, none⟩) (n.l.length + 1) cap)) b s i o g (.slice (some ⟨gg, 0, none⟩) (n.l.length + 1) cap) (n.add d) ∧
      Fr b nv (.slice (some ⟨gg, 0, none⟩) (n.l.length + 1) cap) w (w1.setCell ⟨b, 4, none⟩ (.slice (some ⟨gg, 0, none⟩) (n.l.length + 1) cap))) := by
    intro w1 gg cap o1 o2 h1 h2 h3
    refine Rd.added HR.out hown hce h1 ?_ h3 hS hK hc hP
    unfold pnL
    rw [← hk, ← hm, ← hnum, ← hlo, ← hhi]
    exact h2
  obtain ⟨i0, hi0, hz0, hz1, hz2⟩ := info_parts Try.info92
  clear hown hce hwf hK hS hP hk hm hnum hlo hhi
  generalize hnl : n.l.length = nl at HO HE hn ⊢
  go_enter Try.func80, Try.ntmps80
  go_wp2_with fail
  go_region_law
    ((refine step_append_lies _ (by rfl) _ _ _ (by rfl) (b + 1) 92 i0 _ 9 88 Try.underlying41 hi0 hz0 hz1 hz2 rfl (by omega) nv nl xs (by rfl) (((HO.out.alloc _).alloc _).drew)
        ⟨w.heap.size + 1, 0, none⟩ 1 1 [.int .i64 k, .slice ao m c, .int .u64 y0, .int .u64 y1, .int .u64 y2, .int .u64 y3, .int .i64 num, .int .i64 lo, .int .i64 hi] (by rfl) (by rfl) (World.news_of_block (cs := #[.int .i64 k, .slice ao m c, .int .u64 y0, .int .u64 y1, .int .u64 y2, .int .u64 y3, .int .i64 num, .int .i64 lo, .int .i64 hi]) (t := 92) (fr := (0, 0)) (new2 w _ _)) (by simp [Value.oneCell'])
        (by omega) (by unfold maxLen; omega) (by omega) (by simp; omega) (w.heap.size + 2) (by simp) ?_; intro gg cap w1 hown1 hgrow hat hlt; have hx := far2 hgrow hb (fun e => by have := (HL.out _ e.symm).1; omega); have kc := World.cell?_of_block (w := w) (w' := w1) (a := ⟨b, 4, none⟩) hx; have kf := World.frozen?_of_block (w := w) (w' := w1) (a := ⟨b, 4, none⟩) hx; rw [c4] at kc; rw [f4] at kf; have HX : Hid (w1.heap[b]? = w.heap[b]?) := hx; clear hx))
  all_goals go_wp2
  all_goals go_ret
  all_goals exact ⟨_, rfl, HE.out hgrow hown1 hat⟩
end Tr
end Go.Proofs.Ytppjlpihaocdiaa
