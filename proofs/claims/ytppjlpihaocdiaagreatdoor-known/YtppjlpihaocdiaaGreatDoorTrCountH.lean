/- Several texts in one. -/
import Derived.Test.YtppjlpihaocdiaaGreatDoorBitsH
import Derived.Test.YtppjlpihaocdiaaGreatDoorTrBitsH
import Derived.Test.YtppjlpihaocdiaaGreatDoorDecAH
import Derived.Test.YtppjlpihaocdiaaGreatDoorGiveAH
import Derived.Deep.RegionLaw
import Derived.BigRegion
import Derived.Deep.AppendLies
import Derived.Deep.DrawnRows
/- A part of the proof. -/
set_option linter.unusedSimpArgs false
set_option linter.unusedVariables false
namespace Go.Proofs.YtppjlpihaocdiaaGreatDoor
namespace Tr
open Go.RowKit
structure NX where
  l : List Nd
  X : Nat → Prop
def NX.add (n : NX) (d : Nd) : NX := ⟨n.l ++ [d], n.X⟩
def KidsC (w : World) (b : Nat) (nv : Value) (X : Nat → Prop) (ao : Option Addr) (subs : List Nat) : Prop :=
  subs = [] ∨ ∃ kb, ao = some ⟨kb, 0, none⟩ ∧ kb ≠ b ∧ nv.ownBlock ≠ some kb ∧ ¬ X kb ∧ ∀ (k y : Nat), subs[k]? = some y → w.cell? ⟨kb, k, none⟩ = some (.int .i64 y)
def Cells (w : World) (b : Nat) (nv : Value) (xs : List Value) (n : NX) : Prop := ∀ (k : Nat) (d : Nd), n.l[k]? = some d →
  ∃ ao c y0 y1 y2 y3, S4 y0 y1 y2 y3 d.set ∧ KidsC w b nv n.X ao d.subs ∧ d.subs.length ≤ c ∧ ∀ o v, (pnL d ao c y0 y1 y2 y3)[o]? = some v → xs[k * 9 + o]? = some v
theorem KidsC.of {w w' : World} {b : Nat} {nv : Value} {X : Nat → Prop} {ao : Option Addr} {subs : List Nat} (h : KidsC w b nv X ao subs) (hb : ∀ k, k < w.heap.size → k ≠ b → some k ≠ nv.ownBlock → w'.heap[k]? = w.heap[k]?) : KidsC w' b nv X ao subs := by
  rcases h with h | ⟨kb, h1, h2, h3, h4, h5⟩
  · exact .inl h
  · refine .inr ⟨kb, h1, h2, h3, h4, fun k y hy => ?_⟩
    have := h5 k y hy
    exact (World.cell?_of_block (w := w) (w' := w') (a := ⟨kb, k, none⟩) (hb kb (World.block_lt_of_cell? w _ this) h2 (fun e => h3 e.symm))).trans this
theorem Cells.of {w w' : World} {b : Nat} {nv : Value} {xs : List Value} {n : NX} (h : Cells w b nv xs n) (hb : ∀ k, k < w.heap.size → k ≠ b → some k ≠ nv.ownBlock → w'.heap[k]? = w.heap[k]?) : Cells w' b nv xs n := fun k d hd => by
  obtain ⟨ao, c, y0, y1, y2, y3, h1, h2, h3, h4⟩ := h k d hd
  exact ⟨ao, c, y0, y1, y2, y3, h1, h2.of hb, h3, h4⟩
structure Rd (w : World) (b : Nat) (s : ByteArray) (i o g : Nat) (nv : Value) (n : NX) : Prop where
  rc : Rc w b s i
  c2 : w.cell? ⟨b, 2, none⟩ = some (.int .i64 o)
  c3 : w.cell? ⟨b, 3, none⟩ = some (.int .i64 g)
  c4 : w.cell? ⟨b, 4, none⟩ = some nv
  f2 : w.frozen? ⟨b, 2, none⟩ = false
  f3 : w.frozen? ⟨b, 3, none⟩ = false
  f4 : w.frozen? ⟨b, 4, none⟩ = false
  own : ∃ xs, w.ownsRow (b + 1) 151 9 nv n.l.length xs ∧ Cells w b nv xs n
  wf : ∀ (a : Nat) (d : Nd), n.l[a]? = some d → PNd a g d
structure Fr (b : Nat) (nv nv' : Value) (w w' : World) : Prop where
  os : w'.os = w.os
  tape : w'.tape = w.tape
  output : w'.output = w.output
  size : w.heap.size ≤ w'.heap.size
  block : ∀ k, k < w.heap.size → k ≠ b → some k ≠ nv.ownBlock → w'.heap[k]? = w.heap[k]?
  lies : nv'.ownBlock = nv.ownBlock ∨ ∀ k, nv'.ownBlock = some k → w.heap.size ≤ k
theorem Fr.refl (b : Nat) (nv : Value) (w : World) : Fr b nv nv w w := ⟨rfl, rfl, rfl, Nat.le_refl _, fun _ _ _ _ => rfl, .inl rfl⟩
theorem Fr.trans {b : Nat} {nv nv' nv'' : Value} {u v w : World} (h : Fr b nv nv' u v) (k : Fr b nv' nv'' v w) : Fr b nv nv'' u w := by
  refine ⟨k.os.trans h.os, k.tape.trans h.tape, k.output.trans h.output, Nat.le_trans h.size k.size, fun i hi hb hn => ?_, ?_⟩
  · refine (k.block i (Nat.lt_of_lt_of_le hi h.size) hb ?_).trans (h.block i hi hb hn)
    rcases h.lies with e | e
    · rw [e]; exact hn
    · intro hh
      have := e i hh.symm
      omega
  · rcases k.lies with e | e
    · rw [e]; exact h.lies
    · exact .inr fun j hj => Nat.le_trans h.size (e j hj)
theorem Mv.fr {b j : Nat} {w w' : World} (h : Mv b w w' j) (nv : Value) : Fr b nv nv w w' :=
  ⟨h.only.os, h.only.tape, h.only.output, by rw [h.only.size]; exact Nat.le_refl _, fun k _ hb _ => h.only.block k hb, .inl rfl⟩
theorem ownsRow_of_block {w w' : World} {base : Nat} {e : TypeId} {size n : Nat} {v : Value} {xs : List Value} (h : w.ownsRow base e size v n xs) (hb : ∀ k, v.ownBlock = some k → w'.heap[k]? = w.heap[k]?) : w'.ownsRow base e size v n xs := by
  obtain ⟨h1, h2⟩ := h
  refine ⟨h1, ?_⟩
  rcases h2 with h2 | ⟨g, cap, cur, hv, hg, hh, r⟩
  · exact .inl h2
  · exact .inr ⟨g, cap, cur, hv, hg, by rw [hb g (by rw [hv]; rfl)]; exact hh, r⟩
theorem Mv.rd {b i j o g : Nat} {n : NX} {s : ByteArray} {nv : Value} {w w' : World} (h : Mv b w w' j) (hr : Rd w b s i o g nv n) (hj : j ≤ s.size) : Rd w' b s j o g nv n := by
  obtain ⟨rc, c2, c3, c4, f2, f3, f4, ⟨xs, hown, hce⟩, hwf⟩ := hr
  refine ⟨h.rc rc hj, by rw [h.cell 2 (by omega)]; exact c2, by rw [h.cell 3 (by omega)]; exact c3, by rw [h.cell 4 (by omega)]; exact c4, by rw [h.frz]; exact f2, by rw [h.frz]; exact f3, by rw [h.frz]; exact f4, ⟨xs, ?_, ?_⟩, hwf⟩
  · exact ownsRow_of_block hown fun k hk => h.only.block k (by have := (hown.lt k hk).1; omega)
  · exact hce.of fun k _ hb _ => h.only.block k hb
theorem Below.rd {b i o g : Nat} {n : NX} {s : ByteArray} {nv : Value} {w w' : World} (h : Below w.heap.size w w') (hr : Rd w b s i o g nv n) : Rd w' b s i o g nv n := by
  obtain ⟨⟨r0, r1, rf, rle, r40⟩, c2, c3, c4, f2, f3, f4, ⟨xs, hown, hce⟩, hwf⟩ := hr
  have hb : b < w.heap.size := World.block_lt_of_cell? w _ r0
  have hc : ∀ k, w'.cell? ⟨b, k, none⟩ = w.cell? ⟨b, k, none⟩ := fun k => h.cell (p := ⟨b, k, none⟩) hb
  have hf : ∀ k, w'.frozen? ⟨b, k, none⟩ = w.frozen? ⟨b, k, none⟩ := fun k => h.frozen (p := ⟨b, k, none⟩) hb
  exact ⟨⟨(hc 0).trans r0, (hc 1).trans r1, (hf 1).trans rf, rle, r40⟩, (hc 2).trans c2, (hc 3).trans c3, (hc 4).trans c4, (hf 2).trans f2, (hf 3).trans f3, (hf 4).trans f4, ⟨xs,
    ownsRow_of_block hown fun k hk => h.block k (hown.lt k hk).2, hce.of fun k hk _ _ => h.block k hk⟩, hwf⟩
theorem Below.fr {b : Nat} {w w' : World} (h : Below w.heap.size w w') (nv : Value) : Fr b nv nv w w' :=
  ⟨h.os, h.tape, h.output, h.size, fun k hk _ _ => h.block k hk, .inl rfl⟩
theorem Fr.below {b i o g : Nat} {n : NX} {s : ByteArray} {nv nv' : Value} {w w' : World} (h : Fr b nv nv' w w') (hr : Rd w b s i o g nv n) : Below b w w' := by
  obtain ⟨⟨r0, r1, rf, rle, r40⟩, c2, c3, c4, f2, f3, f4, ⟨xs, hown, hce⟩, hwf⟩ := hr
  have hb : b < w.heap.size := World.block_lt_of_cell? w _ r0
  exact ⟨h.os, h.tape, h.output, h.size, fun k hk => h.block k (by omega) (by omega) (fun e => by have := (hown.lt k e.symm).1; omega)⟩
theorem Tryz.info151 : (Tryz.prog.info? 151).map (fun i => (i.zero, i.size, i.bytes)) = some (some (.agg #[.int .i64 0, .slice none 0 0, .int .u64 0, .int .u64 0, .int .u64 0, .int .u64 0, .int .i64 0, .int .i64 0, .int .i64 0]), 9, 88) := by kernel_rfl
theorem new2 (w : World) (o1 o2 : Obj) : ((w.alloc o1).alloc o2).drew.heap[w.heap.size + 1]? = some o2 := by
  have e : (w.alloc o1).heap.size = w.heap.size + 1 := by simp
  have h := heap_alloc_new (w.alloc o1) o2
  rw [e] at h
  exact h
theorem far2 {w w1 : World} {o1 o2 : Obj} {row : Option Nat} (hg : ((w.alloc o1).alloc o2).drew.grownBy w1 row) {k : Nat} (hk : k < w.heap.size) (hne : some k ≠ row) : w1.heap[k]? = w.heap[k]? := by
  have e : (w.alloc o1).heap.size = w.heap.size + 1 := by simp
  have e2 : ((w.alloc o1).alloc o2).drew.heap.size = w.heap.size + 2 := by simp
  have h := hg.block k (by omega) hne
  rw [h]
  show ((w.alloc o1).alloc o2).heap[k]? = _
  rw [Below.heap_alloc _ _ _ (by omega), Below.heap_alloc _ _ _ hk]
theorem Cells.added {w w' : World} {b gg cap : Nat} {nv : Value} {xs : List Value} {n : NX} {d : Nd} {ao : Option Addr} {c y0 y1 y2 y3 : Nat}
    (h : Cells w b nv xs n) (hx : xs.length = n.l.length * 9) (hfar : ∀ k, k < w.heap.size → k ≠ b → some k ≠ nv.ownBlock → w'.heap[k]? = w.heap[k]?)
    (hat : nv.ownBlock = some gg ∨ w.heap.size ≤ gg) (hS : S4 y0 y1 y2 y3 d.set) (hK : KidsC w b nv n.X ao d.subs) (hc : d.subs.length ≤ c) :
    Cells w' b (.slice (some ⟨gg, 0, none⟩) (n.l.length + 1) cap) (xs ++ pnL d ao c y0 y1 y2 y3) (n.add d) := by
  have hk' : ∀ {ao : Option Addr} {subs : List Nat}, KidsC w b nv n.X ao subs → KidsC w' b (.slice (some ⟨gg, 0, none⟩) (n.l.length + 1) cap) n.X ao subs := by
    intro ao subs h
    rcases h with h | ⟨kb, h1, h2, h3, h4, h5⟩
    · exact .inl h
    · by_cases hs : subs = []
      · exact .inl hs
      · obtain ⟨y, hy⟩ : ∃ y, subs[0]? = some y := by
          cases hd : subs with
          | nil => exact absurd hd hs
          | cons a l => exact ⟨a, rfl⟩
        have hlt : kb < w.heap.size := World.block_lt_of_cell? w _ (h5 0 y hy)
        refine .inr ⟨kb, h1, h2, ?_, h4, fun k y hy => ?_⟩
        · intro e
          have e' : gg = kb := by simpa [Value.ownBlock] using e
          rcases hat with hat | hat
          · exact h3 (by rw [hat, e'])
          · omega
        · exact (World.cell?_of_block (w := w) (w' := w') (a := ⟨kb, k, none⟩) (hfar kb hlt h2 (fun e => h3 e.symm))).trans (h5 k y hy)
  intro k d' hd'
  by_cases e : k < n.l.length
  · have hd2 : n.l[k]? = some d' := by
      have : (n.l ++ [d])[k]? = some d' := hd'
      rwa [List.getElem?_append_left e] at this
    obtain ⟨ao', c', z0, z1, z2, z3, h1, h2, h3, h4⟩ := h k d' hd2
    refine ⟨ao', c', z0, z1, z2, z3, h1, hk' h2, h3, fun o v hv => ?_⟩
    have := h4 o v hv
    rw [List.getElem?_append_left]
    · exact this
    · exact (List.getElem?_eq_some_iff.1 this).1
  · have hk : k = n.l.length := by
      have := (List.getElem?_eq_some_iff.1 hd').1
      simp [NX.add] at this
      omega
    subst hk
    have hdd : d' = d := by
      have : (n.l ++ [d])[n.l.length]? = some d' := hd'
      simpa using this.symm
    subst hdd
    refine ⟨ao, c, y0, y1, y2, y3, hS, hk' hK, hc, fun o v hv => ?_⟩
    rw [List.getElem?_append_right (by omega), hx, Nat.add_sub_cancel_left]
    exact hv
theorem Rd.added {w w1 : World} {b i o g gg cap : Nat} {n : NX} {d : Nd} {s : ByteArray} {nv : Value} {o1 o2 : Obj} {xs : List Value} {ao : Option Addr} {c y0 y1 y2 y3 : Nat} (hr : Rd w b s i o g nv n) (hxs : w.ownsRow (b + 1) 151 9 nv n.l.length xs) (hce : Cells w b nv xs n)
    (hg : ((w.alloc o1).alloc o2).drew.grownBy w1 nv.ownBlock) (hown : w1.ownsRow (b + 1) 151 9 (.slice (some ⟨gg, 0, none⟩) (n.l.length + 1) cap) (n.l.length + 1) (xs ++ pnL d ao c y0 y1 y2 y3))
    (hat : nv.ownBlock = some gg ∨ gg = w.heap.size + 2) (hS : S4 y0 y1 y2 y3 d.set) (hK : KidsC w b nv n.X ao d.subs) (hc : d.subs.length ≤ c) (hP : PNd n.l.length g d) :
    Rd (w1.setCell ⟨b, 4, none⟩ (.slice (some ⟨gg, 0, none⟩) (n.l.length + 1) cap)) b s i o g (.slice (some ⟨gg, 0, none⟩) (n.l.length + 1) cap) (n.add d) ∧
    Fr b nv (.slice (some ⟨gg, 0, none⟩) (n.l.length + 1) cap) w (w1.setCell ⟨b, 4, none⟩ (.slice (some ⟨gg, 0, none⟩) (n.l.length + 1) cap)) := by
  obtain ⟨⟨r0, r1, rf, rle, r40⟩, c2, c3, c4, f2, f3, f4, ⟨xs', ho, hce'⟩, hwf⟩ := hr
  have hb : b < w.heap.size := World.block_lt_of_cell? w _ r0
  have hx := far2 hg hb (fun e => by have := (ho.lt _ e.symm).1; omega)
  have kc : ∀ k, w1.cell? ⟨b, k, none⟩ = w.cell? ⟨b, k, none⟩ := fun k => World.cell?_of_block (w := w) (w' := w1) (a := ⟨b, k, none⟩) hx
  have kf : ∀ k, w1.frozen? ⟨b, k, none⟩ = w.frozen? ⟨b, k, none⟩ := fun k => World.frozen?_of_block (w := w) (w' := w1) (a := ⟨b, k, none⟩) hx
  have ko : ∀ k, k ≠ 4 → (w1.setCell ⟨b, 4, none⟩ (.slice (some ⟨gg, 0, none⟩) (n.l.length + 1) cap)).cell? ⟨b, k, none⟩ = w.cell? ⟨b, k, none⟩ := fun k hk =>
    (World.cell?_setCell_other (h := fun e => hk (by injection e with _ e _; exact e.symm)) ..).trans (kc k)
  have kz : ∀ k, (w1.setCell ⟨b, 4, none⟩ (.slice (some ⟨gg, 0, none⟩) (n.l.length + 1) cap)).frozen? ⟨b, k, none⟩ = w.frozen? ⟨b, k, none⟩ := fun k => by
    rw [World.frozen?_setCell]; exact kf k
  have hgb : b + 1 ≤ gg := (hown.lt gg rfl).1
  have hlen : (n.add d).l.length = n.l.length + 1 := by simp [NX.add]
  have hfar : ∀ k, k < w.heap.size → k ≠ b → some k ≠ nv.ownBlock → (w1.setCell ⟨b, 4, none⟩ (.slice (some ⟨gg, 0, none⟩) (n.l.length + 1) cap)).heap[k]? = w.heap[k]? := fun k hk hkb hkn => by
    rw [Below.heap_setCell _ _ _ _ hkb, far2 hg hk hkn]
  refine ⟨⟨⟨(ko 0 (by omega)).trans r0, (ko 1 (by omega)).trans r1, (kz 1).trans rf, rle, r40⟩, (ko 2 (by omega)).trans c2, (ko 3 (by omega)).trans c3, ?_, (kz 2).trans f2, (kz 3).trans f3, (kz 4).trans f4, ⟨_, ?_, Cells.added hce hxs.1 hfar (hat.imp id fun h => by omega) hS hK hc⟩, ?_⟩, ?_⟩
  · exact World.cell?_setCell_same _ _ _ ((kc 4).trans c4)
  · rw [hlen]
    exact ownsRow_of_block hown fun k hk => Below.heap_setCell _ _ _ _ (by
      have : gg = k := by simpa [Value.ownBlock] using hk
      simp only; omega)
  · intro a d' hd'
    by_cases e : a < n.l.length
    · have : (n.l ++ [d])[a]? = some d' := hd'
      rw [List.getElem?_append_left e] at this
      exact hwf a d' this
    · have ha : a = n.l.length := by
        have := (List.getElem?_eq_some_iff.1 hd').1
        simp [NX.add] at this
        omega
      subst ha
      have : (n.l ++ [d])[n.l.length]? = some d' := hd'
      have hdd : d' = d := by simpa using this.symm
      rw [hdd]; exact hP
  · have hsz : w.heap.size + 2 ≤ w1.heap.size := by have := hg.size; simp at this; omega
    refine ⟨hg.os, hg.tape, hg.output, by simp [World.setCell]; omega, hfar, ?_⟩
    · rcases hat with hat | hat
      · exact .inl hat.symm
      · right
        intro k hk
        have : gg = k := by simpa [Value.ownBlock] using hk
        omega
attribute [local go_sem ↓] Go.wp_at_zero Go.wp_at_succ
set_option maxRecDepth 100000 in
set_option maxHeartbeats 1600000 in
theorem add_any (b i o g : Nat) (n : NX) (s : ByteArray) (nv : Value) (w : World) (hr : Rd w b s i o g nv n) (hn : n.l.length ≤ 1000)
    (d : Nd) (k num lo hi : Int) (m : Nat) (ao : Option Addr) (c y0 y1 y2 y3 : Nat) (hk : k = pkind d.kind) (hm : m = d.subs.length) (hnum : num = pnum d) (hlo : lo = d.lo) (hhi : hi = d.hi) (hS : S4 y0 y1 y2 y3 d.set) (hK : KidsC w b nv n.X ao d.subs) (hc : d.subs.length ≤ c) (hP : PNd n.l.length g d) :
    Calls Tryz.prog 150 #[.pointer (some ⟨b, 0, none⟩), .agg #[.int .i64 k, .slice ao m c, .int .u64 y0, .int .u64 y1, .int .u64 y2, .int .u64 y3, .int .i64 num, .int .i64 lo, .int .i64 hi]] w
      fun e w' => ∃ nv', e = .returned (.int .i64 n.l.length) ∧ Rd w' b s i o g nv' (n.add d) ∧ Fr b nv nv' w w' := by
  have HR : Hid (Rd w b s i o g nv n) := hr
  obtain ⟨⟨r0, r1, rf, rle, r40⟩, c2, c3, c4, f2, f3, f4, ⟨xs, hown, hce⟩, hwf⟩ := hr
  have hb : b < w.heap.size := World.block_lt_of_cell? w _ r0
  have HO : Hid (w.ownsRow (b + 1) 151 9 nv n.l.length xs) := hown
  have HL : Hid (∀ k, nv.ownBlock = some k → b + 1 ≤ k ∧ k < w.heap.size) := fun k hk => hown.lt k hk
  have HE : Hid (∀ {w1 : World} {gg cap : Nat} {o1 o2 : Obj}, ((w.alloc o1).alloc o2).drew.grownBy w1 nv.ownBlock → w1.ownsRow (b + 1) 151 9 (.slice (some ⟨gg, 0, none⟩) (n.l.length + 1) cap) (n.l.length + 1) (xs ++ [.int .i64 k, .slice ao m c, .int .u64 y0, .int .u64 y1, .int .u64 y2, .int .u64 y3, .int .i64 num, .int .i64 lo, .int .i64 hi]) → (nv.ownBlock = some gg ∨ gg = w.heap.size + 2) →
      Rd (w1.setCell ⟨b, 4, none⟩ (.slice (some ⟨gg, 0, none⟩) (n.l.length + 1) cap)) b s i o g (.slice (some ⟨gg, 0, none⟩) (n.l.length + 1) cap) (n.add d) ∧
      Fr b nv (.slice (some ⟨gg, 0, none⟩) (n.l.length + 1) cap) w (w1.setCell ⟨b, 4, none⟩ (.slice (some ⟨gg, 0, none⟩) (n.l.length + 1) cap))) := by
    intro w1 gg cap o1 o2 h1 h2 h3
    refine Rd.added HR.out hown hce h1 ?_ h3 hS hK hc hP
    unfold pnL
    rw [← hk, ← hm, ← hnum, ← hlo, ← hhi]
    exact h2
  obtain ⟨i0, hi0, hz0, hz1, hz2⟩ := info_parts Tryz.info151
  clear hown hce hwf hK hS hP hk hm hnum hlo hhi
  generalize hnl : n.l.length = nl at HO HE hn ⊢
  go_enter Tryz.func150, Tryz.ntmps150
  go_wp2_with fail
  go_region_law
    ((refine step_append_lies _ (by rfl) _ _ _ (by rfl) (b + 1) 151 i0 _ 9 88 Tryz.underlying86 hi0 hz0 hz1 hz2 rfl (by omega) nv nl xs (by rfl) (((HO.out.alloc _).alloc _).drew)
        ⟨w.heap.size + 1, 0, none⟩ 1 1 [.int .i64 k, .slice ao m c, .int .u64 y0, .int .u64 y1, .int .u64 y2, .int .u64 y3, .int .i64 num, .int .i64 lo, .int .i64 hi] (by rfl) (by rfl) (World.news_of_block (cs := #[.int .i64 k, .slice ao m c, .int .u64 y0, .int .u64 y1, .int .u64 y2, .int .u64 y3, .int .i64 num, .int .i64 lo, .int .i64 hi]) (t := 151) (fr := (0, 0)) (new2 w _ _)) (by simp [Value.oneCell'])
        (by omega) (by unfold maxLen; omega) (by omega) (by simp; omega) (w.heap.size + 2) (by simp) ?_; intro gg cap w1 hown1 hgrow hat hlt; have hx := far2 hgrow hb (fun e => by have := (HL.out _ e.symm).1; omega); have kc := World.cell?_of_block (w := w) (w' := w1) (a := ⟨b, 4, none⟩) hx; have kf := World.frozen?_of_block (w := w) (w' := w1) (a := ⟨b, 4, none⟩) hx; rw [c4] at kc; rw [f4] at kf; have HX : Hid (w1.heap[b]? = w.heap[b]?) := hx; clear hx))
  all_goals go_wp2
  all_goals go_ret
  all_goals exact ⟨_, rfl, HE.out hgrow hown1 hat⟩
end Tr
end Go.Proofs.YtppjlpihaocdiaaGreatDoor

/- A part of the proof. -/
set_option linter.unusedSimpArgs false
set_option linter.unusedVariables false
namespace Go.Proofs.YtppjlpihaocdiaaGreatDoor
namespace Tr
open Go.RowKit
theorem inn_val {s : ByteArray} {i L v j : Nat} (h : InnR s i L v true j) : innV s i = (v, j) := by
  unfold innV
  rcases h with ⟨_, h, _⟩ | ⟨_, h1, h2⟩ | ⟨_, _, h1, h2⟩
  · cases h
  · rw [if_pos h1]
    rcases h2 with ⟨_, h, _⟩ | ⟨_, h, _⟩ | ⟨_, _, h3, _, _, _, h4⟩
    · cases h
    · cases h
    · rw [h3, h4]
  · rw [if_neg h1]
    rcases h2 with ⟨_, h, _⟩ | ⟨_, _, h3, h4⟩
    · cases h
    · rw [h3, h4]
set_option maxHeartbeats 400000 in
theorem between_any (b : Nat) (s : ByteArray) (i : Nat) (st : St) (w : World) (hr : Rc w b s i) (h : run s i = some st) (hm : InPre s i 0 st) (h8 : st.m ≠ 8) :
    Calls Tryz.prog 238 #[.pointer (some ⟨b, 0, none⟩)] w fun e w' => ∃ (lo hi : Nat) (ok : Bool) (j : Nat), e = .returned (.tuple #[.int .u8 lo, .int .u8 hi, .bool ok]) ∧ Mv b w w' j ∧ (ok = true → lo ≤ 255 ∧ hi ≤ 255 ∧ betV s i = (lo, hi, j)) ∧ BetR s i st ok j := by
  have HR : Hid (Rc w b s i) := hr
  have HG : Hid (run s i = some st) := h
  have HM : Hid (InPre s i 0 st) := hm
  have hle := hr.le
  clear hr h hm
  go_enter Tryz.func238, Tryz.ntmps238
  go_wp2_with fail
  refine (inner_any b s i 0 _ HR.out (by omega)).mono ?_
  rintro e w1 ⟨v, ok, j, rfl, hmv, hE⟩
  have HV1 : Hid (ok = true → innV s i = (v, j)) := fun e => by subst e; exact inn_val hE
  have HV : Hid (Mv b w w1 j) := hmv
  rcases inner_walk HG.out hle HM.out hE with ⟨rfl, hij, hjs, hv, hrun⟩ | ⟨rfl, hF⟩
  · rw [if_neg h8] at hrun
    have HJ : Hid (run s j = some ⟨6, st.o, st.a, v⟩) := hrun
    have HR1 : Hid (Rc w1 b s j) := hmv.rc HR.out hjs
    clear hE hmv hrun
    by_cases hd : pk s j = 45
    · have HD : Hid (pk s j = 45) := hd
      have hlt : j < s.size := by
        by_cases hx : j < s.size
        · exact hx
        · rw [pk_out hx] at hd; omega
      have HK : Hid (run s (j + 1) = some ⟨8, st.o, st.a, v⟩) := by
        have e : byt s j = 45 := by rw [pk_in hlt] at hd; omega
        rw [Hid, run_succ HJ.out, step_set (by omega) (by omega), inSet6, e]; rfl
      have HR2 : Hid (Rc (w1.setCell ⟨b, 1, none⟩ (.int .i64 ((j : Int) + 1))) b s (j + 1)) := HR1.out.put (j + 1) (by omega) (by omega)
      clear hd
      go_wp2_with (first | (go_at_call 100; refine (accept_yes b s j 45 _ HR1.out (by omega) HD.out).mono ?_; rintro e w2 ⟨rfl, n, rfl⟩))
      refine (inner_any b s (j + 1) v _ (HR2.out.drewN _) hv).mono ?_
      rintro e w2 ⟨v2, ok2, j2, rfl, hmv2, hE2⟩
      have hm2 : Mv b w w2 j2 := HV.out.trans (((HR1.out.stay.set (j + 1) (by omega)).drewN _).trans hmv2)
      have hB : (ok2 = true → v ≤ 255 ∧ v2 ≤ 255 ∧ betV s i = (v, v2, j2)) ∧ BetR s i st ok2 j2 := by
        rcases inner_walk HK.out (by omega) (.inl ⟨rfl, rfl⟩) hE2 with ⟨rfl, g1, g2, g3, g4⟩ | ⟨rfl, hF⟩
        · exact ⟨fun _ => ⟨hv, g3, by unfold betV; rw [HV1.out (by simp), if_pos HD.out, inn_val hE2]⟩, .inl ⟨rfl, by omega, g2, v2, .inr g4⟩⟩
        · exact ⟨(fun h => absurd h (by simp)), .inr ⟨rfl, hF⟩⟩
      clear hmv2 hE2
      go_wp2_with fail
      go_ret3
      exact ⟨v, v2, ok2, j2, rfl, hm2, hB⟩
    · have HD : Hid (pk s j ≠ 45) := hd
      clear hd
      go_wp2_with (first | (go_at_call 100; refine (accept_no b s j 45 _ HR1.out (by omega) HD.out).mono ?_; rintro e w2 ⟨rfl, n, rfl⟩))
      go_ret3
      exact ⟨v, v, true, j, rfl, HV.out.drewN _, fun _ => ⟨hv, hv, by unfold betV; rw [HV1.out (by simp), if_neg HD.out]⟩, .inl ⟨rfl, hij, hjs, v, .inl ⟨HJ.out, HD.out⟩⟩⟩
  · have HF : Hid (Fails s j) := hF
    clear hF hE hmv
    go_wp2_with fail
    go_ret3
    exact ⟨v, v, false, j, rfl, HV.out, (fun h => absurd h (by simp)), .inr ⟨rfl, HF.out⟩⟩
end Tr
end Go.Proofs.YtppjlpihaocdiaaGreatDoor

/- A part of the proof. -/
set_option linter.unusedSimpArgs false
set_option linter.unusedVariables false
namespace Go.Proofs.YtppjlpihaocdiaaGreatDoor
namespace Tr
open Go.RowKit
structure Kd (w : World) (N : Nat) (nv kv : Value) (zs : List Nat) : Prop where
  own : w.ownsRow N 3 1 kv zs.length (zs.map fun z : Nat => Value.int .i64 (z : Int))
  ne : ∀ k, kv.ownBlock = some k → nv.ownBlock ≠ some k
theorem Kd.fr {w w' : World} {b N : Nat} {nv nv' kv : Value} {zs : List Nat} (h : Kd w N nv kv zs) (hf : Fr b nv nv' w w') (hb : b < N) : Kd w' N nv' kv zs := by
  refine ⟨ownsRow_of_block h.own fun k hk => ?_, fun k hk => ?_⟩
  · have := h.own.lt k hk
    exact hf.block k this.2 (by omega) (fun e => h.ne k hk e.symm)
  · have := h.own.lt k hk
    rcases hf.lies with e | e
    · rw [e]; exact h.ne k hk
    · intro hh
      have := e k hh
      omega
theorem Rd.drewN {w : World} {b i o g : Nat} {n : NX} {s : ByteArray} {nv : Value} (h : Rd w b s i o g nv n) (m : Nat) : Rd (w.drewN m) b s i o g nv n :=
  Mv.rd (h.rc.stay.drewN m) h h.rc.le
theorem own_cells {w : World} {N g n cap : Nat} {zs : List Nat} (h : w.ownsRow N 3 1 (.slice (some ⟨g, 0, none⟩) n cap) n (zs.map fun z : Nat => Value.int .i64 (z : Int))) : ∀ (k y : Nat), zs[k]? = some y → w.cell? ⟨g, k, none⟩ = some (.int .i64 y) := by
  intro k y hy
  rcases h.2 with ⟨e, _⟩ | ⟨g', cap', cur, hv, _, hh, _, _, _, ht⟩
  · cases e
  · cases hv
    rw [cell_of_row w g k cur 3 (0, 0) hh]
    have : cur.toList[k]? = some (.int .i64 (y : Int)) := by
      have h0 : (cur.toList.take (n * 1))[k]? = some (.int .i64 (y : Int)) := by rw [ht, List.getElem?_map, hy]; rfl
      rw [List.getElem?_take] at h0
      split at h0
      · exact h0
      · cases h0
    simpa using this
theorem Rd.bar {w : World} {b i o g : Nat} {n : NX} {s : ByteArray} {nv : Value} (h : Rd w b s i o g nv n) (Y : Nat → Prop) (hY : ∀ k, k < w.heap.size → Y k → n.X k) : Rd w b s i o g nv ⟨n.l, Y⟩ := by
  obtain ⟨rc, c2, c3, c4, f2, f3, f4, ⟨xs, hown, hce⟩, hwf⟩ := h
  refine ⟨rc, c2, c3, c4, f2, f3, f4, ⟨xs, hown, fun k d hd => ?_⟩, hwf⟩
  obtain ⟨ao, c, y0, y1, y2, y3, h1, h2, h3, h4⟩ := hce k d hd
  refine ⟨ao, c, y0, y1, y2, y3, h1, ?_, h3, h4⟩
  rcases h2 with h2 | ⟨kb, e1, e2, e3, e4, e5⟩
  · exact .inl h2
  · by_cases hs : d.subs = []
    · exact .inl hs
    · obtain ⟨y, hy⟩ : ∃ y, d.subs[0]? = some y := by
        cases hd : d.subs with
        | nil => exact absurd hd hs
        | cons a l => exact ⟨a, rfl⟩
      exact .inr ⟨kb, e1, e2, e3, fun hx => e4 (hY kb (World.block_lt_of_cell? w _ (e5 0 y hy)) hx), e5⟩
set_option maxHeartbeats 400000 in
theorem join_one (b : Nat) (nv kv : Value) (N : Nat) (k : Int) (z : Nat) (w : World) (hk : Kd w N nv kv [z]) :
    Calls Tryz.prog 101 #[.pointer (some ⟨b, 0, none⟩), .int .i64 k, kv] w fun e w' => e = .returned (.int .i64 z) ∧ w' = w := by
  obtain ⟨g0, cap, rfl, hg, hlt⟩ := hk.own.form (by simp)
  have hc : w.cell? ⟨g0, 0, none⟩ = some (.int .i64 z) := own_cells hk.own 0 z rfl
  have hl : (([z].length : Nat) : Int) = 1 := rfl
  simp only [List.length_singleton]
  go_enter Tryz.func101, Tryz.ntmps101
  go_wp2
  go_ret
  exact ⟨rfl, rfl⟩
set_option maxHeartbeats 400000 in
theorem join_more (b i o g : Nat) (n : NX) (s : ByteArray) (nv kv : Value) (N : Nat) (k : Int) (kk : Nat) (zs : List Nat) (w : World) (hr : Rd w b s i o g nv n) (hn : n.l.length ≤ 1000) (hk : Kd w N nv kv zs) (hz : 2 ≤ zs.length) (hz2 : zs.length ≤ 1000)
    (hkk : kk = 4 ∨ kk = 5) (hk2 : k = pkind kk) (hX : ∀ q, n.X q → q < N) (hbN : b < N) (hzn : ∀ z ∈ zs, z < n.l.length) :
    Calls Tryz.prog 101 #[.pointer (some ⟨b, 0, none⟩), .int .i64 k, kv] w fun e w' => ∃ nv', e = .returned (.int .i64 n.l.length) ∧ Rd w' b s i o g nv' (n.add (rowN kk zs)) ∧ Fr b nv nv' w w' := by
  obtain ⟨g0, cap, rfl, hg, hlt⟩ := hk.own.form (by omega)
  have HR : Hid (Rd w b s i o g nv n) := hr
  have HKD : Hid (KidsC w b nv n.X (some ⟨g0, 0, none⟩) (rowN kk zs).subs) := .inr ⟨g0, rfl, by omega, hk.ne g0 rfl, fun h => by have := hX g0 h; omega, own_cells hk.own⟩
  have HCP : Hid (zs.length ≤ cap) := by
    rcases hk.own.2 with ⟨e, _⟩ | ⟨g', cap', cur, hv, _, _, hc, _⟩
    · cases e
    · cases hv; exact hc
  have HPN : Hid (PNd n.l.length g (rowN kk zs)) := ⟨by unfold rowN; simp only; omega, hzn, fun h => by unfold rowN at h; simp only at h; omega, fun _ => ⟨hz, hz2⟩, fun h => by unfold rowN at h; simp only at h; omega, fun h => by unfold rowN at h; simp only at h; omega⟩
  have HNUM : Hid ((0 : Int) = pnum (rowN kk zs)) := by unfold pnum rowN; rw [if_neg (by simp only; omega)]; rfl
  have HZL : Hid (zs.length = (rowN kk zs).subs.length) := rfl
  have HKK : Hid (k = pkind (rowN kk zs).kind) := hk2
  have HS4 : Hid (S4 0 0 0 0 (rowN kk zs).set) := S4.zero
  have h1 : ((zs.length : Int) == 1) = false := by simp; omega
  clear hr hk hzn hX hk2 hkk
  generalize hzl : zs.length = m at hz hz2 h1 HCP HZL ⊢
  clear hzl
  go_enter Tryz.func101, Tryz.ntmps101
  go_wp2_with fail
  refine (add_any b i o g n s nv _ HR.out hn (rowN kk zs) k 0 0 0 m (some ⟨g0, 0, none⟩) cap 0 0 0 0 HKK.out HZL.out HNUM.out rfl rfl HS4.out HKD.out (by rw [← HZL.out]; exact HCP.out) HPN.out).mono ?_
  rintro e w' ⟨nv', rfl, h⟩
  go_wp2_with fail
  go_ret
  exact ⟨nv', rfl, h⟩
theorem cell_new_one (w : World) (v : Value) (t : TypeId) : (w.alloc (.cells #[v] t)).cell? ⟨w.heap.size, 0, none⟩ = some v := by
  rw [cell_of_row _ w.heap.size 0 _ _ (0, 0) (heap_alloc_new w _)]; rfl
set_option maxHeartbeats 400000 in
theorem repeat_any (b i o g : Nat) (n : NX) (s : ByteArray) (nv : Value) (z lo : Nat) (hi : Int) (w : World) (hr : Rd w b s i o g nv n) (hn : n.l.length ≤ 1000) (hX : ∀ q, n.X q → q < w.heap.size) (hz : z < n.l.length) (hl9 : lo ≤ 9) (hh9 : hi ≤ 9) (hlh : hi = -1 ∨ (lo : Int) ≤ hi) :
    Calls Tryz.prog 188 #[.pointer (some ⟨b, 0, none⟩), .int .i64 z, .int .i64 lo, .int .i64 hi] w fun e w' => ∃ nv', e = .returned (.int .i64 n.l.length) ∧ Rd w' b s i o g nv' (n.add (repN z lo hi)) ∧ Fr b nv nv' w w' := by
  have HR : Hid (Rd w b s i o g nv n) := hr
  have hb : b < w.heap.size := World.block_lt_of_cell? w _ hr.rc.c0
  have HO : Hid (nv.ownBlock ≠ some w.heap.size) := by
    obtain ⟨xs, ho, _⟩ := hr.own
    exact fun e => by have := (ho.lt _ e).2; omega
  have HPN : Hid (PNd n.l.length g (repN z lo hi)) := ⟨Nat.le_refl 6, fun x hx => by unfold repN at hx; simp at hx; omega, fun _ => ⟨z, rfl⟩, fun h => by unfold repN at h; simp at h, fun _ => ⟨hl9, hh9, hlh⟩, fun h => by unfold repN at h; simp at h⟩
  have HX : Hid (∀ q, n.X q → q < w.heap.size) := hX
  clear hr hX
  go_enter Tryz.func188, Tryz.ntmps188
  go_wp2_with fail
  have hB : Below w.heap.size w (w.alloc (.cells #[.int .i64 (z : Int)] 3)) := (Below.refl _ _).alloc (Nat.le_refl _) _
  refine (add_any b i o g n s nv _ (Below.rd hB HR.out) hn (repN z lo hi) _ _ _ _ _ _ _ 0 0 0 0 rfl rfl rfl rfl rfl S4.zero (.inr ⟨w.heap.size, rfl, by omega, HO.out, fun h => by have := HX.out _ h; omega, fun k y hy => ?_⟩) (Nat.le_refl 1) HPN.out).mono ?_
  · have : k = 0 := by
      have := (List.getElem?_eq_some_iff.1 hy).1
      simp [repN] at this
      exact this
    subst this
    have : y = z := by simpa [repN] using hy.symm
    subst this
    exact cell_new_one _ _ _
  rintro e w' ⟨nv', rfl, h1, h2⟩
  go_wp2_with fail
  go_ret
  exact ⟨nv', rfl, h1, (Below.fr hB nv).trans h2⟩
theorem PNd_leaf {n g k : Nat} {S : Nat → Bool} (hk : k ≤ 2) : PNd n g (leaf k S) :=
  ⟨by unfold leaf; simp only; omega, fun x hx => by unfold leaf at hx; simp at hx, fun h => by unfold leaf at h; simp only at h; omega, fun h => by unfold leaf at h; simp only at h; omega, fun h => by unfold leaf at h; simp only at h; omega, fun h => by unfold leaf at h; simp only at h; omega⟩
set_option maxHeartbeats 400000 in
theorem sign_any (b i o g : Nat) (n : NX) (s : ByteArray) (nv : Value) (w : World) (hr : Rd w b s i o g nv n) (hn : n.l.length ≤ 1000) (hi : i < s.size)
    (k : Int) (kk : Nat) (S : Nat → Bool) (y0 y1 y2 y3 : Nat) (hkk : kk ≤ 2) (hk : k = pkind kk) (hS : S4 y0 y1 y2 y3 S) :
    Calls Tryz.prog 218 #[.pointer (some ⟨b, 0, none⟩), .agg #[.int .i64 k, .slice none 0 0, .int .u64 y0, .int .u64 y1, .int .u64 y2, .int .u64 y3, .int .i64 0, .int .i64 0, .int .i64 0]] w
      fun e w' => ∃ nv', e = .returned (.int .i64 n.l.length) ∧ Rd w' b s (i + 1) o g nv' (n.add (leaf kk S)) ∧ Fr b nv nv' w w' := by
  have HR : Hid (Rd w b s i o g nv n) := hr
  obtain ⟨⟨r0, r1, rf, rle, r40⟩, c2, c3, c4, f2, f3, f4, own, hwf⟩ := hr
  have hb : b < w.heap.size := World.block_lt_of_cell? w _ r0
  have HS : Hid (S4 y0 y1 y2 y3 S) := hS
  have HNUM : Hid ((0 : Int) = pnum (leaf kk S)) := by unfold pnum leaf; rw [if_neg (by simp only; omega)]; rfl
  have HKK : Hid (k = pkind kk) := hk
  clear own hwf hS hk
  go_enter Tryz.func218, Tryz.ntmps218
  go_wp2_with (go_at_call 150; refine (add_any b (i + 1) o g n s nv _ (Below.rd ((Below.refl _ _).alloc (Nat.le_refl _) _) (Mv.rd ((Mv.stay r1).set (i + 1) (by omega)) HR.out (by omega))) hn (leaf kk S) _ _ _ _ _ _ _ y0 y1 y2 y3 HKK.out rfl HNUM.out rfl rfl HS.out (.inl rfl) (Nat.zero_le _) (PNd_leaf hkk)).mono ?_; rintro e w' ⟨nv', rfl, h1, h2⟩)
  go_ret
  exact ⟨nv', rfl, h1, ((Mv.fr ((Mv.stay r1).set (i + 1) (by omega)) nv).trans (Below.fr ((Below.refl _ _).alloc (Nat.le_refl _) _) nv)).trans h2⟩
def Post (b : Nat) (s : ByteArray) (i o : Nat) (n : NX) (nv : Value) (w : World) (Q : Nat → St → Prop) (F : PSt × Nat) (z : Int) (ok : Bool) (w' : World) : Prop :=
  (ok = true ∧ ∃ (j g' : Nat) (n' : NX) (nv' : Value) (st : St) (zn : Nat), Rd w' b s j o g' nv' n' ∧ Fr b nv nv' w w' ∧ run s j = some st ∧ st.o = o ∧ st.a = g' ∧ i < j ∧ n'.l.length + 1 + 2 * i ≤ n.l.length + 2 * j ∧ Q j st ∧ n'.X = n.X ∧ z = zn ∧ zn < n'.l.length ∧ F = (⟨j, g', n'.l⟩, zn)) ∨
  (ok = false ∧ ∃ j : Nat, Fails s j ∧ w'.cell? ⟨b, 1, none⟩ = some (.int .i64 j) ∧ Below b w w')
theorem Post.fails {b i o g j : Nat} {n : NX} {s : ByteArray} {nv : Value} {w w' : World} {Q : Nat → St → Prop} {F : PSt × Nat} {z : Int} (hr : Rd w b s i o g nv n) (hm : Mv b w w' j) (hF : Fails s j) : Post b s i o n nv w Q F z false w' :=
  .inr ⟨rfl, j, hF, hm.c1, (Mv.fr hm nv).below hr⟩
theorem Post.after {b i i1 o g : Nat} {n n1 : NX} {s : ByteArray} {nv nv1 : Value} {w w1 w' : World} {Q : Nat → St → Prop} {F : PSt × Nat} {z : Int} {ok : Bool} (hr : Rd w b s i o g nv n) (hf : Fr b nv nv1 w w1) (hi : i ≤ i1) (hn : n1.l.length + 2 * i ≤ n.l.length + 2 * i1) (hX : n1.X = n.X)
    (h : Post b s i1 o n1 nv1 w1 Q F z ok w') : Post b s i o n nv w Q F z ok w' := by
  rcases h with ⟨rfl, j, g', n', nv', st, zn, h1, h2, h3, h4, h5, h6, h7, h8, h9, h10, h11, h12⟩ | ⟨rfl, j, h1, h2, h3⟩
  · exact .inl ⟨rfl, j, g', n', nv', st, zn, h1, hf.trans h2, h3, h4, h5, by omega, by omega, h8, by rw [h9, hX], h10, h11, h12⟩
  · exact .inr ⟨rfl, j, h1, h2, (hf.below hr).trans h3⟩
theorem len_add (n : NX) (d : Nd) : (n.add d).l.length = n.l.length + 1 := by simp [NX.add]
theorem acceptY (b : Nat) (s : ByteArray) (i c : Nat) (w : World) (hr : Rc w b s i) (hc : c < 256) (hi : pk s i = c) :
    Calls Tryz.prog 100 #[.pointer (some ⟨b, 0, none⟩), .int .u8 c] w fun e w' => e = .returned (.bool true) ∧ Mv b w w' (i + 1) := by
  refine (accept_yes b s i c w hr hc hi).mono ?_
  rintro e w' ⟨rfl, n, rfl⟩
  exact ⟨rfl, (hr.stay.set (i + 1) rfl).drewN n⟩
theorem acceptN (b : Nat) (s : ByteArray) (i c : Nat) (w : World) (hr : Rc w b s i) (hc : c < 256) (hi : pk s i ≠ c) :
    Calls Tryz.prog 100 #[.pointer (some ⟨b, 0, none⟩), .int .u8 c] w fun e w' => e = .returned (.bool false) ∧ Mv b w w' i := by
  refine (accept_no b s i c w hr hc hi).mono ?_
  rintro e w' ⟨rfl, n, rfl⟩
  exact ⟨rfl, hr.stay.drewN n⟩
theorem digitY (b : Nat) (s : ByteArray) (i l : Nat) (w : World) (hr : Rc w b s i) (hl : l ≤ 9) (hi : i < s.size) (h1 : 48 + l ≤ byt s i) (h2 : byt s i ≤ 57) :
    Calls Tryz.prog 224 #[.pointer (some ⟨b, 0, none⟩), .int .i64 l] w fun e w' => e = .returned (.tuple #[.int .i64 (byt s i - 48 : Nat), .bool true]) ∧ Mv b w w' (i + 1) := by
  refine (digit_yes b s i l w hr hl (by rw [pk_in hi]; omega) (by rw [pk_in hi]; omega)).mono ?_
  rintro e w' ⟨rfl, n, rfl⟩
  exact ⟨ret2 (by rw [pk_in hi]; omega) rfl, (hr.stay.set (i + 1) rfl).drewN n⟩
theorem digitN (b : Nat) (s : ByteArray) (i l : Nat) (w : World) (hr : Rc w b s i) (hl : l ≤ 9) (h : ¬ (i < s.size ∧ 48 + l ≤ byt s i ∧ byt s i ≤ 57)) :
    Calls Tryz.prog 224 #[.pointer (some ⟨b, 0, none⟩), .int .i64 l] w fun e w' => e = .returned (.tuple #[.int .i64 0, .bool false]) ∧ Mv b w w' i := by
  refine (digit_no b s i l w hr hl ?_).mono ?_
  · by_cases hi : i < s.size
    · rw [pk_in hi]; omega
    · rw [pk_out hi]; omega
  rintro e w' ⟨rfl, n, rfl⟩
  exact ⟨rfl, hr.stay.drewN n⟩
theorem pk_is {s : ByteArray} {i c : Nat} (h : pk s i = c) : i < s.size ∧ byt s i = c := by
  by_cases hi : i < s.size
  · rw [pk_in hi] at h; exact ⟨hi, by omega⟩
  · rw [pk_out hi] at h; omega
theorem brace_step {m o a l c : Nat} (hm : m = 12 ∨ m = 14) : step ⟨m, o, a, l⟩ c = if c = 125 then some ⟨2, o, a, l⟩ else if c = 44 ∧ m = 12 then some ⟨13, o, a, l⟩ else none := by
  unfold step
  simp only
  rw [if_neg (by omega), if_neg (by omega), if_neg (by omega), if_pos (by omega)]
  unfold braced
  simp only
  rw [if_neg (by omega)]
theorem digit_step {m o a l c : Nat} (hm : m = 11 ∨ m = 13) : step ⟨m, o, a, l⟩ c = if 48 ≤ c ∧ c ≤ 57 ∧ l ≤ c - 48 then some ⟨if m = 11 then 12 else 14, o, a, c - 48⟩ else none := by
  unfold step
  simp only
  rw [if_neg (by omega), if_neg (by omega), if_neg (by omega), if_pos (by omega)]
  unfold braced
  simp only
  rw [if_pos hm]
set_option maxHeartbeats 400000 in
theorem counted_any (b i o g : Nat) (n : NX) (s : ByteArray) (nv : Value) (z : Nat) (w : World) (hr : Rd w b s i o g nv n) (hn : n.l.length ≤ 1000) (hX : ∀ q, n.X q → q < w.heap.size) (hz : z < n.l.length) (h : run s i = some ⟨11, o, g, 0⟩) :
    Calls Tryz.prog 189 #[.pointer (some ⟨b, 0, none⟩), .int .i64 z] w fun e w' => ∃ (z2 : Int) (ok : Bool), e = .returned (.tuple #[.int .i64 z2, .bool ok]) ∧ Post b s i o n nv w (fun _ st => st.m = 2) (if pk s (i + 1) = 44 then addN ⟨i, g, n.l⟩ (i + 4) (repN z (byt s i - 48) ((byt s (i + 2) - 48 : Nat) : Int)) else addN ⟨i, g, n.l⟩ (i + 2) (repN z (byt s i - 48) ((byt s i - 48 : Nat) : Int))) z2 ok w' := by
  have HXX : Hid (∀ q, n.X q → q < w.heap.size) := hX
  generalize hFF : (if pk s (i + 1) = 44 then addN ⟨i, g, n.l⟩ (i + 4) (repN z (byt s i - 48) ((byt s (i + 2) - 48 : Nat) : Int)) else addN ⟨i, g, n.l⟩ (i + 2) (repN z (byt s i - 48) ((byt s i - 48 : Nat) : Int))) = FF
  have HFF : Hid ((if pk s (i + 1) = 44 then addN ⟨i, g, n.l⟩ (i + 4) (repN z (byt s i - 48) ((byt s (i + 2) - 48 : Nat) : Int)) else addN ⟨i, g, n.l⟩ (i + 2) (repN z (byt s i - 48) ((byt s i - 48 : Nat) : Int))) = FF) := hFF
  clear hFF
  have HR : Hid (Rd w b s i o g nv n) := hr
  have HG : Hid (run s i = some ⟨11, o, g, 0⟩) := h
  have HC : Hid (Rc w b s i) := hr.rc
  have hle := hr.rc.le
  clear hr h hX
  by_cases h1 : i < s.size ∧ 48 + 0 ≤ byt s i ∧ byt s i ≤ 57
  · obtain ⟨hi, hd1, hd2⟩ := h1
    have H1 : Hid (i < s.size ∧ 48 + 0 ≤ byt s i ∧ byt s i ≤ 57) := ⟨hi, hd1, hd2⟩
    have HG1 : Hid (run s (i + 1) = some ⟨12, o, g, byt s i - 48⟩) := by
      rw [Hid, run_succ HG.out, digit_step (.inl rfl), if_pos ⟨by omega, hd2, by omega⟩]; rfl
    obtain ⟨d, hd⟩ : ∃ d, byt s i - 48 = d := ⟨_, rfl⟩
    have HD : Hid (byt s i - 48 = d) := hd
    have hd9 : d ≤ 9 := by omega
    rw [hd] at HG1
    clear hd hd1 hd2
    go_enter Tryz.func189, Tryz.ntmps189
    go_wp2_with fail
    refine (digitY b s i 0 _ HC.out (by omega) H1.out.1 H1.out.2.1 H1.out.2.2).mono ?_
    rw [HD.out]
    rintro e w1 ⟨rfl, hm1⟩
    have HM1 : Hid (Mv b w w1 (i + 1)) := hm1
    have HC1 : Hid (Rc w1 b s (i + 1)) := hm1.rc HC.out (by omega)
    clear hm1
    by_cases h44 : pk s (i + 1) = (44 : Nat)
    · have H44 : Hid (pk s (i + 1) = (44 : Nat)) := h44
      obtain ⟨hi1, hb1⟩ := pk_is h44
      have HG2 : Hid (run s (i + 2) = some ⟨13, o, g, d⟩) := by
        rw [Hid, run_succ HG1.out, brace_step (.inl rfl), hb1]; rfl
      clear h44 hb1
      go_wp2_with fail
      refine (acceptY b s (i + 1) 44 _ HC1.out (by omega) H44.out).mono ?_
      rintro e w2 ⟨rfl, hm2⟩
      go_wp2_with fail
      have HM2 : Hid (Mv b w w2 (i + 2)) := HM1.out.trans hm2
      have HC2 : Hid (Rc w2 b s (i + 2)) := hm2.rc HC1.out (by omega)
      clear hm2
      by_cases h2 : i + 2 < s.size ∧ 48 + d ≤ byt s (i + 2) ∧ byt s (i + 2) ≤ 57
      · obtain ⟨hi2, hd1, hd2⟩ := h2
        have H2 : Hid (i + 2 < s.size ∧ 48 + d ≤ byt s (i + 2) ∧ byt s (i + 2) ≤ 57) := ⟨hi2, hd1, hd2⟩
        have HG3 : Hid (run s (i + 3) = some ⟨14, o, g, byt s (i + 2) - 48⟩) := by
          rw [Hid, run_succ HG2.out, digit_step (.inr rfl), if_pos ⟨by omega, hd2, by omega⟩]; rfl
        obtain ⟨d2, hd⟩ : ∃ d2, byt s (i + 2) - 48 = d2 := ⟨_, rfl⟩
        have HD2 : Hid (byt s (i + 2) - 48 = d2) := hd
        rw [hd] at HG3
        clear hd hd1 hd2
        refine (digitY b s (i + 2) d _ HC2.out hd9 H2.out.1 H2.out.2.1 H2.out.2.2).mono ?_
        rw [HD2.out]
        rintro e w3 ⟨rfl, hm3⟩
        have HM3 : Hid (Mv b w w3 (i + 3)) := HM2.out.trans hm3
        have HC3 : Hid (Rc w3 b s (i + 3)) := hm3.rc HC2.out (by omega)
        clear hm3
        by_cases hc : pk s (i + 3) = (125 : Nat)
        · have H3 : Hid (pk s (i + 3) = (125 : Nat)) := hc
          obtain ⟨hi3, hb3⟩ := pk_is hc
          have HG4 : Hid (run s (i + 4) = some ⟨2, o, g, d2⟩) := by
            rw [Hid, run_succ HG3.out, brace_step (.inr rfl), hb3]; rfl
          clear hc hb3
          go_wp2_with fail
          refine (acceptY b s (i + 3) 125 _ HC3.out (by omega) H3.out).mono ?_
          rintro e w4 ⟨rfl, hm4⟩
          go_wp2_with fail
          refine (repeat_any b (i + 4) o g n s nv z d d2 _ (Mv.rd (HM3.out.trans hm4) HR.out (by omega)) hn (by rw [(HM3.out.trans hm4).only.size]; exact HXX.out) hz hd9 (by have := H2.out; have := HD2.out; omega) (.inr (by have := H2.out; have := HD2.out; omega))).mono ?_
          rintro e w5 ⟨nv', rfl, h5, h6⟩
          go_wp2_with fail
          go_ret2
          exact ⟨_, true, rfl, .inl ⟨rfl, _, _, _, nv', _, n.l.length, h5, (Mv.fr (HM3.out.trans hm4) nv).trans h6, HG4.out, rfl, rfl, by omega, by rw [len_add]; omega, rfl, rfl, rfl, by rw [len_add]; omega, by rw [← HFF.out, if_pos (show pk s (i + 1) = 44 from H44.out), HD.out, HD2.out]; rfl⟩⟩
        · have H3 : Hid (pk s (i + 3) ≠ (125 : Nat)) := hc
          have HF : Hid (Fails s (i + 3)) := by
            refine Fails.here HG3.out (by omega) (fun hlt => ?_) (fun _ => not_whole (by simp) (by simp))
            rw [pk_in hlt] at hc
            rw [brace_step (.inr rfl), if_neg (by omega), if_neg (by omega)]
          clear hc
          go_wp2_with fail
          refine (acceptN b s (i + 3) 125 _ HC3.out (by omega) H3.out).mono ?_
          rintro e w4 ⟨rfl, hm4⟩
          go_wp2_with fail
          go_ret2
          exact ⟨0, false, rfl, .fails HR.out (HM3.out.trans hm4) HF.out⟩
      · have H2 : Hid (¬ (i + 2 < s.size ∧ 48 + d ≤ byt s (i + 2) ∧ byt s (i + 2) ≤ 57)) := h2
        have HF : Hid (Fails s (i + 2)) := by
          refine Fails.here HG2.out (by omega) (fun hlt => ?_) (fun _ => not_whole (by simp) (by simp))
          rw [digit_step (.inr rfl), if_neg (by omega)]
        clear h2
        refine (digitN b s (i + 2) d _ HC2.out hd9 H2.out).mono ?_
        rintro e w3 ⟨rfl, hm3⟩
        go_wp2_with fail
        go_ret2
        exact ⟨0, false, rfl, .fails HR.out (HM2.out.trans hm3) HF.out⟩
    · have H44 : Hid (pk s (i + 1) ≠ (44 : Nat)) := h44
      by_cases hc : pk s (i + 1) = (125 : Nat)
      · have H3 : Hid (pk s (i + 1) = (125 : Nat)) := hc
        obtain ⟨hi3, hb3⟩ := pk_is hc
        have HG4 : Hid (run s (i + 2) = some ⟨2, o, g, d⟩) := by
          rw [Hid, run_succ HG1.out, brace_step (.inl rfl), hb3]; rfl
        clear hc hb3 h44
        go_wp2_with fail
        refine (acceptN b s (i + 1) 44 _ HC1.out (by omega) H44.out).mono ?_
        rintro e w2 ⟨rfl, hm2⟩
        go_wp2_with fail
        refine (acceptY b s (i + 1) 125 _ (hm2.rc HC1.out (by omega)) (by omega) H3.out).mono ?_
        rintro e w4 ⟨rfl, hm4⟩
        go_wp2_with fail
        refine (repeat_any b (i + 2) o g n s nv z d d _ (Mv.rd (HM1.out.trans (hm2.trans hm4)) HR.out (by omega)) hn (by rw [(HM1.out.trans (hm2.trans hm4)).only.size]; exact HXX.out) hz hd9 (by omega) (.inr (by omega))).mono ?_
        rintro e w5 ⟨nv', rfl, h5, h6⟩
        go_wp2_with fail
        go_ret2
        exact ⟨_, true, rfl, .inl ⟨rfl, _, _, _, nv', _, n.l.length, h5, (Mv.fr (HM1.out.trans (hm2.trans hm4)) nv).trans h6, HG4.out, rfl, rfl, by omega, by rw [len_add]; omega, rfl, rfl, rfl, by rw [len_add]; omega, by rw [← HFF.out, if_neg (show ¬ pk s (i + 1) = 44 from H44.out), HD.out]; rfl⟩⟩
      · have H3 : Hid (pk s (i + 1) ≠ (125 : Nat)) := hc
        have HF : Hid (Fails s (i + 1)) := by
          refine Fails.here HG1.out (by omega) (fun hlt => ?_) (fun _ => not_whole (by simp) (by simp))
          rw [pk_in hlt] at hc h44
          rw [brace_step (.inl rfl), if_neg (by omega), if_neg (by omega)]
        clear hc h44
        go_wp2_with fail
        refine (acceptN b s (i + 1) 44 _ HC1.out (by omega) H44.out).mono ?_
        rintro e w2 ⟨rfl, hm2⟩
        go_wp2_with fail
        refine (acceptN b s (i + 1) 125 _ (hm2.rc HC1.out (by omega)) (by omega) H3.out).mono ?_
        rintro e w4 ⟨rfl, hm4⟩
        go_wp2_with fail
        go_ret2
        exact ⟨0, false, rfl, .fails HR.out (HM1.out.trans (hm2.trans hm4)) HF.out⟩
  · have H1 : Hid (¬ (i < s.size ∧ 48 + 0 ≤ byt s i ∧ byt s i ≤ 57)) := h1
    have HF : Hid (Fails s i) := by
      refine Fails.here HG.out hle (fun hlt => ?_) (fun _ => not_whole (by simp) (by simp))
      rw [digit_step (.inl rfl), if_neg (by omega)]
    clear h1
    go_enter Tryz.func189, Tryz.ntmps189
    go_wp2_with fail
    refine (digitN b s i 0 _ HC.out (by omega) H1.out).mono ?_
    rintro e w' ⟨rfl, hm⟩
    go_wp2_with fail
    go_ret2
    exact ⟨0, false, rfl, .fails HR.out hm HF.out⟩
end Tr
end Go.Proofs.YtppjlpihaocdiaaGreatDoor

