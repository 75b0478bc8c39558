/- Several texts in one. -/
import Derived.Test.YtppjlpihaocdiaaBitsK
import Derived.Deep.RegionLaw
import Derived.BigRegion
import Derived.Deep.AppendLies
import Derived.Deep.DrawnRows
/- The reader as a whole, and how it adds a node. -/
set_option linter.unusedSimpArgs false
set_option linter.unusedVariables false
namespace Go.Proofs.Ytppjlpihaocdiaa
open Go.RowKit

/-- The reader lies at block b: its text, its place, the brackets open and in all, its nodes. -/
structure Rd (w : World) (b : Nat) (s : ByteArray) (i o g : Nat) (nv : Value) (n : Nat) : Prop where
  rc : Rc w b s i
  c2 : w.cell? ⟨b, 2, none⟩ = some (.int .i64 o)
  c3 : w.cell? ⟨b, 3, none⟩ = some (.int .i64 g)
  c4 : w.cell? ⟨b, 4, none⟩ = some nv
  f2 : w.frozen? ⟨b, 2, none⟩ = false
  f3 : w.frozen? ⟨b, 3, none⟩ = false
  f4 : w.frozen? ⟨b, 4, none⟩ = false
  own : ∃ xs, w.ownsRow (b + 1) 92 9 nv n xs

/-- What the reader's calls leave alone: all blocks that were there but its own and its nodes'. -/
structure Fr (b : Nat) (nv nv' : Value) (w w' : World) : Prop where
  os : w'.os = w.os
  tape : w'.tape = w.tape
  output : w'.output = w.output
  size : w.heap.size ≤ w'.heap.size
  block : ∀ k, k < w.heap.size → k ≠ b → some k ≠ nv.ownBlock → w'.heap[k]? = w.heap[k]?
  lies : nv'.ownBlock = nv.ownBlock ∨ ∀ k, nv'.ownBlock = some k → w.heap.size ≤ k

theorem Fr.refl (b : Nat) (nv : Value) (w : World) : Fr b nv nv w w := ⟨rfl, rfl, rfl, Nat.le_refl _, fun _ _ _ _ => rfl, .inl rfl⟩

theorem Fr.trans {b : Nat} {nv nv' nv'' : Value} {u v w : World} (h : Fr b nv nv' u v) (k : Fr b nv' nv'' v w) : Fr b nv nv'' u w := by
  refine ⟨k.os.trans h.os, k.tape.trans h.tape, k.output.trans h.output, Nat.le_trans h.size k.size, fun i hi hb hn => ?_, ?_⟩
  · refine (k.block i (Nat.lt_of_lt_of_le hi h.size) hb ?_).trans (h.block i hi hb hn)
    rcases h.lies with e | e
    · rw [e]; exact hn
    · intro hh
      have := e i hh.symm
      omega
  · rcases k.lies with e | e
    · rw [e]; exact h.lies
    · exact .inr fun j hj => Nat.le_trans h.size (e j hj)

theorem Mv.fr {b j : Nat} {w w' : World} (h : Mv b w w' j) (nv : Value) : Fr b nv nv w w' :=
  ⟨h.only.os, h.only.tape, h.only.output, by rw [h.only.size]; exact Nat.le_refl _, fun k _ hb _ => h.only.block k hb, .inl rfl⟩

theorem ownsRow_of_block {w w' : World} {base : Nat} {e : TypeId} {size n : Nat} {v : Value} {xs : List Value} (h : w.ownsRow base e size v n xs) (hb : ∀ k, v.ownBlock = some k → w'.heap[k]? = w.heap[k]?) : w'.ownsRow base e size v n xs := by
  obtain ⟨h1, h2⟩ := h
  refine ⟨h1, ?_⟩
  rcases h2 with h2 | ⟨g, cap, cur, hv, hg, hh, r⟩
  · exact .inl h2
  · exact .inr ⟨g, cap, cur, hv, hg, by rw [hb g (by rw [hv]; rfl)]; exact hh, r⟩

theorem Mv.rd {b i j o g n : Nat} {s : ByteArray} {nv : Value} {w w' : World} (h : Mv b w w' j) (hr : Rd w b s i o g nv n) (hj : j ≤ s.size) : Rd w' b s j o g nv n := by
  obtain ⟨rc, c2, c3, c4, f2, f3, f4, xs, hown⟩ := hr
  refine ⟨h.rc rc hj, by rw [h.cell 2 (by omega)]; exact c2, by rw [h.cell 3 (by omega)]; exact c3, by rw [h.cell 4 (by omega)]; exact c4, by rw [h.frz]; exact f2, by rw [h.frz]; exact f3, by rw [h.frz]; exact f4, xs, ?_⟩
  exact ownsRow_of_block hown fun k hk => h.only.block k (by have := (hown.lt k hk).1; omega)

/-- New memory, and nothing old turned: the reader is as it was. -/
theorem Below.rd {b i o g n : Nat} {s : ByteArray} {nv : Value} {w w' : World} (h : Below w.heap.size w w') (hr : Rd w b s i o g nv n) : Rd w' b s i o g nv n := by
  obtain ⟨⟨r0, r1, rf, rle, r40⟩, c2, c3, c4, f2, f3, f4, xs, hown⟩ := hr
  have hb : b < w.heap.size := World.block_lt_of_cell? w _ r0
  have hc : ∀ k, w'.cell? ⟨b, k, none⟩ = w.cell? ⟨b, k, none⟩ := fun k => h.cell (p := ⟨b, k, none⟩) hb
  have hf : ∀ k, w'.frozen? ⟨b, k, none⟩ = w.frozen? ⟨b, k, none⟩ := fun k => h.frozen (p := ⟨b, k, none⟩) hb
  exact ⟨⟨(hc 0).trans r0, (hc 1).trans r1, (hf 1).trans rf, rle, r40⟩, (hc 2).trans c2, (hc 3).trans c3, (hc 4).trans c4, (hf 2).trans f2, (hf 3).trans f3, (hf 4).trans f4, xs,
    ownsRow_of_block hown fun k hk => h.block k (hown.lt k hk).2⟩

theorem Below.fr {b : Nat} {w w' : World} (h : Below w.heap.size w w') (nv : Value) : Fr b nv nv w w' :=
  ⟨h.os, h.tape, h.output, h.size, fun k hk _ _ => h.block k hk, .inl rfl⟩

theorem Fr.below {b i o g n : Nat} {s : ByteArray} {nv nv' : Value} {w w' : World} (h : Fr b nv nv' w w') (hr : Rd w b s i o g nv n) : Below b w w' := by
  obtain ⟨⟨r0, r1, rf, rle, r40⟩, c2, c3, c4, f2, f3, f4, xs, hown⟩ := hr
  have hb : b < w.heap.size := World.block_lt_of_cell? w _ r0
  exact ⟨h.os, h.tape, h.output, h.size, fun k hk => h.block k (by omega) (by omega) (fun e => by have := (hown.lt k e.symm).1; omega)⟩

theorem Try.info92 : (Try.prog.info? 92).map (fun i => (i.zero, i.size, i.bytes)) = some (some (.agg #[.int .i64 0, .slice none 0 0, .int .u64 0, .int .u64 0, .int .u64 0, .int .u64 0, .int .i64 0, .int .i64 0, .int .i64 0]), 9, 88) := by kernel_rfl

theorem new2 (w : World) (o1 o2 : Obj) : ((w.alloc o1).alloc o2).drew.heap[w.heap.size + 1]? = some o2 := by
  have e : (w.alloc o1).heap.size = w.heap.size + 1 := by simp
  have h := heap_alloc_new (w.alloc o1) o2
  rw [e] at h
  exact h

theorem far2 {w w1 : World} {o1 o2 : Obj} {row : Option Nat} (hg : ((w.alloc o1).alloc o2).drew.grownBy w1 row) {k : Nat} (hk : k < w.heap.size) (hne : some k ≠ row) : w1.heap[k]? = w.heap[k]? := by
  have e : (w.alloc o1).heap.size = w.heap.size + 1 := by simp
  have e2 : ((w.alloc o1).alloc o2).drew.heap.size = w.heap.size + 2 := by simp
  have h := hg.block k (by omega) hne
  rw [h]
  show ((w.alloc o1).alloc o2).heap[k]? = _
  rw [Below.heap_alloc _ _ _ (by omega), Below.heap_alloc _ _ _ hk]

/-- The reader behind the append that adds a node. -/
theorem Rd.added {w w1 : World} {b i o g n gg cap : Nat} {s : ByteArray} {nv : Value} {o1 o2 : Obj} {ys : List Value} (hr : Rd w b s i o g nv n)
    (hg : ((w.alloc o1).alloc o2).drew.grownBy w1 nv.ownBlock) (hown : w1.ownsRow (b + 1) 92 9 (.slice (some ⟨gg, 0, none⟩) (n + 1) cap) (n + 1) ys)
    (hat : nv.ownBlock = some gg ∨ gg = w.heap.size + 2) :
    Rd (w1.setCell ⟨b, 4, none⟩ (.slice (some ⟨gg, 0, none⟩) (n + 1) cap)) b s i o g (.slice (some ⟨gg, 0, none⟩) (n + 1) cap) (n + 1) ∧
    Fr b nv (.slice (some ⟨gg, 0, none⟩) (n + 1) cap) w (w1.setCell ⟨b, 4, none⟩ (.slice (some ⟨gg, 0, none⟩) (n + 1) cap)) := by
  obtain ⟨⟨r0, r1, rf, rle, r40⟩, c2, c3, c4, f2, f3, f4, xs, ho⟩ := hr
  have hb : b < w.heap.size := World.block_lt_of_cell? w _ r0
  have hx := far2 hg hb (fun e => by have := (ho.lt _ e.symm).1; omega)
  have kc : ∀ k, w1.cell? ⟨b, k, none⟩ = w.cell? ⟨b, k, none⟩ := fun k => World.cell?_of_block (w := w) (w' := w1) (a := ⟨b, k, none⟩) hx
  have kf : ∀ k, w1.frozen? ⟨b, k, none⟩ = w.frozen? ⟨b, k, none⟩ := fun k => World.frozen?_of_block (w := w) (w' := w1) (a := ⟨b, k, none⟩) hx
  have ko : ∀ k, k ≠ 4 → (w1.setCell ⟨b, 4, none⟩ (.slice (some ⟨gg, 0, none⟩) (n + 1) cap)).cell? ⟨b, k, none⟩ = w.cell? ⟨b, k, none⟩ := fun k hk =>
    (World.cell?_setCell_other (h := fun e => hk (by injection e with _ e _; exact e.symm)) ..).trans (kc k)
  have kz : ∀ k, (w1.setCell ⟨b, 4, none⟩ (.slice (some ⟨gg, 0, none⟩) (n + 1) cap)).frozen? ⟨b, k, none⟩ = w.frozen? ⟨b, k, none⟩ := fun k => by
    rw [World.frozen?_setCell]; exact kf k
  have hgb : b + 1 ≤ gg := (hown.lt gg rfl).1
  refine ⟨⟨⟨(ko 0 (by omega)).trans r0, (ko 1 (by omega)).trans r1, (kz 1).trans rf, rle, r40⟩, (ko 2 (by omega)).trans c2, (ko 3 (by omega)).trans c3, ?_, (kz 2).trans f2, (kz 3).trans f3, (kz 4).trans f4, ys, ?_⟩, ?_⟩
  · exact World.cell?_setCell_same _ _ _ ((kc 4).trans c4)
  · exact ownsRow_of_block hown fun k hk => Below.heap_setCell _ _ _ _ (by
      have : gg = k := by simpa [Value.ownBlock] using hk
      simp only; omega)
  · have hsz : w.heap.size + 2 ≤ w1.heap.size := by have := hg.size; simp at this; omega
    refine ⟨hg.os, hg.tape, hg.output, by simp [World.setCell]; omega, fun k hk hkb hkn => ?_, ?_⟩
    · rw [Below.heap_setCell _ _ _ _ hkb, far2 hg hk hkn]
    · rcases hat with hat | hat
      · exact .inl hat.symm
      · right
        intro k hk
        have : gg = k := by simpa [Value.ownBlock] using hk
        omega

attribute [local go_sem ↓] Go.wp_at_zero Go.wp_at_succ

set_option maxRecDepth 100000 in
set_option maxHeartbeats 1600000 in
theorem add_any (b i o g n : Nat) (s : ByteArray) (nv : Value) (w : World) (hr : Rd w b s i o g nv n) (hn : n ≤ 1000)
    (k num lo hi y0 y1 y2 y3 : Int) (ao : Option Addr) (m c : Nat) :
    Calls Try.prog 80 #[.pointer (some ⟨b, 0, none⟩), .agg #[.int .i64 k, .slice ao m c, .int .u64 y0, .int .u64 y1, .int .u64 y2, .int .u64 y3, .int .i64 num, .int .i64 lo, .int .i64 hi]] w
      fun e w' => ∃ nv', e = .returned (.int .i64 n) ∧ Rd w' b s i o g nv' (n + 1) ∧ Fr b nv nv' w w' := by
  have HR : Hid (Rd w b s i o g nv n) := hr
  obtain ⟨⟨r0, r1, rf, rle, r40⟩, c2, c3, c4, f2, f3, f4, xs, hown⟩ := hr
  have hb : b < w.heap.size := World.block_lt_of_cell? w _ r0
  have HO : Hid (w.ownsRow (b + 1) 92 9 nv n xs) := hown
  have HL : Hid (∀ k, nv.ownBlock = some k → b + 1 ≤ k ∧ k < w.heap.size) := fun k hk => hown.lt k hk
  obtain ⟨i0, hi0, hz0, hz1, hz2⟩ := info_parts Try.info92
  clear hown
  go_enter Try.func80, Try.ntmps80
  go_wp2_with fail
  go_region_law
    ((refine step_append_lies _ (by rfl) _ _ _ (by rfl) (b + 1) 92 i0 _ 9 88 Try.underlying41 hi0 hz0 hz1 hz2 rfl (by omega) nv n xs (by rfl) (((HO.out.alloc _).alloc _).drew)
        ⟨w.heap.size + 1, 0, none⟩ 1 1 [.int .i64 k, .slice ao m c, .int .u64 y0, .int .u64 y1, .int .u64 y2, .int .u64 y3, .int .i64 num, .int .i64 lo, .int .i64 hi] (by rfl) (by rfl) (World.news_of_block (cs := #[.int .i64 k, .slice ao m c, .int .u64 y0, .int .u64 y1, .int .u64 y2, .int .u64 y3, .int .i64 num, .int .i64 lo, .int .i64 hi]) (t := 92) (fr := (0, 0)) (new2 w _ _)) (by simp [Value.oneCell'])
        (by omega) (by unfold maxLen; omega) (by omega) (by simp; omega) (w.heap.size + 2) (by simp) ?_; intro gg cap w1 hown1 hgrow hat hlt; have hx := far2 hgrow hb (fun e => by have := (HL.out _ e.symm).1; omega); have kc := World.cell?_of_block (w := w) (w' := w1) (a := ⟨b, 4, none⟩) hx; have kf := World.frozen?_of_block (w := w) (w' := w1) (a := ⟨b, 4, none⟩) hx; rw [c4] at kc; rw [f4] at kf; have HX : Hid (w1.heap[b]? = w.heap[b]?) := hx; clear hx))
  all_goals go_wp2
  all_goals go_ret
  all_goals exact ⟨_, rfl, HR.out.added hgrow hown1 hat⟩
end Go.Proofs.Ytppjlpihaocdiaa

/- The reader's small makers of nodes: join, repeat, sign. -/
set_option linter.unusedSimpArgs false
set_option linter.unusedVariables false
namespace Go.Proofs.Ytppjlpihaocdiaa
open Go.RowKit

/-- The kids that a call gathers: a row of its own, made since N, apart from the nodes. -/
structure Kd (w : World) (N : Nat) (nv kv : Value) (zs : List Int) : Prop where
  own : w.ownsRow N 3 1 kv zs.length (zs.map fun z => Value.int .i64 z)
  ne : ∀ k, kv.ownBlock = some k → nv.ownBlock ≠ some k

theorem Kd.fr {w w' : World} {b N : Nat} {nv nv' kv : Value} {zs : List Int} (h : Kd w N nv kv zs) (hf : Fr b nv nv' w w') (hb : b < N) : Kd w' N nv' kv zs := by
  refine ⟨ownsRow_of_block h.own fun k hk => ?_, fun k hk => ?_⟩
  · have := h.own.lt k hk
    exact hf.block k this.2 (by omega) (fun e => h.ne k hk e.symm)
  · have := h.own.lt k hk
    rcases hf.lies with e | e
    · rw [e]; exact h.ne k hk
    · intro hh
      have := e k hh
      omega

theorem Rd.drewN {w : World} {b i o g n : Nat} {s : ByteArray} {nv : Value} (h : Rd w b s i o g nv n) (m : Nat) : Rd (w.drewN m) b s i o g nv n :=
  (h.rc.stay.drewN m).rd h h.rc.le

theorem own_first {w : World} {N g n cap : Nat} {v : Value} {vs : List Value} (h : w.ownsRow N 3 1 (.slice (some ⟨g, 0, none⟩) n cap) n (v :: vs)) : w.cell? ⟨g, 0, none⟩ = some v := by
  rcases h.2 with ⟨e, _⟩ | ⟨g', cap', cur, hv, _, hh, _, _, _, ht⟩
  · cases e
  · cases hv
    rw [cell_of_row w g 0 cur 3 (0, 0) hh]
    have : cur.toList[0]? = some v := by
      have h0 : (cur.toList.take (n * 1))[0]? = some v := by rw [ht]; rfl
      rw [List.getElem?_take] at h0
      split at h0
      · exact h0
      · cases h0
    simpa using this

set_option maxHeartbeats 400000 in
theorem join_one (b i o g n : Nat) (s : ByteArray) (nv kv : Value) (N : Nat) (k z : Int) (w : World) (hk : Kd w N nv kv [z]) :
    Calls Try.prog 57 #[.pointer (some ⟨b, 0, none⟩), .int .i64 k, kv] w fun e w' => e = .returned (.int .i64 z) ∧ w' = w := by
  obtain ⟨g0, cap, rfl, hg, hlt⟩ := hk.own.form (by simp)
  have hc : w.cell? ⟨g0, 0, none⟩ = some (.int .i64 z) := own_first hk.own
  have hl : (([z].length : Nat) : Int) = 1 := rfl
  simp only [List.length_singleton]
  go_enter Try.func57, Try.ntmps57
  go_wp2
  go_ret
  exact ⟨rfl, rfl⟩

set_option maxHeartbeats 400000 in
theorem join_more (b i o g n : Nat) (s : ByteArray) (nv kv : Value) (N : Nat) (k : Int) (zs : List Int) (w : World) (hr : Rd w b s i o g nv n) (hn : n ≤ 1000) (hk : Kd w N nv kv zs) (hz : 2 ≤ zs.length) (hz2 : zs.length ≤ 1000) :
    Calls Try.prog 57 #[.pointer (some ⟨b, 0, none⟩), .int .i64 k, kv] w fun e w' => ∃ nv', e = .returned (.int .i64 n) ∧ Rd w' b s i o g nv' (n + 1) ∧ Fr b nv nv' w w' := by
  obtain ⟨g0, cap, rfl, hg, hlt⟩ := hk.own.form (by omega)
  have HR : Hid (Rd w b s i o g nv n) := hr
  generalize zs.length = m at hz hz2
  have h1 : ((m : Int) == 1) = false := by simp; omega
  clear hr hk
  go_enter Try.func57, Try.ntmps57
  go_wp2_with (go_at_call 80; refine (add_any b i o g n s nv _ HR.out hn k 0 0 0 0 0 0 0 _ _ _).mono ?_; rintro e w' ⟨nv', rfl, h⟩)
  go_ret
  exact ⟨nv', rfl, h⟩

set_option maxHeartbeats 400000 in
theorem repeat_any (b i o g n : Nat) (s : ByteArray) (nv : Value) (z lo hi : Int) (w : World) (hr : Rd w b s i o g nv n) (hn : n ≤ 1000) :
    Calls Try.prog 103 #[.pointer (some ⟨b, 0, none⟩), .int .i64 z, .int .i64 lo, .int .i64 hi] w fun e w' => ∃ nv', e = .returned (.int .i64 n) ∧ Rd w' b s i o g nv' (n + 1) ∧ Fr b nv nv' w w' := by
  have HR : Hid (Rd w b s i o g nv n) := hr
  have HB : Hid (∀ ob, Below w.heap.size w (w.alloc ob)) := fun ob => (Below.refl _ _).alloc (Nat.le_refl _) _
  clear hr
  go_enter Try.func103, Try.ntmps103
  go_wp2_with (go_at_call 80; refine (add_any b i o g n s nv _ (Below.rd (HB.out _) HR.out) hn 4 0 lo hi 0 0 0 0 _ _ _).mono ?_; rintro e w' ⟨nv', rfl, h1, h2⟩)
  go_ret
  exact ⟨nv', rfl, h1, (Below.fr (HB.out _) nv).trans h2⟩

set_option maxHeartbeats 400000 in
theorem sign_any (b i o g n : Nat) (s : ByteArray) (nv : Value) (w : World) (hr : Rd w b s i o g nv n) (hn : n ≤ 1000) (hi : i < s.size)
    (k y0 y1 y2 y3 : Int) :
    Calls Try.prog 119 #[.pointer (some ⟨b, 0, none⟩), .agg #[.int .i64 k, .slice none 0 0, .int .u64 y0, .int .u64 y1, .int .u64 y2, .int .u64 y3, .int .i64 0, .int .i64 0, .int .i64 0]] w
      fun e w' => ∃ nv', e = .returned (.int .i64 n) ∧ Rd w' b s (i + 1) o g nv' (n + 1) ∧ Fr b nv nv' w w' := by
  have HR : Hid (Rd w b s i o g nv n) := hr
  obtain ⟨⟨r0, r1, rf, rle, r40⟩, c2, c3, c4, f2, f3, f4, own⟩ := hr
  have hb : b < w.heap.size := World.block_lt_of_cell? w _ r0
  clear own
  go_enter Try.func119, Try.ntmps119
  go_wp2_with (go_at_call 80; refine (add_any b (i + 1) o g n s nv _ (Below.rd ((Below.refl _ _).alloc (Nat.le_refl _) _) (Mv.rd ((Mv.stay r1).set (i + 1) (by omega)) HR.out (by omega))) hn k 0 0 0 y0 y1 y2 y3 _ _ _).mono ?_; rintro e w' ⟨nv', rfl, h1, h2⟩)
  go_ret
  exact ⟨nv', rfl, h1, ((Mv.fr ((Mv.stay r1).set (i + 1) (by omega)) nv).trans (Below.fr ((Below.refl _ _).alloc (Nat.le_refl _) _) nv)).trans h2⟩

/-- What the reader's calls that can fail leave. -/
def Post (b : Nat) (s : ByteArray) (i o n : Nat) (nv : Value) (w : World) (Q : Nat → St → Prop) (ok : Bool) (w' : World) : Prop :=
  (ok = true ∧ ∃ (j g' n' : Nat) (nv' : Value) (st : St), Rd w' b s j o g' nv' n' ∧ Fr b nv nv' w w' ∧ run s j = some st ∧ st.o = o ∧ st.a = g' ∧ i < j ∧ n' + 1 + 2 * i ≤ n + 2 * j ∧ Q j st) ∨
  (ok = false ∧ ∃ j : Nat, Fails s j ∧ w'.cell? ⟨b, 1, none⟩ = some (.int .i64 j) ∧ Below b w w')

theorem Post.fails {b i o g n j : Nat} {s : ByteArray} {nv : Value} {w w' : World} {Q : Nat → St → Prop} (hr : Rd w b s i o g nv n) (hm : Mv b w w' j) (hF : Fails s j) : Post b s i o n nv w Q false w' :=
  .inr ⟨rfl, j, hF, hm.c1, (hm.fr nv).below hr⟩

theorem Post.after {b i i1 o g n n1 : Nat} {s : ByteArray} {nv nv1 : Value} {w w1 w' : World} {Q : Nat → St → Prop} {ok : Bool} (hr : Rd w b s i o g nv n) (hf : Fr b nv nv1 w w1) (hi : i ≤ i1) (hn : n1 + 2 * i ≤ n + 2 * i1)
    (h : Post b s i1 o n1 nv1 w1 Q ok w') : Post b s i o n nv w Q ok w' := by
  rcases h with ⟨rfl, j, g', n', nv', st, h1, h2, h3, h4, h5, h6, h7, h8⟩ | ⟨rfl, j, h1, h2, h3⟩
  · exact .inl ⟨rfl, j, g', n', nv', st, h1, hf.trans h2, h3, h4, h5, by omega, by omega, h8⟩
  · exact .inr ⟨rfl, j, h1, h2, (hf.below hr).trans h3⟩

theorem acceptY (b : Nat) (s : ByteArray) (i c : Nat) (w : World) (hr : Rc w b s i) (hc : c < 256) (hi : pk s i = c) :
    Calls Try.prog 56 #[.pointer (some ⟨b, 0, none⟩), .int .u8 c] w fun e w' => e = .returned (.bool true) ∧ Mv b w w' (i + 1) := by
  refine (accept_yes b s i c w hr hc hi).mono ?_
  rintro e w' ⟨rfl, n, rfl⟩
  exact ⟨rfl, (hr.stay.set (i + 1) rfl).drewN n⟩

theorem acceptN (b : Nat) (s : ByteArray) (i c : Nat) (w : World) (hr : Rc w b s i) (hc : c < 256) (hi : pk s i ≠ c) :
    Calls Try.prog 56 #[.pointer (some ⟨b, 0, none⟩), .int .u8 c] w fun e w' => e = .returned (.bool false) ∧ Mv b w w' i := by
  refine (accept_no b s i c w hr hc hi).mono ?_
  rintro e w' ⟨rfl, n, rfl⟩
  exact ⟨rfl, hr.stay.drewN n⟩

theorem digitY (b : Nat) (s : ByteArray) (i l : Nat) (w : World) (hr : Rc w b s i) (hl : l ≤ 9) (hi : i < s.size) (h1 : 48 + l ≤ byt s i) (h2 : byt s i ≤ 57) :
    Calls Try.prog 125 #[.pointer (some ⟨b, 0, none⟩), .int .i64 l] w fun e w' => e = .returned (.tuple #[.int .i64 (byt s i - 48 : Nat), .bool true]) ∧ Mv b w w' (i + 1) := by
  refine (digit_yes b s i l w hr hl (by rw [pk_in hi]; omega) (by rw [pk_in hi]; omega)).mono ?_
  rintro e w' ⟨rfl, n, rfl⟩
  exact ⟨ret2 (by rw [pk_in hi]; omega) rfl, (hr.stay.set (i + 1) rfl).drewN n⟩

theorem digitN (b : Nat) (s : ByteArray) (i l : Nat) (w : World) (hr : Rc w b s i) (hl : l ≤ 9) (h : ¬ (i < s.size ∧ 48 + l ≤ byt s i ∧ byt s i ≤ 57)) :
    Calls Try.prog 125 #[.pointer (some ⟨b, 0, none⟩), .int .i64 l] w fun e w' => e = .returned (.tuple #[.int .i64 0, .bool false]) ∧ Mv b w w' i := by
  refine (digit_no b s i l w hr hl ?_).mono ?_
  · by_cases hi : i < s.size
    · rw [pk_in hi]; omega
    · rw [pk_out hi]; omega
  rintro e w' ⟨rfl, n, rfl⟩
  exact ⟨rfl, hr.stay.drewN n⟩

theorem pk_is {s : ByteArray} {i c : Nat} (h : pk s i = c) : i < s.size ∧ byt s i = c := by
  by_cases hi : i < s.size
  · rw [pk_in hi] at h; exact ⟨hi, by omega⟩
  · rw [pk_out hi] at h; omega

theorem brace_step {m o a l c : Nat} (hm : m = 12 ∨ m = 14) : step ⟨m, o, a, l⟩ c = if c = 125 then some ⟨2, o, a, l⟩ else if c = 44 ∧ m = 12 then some ⟨13, o, a, l⟩ else none := by
  unfold step
  simp only
  rw [if_neg (by omega), if_neg (by omega), if_neg (by omega), if_pos (by omega)]
  unfold braced
  simp only
  rw [if_neg (by omega)]

theorem digit_step {m o a l c : Nat} (hm : m = 11 ∨ m = 13) : step ⟨m, o, a, l⟩ c = if 48 ≤ c ∧ c ≤ 57 ∧ l ≤ c - 48 then some ⟨if m = 11 then 12 else 14, o, a, c - 48⟩ else none := by
  unfold step
  simp only
  rw [if_neg (by omega), if_neg (by omega), if_neg (by omega), if_pos (by omega)]
  unfold braced
  simp only
  rw [if_pos hm]

set_option maxHeartbeats 400000 in
theorem counted_any (b i o g n : Nat) (s : ByteArray) (nv : Value) (z : Int) (st : St) (w : World) (hr : Rd w b s i o g nv n) (hn : n ≤ 1000) (h : run s i = some ⟨11, o, g, 0⟩) :
    Calls Try.prog 104 #[.pointer (some ⟨b, 0, none⟩), .int .i64 z] w fun e w' => ∃ (z : Int) (ok : Bool), e = .returned (.tuple #[.int .i64 z, .bool ok]) ∧ Post b s i o n nv w (fun _ st => st.m = 2) ok w' := by
  have HR : Hid (Rd w b s i o g nv n) := hr
  have HG : Hid (run s i = some ⟨11, o, g, 0⟩) := h
  have HC : Hid (Rc w b s i) := hr.rc
  have hle := hr.rc.le
  clear hr h
  by_cases h1 : i < s.size ∧ 48 + 0 ≤ byt s i ∧ byt s i ≤ 57
  · obtain ⟨hi, hd1, hd2⟩ := h1
    have H1 : Hid (i < s.size ∧ 48 + 0 ≤ byt s i ∧ byt s i ≤ 57) := ⟨hi, hd1, hd2⟩
    have HG1 : Hid (run s (i + 1) = some ⟨12, o, g, byt s i - 48⟩) := by
      rw [Hid, run_succ HG.out, digit_step (.inl rfl), if_pos ⟨by omega, hd2, by omega⟩]; rfl
    obtain ⟨d, hd⟩ : ∃ d, byt s i - 48 = d := ⟨_, rfl⟩
    have HD : Hid (byt s i - 48 = d) := hd
    have hd9 : d ≤ 9 := by omega
    rw [hd] at HG1
    clear hd hd1 hd2
    go_enter Try.func104, Try.ntmps104
    go_wp2_with fail
    refine (digitY b s i 0 _ HC.out (by omega) H1.out.1 H1.out.2.1 H1.out.2.2).mono ?_
    rw [HD.out]
    rintro e w1 ⟨rfl, hm1⟩
    have HM1 : Hid (Mv b w w1 (i + 1)) := hm1
    have HC1 : Hid (Rc w1 b s (i + 1)) := hm1.rc HC.out (by omega)
    clear hm1
    by_cases h44 : pk s (i + 1) = (44 : Nat)
    · have H44 : Hid (pk s (i + 1) = (44 : Nat)) := h44
      obtain ⟨hi1, hb1⟩ := pk_is h44
      have HG2 : Hid (run s (i + 2) = some ⟨13, o, g, d⟩) := by
        rw [Hid, run_succ HG1.out, brace_step (.inl rfl), hb1]; rfl
      clear h44 hb1
      go_wp2_with fail
      refine (acceptY b s (i + 1) 44 _ HC1.out (by omega) H44.out).mono ?_
      rintro e w2 ⟨rfl, hm2⟩
      go_wp2_with fail
      have HM2 : Hid (Mv b w w2 (i + 2)) := HM1.out.trans hm2
      have HC2 : Hid (Rc w2 b s (i + 2)) := hm2.rc HC1.out (by omega)
      clear hm2
      by_cases h2 : i + 2 < s.size ∧ 48 + d ≤ byt s (i + 2) ∧ byt s (i + 2) ≤ 57
      · obtain ⟨hi2, hd1, hd2⟩ := h2
        have H2 : Hid (i + 2 < s.size ∧ 48 + d ≤ byt s (i + 2) ∧ byt s (i + 2) ≤ 57) := ⟨hi2, hd1, hd2⟩
        have HG3 : Hid (run s (i + 3) = some ⟨14, o, g, byt s (i + 2) - 48⟩) := by
          rw [Hid, run_succ HG2.out, digit_step (.inr rfl), if_pos ⟨by omega, hd2, by omega⟩]; rfl
        obtain ⟨d2, hd⟩ : ∃ d2, byt s (i + 2) - 48 = d2 := ⟨_, rfl⟩
        have HD2 : Hid (byt s (i + 2) - 48 = d2) := hd
        rw [hd] at HG3
        clear hd hd1 hd2
        refine (digitY b s (i + 2) d _ HC2.out hd9 H2.out.1 H2.out.2.1 H2.out.2.2).mono ?_
        rw [HD2.out]
        rintro e w3 ⟨rfl, hm3⟩
        have HM3 : Hid (Mv b w w3 (i + 3)) := HM2.out.trans hm3
        have HC3 : Hid (Rc w3 b s (i + 3)) := hm3.rc HC2.out (by omega)
        clear hm3
        by_cases hc : pk s (i + 3) = (125 : Nat)
        · have H3 : Hid (pk s (i + 3) = (125 : Nat)) := hc
          obtain ⟨hi3, hb3⟩ := pk_is hc
          have HG4 : Hid (run s (i + 4) = some ⟨2, o, g, d2⟩) := by
            rw [Hid, run_succ HG3.out, brace_step (.inr rfl), hb3]; rfl
          clear hc hb3
          go_wp2_with fail
          refine (acceptY b s (i + 3) 125 _ HC3.out (by omega) H3.out).mono ?_
          rintro e w4 ⟨rfl, hm4⟩
          go_wp2_with fail
          refine (repeat_any b (i + 4) o g n s nv z _ _ _ ((HM3.out.trans hm4).rd HR.out (by omega)) hn).mono ?_
          rintro e w5 ⟨nv', rfl, h5, h6⟩
          go_wp2_with fail
          go_ret2
          exact ⟨_, true, rfl, .inl ⟨rfl, _, _, _, nv', _, h5, ((HM3.out.trans hm4).fr nv).trans h6, HG4.out, rfl, rfl, by omega, by omega, rfl⟩⟩
        · have H3 : Hid (pk s (i + 3) ≠ (125 : Nat)) := hc
          have HF : Hid (Fails s (i + 3)) := by
            refine Fails.here HG3.out (by omega) (fun hlt => ?_) (fun _ => not_whole (by simp) (by simp))
            rw [pk_in hlt] at hc
            rw [brace_step (.inr rfl), if_neg (by omega), if_neg (by omega)]
          clear hc
          go_wp2_with fail
          refine (acceptN b s (i + 3) 125 _ HC3.out (by omega) H3.out).mono ?_
          rintro e w4 ⟨rfl, hm4⟩
          go_wp2_with fail
          go_ret2
          exact ⟨0, false, rfl, .fails HR.out (HM3.out.trans hm4) HF.out⟩
      · have H2 : Hid (¬ (i + 2 < s.size ∧ 48 + d ≤ byt s (i + 2) ∧ byt s (i + 2) ≤ 57)) := h2
        have HF : Hid (Fails s (i + 2)) := by
          refine Fails.here HG2.out (by omega) (fun hlt => ?_) (fun _ => not_whole (by simp) (by simp))
          rw [digit_step (.inr rfl), if_neg (by omega)]
        clear h2
        refine (digitN b s (i + 2) d _ HC2.out hd9 H2.out).mono ?_
        rintro e w3 ⟨rfl, hm3⟩
        go_wp2_with fail
        go_ret2
        exact ⟨0, false, rfl, .fails HR.out (HM2.out.trans hm3) HF.out⟩
    · have H44 : Hid (pk s (i + 1) ≠ (44 : Nat)) := h44
      by_cases hc : pk s (i + 1) = (125 : Nat)
      · have H3 : Hid (pk s (i + 1) = (125 : Nat)) := hc
        obtain ⟨hi3, hb3⟩ := pk_is hc
        have HG4 : Hid (run s (i + 2) = some ⟨2, o, g, d⟩) := by
          rw [Hid, run_succ HG1.out, brace_step (.inl rfl), hb3]; rfl
        clear hc hb3 h44
        go_wp2_with fail
        refine (acceptN b s (i + 1) 44 _ HC1.out (by omega) H44.out).mono ?_
        rintro e w2 ⟨rfl, hm2⟩
        go_wp2_with fail
        refine (acceptY b s (i + 1) 125 _ (hm2.rc HC1.out (by omega)) (by omega) H3.out).mono ?_
        rintro e w4 ⟨rfl, hm4⟩
        go_wp2_with fail
        refine (repeat_any b (i + 2) o g n s nv z _ _ _ ((HM1.out.trans (hm2.trans hm4)).rd HR.out (by omega)) hn).mono ?_
        rintro e w5 ⟨nv', rfl, h5, h6⟩
        go_wp2_with fail
        go_ret2
        exact ⟨_, true, rfl, .inl ⟨rfl, _, _, _, nv', _, h5, ((HM1.out.trans (hm2.trans hm4)).fr nv).trans h6, HG4.out, rfl, rfl, by omega, by omega, rfl⟩⟩
      · have H3 : Hid (pk s (i + 1) ≠ (125 : Nat)) := hc
        have HF : Hid (Fails s (i + 1)) := by
          refine Fails.here HG1.out (by omega) (fun hlt => ?_) (fun _ => not_whole (by simp) (by simp))
          rw [pk_in hlt] at hc h44
          rw [brace_step (.inl rfl), if_neg (by omega), if_neg (by omega)]
        clear hc h44
        go_wp2_with fail
        refine (acceptN b s (i + 1) 44 _ HC1.out (by omega) H44.out).mono ?_
        rintro e w2 ⟨rfl, hm2⟩
        go_wp2_with fail
        refine (acceptN b s (i + 1) 125 _ (hm2.rc HC1.out (by omega)) (by omega) H3.out).mono ?_
        rintro e w4 ⟨rfl, hm4⟩
        go_wp2_with fail
        go_ret2
        exact ⟨0, false, rfl, .fails HR.out (HM1.out.trans (hm2.trans hm4)) HF.out⟩
  · have H1 : Hid (¬ (i < s.size ∧ 48 + 0 ≤ byt s i ∧ byt s i ≤ 57)) := h1
    have HF : Hid (Fails s i) := by
      refine Fails.here HG.out hle (fun hlt => ?_) (fun _ => not_whole (by simp) (by simp))
      rw [digit_step (.inl rfl), if_neg (by omega)]
    clear h1
    go_enter Try.func104, Try.ntmps104
    go_wp2_with fail
    refine (digitN b s i 0 _ HC.out (by omega) H1.out).mono ?_
    rintro e w' ⟨rfl, hm⟩
    go_wp2_with fail
    go_ret2
    exact ⟨0, false, rfl, .fails HR.out hm HF.out⟩
end Go.Proofs.Ytppjlpihaocdiaa

