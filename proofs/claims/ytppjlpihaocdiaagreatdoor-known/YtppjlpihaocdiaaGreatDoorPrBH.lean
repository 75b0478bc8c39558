/- Several texts in one. -/
import Derived.Test.YtppjlpihaocdiaaGreatDoorBitsH
import Derived.Deep.RegionLaw
import Derived.BigRegion
import Derived.Deep.AppendLies
import Derived.Deep.DrawnRows
import Derived.Test.YtppjlpihaocdiaaGreatDoorDecAH
/- A part of the proof. -/
set_option linter.unusedSimpArgs false
set_option linter.unusedVariables false
namespace Go.Proofs.YtppjlpihaocdiaaGreatDoor
open Go.RowKit
structure Rd (w : World) (b : Nat) (s : ByteArray) (i o g : Nat) (nv : Value) (n : Nat) : Prop where
  rc : Rc w b s i
  c2 : w.cell? ⟨b, 2, none⟩ = some (.int .i64 o)
  c3 : w.cell? ⟨b, 3, none⟩ = some (.int .i64 g)
  c4 : w.cell? ⟨b, 4, none⟩ = some nv
  f2 : w.frozen? ⟨b, 2, none⟩ = false
  f3 : w.frozen? ⟨b, 3, none⟩ = false
  f4 : w.frozen? ⟨b, 4, none⟩ = false
  own : ∃ xs, w.ownsRow (b + 1) 151 9 nv n xs
structure Fr (b : Nat) (nv nv' : Value) (w w' : World) : Prop where
  os : w'.os = w.os
  tape : w'.tape = w.tape
  output : w'.output = w.output
  size : w.heap.size ≤ w'.heap.size
  block : ∀ k, k < w.heap.size → k ≠ b → some k ≠ nv.ownBlock → w'.heap[k]? = w.heap[k]?
  lies : nv'.ownBlock = nv.ownBlock ∨ ∀ k, nv'.ownBlock = some k → w.heap.size ≤ k
theorem Fr.refl (b : Nat) (nv : Value) (w : World) : Fr b nv nv w w := ⟨rfl, rfl, rfl, Nat.le_refl _, fun _ _ _ _ => rfl, .inl rfl⟩
theorem Fr.trans {b : Nat} {nv nv' nv'' : Value} {u v w : World} (h : Fr b nv nv' u v) (k : Fr b nv' nv'' v w) : Fr b nv nv'' u w := by
  refine ⟨k.os.trans h.os, k.tape.trans h.tape, k.output.trans h.output, Nat.le_trans h.size k.size, fun i hi hb hn => ?_, ?_⟩
  · refine (k.block i (Nat.lt_of_lt_of_le hi h.size) hb ?_).trans (h.block i hi hb hn)
    rcases h.lies with e | e
    · rw [e]; exact hn
    · intro hh
      have := e i hh.symm
      omega
  · rcases k.lies with e | e
    · rw [e]; exact h.lies
    · exact .inr fun j hj => Nat.le_trans h.size (e j hj)
theorem Mv.fr {b j : Nat} {w w' : World} (h : Mv b w w' j) (nv : Value) : Fr b nv nv w w' :=
  ⟨h.only.os, h.only.tape, h.only.output, by rw [h.only.size]; exact Nat.le_refl _, fun k _ hb _ => h.only.block k hb, .inl rfl⟩
theorem ownsRow_of_block {w w' : World} {base : Nat} {e : TypeId} {size n : Nat} {v : Value} {xs : List Value} (h : w.ownsRow base e size v n xs) (hb : ∀ k, v.ownBlock = some k → w'.heap[k]? = w.heap[k]?) : w'.ownsRow base e size v n xs := by
  obtain ⟨h1, h2⟩ := h
  refine ⟨h1, ?_⟩
  rcases h2 with h2 | ⟨g, cap, cur, hv, hg, hh, r⟩
  · exact .inl h2
  · exact .inr ⟨g, cap, cur, hv, hg, by rw [hb g (by rw [hv]; rfl)]; exact hh, r⟩
theorem Mv.rd {b i j o g n : Nat} {s : ByteArray} {nv : Value} {w w' : World} (h : Mv b w w' j) (hr : Rd w b s i o g nv n) (hj : j ≤ s.size) : Rd w' b s j o g nv n := by
  obtain ⟨rc, c2, c3, c4, f2, f3, f4, xs, hown⟩ := hr
  refine ⟨h.rc rc hj, by rw [h.cell 2 (by omega)]; exact c2, by rw [h.cell 3 (by omega)]; exact c3, by rw [h.cell 4 (by omega)]; exact c4, by rw [h.frz]; exact f2, by rw [h.frz]; exact f3, by rw [h.frz]; exact f4, xs, ?_⟩
  exact ownsRow_of_block hown fun k hk => h.only.block k (by have := (hown.lt k hk).1; omega)
theorem Below.rd {b i o g n : Nat} {s : ByteArray} {nv : Value} {w w' : World} (h : Below w.heap.size w w') (hr : Rd w b s i o g nv n) : Rd w' b s i o g nv n := by
  obtain ⟨⟨r0, r1, rf, rle, r40⟩, c2, c3, c4, f2, f3, f4, xs, hown⟩ := hr
  have hb : b < w.heap.size := World.block_lt_of_cell? w _ r0
  have hc : ∀ k, w'.cell? ⟨b, k, none⟩ = w.cell? ⟨b, k, none⟩ := fun k => h.cell (p := ⟨b, k, none⟩) hb
  have hf : ∀ k, w'.frozen? ⟨b, k, none⟩ = w.frozen? ⟨b, k, none⟩ := fun k => h.frozen (p := ⟨b, k, none⟩) hb
  exact ⟨⟨(hc 0).trans r0, (hc 1).trans r1, (hf 1).trans rf, rle, r40⟩, (hc 2).trans c2, (hc 3).trans c3, (hc 4).trans c4, (hf 2).trans f2, (hf 3).trans f3, (hf 4).trans f4, xs,
    ownsRow_of_block hown fun k hk => h.block k (hown.lt k hk).2⟩
theorem Below.fr {b : Nat} {w w' : World} (h : Below w.heap.size w w') (nv : Value) : Fr b nv nv w w' :=
  ⟨h.os, h.tape, h.output, h.size, fun k hk _ _ => h.block k hk, .inl rfl⟩
theorem Fr.below {b i o g n : Nat} {s : ByteArray} {nv nv' : Value} {w w' : World} (h : Fr b nv nv' w w') (hr : Rd w b s i o g nv n) : Below b w w' := by
  obtain ⟨⟨r0, r1, rf, rle, r40⟩, c2, c3, c4, f2, f3, f4, xs, hown⟩ := hr
  have hb : b < w.heap.size := World.block_lt_of_cell? w _ r0
  exact ⟨h.os, h.tape, h.output, h.size, fun k hk => h.block k (by omega) (by omega) (fun e => by have := (hown.lt k e.symm).1; omega)⟩
theorem Tryz.info151 : (Tryz.prog.info? 151).map (fun i => (i.zero, i.size, i.bytes)) = some (some (.agg #[.int .i64 0, .slice none 0 0, .int .u64 0, .int .u64 0, .int .u64 0, .int .u64 0, .int .i64 0, .int .i64 0, .int .i64 0]), 9, 88) := by kernel_rfl
theorem new2 (w : World) (o1 o2 : Obj) : ((w.alloc o1).alloc o2).drew.heap[w.heap.size + 1]? = some o2 := by
  have e : (w.alloc o1).heap.size = w.heap.size + 1 := by simp
  have h := heap_alloc_new (w.alloc o1) o2
  rw [e] at h
  exact h
theorem far2 {w w1 : World} {o1 o2 : Obj} {row : Option Nat} (hg : ((w.alloc o1).alloc o2).drew.grownBy w1 row) {k : Nat} (hk : k < w.heap.size) (hne : some k ≠ row) : w1.heap[k]? = w.heap[k]? := by
  have e : (w.alloc o1).heap.size = w.heap.size + 1 := by simp
  have e2 : ((w.alloc o1).alloc o2).drew.heap.size = w.heap.size + 2 := by simp
  have h := hg.block k (by omega) hne
  rw [h]
  show ((w.alloc o1).alloc o2).heap[k]? = _
  rw [Below.heap_alloc _ _ _ (by omega), Below.heap_alloc _ _ _ hk]
theorem Rd.added {w w1 : World} {b i o g n gg cap : Nat} {s : ByteArray} {nv : Value} {o1 o2 : Obj} {ys : List Value} (hr : Rd w b s i o g nv n)
    (hg : ((w.alloc o1).alloc o2).drew.grownBy w1 nv.ownBlock) (hown : w1.ownsRow (b + 1) 151 9 (.slice (some ⟨gg, 0, none⟩) (n + 1) cap) (n + 1) ys)
    (hat : nv.ownBlock = some gg ∨ gg = w.heap.size + 2) :
    Rd (w1.setCell ⟨b, 4, none⟩ (.slice (some ⟨gg, 0, none⟩) (n + 1) cap)) b s i o g (.slice (some ⟨gg, 0, none⟩) (n + 1) cap) (n + 1) ∧
    Fr b nv (.slice (some ⟨gg, 0, none⟩) (n + 1) cap) w (w1.setCell ⟨b, 4, none⟩ (.slice (some ⟨gg, 0, none⟩) (n + 1) cap)) := by
  obtain ⟨⟨r0, r1, rf, rle, r40⟩, c2, c3, c4, f2, f3, f4, xs, ho⟩ := hr
  have hb : b < w.heap.size := World.block_lt_of_cell? w _ r0
  have hx := far2 hg hb (fun e => by have := (ho.lt _ e.symm).1; omega)
  have kc : ∀ k, w1.cell? ⟨b, k, none⟩ = w.cell? ⟨b, k, none⟩ := fun k => World.cell?_of_block (w := w) (w' := w1) (a := ⟨b, k, none⟩) hx
  have kf : ∀ k, w1.frozen? ⟨b, k, none⟩ = w.frozen? ⟨b, k, none⟩ := fun k => World.frozen?_of_block (w := w) (w' := w1) (a := ⟨b, k, none⟩) hx
  have ko : ∀ k, k ≠ 4 → (w1.setCell ⟨b, 4, none⟩ (.slice (some ⟨gg, 0, none⟩) (n + 1) cap)).cell? ⟨b, k, none⟩ = w.cell? ⟨b, k, none⟩ := fun k hk =>
    (World.cell?_setCell_other (h := fun e => hk (by injection e with _ e _; exact e.symm)) ..).trans (kc k)
  have kz : ∀ k, (w1.setCell ⟨b, 4, none⟩ (.slice (some ⟨gg, 0, none⟩) (n + 1) cap)).frozen? ⟨b, k, none⟩ = w.frozen? ⟨b, k, none⟩ := fun k => by
    rw [World.frozen?_setCell]; exact kf k
  have hgb : b + 1 ≤ gg := (hown.lt gg rfl).1
  refine ⟨⟨⟨(ko 0 (by omega)).trans r0, (ko 1 (by omega)).trans r1, (kz 1).trans rf, rle, r40⟩, (ko 2 (by omega)).trans c2, (ko 3 (by omega)).trans c3, ?_, (kz 2).trans f2, (kz 3).trans f3, (kz 4).trans f4, ys, ?_⟩, ?_⟩
  · exact World.cell?_setCell_same _ _ _ ((kc 4).trans c4)
  · exact ownsRow_of_block hown fun k hk => Below.heap_setCell _ _ _ _ (by
      have : gg = k := by simpa [Value.ownBlock] using hk
      simp only; omega)
  · have hsz : w.heap.size + 2 ≤ w1.heap.size := by have := hg.size; simp at this; omega
    refine ⟨hg.os, hg.tape, hg.output, by simp [World.setCell]; omega, fun k hk hkb hkn => ?_, ?_⟩
    · rw [Below.heap_setCell _ _ _ _ hkb, far2 hg hk hkn]
    · rcases hat with hat | hat
      · exact .inl hat.symm
      · right
        intro k hk
        have : gg = k := by simpa [Value.ownBlock] using hk
        omega
attribute [local go_sem ↓] Go.wp_at_zero Go.wp_at_succ
set_option maxRecDepth 100000 in
set_option maxHeartbeats 1600000 in
theorem add_any (b i o g n : Nat) (s : ByteArray) (nv : Value) (w : World) (hr : Rd w b s i o g nv n) (hn : n ≤ 1000)
    (k num lo hi y0 y1 y2 y3 : Int) (ao : Option Addr) (m c : Nat) :
    Calls Tryz.prog 150 #[.pointer (some ⟨b, 0, none⟩), .agg #[.int .i64 k, .slice ao m c, .int .u64 y0, .int .u64 y1, .int .u64 y2, .int .u64 y3, .int .i64 num, .int .i64 lo, .int .i64 hi]] w
      fun e w' => ∃ nv', e = .returned (.int .i64 n) ∧ Rd w' b s i o g nv' (n + 1) ∧ Fr b nv nv' w w' := by
  have HR : Hid (Rd w b s i o g nv n) := hr
  obtain ⟨⟨r0, r1, rf, rle, r40⟩, c2, c3, c4, f2, f3, f4, xs, hown⟩ := hr
  have hb : b < w.heap.size := World.block_lt_of_cell? w _ r0
  have HO : Hid (w.ownsRow (b + 1) 151 9 nv n xs) := hown
  have HL : Hid (∀ k, nv.ownBlock = some k → b + 1 ≤ k ∧ k < w.heap.size) := fun k hk => hown.lt k hk
  obtain ⟨i0, hi0, hz0, hz1, hz2⟩ := info_parts Tryz.info151
  clear hown
  go_enter Tryz.func150, Tryz.ntmps150
  go_wp2_with fail
  go_region_law
    ((refine step_append_lies _ (by rfl) _ _ _ (by rfl) (b + 1) 151 i0 _ 9 88 Tryz.underlying86 hi0 hz0 hz1 hz2 rfl (by omega) nv n xs (by rfl) (((HO.out.alloc _).alloc _).drew)
        ⟨w.heap.size + 1, 0, none⟩ 1 1 [.int .i64 k, .slice ao m c, .int .u64 y0, .int .u64 y1, .int .u64 y2, .int .u64 y3, .int .i64 num, .int .i64 lo, .int .i64 hi] (by rfl) (by rfl) (World.news_of_block (cs := #[.int .i64 k, .slice ao m c, .int .u64 y0, .int .u64 y1, .int .u64 y2, .int .u64 y3, .int .i64 num, .int .i64 lo, .int .i64 hi]) (t := 151) (fr := (0, 0)) (new2 w _ _)) (by simp [Value.oneCell'])
        (by omega) (by unfold maxLen; omega) (by omega) (by simp; omega) (w.heap.size + 2) (by simp) ?_; intro gg cap w1 hown1 hgrow hat hlt; have hx := far2 hgrow hb (fun e => by have := (HL.out _ e.symm).1; omega); have kc := World.cell?_of_block (w := w) (w' := w1) (a := ⟨b, 4, none⟩) hx; have kf := World.frozen?_of_block (w := w) (w' := w1) (a := ⟨b, 4, none⟩) hx; rw [c4] at kc; rw [f4] at kf; have HX : Hid (w1.heap[b]? = w.heap[b]?) := hx; clear hx))
  all_goals go_wp2
  all_goals go_ret
  all_goals exact ⟨_, rfl, HR.out.added hgrow hown1 hat⟩
end Go.Proofs.YtppjlpihaocdiaaGreatDoor

/- A part of the proof. -/
set_option linter.unusedSimpArgs false
set_option linter.unusedVariables false
namespace Go.Proofs.YtppjlpihaocdiaaGreatDoor
open Go.RowKit
structure Kd (w : World) (N : Nat) (nv kv : Value) (zs : List Int) : Prop where
  own : w.ownsRow N 3 1 kv zs.length (zs.map fun z => Value.int .i64 z)
  ne : ∀ k, kv.ownBlock = some k → nv.ownBlock ≠ some k
theorem Kd.fr {w w' : World} {b N : Nat} {nv nv' kv : Value} {zs : List Int} (h : Kd w N nv kv zs) (hf : Fr b nv nv' w w') (hb : b < N) : Kd w' N nv' kv zs := by
  refine ⟨ownsRow_of_block h.own fun k hk => ?_, fun k hk => ?_⟩
  · have := h.own.lt k hk
    exact hf.block k this.2 (by omega) (fun e => h.ne k hk e.symm)
  · have := h.own.lt k hk
    rcases hf.lies with e | e
    · rw [e]; exact h.ne k hk
    · intro hh
      have := e k hh
      omega
theorem Rd.drewN {w : World} {b i o g n : Nat} {s : ByteArray} {nv : Value} (h : Rd w b s i o g nv n) (m : Nat) : Rd (w.drewN m) b s i o g nv n :=
  (h.rc.stay.drewN m).rd h h.rc.le
theorem own_first {w : World} {N g n cap : Nat} {v : Value} {vs : List Value} (h : w.ownsRow N 3 1 (.slice (some ⟨g, 0, none⟩) n cap) n (v :: vs)) : w.cell? ⟨g, 0, none⟩ = some v := by
  rcases h.2 with ⟨e, _⟩ | ⟨g', cap', cur, hv, _, hh, _, _, _, ht⟩
  · cases e
  · cases hv
    rw [cell_of_row w g 0 cur 3 (0, 0) hh]
    have : cur.toList[0]? = some v := by
      have h0 : (cur.toList.take (n * 1))[0]? = some v := by rw [ht]; rfl
      rw [List.getElem?_take] at h0
      split at h0
      · exact h0
      · cases h0
    simpa using this
set_option maxHeartbeats 400000 in
theorem join_one (b i o g n : Nat) (s : ByteArray) (nv kv : Value) (N : Nat) (k z : Int) (w : World) (hk : Kd w N nv kv [z]) :
    Calls Tryz.prog 101 #[.pointer (some ⟨b, 0, none⟩), .int .i64 k, kv] w fun e w' => e = .returned (.int .i64 z) ∧ w' = w := by
  obtain ⟨g0, cap, rfl, hg, hlt⟩ := hk.own.form (by simp)
  have hc : w.cell? ⟨g0, 0, none⟩ = some (.int .i64 z) := own_first hk.own
  have hl : (([z].length : Nat) : Int) = 1 := rfl
  simp only [List.length_singleton]
  go_enter Tryz.func101, Tryz.ntmps101
  go_wp2
  go_ret
  exact ⟨rfl, rfl⟩
set_option maxHeartbeats 400000 in
theorem join_more (b i o g n : Nat) (s : ByteArray) (nv kv : Value) (N : Nat) (k : Int) (zs : List Int) (w : World) (hr : Rd w b s i o g nv n) (hn : n ≤ 1000) (hk : Kd w N nv kv zs) (hz : 2 ≤ zs.length) (hz2 : zs.length ≤ 1000) :
    Calls Tryz.prog 101 #[.pointer (some ⟨b, 0, none⟩), .int .i64 k, kv] w fun e w' => ∃ nv', e = .returned (.int .i64 n) ∧ Rd w' b s i o g nv' (n + 1) ∧ Fr b nv nv' w w' := by
  obtain ⟨g0, cap, rfl, hg, hlt⟩ := hk.own.form (by omega)
  have HR : Hid (Rd w b s i o g nv n) := hr
  generalize zs.length = m at hz hz2
  have h1 : ((m : Int) == 1) = false := by simp; omega
  clear hr hk
  go_enter Tryz.func101, Tryz.ntmps101
  go_wp2_with (go_at_call 150; refine (add_any b i o g n s nv _ HR.out hn k 0 0 0 0 0 0 0 _ _ _).mono ?_; rintro e w' ⟨nv', rfl, h⟩)
  go_ret
  exact ⟨nv', rfl, h⟩
set_option maxHeartbeats 400000 in
theorem repeat_any (b i o g n : Nat) (s : ByteArray) (nv : Value) (z lo hi : Int) (w : World) (hr : Rd w b s i o g nv n) (hn : n ≤ 1000) :
    Calls Tryz.prog 188 #[.pointer (some ⟨b, 0, none⟩), .int .i64 z, .int .i64 lo, .int .i64 hi] w fun e w' => ∃ nv', e = .returned (.int .i64 n) ∧ Rd w' b s i o g nv' (n + 1) ∧ Fr b nv nv' w w' := by
  have HR : Hid (Rd w b s i o g nv n) := hr
  have HB : Hid (∀ ob, Below w.heap.size w (w.alloc ob)) := fun ob => (Below.refl _ _).alloc (Nat.le_refl _) _
  clear hr
  go_enter Tryz.func188, Tryz.ntmps188
  go_wp2_with (go_at_call 150; refine (add_any b i o g n s nv _ (Below.rd (HB.out _) HR.out) hn 4 0 lo hi 0 0 0 0 _ _ _).mono ?_; rintro e w' ⟨nv', rfl, h1, h2⟩)
  go_ret
  exact ⟨nv', rfl, h1, (Below.fr (HB.out _) nv).trans h2⟩
set_option maxHeartbeats 400000 in
theorem sign_any (b i o g n : Nat) (s : ByteArray) (nv : Value) (w : World) (hr : Rd w b s i o g nv n) (hn : n ≤ 1000) (hi : i < s.size)
    (k y0 y1 y2 y3 : Int) :
    Calls Tryz.prog 218 #[.pointer (some ⟨b, 0, none⟩), .agg #[.int .i64 k, .slice none 0 0, .int .u64 y0, .int .u64 y1, .int .u64 y2, .int .u64 y3, .int .i64 0, .int .i64 0, .int .i64 0]] w
      fun e w' => ∃ nv', e = .returned (.int .i64 n) ∧ Rd w' b s (i + 1) o g nv' (n + 1) ∧ Fr b nv nv' w w' := by
  have HR : Hid (Rd w b s i o g nv n) := hr
  obtain ⟨⟨r0, r1, rf, rle, r40⟩, c2, c3, c4, f2, f3, f4, own⟩ := hr
  have hb : b < w.heap.size := World.block_lt_of_cell? w _ r0
  clear own
  go_enter Tryz.func218, Tryz.ntmps218
  go_wp2_with (go_at_call 150; refine (add_any b (i + 1) o g n s nv _ (Below.rd ((Below.refl _ _).alloc (Nat.le_refl _) _) (Mv.rd ((Mv.stay r1).set (i + 1) (by omega)) HR.out (by omega))) hn k 0 0 0 y0 y1 y2 y3 _ _ _).mono ?_; rintro e w' ⟨nv', rfl, h1, h2⟩)
  go_ret
  exact ⟨nv', rfl, h1, ((Mv.fr ((Mv.stay r1).set (i + 1) (by omega)) nv).trans (Below.fr ((Below.refl _ _).alloc (Nat.le_refl _) _) nv)).trans h2⟩
def Post (b : Nat) (s : ByteArray) (i o n : Nat) (nv : Value) (w : World) (Q : Nat → St → Prop) (ok : Bool) (w' : World) : Prop :=
  (ok = true ∧ ∃ (j g' n' : Nat) (nv' : Value) (st : St), Rd w' b s j o g' nv' n' ∧ Fr b nv nv' w w' ∧ run s j = some st ∧ st.o = o ∧ st.a = g' ∧ i < j ∧ n' + 1 + 2 * i ≤ n + 2 * j ∧ Q j st) ∨
  (ok = false ∧ ∃ j : Nat, Fails s j ∧ w'.cell? ⟨b, 1, none⟩ = some (.int .i64 j) ∧ Below b w w')
theorem Post.fails {b i o g n j : Nat} {s : ByteArray} {nv : Value} {w w' : World} {Q : Nat → St → Prop} (hr : Rd w b s i o g nv n) (hm : Mv b w w' j) (hF : Fails s j) : Post b s i o n nv w Q false w' :=
  .inr ⟨rfl, j, hF, hm.c1, (hm.fr nv).below hr⟩
theorem Post.after {b i i1 o g n n1 : Nat} {s : ByteArray} {nv nv1 : Value} {w w1 w' : World} {Q : Nat → St → Prop} {ok : Bool} (hr : Rd w b s i o g nv n) (hf : Fr b nv nv1 w w1) (hi : i ≤ i1) (hn : n1 + 2 * i ≤ n + 2 * i1)
    (h : Post b s i1 o n1 nv1 w1 Q ok w') : Post b s i o n nv w Q ok w' := by
  rcases h with ⟨rfl, j, g', n', nv', st, h1, h2, h3, h4, h5, h6, h7, h8⟩ | ⟨rfl, j, h1, h2, h3⟩
  · exact .inl ⟨rfl, j, g', n', nv', st, h1, hf.trans h2, h3, h4, h5, by omega, by omega, h8⟩
  · exact .inr ⟨rfl, j, h1, h2, (hf.below hr).trans h3⟩
theorem acceptY (b : Nat) (s : ByteArray) (i c : Nat) (w : World) (hr : Rc w b s i) (hc : c < 256) (hi : pk s i = c) :
    Calls Tryz.prog 100 #[.pointer (some ⟨b, 0, none⟩), .int .u8 c] w fun e w' => e = .returned (.bool true) ∧ Mv b w w' (i + 1) := by
  refine (accept_yes b s i c w hr hc hi).mono ?_
  rintro e w' ⟨rfl, n, rfl⟩
  exact ⟨rfl, (hr.stay.set (i + 1) rfl).drewN n⟩
theorem acceptN (b : Nat) (s : ByteArray) (i c : Nat) (w : World) (hr : Rc w b s i) (hc : c < 256) (hi : pk s i ≠ c) :
    Calls Tryz.prog 100 #[.pointer (some ⟨b, 0, none⟩), .int .u8 c] w fun e w' => e = .returned (.bool false) ∧ Mv b w w' i := by
  refine (accept_no b s i c w hr hc hi).mono ?_
  rintro e w' ⟨rfl, n, rfl⟩
  exact ⟨rfl, hr.stay.drewN n⟩
theorem digitY (b : Nat) (s : ByteArray) (i l : Nat) (w : World) (hr : Rc w b s i) (hl : l ≤ 9) (hi : i < s.size) (h1 : 48 + l ≤ byt s i) (h2 : byt s i ≤ 57) :
    Calls Tryz.prog 224 #[.pointer (some ⟨b, 0, none⟩), .int .i64 l] w fun e w' => e = .returned (.tuple #[.int .i64 (byt s i - 48 : Nat), .bool true]) ∧ Mv b w w' (i + 1) := by
  refine (digit_yes b s i l w hr hl (by rw [pk_in hi]; omega) (by rw [pk_in hi]; omega)).mono ?_
  rintro e w' ⟨rfl, n, rfl⟩
  exact ⟨ret2 (by rw [pk_in hi]; omega) rfl, (hr.stay.set (i + 1) rfl).drewN n⟩
theorem digitN (b : Nat) (s : ByteArray) (i l : Nat) (w : World) (hr : Rc w b s i) (hl : l ≤ 9) (h : ¬ (i < s.size ∧ 48 + l ≤ byt s i ∧ byt s i ≤ 57)) :
    Calls Tryz.prog 224 #[.pointer (some ⟨b, 0, none⟩), .int .i64 l] w fun e w' => e = .returned (.tuple #[.int .i64 0, .bool false]) ∧ Mv b w w' i := by
  refine (digit_no b s i l w hr hl ?_).mono ?_
  · by_cases hi : i < s.size
    · rw [pk_in hi]; omega
    · rw [pk_out hi]; omega
  rintro e w' ⟨rfl, n, rfl⟩
  exact ⟨rfl, hr.stay.drewN n⟩
theorem pk_is {s : ByteArray} {i c : Nat} (h : pk s i = c) : i < s.size ∧ byt s i = c := by
  by_cases hi : i < s.size
  · rw [pk_in hi] at h; exact ⟨hi, by omega⟩
  · rw [pk_out hi] at h; omega
theorem brace_step {m o a l c : Nat} (hm : m = 12 ∨ m = 14) : step ⟨m, o, a, l⟩ c = if c = 125 then some ⟨2, o, a, l⟩ else if c = 44 ∧ m = 12 then some ⟨13, o, a, l⟩ else none := by
  unfold step
  simp only
  rw [if_neg (by omega), if_neg (by omega), if_neg (by omega), if_pos (by omega)]
  unfold braced
  simp only
  rw [if_neg (by omega)]
theorem digit_step {m o a l c : Nat} (hm : m = 11 ∨ m = 13) : step ⟨m, o, a, l⟩ c = if 48 ≤ c ∧ c ≤ 57 ∧ l ≤ c - 48 then some ⟨if m = 11 then 12 else 14, o, a, c - 48⟩ else none := by
  unfold step
  simp only
  rw [if_neg (by omega), if_neg (by omega), if_neg (by omega), if_pos (by omega)]
  unfold braced
  simp only
  rw [if_pos hm]
set_option maxHeartbeats 400000 in
theorem counted_any (b i o g n : Nat) (s : ByteArray) (nv : Value) (z : Int) (st : St) (w : World) (hr : Rd w b s i o g nv n) (hn : n ≤ 1000) (h : run s i = some ⟨11, o, g, 0⟩) :
    Calls Tryz.prog 189 #[.pointer (some ⟨b, 0, none⟩), .int .i64 z] w fun e w' => ∃ (z : Int) (ok : Bool), e = .returned (.tuple #[.int .i64 z, .bool ok]) ∧ Post b s i o n nv w (fun _ st => st.m = 2) ok w' := by
  have HR : Hid (Rd w b s i o g nv n) := hr
  have HG : Hid (run s i = some ⟨11, o, g, 0⟩) := h
  have HC : Hid (Rc w b s i) := hr.rc
  have hle := hr.rc.le
  clear hr h
  by_cases h1 : i < s.size ∧ 48 + 0 ≤ byt s i ∧ byt s i ≤ 57
  · obtain ⟨hi, hd1, hd2⟩ := h1
    have H1 : Hid (i < s.size ∧ 48 + 0 ≤ byt s i ∧ byt s i ≤ 57) := ⟨hi, hd1, hd2⟩
    have HG1 : Hid (run s (i + 1) = some ⟨12, o, g, byt s i - 48⟩) := by
      rw [Hid, run_succ HG.out, digit_step (.inl rfl), if_pos ⟨by omega, hd2, by omega⟩]; rfl
    obtain ⟨d, hd⟩ : ∃ d, byt s i - 48 = d := ⟨_, rfl⟩
    have HD : Hid (byt s i - 48 = d) := hd
    have hd9 : d ≤ 9 := by omega
    rw [hd] at HG1
    clear hd hd1 hd2
    go_enter Tryz.func189, Tryz.ntmps189
    go_wp2_with fail
    refine (digitY b s i 0 _ HC.out (by omega) H1.out.1 H1.out.2.1 H1.out.2.2).mono ?_
    rw [HD.out]
    rintro e w1 ⟨rfl, hm1⟩
    have HM1 : Hid (Mv b w w1 (i + 1)) := hm1
    have HC1 : Hid (Rc w1 b s (i + 1)) := hm1.rc HC.out (by omega)
    clear hm1
    by_cases h44 : pk s (i + 1) = (44 : Nat)
    · have H44 : Hid (pk s (i + 1) = (44 : Nat)) := h44
      obtain ⟨hi1, hb1⟩ := pk_is h44
      have HG2 : Hid (run s (i + 2) = some ⟨13, o, g, d⟩) := by
        rw [Hid, run_succ HG1.out, brace_step (.inl rfl), hb1]; rfl
      clear h44 hb1
      go_wp2_with fail
      refine (acceptY b s (i + 1) 44 _ HC1.out (by omega) H44.out).mono ?_
      rintro e w2 ⟨rfl, hm2⟩
      go_wp2_with fail
      have HM2 : Hid (Mv b w w2 (i + 2)) := HM1.out.trans hm2
      have HC2 : Hid (Rc w2 b s (i + 2)) := hm2.rc HC1.out (by omega)
      clear hm2
      by_cases h2 : i + 2 < s.size ∧ 48 + d ≤ byt s (i + 2) ∧ byt s (i + 2) ≤ 57
      · obtain ⟨hi2, hd1, hd2⟩ := h2
        have H2 : Hid (i + 2 < s.size ∧ 48 + d ≤ byt s (i + 2) ∧ byt s (i + 2) ≤ 57) := ⟨hi2, hd1, hd2⟩
        have HG3 : Hid (run s (i + 3) = some ⟨14, o, g, byt s (i + 2) - 48⟩) := by
          rw [Hid, run_succ HG2.out, digit_step (.inr rfl), if_pos ⟨by omega, hd2, by omega⟩]; rfl
        obtain ⟨d2, hd⟩ : ∃ d2, byt s (i + 2) - 48 = d2 := ⟨_, rfl⟩
        have HD2 : Hid (byt s (i + 2) - 48 = d2) := hd
        rw [hd] at HG3
        clear hd hd1 hd2
        refine (digitY b s (i + 2) d _ HC2.out hd9 H2.out.1 H2.out.2.1 H2.out.2.2).mono ?_
        rw [HD2.out]
        rintro e w3 ⟨rfl, hm3⟩
        have HM3 : Hid (Mv b w w3 (i + 3)) := HM2.out.trans hm3
        have HC3 : Hid (Rc w3 b s (i + 3)) := hm3.rc HC2.out (by omega)
        clear hm3
        by_cases hc : pk s (i + 3) = (125 : Nat)
        · have H3 : Hid (pk s (i + 3) = (125 : Nat)) := hc
          obtain ⟨hi3, hb3⟩ := pk_is hc
          have HG4 : Hid (run s (i + 4) = some ⟨2, o, g, d2⟩) := by
            rw [Hid, run_succ HG3.out, brace_step (.inr rfl), hb3]; rfl
          clear hc hb3
          go_wp2_with fail
          refine (acceptY b s (i + 3) 125 _ HC3.out (by omega) H3.out).mono ?_
          rintro e w4 ⟨rfl, hm4⟩
          go_wp2_with fail
          refine (repeat_any b (i + 4) o g n s nv z _ _ _ ((HM3.out.trans hm4).rd HR.out (by omega)) hn).mono ?_
          rintro e w5 ⟨nv', rfl, h5, h6⟩
          go_wp2_with fail
          go_ret2
          exact ⟨_, true, rfl, .inl ⟨rfl, _, _, _, nv', _, h5, ((HM3.out.trans hm4).fr nv).trans h6, HG4.out, rfl, rfl, by omega, by omega, rfl⟩⟩
        · have H3 : Hid (pk s (i + 3) ≠ (125 : Nat)) := hc
          have HF : Hid (Fails s (i + 3)) := by
            refine Fails.here HG3.out (by omega) (fun hlt => ?_) (fun _ => not_whole (by simp) (by simp))
            rw [pk_in hlt] at hc
            rw [brace_step (.inr rfl), if_neg (by omega), if_neg (by omega)]
          clear hc
          go_wp2_with fail
          refine (acceptN b s (i + 3) 125 _ HC3.out (by omega) H3.out).mono ?_
          rintro e w4 ⟨rfl, hm4⟩
          go_wp2_with fail
          go_ret2
          exact ⟨0, false, rfl, .fails HR.out (HM3.out.trans hm4) HF.out⟩
      · have H2 : Hid (¬ (i + 2 < s.size ∧ 48 + d ≤ byt s (i + 2) ∧ byt s (i + 2) ≤ 57)) := h2
        have HF : Hid (Fails s (i + 2)) := by
          refine Fails.here HG2.out (by omega) (fun hlt => ?_) (fun _ => not_whole (by simp) (by simp))
          rw [digit_step (.inr rfl), if_neg (by omega)]
        clear h2
        refine (digitN b s (i + 2) d _ HC2.out hd9 H2.out).mono ?_
        rintro e w3 ⟨rfl, hm3⟩
        go_wp2_with fail
        go_ret2
        exact ⟨0, false, rfl, .fails HR.out (HM2.out.trans hm3) HF.out⟩
    · have H44 : Hid (pk s (i + 1) ≠ (44 : Nat)) := h44
      by_cases hc : pk s (i + 1) = (125 : Nat)
      · have H3 : Hid (pk s (i + 1) = (125 : Nat)) := hc
        obtain ⟨hi3, hb3⟩ := pk_is hc
        have HG4 : Hid (run s (i + 2) = some ⟨2, o, g, d⟩) := by
          rw [Hid, run_succ HG1.out, brace_step (.inl rfl), hb3]; rfl
        clear hc hb3 h44
        go_wp2_with fail
        refine (acceptN b s (i + 1) 44 _ HC1.out (by omega) H44.out).mono ?_
        rintro e w2 ⟨rfl, hm2⟩
        go_wp2_with fail
        refine (acceptY b s (i + 1) 125 _ (hm2.rc HC1.out (by omega)) (by omega) H3.out).mono ?_
        rintro e w4 ⟨rfl, hm4⟩
        go_wp2_with fail
        refine (repeat_any b (i + 2) o g n s nv z _ _ _ ((HM1.out.trans (hm2.trans hm4)).rd HR.out (by omega)) hn).mono ?_
        rintro e w5 ⟨nv', rfl, h5, h6⟩
        go_wp2_with fail
        go_ret2
        exact ⟨_, true, rfl, .inl ⟨rfl, _, _, _, nv', _, h5, ((HM1.out.trans (hm2.trans hm4)).fr nv).trans h6, HG4.out, rfl, rfl, by omega, by omega, rfl⟩⟩
      · have H3 : Hid (pk s (i + 1) ≠ (125 : Nat)) := hc
        have HF : Hid (Fails s (i + 1)) := by
          refine Fails.here HG1.out (by omega) (fun hlt => ?_) (fun _ => not_whole (by simp) (by simp))
          rw [pk_in hlt] at hc h44
          rw [brace_step (.inl rfl), if_neg (by omega), if_neg (by omega)]
        clear hc h44
        go_wp2_with fail
        refine (acceptN b s (i + 1) 44 _ HC1.out (by omega) H44.out).mono ?_
        rintro e w2 ⟨rfl, hm2⟩
        go_wp2_with fail
        refine (acceptN b s (i + 1) 125 _ (hm2.rc HC1.out (by omega)) (by omega) H3.out).mono ?_
        rintro e w4 ⟨rfl, hm4⟩
        go_wp2_with fail
        go_ret2
        exact ⟨0, false, rfl, .fails HR.out (HM1.out.trans (hm2.trans hm4)) HF.out⟩
  · have H1 : Hid (¬ (i < s.size ∧ 48 + 0 ≤ byt s i ∧ byt s i ≤ 57)) := h1
    have HF : Hid (Fails s i) := by
      refine Fails.here HG.out hle (fun hlt => ?_) (fun _ => not_whole (by simp) (by simp))
      rw [digit_step (.inl rfl), if_neg (by omega)]
    clear h1
    go_enter Tryz.func189, Tryz.ntmps189
    go_wp2_with fail
    refine (digitN b s i 0 _ HC.out (by omega) H1.out).mono ?_
    rintro e w' ⟨rfl, hm⟩
    go_wp2_with fail
    go_ret2
    exact ⟨0, false, rfl, .fails HR.out hm HF.out⟩
end Go.Proofs.YtppjlpihaocdiaaGreatDoor

/- A part of the proof. -/
set_option linter.unusedSimpArgs false
set_option linter.unusedVariables false
namespace Go.Proofs.YtppjlpihaocdiaaGreatDoor
open Go.RowKit
theorem accept_any (b : Nat) (s : ByteArray) (i c : Nat) (w : World) (hr : Rc w b s i) (hc : c < 256) :
    Calls Tryz.prog 100 #[.pointer (some ⟨b, 0, none⟩), .int .u8 c] w fun e w' => ∃ (q : Bool) (j : Nat), e = .returned (.bool q) ∧ Mv b w w' j ∧ ((q = true ∧ pk s i = c ∧ j = i + 1) ∨ (q = false ∧ pk s i ≠ c ∧ j = i)) := by
  by_cases h : pk s i = c
  · refine (acceptY b s i c w hr hc h).mono ?_
    rintro e w' ⟨rfl, hm⟩
    exact ⟨true, _, rfl, hm, .inl ⟨rfl, h, rfl⟩⟩
  · refine (acceptN b s i c w hr hc h).mono ?_
    rintro e w' ⟨rfl, hm⟩
    exact ⟨false, _, rfl, hm, .inr ⟨rfl, h, rfl⟩⟩
def atOf (w : World) (b : Nat) : Nat := match w.cell? ⟨b, 1, none⟩ with | some (.int _ q) => q.toNat | _ => 0
theorem atOf_is {w : World} {b j : Nat} (h : w.cell? ⟨b, 1, none⟩ = some (.int .i64 j)) : atOf w b = j := by simp [atOf, h]
theorem Only.rd {N b i o g n : Nat} {s : ByteArray} {nv : Value} {w w' : World} (h : Only N w w') (hr : Rd w b s i o g nv n) (hN : N ≠ b) (hn : nv.ownBlock ≠ some N) : Rd w' b s i o g nv n := by
  obtain ⟨⟨r0, r1, rf, rle, r40⟩, c2, c3, c4, f2, f3, f4, xs, hown⟩ := hr
  have hx := h.block b (fun e => hN e.symm)
  have hc : ∀ k, w'.cell? ⟨b, k, none⟩ = w.cell? ⟨b, k, none⟩ := fun k => World.cell?_of_block (w := w) (w' := w') (a := ⟨b, k, none⟩) hx
  have hf : ∀ k, w'.frozen? ⟨b, k, none⟩ = w.frozen? ⟨b, k, none⟩ := fun k => World.frozen?_of_block (w := w) (w' := w') (a := ⟨b, k, none⟩) hx
  exact ⟨⟨(hc 0).trans r0, (hc 1).trans r1, (hf 1).trans rf, rle, r40⟩, (hc 2).trans c2, (hc 3).trans c3, (hc 4).trans c4, (hf 2).trans f2, (hf 3).trans f3, (hf 4).trans f4, xs,
    ownsRow_of_block hown fun k hk => h.block k (fun e => hn (by rw [hk, e]))⟩
theorem Fr.only {b N : Nat} {nv nv' : Value} {w0 w w' : World} (h : Fr b nv nv' w0 w) (ho : Only N w w') (hN : w0.heap.size ≤ N) : Fr b nv nv' w0 w' :=
  ⟨ho.os.trans h.os, ho.tape.trans h.tape, ho.output.trans h.output, by rw [ho.size]; exact h.size, fun k hk hb hn => (ho.block k (by omega)).trans (h.block k hk hb hn), h.lies⟩
theorem Four.only {N b : Nat} {y0 y1 y2 y3 : Int} {w w' : World} (h : Four w N y0 y1 y2 y3) (ho : Only b w w') (hne : N ≠ b) : Four w' N y0 y1 y2 y3 := by
  have hx := ho.block N hne
  have hc : ∀ k, w'.cell? ⟨N, k, none⟩ = w.cell? ⟨N, k, none⟩ := fun k => World.cell?_of_block (w := w) (w' := w') (a := ⟨N, k, none⟩) hx
  have hf : ∀ k, w'.frozen? ⟨N, k, none⟩ = w.frozen? ⟨N, k, none⟩ := fun k => World.frozen?_of_block (w := w) (w' := w') (a := ⟨N, k, none⟩) hx
  exact ⟨(hc 0).trans h.c0, (hc 1).trans h.c1, (hc 2).trans h.c2, (hc 3).trans h.c3, (hf 0).trans h.f0, (hf 1).trans h.f1, (hf 2).trans h.f2, (hf 3).trans h.f3⟩
theorem Four.below {N : Nat} {y0 y1 y2 y3 : Int} {w w' : World} (h : Four w N y0 y1 y2 y3) (ho : Below w.heap.size w w') : Four w' N y0 y1 y2 y3 := by
  have hx := ho.block N (World.block_lt_of_cell? w _ h.c0)
  have hc : ∀ k, w'.cell? ⟨N, k, none⟩ = w.cell? ⟨N, k, none⟩ := fun k => World.cell?_of_block (w := w) (w' := w') (a := ⟨N, k, none⟩) hx
  have hf : ∀ k, w'.frozen? ⟨N, k, none⟩ = w.frozen? ⟨N, k, none⟩ := fun k => World.frozen?_of_block (w := w) (w' := w') (a := ⟨N, k, none⟩) hx
  exact ⟨(hc 0).trans h.c0, (hc 1).trans h.c1, (hc 2).trans h.c2, (hc 3).trans h.c3, (hf 0).trans h.f0, (hf 1).trans h.f1, (hf 2).trans h.f2, (hf 3).trans h.f3⟩
theorem Four.store {N : Nat} {y0 y1 y2 y3 z0 z1 z2 z3 : Int} {w : World} (h : Four w N y0 y1 y2 y3) :
    Four ((((w.setCell ⟨N, 0, none⟩ (.int .u64 z0)).setCell ⟨N, 1, none⟩ (.int .u64 z1)).setCell ⟨N, 2, none⟩ (.int .u64 z2)).setCell ⟨N, 3, none⟩ (.int .u64 z3)) N z0 z1 z2 z3 ∧
    Only N w ((((w.setCell ⟨N, 0, none⟩ (.int .u64 z0)).setCell ⟨N, 1, none⟩ (.int .u64 z1)).setCell ⟨N, 2, none⟩ (.int .u64 z2)).setCell ⟨N, 3, none⟩ (.int .u64 z3)) := by
  obtain ⟨c0, c1, c2, c3, f0, f1, f2, f3⟩ := h
  exact ⟨by constructor <;> go_simp, ((((Only.refl _ _).setCell _ _).setCell _ _).setCell _ _).setCell _ _⟩
structure SetIn (w0 wr : World) (b N : Nat) (s : ByteArray) (i o g : Nat) (nv : Value) (n : Nat) (j : Nat) : Prop where
  rd : Rd wr b s j o g nv n
  fr : Fr b nv nv w0 wr
  four : ∃ y0 y1 y2 y3, Four wr N y0 y1 y2 y3
  st : ∃ st, run s j = some st ∧ st.o = o ∧ st.a = g ∧ InPre s j 0 st ∧ st.m ≠ 8
  lt : i < j
set_option maxHeartbeats 1000000 in
theorem set_any (b i o g n l : Nat) (s : ByteArray) (nv : Value) (w : World) (hr : Rd w b s i o g nv n) (hn : n ≤ 1000) (hi : i < s.size) (h : run s (i + 1) = some ⟨4, o, g, l⟩) :
    Calls Tryz.prog 221 #[.pointer (some ⟨b, 0, none⟩)] w fun e w' => ∃ (z : Int) (ok : Bool), e = .returned (.tuple #[.int .i64 z, .bool ok]) ∧ Post b s i o n nv w (fun _ st => st.m = 1) ok w' := by
  have HR : Hid (Rd w b s i o g nv n) := hr
  have HG : Hid (run s (i + 1) = some ⟨4, o, g, l⟩) := h
  obtain ⟨⟨r0, r1, rf, rle, r40⟩, c2, c3, c4, f2, f3, f4, own⟩ := hr
  have hb : b < w.heap.size := World.block_lt_of_cell? w _ r0
  have HN : Hid (∀ k, nv.ownBlock = some k → k < w.heap.size) := by
    obtain ⟨xs, ho⟩ := own
    exact fun k hk => (ho.lt k hk).2
  have HM : Hid (Mv b w (w.setCell ⟨b, 1, none⟩ (.int .i64 ((i : Int) + 1))) (i + 1)) := (Mv.stay r1).set (i + 1) (by omega)
  clear own h
  go_enter Tryz.func221, Tryz.ntmps221
  go_wp2_with fail
  refine (accept_any b s (i + 1) 94 _ (HM.out.rc HR.out.rc (by omega)) (by omega)).mono ?_
  rintro e w1 ⟨q, j, rfl, hm1, hq⟩
  have HJ : Hid (∃ st, run s j = some st ∧ st.o = o ∧ st.a = g ∧ InPre s j 0 st ∧ st.m ≠ 8) := by
    rcases hq with ⟨rfl, h1, rfl⟩ | ⟨rfl, h1, rfl⟩
    · obtain ⟨h2, h3⟩ := pk_is (c := 94) h1
      exact ⟨⟨5, o, g, l⟩, by rw [run_succ HG.out, step_set (by omega) (by omega), inSet4, h3]; rfl, rfl, rfl, .inr ⟨rfl, .inr (.inl rfl)⟩, by simp⟩
    · exact ⟨⟨4, o, g, l⟩, HG.out, rfl, rfl, .inr ⟨rfl, .inl ⟨rfl, h1⟩⟩, by simp⟩
  have hj : i < j ∧ j ≤ s.size := by
    rcases hq with ⟨rfl, h1, rfl⟩ | ⟨rfl, h1, rfl⟩
    · obtain ⟨h2, h3⟩ := pk_is (c := 94) h1
      omega
    · omega
  have HM1 : Hid (Mv b w w1 j) := HM.out.trans hm1
  have HR1 : Hid (Rd w1 b s j o g nv n) := HM1.out.rd HR.out hj.2
  have hz : w1.heap.size = w.heap.size := HM1.out.only.size
  have HZ : Hid (w1.heap.size = w.heap.size) := hz
  clear hq hm1 hz
  go_wp2_with fail
  go_loopw [] (fun wr => ∃ j, SetIn w wr b w1.heap.size s i o g nv n j) (fun wr => s.size - atOf wr b)
  case atStart =>
    have hB : Below w1.heap.size w1 (w1.alloc (.cells #[.int .u64 0, .int .u64 0, .int .u64 0, .int .u64 0] 149)) := (Below.refl _ _).alloc (Nat.le_refl _) _
    exact ⟨j, Below.rd hB HR1.out, (HM1.out.fr nv).trans (Below.fr hB nv), ⟨0, 0, 0, 0, by constructor <;> go_simp⟩, HJ.out, hj.1⟩
  case round =>
    obtain ⟨j, hS⟩ := hrel
    obtain ⟨rd, fr, ⟨y0, y1, y2, y3, four⟩, ⟨st, hst, hso, hsa, hI, h8⟩, hlt⟩ := hS
    have HRr : Hid (Rd wr b s j o g nv n) := rd
    have HFr : Hid (Fr b nv nv w wr) := fr
    have H4 : Hid (Four wr w1.heap.size y0 y1 y2 y3) := four
    have hN : b < w1.heap.size := by rw [HZ.out]; exact hb
    have hne : w1.heap.size ≠ b := by omega
    have HNN : Hid (nv.ownBlock ≠ some w1.heap.size) := fun e => by have := HN.out _ e; have := HZ.out; omega
    have hat := atOf_is rd.rc.c1
    have HAT : Hid (atOf wr b = j) := hat
    clear hat fr
    go_wp2_with fail
    refine (between_any b s j st _ rd.rc hst hI h8).mono ?_
    rintro e w2 ⟨lo, hi', ok, j2, rfl, hm2, hbd, hB⟩
    have HM2 : Hid (Mv b wr w2 j2) := hm2
    clear rd hst hI h8 four
    rcases hB with ⟨rfl, k1, k2, l', k3⟩ | ⟨rfl, hF⟩
    · obtain ⟨hlo, hhi⟩ := hbd rfl
      rw [hso, hsa] at k3
      have HK : Hid ((run s j2 = some ⟨6, o, g, l'⟩ ∧ pk s j2 ≠ 45) ∨ run s j2 = some ⟨7, o, g, l'⟩) := k3
      have HR2 : Hid (Rd w2 b s j2 o g nv n) := HM2.out.rd HRr.out k2
      have four2 := H4.out.only HM2.out.only hne
      have H42 : Hid (Four w2 w1.heap.size y0 y1 y2 y3) := four2
      obtain ⟨d0, d1, d2, d3, e0, e1, e2, e3⟩ := four2
      clear hbd hm2 k3
      go_wp2_with fail
      refine (with_any y0 y1 y2 y3 lo hi' _ hlo hhi).mono ?_
      rintro e w3 ⟨⟨z0, z1, z2, z3, rfl⟩, hB3⟩
      have HB3 : Hid (Below w2.heap.size w2 w3) := hB3
      have four3 := H42.out.below hB3
      have H43 : Hid (Four w3 w1.heap.size y0 y1 y2 y3) := four3
      clear hB3 d0 d1 d2 d3 e0 e1 e2 e3
      obtain ⟨d0, d1, d2, d3, e0, e1, e2, e3⟩ := four3
      have HS4 := Four.store (z0 := z0) (z1 := z1) (z2 := z2) (z3 := z3) H43.out
      have H44 := HS4.1
      have H4O := HS4.2
      clear HS4
      go_wp2_with fail
      generalize ((((w3.setCell ⟨w1.heap.size, 0, none⟩ (.int .u64 z0)).setCell ⟨w1.heap.size, 1, none⟩ (.int .u64 z1)).setCell ⟨w1.heap.size, 2, none⟩ (.int .u64 z2)).setCell ⟨w1.heap.size, 3, none⟩ (.int .u64 z3)) = w4 at H44 H4O
      clear d0 d1 d2 d3 e0 e1 e2 e3
      have HR4 : Hid (Rd w4 b s j2 o g nv n) := H4O.rd (Below.rd HB3.out HR2.out) hne HNN.out
      have HF4 : Hid (Fr b nv nv w w4) := ((HFr.out.trans (HM2.out.fr nv)).trans (Below.fr HB3.out nv)).only H4O (by rw [HZ.out]; exact Nat.le_refl _)
      have HH4 : Hid (Four w4 w1.heap.size z0 z1 z2 z3) := H44
      clear H44 H4O
      refine (accept_any b s j2 93 _ HR4.out.rc (by omega)).mono ?_
      rintro e w5 ⟨q5, j5, rfl, hm5, hq5⟩
      have HM5 : Hid (Mv b w4 w5 j5) := hm5
      clear hm5
      rcases hq5 with ⟨rfl, m1, m2⟩ | ⟨rfl, m1, m2⟩
      · obtain ⟨m3, m4⟩ := pk_is (c := 93) m1
        have HG5 : Hid (run s j5 = some ⟨1, o, g, l'⟩) := by
          rw [m2]
          rcases HK.out with ⟨x, _⟩ | x
          · rw [Hid, run_succ x, step_set (by omega) (by omega), inSet6, m4]; rfl
          · rw [Hid, run_succ x, step_set (by omega) (by omega), inSet7, m4]; rfl
        have hj5 : j5 ≤ s.size := by omega
        have HR5 : Hid (Rd w5 b s j5 o g nv n) := HM5.out.rd HR4.out hj5
        have HF5 : Hid (Fr b nv nv w w5) := HF4.out.trans (HM5.out.fr nv)
        have four5 := HH4.out.only HM5.out.only hne
        have H45 : Hid (Four w5 w1.heap.size z0 z1 z2 z3) := four5
        obtain ⟨d0, d1, d2, d3, e0, e1, e2, e3⟩ := four5
        rcases bool_or q with hqq | hqq
        · subst hqq
          go_wp2_with fail
          refine (others_any z0 z1 z2 z3 _).mono ?_
          rintro e w6 ⟨⟨x0, x1, x2, x3, rfl⟩, hB6⟩
          have HB6 : Hid (Below w5.heap.size w5 w6) := hB6
          have four6 := H45.out.below hB6
          have H46 : Hid (Four w6 w1.heap.size z0 z1 z2 z3) := four6
          clear hB6 d0 d1 d2 d3 e0 e1 e2 e3
          obtain ⟨d0, d1, d2, d3, e0, e1, e2, e3⟩ := four6
          have HS4 := Four.store (z0 := x0) (z1 := x1) (z2 := x2) (z3 := x3) H46.out
          have H44 : Hid _ := HS4.1
          have H4O : Hid _ := HS4.2
          clear HS4
          go_wp2_with fail
          have HR7 := H4O.out.rd (Below.rd HB6.out HR5.out) hne HNN.out
          have HF7 := (HF5.out.trans (Below.fr HB6.out nv)).only H4O.out (by rw [HZ.out]; exact Nat.le_refl _)
          refine (add_any b j5 o g n s nv _ HR7 hn 2 0 0 0 x0 x1 x2 x3 _ _ _).mono ?_
          rintro e w8 ⟨nv', rfl, p1, p2⟩
          go_wp2_with fail
          go_ret2
          exact ⟨_, true, rfl, .inl ⟨rfl, _, _, _, nv', _, p1, HF7.trans p2, HG5.out, rfl, rfl, by omega, by omega, rfl⟩⟩
        · subst hqq
          go_wp2_with fail
          refine (add_any b j5 o g n s nv _ HR5.out hn 2 0 0 0 z0 z1 z2 z3 _ _ _).mono ?_
          rintro e w8 ⟨nv', rfl, p1, p2⟩
          go_wp2_with fail
          go_ret2
          exact ⟨_, true, rfl, .inl ⟨rfl, _, _, _, nv', _, p1, HF5.out.trans p2, HG5.out, rfl, rfl, by omega, by omega, rfl⟩⟩
      · have HJ5 : Hid (∃ st, run s j5 = some st ∧ st.o = o ∧ st.a = g ∧ InPre s j5 0 st ∧ st.m ≠ 8) := by
          rw [m2]
          rcases HK.out with ⟨x, x'⟩ | x
          · exact ⟨_, x, rfl, rfl, .inr ⟨rfl, .inr (.inr (.inl ⟨rfl, m1, x'⟩))⟩, by simp⟩
          · exact ⟨_, x, rfl, rfl, .inr ⟨rfl, .inr (.inr (.inr ⟨rfl, m1⟩))⟩, by simp⟩
        have HR5 : Hid (Rd w5 b s j5 o g nv n) := HM5.out.rd HR4.out (by omega)
        go_wp2_with fail
        go_roundw
        case rel => exact ⟨j5, HR5.out, HF4.out.trans (HM5.out.fr nv), ⟨_, _, _, _, HH4.out.only HM5.out.only hne⟩, HJ5.out, by omega⟩
        case measure =>
          have a1 := atOf_is HR5.out.rc.c1
          have a2 := HAT.out
          rw [a1, a2]
          omega
    · have HF : Hid (Fails s j2) := hF
      have hF2 := HM2.out.fr nv
      have HBW : Hid (Below b w w2) := (HFr.out.trans hF2).below HR.out
      have HC1 : Hid (w2.cell? ⟨b, 1, none⟩ = some (.int .i64 j2)) := hm2.c1
      clear hF hbd hm2 hF2
      go_wp2_with fail
      go_ret2
      exact ⟨0, false, rfl, .inr ⟨rfl, j2, HF.out, HC1.out, HBW.out⟩⟩
end Go.Proofs.YtppjlpihaocdiaaGreatDoor

/- A part of the proof. -/
set_option linter.unusedSimpArgs false
set_option linter.unusedVariables false
namespace Go.Proofs.YtppjlpihaocdiaaGreatDoor
namespace Rs
open Go.RowKit
theorem nextIsIn_any (b : Nat) (s t : ByteArray) (i : Nat) (w : World) (hr : Rc w b s i) :
    Calls Tryz.prog 161 #[.pointer (some ⟨b, 0, none⟩), .string t] w fun e w' => e = .returned (.bool (nxt s t i)) ∧ ∃ n, w' = w.drewN n := by
  by_cases hi : i < s.size
  · refine (nextIsIn_in b s t i w hr hi).mono ?_
    rintro e w' ⟨rfl, n, rfl⟩
    exact ⟨ret_bool (by simp [nxt, hi]), n, rfl⟩
  · refine (nextIsIn_out b s t i w hr hi).mono ?_
    rintro e w' ⟨rfl, n, rfl⟩
    exact ⟨ret_bool (by simp [nxt, hi]), n, rfl⟩
theorem nxt_lt {s t : ByteArray} {i : Nat} (h : nxt s t i = true) : i < s.size := by
  simp [nxt] at h; exact h.1
theorem skipF_le (s t : ByteArray) : ∀ (f i : Nat), i ≤ s.size → skipF s t f i ≤ s.size ∧ i ≤ skipF s t f i
  | 0, i, h => ⟨h, Nat.le_refl _⟩
  | f + 1, i, h => by
    unfold skipF
    split
    · rename_i h1
      have := nxt_lt h1
      have := skipF_le s t f (i + 1) (by omega)
      omega
    · omega
theorem skip_le (s t : ByteArray) (i : Nat) (h : i ≤ s.size) : skip s t i ≤ s.size := (skipF_le s t _ i h).1
theorem le_skip (s t : ByteArray) (i : Nat) (h : i ≤ s.size) : i ≤ skip s t i := (skipF_le s t _ i h).2
set_option maxHeartbeats 1000000 in
theorem skip_any (b : Nat) (s t : ByteArray) (i : Nat) (w : World) (hr : Rc w b s i) :
    Calls Tryz.prog 109 #[.pointer (some ⟨b, 0, none⟩), .string t] w fun e w' => e = .returned (.tuple #[]) ∧ Mv b w w' (skip s t i) := by
  have HR : Hid (Rc w b s i) := hr
  have h40 := hr.s40
  clear hr
  go_enter Tryz.func109, Tryz.ntmps109
  go_wp2_with fail
  go_loopw [] (fun wr => ∃ j f, Mv b w wr j ∧ j ≤ s.size ∧ Hid (skip s t i = skipF s t f j) ∧ s.size - j ≤ f) (fun wr => s.size - atOf wr b)
  case atStart => exact ⟨i, s.size - i, HR.out.stay, HR.out.le, rfl, Nat.le_refl _⟩
  case round =>
    obtain ⟨j, f, hM, hj, HF, hf⟩ := hrel
    have HM : Hid (Mv b w wr j) := hM
    have HRj : Hid (Rc wr b s j) := hM.rc HR.out hj
    have HAT : Hid (atOf wr b = j) := atOf_is hM.c1
    clear hM
    go_wp2_with fail
    refine (nextIsIn_any b s t j _ HRj.out).mono ?_
    rcases bool_or (nxt s t j) with hn | hn
    · rw [hn]
      rintro e w1 ⟨rfl, n, rfl⟩
      have hlt := nxt_lt hn
      obtain ⟨ht, ha, hf1, hle, hs⟩ := HRj.out.drewN n
      have HF2 : Hid (skip s t i = skipF s t (f - 1) (j + 1)) := by
        rw [Hid, HF.out]
        conv => lhs; rw [show f = (f - 1) + 1 by omega, skipF]
        rw [if_pos hn]
      clear hn
      go_wp2_with fail
      go_roundw
      case rel => exact ⟨j + 1, f - 1, (HM.out.drewN n).set (j + 1) (by omega), by omega, HF2.out, by omega⟩
      case measure =>
        have a1 := atOf_is ((HM.out.drewN n).set (v := (j : Int) + 1) (j + 1) (by omega)).c1
        have a2 := HAT.out
        rw [a1, a2]
        omega
    · rw [hn]
      rintro e w1 ⟨rfl, n, rfl⟩
      have HF2 : Hid (skip s t i = j) := by
        rw [Hid, HF.out]
        cases f with
        | zero => rfl
        | succ f => rw [skipF, hn]; rfl
      clear hn
      go_wp2_with fail
      exact bodyPost_end (v := .tuple #[]) (by simp [results, Tryz.results109, go_sem]) rfl ⟨rfl, by rw [HF2.out]; exact HM.out.drewN n⟩
end Rs
end Go.Proofs.YtppjlpihaocdiaaGreatDoor

/- A part of the proof. -/
set_option linter.unusedSimpArgs false
set_option linter.unusedVariables false
namespace Go.Proofs.YtppjlpihaocdiaaGreatDoor
namespace Rs
open Go.RowKit
set_option maxHeartbeats 400000 in
theorem closes_any (b : Nat) (s : ByteArray) (i o : Nat) (w : World) (hr : Rc w b s i) (h2 : w.cell? ⟨b, 2, none⟩ = some (.int .i64 (o : Int))) :
    Calls Tryz.prog 111 #[.pointer (some ⟨b, 0, none⟩)] w fun e w' => e = .returned (.bool (decide (0 < o) && decide (pk s i = 125))) ∧ ∃ n, w' = w.drewN n := by
  have HR : Hid (Rc w b s i) := hr
  clear hr
  by_cases ho : 0 < o
  · generalize hx : pk s i = x
    have HI : Hid (pk s i = x) := hx
    clear hx
    go_enter Tryz.func111, Tryz.ntmps111
    go_wp2_with (go_at_call 110; refine (peek_any b s i _ HR.out).mono ?_; rw [HI.out]; rintro e w' ⟨rfl, n, rfl⟩)
    go_ret
    refine ⟨ret_bool ?_, _, rfl⟩
    simp [ho]
    rfl
  · obtain rfl : o = 0 := by omega
    clear ho
    go_enter Tryz.func111, Tryz.ntmps111
    go_wp2_with fail
    go_ret
    exact ⟨ret_bool (by simp), 0, rfl⟩
def partedF (s : ByteArray) (i o : Nat) : Bool := decide (pk s i = -1) || nxt s parts i || (decide (0 < o) && decide (pk s i = 125))
set_option maxHeartbeats 1000000 in
theorem parted_any (b : Nat) (s : ByteArray) (i o : Nat) (w : World) (hr : Rc w b s i) (h2 : w.cell? ⟨b, 2, none⟩ = some (.int .i64 (o : Int))) :
    Calls Tryz.prog 113 #[.pointer (some ⟨b, 0, none⟩)] w fun e w' => e = .returned (.bool (partedF s (skip s blank i) o)) ∧ Mv b w w' (skip s blank i) := by
  have HR : Hid (Rc w b s i) := hr
  have H2 : Hid (w.cell? ⟨b, 2, none⟩ = some (.int .i64 (o : Int))) := h2
  clear hr h2
  generalize hJ : skip s blank i = j
  have HJ : Hid (skip s blank i = j) := hJ
  have hjs : j ≤ s.size := hJ ▸ skip_le s blank i HR.out.le
  clear hJ
  go_enter Tryz.func113, Tryz.ntmps113
  go_wp2_with fail
  refine (skip_any b s blank i _ HR.out).mono ?_
  rw [HJ.out]
  rintro e w1 ⟨rfl, hm⟩
  have HM : Hid (Mv b w w1 j) := hm
  have HR1 : Hid (Rc w1 b s j) := hm.rc HR.out hjs
  have H21 : Hid (w1.cell? ⟨b, 2, none⟩ = some (.int .i64 (o : Int))) := (hm.cell 2 (by omega)).trans H2.out
  clear hm
  by_cases h1 : pk s j = -1
  · have HI : Hid (pk s j = -1) := h1
    have HQ : Hid (partedF s j o = true) := by simp [Hid, partedF, h1]
    clear h1
    go_wp2_with (go_at_call 110; refine (peek_any b s j _ HR1.out).mono ?_; rw [HI.out]; rintro e w' ⟨rfl, n, rfl⟩)
    go_ret
    exact ⟨ret_bool HQ.out.symm, HM.out.drewN _⟩
  · have hb : (pk s j == -1) = false := by simpa using h1
    rcases bool_or (nxt s parts j) with hn | hn
    · have HQ : Hid (partedF s j o = true) := by simp [Hid, partedF, hn]
      generalize hx : pk s j = x at hb
      have HI : Hid (pk s j = x) := hx
      have HN : Hid (nxt s parts j = true) := hn
      clear hn hx h1
      go_wp2_with (first | (go_at_call 110; refine (peek_any b s j _ HR1.out).mono ?_; rw [HI.out]; rintro e w' ⟨rfl, n, rfl⟩) | (go_at_call 161; refine (nextIsIn_any b s parts j _ (HR1.out.drewN _)).mono ?_; rw [HN.out]; rintro e w' ⟨rfl, n2, rfl⟩))
      go_ret
      exact ⟨ret_bool HQ.out.symm, HM.out.drewN _⟩
    · have HQ : Hid (partedF s j o = (decide (0 < o) && decide (pk s j = 125))) := by simp [Hid, partedF, hn, h1]
      generalize hx : pk s j = x at hb HQ
      have HI : Hid (pk s j = x) := hx
      have HN : Hid (nxt s parts j = false) := hn
      clear hn hx h1
      go_wp2_with (first | (go_at_call 110; refine (peek_any b s j _ HR1.out).mono ?_; rw [HI.out]; rintro e w' ⟨rfl, n, rfl⟩) | (go_at_call 161; refine (nextIsIn_any b s parts j _ (HR1.out.drewN _)).mono ?_; rw [HN.out]; rintro e w' ⟨rfl, n2, rfl⟩) | (go_at_call 111; refine (closes_any b s j o _ (HR1.out.drewN _) H21.out).mono ?_; rw [HI.out]; rintro e w' ⟨rfl, n3, rfl⟩))
      go_ret
      exact ⟨ret_bool HQ.out.symm, HM.out.drewN _⟩
theorem dig_nxt {s : ByteArray} {i : Nat} (h : nxt s digits i = true) : i < s.size ∧ 48 ≤ byt s i ∧ byt s i ≤ 57 := by
  simp [nxt] at h
  refine ⟨h.1, ?_⟩
  have h2 := h.2
  simp [inB, digits] at h2
  omega
theorem numF_le (s : ByteArray) : ∀ (l i n : Nat), i ≤ s.size → (numF s l i n).1 ≤ s.size ∧ i ≤ (numF s l i n).1
  | 0, i, n, h => ⟨h, Nat.le_refl _⟩
  | l + 1, i, n, h => by
    unfold numF
    split
    · rename_i h1
      have := nxt_lt h1
      split
      · exact ⟨h, Nat.le_refl _⟩
      · have := numF_le s l (i + 1) (10 * n + (byt s i - 48)) (by omega)
        omega
    · exact ⟨h, Nat.le_refl _⟩
set_option maxHeartbeats 1000000 in
theorem number_any (b : Nat) (s : ByteArray) (i : Nat) (w : World) (hr : Rc w b s i) :
    Calls Tryz.prog 227 #[.pointer (some ⟨b, 0, none⟩)] w fun e w' => e = .returned (.tuple #[.int .i64 ((numF s 4 i 0).2.1 : Nat), .bool (numF s 4 i 0).2.2]) ∧ Mv b w w' (numF s 4 i 0).1 := by
  have HR : Hid (Rc w b s i) := hr
  have h40 := hr.s40
  clear hr
  generalize hF : numF s 4 i 0 = F
  have HF0 : Hid (numF s 4 i 0 = F) := hF
  clear hF
  go_enter Tryz.func227, Tryz.ntmps227
  go_wp2_with fail
  go_loopw [4, 5] (fun v4 v5 wr => ∃ (j n l : Nat), v4 = .int .i64 (n : Int) ∧ v5 = .int .i64 (l : Int) ∧ l ≤ 4 ∧ Mv b w wr j ∧ j ≤ s.size ∧ Hid (F = numF s l j n) ∧ n * 10 ^ l < 10000) (fun _ v _ => (intOf v).toNat)
  case atStart => exact ⟨i, 0, 4, rfl, rfl, by omega, HR.out.stay, HR.out.le, HF0.out.symm, by decide⟩
  case round =>
    obtain ⟨j, n, l, rfl, rfl, hl, hM, hj, HF, hn10⟩ := hrel
    have HM : Hid (Mv b w wr j) := hM
    have HRj : Hid (Rc wr b s j) := hM.rc HR.out hj
    clear hM
    have h10 : n < 10000 := by
      have : 1 ≤ 10 ^ l := Nat.one_le_pow _ _ (by omega)
      have := Nat.le_mul_of_pos_right n this
      omega
    by_cases hl0 : l = 0
    · subst hl0
      have HF2 : Hid (F = (j, n, decide (0 < n))) := HF.out
      go_wp2_with fail
      go_ret2
      rw [HF2.out]
      refine ⟨?_, HM.out⟩
      simp
    · obtain ⟨l, rfl⟩ : ∃ l', l = l' + 1 := ⟨l - 1, by omega⟩
      clear hl0
      rcases bool_or (nxt s digits j) with hn | hn
      · obtain ⟨hlt, hd1, hd2⟩ := dig_nxt hn
        have HN : Hid (nxt s digits j = true) := hn
        have HP : Hid (pk s j = (byt s j : Int)) := pk_in hlt
        have HB : Hid (∃ y, byt s j = y) := ⟨_, rfl⟩
        obtain ⟨y, hy⟩ := HB.out
        have HY : Hid (byt s j = y) := hy
        rw [hy] at hd1 hd2
        have hn2 : n * 10 ^ l * 10 < 10000 := by rw [Nat.mul_assoc, ← Nat.pow_succ]; exact hn10
        have h100 : n < 1000 := by
          have : 1 ≤ 10 ^ l := Nat.one_le_pow _ _ (by omega)
          have := Nat.le_mul_of_pos_right n this
          omega
        have HF2 : Hid (F = if l = 0 ∧ 10 * n + (y - 48) = 0 then (j, 0, false) else numF s l (j + 1) (10 * n + (y - 48))) := by
          rw [Hid, HF.out, numF, if_pos hn, hy]
        clear hn hy HB
        by_cases hz : l = 0 ∧ 10 * n + (y - 48) = 0
        · obtain ⟨rfl, hz2⟩ := hz
          obtain rfl : n = 0 := by omega
          obtain rfl : y = 48 := by omega
          go_wp2_with (first | (go_at_call 161; refine (nextIsIn_any b s digits j _ HRj.out).mono ?_; rw [HN.out]; rintro e w' ⟨rfl, n1, rfl⟩) | (go_at_call 110; refine (peek_any b s j _ (HRj.out.drewN _)).mono ?_; rw [HP.out, HY.out]; rintro e w' ⟨rfl, n2, rfl⟩))
          go_ret2
          rw [HF2.out, if_pos ⟨trivial, trivial⟩]
          exact ⟨rfl, HM.out.drewN _⟩
        · have HZ : Hid (F = numF s l (j + 1) (10 * n + (y - 48))) := by rw [Hid, HF2.out, if_neg hz]
          have HC : Hid (∀ n1 n2, (wr.drewN n1 |>.drewN n2).cell? ⟨b, 1, none⟩ = some (.int .i64 (j : Int)) ∧ (wr.drewN n1 |>.drewN n2).frozen? ⟨b, 1, none⟩ = false) := fun n1 n2 => ⟨HRj.out.c1, HRj.out.f1⟩
          obtain ⟨ht, ha, hf1, hle, hs⟩ := HRj.out
          by_cases hl1 : l = 0
          · subst hl1
            have hz2 : (10 * (n : Int) + (y : Int) - 48 == 0) = false := by simp; omega
            go_wp2_with (first | (go_at_call 161; refine (nextIsIn_any b s digits j _ HRj.out).mono ?_; rw [HN.out]; rintro e w' ⟨rfl, n1, rfl⟩) | (go_at_call 110; refine (peek_any b s j _ (HRj.out.drewN _)).mono ?_; rw [HP.out, HY.out]; rintro e w' ⟨rfl, n2, rfl⟩))
            go_roundw
            case rel => exact ⟨j + 1, 10 * n + (y - 48), 0, by congr 1; omega, rfl, by omega, (HM.out.drewN _).set (j + 1) (by omega), by omega, HZ.out, by simp; omega⟩
            case measure => simp [intOf]
          · have hl2 : (((l : Int) + 1) == 1) = false := by simp; omega
            go_wp2_with (first | (go_at_call 161; refine (nextIsIn_any b s digits j _ HRj.out).mono ?_; rw [HN.out]; rintro e w' ⟨rfl, n1, rfl⟩) | (go_at_call 110; refine (peek_any b s j _ (HRj.out.drewN _)).mono ?_; rw [HP.out, HY.out]; rintro e w' ⟨rfl, n2, rfl⟩))
            go_roundw
            case rel =>
              refine ⟨j + 1, 10 * n + (y - 48), l, by congr 1; omega, rfl, by omega, (HM.out.drewN _).set (j + 1) (by omega), by omega, HZ.out, ?_⟩
              have hm : (10 * n + (y - 48)) * 10 ^ l ≤ (10 * n + 9) * 10 ^ l := Nat.mul_le_mul_right _ (by omega)
              have : l ≤ 3 := by omega
              have hc : l = 1 ∨ l = 2 ∨ l = 3 := by omega
              rcases hc with rfl | rfl | rfl
              · rw [show (10 : Nat) ^ 1 = 10 from rfl] at *; omega
              · rw [show (10 : Nat) ^ 2 = 100 from rfl] at *; omega
              · have e3 : (10 : Nat) ^ 3 = 1000 := by decide
                clear hm hn10
                rw [e3] at hn2 ⊢
                have e0 : n = 0 := by omega
                subst e0
                have e9 : y - 48 ≤ 9 := by omega
                generalize y - 48 = z at e9
                clear hn2
                omega
            case measure => simp [intOf]
      · have HN : Hid (nxt s digits j = false) := hn
        have HF2 : Hid (F = (j, n, decide (0 < n))) := by
          rw [Hid, HF.out, numF, hn]; rfl
        clear hn
        go_wp2_with (first | (go_at_call 161; refine (nextIsIn_any b s digits j _ HRj.out).mono ?_; rw [HN.out]; rintro e w' ⟨rfl, n1, rfl⟩))
        go_ret2
        rw [HF2.out]
        refine ⟨?_, HM.out.drewN _⟩
        simp
theorem extract_all (t : ByteArray) : t.extract 0 t.size = t := by
  apply ByteArray.ext
  simp [ByteArray.extract, ByteArray.copySlice]
theorem slashF_le (t : ByteArray) : ∀ (f k : Nat), slashF t f k ≤ t.size
  | 0, k => Nat.le_refl _
  | f + 1, k => by
    unfold slashF
    split
    · split
      · omega
      · split
        · exact slashF_le t f _
        · exact slashF_le t f _
    · exact Nat.le_refl _
set_option maxHeartbeats 1000000 in
theorem upTo_any (t : ByteArray) (w : World) (ht : t.size ≤ 400) :
    Calls Tryz.prog 240 #[.string t] w fun e w' => e = .returned (.string (t.extract 0 (slash t 0))) ∧ ∃ n, w' = w.drewN n := by
  generalize hF : slash t 0 = F
  have HF0 : Hid (slashF t (t.size + 1) 0 = F) := hF
  clear hF
  go_enter Tryz.func240, Tryz.ntmps240
  go_wp2_with fail
  go_loopw [3] (fun v wr => ∃ (k f : Nat), v = .int .i64 (k : Int) ∧ k ≤ t.size + 1 ∧ t.size + 1 ≤ f + k ∧ Hid (F = slashF t f k) ∧ ∃ n, wr = w.drewN n) (fun v _ => t.size + 1 - (intOf v).toNat)
  case atStart => exact ⟨0, t.size + 1, rfl, by omega, by omega, HF0.out.symm, 0, rfl⟩
  case round =>
    obtain ⟨k, f, rfl, hk, hf, HF, n, rfl⟩ := hrel
    by_cases hlt : k < t.size
    · have k1 : (0 : Int) ≤ (k : Int) := by omega
      have k2 : (k : Int) < (t.size : Int) := by omega
      have HB : Hid ((t[k]).toNat = byt t k) := byt_eq t k hlt
      have HF2 : Hid (F = if byt t k = 47 then k else if byt t k = 92 then slashF t (f - 1) (k + 2) else slashF t (f - 1) (k + 1)) := by
        rw [Hid, HF.out]
        conv => lhs; rw [show f = (f - 1) + 1 by omega, slashF]
        rw [if_pos hlt]
      have hy : ((t[k]).toNat : Int) = (byt t k : Int) := byt_int t k hlt
      generalize byt t k = y at HF2 hy
      clear HB
      by_cases h47 : y = 47
      · subst h47
        have HF3 : Hid (F = k) := by rw [Hid, HF2.out, if_pos rfl]
        have q1 : (((t[k]).toNat : Int) == 47) = true := by rw [hy]; rfl
        go_wp2_with fail
        go_ret
        rw [HF3.out]
        exact ⟨rfl, _, rfl⟩
      · have q1 : (((t[k]).toNat : Int) == 47) = false := by rw [hy]; simp; omega
        by_cases h92 : y = 92
        · subst h92
          have HF3 : Hid (F = slashF t (f - 1) (k + 2)) := by rw [Hid, HF2.out, if_neg h47, if_pos rfl]
          have q2 : (((t[k]).toNat : Int) == 92) = true := by rw [hy]; rfl
          go_wp2_with fail
          go_roundw
          case rel => exact ⟨k + 2, f - 1, by congr 1, by omega, by omega, HF3.out, _, rfl⟩
          case measure => simp [intOf]; omega
        · have q2 : (((t[k]).toNat : Int) == 92) = false := by rw [hy]; simp; omega
          have HF3 : Hid (F = slashF t (f - 1) (k + 1)) := by rw [Hid, HF2.out, if_neg h47, if_neg h92]
          go_wp2_with fail
          go_roundw
          case rel => exact ⟨k + 1, f - 1, rfl, by omega, by omega, HF3.out, _, rfl⟩
          case measure => simp [intOf]; omega
    · have HF3 : Hid (F = t.size) := by
        rw [Hid, HF.out]
        cases f with
        | zero => rfl
        | succ f => rw [slashF, if_neg hlt]
      go_wp2_with fail
      go_ret
      rw [HF3.out, extract_all]
      exact ⟨rfl, _, rfl⟩
end Rs
end Go.Proofs.YtppjlpihaocdiaaGreatDoor

