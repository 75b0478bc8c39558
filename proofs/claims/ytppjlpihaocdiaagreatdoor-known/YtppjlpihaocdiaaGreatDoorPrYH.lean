/- Several texts in one. -/
import Derived.Test.YtppjlpihaocdiaaGreatDoorPrVH
import Derived.Laws.OwnMore
import Derived.Deep.DeepCutAuto
import Derived.Test.YtppjlpihaocdiaaGreatDoorPrUH
/- A part of the proof. -/
set_option linter.unusedSimpArgs false
set_option linter.unusedVariables false
namespace Go.Proofs.YtppjlpihaocdiaaGreatDoor
namespace Rs
open Go.RowKit
def RPost (d b : Nat) (s : ByteArray) (p : RSt) (cv lv : Value) (w : World) (r : RSt × Bool) : Ending → World → Prop := fun e w' =>
  (r.2 = true ∧ e = .returned (.bool true) ∧ (∃ cv' lv', Rk w' b s r.1 cv' lv' ∧ Fq b cv cv' lv lv' w w') ∧ r.1.op = p.op ∧ r.1.cmds.length ≤ r.1.at' ∧ r.1.labs.length ≤ r.1.at' ∧ p.at' + d ≤ r.1.at' ∧ p.cmds.length ≤ r.1.cmds.length) ∨
  (r.2 = false ∧ e = .returned (.bool false) ∧ Rc w' b s r.1.at' ∧ Below b w w')
def RowAt (N : Nat) : Prop := ∀ (b : Nat) (s : ByteArray) (p : RSt) (cv lv : Value) (w : World), Rk w b s p cv lv → p.cmds.length ≤ p.at' → p.labs.length ≤ p.at' → p.op ≤ 5 → 6 ≤ p.op + N →
  Calls Tryz.prog 69 #[.pointer (some ⟨b, 0, none⟩)] w (RPost 0 b s p cv lv w (rowN s N p))
theorem Rk.setOp {w : World} {b : Nat} {s : ByteArray} {p : RSt} {cv lv : Value} (h : Rk w b s p cv lv) {v : Int} (o : Nat) (hv : v = o) : Rk (w.setCell ⟨b, 2, none⟩ (.int .i64 v)) b s { p with op := o } cv lv := by
  subst hv
  obtain ⟨⟨⟨r0, r1, rf, rle, r40⟩, c5, f5⟩, c2, c3, c4, f2, f3, f4, ⟨xs, own, cms⟩, lab, apart⟩ := h
  have hc : ∀ k, k ≠ 2 → (w.setCell ⟨b, 2, none⟩ (.int .i64 (o : Int))).cell? ⟨b, k, none⟩ = w.cell? ⟨b, k, none⟩ := fun k hk => World.cell?_setCell_other (h := ad_ne (.inr (Ne.symm hk))) ..
  have hf : ∀ k, (w.setCell ⟨b, 2, none⟩ (.int .i64 (o : Int))).frozen? ⟨b, k, none⟩ = w.frozen? ⟨b, k, none⟩ := fun k => World.frozen?_setCell ..
  have hB : ∀ k, k ≠ b → (w.setCell ⟨b, 2, none⟩ (.int .i64 (o : Int))).heap[k]? = w.heap[k]? := fun k hk => Below.heap_setCell _ _ _ _ hk
  refine ⟨⟨⟨(hc 0 (by omega)).trans r0, (hc 1 (by omega)).trans r1, (hf 1).trans rf, rle, r40⟩, (hc 5 (by omega)).trans c5, (hf 5).trans f5⟩, World.cell?_setCell_same _ _ _ c2, (hc 3 (by omega)).trans c3, (hc 4 (by omega)).trans c4, (hf 2).trans f2, (hf 3).trans f3, (hf 4).trans f4, ⟨xs, own_of own fun k hk => hB k (by have := (own.lt k hk).1; omega), fun k x hx' => ?_⟩, own_of lab fun k hk => hB k (by have := (lab.lt k hk).1; omega), apart⟩
  obtain ⟨lo, hi, q, a1, a2, a3, a4, a5, a6⟩ := cms k x hx'
  exact ⟨lo, hi, q, a1, by rw [size_set]; exact a2, a3, a4, a5.keep ⟨fun i h1 h2 => hB i (by omega), by rw [size_set]; exact a2⟩, a6⟩
theorem Fq.set {b k : Nat} {cv cv' lv lv' : Value} {w w' : World} (h : Fq b cv cv' lv lv' w w') (v : Value) : Fq b cv cv' lv lv' w (w'.setCell ⟨b, k, none⟩ v) :=
  ⟨h.os, h.tape, h.output, by rw [size_set]; exact h.size, fun i hi hb h1 h2 => by rw [Below.heap_setCell _ _ _ _ hb]; exact h.block i hi hb h1 h2, h.cl, h.ll⟩
theorem setGoal_length (l : List Cm) (k g : Nat) : (setGoal l k g).length = l.length := by
  unfold setGoal
  split
  · simp
  · rfl
theorem setGoal_at (l : List Cm) (k g : Nat) {x : Cm} (hx : l[k]? = some x) (j : Nat) (y : Cm) (h : (setGoal l k g)[j]? = some y) : (j = k ∧ y = { x with goal := g }) ∨ (j ≠ k ∧ l[j]? = some y) := by
  unfold setGoal at h
  rw [hx] at h
  simp only at h
  rw [List.getElem?_set] at h
  by_cases e : k = j
  · subst e
    have hk := (List.getElem?_eq_some_iff.1 hx).1
    simp [hk] at h
    exact .inl ⟨rfl, h.symm⟩
  · rw [if_neg e] at h
    exact .inr ⟨Ne.symm e, h⟩
theorem Rk.goal {w : World} {b gg n cap k g : Nat} {s : ByteArray} {p : RSt} {lv : Value} (h : Rk w b s p (.slice (some ⟨gg, 0, none⟩) n cap) lv) (hk : k < p.cmds.length) {v : Int} (hv : v = g) :
    Rk (w.setCell ⟨gg, k * 23 + 12, none⟩ (.int .i64 v)) b s { p with cmds := setGoal p.cmds k g } (.slice (some ⟨gg, 0, none⟩) n cap) lv := by
  subst hv
  obtain ⟨⟨⟨r0, r1, rf, rle, r40⟩, c5, f5⟩, c2, c3, c4, f2, f3, f4, ⟨xs, own, cms⟩, lab, apart⟩ := h
  have hgb := (own.lt gg rfl).1
  have hne : gg ≠ b := by omega
  have hn : n = p.cmds.length := by
    rcases own.2 with ⟨e, _⟩ | ⟨_, _, _, e, _⟩
    · cases e
    · cases e; rfl
  subst hn
  have hc : ∀ q, (w.setCell ⟨gg, k * 23 + 12, none⟩ (.int .i64 (g : Int))).cell? ⟨b, q, none⟩ = w.cell? ⟨b, q, none⟩ := fun q => World.cell?_setCell_other (h := ad_ne (.inl hne)) ..
  have hf : ∀ q, (w.setCell ⟨gg, k * 23 + 12, none⟩ (.int .i64 (g : Int))).frozen? ⟨b, q, none⟩ = w.frozen? ⟨b, q, none⟩ := fun q => World.frozen?_setCell ..
  have hB : ∀ q, q ≠ gg → (w.setCell ⟨gg, k * 23 + 12, none⟩ (.int .i64 (g : Int))).heap[q]? = w.heap[q]? := fun q hq => Below.heap_setCell _ _ _ _ hq
  obtain ⟨x, hx⟩ : ∃ x, p.cmds[k]? = some x := ⟨_, List.getElem?_eq_getElem hk⟩
  have hst := (own.stored (k * 23 + 12) (.int .i64 (g : Int))).1
  refine ⟨⟨⟨(hc 0).trans r0, (hc 1).trans r1, (hf 1).trans rf, rle, r40⟩, (hc 5).trans c5, (hf 5).trans f5⟩, (hc 2).trans c2, (hc 3).trans c3, (hc 4).trans c4, (hf 2).trans f2, (hf 3).trans f3, (hf 4).trans f4, ⟨xs.set (k * 23 + 12) (.int .i64 (g : Int)), by simp only [setGoal_length]; exact hst, fun j y hy => ?_⟩, own_of lab fun q hq => hB q (fun e => apart gg rfl (by rw [← e]; exact hq)), apart⟩
  have hkeep : ∀ {lo hi : Nat}, hi ≤ w.heap.size → (∀ q, (Value.slice (some ⟨gg, 0, none⟩) p.cmds.length cap).ownBlock = some q → q ≤ lo ∨ hi ≤ q) → Keep lo hi w (w.setCell ⟨gg, k * 23 + 12, none⟩ (.int .i64 (g : Int))) := fun hhi hh =>
    ⟨fun i h1 h2 => hB i (fun e => by have := hh gg rfl; omega), by rw [size_set]; exact hhi⟩
  rcases setGoal_at p.cmds k g hx j y hy with ⟨rfl, rfl⟩ | ⟨hjk, hyj⟩
  · obtain ⟨lo, hi, q, a1, a2, a3, a4, a5, a6⟩ := cms j x hx
    refine ⟨lo, hi, q, a1, by rw [size_set]; exact a2, a3, a4, ?_, fun o v hv => ?_⟩
    · have a5' := a5.keep (hkeep a2 a3)
      exact ⟨a5'.fst, a5'.snd, a5'.pat, a5'.temp, a5'.one⟩
    · have ho : o < 23 := (List.getElem?_eq_some_iff.1 hv).1
      rw [List.getElem?_set]
      by_cases e : o = 12
      · subst e
        have hl := (List.getElem?_eq_some_iff.1 (a6 12 _ rfl)).1
        rw [if_pos rfl, if_pos hl]
        exact hv
      · rw [if_neg (by omega)]
        apply a6
        have h23 : o = 0 ∨ o = 1 ∨ o = 2 ∨ o = 3 ∨ o = 4 ∨ o = 5 ∨ o = 6 ∨ o = 7 ∨ o = 8 ∨ o = 9 ∨ o = 10 ∨ o = 11 ∨ o = 13 ∨ o = 14 ∨ o = 15 ∨ o = 16 ∨ o = 17 ∨ o = 18 ∨ o = 19 ∨ o = 20 ∨ o = 21 ∨ o = 22 := by omega
        rcases h23 with rfl | rfl | rfl | rfl | rfl | rfl | rfl | rfl | rfl | rfl | rfl | rfl | rfl | rfl | rfl | rfl | rfl | rfl | rfl | rfl | rfl | rfl <;> exact hv
  · obtain ⟨lo, hi, q, a1, a2, a3, a4, a5, a6⟩ := cms j y hyj
    refine ⟨lo, hi, q, a1, by rw [size_set]; exact a2, a3, a4, a5.keep (hkeep a2 a3), fun o v hv => ?_⟩
    have ho : o < 23 := (List.getElem?_eq_some_iff.1 hv).1
    rw [List.getElem?_set, if_neg (by omega)]
    exact a6 o v hv
end Rs
end Go.Proofs.YtppjlpihaocdiaaGreatDoor

/- A part of the proof. -/
set_option linter.unusedSimpArgs false
set_option linter.unusedVariables false
namespace Go.Proofs.YtppjlpihaocdiaaGreatDoor
namespace Rs
open Go.RowKit
attribute [local go_sem ↓] LC_eq BC_eq Go.wp_at_zero Go.wp_at_succ
structure Lies (w : World) (b lo hi : Nat) (cv lv : Value) (x : Cm) (q : Pts) : Prop where
  cm : CmAt w lo hi x q
  above : b ≤ lo
  fits : hi ≤ w.heap.size
  acv : ∀ g, cv.ownBlock = some g → g ≤ lo ∨ hi ≤ g
  alv : ∀ g, lv.ownBlock = some g → g ≤ lo ∨ hi ≤ g
theorem Lies.of {w w' : World} {b lo hi : Nat} {cv lv : Value} {x : Cm} {q : Pts} (h : Lies w b lo hi cv lv x q) (k : Keep lo hi w w') : Lies w' b lo hi cv lv x q := ⟨h.cm.keep k, h.above, k.size, h.acv, h.alv⟩
theorem Fq.setOwn {b : Nat} {cv cv' lv lv' : Value} {w w' : World} (h : Fq b cv cv' lv lv' w w') {g k : Nat} {v : Value} (hg : cv.ownBlock = some g ∨ w.heap.size ≤ g) : Fq b cv cv' lv lv' w (w'.setCell ⟨g, k, none⟩ v) :=
  ⟨h.os, h.tape, h.output, by rw [size_set]; exact h.size, fun i hi hb h1 h2 => by
    rw [Below.heap_setCell _ _ _ _ (by
      rcases hg with e | e
      · intro e2; simp only at e2; exact h1 (by rw [e, e2])
      · simp only; omega)]
    exact h.block i hi hb h1 h2, h.cl, h.ll⟩
theorem Fq.drew {b : Nat} {cv cv' lv lv' : Value} {w w' : World} (h : Fq b cv cv' lv lv' w w') : Fq b cv cv' lv lv' w w'.drew := ⟨h.os, h.tape, h.output, h.size, h.block, h.cl, h.ll⟩
theorem info_parts23 : ∃ i0, Tryz.prog.info? 200 = some i0 ∧ i0.zero = some (.agg (cmL cm0 pts0).toArray) ∧ i0.size = 23 ∧ i0.bytes = 264 := info_parts Tryz.info200
set_option maxRecDepth 100000 in
set_option maxHeartbeats 6000000 in
theorem block_any (N : Nat) (ih : RowAt N) (b : Nat) (s : ByteArray) (p : RSt) (cv lv : Value) (w : World) (hr : Rk w b s p cv lv) (c : Cm) (q : Pts) (lo hi : Nat) (hl : Lies w b lo hi cv lv c q) (hn1 : p.cmds.length ≤ p.at') (hn2 : p.labs.length ≤ p.at') (hi1 : p.at' < s.size) (hop : p.op ≤ 5) (hN : 6 ≤ p.op + 1 + N) :
    Calls Tryz.prog 197 #[.pointer (some ⟨b, 0, none⟩), .agg (cmL c q).toArray] w (RPost 1 b s p cv lv w (blockF (rowN s N) s p c)) := by
  have HK : Hid (Rk w b s p cv lv) := hr
  have IH : Hid (RowAt N) := ih
  have HLI : Hid (Lies w b lo hi cv lv c q) := hl
  have hb := hr.lt
  have hle := hr.cu.rc.le
  have h400 := hr.cu.rc.s40
  have c2 := hr.c2
  clear hr ih hl
  by_cases h5 : p.op = 5
  · have HF : Hid (blockF (rowN s N) s p c = (p, false)) := by rw [Hid, blockF, if_pos h5]
    have hq5 : (((p.op : Nat) : Int) == 5) = true := by rw [h5]; rfl
    go_enter Tryz.func197, Tryz.ntmps197
    go_wp2_with (first
      | (refine wpList_box_row 3 rfl rfl 200 (.tmp 1) rfl _ rfl ?_; intro w1 h1 hR1 hB1; have c21 := (hB1.cell (p := ⟨b, 2, none⟩) hb).trans c2; have HB1 : Hid (Below w.heap.size w w1) := hB1; clear hR1 hB1))
    go_ret
    rw [HF.out]
    exact .inr ⟨rfl, rfl, Rc.below HK.out.cu.rc HB1.out, HB1.out.mono (by omega)⟩
  · have hq5 : (((p.op : Nat) : Int) == 5) = false := beq_false_of_ne (by omega)
    obtain ⟨ao, cap0, rfl⟩ : ∃ ao cap0, cv = .slice ao p.cmds.length cap0 := by
      obtain ⟨xs, own, _⟩ := HK.out.own
      rcases own.2 with ⟨e, e2⟩ | ⟨g, c, _, e, _⟩
      · exact ⟨none, 0, by rw [e, e2]⟩
      · exact ⟨_, _, e⟩
    have HF : Hid (blockF (rowN s N) s p c = if (rowN s N { p with at' := p.at' + 1, op := p.op + 1, cmds := p.cmds ++ [c] }).2 = true ∧ pk s (rowN s N { p with at' := p.at' + 1, op := p.op + 1, cmds := p.cmds ++ [c] }).1.at' = 125 then ({ (rowN s N { p with at' := p.at' + 1, op := p.op + 1, cmds := p.cmds ++ [c] }).1 with at' := (rowN s N { p with at' := p.at' + 1, op := p.op + 1, cmds := p.cmds ++ [c] }).1.at' + 1, op := (rowN s N { p with at' := p.at' + 1, op := p.op + 1, cmds := p.cmds ++ [c] }).1.op - 1, cmds := setGoal (rowN s N { p with at' := p.at' + 1, op := p.op + 1, cmds := p.cmds ++ [c] }).1.cmds p.cmds.length (rowN s N { p with at' := p.at' + 1, op := p.op + 1, cmds := p.cmds ++ [c] }).1.cmds.length }, true) else ((rowN s N { p with at' := p.at' + 1, op := p.op + 1, cmds := p.cmds ++ [c] }).1, false)) := by rw [Hid, blockF, if_neg h5]
    generalize hG : rowN s N { p with at' := p.at' + 1, op := p.op + 1, cmds := p.cmds ++ [c] } = G at HF
    have HG : Hid (rowN s N { p with at' := p.at' + 1, op := p.op + 1, cmds := p.cmds ++ [c] } = G) := hG
    clear hG
    generalize hBF : blockF (rowN s N) s p c = BF at HF
    clear hBF c2
    obtain ⟨i0, hi0, hz0, hz1, hz2⟩ := info_parts23
    go_enter Tryz.func197, Tryz.ntmps197
    go_upto_region 6 with (first
      | (refine wpList_box_row 3 rfl rfl 200 (.tmp 1) rfl _ rfl ?_; intro w1 h1 hR1 hB1; have HR1 : Hid (Row w1 w.heap.size (cmL c q)) := hR1; have HB1 : Hid (Below w.heap.size w w1) := hB1; have HK1 : Hid (Rk w1 b s p (.slice ao p.cmds.length cap0) lv) := HK.out.beside hB1.size hB1.block; obtain ⟨⟨⟨r0, r1, rf, _, _⟩, r5, rf5⟩, r2, r3, r4, rf2, rf3, rf4, _, _, _⟩ := HK1.out; clear hR1 hB1))
    have HKU : Hid (Rk ((w1.setCell ⟨b, 1, none⟩ (.int .i64 ((p.at' : Int) + 1))).setCell ⟨b, 2, none⟩ (.int .i64 ((p.op : Int) + 1))) b s { p with at' := p.at' + 1, op := p.op + 1 } (Value.slice ao p.cmds.length cap0) lv) := (HK1.out.mw ((Mw.refl b w1).set1 _) (HK1.out.cu.put (p.at' + 1) (by omega) (by omega))).setOp (p.op + 1) (by omega)
    have HFU : Hid (Fq b (Value.slice ao p.cmds.length cap0) (Value.slice ao p.cmds.length cap0) lv lv w ((w1.setCell ⟨b, 1, none⟩ (.int .i64 ((p.at' : Int) + 1))).setCell ⟨b, 2, none⟩ (.int .i64 ((p.op : Int) + 1)))) := (((Fq.mw (Mw.below HB1.out hb)).set _).set _)
    have HRU : Hid (Row ((w1.setCell ⟨b, 1, none⟩ (.int .i64 ((p.at' : Int) + 1))).setCell ⟨b, 2, none⟩ (.int .i64 ((p.op : Int) + 1))) w.heap.size (cmL c q)) := HR1.out.of_block (by rw [Below.heap_setCell _ _ _ _ (by simp only; omega), Below.heap_setCell _ _ _ _ (by simp only; omega)])
    have HLU : Hid (Lies ((w1.setCell ⟨b, 1, none⟩ (.int .i64 ((p.at' : Int) + 1))).setCell ⟨b, 2, none⟩ (.int .i64 ((p.op : Int) + 1))) b lo hi (Value.slice ao p.cmds.length cap0) lv c q) := HLI.out.of ⟨fun k h1 h2 => by rw [Below.heap_setCell _ _ _ _ (by have := HLI.out.above; simp only; omega), Below.heap_setCell _ _ _ _ (by have := HLI.out.above; simp only; omega)]; exact HB1.out.block k (by have := HLI.out.fits; omega), by rw [size_set, size_set]; have := HLI.out.fits; omega⟩
    generalize ((w1.setCell ⟨b, 1, none⟩ (.int .i64 ((p.at' : Int) + 1))).setCell ⟨b, 2, none⟩ (.int .i64 ((p.op : Int) + 1))) = u at HKU HFU HRU HLU ⊢
    clear r0 r1 rf r5 rf5 r2 r3 r4 rf2 rf3 rf4 HK1 HR1 HB1 HLI
    have HK0 : Hid (Rk w b s p (Value.slice ao p.cmds.length cap0) lv) := HK.out
    clear HK
    have hat400 : p.at' ≤ 400 := by omega
    go_cut [] (fun wx => ∃ gg cap, Hid (Rk wx b s { p with at' := p.at' + 1, op := p.op + 1, cmds := p.cmds ++ [c] } (.slice (some ⟨gg, 0, none⟩) (p.cmds.length + 1) cap) lv) ∧ Hid (Fq b (Value.slice ao p.cmds.length cap0) (.slice (some ⟨gg, 0, none⟩) (p.cmds.length + 1) cap) lv lv w wx))
    case first =>
      obtain ⟨xs, own, cms⟩ := HKU.out.own
      have HO : Hid (u.ownsRow (b + 1) 200 23 (Value.slice ao p.cmds.length cap0) p.cmds.length xs) := own
      have HCS : Hid (CmsAt u b (Value.slice ao p.cmds.length cap0) lv xs p.cmds) := cms
      have HLL : Hid (∀ k, ((Value.slice ao p.cmds.length cap0)).ownBlock = some k → b + 1 ≤ k ∧ k < u.heap.size) := fun k hk => own.lt k hk
      clear own cms
      obtain ⟨⟨⟨g0, g1, gf, _, _⟩, g5, gf5⟩, g2, g3, g4, gf2, gf3, gf4, _, _, _⟩ := HKU.out
      have hbu : b < u.heap.size := HKU.out.lt
      have hlc := run_LC (w := u.drew) (HRU.out.of_block rfl) rfl
      have hbc := run_BC u.drew (cmL c q) rfl
      go_region_law
        ((refine step_append_lies _ (by rfl) _ _ _ (by rfl) (b + 1) 200 i0 _ 23 264 Tryz.underlying94 hi0 hz0 hz1 hz2 (by rfl) (by omega) (Value.slice ao p.cmds.length cap0) p.cmds.length xs (by rfl) ((HO.out.alloc _).drew)
              ⟨u.heap.size, 0, none⟩ 1 1 (cmL c q) (by rfl) (by rfl) (World.news_of_block (cs := ((cmL c q)).toArray) (t := 200) (fr := (0, 0)) (heap_alloc_new u _)) (cmL_one _ _ HLU.out.cm.one)
              (by omega) (by unfold maxLen; omega) (by omega) (by simp; omega) (u.heap.size + 1) (by simp) ?_; intro gg cap wa hown1 hgrow hat hlt; have hx := (hgrow.block b (by simp; omega) (fun e => by have := (HLL.out _ e.symm).1; omega)).trans (Below.heap_alloc u _ b hbu); have kc := World.cell?_of_block (w := u) (w' := wa) (a := ⟨b, 3, none⟩) hx; have kf := World.frozen?_of_block (w := u) (w' := wa) (a := ⟨b, 3, none⟩) hx; rw [g3] at kc; rw [gf3] at kf; have HAD : Hid _ := HKU.out.added HLU.out.cm HLU.out.above HLU.out.fits HLU.out.acv HLU.out.alv HO.out HCS.out hgrow hown1 hat; clear hx hown1 hgrow hat hlt))
      all_goals go_wp2
      all_goals go_meet
      all_goals exact ⟨gg, cap, HAD.out.1, HFU.out.trans HAD.out.2⟩
    case rest =>
      obtain ⟨gg, cap, HKc, HFc⟩ := hcut
      go_wp2_with fail
      refine (IH.out b s { p with at' := p.at' + 1, op := p.op + 1, cmds := p.cmds ++ [c] } _ lv _ HKc.out (by simp; omega) (by simp only; omega) (by simp only; omega) (by simp only; omega)).mono ?_
      rintro e w2 hP
      unfold RPost at hP
      rw [HG.out] at hP
      rcases hP with ⟨h1, rfl, ⟨cv', lv', hk2, hf2⟩, hop2, hc1, hc2, hc3, hc4⟩ | ⟨h1, rfl, hrc, hbl⟩
      · have HK2 : Hid (Rk w2 b s G.1 cv' lv') := hk2
        have HF2 : Hid (Fq b (Value.slice ao p.cmds.length cap0) cv' lv lv' w w2) := HFc.out.trans hf2
        have hle2 := hk2.cu.rc.le
        clear hk2 hf2
        simp only at hop2 hc3 hc4
        rw [List.length_append, List.length_singleton] at hc4
        by_cases h125 : pk s G.1.at' = ((125 : Nat) : Int)
        · have HI : Hid (pk s G.1.at' = ((125 : Nat) : Int)) := h125
          obtain ⟨hlt, _⟩ := pk_byte (s := s) (i := G.1.at') (by rw [h125]; decide)
          have HB : Hid (BF = ({ G.1 with at' := G.1.at' + 1, op := G.1.op - 1, cmds := setGoal G.1.cmds p.cmds.length G.1.cmds.length }, true)) := by rw [Hid, HF.out, if_pos ⟨h1, by rw [h125]; rfl⟩]
          clear h125 HF
          obtain ⟨g2, cap2, rfl⟩ : ∃ g2 cap2, cv' = .slice (some ⟨g2, 0, none⟩) G.1.cmds.length cap2 := by
            obtain ⟨xs, own, _⟩ := HK2.out.own
            obtain ⟨g2, cap2, e, _⟩ := own.form (by omega)
            exact ⟨g2, cap2, e⟩
          go_wp2_with fail
          refine (acceptY b s G.1.at' 125 _ HK2.out.cu.rc (by omega) HI.out).mono ?_
          rintro e w3 ⟨rfl, hm3⟩
          have HK3 : Hid (Rk w3 b s { G.1 with at' := G.1.at' + 1 } (.slice (some ⟨g2, 0, none⟩) G.1.cmds.length cap2) lv') := HK2.out.mw (.mv hm3) (HK2.out.cu.mv hm3 (by omega))
          have HF3 : Hid (Fq b (Value.slice ao p.cmds.length cap0) (.slice (some ⟨g2, 0, none⟩) G.1.cmds.length cap2) lv lv' w w3) := HF2.out.trans (Fq.mw (.mv hm3))
          clear hm3
          have hG1 : G.1.op = p.op + 1 := hop2
          have HK4 : Hid (Rk (w3.setCell ⟨b, 2, none⟩ (.int .i64 (p.op : Int))) b s { G.1 with at' := G.1.at' + 1, op := G.1.op - 1 } (.slice (some ⟨g2, 0, none⟩) G.1.cmds.length cap2) lv') := HK3.out.setOp (G.1.op - 1) (by omega)
          have HF4 : Hid (Fq b (Value.slice ao p.cmds.length cap0) (.slice (some ⟨g2, 0, none⟩) G.1.cmds.length cap2) lv lv' w (w3.setCell ⟨b, 2, none⟩ (.int .i64 (p.op : Int)))) := HF3.out.set _
          obtain ⟨⟨⟨m0, m1, mf, _, _⟩, m5, mf5⟩, m2, m3, m4, mf2, mf3, mf4, _, _, _⟩ := HK3.out
          have hopb : G.1.op ≤ 6 := by omega
          go_wp2_with fail
          generalize w3.setCell ⟨b, 2, none⟩ (.int .i64 (p.op : Int)) = w4 at HK4 HF4 ⊢
          clear m0 m1 mf m5 mf5 m2 m3 m4 mf2 mf3 mf4
          obtain ⟨⟨⟨m0, m1, mf, _, _⟩, m5, mf5⟩, m2, m3, m4, mf2, mf3, mf4, own4, _, _⟩ := HK4.out
          have HK5 : Hid (∀ v : Int, v = (G.1.cmds.length : Nat) → Rk (w4.setCell ⟨g2, p.cmds.length * 23 + 12, none⟩ (.int .i64 v)) b s { G.1 with at' := G.1.at' + 1, op := G.1.op - 1, cmds := setGoal G.1.cmds p.cmds.length G.1.cmds.length } (.slice (some ⟨g2, 0, none⟩) G.1.cmds.length cap2) lv') := fun v hv => HK4.out.goal (show p.cmds.length < G.1.cmds.length by omega) hv
          obtain ⟨xs4, own4, _⟩ := own4
          have hg2c : ∃ v, w4.cell? ⟨g2, p.cmds.length * 23 + 12, none⟩ = some v := by
            rw [own4.cellAt (p.cmds.length * 23 + 12) (by show p.cmds.length * 23 + 12 < G.1.cmds.length * 23; omega)]
            exact ⟨_, List.getElem?_eq_getElem (by rw [own4.1]; show p.cmds.length * 23 + 12 < G.1.cmds.length * 23; omega)⟩
          obtain ⟨v4, hv4⟩ := hg2c
          have hz4 := own4.frozenAt (p.cmds.length * 23 + 12)
          have hg2b := (own4.lt g2 rfl).1
          have hbg : b ≠ g2 := by omega
          have HOB : Hid (((Value.slice ao p.cmds.length cap0)).ownBlock = some g2 ∨ w.heap.size ≤ g2) := by
            rcases HF4.out.cl with e | e
            · exact .inl (by rw [← e]; rfl)
            · exact .inr (e g2 rfl)
          clear own4
          have l1 : (0 : Int) ≤ (p.cmds.length : Int) := by omega
          have l2 : (p.cmds.length : Int) < (G.1.cmds.length : Int) := by omega
          go_region
          all_goals go_wp2_with fail
          all_goals go_ret
          all_goals rw [HB.out]
          all_goals exact .inl ⟨rfl, rfl, ⟨_, _, (HK5.out _ rfl).beside (Nat.le_refl _) (fun _ _ => rfl), (HF4.out.setOwn HOB.out).drew⟩, (by show G.1.op - 1 = p.op; omega), (by show (setGoal G.1.cmds p.cmds.length G.1.cmds.length).length ≤ G.1.at' + 1; rw [setGoal_length]; omega), (by show G.1.labs.length ≤ G.1.at' + 1; omega), (by show p.at' + 1 ≤ G.1.at' + 1; omega), (by show p.cmds.length ≤ (setGoal G.1.cmds p.cmds.length G.1.cmds.length).length; rw [setGoal_length]; omega)⟩
        · have HI : Hid (pk s G.1.at' ≠ ((125 : Nat) : Int)) := h125
          have HB : Hid (BF = (G.1, false)) := by rw [Hid, HF.out, if_neg (fun h => h125 (by rw [h.2]; rfl))]
          clear h125 HF
          go_wp2_with fail
          refine (acceptN b s G.1.at' 125 _ HK2.out.cu.rc (by omega) HI.out).mono ?_
          rintro e w3 ⟨rfl, hm3⟩
          have HR3 : Hid (Rc w3 b s G.1.at') := hm3.rc HK2.out.cu.rc hle2
          have HF3 : Hid (Fq b (Value.slice ao p.cmds.length cap0) cv' lv lv' w w3) := HF2.out.trans (Fq.mw (.mv hm3))
          clear hm3
          go_wp2_with fail
          go_ret
          rw [HB.out]
          exact .inr ⟨rfl, rfl, HR3.out, HF3.out.below HK0.out⟩
      · have HB : Hid (BF = (G.1, false)) := by rw [Hid, HF.out, if_neg (fun h => by rw [h1] at h; exact absurd h.1 (by decide))]
        have HR2 : Hid (Rc w2 b s G.1.at') := hrc
        have HBL : Hid (Below b w w2) := (HFc.out.below HK0.out).trans hbl
        clear hrc hbl HF
        go_wp2_with fail
        go_ret
        rw [HB.out]
        exact .inr ⟨rfl, rfl, HR2.out, HBL.out⟩
end Rs
end Go.Proofs.YtppjlpihaocdiaaGreatDoor

/- A part of the proof. -/
set_option linter.unusedSimpArgs false
set_option linter.unusedVariables false
namespace Go.Proofs.YtppjlpihaocdiaaGreatDoor
namespace Rs
open Go.RowKit
theorem TempIn.keep {u w : World} {lo lo' hi : Nat} {ps : List Pc} {v : Value} (h : TempIn u lo hi ps v) (k : Keep lo hi u w) (hl : lo' ≤ lo) : TempIn w lo' w.heap.size ps v :=
  ⟨h.1, Nat.le_refl _, fun w' hw => World.ownsRow.mono (h.2.2 w' fun i h1 h2 => (hw i (by omega) (Nat.lt_of_lt_of_le h2 k.size)).trans (k.same i h1 h2)) (by omega)⟩
theorem CmAt.plain {w w' : World} {lo hi : Nat} {c c' : Cm} {q : Pts} (h : CmAt w lo hi c q) (k : Keep lo hi w w') (hk : ¬ c'.kind = 19) (h1 : c'.fst = c.fst) (h2 : c'.snd = c.snd) : CmAt w' lo hi c' q := by
  have h' := h.keep k
  exact ⟨by rw [h1]; exact h'.fst, by rw [h2]; exact h'.snd, fun e => absurd e hk, fun e => absurd e hk, h'.one⟩
theorem Rk.addedAny {w w1 : World} {b gg cap n : Nat} {s : ByteArray} {p : RSt} {cv lv : Value} {o1 : Obj} {xs ys : List Value} (h : Rk w b s p cv lv) (hxs : w.ownsRow (b + 1) 200 23 cv n xs)
    (hg : (w.alloc o1).drew.grownBy w1 cv.ownBlock) (hown : w1.ownsRow (b + 1) 200 23 (.slice (some ⟨gg, 0, none⟩) (n + 1) cap) (n + 1) ys) :
    Rc (w1.setCell ⟨b, 3, none⟩ (.slice (some ⟨gg, 0, none⟩) (n + 1) cap)) b s p.at' ∧ Below b w (w1.setCell ⟨b, 3, none⟩ (.slice (some ⟨gg, 0, none⟩) (n + 1) cap)) := by
  have hb := h.lt
  obtain ⟨r0, r1, rf, rle, r40⟩ := h.cu.rc
  have far : ∀ k, k < w.heap.size → some k ≠ cv.ownBlock → w1.heap[k]? = w.heap[k]? := fun k hk hne => by
    rw [hg.block k (by simp; omega) hne]
    exact Below.heap_alloc _ _ _ hk
  have hx := far b hb (fun e => by have := (hxs.lt b e.symm).1; omega)
  have ko : ∀ k, k ≠ 3 → (w1.setCell ⟨b, 3, none⟩ (.slice (some ⟨gg, 0, none⟩) (n + 1) cap)).cell? ⟨b, k, none⟩ = w.cell? ⟨b, k, none⟩ := fun k hk =>
    (World.cell?_setCell_other (h := ad_ne (.inr (Ne.symm hk))) ..).trans (World.cell?_of_block (w := w) (w' := w1) (a := ⟨b, k, none⟩) hx)
  refine ⟨⟨(ko 0 (by omega)).trans r0, (ko 1 (by omega)).trans r1, ?_, rle, r40⟩, ⟨hg.os, hg.tape, hg.output, ?_, fun k hk => ?_⟩⟩
  · rw [World.frozen?_setCell]
    exact (World.frozen?_of_block (w := w) (w' := w1) (a := ⟨b, 1, none⟩) hx).trans rf
  · have := hg.size; rw [size_set]; simp at this; omega
  · rw [Below.heap_setCell _ _ _ _ (by simp only; omega)]
    exact far k (by omega) (fun e => by have := (hxs.lt k e.symm).1; omega)
theorem tempL_ge (s : ByteArray) (g : Nat) : ∀ (f i : Nat) (ps : List Pc), i ≤ s.size → i ≤ (tempL s g f i ps).1
  | 0, i, ps, h => Nat.le_refl _
  | f + 1, i, ps, h => by
    have h1 := pieceF_le s g i h
    unfold tempL
    split
    · simp only; omega
    · split
      · have := tempL_ge s g f (pieceF s g i).1 (ps ++ [(pieceF s g i).2.1]) h1.1
        omega
      · exact h1.2
theorem flagF_ge (s : ByteArray) : ∀ (f i : Nat) (a p : Bool) (n : Nat), i ≤ (flagF s f i a p n).1
  | 0, i, a, p, n => Nat.le_refl _
  | f + 1, i, a, p, n => by
    unfold flagF
    split
    · have := flagF_ge s f (i + 1) true p n; omega
    · split
      · have := flagF_ge s f (i + 1) a true n; omega
      · split
        · have := flagF_ge s f (i + 1) a p (byt s i - 48); omega
        · exact Nat.le_refl _
theorem putF_ge (s : ByteArray) (i : Nat) (lg : Int) (x : Cm) (h : i ≤ s.size) : i ≤ (putF s i lg x).1 := by
  unfold putF
  split
  · rename_i h1
    obtain ⟨h2, _⟩ := pk_byte (s := s) (i := i) (by rw [h1]; decide)
    have h3 := patF_le s (i + 1) lg (by omega)
    simp only
    split
    · have h4 := tempL_ge s (grps (patF s (i + 1) lg).2.1) (s.size + 1) (patF s (i + 1) lg).1 [] h3.1
      have h4' : (patF s (i + 1) lg).1 ≤ (tempF s (grps (patF s (i + 1) lg).2.1) (patF s (i + 1) lg).1).1 := h4
      split
      · have := flagF_ge s 4 (tempF s (grps (patF s (i + 1) lg).2.1) (patF s (i + 1) lg).1).1 false false 0
        simp only; omega
      · simp only; omega
    · simp only; omega
  · exact Nat.le_refl _
theorem rowL_ge (s : ByteArray) : ∀ (f i : Nat) (l : List Nat), i ≤ s.size → i ≤ (rowL s f i l).1 ∧ (rowL s f i l).1 ≤ s.size
  | 0, i, l, h => ⟨Nat.le_refl _, h⟩
  | f + 1, i, l, h => by
    have h1 := rowByteF_le s l i h
    unfold rowL
    split
    · rename_i h2
      obtain ⟨h3, _⟩ := pk_byte (s := s) (i := i) (by rw [h2]; decide)
      simp only; omega
    · split
      · have := rowL_ge s f (rowByteF s l i).1 (l ++ [(rowByteF s l i).2.1]) h1.1
        omega
      · simp only; omega
theorem rowM_ge (s : ByteArray) : ∀ (f i : Nat) (l : List Nat), i ≤ s.size → i ≤ (rowM s f i l).1
  | 0, i, l, h => Nat.le_refl _
  | f + 1, i, l, h => by
    have h1 := rowByteF_le s [] i h
    unfold rowM
    split
    · have := rowM_ge s f (rowByteF s [] i).1 (l ++ [(rowByteF s [] i).2.1]) h1.1
      omega
    · simp only; omega
theorem rowsF_ge (s : ByteArray) (i : Nat) (h : i ≤ s.size) : i ≤ (rowsF s i).1 := by
  unfold rowsF
  split
  · rename_i h1
    obtain ⟨h2, _⟩ := pk_byte (s := s) (i := i) (by rw [h1]; decide)
    have h3 := rowL_ge s (s.size + 1) (i + 1) [] (by omega)
    have h4 := rowM_ge s (rowL s (s.size + 1) (i + 1) []).2.1.length (rowL s (s.size + 1) (i + 1) []).1 [] h3.2
    simp only
    split
    · split
      · split
        · simp only; omega
        · simp only; omega
      · simp only; omega
    · simp only; omega
  · exact Nat.le_refl _
theorem kind_is {s : ByteArray} {i : Nat} (h : nxt s letters i = true) : i < s.size ∧ Lib.indexByte letters.data.toList ((byt s i : Nat) : Int).toNat.toUInt8 = (kindF (byt s i) : Int) ∧ kindF (byt s i) ≤ 20 := by
  simp [nxt] at h
  refine ⟨h.1, ?_⟩
  have h2 := h.2
  have hb : byt s i ∈ [123, 100, 68, 110, 78, 112, 80, 103, 71, 104, 72, 120, 61, 113, 97, 105, 99, 98, 116, 115, 121] := by
    simp [inB, letters] at h2
    simp only [List.mem_cons, List.not_mem_nil, or_false]
    omega
  generalize byt s i = y at hb
  simp only [List.mem_cons, List.not_mem_nil, or_false] at hb
  rcases hb with rfl | rfl | rfl | rfl | rfl | rfl | rfl | rfl | rfl | rfl | rfl | rfl | rfl | rfl | rfl | rfl | rfl | rfl | rfl | rfl | rfl <;> exact ⟨by decide, by decide⟩
end Rs
end Go.Proofs.YtppjlpihaocdiaaGreatDoor

