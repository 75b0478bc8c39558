/- A part of the proof. -/
import Derived.Test.YtppjlpihaocdiaaGreatDoorPrUH
import Derived.Great.BuildSlice
set_option linter.unusedSimpArgs false
set_option linter.unusedVariables false
namespace Go.Proofs.YtppjlpihaocdiaaGreatDoor
namespace Rs
open Go.RowKit
theorem Tryz.info200 : (Tryz.prog.info? 200).map (fun i => (i.zero, i.size, i.bytes)) = some (some (.agg (cmL cm0 pts0).toArray), 23, 264) := by kernel_rfl
def LC (v : Value) : Sem Value := Instr.loadAt 200 v
def BC (ps : Array (Nat × Value)) : Sem Value := Instr.buildSlice 94 1 ps
theorem LC_eq (v : Value) : Instr.loadAt 200 v = LC v := rfl
theorem BC_eq (ps : Array (Nat × Value)) : Instr.buildSlice 94 1 ps = BC ps := rfl
theorem run_LC {w : World} {b : Nat} {cs : List Value} (h : Row w b cs) (hl : cs.length = 23) : (LC (.pointer (some ⟨b, 0, none⟩))).run Tryz.prog w = .ok (.agg cs.toArray) w :=
  run_loadAt_mid (P := Tryz.prog) w b 0 200 cs _ h.lies Tryz.underlying200 rfl (by rw [hl]; kernel_rfl)
theorem run_BC (w : World) (cs : List Value) (hl : cs.length = 23) : (BC #[(0, .agg cs.toArray)]).run Tryz.prog w = .ok (.slice (some ⟨w.heap.size, 0, none⟩) 1 1) (w.alloc (.cells cs.toArray 200)) := by
  obtain ⟨i0, hi0, hz0, hz1, hz2⟩ := info_parts Tryz.info200
  have hf := Great.fill_whole (s := 23) (by omega) [Value.agg cs.toArray] ((Array.range (1 * 23)).map ((Value.agg (cmL cm0 pts0).toArray).cells[· % (Value.agg (cmL cm0 pts0).toArray).cells.size]!))
    (fun v hv => by
      obtain rfl : v = .agg cs.toArray := by simpa using hv
      simp [Value.cells, hl]) (by simp)
  have := run_buildSlice (P := Tryz.prog) w 94 200 1 #[(0, .agg cs.toArray)] cs.toArray i0 _ Tryz.underlying94 hi0 hz0 (by rw [hz1]; omega) (by rw [hz1]; omega) (by
    rw [hz1]
    have e : (#[(0, Value.agg cs.toArray)] : Array (Nat × Value)).toList = (([Value.agg cs.toArray].zipIdx 0).map fun x => (x.2, x.1)) := rfl
    rw [e]
    simpa [Value.cells] using hf)
  exact this
theorem Rk.added {w w1 : World} {b gg cap lo hi : Nat} {s : ByteArray} {p : RSt} {cv lv : Value} {o1 : Obj} {x : Cm} {q : Pts} {xs : List Value} (h : Rk w b s p cv lv) (hcm : CmAt w lo hi x q) (hlo : b ≤ lo) (hhi : hi ≤ w.heap.size)
    (hcv : ∀ g, cv.ownBlock = some g → g ≤ lo ∨ hi ≤ g) (hlv : ∀ g, lv.ownBlock = some g → g ≤ lo ∨ hi ≤ g) (hxs : w.ownsRow (b + 1) 200 23 cv p.cmds.length xs) (hcms : CmsAt w b cv lv xs p.cmds)
    (hg : (w.alloc o1).drew.grownBy w1 cv.ownBlock) (hown : w1.ownsRow (b + 1) 200 23 (.slice (some ⟨gg, 0, none⟩) (p.cmds.length + 1) cap) (p.cmds.length + 1) (xs ++ cmL x q))
    (hat : cv.ownBlock = some gg ∨ gg = w.heap.size + 1) :
    Rk (w1.setCell ⟨b, 3, none⟩ (.slice (some ⟨gg, 0, none⟩) (p.cmds.length + 1) cap)) b s { p with cmds := p.cmds ++ [x] } (.slice (some ⟨gg, 0, none⟩) (p.cmds.length + 1) cap) lv ∧
    Fq b cv (.slice (some ⟨gg, 0, none⟩) (p.cmds.length + 1) cap) lv lv w (w1.setCell ⟨b, 3, none⟩ (.slice (some ⟨gg, 0, none⟩) (p.cmds.length + 1) cap)) := by
  have hb := h.lt
  obtain ⟨⟨⟨r0, r1, rf, rle, r40⟩, c5, f5⟩, c2, c3, c4, f2, f3, f4, _, lab, apart⟩ := h
  have far : ∀ k, k < w.heap.size → some k ≠ cv.ownBlock → w1.heap[k]? = w.heap[k]? := fun k hk hne => by
    rw [hg.block k (by simp; omega) hne]
    exact Below.heap_alloc _ _ _ hk
  have hgb : b + 1 ≤ gg := (hown.lt gg rfl).1
  have hx := far b hb (fun e => by have := (hxs.lt b e.symm).1; omega)
  have kc : ∀ k, w1.cell? ⟨b, k, none⟩ = w.cell? ⟨b, k, none⟩ := fun k => World.cell?_of_block (w := w) (w' := w1) (a := ⟨b, k, none⟩) hx
  have kf : ∀ k, w1.frozen? ⟨b, k, none⟩ = w.frozen? ⟨b, k, none⟩ := fun k => World.frozen?_of_block (w := w) (w' := w1) (a := ⟨b, k, none⟩) hx
  have ko : ∀ k, k ≠ 3 → (w1.setCell ⟨b, 3, none⟩ (.slice (some ⟨gg, 0, none⟩) (p.cmds.length + 1) cap)).cell? ⟨b, k, none⟩ = w.cell? ⟨b, k, none⟩ := fun k hk =>
    (World.cell?_setCell_other (h := ad_ne (.inr (Ne.symm hk))) ..).trans (kc k)
  have kz : ∀ k, (w1.setCell ⟨b, 3, none⟩ (.slice (some ⟨gg, 0, none⟩) (p.cmds.length + 1) cap)).frozen? ⟨b, k, none⟩ = w.frozen? ⟨b, k, none⟩ := fun k => by
    rw [World.frozen?_setCell]; exact kf k
  have far2 : ∀ k, k < w.heap.size → k ≠ b → some k ≠ cv.ownBlock → (w1.setCell ⟨b, 3, none⟩ (.slice (some ⟨gg, 0, none⟩) (p.cmds.length + 1) cap)).heap[k]? = w.heap[k]? := fun k hk hkb hne => by
    rw [Below.heap_setCell _ _ _ _ hkb]; exact far k hk hne
  have hsz : w.heap.size ≤ (w1.setCell ⟨b, 3, none⟩ (.slice (some ⟨gg, 0, none⟩) (p.cmds.length + 1) cap)).heap.size := by
    have := hg.size; rw [size_set]; simp at this; omega
  have hcut : ∀ {lo hi : Nat}, hi ≤ w.heap.size → (∀ g, cv.ownBlock = some g → g ≤ lo ∨ hi ≤ g) → ∀ g, (Value.slice (some ⟨gg, 0, none⟩) (p.cmds.length + 1) cap).ownBlock = some g → g ≤ lo ∨ hi ≤ g := fun hhi' hh g hg' => by
    have hgg : gg = g := by simpa [Value.ownBlock] using hg'
    rcases hat with e | e
    · exact hh g (by rw [← hgg]; exact e)
    · right; omega
  have hkeep : ∀ {lo hi : Nat}, b ≤ lo → hi ≤ w.heap.size → (∀ g, cv.ownBlock = some g → g ≤ lo ∨ hi ≤ g) → Keep lo hi w (w1.setCell ⟨b, 3, none⟩ (.slice (some ⟨gg, 0, none⟩) (p.cmds.length + 1) cap)) := fun hb' hhi' hh =>
    ⟨fun i h1 h2 => far2 i (by omega) (by omega) (fun e => by have := hh i e.symm; omega), Nat.le_trans hhi' hsz⟩
  refine ⟨⟨⟨⟨(ko 0 (by omega)).trans r0, (ko 1 (by omega)).trans r1, (kz 1).trans rf, rle, r40⟩, (ko 5 (by omega)).trans c5, (kz 5).trans f5⟩, (ko 2 (by omega)).trans c2, World.cell?_setCell_same _ _ _ ((kc 3).trans c3), (ko 4 (by omega)).trans c4, (kz 2).trans f2, (kz 3).trans f3, (kz 4).trans f4, ⟨xs ++ cmL x q, ?_, fun k y hy => ?_⟩, own_of lab fun k hk => far2 k (lab.lt k hk).2 (by have := (lab.lt k hk).1; omega) (fun e => apart k e.symm hk), ?_⟩, ?_⟩
  · simp only [List.length_append, List.length_singleton]
    exact own_of hown fun k hk => Below.heap_setCell _ _ _ _ (by
      have : gg = k := by simpa [Value.ownBlock] using hk
      simp only; omega)
  · by_cases hk : k < p.cmds.length
    · rw [List.getElem?_append_left hk] at hy
      obtain ⟨lo', hi', q', a1, a2, a3, a4, a5, a6⟩ := hcms k y hy
      refine ⟨lo', hi', q', a1, Nat.le_trans a2 hsz, hcut a2 a3, a4, a5.keep (hkeep a1 a2 a3), fun o v hv => ?_⟩
      have := a6 o v hv
      rw [List.getElem?_append_left (List.getElem?_eq_some_iff.1 this).1]
      exact this
    · have hkl : k = p.cmds.length := by
        have := (List.getElem?_eq_some_iff.1 hy).1
        simp at this
        omega
      subst hkl
      have hyx : y = x := by simpa using hy.symm
      subst hyx
      refine ⟨lo, hi, q, hlo, Nat.le_trans hhi hsz, hcut hhi hcv, hlv, hcm.keep (hkeep hlo hhi hcv), fun o v hv => ?_⟩
      rw [List.getElem?_append_right (by rw [hxs.1]; omega), hxs.1, Nat.add_sub_cancel_left]
      exact hv
  · intro k hk hk'
    have hgg : gg = k := by simpa [Value.ownBlock] using hk
    rcases hat with e | e
    · exact apart k (by rw [← hgg]; exact e) hk'
    · have := (lab.lt k hk').2; omega
  · refine ⟨hg.os, hg.tape, hg.output, hsz, fun k hk hkb h1 _ => far2 k hk hkb h1, ?_, .inl rfl⟩
    rcases hat with e | e
    · exact .inl (by rw [e]; rfl)
    · right
      intro k hk
      have : gg = k := by simpa [Value.ownBlock] using hk
      omega
theorem Rk.beside {w w' : World} {b : Nat} {s : ByteArray} {p : RSt} {cv lv : Value} (h : Rk w b s p cv lv) (hs : w.heap.size ≤ w'.heap.size) (hB : ∀ k, k < w.heap.size → w'.heap[k]? = w.heap[k]?) : Rk w' b s p cv lv := by
  have hb := h.lt
  have hm : Mw b w w' ∨ True := .inr trivial
  obtain ⟨⟨⟨r0, r1, rf, rle, r40⟩, c5, f5⟩, c2, c3, c4, f2, f3, f4, ⟨xs, own, cms⟩, lab, apart⟩ := h
  have hx := hB b hb
  have hc : ∀ k, w'.cell? ⟨b, k, none⟩ = w.cell? ⟨b, k, none⟩ := fun k => World.cell?_of_block (w := w) (w' := w') (a := ⟨b, k, none⟩) hx
  have hf : ∀ k, w'.frozen? ⟨b, k, none⟩ = w.frozen? ⟨b, k, none⟩ := fun k => World.frozen?_of_block (w := w) (w' := w') (a := ⟨b, k, none⟩) hx
  refine ⟨⟨⟨(hc 0).trans r0, (hc 1).trans r1, (hf 1).trans rf, rle, r40⟩, (hc 5).trans c5, (hf 5).trans f5⟩, (hc 2).trans c2, (hc 3).trans c3, (hc 4).trans c4, (hf 2).trans f2, (hf 3).trans f3, (hf 4).trans f4, ⟨xs, own_of own fun k hk => hB k (own.lt k hk).2, fun k x hx' => ?_⟩, own_of lab fun k hk => hB k (lab.lt k hk).2, apart⟩
  obtain ⟨lo, hi, q, a1, a2, a3, a4, a5, a6⟩ := cms k x hx'
  exact ⟨lo, hi, q, a1, Nat.le_trans a2 hs, a3, a4, a5.keep ⟨fun i h1 h2 => hB i (by omega), Nat.le_trans a2 hs⟩, a6⟩
theorem Fq.below {b : Nat} {s : ByteArray} {p : RSt} {cv cv' lv lv' : Value} {w w' : World} (h : Fq b cv cv' lv lv' w w') (hr : Rk w b s p cv lv) : Below b w w' := by
  obtain ⟨xs, own, _⟩ := hr.own
  have hb := hr.lt
  exact ⟨h.os, h.tape, h.output, h.size, fun k hk => h.block k (by omega) (by omega) (fun e => by have := (own.lt k e.symm).1; omega) (fun e => by have := (hr.lab.lt k e.symm).1; omega)⟩
set_option maxHeartbeats 1000000 in
theorem mark_any (b : Nat) (s : ByteArray) (p : RSt) (cv lv : Value) (w : World) (hr : Rk w b s p cv lv) (hi : p.at' < s.size) (hn : p.labs.length ≤ 1000) (hn2 : p.cmds.length ≤ 1000) :
    Calls Tryz.prog 163 #[.pointer (some ⟨b, 0, none⟩)] w fun e w' => ∃ lv', e = .returned (.bool (decide (p.at' + 1 < labF s 8 (p.at' + 1)))) ∧ Rk w' b s (p.label s (p.at' + 1) false) cv lv' ∧ Fq b cv cv lv lv' w w' := by
  have HK : Hid (Rk w b s p cv lv) := hr
  have HK2 : Hid (Rk (w.setCell ⟨b, 1, none⟩ (.int .i64 ((p.at' : Int) + 1))) b s { p with at' := p.at' + 1 } cv lv) := hr.mw ((Mw.refl b w).set1 _) (hr.cu.put (p.at' + 1) (by omega) (by omega))
  have HF2 : Hid (Fq b cv cv lv lv w (w.setCell ⟨b, 1, none⟩ (.int .i64 ((p.at' : Int) + 1)))) := Fq.mw ((Mw.refl b w).set1 _)
  have h400 := hr.cu.rc.s40
  obtain ⟨r0, r1, rf, _, _⟩ := hr.cu.rc
  have hJ := labF_le s 8 (p.at' + 1) (by omega)
  have hsz : (s.extract (p.at' + 1) (labF s 8 (p.at' + 1))).size = labF s 8 (p.at' + 1) - (p.at' + 1) := by simp [ByteArray.size_extract]; omega
  have HD : Hid ((!(s.extract (p.at' + 1) (labF s 8 (p.at' + 1))).toList.isEmpty) = decide (p.at' + 1 < labF s 8 (p.at' + 1))) := by
    rw [Hid, Bool.eq_iff_iff, decide_eq_true_iff, Bool.not_eq_true', List.isEmpty_eq_false_iff, ByteArray.toList_eq]
    constructor
    · intro h
      by_cases h2 : p.at' + 1 < labF s 8 (p.at' + 1)
      · exact h2
      · exfalso
        apply h
        apply List.length_eq_zero_iff.1
        show (s.extract (p.at' + 1) (labF s 8 (p.at' + 1))).size = 0
        omega
    · intro h e
      have : (s.extract (p.at' + 1) (labF s 8 (p.at' + 1))).data.toList.length = 0 := by rw [e]; rfl
      have h3 : (s.extract (p.at' + 1) (labF s 8 (p.at' + 1))).size = 0 := this
      omega
  clear hr
  go_enter Tryz.func163, Tryz.ntmps163
  go_wp2_with fail
  refine (label_any b s { p with at' := p.at' + 1 } cv lv false _ HK2.out hn hn2).mono ?_
  rintro e w1 ⟨lv', rfl, hk1, hf1⟩
  have HK1 : Hid (Rk w1 b s (p.label s (p.at' + 1) false) cv lv') := hk1
  have HF1 : Hid (Fq b cv cv lv lv' w w1) := HF2.out.trans hf1
  clear hk1 hf1
  simp only
  go_wp2_with fail
  exact bodyPost_ret (v := .bool (decide (p.at' + 1 < labF s 8 (p.at' + 1)))) (by rw [← HD.out]; simp [results, Tryz.results163, go_sem]) rfl ⟨lv', rfl, HK1.out, HF1.out⟩
end Rs
end Go.Proofs.YtppjlpihaocdiaaGreatDoor
