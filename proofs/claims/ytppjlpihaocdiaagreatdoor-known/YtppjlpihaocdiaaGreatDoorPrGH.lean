/- Several texts in one. -/
import Derived.Test.YtppjlpihaocdiaaGreatDoorPrCH
import Derived.Deep.AppendLies
import Derived.OwnWalk
/- A part of the proof. -/
set_option linter.unusedSimpArgs false
set_option linter.unusedVariables false
namespace Go.Proofs.YtppjlpihaocdiaaGreatDoor
namespace Rs
open Go.RowKit
theorem own_of {w w' : World} {base : Nat} {e : TypeId} {size n : Nat} {v : Value} {xs : List Value} (h : w.ownsRow base e size v n xs) (hb : ∀ k, v.ownBlock = some k → w'.heap[k]? = w.heap[k]?) : w'.ownsRow base e size v n xs := by
  obtain ⟨h1, h2⟩ := h
  refine ⟨h1, ?_⟩
  rcases h2 with h2 | ⟨g, cap, cur, hv, hg, hh, r⟩
  · exact .inl h2
  · exact .inr ⟨g, cap, cur, hv, hg, by rw [hb g (by rw [hv]; rfl)]; exact hh, r⟩
def pcL (ps : List Pc) : List Value := ps.flatMap fun p => [Value.int .i64 p.grp, Value.int .u8 (p.byte : Int)]
theorem pcL_snoc (ps : List Pc) (p : Pc) : pcL (ps ++ [p]) = pcL ps ++ [Value.int .i64 p.grp, Value.int .u8 (p.byte : Int)] := by simp [pcL]
structure Ti (w wr : World) (b j : Nat) (pv : Value) (ps : List Pc) : Prop where
  mv : Mk b w wr j
  own : wr.ownsRow w.heap.size 293 2 pv ps.length (pcL ps)
theorem Ti.move {w wr w1 : World} {b j j1 : Nat} {pv : Value} {ps : List Pc} (h : Ti w wr b j pv ps) (hb : b < w.heap.size) (hm : Mk b wr w1 j1) : Ti w w1 b j1 pv ps :=
  ⟨h.mv.trans hm, own_of h.own fun k hk => hm.block k (h.own.lt k hk).2 (by have := (h.own.lt k hk).1; omega)⟩
theorem Ti.below {w wr w1 : World} {b j : Nat} {pv : Value} {ps : List Pc} (h : Ti w wr b j pv ps) (hB : Below wr.heap.size wr w1) : Ti w w1 b j pv ps :=
  ⟨h.mv.below hB, own_of h.own fun k hk => hB.block k (h.own.lt k hk).2⟩
theorem Ti.grown {w u w2 : World} {b j gg cap : Nat} {pv : Value} {ps : List Pc} {p : Pc} (h : Ti w u b j pv ps) (hb : b < w.heap.size)
    (hown : w2.ownsRow w.heap.size 293 2 (.slice (some ⟨gg, 0, none⟩) (ps.length + 1) cap) (ps.length + 1) (pcL ps ++ [Value.int .i64 p.grp, Value.int .u8 (p.byte : Int)])) (hg : u.grownBy w2 pv.ownBlock) :
    Ti w w2 b j (.slice (some ⟨gg, 0, none⟩) (ps.length + 1) cap) (ps ++ [p]) := by
  have hbl : b < u.heap.size := World.block_lt_of_cell? u _ h.mv.c1
  have hne : some b ≠ pv.ownBlock := fun e => by have := (h.own.lt b e.symm).1; omega
  have hx := hg.block b hbl hne
  have hc : ∀ k, w2.cell? ⟨b, k, none⟩ = u.cell? ⟨b, k, none⟩ := fun k => World.cell?_of_block (w := u) (w' := w2) (a := ⟨b, k, none⟩) hx
  have hf : ∀ k, w2.frozen? ⟨b, k, none⟩ = u.frozen? ⟨b, k, none⟩ := fun k => World.frozen?_of_block (w := u) (w' := w2) (a := ⟨b, k, none⟩) hx
  refine ⟨⟨hg.os.trans h.mv.os, hg.tape.trans h.mv.tape, hg.output.trans h.mv.output, Nat.le_trans h.mv.size hg.size, fun k hk hkb => ?_, (hc 1).trans h.mv.c1, fun k hk => (hc k).trans (h.mv.cell k hk), fun k => (hf k).trans (h.mv.frz k)⟩, ?_⟩
  · rw [hg.block k (Nat.lt_of_lt_of_le hk h.mv.size) (fun e => by have := (h.own.lt k e.symm).1; omega)]
    exact h.mv.block k hk hkb
  · rw [pcL_snoc, List.length_append]
    exact hown
theorem Tryz.info293 : (Tryz.prog.info? 293).map (fun i => (i.zero, i.size, i.bytes)) = some (some (.agg #[.int .i64 0, .int .u8 0]), 2, 16) := by kernel_rfl
def TempAt (w : World) (lo hi : Nat) (ps : List Pc) (v : Value) : Prop :=
  v.oneCell' = true ∧ hi ≤ w.heap.size ∧ ∀ w' : World, (∀ k, lo ≤ k → k < hi → w'.heap[k]? = w.heap[k]?) → w'.ownsRow lo 293 2 v ps.length (pcL ps)
theorem new_last (u : World) (cs : Array Value) (t : TypeId) {H : Nat} (h : u.heap.size = H) : (u.alloc (.cells cs t)).heap[H]? = some (.cells cs t (0, 0)) := by
  subst h; exact heap_alloc_new u _
set_option maxHeartbeats 1600000 in
theorem template_any (b : Nat) (s : ByteArray) (g i : Nat) (w : World) (hr : Rc w b s i) (hg : g ≤ 9) :
    Calls Tryz.prog 230 #[.pointer (some ⟨b, 0, none⟩), .int .i64 (g : Int)] w fun e w' => ∃ (pa : Option Addr) (pl pc : Nat), e = .returned (.tuple #[.slice pa pl pc, .bool (tempF s g i).2.2]) ∧ Mk b w w' (tempF s g i).1 ∧ (tempF s g i).1 ≤ s.size ∧ ((tempF s g i).2.2 = true → TempAt w' w.heap.size w'.heap.size (tempF s g i).2.1 (.slice pa pl pc)) := by
  have HR : Hid (Rc w b s i) := hr
  have hb : b < w.heap.size := Rc.lt hr
  have hle := hr.le
  have hs := hr.s40
  obtain ⟨i0, hi0, hz0, hz1, hz2⟩ := info_parts Tryz.info293
  clear hr
  generalize hF : tempF s g i = F
  have HF0 : Hid (tempL s g (s.size + 1) i [] = F) := hF
  clear hF
  go_enter Tryz.func230, Tryz.ntmps230
  go_wp2_with fail
  go_loopw [6] (fun v wr => ∃ (j f : Nat) (ps : List Pc), Ti w wr b j v ps ∧ j ≤ s.size ∧ ps.length + i ≤ j ∧ s.size + 1 ≤ f + j ∧ Hid (F = tempL s g f j ps)) (fun _ wr => s.size - atOf wr b)
  case atStart => exact ⟨i, s.size + 1, [], ⟨Mk.stay HR.out, World.ownsRow_nil _ _ _ _⟩, hle, by simp, by omega, HF0.out.symm⟩
  case round =>
    obtain ⟨j, f, ps, hT, hj, hps, hf, HF⟩ := hrel
    have HT : Hid (Ti w wr b j u6 ps) := hT
    have HRj : Hid (Rc wr b s j) := hT.mv.rc HR.out hj
    have HAT : Hid (atOf wr b = j) := atOf_is hT.mv.c1
    clear hT
    have HF1 : Hid (F = if pk s j = 47 then (j + 1, ps, true) else if (pieceF s g j).2.2 = true then tempL s g (f - 1) (pieceF s g j).1 (ps ++ [(pieceF s g j).2.1]) else ((pieceF s g j).1, [], false)) := by
      rw [Hid, HF.out]
      conv => lhs; rw [show f = (f - 1) + 1 by omega, tempL]
    by_cases h47 : pk s j = ((47 : Nat) : Int)
    · have HI : Hid (pk s j = ((47 : Nat) : Int)) := h47
      obtain ⟨hlt, _⟩ := pk_byte (s := s) (i := j) (by rw [h47]; decide)
      have HF2 : Hid (F = (j + 1, ps, true)) := by rw [Hid, HF1.out, if_pos (by rw [h47]; rfl)]
      clear h47 HF1
      go_wp2_with fail
      refine (acceptY b s j 47 _ HRj.out (by omega) HI.out).mono ?_
      rintro e w1 ⟨rfl, hm⟩
      have HT1 : Hid (Ti w w1 b (j + 1) u6 ps) := HT.out.move hb (.mv hm)
      clear hm
      go_wp2_with fail
      go_ret2
      rw [HF2.out]
      obtain ⟨pa, pl, pc, rfl⟩ : ∃ pa pl pc, u6 = .slice pa pl pc := by
        rcases HT1.out.own.2 with ⟨e, _⟩ | ⟨_, _, _, e, _⟩ <;> exact ⟨_, _, _, e⟩
      refine ⟨pa, pl, pc, rfl, HT1.out.mv, by simp only; omega, fun _ => ⟨rfl, Nat.le_refl _, fun w' hw' => own_of HT1.out.own fun k hk => hw' k (HT1.out.own.lt k hk).1 (HT1.out.own.lt k hk).2⟩⟩
    · have HI : Hid (pk s j ≠ ((47 : Nat) : Int)) := h47
      have HF2 : Hid (F = if (pieceF s g j).2.2 = true then tempL s g (f - 1) (pieceF s g j).1 (ps ++ [(pieceF s g j).2.1]) else ((pieceF s g j).1, [], false)) := by rw [Hid, HF1.out, if_neg (fun e => h47 (by rw [e]; rfl))]
      clear h47 HF1
      have hpl := pieceF_le s g j hj
      have hpt := pieceF_lt s g j hj
      go_wp2_with fail
      refine (acceptN b s j 47 _ HRj.out (by omega) HI.out).mono ?_
      rintro e w1 ⟨rfl, hm⟩
      have HT1 : Hid (Ti w w1 b j u6 ps) := HT.out.move hb (.mv hm)
      clear hm
      go_wp2_with fail
      refine (piece_any b s g j _ (HT1.out.mv.rc HR.out hj) hg).mono ?_
      generalize pieceF s g j = r at HF2 hpl hpt ⊢
      obtain ⟨j2, ⟨p0, p1⟩, ok⟩ := r
      simp only at hpl hpt HF2 ⊢
      rintro e w2 ⟨rfl, hm⟩
      have HT2 : Hid (Ti w w2 b j2 u6 ps) := HT1.out.move hb hm
      have hsz2 := HT2.out.mv.size
      clear hm
      cases ok with
      | false =>
        have HF3 : Hid (F = (j2, [], false)) := by rw [Hid, HF2.out]; rfl
        clear HF2
        go_wp2_with fail
        go_ret2
        rw [HF3.out]
        exact ⟨_, _, _, rfl, HT2.out.mv.below (by first | exact Below.refl _ _ | exact (((Below.refl _ _).alloc (Nat.le_refl _) _).setCell (by simp) _).setCell (by simp) _ | exact ((Below.refl _ _).alloc (Nat.le_refl _) _)), hpl.1, fun h => by cases h⟩
      | true =>
        have HF3 : Hid (F = tempL s g (f - 1) j2 (ps ++ [⟨p0, p1⟩])) := by rw [Hid, HF2.out]; rfl
        have hj2 := hpt rfl
        have HOW : Hid (∀ u, Below w2.heap.size w2 u → Ti w u b j2 u6 ps) := fun u h => HT2.out.below h
        clear HF2 hpt
        go_wp2_with (at_builtin; refine wpList_append_lies _ rfl _ _ 196 rfl w.heap.size 293 i0 (.agg #[.int .i64 0, .int .u8 0]) 2 16 Tryz.underlying196 hi0 hz0 hz1 hz2 rfl (by omega) u6 ps.length (pcL ps) rfl (HOW.out _ (((Below.refl _ _).alloc (Nat.le_refl _) _).alloc (by simp) _)).own ⟨w2.heap.size + 1, 0, none⟩ 1 1 [Value.int .i64 p0, Value.int .u8 (p1 : Int)] rfl rfl (World.news_of_block (cs := #[Value.int .i64 p0, Value.int .u8 (p1 : Int)]) (t := 293) (fr := (0, 0)) (new_last _ _ _ (by simp))) (by simp [Value.oneCell']) (by omega) (by unfold maxLen; omega) (by omega) (by simp; omega) (w2.heap.size + 2) (by simp) ?_; intro gg cap w3 hown3 hgrow hat hlt3; have HT3 : Hid (Ti w w3 b j2 (.slice (some ⟨gg, 0, none⟩) (ps.length + 1) cap) (ps ++ [⟨p0, p1⟩])) := (HOW.out _ (((Below.refl _ _).alloc (Nat.le_refl _) _).alloc (by simp) _)).grown hb hown3 hgrow; clear hown3 hgrow hat hlt3)
        go_roundw
        case rel => exact ⟨j2, f - 1, ps ++ [(⟨p0, p1⟩ : Pc)], HT3.out, hpl.1, by simp; omega, by omega, HF3⟩
        case measure =>
          have a1 := atOf_is HT3.out.mv.c1
          have a2 := HAT.out
          rw [a1, a2]
          omega
end Rs
end Go.Proofs.YtppjlpihaocdiaaGreatDoor

/- A part of the proof. -/
set_option linter.unusedSimpArgs false
set_option linter.unusedVariables false
namespace Go.Proofs.YtppjlpihaocdiaaGreatDoor
namespace Rs
open Go.RowKit
structure Fl (b P : Nat) (w w' : World) (j : Nat) (a p : Bool) (n : Nat) : Prop where
  os : w'.os = w.os
  tape : w'.tape = w.tape
  output : w'.output = w.output
  size : w'.heap.size = w.heap.size
  block : ∀ k, k ≠ b → k ≠ P → w'.heap[k]? = w.heap[k]?
  c1 : w'.cell? ⟨b, 1, none⟩ = some (.int .i64 j)
  cell : ∀ k, k ≠ 1 → w'.cell? ⟨b, k, none⟩ = w.cell? ⟨b, k, none⟩
  frz : ∀ k, w'.frozen? ⟨b, k, none⟩ = w.frozen? ⟨b, k, none⟩
  p4 : w'.cell? ⟨P, 4, none⟩ = some (.int .i64 (n : Int))
  p5 : w'.cell? ⟨P, 5, none⟩ = some (.bool a)
  p6 : w'.cell? ⟨P, 6, none⟩ = some (.bool p)
  pc : ∀ k, k < 4 → w'.cell? ⟨P, k, none⟩ = w.cell? ⟨P, k, none⟩
  pf : ∀ k, w'.frozen? ⟨P, k, none⟩ = w.frozen? ⟨P, k, none⟩
theorem Fl.drewN {b P j n : Nat} {a p : Bool} {w w' : World} (h : Fl b P w w' j a p n) (k : Nat) : Fl b P w (w'.drewN k) j a p n :=
  ⟨h.os, h.tape, h.output, h.size, h.block, h.c1, h.cell, h.frz, h.p4, h.p5, h.p6, h.pc, h.pf⟩
theorem ad_ne {b c i k : Nat} (h : b ≠ c ∨ i ≠ k) : (⟨b, i, none⟩ : Addr) ≠ ⟨c, k, none⟩ := fun e => by
  injection e with e1 e2
  rcases h with h | h
  · exact h e1
  · exact h e2
theorem Fl.go {b P j n : Nat} {a p : Bool} {w w' : World} (h : Fl b P w w' j a p n) (hne : b ≠ P) {v : Int} (j2 : Nat) (hv : v = j2) : Fl b P w (w'.setCell ⟨b, 1, none⟩ (.int .i64 v)) j2 a p n := by
  subst hv
  have o : ∀ c k, (b ≠ c ∨ 1 ≠ k) → (w'.setCell ⟨b, 1, none⟩ (.int .i64 (j2 : Int))).cell? ⟨c, k, none⟩ = w'.cell? ⟨c, k, none⟩ := fun c k hk => World.cell?_setCell_other (h := ad_ne hk) ..
  exact ⟨h.os, h.tape, h.output, by rw [size_set]; exact h.size, fun k h1 h2 => by rw [Below.heap_setCell _ _ _ _ h1]; exact h.block k h1 h2, World.cell?_setCell_same _ _ _ h.c1, fun k hk => (o b k (.inr (Ne.symm hk))).trans (h.cell k hk), fun k => by rw [World.frozen?_setCell]; exact h.frz k,
    (o P 4 (.inl hne)).trans h.p4, (o P 5 (.inl hne)).trans h.p5, (o P 6 (.inl hne)).trans h.p6, fun k hk => (o P k (.inl hne)).trans (h.pc k hk), fun k => by rw [World.frozen?_setCell]; exact h.pf k⟩
theorem Fl.at5 {b P j n : Nat} {a p : Bool} {w w' : World} (h : Fl b P w w' j a p n) (hne : b ≠ P) (v : Bool) : Fl b P w (w'.setCell ⟨P, 5, none⟩ (.bool v)) j v p n := by
  have o : ∀ c k, (P ≠ c ∨ 5 ≠ k) → (w'.setCell ⟨P, 5, none⟩ (.bool v)).cell? ⟨c, k, none⟩ = w'.cell? ⟨c, k, none⟩ := fun c k hk => World.cell?_setCell_other (h := ad_ne hk) ..
  exact ⟨h.os, h.tape, h.output, by rw [size_set]; exact h.size, fun k h1 h2 => by rw [Below.heap_setCell _ _ _ _ h2]; exact h.block k h1 h2, (o b 1 (.inl (Ne.symm hne))).trans h.c1, fun k hk => (o b k (.inl (Ne.symm hne))).trans (h.cell k hk), fun k => by rw [World.frozen?_setCell]; exact h.frz k,
    (o P 4 (.inr (by omega))).trans h.p4, World.cell?_setCell_same _ _ _ h.p5, (o P 6 (.inr (by omega))).trans h.p6, fun k hk => (o P k (.inr (by omega))).trans (h.pc k hk), fun k => by rw [World.frozen?_setCell]; exact h.pf k⟩
theorem Fl.at6 {b P j n : Nat} {a p : Bool} {w w' : World} (h : Fl b P w w' j a p n) (hne : b ≠ P) (v : Bool) : Fl b P w (w'.setCell ⟨P, 6, none⟩ (.bool v)) j a v n := by
  have o : ∀ c k, (P ≠ c ∨ 6 ≠ k) → (w'.setCell ⟨P, 6, none⟩ (.bool v)).cell? ⟨c, k, none⟩ = w'.cell? ⟨c, k, none⟩ := fun c k hk => World.cell?_setCell_other (h := ad_ne hk) ..
  exact ⟨h.os, h.tape, h.output, by rw [size_set]; exact h.size, fun k h1 h2 => by rw [Below.heap_setCell _ _ _ _ h2]; exact h.block k h1 h2, (o b 1 (.inl (Ne.symm hne))).trans h.c1, fun k hk => (o b k (.inl (Ne.symm hne))).trans (h.cell k hk), fun k => by rw [World.frozen?_setCell]; exact h.frz k,
    (o P 4 (.inr (by omega))).trans h.p4, (o P 5 (.inr (by omega))).trans h.p5, World.cell?_setCell_same _ _ _ h.p6, fun k hk => (o P k (.inr (by omega))).trans (h.pc k hk), fun k => by rw [World.frozen?_setCell]; exact h.pf k⟩
theorem Fl.at4 {b P j n : Nat} {a p : Bool} {w w' : World} (h : Fl b P w w' j a p n) (hne : b ≠ P) {v : Int} (m : Nat) (hv : v = m) : Fl b P w (w'.setCell ⟨P, 4, none⟩ (.int .i64 v)) j a p m := by
  subst hv
  have o : ∀ c k, (P ≠ c ∨ 4 ≠ k) → (w'.setCell ⟨P, 4, none⟩ (.int .i64 (m : Int))).cell? ⟨c, k, none⟩ = w'.cell? ⟨c, k, none⟩ := fun c k hk => World.cell?_setCell_other (h := ad_ne hk) ..
  exact ⟨h.os, h.tape, h.output, by rw [size_set]; exact h.size, fun k h1 h2 => by rw [Below.heap_setCell _ _ _ _ h2]; exact h.block k h1 h2, (o b 1 (.inl (Ne.symm hne))).trans h.c1, fun k hk => (o b k (.inl (Ne.symm hne))).trans (h.cell k hk), fun k => by rw [World.frozen?_setCell]; exact h.frz k,
    World.cell?_setCell_same _ _ _ h.p4, (o P 5 (.inr (by omega))).trans h.p5, (o P 6 (.inr (by omega))).trans h.p6, fun k hk => (o P k (.inr (by omega))).trans (h.pc k hk), fun k => by rw [World.frozen?_setCell]; exact h.pf k⟩
theorem Fl.rc {b P i j n : Nat} {a p : Bool} {w w' : World} {s : ByteArray} (h : Fl b P w w' j a p n) (hr : Rc w b s i) (hj : j ≤ s.size) : Rc w' b s j :=
  ⟨by rw [h.cell 0 (by omega)]; exact hr.c0, h.c1, by rw [h.frz]; exact hr.f1, hj, hr.s40⟩
def flCount (a p : Bool) (n : Nat) : Nat := (if a then 1 else 0) + (if p then 1 else 0) + (if n = 0 then 0 else 1)
theorem flCount_le (a p : Bool) (n : Nat) : flCount a p n ≤ 3 := by
  unfold flCount
  cases a <;> cases p <;> by_cases h : n = 0 <;> simp [h]
theorem num_nxt {s : ByteArray} {i : Nat} (h : nxt s numerals i = true) : i < s.size ∧ 49 ≤ byt s i ∧ byt s i ≤ 57 := by
  simp [nxt] at h
  refine ⟨h.1, ?_⟩
  have h2 := h.2
  simp [inB, numerals] at h2
  omega
set_option maxHeartbeats 3000000 in
theorem flags_any (b P : Nat) (s : ByteArray) (i : Nat) (w : World) (hr : Rc w b s i) (hne : b ≠ P) (h4 : w.cell? ⟨P, 4, none⟩ = some (.int .i64 0)) (h5 : w.cell? ⟨P, 5, none⟩ = some (.bool false)) (h6 : w.cell? ⟨P, 6, none⟩ = some (.bool false)) (hf : ∀ k, k < 7 → w.frozen? ⟨P, k, none⟩ = false) :
    Calls Tryz.prog 231 #[.pointer (some ⟨b, 0, none⟩), .pointer (some ⟨P, 0, none⟩)] w fun e w' => e = .returned (.tuple #[]) ∧ Fl b P w w' (flagF s 4 i false false 0).1 (flagF s 4 i false false 0).2.1 (flagF s 4 i false false 0).2.2.1 (flagF s 4 i false false 0).2.2.2 ∧ (flagF s 4 i false false 0).1 ≤ s.size := by
  have HR : Hid (Rc w b s i) := hr
  have hle := hr.le
  have hs := hr.s40
  have HFR : Hid (∀ k, k < 7 → w.frozen? ⟨P, k, none⟩ = false) := hf
  have HFL : Hid (Fl b P w w i false false 0) := ⟨rfl, rfl, rfl, rfl, fun _ _ _ => rfl, hr.c1, fun _ _ => rfl, fun _ => rfl, h4, h5, h6, fun _ _ => rfl, fun _ => rfl⟩
  clear hr h4 h5 h6 hf
  generalize hF : flagF s 4 i false false 0 = F
  have HF0 : Hid (flagF s 4 i false false 0 = F) := hF
  clear hF
  go_enter Tryz.func231, Tryz.ntmps231
  go_wp2_with fail
  go_loopw [] (fun wr => ∃ (j n : Nat) (a p : Bool), Fl b P w wr j a p n ∧ j ≤ s.size ∧ n ≤ 9 ∧ flCount a p n ≤ 3 ∧ Hid (F = flagF s (4 - flCount a p n) j a p n)) (fun wr => s.size - atOf wr b)
  case atStart => exact ⟨i, 0, false, false, HFL.out, hle, by omega, by simp [flCount], HF0.out.symm⟩
  case round =>
    obtain ⟨j, n, a, p, hL, hj, hn9, hc, HF⟩ := hrel
    have HL : Hid (Fl b P w wr j a p n) := hL
    have HRj : Hid (Rc wr b s j) := hL.rc HR.out hj
    have HAT : Hid (atOf wr b = j) := atOf_is hL.c1
    have HF1 : Hid (F = if a = false ∧ pk s j = 103 then flagF s (3 - flCount a p n) (j + 1) true p n else if p = false ∧ pk s j = 112 then flagF s (3 - flCount a p n) (j + 1) a true n else if n = 0 ∧ nxt s numerals j = true then flagF s (3 - flCount a p n) (j + 1) a p (byt s j - 48) else (j, a, p, max n 1)) := by
      rw [Hid, HF.out]
      conv => lhs; rw [show 4 - flCount a p n = (3 - flCount a p n) + 1 by omega, flagF]
    obtain ⟨ht, ha, hf1, hle', hs'⟩ := HRj.out
    have p4 := hL.p4
    have p5 := hL.p5
    have p6 := hL.p6
    have g4 := (hL.pf 4).trans (HFR.out 4 (by omega))
    have g5 := (hL.pf 5).trans (HFR.out 5 (by omega))
    have g6 := (hL.pf 6).trans (HFR.out 6 (by omega))
    clear hL HF
    by_cases hA : a = false ∧ pk s j = ((103 : Nat) : Int)
    · obtain ⟨rfl, hA⟩ := hA
      have HI : Hid (pk s j = ((103 : Nat) : Int)) := hA
      obtain ⟨hlt, _⟩ := pk_byte (s := s) (i := j) (by rw [hA]; decide)
      have HF2 : Hid (F = flagF s (4 - flCount true p n) (j + 1) true p n) := by
        rw [Hid, HF1.out, if_pos ⟨rfl, by rw [hA]; rfl⟩, show 3 - flCount false p n = 4 - flCount true p n by simp [flCount]; omega]
      have hc2 := flCount_le true p n
      clear hA HF1
      go_wp2_with (go_at_call 100; refine (accept_yes b s j 103 _ HRj.out (by omega) HI.out).mono ?_; rintro e w1 ⟨rfl, n1, rfl⟩)
      go_roundw
      case rel => exact ⟨j + 1, n, true, p, ((HL.out.go hne (j + 1) rfl).drewN n1).at5 hne true, by omega, hn9, hc2, HF2⟩
      case measure =>
        have a1 := atOf_is (((HL.out.go hne (v := (j : Int) + 1) (j + 1) (by omega)).drewN n1).at5 hne true).c1
        have a2 := HAT.out
        rw [a1, a2]
        omega
    · by_cases hB : p = false ∧ pk s j = ((112 : Nat) : Int)
      · obtain ⟨rfl, hB⟩ := hB
        have HI : Hid (pk s j = ((112 : Nat) : Int)) := hB
        have HN103 : Hid (pk s j ≠ ((103 : Nat) : Int)) := by rw [Hid, hB]; decide
        obtain ⟨hlt, _⟩ := pk_byte (s := s) (i := j) (by rw [hB]; decide)
        have HF2 : Hid (F = flagF s (4 - flCount a true n) (j + 1) a true n) := by
          rw [Hid, HF1.out, if_neg (fun h => absurd h.2 (by rw [hB]; decide)), if_pos ⟨rfl, by rw [hB]; rfl⟩, show 3 - flCount a false n = 4 - flCount a true n by simp [flCount]; omega]
        have hc2 := flCount_le a true n
        clear hB HF1 hA
        cases a
        · go_wp2_with fail
          refine (accept_no b s j 103 _ (by first | exact HRj.out | exact HRj.out.drewN _) (by omega) HN103.out).mono ?_
          rintro e w1 ⟨rfl, n103, rfl⟩
          go_wp2_with fail
          refine (accept_yes b s j 112 _ (by first | exact HRj.out | exact HRj.out.drewN _) (by omega) HI.out).mono ?_
          rintro e w1 ⟨rfl, n112, rfl⟩
          go_wp2_with fail
          go_roundw
          case rel => exact ⟨j + 1, n, false, true, (((HL.out.drewN n103).go hne (v := (j : Int) + 1) (j + 1) (by omega)).drewN n112).at6 hne true, by omega, hn9, hc2, HF2⟩
          case measure =>
            have a1 := atOf_is ((((HL.out.drewN n103).go hne (v := (j : Int) + 1) (j + 1) (by omega)).drewN n112).at6 hne true).c1
            have a2 := HAT.out
            rw [a1, a2]
            omega
        · go_wp2_with fail
          refine (accept_yes b s j 112 _ (by first | exact HRj.out | exact HRj.out.drewN _) (by omega) HI.out).mono ?_
          rintro e w1 ⟨rfl, n112, rfl⟩
          go_wp2_with fail
          go_roundw
          case rel => exact ⟨j + 1, n, true, true, ((HL.out.go hne (v := (j : Int) + 1) (j + 1) (by omega)).drewN n112).at6 hne true, by omega, hn9, hc2, HF2⟩
          case measure =>
            have a1 := atOf_is (((HL.out.go hne (v := (j : Int) + 1) (j + 1) (by omega)).drewN n112).at6 hne true).c1
            have a2 := HAT.out
            rw [a1, a2]
            omega
      · by_cases hC : n = 0 ∧ nxt s numerals j = true
        · obtain ⟨rfl, hC⟩ := hC
          obtain ⟨hlt, hd1, hd2⟩ := num_nxt hC
          have HX : Hid (nxt s numerals j = true) := hC
          have hp : pk s j = (byt s j : Int) := pk_in hlt
          have HF2 : Hid (F = flagF s (3 - flCount a p 0) (j + 1) a p (byt s j - 48)) := by
            rw [Hid, HF1.out, if_neg (fun h => hA ⟨h.1, by rw [h.2]; rfl⟩), if_neg (fun h => hB ⟨h.1, by rw [h.2]; rfl⟩), if_pos ⟨rfl, hC⟩]
          generalize byt s j = y at hd1 hd2 hp HF2
          have HP : Hid (pk s j = (y : Int)) := hp
          have HN103 : Hid (pk s j ≠ ((103 : Nat) : Int)) := by rw [Hid, hp]; omega
          have HN112 : Hid (pk s j ≠ ((112 : Nat) : Int)) := by rw [Hid, hp]; omega
          have HF3 : Hid (F = flagF s (4 - flCount a p (y - 48)) (j + 1) a p (y - 48)) := by
            rw [Hid, HF2.out, show 3 - flCount a p 0 = 4 - flCount a p (y - 48) by rw [flCount, flCount, if_pos rfl, if_neg (show ¬ y - 48 = 0 by omega)]; omega]
          have hc2 := flCount_le a p (y - 48)
          clear hA hB hC hp HF1 HF2
          cases a <;> cases p
          · go_wp2_with fail
            refine (accept_no b s j 103 _ (by first | exact HRj.out | exact HRj.out.drewN _) (by omega) HN103.out).mono ?_
            rintro e w1 ⟨rfl, n103, rfl⟩
            go_wp2_with fail
            refine (accept_no b s j 112 _ (by first | exact HRj.out | exact HRj.out.drewN _) (by omega) HN112.out).mono ?_
            rintro e w1 ⟨rfl, n112, rfl⟩
            go_wp2_with fail
            refine (nextIsIn_any b s numerals j _ (by first | exact HRj.out | exact HRj.out.drewN _)).mono ?_
            rw [HX.out]
            rintro e w1 ⟨rfl, nx, rfl⟩
            go_wp2_with fail
            refine (peek_any b s j _ (by first | exact HRj.out | exact HRj.out.drewN _)).mono ?_
            rw [HP.out]
            rintro e w1 ⟨rfl, npk, rfl⟩
            go_wp2_with fail
            go_roundw
            case rel => exact ⟨j + 1, y - 48, false, false, ((HL.out.drewN (n103 + n112 + nx + npk)).at4 hne (v := (y : Int) - 48) (y - 48) (by omega)).go hne (v := (j : Int) + 1) (j + 1) (by omega), by omega, by omega, hc2, HF3⟩
            case measure =>
              have a1 := atOf_is (((HL.out.drewN (n103 + n112 + nx + npk)).at4 hne (v := (y : Int) - 48) (y - 48) (by omega)).go hne (v := (j : Int) + 1) (j + 1) (by omega)).c1
              have a2 := HAT.out
              rw [a1, a2]
              omega
          · go_wp2_with fail
            refine (accept_no b s j 103 _ (by first | exact HRj.out | exact HRj.out.drewN _) (by omega) HN103.out).mono ?_
            rintro e w1 ⟨rfl, n103, rfl⟩
            go_wp2_with fail
            refine (nextIsIn_any b s numerals j _ (by first | exact HRj.out | exact HRj.out.drewN _)).mono ?_
            rw [HX.out]
            rintro e w1 ⟨rfl, nx, rfl⟩
            go_wp2_with fail
            refine (peek_any b s j _ (by first | exact HRj.out | exact HRj.out.drewN _)).mono ?_
            rw [HP.out]
            rintro e w1 ⟨rfl, npk, rfl⟩
            go_wp2_with fail
            go_roundw
            case rel => exact ⟨j + 1, y - 48, false, true, ((HL.out.drewN (n103 + nx + npk)).at4 hne (v := (y : Int) - 48) (y - 48) (by omega)).go hne (v := (j : Int) + 1) (j + 1) (by omega), by omega, by omega, hc2, HF3⟩
            case measure =>
              have a1 := atOf_is (((HL.out.drewN (n103 + nx + npk)).at4 hne (v := (y : Int) - 48) (y - 48) (by omega)).go hne (v := (j : Int) + 1) (j + 1) (by omega)).c1
              have a2 := HAT.out
              rw [a1, a2]
              omega
          · go_wp2_with fail
            refine (accept_no b s j 112 _ (by first | exact HRj.out | exact HRj.out.drewN _) (by omega) HN112.out).mono ?_
            rintro e w1 ⟨rfl, n112, rfl⟩
            go_wp2_with fail
            refine (nextIsIn_any b s numerals j _ (by first | exact HRj.out | exact HRj.out.drewN _)).mono ?_
            rw [HX.out]
            rintro e w1 ⟨rfl, nx, rfl⟩
            go_wp2_with fail
            refine (peek_any b s j _ (by first | exact HRj.out | exact HRj.out.drewN _)).mono ?_
            rw [HP.out]
            rintro e w1 ⟨rfl, npk, rfl⟩
            go_wp2_with fail
            go_roundw
            case rel => exact ⟨j + 1, y - 48, true, false, ((HL.out.drewN (n112 + nx + npk)).at4 hne (v := (y : Int) - 48) (y - 48) (by omega)).go hne (v := (j : Int) + 1) (j + 1) (by omega), by omega, by omega, hc2, HF3⟩
            case measure =>
              have a1 := atOf_is (((HL.out.drewN (n112 + nx + npk)).at4 hne (v := (y : Int) - 48) (y - 48) (by omega)).go hne (v := (j : Int) + 1) (j + 1) (by omega)).c1
              have a2 := HAT.out
              rw [a1, a2]
              omega
          · go_wp2_with fail
            refine (nextIsIn_any b s numerals j _ (by first | exact HRj.out | exact HRj.out.drewN _)).mono ?_
            rw [HX.out]
            rintro e w1 ⟨rfl, nx, rfl⟩
            go_wp2_with fail
            refine (peek_any b s j _ (by first | exact HRj.out | exact HRj.out.drewN _)).mono ?_
            rw [HP.out]
            rintro e w1 ⟨rfl, npk, rfl⟩
            go_wp2_with fail
            go_roundw
            case rel => exact ⟨j + 1, y - 48, true, true, ((HL.out.drewN (nx + npk)).at4 hne (v := (y : Int) - 48) (y - 48) (by omega)).go hne (v := (j : Int) + 1) (j + 1) (by omega), by omega, by omega, hc2, HF3⟩
            case measure =>
              have a1 := atOf_is (((HL.out.drewN (nx + npk)).at4 hne (v := (y : Int) - 48) (y - 48) (by omega)).go hne (v := (j : Int) + 1) (j + 1) (by omega)).c1
              have a2 := HAT.out
              rw [a1, a2]
              omega
        · have HF2 : Hid (F = (j, a, p, max n 1)) := by
            rw [Hid, HF1.out, if_neg (fun h => hA ⟨h.1, by rw [h.2]; rfl⟩), if_neg (fun h => hB ⟨h.1, by rw [h.2]; rfl⟩), if_neg hC]
          clear HF1
          cases a <;> cases p <;> by_cases hn0 : n = 0
          · subst hn0
            have HN103 : Hid (pk s j ≠ ((103 : Nat) : Int)) := fun e => hA ⟨rfl, e⟩
            have HN112 : Hid (pk s j ≠ ((112 : Nat) : Int)) := fun e => hB ⟨rfl, e⟩
            have HX : Hid (nxt s numerals j = false) := by
              rcases bool_or (nxt s numerals j) with h | h
              · exact absurd ⟨rfl, h⟩ hC
              · exact h
            clear hA hB hC
            go_wp2_with fail
            refine (accept_no b s j 103 _ (by first | exact HRj.out | exact HRj.out.drewN _) (by omega) HN103.out).mono ?_
            rintro e w1 ⟨rfl, n103, rfl⟩
            go_wp2_with fail
            refine (accept_no b s j 112 _ (by first | exact HRj.out | exact HRj.out.drewN _) (by omega) HN112.out).mono ?_
            rintro e w1 ⟨rfl, n112, rfl⟩
            go_wp2_with fail
            refine (nextIsIn_any b s numerals j _ (by first | exact HRj.out | exact HRj.out.drewN _)).mono ?_
            rw [HX.out]
            rintro e w1 ⟨rfl, nx, rfl⟩
            go_wp2_with fail
            rw [HF2.out]
            exact bodyPost_ret (v := .tuple #[]) (by simp [results, Tryz.results231, go_sem]) rfl ⟨rfl, (HL.out.drewN (n103 + n112 + nx)).at4 hne _ (by rfl), hj⟩
          · have HN103 : Hid (pk s j ≠ ((103 : Nat) : Int)) := fun e => hA ⟨rfl, e⟩
            have HN112 : Hid (pk s j ≠ ((112 : Nat) : Int)) := fun e => hB ⟨rfl, e⟩
            have hnz : ((n : Int) == 0) = false := beq_false_of_ne (by omega)
            clear hA hB hC
            go_wp2_with fail
            refine (accept_no b s j 103 _ (by first | exact HRj.out | exact HRj.out.drewN _) (by omega) HN103.out).mono ?_
            rintro e w1 ⟨rfl, n103, rfl⟩
            go_wp2_with fail
            refine (accept_no b s j 112 _ (by first | exact HRj.out | exact HRj.out.drewN _) (by omega) HN112.out).mono ?_
            rintro e w1 ⟨rfl, n112, rfl⟩
            go_wp2_with fail
            rw [HF2.out]
            exact bodyPost_ret (v := .tuple #[]) (by simp [results, Tryz.results231, go_sem]) rfl ⟨rfl, (HL.out.drewN (n103 + n112)).at4 hne _ (by show max (n : Int) 1 = ((max n 1 : Nat) : Int); omega), hj⟩
          · subst hn0
            have HN103 : Hid (pk s j ≠ ((103 : Nat) : Int)) := fun e => hA ⟨rfl, e⟩
            have HX : Hid (nxt s numerals j = false) := by
              rcases bool_or (nxt s numerals j) with h | h
              · exact absurd ⟨rfl, h⟩ hC
              · exact h
            clear hA hB hC
            go_wp2_with fail
            refine (accept_no b s j 103 _ (by first | exact HRj.out | exact HRj.out.drewN _) (by omega) HN103.out).mono ?_
            rintro e w1 ⟨rfl, n103, rfl⟩
            go_wp2_with fail
            refine (nextIsIn_any b s numerals j _ (by first | exact HRj.out | exact HRj.out.drewN _)).mono ?_
            rw [HX.out]
            rintro e w1 ⟨rfl, nx, rfl⟩
            go_wp2_with fail
            rw [HF2.out]
            exact bodyPost_ret (v := .tuple #[]) (by simp [results, Tryz.results231, go_sem]) rfl ⟨rfl, (HL.out.drewN (n103 + nx)).at4 hne _ (by rfl), hj⟩
          · have HN103 : Hid (pk s j ≠ ((103 : Nat) : Int)) := fun e => hA ⟨rfl, e⟩
            have hnz : ((n : Int) == 0) = false := beq_false_of_ne (by omega)
            clear hA hB hC
            go_wp2_with fail
            refine (accept_no b s j 103 _ (by first | exact HRj.out | exact HRj.out.drewN _) (by omega) HN103.out).mono ?_
            rintro e w1 ⟨rfl, n103, rfl⟩
            go_wp2_with fail
            rw [HF2.out]
            exact bodyPost_ret (v := .tuple #[]) (by simp [results, Tryz.results231, go_sem]) rfl ⟨rfl, (HL.out.drewN (n103)).at4 hne _ (by show max (n : Int) 1 = ((max n 1 : Nat) : Int); omega), hj⟩
          · subst hn0
            have HN112 : Hid (pk s j ≠ ((112 : Nat) : Int)) := fun e => hB ⟨rfl, e⟩
            have HX : Hid (nxt s numerals j = false) := by
              rcases bool_or (nxt s numerals j) with h | h
              · exact absurd ⟨rfl, h⟩ hC
              · exact h
            clear hA hB hC
            go_wp2_with fail
            refine (accept_no b s j 112 _ (by first | exact HRj.out | exact HRj.out.drewN _) (by omega) HN112.out).mono ?_
            rintro e w1 ⟨rfl, n112, rfl⟩
            go_wp2_with fail
            refine (nextIsIn_any b s numerals j _ (by first | exact HRj.out | exact HRj.out.drewN _)).mono ?_
            rw [HX.out]
            rintro e w1 ⟨rfl, nx, rfl⟩
            go_wp2_with fail
            rw [HF2.out]
            exact bodyPost_ret (v := .tuple #[]) (by simp [results, Tryz.results231, go_sem]) rfl ⟨rfl, (HL.out.drewN (n112 + nx)).at4 hne _ (by rfl), hj⟩
          · have HN112 : Hid (pk s j ≠ ((112 : Nat) : Int)) := fun e => hB ⟨rfl, e⟩
            have hnz : ((n : Int) == 0) = false := beq_false_of_ne (by omega)
            clear hA hB hC
            go_wp2_with fail
            refine (accept_no b s j 112 _ (by first | exact HRj.out | exact HRj.out.drewN _) (by omega) HN112.out).mono ?_
            rintro e w1 ⟨rfl, n112, rfl⟩
            go_wp2_with fail
            rw [HF2.out]
            exact bodyPost_ret (v := .tuple #[]) (by simp [results, Tryz.results231, go_sem]) rfl ⟨rfl, (HL.out.drewN (n112)).at4 hne _ (by show max (n : Int) 1 = ((max n 1 : Nat) : Int); omega), hj⟩
          · subst hn0
            have HX : Hid (nxt s numerals j = false) := by
              rcases bool_or (nxt s numerals j) with h | h
              · exact absurd ⟨rfl, h⟩ hC
              · exact h
            clear hA hB hC
            go_wp2_with fail
            refine (nextIsIn_any b s numerals j _ (by first | exact HRj.out | exact HRj.out.drewN _)).mono ?_
            rw [HX.out]
            rintro e w1 ⟨rfl, nx, rfl⟩
            go_wp2_with fail
            rw [HF2.out]
            exact bodyPost_ret (v := .tuple #[]) (by simp [results, Tryz.results231, go_sem]) rfl ⟨rfl, (HL.out.drewN (nx)).at4 hne _ (by rfl), hj⟩
          · have hnz : ((n : Int) == 0) = false := beq_false_of_ne (by omega)
            clear hA hB hC
            go_wp2_with fail
            rw [HF2.out]
            exact bodyPost_ret (v := .tuple #[]) (by simp [results, Tryz.results231, go_sem]) rfl ⟨rfl, HL.out.at4 hne _ (by show max (n : Int) 1 = ((max n 1 : Nat) : Int); omega), hj⟩
end Rs
end Go.Proofs.YtppjlpihaocdiaaGreatDoor

