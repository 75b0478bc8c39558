/- Several texts in one. -/
import Derived.Test.YtppjlpihaocdiaaRefToldJ
import Derived.Test.YtppjlpihaocdiaaDgSpecJ
/- What the document gives each bracket, in memory: the list of spans beside the field. -/
set_option linter.unusedSimpArgs false
set_option linter.unusedVariables false
namespace Go.Proofs.Ytppjlpihaocdiaa
namespace Dg
open Go.RowKit

/-- All that was there is as it was, but the two tables and the list of spans. -/
structure Fg (p : Fp) (ob : Option Nat) (w w' : World) : Prop where
  os : w'.os = w.os
  tape : w'.tape = w.tape
  output : w'.output = w.output
  size : w.heap.size ≤ w'.heap.size
  block : ∀ k, k < w.heap.size → k ≠ p.kb → k ≠ p.eb → ob ≠ some k → w'.heap[k]? = w.heap[k]?

theorem Fg.refl (p : Fp) (ob : Option Nat) (w : World) : Fg p ob w w := ⟨rfl, rfl, rfl, Nat.le_refl _, fun _ _ _ _ _ => rfl⟩
theorem Fg.trans {p : Fp} {ob : Option Nat} {u v w : World} (h : Fg p ob u v) (k : Fg p ob v w) : Fg p ob u w :=
  ⟨k.os.trans h.os, k.tape.trans h.tape, k.output.trans h.output, Nat.le_trans h.size k.size, fun i hi h1 h2 h3 => (k.block i (Nat.lt_of_lt_of_le hi h.size) h1 h2 h3).trans (h.block i hi h1 h2 h3)⟩
theorem Fm.fg {p : Fp} {ob : Option Nat} {w w' : World} (h : Fm p w w') : Fg p ob w w' := ⟨h.os, h.tape, h.output, h.size, fun k hk h1 h2 _ => h.block k hk h1 h2⟩

/-- The field, and what the brackets have got so far; since w nothing else has turned. -/
structure Gs (w wr : World) (p : Fp) (ob : Option Nat) (c : Caps) : Prop where
  fd : FieldAt wr p
  c4 : ∃ ao cap, wr.cell? ⟨p.fb, 4, none⟩ = some (.slice ao c.length cap) ∧ ∀ o, ob = some o → ao = some ⟨o, 0, none⟩
  cs : ∀ (k : Nat) (q : Int × Int), c[k]? = some q → ∃ o, ob = some o ∧ wr.cell? ⟨o, k * 2, none⟩ = some (.int .i64 q.1) ∧ wr.cell? ⟨o, k * 2 + 1, none⟩ = some (.int .i64 q.2) ∧ wr.frozen? ⟨o, k * 2, none⟩ = false ∧ wr.frozen? ⟨o, k * 2 + 1, none⟩ = false
  fr : Fg p ob w wr
  ap : ∀ o, ob = some o → p.N0 ≤ o ∧ o ≠ p.fb ∧ o ≠ p.kb ∧ o ≠ p.eb ∧ o < wr.heap.size

section
variable {w wr w' : World} {p : Fp} {ob : Option Nat} {c : Caps}

theorem Gs.base (h : Gs w wr p ob c) : Gs wr wr p ob c := ⟨h.fd, h.c4, h.cs, Fg.refl _ _ _, h.ap⟩
theorem Gs.trans (h : Gs w wr p ob c) {c' : Caps} (k : Gs wr w' p ob c') : Gs w w' p ob c' := ⟨k.fd, k.c4, k.cs, h.fr.trans k.fr, k.ap⟩

/-- The blocks of the list and of the field's head are as they were. -/
theorem Gs.keep (h : Gs w wr p ob c) (hf : FieldAt w' p) (hb : w'.heap[p.fb]? = wr.heap[p.fb]?) (ho : ∀ o, ob = some o → w'.heap[o]? = wr.heap[o]?) (hg : Fg p ob w w') (hs : wr.heap.size ≤ w'.heap.size) : Gs w w' p ob c := by
  obtain ⟨ao, cap, h4, h5⟩ := h.c4
  refine ⟨hf, ⟨ao, cap, (World.cell?_of_block (w := wr) (w' := w') (a := ⟨p.fb, 4, none⟩) hb).trans h4, h5⟩, fun k q hq => ?_, hg, fun o e => ?_⟩
  · obtain ⟨o, e, a1, a2, a3, a4⟩ := h.cs k q hq
    have hc : ∀ x, w'.cell? ⟨o, x, none⟩ = wr.cell? ⟨o, x, none⟩ := fun x => World.cell?_of_block (w := wr) (w' := w') (a := ⟨o, x, none⟩) (ho o e)
    have hz : ∀ x, w'.frozen? ⟨o, x, none⟩ = wr.frozen? ⟨o, x, none⟩ := fun x => World.frozen?_of_block (w := wr) (w' := w') (a := ⟨o, x, none⟩) (ho o e)
    exact ⟨o, e, (hc _).trans a1, (hc _).trans a2, (hz _).trans a3, (hz _).trans a4⟩
  · obtain ⟨a1, a2, a3, a4, a5⟩ := h.ap o e
    exact ⟨a1, a2, a3, a4, by omega⟩

theorem Gs.grow (h : Gs w wr p ob c) (hB : Below wr.heap.size wr w') : Gs w w' p ob c :=
  h.keep (h.fd.grow hB) (hB.block _ h.fd.lt) (fun o e => hB.block _ (h.ap o e).2.2.2.2) (h.fr.trans (Fm.fg (Below.fm hB))) hB.size

theorem Gs.drewN (h : Gs w wr p ob c) (n : Nat) : Gs w (wr.drewN n) p ob c := h.grow ⟨rfl, rfl, rfl, Nat.le_refl _, fun _ _ => rfl⟩

theorem Gs.fm (h : Gs w wr p ob c) (hf : FieldAt w' p) (hm : Fm p wr w') : Gs w w' p ob c :=
  h.keep hf (hm.block _ h.fd.lt h.fd.fk h.fd.fe) (fun o e => hm.block _ (h.ap o e).2.2.2.2 (h.ap o e).2.2.1 (h.ap o e).2.2.2.1) (h.fr.trans (Fm.fg hm)) hm.size

theorem Gs.sole (h : Gs w wr p ob c) {b : Nat} (hs : Sole b wr w') (hb : w.heap.size ≤ b) (h1 : p.N0 ≤ b) (h2 : b ≠ p.fb) (h3 : b ≠ p.kb) (h4 : b ≠ p.eb) (h5 : ob ≠ some b) : Gs w w' p ob c :=
  h.keep (h.fd.sole hs h1 h2 h3 h4) (hs.block _ (fun e => h2 e.symm)) (fun o e => hs.block _ (fun e' => h5 (by rw [e, e']))) ⟨hs.os.trans h.fr.os, hs.tape.trans h.fr.tape, hs.output.trans h.fr.output, by rw [hs.size]; exact h.fr.size, fun k hk k1 k2 k3 => (hs.block k (by omega)).trans (h.fr.block k hk k1 k2 k3)⟩ (by rw [hs.size]; exact Nat.le_refl _)

/-- A bracket gets a stretch. -/
theorem Gs.put (h : Gs w wr p ob c) {k o : Nat} (hk : k < c.length) (ho : ob = some o) (i j : Int) : Gs w ((wr.setCell ⟨o, k * 2, none⟩ (.int .i64 i)).setCell ⟨o, k * 2 + 1, none⟩ (.int .i64 j)) p ob (c.set k (i, j)) := by
  obtain ⟨q1, q2, q3, q4, q5⟩ := h.ap o ho
  have hS : Sole o wr ((wr.setCell ⟨o, k * 2, none⟩ (.int .i64 i)).setCell ⟨o, k * 2 + 1, none⟩ (.int .i64 j)) := ((Sole.refl _ _).setCell _ _).setCell _ _
  obtain ⟨ao, cap, h4, h5⟩ := h.c4
  have hb := hS.block p.fb (fun e => q2 e.symm)
  refine ⟨h.fd.sole hS q1 q2 q3 q4, ⟨ao, cap, ?_, h5⟩, fun x q hq => ?_, ⟨hS.os.trans h.fr.os, hS.tape.trans h.fr.tape, hS.output.trans h.fr.output, by rw [hS.size]; exact h.fr.size, fun x hx k1 k2 k3 => (hS.block x (fun e => k3 (by rw [ho, e]))).trans (h.fr.block x hx k1 k2 k3)⟩, fun o' e => by rw [hS.size]; exact h.ap o' e⟩
  · rw [List.length_set]
    exact (World.cell?_of_block (w := wr) (a := ⟨p.fb, 4, none⟩) hb).trans h4
  · have hx : x < c.length := by
      have := (List.getElem?_eq_some_iff.1 hq).1
      simpa using this
    obtain ⟨o', e', a1, a2, a3, a4⟩ := h.cs x c[x] (List.getElem?_eq_getElem hx)
    rw [ho] at e'
    cases e'
    obtain ⟨o2, e2, b1, b2, b3, b4⟩ := h.cs k c[k] (List.getElem?_eq_getElem hk)
    rw [ho] at e2
    cases e2
    refine ⟨o, ho, ?_, ?_, by rw [World.frozen?_setCell, World.frozen?_setCell]; exact a3, by rw [World.frozen?_setCell, World.frozen?_setCell]; exact a4⟩
    · rw [World.cell?_setCell_other (h := fun e => by injection e with _ e _; omega)]
      by_cases hxk : x = k
      · subst hxk
        rw [List.getElem?_set_self hk] at hq
        cases hq
        rw [World.cell?_setCell_same (h := a1)]
      · rw [List.getElem?_set_ne (fun e => hxk e.symm)] at hq
        rw [List.getElem?_eq_getElem hx] at hq
        cases hq
        rw [World.cell?_setCell_other (h := fun e => by injection e with _ e _; omega)]
        exact a1
    · by_cases hxk : x = k
      · subst hxk
        rw [List.getElem?_set_self hk] at hq
        cases hq
        exact World.cell?_setCell_same (h := (World.cell?_setCell_other (h := fun e => by injection e with _ e _; omega) ..).trans a2) ..
      · rw [List.getElem?_set_ne (fun e => hxk e.symm)] at hq
        rw [List.getElem?_eq_getElem hx] at hq
        cases hq
        rw [World.cell?_setCell_other (h := fun e => by injection e with _ e _; omega), World.cell?_setCell_other (h := fun e => by injection e with _ e _; omega)]
        exact a2
end

/-- What 'gives' does at a node. -/
def GivesAt (p : Fp) (n : Nat) : Prop := ∀ (w : World) (i j : Nat) (c : Caps) (ob : Option Nat), Gs w w p ob c → c.length = p.groups → i ≤ j → j ≤ p.s.size → Mat p.s p.nodes n i j →
    Calls Try.prog 62 #[.pointer (some ⟨p.fb, 0, none⟩), .int .i64 n, .int .i64 i, .int .i64 j] w fun e w' => e = .returned (.tuple #[]) ∧ ∃ c', Gq p.s p.nodes n i j c c' ∧ c'.length = c.length ∧ Gs w w' p ob c'

/-- Within 'gives': the node lies in block w.heap.size. -/
structure Gl (w wr : World) (p : Fp) (ob : Option Nat) (c : Caps) (d : Nd) (ao : Option Addr) (cc : Nat) : Prop where
  gs : Gs w wr p ob c
  nd : Row wr w.heap.size (ndL d (.slice ao d.subs.length cc))
  fl : p.fb < w.heap.size
  kl : p.kb < w.heap.size
  el : p.eb < w.heap.size
  ol : ∀ o, ob = some o → o < w.heap.size
  nl : p.N0 ≤ w.heap.size
  sa : SubsAt wr p.N0 d ao

section
variable {w wr w' : World} {p : Fp} {ob : Option Nat} {c : Caps} {d : Nd} {ao : Option Addr} {cc : Nat}

theorem Gl.lt (h : Gl w wr p ob c d ao cc) : w.heap.size < wr.heap.size := h.nd.lt (by rw [ndL_length]; omega)

theorem Fg.below {p : Fp} {ob : Option Nat} {w w' : World} (h : Fg p ob w w') (hk : p.N0 ≤ p.kb) (he : p.N0 ≤ p.eb) (ho : ∀ o, ob = some o → p.N0 ≤ o) (hl : p.N0 ≤ w.heap.size) : Below p.N0 w w' :=
  ⟨h.os, h.tape, h.output, h.size, fun k hk' => h.block k (by omega) (by omega) (by omega) (fun e => by have := ho k e; omega)⟩

theorem Gl.call (h : Gl w wr p ob c d ao cc) {c' : Caps} (k : Gs wr w' p ob c') : Gl w w' p ob c' d ao cc := by
  have hl := h.lt
  have hkl := h.kl
  have hel := h.el
  refine ⟨h.gs.trans k, h.nd.of_block (k.fr.block _ hl (by omega) (by omega) (fun e => by have := h.ol _ e; omega)), h.fl, h.kl, h.el, h.ol, h.nl, h.sa.below (Fg.below k.fr h.gs.fd.nk h.gs.fd.ne (fun o e => (h.gs.ap o e).1) (by have := h.nl; omega))⟩

theorem Gl.fm (h : Gl w wr p ob c d ao cc) (hf : FieldAt w' p) (hm : Fm p wr w') : Gl w w' p ob c d ao cc := h.call (h.gs.base.fm hf hm)
theorem Gl.grow (h : Gl w wr p ob c d ao cc) (hB : Below wr.heap.size wr w') : Gl w w' p ob c d ao cc := h.call (h.gs.base.grow hB)
theorem Gl.sole (h : Gl w wr p ob c d ao cc) {b : Nat} (hs : Sole b wr w') (hb : w.heap.size < b) : Gl w w' p ob c d ao cc := by
  have hkl := h.kl
  have hel := h.el
  have hfl := h.fl
  have hnl := h.nl
  exact ⟨h.gs.sole hs (by omega) (by omega) (by omega) (by omega) (by omega) (fun e => by have := h.ol b e; omega), h.nd.sole hs (by omega), h.fl, h.kl, h.el, h.ol, h.nl, h.sa.below ⟨hs.os, hs.tape, hs.output, by rw [hs.size]; exact Nat.le_refl _, fun k hk => hs.block k (by omega)⟩⟩
end
end Dg
end Go.Proofs.Ytppjlpihaocdiaa

/- The document's gives: signs, and brackets. -/
set_option linter.unusedSimpArgs false
set_option linter.unusedVariables false
namespace Go.Proofs.Ytppjlpihaocdiaa
namespace Dg
open Go.RowKit

theorem Gl.start {w w3 w4 : World} {p : Fp} {ob : Option Nat} {c : Caps} {d : Nd} {ao : Option Addr} {cc : Nat} (h : Gs w w p ob c) (hB : Below w.heap.size w w3) (hS : Sole w.heap.size w3 w4) (hR : Row w4 w.heap.size (ndL d (.slice ao d.subs.length cc))) (hsa : SubsAt w p.N0 d ao) : Gl w w4 p ob c d ao cc := by
  have hfl := h.fd.lt
  have hkl := h.fd.kl
  have hel := h.fd.el
  have hnf := h.fd.nf
  refine ⟨(h.grow hB).sole hS (Nat.le_refl _) (by omega) (by omega) (by omega) (by omega) (fun e => by have := (h.ap _ e).2.2.2.2; omega), hR, hfl, hkl, hel, fun o e => (h.ap o e).2.2.2.2, by omega, hsa.below ?_⟩
  have hx : Below w.heap.size w w4 := Below.sole hB hS (Nat.le_refl _)
  exact hx.mono (by omega)

attribute [local go_sem ↓] L66_eq S66_eq L73_eq S73_eq Go.wp_at_zero Go.wp_at_succ

set_option maxRecDepth 100000 in
set_option maxHeartbeats 2000000 in
theorem gives_leaf (p : Fp) (n : Nat) (d : Nd) (hd : p.nodes[n]? = some d) (h0 : d.kind = 0 ∨ d.kind = 1 ∨ d.kind = 2) (h3 : ∀ (n : Nat) (d : Nd), p.nodes[n]? = some d → d.kind = 3 → d.subs ≠ []) : GivesAt p n := by
  intro w i j c ob hG hcl hij hj hM
  have HG : Hid (Gs w w p ob c) := hG
  have hI := hG.fd
  have hn : n < p.nodes.length := by
    rcases Nat.lt_or_ge n p.nodes.length with h | h
    · exact h
    · rw [List.getElem?_eq_none h] at hd; cases hd
  have hmany := hI.tree.many
  obtain ⟨ao, cc, hnd, hsub⟩ := hI.tree.node n d hd
  have HND : Hid (w.rangeAt p.nb (n * 261) (ndL d (.slice ao d.subs.length cc))) := hnd
  have HSA : Hid (SubsAt w p.N0 d ao) := hsub
  obtain ⟨cap, t0⟩ := hI.tree.c0
  have f0 := hI.c0
  have k1 : (0 : Int) ≤ (n : Int) := by omega
  have k2 : (n : Int) < (p.nodes.length : Int) := by omega
  have q3 : ((d.kind : Int) == 3) = false := by simp; omega
  have q4 : ((d.kind : Int) == 4) = false := by simp; omega
  have q5 : ((d.kind : Int) == 5) = false := by simp; omega
  have q6 : ((d.kind : Int) == 6) = false := by simp; omega
  have HQ : Hid (Gq p.s p.nodes n i j c c) := by
    rw [Hid, Gq_eq hI.wf h3 hd, if_neg (by omega), if_neg (by omega), if_neg (by omega), if_neg (by omega)]
  clear hG hI hnd hsub hd h0 hM h3
  go_enter Try.func62, Try.ntmps62
  go_wp2_with (first
    | (refine wpList_load_mid rfl 140 (.tmp 25) rfl p.nb (n * 261) rfl (ndL d (.slice ao d.subs.length cc)) _ HND.out Try.underlying140 rfl (Try.size140 _ _) ?_)
    | (refine wpList_alloc_row 8 rfl rfl 140 rfl _ Try.info140 ?_; intro w3 h3 hR3 hB3; have HR3 : Hid (Row w3 w.heap.size (ndL ⟨0, fun _ => false, [], 0, 0, 0⟩ (.slice none 0 0))) := hR3; have HB3 : Hid (Below w.heap.size w w3) := hB3; clear hR3 hB3)
    | (refine wpList_store_row rfl 140 (.tmp 8) (.tmp 26) rfl _ rfl _ rfl _ HR3.out (by rw [ndL_length, ndL_length]) (Try.size140 _ _) (ndL_one _ _ _ _) ?_; intro w4 hR4 hS4; have hL := Gl.start HG.out HB3.out hS4 hR4 HSA.out; have HL : Hid (Gl w w4 p ob c d ao cc) := hL; have n0 := hL.nd.kind; clear hR4 hS4 hL f0 t0))
  exact bodyPost_end (v := .tuple #[]) (by simp [results, Try.results62, go_sem]) rfl ⟨rfl, c, HQ.out, rfl, HL.out.gs⟩

set_option maxRecDepth 100000 in
set_option maxHeartbeats 2000000 in
theorem gives_grp (p : Fp) (n : Nat) (d : Nd) (hd : p.nodes[n]? = some d) (h0 : d.kind = 3) (h3 : ∀ (n : Nat) (d : Nd), p.nodes[n]? = some d → d.kind = 3 → d.subs ≠ []) (x : Nat) (hx1 : d.subs = [x]) (hgx : GivesAt p x) (hsl : d.subs.length ≤ 1000) (hnum : d.num < p.groups) (hgr : p.groups ≤ 1000) : GivesAt p n := by
  intro w i j c ob hG hcl hij hj hM
  have HG : Hid (Gs w w p ob c) := hG
  have hI := hG.fd
  have hn : n < p.nodes.length := by
    rcases Nat.lt_or_ge n p.nodes.length with h | h
    · exact h
    · rw [List.getElem?_eq_none h] at hd; cases hd
  have hmany := hI.tree.many
  have hs80 := hI.s80
  obtain ⟨ao, cc, hnd, hsub⟩ := hI.tree.node n d hd
  have HND : Hid (w.rangeAt p.nb (n * 261) (ndL d (.slice ao d.subs.length cc))) := hnd
  have HSA : Hid (SubsAt w p.N0 d ao) := hsub
  obtain ⟨cap, t0⟩ := hI.tree.c0
  have f0 := hI.c0
  have k1 : (0 : Int) ≤ (n : Int) := by omega
  have k2 : (n : Int) < (p.nodes.length : Int) := by omega
  have q3 : (d.kind : Int) = 3 := by omega
  have hx0 : d.subs[0]? = some x := by rw [hx1]; rfl
  have hgD : d.subs.getD 0 0 = x := by rw [List.getD_eq_getElem?_getD, hx0]; rfl
  have HQ : Hid (∀ c', Gq p.s p.nodes x i j (c.set d.num ((i : Int), (j : Int))) c' → Gq p.s p.nodes n i j c c') := by
    intro c' h
    rw [Gq_eq hI.wf h3 hd, if_pos h0, hgD]
    exact h
  have HM : Hid (Mat p.s p.nodes x i j) := by
    rw [Mat_eq hI.wf hd, if_neg (by omega), if_neg (by omega), if_neg (by omega), if_neg (by omega), if_neg (by omega)] at hM
    obtain ⟨y, hy, hm⟩ := hM
    rw [hx1] at hy
    obtain rfl : y = x := by simpa using hy
    exact hm
  have HX0 : Hid (d.subs[0]? = some x) := hx0
  have HGX : Hid (GivesAt p x) := hgx
  obtain ⟨o, ho⟩ : ∃ o, ob = some o := by
    obtain ⟨o, e, _⟩ := hG.cs d.num c[d.num] (List.getElem?_eq_getElem (by omega))
    exact ⟨o, e⟩
  have hsl1 : (0 : Int) < (d.subs.length : Int) := by rw [hx1]; simp
  have HCN : Hid (d.num < c.length) := by rw [Hid]; omega
  have hcg : c.length ≤ 1000 := by omega
  have HOB : Hid (ob = some o) := ho
  clear hG hI hnd hsub hd h0 hM h3 hgx hx0 hgD hx1 ho
  go_enter Try.func62, Try.ntmps62
  go_upto_region 3 with (first
    | (refine wpList_load_mid rfl 140 (.tmp 25) rfl p.nb (n * 261) rfl (ndL d (.slice ao d.subs.length cc)) _ HND.out Try.underlying140 rfl (Try.size140 _ _) ?_)
    | (refine wpList_alloc_row 8 rfl rfl 140 rfl _ Try.info140 ?_; intro w3 h3 hR3 hB3; have HR3 : Hid (Row w3 w.heap.size (ndL ⟨0, fun _ => false, [], 0, 0, 0⟩ (.slice none 0 0))) := hR3; have HB3 : Hid (Below w.heap.size w w3) := hB3; clear hR3 hB3)
    | (refine wpList_store_row rfl 140 (.tmp 8) (.tmp 26) rfl _ rfl _ rfl _ HR3.out (by rw [ndL_length, ndL_length]) (Try.size140 _ _) (ndL_one _ _ _ _) ?_; intro w4 hR4 hS4; have hL := Gl.start HG.out HB3.out hS4 hR4 HSA.out; have HL : Hid (Gl w w4 p ob c d ao cc) := hL; have n0 := hL.nd.kind; clear hR4 hS4 hL f0 t0))
  obtain ⟨a4, cap4, g4, h4⟩ := HL.out.gs.c4
  have ha4 := h4 o HOB.out
  subst ha4
  obtain ⟨o', e', s1, s2, s3, s4⟩ := HL.out.gs.cs d.num c[d.num] (List.getElem?_eq_getElem HCN.out)
  rw [HOB.out] at e'
  cases e'
  have n258 := HL.out.nd.cell (k := 258) (ndL_tail d _ 1)
  have k3 : (0 : Int) ≤ (d.num : Int) := by omega
  have k4 : (d.num : Int) < (c.length : Int) := by have := HCN.out; omega
  generalize c[d.num].1 = v1 at s1
  generalize c[d.num].2 = v2 at s2
  have HP : Hid (Gl w (((w4.setCell ⟨o, d.num * 2, none⟩ (.int .i64 i)).setCell ⟨o, d.num * 2 + 1, none⟩ (.int .i64 j)).drew) p ob (c.set d.num ((i : Int), (j : Int))) d ao cc) := (HL.out.call (HL.out.gs.base.put HCN.out HOB.out i j)).grow (Below.refl _ _).drew
  clear h4
  go_region
  generalize ((w4.setCell ⟨o, d.num * 2, none⟩ (.int .i64 i)).setCell ⟨o, d.num * 2 + 1, none⟩ (.int .i64 j)).drew = w5 at HP ⊢
  have n257 := HP.out.nd.subs
  obtain ⟨sb, hao, hsb, hcx⟩ := HP.out.sa 0 x HX0.out
  subst hao
  clear s1 s2 s3 s4 g4 n258 n0 HL
  go_wp2_with fail
  refine (HGX.out _ i j _ ob HP.out.gs.base (by rw [List.length_set]; exact hcl) hij hj HM.out).mono ?_
  rintro e w6 ⟨rfl, c6, hg6, hl6, hG6⟩
  have HG6 : Hid (Gs w w6 p ob c6) := HP.out.gs.trans hG6
  have HQ6 : Hid (Gq p.s p.nodes n i j c c6) := HQ.out c6 hg6
  have HL6 : Hid (c6.length = c.length) := by rw [Hid, hl6, List.length_set]
  clear hg6 hl6 hG6
  go_wp2_with fail
  exact bodyPost_end (v := .tuple #[]) (by simp [results, Try.results62, go_sem]) rfl ⟨rfl, c6, HQ6.out, HL6.out, HG6.out⟩
end Dg
end Go.Proofs.Ytppjlpihaocdiaa

/- The document's gives: ways. -/
set_option linter.unusedSimpArgs false
set_option linter.unusedVariables false
namespace Go.Proofs.Ytppjlpihaocdiaa
namespace Dg
open Go.RowKit

attribute [local go_sem ↓] L66_eq S66_eq L73_eq S73_eq Go.wp_at_zero Go.wp_at_succ

theorem drop_cons {l : List Nat} {k x : Nat} (hx : l[k]? = some x) : l.drop k = x :: l.drop (k + 1) := by
  have hl : k < l.length := (List.getElem?_eq_some_iff.1 hx).1
  rw [List.drop_eq_getElem_cons hl]
  rw [List.getElem?_eq_getElem hl] at hx
  cases hx
  rfl

set_option maxRecDepth 100000 in
set_option maxHeartbeats 4000000 in
theorem gives_alt (p : Fp) (n : Nat) (d : Nd) (hd : p.nodes[n]? = some d) (h0 : d.kind = 4) (h3 : ∀ (n : Nat) (d : Nd), p.nodes[n]? = some d → d.kind = 3 → d.subs ≠ []) (hsf : ∀ x ∈ d.subs, x < p.nodes.length ∧ FromAt p x ∧ GivesAt p x) (hsl : d.subs.length ≤ 1000) : GivesAt p n := by
  intro w i j c ob hG hcl hij hj hM
  have HG : Hid (Gs w w p ob c) := hG
  have hI := hG.fd
  have hn : n < p.nodes.length := by
    rcases Nat.lt_or_ge n p.nodes.length with h | h
    · exact h
    · rw [List.getElem?_eq_none h] at hd; cases hd
  have hmany := hI.tree.many
  have hs80 := hI.s80
  obtain ⟨ao, cc, hnd, hsub⟩ := hI.tree.node n d hd
  have HND : Hid (w.rangeAt p.nb (n * 261) (ndL d (.slice ao d.subs.length cc))) := hnd
  have HSA : Hid (SubsAt w p.N0 d ao) := hsub
  obtain ⟨cap, t0⟩ := hI.tree.c0
  have f0 := hI.c0
  have k1 : (0 : Int) ≤ (n : Int) := by omega
  have k2 : (n : Int) < (p.nodes.length : Int) := by omega
  have q3 : (d.kind : Int) = 4 := by omega
  have HQ : Hid (∀ c', altG (Mat p.s p.nodes) (Gq p.s p.nodes) d.subs i j c c' → Gq p.s p.nodes n i j c c') := by
    intro c' h
    rw [Gq_eq hI.wf h3 hd, if_neg (by omega), if_pos h0]
    exact h
  have HSF : Hid (∀ x ∈ d.subs, x < p.nodes.length ∧ FromAt p x ∧ GivesAt p x) := hsf
  have kj : (0 : Int) ≤ (j : Int) := by omega
  have kj2 : (j : Int) < 82 := by omega
  clear hG hI hnd hsub hd h0 hM h3 hsf
  go_enter Try.func62, Try.ntmps62
  go_wp2_with (first
    | (refine wpList_load_mid rfl 140 (.tmp 25) rfl p.nb (n * 261) rfl (ndL d (.slice ao d.subs.length cc)) _ HND.out Try.underlying140 rfl (Try.size140 _ _) ?_)
    | (refine wpList_alloc_row 8 rfl rfl 140 rfl _ Try.info140 ?_; intro w3 h3 hR3 hB3; have HR3 : Hid (Row w3 w.heap.size (ndL ⟨0, fun _ => false, [], 0, 0, 0⟩ (.slice none 0 0))) := hR3; have HB3 : Hid (Below w.heap.size w w3) := hB3; clear hR3 hB3)
    | (refine wpList_store_row rfl 140 (.tmp 8) (.tmp 26) rfl _ rfl _ rfl _ HR3.out (by rw [ndL_length, ndL_length]) (Try.size140 _ _) (ndL_one _ _ _ _) ?_; intro w4 hR4 hS4; have hL := Gl.start HG.out HB3.out hS4 hR4 HSA.out; have HL : Hid (Gl w w4 p ob c d ao cc) := hL; have n0 := hL.nd.kind; clear hR4 hS4 hL f0 t0))
  clear n0
  go_loopw [9] (fun v wr => ∃ k : Nat, k ≤ d.subs.length ∧ v = .int .i64 k ∧ Gl w wr p ob c d ao cc ∧ Hid (∀ c', altG (Mat p.s p.nodes) (Gq p.s p.nodes) (d.subs.drop k) i j c c' → Gq p.s p.nodes n i j c c')) (fun v _ => d.subs.length - (intOf v).toNat)
  case atStart => exact ⟨0, Nat.zero_le _, rfl, HL.out, HQ.out⟩
  case round =>
    obtain ⟨k, hk, rfl, hLr, HA⟩ := hrel
    have HLr : Hid (Gl w wr p ob c d ao cc) := hLr
    have n257 := hLr.nd.subs
    by_cases hlt : k < d.subs.length
    · obtain ⟨x, hx⟩ : ∃ x, d.subs[k]? = some x := ⟨d.subs[k], List.getElem?_eq_getElem hlt⟩
      have hxm : x ∈ d.subs := List.mem_of_getElem? hx
      obtain ⟨sb, hao, hsb, hcx⟩ := hLr.sa k x hx
      subst hao
      have HX : Hid (d.subs[k]? = some x) := hx
      have k3 : (0 : Int) ≤ (k : Int) := by omega
      have k4 : (k : Int) < (d.subs.length : Int) := by omega
      have HXM : Hid (x < p.nodes.length ∧ FromAt p x ∧ GivesAt p x) := HSF.out x hxm
      clear hx hxm hLr HL HG
      go_wp2_with fail
      refine (HXM.out.2.1 _ i HLr.out.gs.fd (by omega)).mono ?_
      rintro e w5 ⟨f5, rfl, hS5, hF5, hM5⟩
      have HL5 : Hid (Gl w w5 p ob c d (some ⟨sb, 0, none⟩) cc) := HLr.out.fm hF5 hM5
      have HS5 : Hid (f5 j = true ↔ Mat p.s p.nodes x i j) := hS5 j (by omega)
      have hl5 := HL5.out.lt
      clear hS5 hF5 hM5 n257 hcx
      have n257 := HL5.out.nd.subs
      obtain ⟨sb', hao', hsb', hcx'⟩ := HL5.out.sa k x HX.out
      cases hao'
      rcases bool_or (f5 j) with hfj | hfj
      · have HM : Hid (Mat p.s p.nodes x i j) := HS5.out.1 hfj
        have HFJ : Hid (f5 j = true) := hfj
        clear hfj
        go_wp2_with (first
          | (refine wpList_alloc_row 10 rfl rfl 114 rfl _ Try.info114 ?_; intro w6 h6 hR6 hB6; have HR6 : Hid (Row w6 w5.heap.size (endsL fun _ => false)) := hR6; have HB6 : Hid (Below w5.heap.size w5 w6) := hB6; clear hR6 hB6)
          | (refine wpList_store_row rfl 114 (.tmp 10) (.tmp 65) rfl _ rfl _ rfl _ HR6.out (by rw [endsL_length, endsL_length]) (Try.size114 _) (endsL_one _) ?_; intro w7 hR7 hS7; have HL7 : Hid (Gl w w7 p ob c d (some ⟨sb, 0, none⟩) cc) := (HL5.out.grow HB6.out).sole hS7 hl5; have e7 := hR7.cell (endsL_at f5 (k := j) (by omega)); rw [HFJ.out] at e7; have m257 := HL7.out.nd.subs; obtain ⟨sb2, hao2, hsb2, hcx2⟩ := HL7.out.sa k x HX.out; cases hao2; clear n257 hcx' hS7))
        refine (HXM.out.2.2 _ i j c ob HL7.out.gs.base hcl hij hj HM.out).mono ?_
        rintro e w8 ⟨rfl, c8, hg8, hl8, hG8⟩
        have HG8 : Hid (Gs w w8 p ob c8) := HL7.out.gs.trans hG8
        have HQ8 : Hid (Gq p.s p.nodes n i j c c8) := HA.out c8 (by rw [drop_cons HX.out]; exact .inl ⟨HM.out, hg8⟩)
        have HC8 : Hid (c8.length = c.length) := hl8
        clear hg8 hl8 hG8
        go_wp2_with fail
        exact bodyPost_ret (v := .tuple #[]) (by simp [results, Try.results62, go_sem]) rfl ⟨rfl, c8, HQ8.out, HC8.out, HG8.out⟩
      · have HM : Hid (¬ Mat p.s p.nodes x i j) := fun h => by rw [HS5.out.2 h] at hfj; cases hfj
        have HFJ : Hid (f5 j = false) := hfj
        clear hfj
        go_wp2_with (first
          | (refine wpList_alloc_row 10 rfl rfl 114 rfl _ Try.info114 ?_; intro w6 h6 hR6 hB6; have HR6 : Hid (Row w6 w5.heap.size (endsL fun _ => false)) := hR6; have HB6 : Hid (Below w5.heap.size w5 w6) := hB6; clear hR6 hB6)
          | (refine wpList_store_row rfl 114 (.tmp 10) (.tmp 65) rfl _ rfl _ rfl _ HR6.out (by rw [endsL_length, endsL_length]) (Try.size114 _) (endsL_one _) ?_; intro w7 hR7 hS7; have HL7 : Hid (Gl w w7 p ob c d (some ⟨sb, 0, none⟩) cc) := (HL5.out.grow HB6.out).sole hS7 hl5; have e7 := hR7.cell (endsL_at f5 (k := j) (by omega)); rw [HFJ.out] at e7; clear n257 hcx' hS7))
        go_roundw
        case rel => exact ⟨k + 1, by omega, by go_num, HL7.out, fun c' h => HA.out c' (by rw [drop_cons HX.out]; exact .inr ⟨HM.out, h⟩)⟩
        case measure => simp [intOf]; omega
    · have HQ8 : Hid (Gq p.s p.nodes n i j c c) := HA.out c (by rw [List.drop_eq_nil_of_le (by omega)]; rfl)
      clear hLr
      go_wp2_with fail
      exact bodyPost_end (v := .tuple #[]) (by simp [results, Try.results62, go_sem]) rfl ⟨rfl, c, HQ8.out, rfl, HLr.out.gs⟩
end Dg
end Go.Proofs.Ytppjlpihaocdiaa

/- An Ends is asked by its index. -/
set_option linter.unusedSimpArgs false
set_option linter.unusedVariables false
namespace Go.Proofs.Ytppjlpihaocdiaa
namespace Dg
open Go.RowKit

/-- An Ends, by value, asked at a place: under a name that the walk does not open. -/
def IX (v u : Value) : Sem Value := Instr.index 114 v u
theorem IX_eq (v u : Value) : Instr.index 114 v u = IX v u := rfl

theorem run_IX (f : Nat → Bool) (j : Nat) (hj : j < 82) (w : World) : (IX (.agg (endsL f).toArray) (.int .i64 (j : Int))).run Try.prog w = .ok (.bool (f j)) w := by
  have hu := Try.underlying114
  have hb := Try.underlying4
  have hat := endsL_at f hj
  have h1 : (0 : Int) ≤ (j : Int) := by omega
  have h2 : (j : Int) < 82 := by omega
  unfold IX Instr.index
  simp [Sem.run_bind, run_underlying hu, asIntOf, h1, h2]
  rw [if_pos hj]
  simp [part, isAgg, Sem.run_bind, run_underlying hb, hat]
end Dg
end Go.Proofs.Ytppjlpihaocdiaa

