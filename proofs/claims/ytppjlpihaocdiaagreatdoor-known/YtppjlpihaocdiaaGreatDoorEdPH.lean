/- Several texts in one. -/
import Derived.Test.YtppjlpihaocdiaaGreatDoorDecDH
import Derived.Test.YtppjlpihaocdiaaGreatDoorEdFH
import Derived.Laws.Cover3
/- A part of the proof. -/
set_option linter.unusedSimpArgs false
set_option linter.unusedVariables false
namespace Go.Proofs.YtppjlpihaocdiaaGreatDoor
namespace Ee
open Go.RowKit
open Rs (Cm Wh CmAt Pts cmL Keep own_of PatAt)
theorem below_drew {w u : World} (h : Below w.heap.size w u) : Below w.heap.size w u.drew := ⟨h.os, h.tape, h.output, h.size, h.block⟩
set_option maxRecDepth 100000 in
set_option maxHeartbeats 2000000 in
theorem matches_any (mf : Mf) (hm : MfOk mf) (b : Nat) (cf : Cf) (E : Ed) (v : Ev) (p : ByteArray) (v0 v1 v2 : Value) (w : World) (h : At w b cf E v) (hp : Pt w p v0 v1 v2) (hs : E.pat.size ≤ 80) :
    Calls Tryz.prog 201 #[.pointer (some ⟨b, 5, none⟩), .agg #[v0, v1, v2]] w fun e w' => e = .returned (.bool (hits mf p E.pat)) ∧ Below w.heap.size w w' := by
  have hbl := h.lt
  have m5 := h.cell (k := 5) rfl
  have HP : Hid (Pt w p v0 v1 v2) := hp
  have HM : Hid (MfOk mf) := hm
  have HH : Hid (hits mf p E.pat = (mf p E.pat 0).isSome) := rfl
  clear h hp hm
  have n41 : ∀ (W : World), (binOp .neq 41 (.slice none 0 0) (.slice none 0 0)).run Tryz.prog W = .ok (.bool false) W := fun W => run_neq_slice_nil (P := Tryz.prog) (w := W) _ _ none 0 0 Tryz.underlying41
  have s41 : ∀ (W : World) (x : Addr) (n c : Nat), (binOp .neq 41 (.slice (some x) n c) (.slice none 0 0)).run Tryz.prog W = .ok (.bool true) W := fun W x n c => run_neq_slice_nil (P := Tryz.prog) (w := W) _ _ (some x) n c Tryz.underlying41
  generalize E.pat = T at m5 hs HH ⊢
  rcases hmf : mf p T 0 with _ | sp
  · have HR : Hid (mf p T 0 = none) := hmf
    have HV : Hid (hits mf p T = false) := by rw [Hid, HH.out, hmf]; rfl
    clear hmf
    go_enter Tryz.func201, Tryz.ntmps201
    go_wp2_with fail
    go_region_with (first
      | (go_at_call 43; (have hL := look_pt p T v0 v1 v2 (w.alloc (.cells #[v0, v1, v2] 88)).drew (HP.out.below (below_drew (below_alloc w _))) hs; refine hL.mono ?_; rintro e w1 ⟨tb, rfl, hT, hB⟩; have HT : Hid (Tb w1 p T tb) := hT; have HB : Hid (Below w.heap.size w w1) := (below_drew (below_alloc w _)).trans (hB.mono (by simp)); clear hL hT hB))
      | (go_at_call 44; (have hL := first_tb mf HM.out p T tb 0 w1 HT.out (by omega); refine hL.mono ?_; rintro e w2 ⟨hB2, u, rfl, hS⟩; have HB2 : Hid (Below w.heap.size w w2) := HB.out.trans (hB2.mono HB.out.size); rw [HR.out] at hS; obtain rfl : u = .slice none 0 0 := hS; clear hL hB2)))
    all_goals
      go_wp2_with fail
      go_ret
      exact ⟨by rw [HV.out]; rfl, HB2.out⟩
  · have HR : Hid (mf p T 0 = some sp) := hmf
    have HV : Hid (hits mf p T = true) := by rw [Hid, HH.out, hmf]; rfl
    clear hmf
    go_enter Tryz.func201, Tryz.ntmps201
    go_wp2_with fail
    go_region_with (first
      | (go_at_call 43; (have hL := look_pt p T v0 v1 v2 (w.alloc (.cells #[v0, v1, v2] 88)).drew (HP.out.below (below_drew (below_alloc w _))) hs; refine hL.mono ?_; rintro e w1 ⟨tb, rfl, hT, hB⟩; have HT : Hid (Tb w1 p T tb) := hT; have HB : Hid (Below w.heap.size w w1) := (below_drew (below_alloc w _)).trans (hB.mono (by simp)); clear hL hT hB))
      | (go_at_call 44; (have hL := first_tb mf HM.out p T tb 0 w1 HT.out (by omega); refine hL.mono ?_; rintro e w2 ⟨hB2, u, rfl, hS⟩; have HB2 : Hid (Below w.heap.size w w2) := HB.out.trans (hB2.mono HB.out.size); rw [HR.out] at hS; obtain ⟨ob, rfl, hob, hout⟩ := hS; clear hL hB2 hob hout)))
    all_goals
      go_wp2_with fail
      go_ret
      exact ⟨by rw [HV.out]; rfl, HB2.out⟩
end Ee
end Go.Proofs.YtppjlpihaocdiaaGreatDoor

/- A part of the proof. -/
set_option linter.unusedSimpArgs false
set_option linter.unusedVariables false
namespace Go.Proofs.YtppjlpihaocdiaaGreatDoor
namespace Ee
open Go.RowKit
open Rs (Cm Wh CmAt Pts cmL Keep own_of PatAt)
structure WhP (w : World) (g o : Nat) (x : Wh) (v0 v1 v2 : Value) : Prop where
  lt : g < w.heap.size
  c0 : w.cell? ⟨g, o, none⟩ = some (.int .i64 (x.sort : Int))
  c1 : w.cell? ⟨g, o + 1, none⟩ = some (.int .i64 (x.num : Int))
  c2 : w.cell? ⟨g, o + 2, none⟩ = some v0
  c3 : w.cell? ⟨g, o + 3, none⟩ = some v1
  c4 : w.cell? ⟨g, o + 4, none⟩ = some v2
  pt : x.sort = 3 → Pt w x.pat v0 v1 v2
theorem WhP.below {w w' : World} {g o : Nat} {x : Wh} {v0 v1 v2 : Value} (h : WhP w g o x v0 v1 v2) (hb : Below w.heap.size w w') : WhP w' g o x v0 v1 v2 := by
  have hc : ∀ k, w'.cell? ⟨g, k, none⟩ = w.cell? ⟨g, k, none⟩ := fun k => World.cell?_of_block (w := w) (w' := w') (a := ⟨g, k, none⟩) (hb.block g h.lt)
  exact ⟨Nat.lt_of_lt_of_le h.lt hb.size, (hc _).trans h.c0, (hc _).trans h.c1, (hc _).trans h.c2, (hc _).trans h.c3, (hc _).trans h.c4, fun e => (h.pt e).below hb⟩
theorem below_refl_drewN (w : World) (n : Nat) : Below w.heap.size w (w.drewN n) := ⟨rfl, rfl, rfl, Nat.le_refl _, fun _ _ => rfl⟩
def Both (w : World) (r : Bool × Bool) (e : Ending) (w' : World) : Prop := e = .returned (.tuple #[.bool r.1, .bool r.2]) ∧ Below w.heap.size w w'
set_option maxRecDepth 100000 in
set_option maxHeartbeats 2000000 in
theorem meets_any (mf : Mf) (hm : MfOk mf) (b : Nat) (cf : Cf) (E : Ed) (v : Ev) (g o : Nat) (x : Wh) (v0 v1 v2 : Value) (w : World) (h : At w b cf E v) (hx : WhP w g o x v0 v1 v2) (hs : E.pat.size ≤ 80) :
    Calls Tryz.prog 167 #[.pointer (some ⟨b, 0, none⟩), .pointer (some ⟨g, o, none⟩)] w (Both w (E.meets mf x)) := by
  have HA : Hid (At w b cf E v) := h
  have HX : Hid (WhP w g o x v0 v1 v2) := hx
  have HM : Hid (MfOk mf) := hm
  have m4 := h.cell (k := 4) rfl
  have c0 := hx.c0
  have c1 := hx.c1
  have c2 := hx.c2
  have c3 := hx.c3
  have c4 := hx.c4
  clear h hx hm
  by_cases h1 : x.sort = 1
  · have HE : Hid (E.meets mf x = (decide (x.num = E.number), true)) := by rw [Hid, Ed.meets, if_pos h1]
    rw [h1] at c0
    have q : ((x.num : Int) == (E.number : Int)) = decide (x.num = E.number) := by
      by_cases e : x.num = E.number
      · rw [e]; simp
      · simp [e]; omega
    have q2 : (x.num == E.number) = decide (x.num = E.number) := by
      by_cases e : x.num = E.number
      · rw [e]; simp
      · simp [e]
    generalize hB : decide (x.num = E.number) = B at q q2 HE
    clear h1 c2 c3 c4 hB
    rcases bool_or B with hb | hb <;> subst hb
    all_goals
      go_enter Tryz.func167, Tryz.ntmps167
      go_wp2_with fail
      go_region
      all_goals go_wp2_with fail
      all_goals go_ret2
      all_goals (rw [HE.out]; exact ⟨rfl, below_refl_drewN w 1⟩)
  by_cases h2 : x.sort = 2
  · have HE : Hid (E.meets mf x = (!E.more, E.known)) := by rw [Hid, Ed.meets, if_neg h1, if_pos h2]
    rw [h2] at c0
    clear h1 h2 c2 c3 c4
    generalize hmo : E.more = mo at HE
    generalize hkn : E.known = kn at HE
    have HML : Hid (∀ W, At W b cf E v → Calls Tryz.prog 116 #[.pointer (some ⟨b, 0, none⟩)] W (Says W (.tuple #[.bool mo, .bool kn]))) := fun W hW => by
      have := more_any b cf E v W hW
      rw [hmo, hkn] at this
      exact this
    clear hmo hkn
    go_enter Tryz.func167, Tryz.ntmps167
    go_wp2_with fail
    refine (HML.out _ HA.out).mono ?_
    rintro e w1 ⟨rfl, n, rfl⟩
    go_wp2_with fail
    go_ret2
    rw [HE.out]
    exact ⟨rfl, below_refl_drewN w n⟩
  by_cases h3 : x.sort = 3
  · have HE : Hid (E.meets mf x = (hits mf x.pat E.pat, true)) := by rw [Hid, Ed.meets, if_neg h1, if_neg h2, if_pos h3]
    have HP : Hid (Pt w x.pat v0 v1 v2) := HX.out.pt h3
    rw [h3] at c0
    clear h1 h2 h3
    go_enter Tryz.func167, Tryz.ntmps167
    go_wp2_with fail
    go_region_with (first
      | (go_at_call 201; (have hL := matches_any mf HM.out b cf E v x.pat v0 v1 v2 w.drew HA.out.drew (HP.out.below (below_drew (Below.refl _ _))) hs; refine hL.mono ?_; rintro e w1 ⟨rfl, hB⟩; have HB : Hid (Below w.heap.size w w1) := ⟨hB.os, hB.tape, hB.output, hB.size, hB.block⟩; clear hL hB)))
    all_goals
      go_wp2_with fail
      go_ret2
      rw [HE.out]
      exact ⟨rfl, HB.out⟩
  · have HE : Hid (E.meets mf x = (true, true)) := by rw [Hid, Ed.meets, if_neg h1, if_neg h2, if_neg h3]
    have q1 : ((x.sort : Int) == 1) = false := by simp; omega
    have q2 : ((x.sort : Int) == 2) = false := by simp; omega
    have q3 : ((x.sort : Int) == 3) = false := by simp; omega
    clear h1 h2 h3
    go_enter Tryz.func167, Tryz.ntmps167
    go_wp2_with fail
    go_ret2
    rw [HE.out]
    exact ⟨rfl, Below.refl _ _⟩
set_option maxRecDepth 100000 in
set_option maxHeartbeats 2000000 in
theorem closes_any (mf : Mf) (hm : MfOk mf) (b : Nat) (cf : Cf) (E : Ed) (v : Ev) (g o : Nat) (x : Wh) (v0 v1 v2 : Value) (op : Bool) (w : World) (h : At w b cf E v) (hx : WhP w g o x v0 v1 v2) (hs : E.pat.size ≤ 80) :
    Calls Tryz.prog 168 #[.pointer (some ⟨b, 0, none⟩), .pointer (some ⟨g, o, none⟩), .bool op] w (Both w (E.closes mf x op)) := by
  have HA : Hid (At w b cf E v) := h
  have HX : Hid (WhP w g o x v0 v1 v2) := hx
  have HM : Hid (MfOk mf) := hm
  have m4 := h.cell (k := 4) rfl
  have c0 := hx.c0
  have c1 := hx.c1
  have c2 := hx.c2
  have c3 := hx.c3
  have c4 := hx.c4
  clear h hx hm
  by_cases h1 : x.sort = 1
  · have HE : Hid (E.closes mf x op = (decide (x.num ≤ E.number), true)) := by rw [Hid, Ed.closes, if_pos h1]
    rw [h1] at c0
    have q : decide ((x.num : Int) ≤ (E.number : Int)) = decide (x.num ≤ E.number) := by
      rw [decide_eq_decide]; omega
    generalize hB : decide (x.num ≤ E.number) = B at q HE
    clear h1 c2 c3 c4
    rcases bool_or B with hb | hb <;> subst hb
    all_goals
      go_enter Tryz.func168, Tryz.ntmps168
      go_wp2_with fail
      go_region
      all_goals go_wp2_with fail
      all_goals go_ret2
      all_goals (rw [HE.out]; exact ⟨rfl, below_refl_drewN w 1⟩)
  by_cases h3 : x.sort = 3
  · have HE : Hid (E.closes mf x op = (op && hits mf x.pat E.pat, true)) := by rw [Hid, Ed.closes, if_neg h1, if_pos h3]
    have HP : Hid (Pt w x.pat v0 v1 v2) := HX.out.pt h3
    rw [h3] at c0
    clear h1 h3
    rcases bool_or op with ho | ho <;> subst ho
    · go_enter Tryz.func168, Tryz.ntmps168
      go_wp2_with fail
      go_region_with (first
        | (go_at_call 201; (have hL := matches_any mf HM.out b cf E v x.pat v0 v1 v2 w.drew HA.out.drew (HP.out.below (below_drew (Below.refl _ _))) hs; refine hL.mono ?_; rintro e w1 ⟨rfl, hB⟩; have HB : Hid (Below w.heap.size w w1) := ⟨hB.os, hB.tape, hB.output, hB.size, hB.block⟩; clear hL hB)))
      all_goals
        go_wp2_with fail
        go_ret2
        rw [HE.out]
        exact ⟨rfl, HB.out⟩
    · go_enter Tryz.func168, Tryz.ntmps168
      go_wp2_with fail
      go_region
      all_goals go_wp2_with fail
      all_goals go_ret2
      all_goals (rw [HE.out]; exact ⟨rfl, below_refl_drewN w 1⟩)
  · have HE : Hid (E.closes mf x op = E.meets mf x) := by rw [Hid, Ed.closes, if_neg h1, if_neg h3]
    have q1 : ((x.sort : Int) == 1) = false := by simp; omega
    have q3 : ((x.sort : Int) == 3) = false := by simp; omega
    clear h1 h3 c1 c2 c3 c4
    have hL := meets_any mf HM.out b cf E v g o x v0 v1 v2 w HA.out HX.out hs
    generalize E.meets mf x = r at hL HE
    go_enter Tryz.func168, Tryz.ntmps168
    go_wp2_with fail
    refine hL.mono ?_
    rintro e w1 ⟨rfl, hB⟩
    have HB : Hid (Below w.heap.size w w1) := hB
    clear hB hL
    go_wp2_with fail
    go_ret2
    rw [HE.out]
    exact ⟨rfl, HB.out⟩
end Ee
end Go.Proofs.YtppjlpihaocdiaaGreatDoor

/- A part of the proof. -/
set_option linter.unusedSimpArgs false
set_option linter.unusedVariables false
namespace Go.Proofs.YtppjlpihaocdiaaGreatDoor
namespace Ee
open Go.RowKit
open Rs (Cm Wh Pc CmAt Pts cmL Keep own_of TempIn pcL)
structure CmOk (n : Nat) (x : Cm) : Prop where
  p1 : x.fst.sort = 3 → x.fst.pat.size ≤ 40
  p2 : x.snd.sort = 3 → x.snd.pat.size ≤ 40
  p3 : x.kind = 19 → x.pat.size ≤ 40
  tm : x.kind = 19 → ∀ p ∈ x.temp, (p.grp = -1 ∧ p.byte < 256) ∨ (0 ≤ p.grp ∧ p.grp ≤ Rs.grps x.pat)
  tl : x.temp.length ≤ 400
  yy : x.kind = 20 → x.frm.size = x.too.size
  ys : x.frm.size ≤ 400
  tx : x.text.size ≤ 400
  gl : x.goal ≤ n
  nu : x.num ≤ 9
structure CmP (w : World) (g o : Nat) (x : Cm) (q : Pts) : Prop where
  lt : g < w.heap.size
  cell : ∀ i u, (cmL x q)[i]? = some u → w.cell? ⟨g, o + i, none⟩ = some u
  fst : WhP w g (o + 1) x.fst (.slice q.a1 q.l1 q.c1) (.int .i64 q.r1) (.int .i64 q.g1)
  snd : WhP w g (o + 6) x.snd (.slice q.a2 q.l2 q.c2) (.int .i64 q.r2) (.int .i64 q.g2)
  pat : x.kind = 19 → Pt w x.pat (.slice q.a3 q.l3 q.c3) (.int .i64 q.r3) (.int .i64 q.g3)
  temp : x.kind = 19 → w.ownsRow 0 293 2 q.tv x.temp.length (pcL x.temp)
theorem CmP.below {w w' : World} {g o : Nat} {x : Cm} {q : Pts} (h : CmP w g o x q) (hb : Below w.heap.size w w') : CmP w' g o x q :=
  ⟨Nat.lt_of_lt_of_le h.lt hb.size, fun i u hu => (World.cell?_of_block (w := w) (w' := w') (a := ⟨g, o + i, none⟩) (hb.block g h.lt)).trans (h.cell i u hu), h.fst.below hb, h.snd.below hb, fun e => (h.pat e).below hb, fun e => own_of (h.temp e) fun k hk => hb.block k ((h.temp e).lt k hk).2⟩
theorem At.cmd {w : World} {b : Nat} {cf : Cf} {E : Ed} {v : Ev} (h : At w b cf E v) {k : Nat} {x : Cm} (hx : cf.cmds[k]? = some x) (ok : CmOk cf.cmds.length x) :
    ∃ g cap q, v.cm = .slice (some ⟨g, 0, none⟩) cf.cmds.length cap ∧ ¬ Mine b v g ∧ CmP w g (k * 23) x q := by
  obtain ⟨_, xs, own, hg, hc⟩ := h.cm
  have hk : k < cf.cmds.length := by
    rcases Nat.lt_or_ge k cf.cmds.length with e | e
    · exact e
    · rw [List.getElem?_eq_none e] at hx; cases hx
  obtain ⟨l, hh, q, a1, a2, a3, a4⟩ := hc k x hx
  obtain ⟨g, cap, e, _, hlt⟩ := own.form (by omega)
  have hcell : ∀ i u, (cmL x q)[i]? = some u → w.cell? ⟨g, k * 23 + i, none⟩ = some u := fun i u hu => by
    have hi : i < 23 := by
      rcases Nat.lt_or_ge i 23 with e | e
      · exact e
      · rw [List.getElem?_eq_none (by rw [Rs.cmL_length]; exact e)] at hu; cases hu
    have o2 := own
    rw [e] at o2
    rw [o2.cellAt (k * 23 + i) (by
      have : (k + 1) * 23 ≤ cf.cmds.length * 23 := Nat.mul_le_mul_right _ hk
      omega)]
    exact a4 i u hu
  exact ⟨g, cap, q, e, hg g (by rw [e]; rfl), hlt, hcell, ⟨hlt, hcell 1 _ rfl, hcell 2 _ rfl, hcell 3 _ rfl, hcell 4 _ rfl, hcell 5 _ rfl, fun e => PatAt.pt (a3.fst e) (ok.p1 e)⟩, ⟨hlt, hcell 6 _ rfl, hcell 7 _ rfl, hcell 8 _ rfl, hcell 9 _ rfl, hcell 10 _ rfl, fun e => PatAt.pt (a3.snd e) (ok.p2 e)⟩, fun e => PatAt.pt (a3.pat e) (ok.p3 e), fun e => World.ownsRow.mono ((a3.temp e).2.2 w fun _ _ _ => rfl) (by omega)⟩
theorem At.setOp {w : World} {b : Nat} {cf : Cf} {E : Ed} {v : Ev} {g cap k : Nat} {x : Bool} (h : At w b cf E v) (e : v.op = .slice (some ⟨g, 0, none⟩) E.opn.length cap) : Ok w b cf v { E with opn := E.opn.set k x } (w.setCell ⟨g, k, none⟩ (.bool x)) := by
  have hs : Sole g w (w.setCell ⟨g, k, none⟩ (.bool x)) := (Sole.refl _ _).setCell _ _
  have hgb : v.op.ownBlock = some g := by rw [e]; rfl
  have hbg : b ≠ g := fun e => h.ap.b4 (by rw [e]; exact hgb)
  have hk : ∀ j, ¬ Mine b v j → (w.setCell ⟨g, k, none⟩ (.bool x)).heap[j]? = w.heap[j]? := fun j hj => hs.block j (fun e => hj (.inr (.inr (.inr (.inr (by rw [e]; exact hgb))))))
  refine ⟨v, ⟨h.row.of_block (hs.block b hbg), own_sole hs h.nx (fun e => h.ap.d14 g e hgb), own_sole hs h.ot (fun e => h.ap.d24 g e hgb), own_sole hs h.cg (fun e => h.ap.d34 g e hgb), ?_, h.cm.keep (fun j _ hj => hk j hj) (Nat.le_of_eq hs.size.symm) (fun _ hj => .inl hj), h.ap⟩, ⟨hs.os, hs.tape, hs.output, Nat.le_of_eq hs.size.symm, fun j _ hj => hk j hj, fun _ hj => .inl hj, rfl⟩⟩
  have ho := h.op
  rw [e] at ho
  have := (ho.stored k (.bool x)).1
  have el : (E.opn.set k x).length = E.opn.length := List.length_set
  have eo : ov (E.opn.set k x) = (ov E.opn).set k (.bool x) := by simp [ov, List.map_set]
  show World.ownsRow _ 0 _ 1 v.op (E.opn.set k x).length (ov (E.opn.set k x))
  rw [el, eo, e]
  exact this
def BothE (w : World) (b : Nat) (cf : Cf) (v : Ev) (r : Ed × Bool × Bool) (e : Ending) (w' : World) : Prop := e = .returned (.tuple #[.bool r.2.1, .bool r.2.2]) ∧ Ok w b cf v r.1 w'
theorem Ok.below {w w' : World} {b : Nat} {cf : Cf} {E : Ed} {v : Ev} (h : At w b cf E v) (hb : Below w.heap.size w w') : Ok w b cf v E w' := ⟨v, h.below hb, Fe.below hb⟩
set_option maxRecDepth 100000 in
set_option maxHeartbeats 4000000 in
theorem selects_any (mf : Mf) (hm : MfOk mf) (b : Nat) (cf : Cf) (E : Ed) (v : Ev) (g o : Nat) (x : Cm) (q : Pts) (w : World) (h : At w b cf E v) (hx : CmP w g o x q) (hs : E.pat.size ≤ 80) (ha : E.at' < E.opn.length) :
    Calls Tryz.prog 120 #[.pointer (some ⟨b, 0, none⟩), .pointer (some ⟨g, o, none⟩)] w (BothE w b cf v (E.selects mf x)) := by
  have HA : Hid (At w b cf E v) := h
  have hME : Hid (∀ W, Below w.heap.size w W → Calls Tryz.prog 167 #[.pointer (some ⟨b, 0, none⟩), .pointer (some ⟨g, o + 1, none⟩)] W (Both W (E.meets mf x.fst))) := fun W hW => meets_any mf hm b cf E v g (o + 1) x.fst _ _ _ W (h.below hW) (hx.fst.below hW) hs
  have hCL : Hid (∀ op W, Below w.heap.size w W → Calls Tryz.prog 168 #[.pointer (some ⟨b, 0, none⟩), .pointer (some ⟨g, o + 6, none⟩), .bool op] W (Both W (E.closes mf x.snd op))) := fun op W hW => closes_any mf hm b cf E v g (o + 6) x.snd _ _ _ op W (h.below hW) (hx.snd.below hW) hs
  have c6 := hx.cell 6 _ rfl
  have m13 := h.cell (k := 13) rfl
  have m14 := h.cell (k := 14) rfl
  obtain ⟨gp, cap, e, _, _⟩ := h.op.form (by omega)
  have HE : Hid (v.op = .slice (some ⟨gp, 0, none⟩) E.opn.length cap) := e
  rw [e] at m13
  have mo : w.cell? ⟨gp, E.at', none⟩ = some (.bool (E.opn.getD E.at' false)) := by
    have ho := h.op
    rw [e] at ho
    rw [ho.cellAt E.at' (by omega)]
    simp [ov, List.getD, List.getElem?_eq_getElem ha]
  clear h hx hm e
  have HS : Hid (E.selects mf x = if x.snd.sort = 0 then (E, E.meets mf x.fst) else
    if E.opn.getD E.at' false = false ∧ ((E.meets mf x.fst).1 = false ∨ (E.meets mf x.fst).2 = false) then (E, false, (E.meets mf x.fst).2)
    else (if (E.closes mf x.snd (E.opn.getD E.at' false)).2 = true then { E with opn := E.opn.set E.at' (!(E.closes mf x.snd (E.opn.getD E.at' false)).1) } else E, (E.closes mf x.snd (E.opn.getD E.at' false)).2, (E.closes mf x.snd (E.opn.getD E.at' false)).2)) := rfl
  have HF : Hid (∀ W, Below w.heap.size w W → W.cell? ⟨b, 13, none⟩ = some (.slice (some ⟨gp, 0, none⟩) E.opn.length cap) ∧ W.cell? ⟨b, 14, none⟩ = some (.int .i64 (E.at' : Int)) ∧ W.cell? ⟨gp, E.at', none⟩ = some (.bool (E.opn.getD E.at' false)) ∧ W.frozen? ⟨gp, E.at', none⟩ = false) := fun W hW => by
    have hA := HA.out.below hW
    have ho := hA.op
    rw [HE.out] at ho
    exact ⟨(hA.cell (k := 13) rfl).trans (congrArg some HE.out), hA.cell (k := 14) rfl, by rw [ho.cellAt E.at' (by omega)]; simp [ov, List.getD, List.getElem?_eq_getElem ha], ho.frozenAt E.at'⟩
  have HW : Hid (∀ W x, Below w.heap.size w W → Ok w b cf v { E with opn := E.opn.set E.at' x } (W.setCell ⟨gp, E.at', none⟩ (.bool x)).drew) := fun W x hW => by
    obtain ⟨v', a1, a2⟩ := (HA.out.below hW).setOp HE.out (k := E.at') (x := x)
    exact ⟨v', a1.drew, ((Fe.below hW).trans a2).drewN 1⟩
  by_cases hz : x.snd.sort = 0
  · have HS2 : Hid (E.selects mf x = (E, E.meets mf x.fst)) := by rw [Hid, HS.out, if_pos hz]
    rw [hz] at c6
    generalize E.meets mf x.fst = r at hME HS2
    clear hz HS hCL HW HF
    go_enter Tryz.func120, Tryz.ntmps120
    go_wp2_with fail
    refine (hME.out _ (Below.refl _ _)).mono ?_
    rintro e w1 ⟨rfl, hB⟩
    have HB : Hid (Below w.heap.size w w1) := hB
    clear hB
    go_wp2_with fail
    go_ret2
    rw [HS2.out]
    exact ⟨rfl, Ok.below HA.out HB.out⟩
  · have q0 : ((x.snd.sort : Int) == 0) = false := by simp; omega
    generalize hO : E.opn.getD E.at' false = O at mo HS HF
    rcases hcl : E.closes mf x.snd O with ⟨cl, kn⟩
    rcases bool_or O with h0 | h0 <;> subst h0
    · go_enter Tryz.func120, Tryz.ntmps120
      go_wp2_with fail
      go_region
      all_goals
        go_wp2_with fail
        refine (hCL.out true _ (below_drew (Below.refl _ _))).mono ?_
        rw [hcl]
        rintro e w1 ⟨rfl, hB⟩
        have HB1 : Hid (Below w.heap.size w w1) := ⟨hB.os, hB.tape, hB.output, hB.size, hB.block⟩
        clear hB
        rcases bool_or kn with hk | hk <;> subst hk
        · obtain ⟨n13, n14, no, nf⟩ := HF.out w1 HB1.out
          have HS2 : Hid (E.selects mf x = ({ E with opn := E.opn.set E.at' (!cl) }, true, true)) := by rw [Hid, HS.out, if_neg hz, if_neg (by simp), hcl]; rfl
          clear m13 m14 mo
          go_wp2_with fail
          go_region
          all_goals go_wp2_with fail
          all_goals go_ret2
          all_goals (rw [HS2.out]; exact ⟨rfl, HW.out w1 _ HB1.out⟩)
        · have HS2 : Hid (E.selects mf x = (E, false, false)) := by rw [Hid, HS.out, if_neg hz, if_neg (by simp), hcl]; rfl
          go_wp2_with fail
          go_ret2
          rw [HS2.out]
          exact ⟨rfl, Ok.below HA.out HB1.out⟩
    · rcases hmt : E.meets mf x.fst with ⟨B1, B2⟩
      by_cases hbb : B1 = false ∨ B2 = false
      · have HS2 : Hid (E.selects mf x = (E, false, B2)) := by rw [Hid, HS.out, if_neg hz, hmt, if_pos ⟨rfl, hbb⟩]
        clear HS hCL HW
        rcases bool_or B1 with hb1 | hb1 <;> subst hb1
        · rcases bool_or B2 with hb2 | hb2 <;> subst hb2
          · simp at hbb
          · go_enter Tryz.func120, Tryz.ntmps120
            go_wp2_with fail
            go_region
            all_goals
              go_wp2_with fail
              refine (hME.out _ (below_drew (Below.refl _ _))).mono ?_
              rw [hmt]
              rintro e w1 ⟨rfl, hB⟩
              have HB1 : Hid (Below w.heap.size w w1) := ⟨hB.os, hB.tape, hB.output, hB.size, hB.block⟩
              clear hB
              go_wp2_with fail
              go_ret2
              rw [HS2.out]
              exact ⟨rfl, Ok.below HA.out HB1.out⟩
        · go_enter Tryz.func120, Tryz.ntmps120
          go_wp2_with fail
          go_region
          all_goals
            go_wp2_with fail
            refine (hME.out _ (below_drew (Below.refl _ _))).mono ?_
            rw [hmt]
            rintro e w1 ⟨rfl, hB⟩
            have HB1 : Hid (Below w.heap.size w w1) := ⟨hB.os, hB.tape, hB.output, hB.size, hB.block⟩
            clear hB
            go_wp2_with fail
            go_ret2
            rw [HS2.out]
            exact ⟨rfl, Ok.below HA.out HB1.out⟩
      · have hb1 : B1 = true := by cases B1 <;> simp_all
        have hb2 : B2 = true := by cases B2 <;> simp_all
        subst hb1
        subst hb2
        go_enter Tryz.func120, Tryz.ntmps120
        go_wp2_with fail
        go_region
        all_goals
          go_wp2_with fail
          refine (hME.out _ (below_drew (Below.refl _ _))).mono ?_
          rw [hmt]
          rintro e w1 ⟨rfl, hB⟩
          have HB1 : Hid (Below w.heap.size w w1) := ⟨hB.os, hB.tape, hB.output, hB.size, hB.block⟩
          clear hB
          go_wp2_with fail
          refine (hCL.out false _ HB1.out).mono ?_
          rw [hcl]
          rintro e w2 ⟨rfl, hB⟩
          have HB2 : Hid (Below w.heap.size w w2) := HB1.out.trans (hB.mono HB1.out.size)
          clear hB
          rcases bool_or kn with hk | hk <;> subst hk
          · obtain ⟨n13, n14, no, nf⟩ := HF.out w2 HB2.out
            have HS2 : Hid (E.selects mf x = ({ E with opn := E.opn.set E.at' (!cl) }, true, true)) := by rw [Hid, HS.out, if_neg hz, hmt, if_neg (by simp), hcl]; rfl
            clear m13 m14 mo
            go_wp2_with fail
            go_region
            all_goals go_wp2_with fail
            all_goals go_ret2
            all_goals (rw [HS2.out]; exact ⟨rfl, HW.out w2 _ HB2.out⟩)
          · have HS2 : Hid (E.selects mf x = (E, false, false)) := by rw [Hid, HS.out, if_neg hz, hmt, if_neg (by simp), hcl]; rfl
            go_wp2_with fail
            go_ret2
            rw [HS2.out]
            exact ⟨rfl, Ok.below HA.out HB2.out⟩
end Ee
end Go.Proofs.YtppjlpihaocdiaaGreatDoor

