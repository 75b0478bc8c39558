/- A part of the proof. -/
import Derived.Test.YtppjlpihaocdiaaGreatDoorEdTH
import Derived.Deep.RegionHeldLaw
set_option linter.unusedSimpArgs false
set_option linter.unusedVariables false
namespace Go.Proofs.YtppjlpihaocdiaaGreatDoor
namespace Ee
open Go.RowKit
open Rs (Cm Wh Pc CmAt Pts cmL Keep own_of grps pcL)
structure PutP (w : World) (g o : Nat) (x : Cm) (q : Pts) : Prop where
  lt : g < w.heap.size
  c0 : w.cell? ⟨g, o, none⟩ = some (.slice q.a3 q.l3 q.c3)
  c1 : w.cell? ⟨g, o + 1, none⟩ = some (.int .i64 q.r3)
  c2 : w.cell? ⟨g, o + 2, none⟩ = some (.int .i64 q.g3)
  c3 : w.cell? ⟨g, o + 3, none⟩ = some q.tv
  c4 : w.cell? ⟨g, o + 4, none⟩ = some (.int .i64 (x.num : Int))
  c5 : w.cell? ⟨g, o + 5, none⟩ = some (.bool x.all)
  c6 : w.cell? ⟨g, o + 6, none⟩ = some (.bool x.prt)
  pat : Pt w x.pat (.slice q.a3 q.l3 q.c3) (.int .i64 q.r3) (.int .i64 q.g3)
  temp : w.ownsRow 0 293 2 q.tv x.temp.length (pcL x.temp)
theorem CmP.put {w : World} {g o : Nat} {x : Cm} {q : Pts} (h : CmP w g o x q) (hk : x.kind = 19) : PutP w g (o + 14) x q :=
  ⟨h.lt, h.cell 14 _ rfl, h.cell 15 _ rfl, h.cell 16 _ rfl, h.cell 17 _ rfl, h.cell 18 _ rfl, h.cell 19 _ rfl, h.cell 20 _ rfl, h.pat hk, h.temp hk⟩
theorem PutP.cells {w w' : World} {g o : Nat} {x : Cm} {q : Pts} (h : PutP w g o x q) (hb : w'.heap[g]? = w.heap[g]?) : w'.cell? ⟨g, o + 3, none⟩ = some q.tv ∧ w'.cell? ⟨g, o + 4, none⟩ = some (.int .i64 (x.num : Int)) ∧ w'.cell? ⟨g, o + 5, none⟩ = some (.bool x.all) := by
  have hc : ∀ k, w'.cell? ⟨g, k, none⟩ = w.cell? ⟨g, k, none⟩ := fun k => World.cell?_of_block (w := w) (w' := w') (a := ⟨g, k, none⟩) hb
  exact ⟨(hc _).trans h.c3, (hc _).trans h.c4, (hc _).trans h.c5⟩
structure Rp (w wr : World) (p t : ByteArray) (tb : Nat) (ov : Value) (out : List UInt8) (u : Value) (cur : Option (List (Int × Int))) : Prop where
  below : Below w.heap.size w wr
  own : wr.ownsRow w.heap.size 5 1 ov out.length (bv out)
  sp : SpAt wr cur u w.heap.size
  od : ∀ k, u.ownBlock = some k → ov.ownBlock ≠ some k
  ol : ∀ k, u.ownBlock = some k → k < wr.heap.size
theorem outAt_far {w w2 : World} {ob : Nat} {sp : List (Int × Int)} (h : OutAt w ob sp) (hb : ob < w.heap.size → w2.heap[ob]? = w.heap[ob]?) : OutAt w2 ob sp := by
  by_cases hl : ob < w.heap.size
  · exact h.of_block (hb hl)
  · intro q x y hq
    have := World.block_lt_of_cell? w _ (h q x y hq).1
    exact absurd this hl
theorem Rp.grown {w wr w2 : World} {p t : ByteArray} {tb : Nat} {ov ov2 u : Value} {out out2 : List UInt8} {cur : Option (List (Int × Int))} (h : Rp w wr p t tb ov out u cur) (g : Gn wr w2 ov ov2) (own2 : w2.ownsRow w.heap.size 5 1 ov2 out2.length (bv out2)) : Rp w w2 p t tb ov2 out2 u cur := by
  refine ⟨⟨g.os.trans h.below.os, g.tape.trans h.below.tape, g.output.trans h.below.output, Nat.le_trans h.below.size g.size, fun k hk => ?_⟩, own2, ?_, fun k hk hk2 => ?_, fun k hk => Nat.lt_of_lt_of_le (h.ol k hk) g.size⟩
  · rw [g.block k (Nat.lt_of_lt_of_le hk h.below.size) (fun e => by have := (h.own.lt k e).1; omega), h.below.block k hk]
  · have hs := h.sp
    have hd := h.od
    revert hs
    cases cur with
    | none => exact fun hs => hs
    | some sp =>
      rintro ⟨ob, rfl, h2, h3⟩
      exact ⟨ob, rfl, h2, outAt_far h3 fun hl => g.block ob hl (hd ob rfl)⟩
  · rcases g.at' k hk2 with e | e
    · exact h.od k hk e
    · have := h.ol k hk; omega
theorem Rp.next {w wr w2 : World} {p t : ByteArray} {tb : Nat} {ov u u2 : Value} {out : List UInt8} {cur cur2 : Option (List (Int × Int))} (h : Rp w wr p t tb ov out u cur) (hb : Below wr.heap.size wr w2) (hs : SpAt w2 cur2 u2 wr.heap.size) (hne : ∀ sp, cur2 = some sp → sp ≠ []) : Rp w w2 p t tb ov out u2 cur2 := by
  have hb' := h.below.size
  refine ⟨h.below.trans (hb.mono hb'), own_of h.own fun k hk => hb.block k (h.own.lt k hk).2, ?_, fun k hk hk2 => ?_, fun k hk => ?_⟩
  · exact spat_lower hs hb'
  · have h1 := (h.own.lt k hk2).2
    revert hs
    cases cur2 with
    | none => intro hs; rw [show u2 = .slice none 0 0 from hs] at hk; cases hk
    | some sp =>
      rintro ⟨ob, rfl, h2, h3⟩
      have hk : ob = k := by simpa [Value.ownBlock] using hk
      omega
  · revert hs
    cases cur2 with
    | none => intro hs; rw [show u2 = .slice none 0 0 from hs] at hk; cases hk
    | some sp =>
      rintro ⟨ob, rfl, h2, h3⟩
      have hk : ob = k := by simpa [Value.ownBlock] using hk
      subst hk
      have hsp := hne sp rfl
      cases sp with
      | nil => exact absurd rfl hsp
      | cons e sp =>
        obtain ⟨x, y⟩ := e
        exact World.block_lt_of_cell? w2 _ (h3 0 x y rfl).1
def toOf (cur : Option (List (Int × Int))) : Nat := match cur with
  | none => 0
  | some sp => (sp.getD 0 (-1, -1)).2.toNat
theorem nextM_to {mf : Mf} (hm : MfOk mf) {p t : ByteArray} {to' : Nat} {sp : List (Int × Int)} (h : nextM mf p t to' = some sp) : to' < toOf (some sp) ∧ toOf (some sp) ≤ t.size := by
  unfold nextM at h
  rcases hf : mf p t to' with _ | sp1
  · rw [hf] at h; cases h
  · rw [hf] at h
    simp only at h
    obtain ⟨⟨i, j, h0, h1, h2, h3⟩, _, _⟩ := (hm.some' hf).vs
    have e1 : sp1.getD 0 (-1, -1) = ((i : Int), (j : Int)) := by rw [List.getD, h0]; rfl
    rw [e1] at h
    split at h
    · obtain ⟨⟨i', j', k0, k1, k2, k3⟩, _, _⟩ := (hm.some' h).vs
      have e2 : sp.getD 0 (-1, -1) = ((i' : Int), (j' : Int)) := by rw [List.getD, k0]; rfl
      simp only [toOf, e2]
      have : ((j' : Int)).toNat = j' := by simp
      omega
    · rename_i hne
      cases h
      simp only [toOf, e1]
      have : ((j : Int)).toNat = j := by simp
      have hne' : j ≠ to' := fun e => hne (by rw [e])
      omega
theorem nextM_vs {mf : Mf} (hm : MfOk mf) {p t : ByteArray} {to' : Nat} {sp : List (Int × Int)} (h : nextM mf p t to' = some sp) : ∃ pl, to' ≤ pl ∧ FirstIs p t pl sp := by
  unfold nextM at h
  rcases hf : mf p t to' with _ | sp1
  · rw [hf] at h; cases h
  · rw [hf] at h
    simp only at h
    split at h
    · exact ⟨to' + 1, by omega, hm.some' h⟩
    · cases h
      exact ⟨to', Nat.le_refl _, hm.some' hf⟩
theorem replL_none (mf : Mf) (c : Cm) (t : ByteArray) (f n d : Nat) (out : List UInt8) : replL mf c t f none n d out = (out ++ row (t.extract d t.size), n) := by
  cases f <;> rfl
theorem replL_some (mf : Mf) (c : Cm) (t : ByteArray) (f : Nat) (sp : List (Int × Int)) (n d : Nat) (out : List UInt8) (i j : Nat) (e : sp.getD 0 (-1, -1) = ((i : Int), (j : Int))) :
    replL mf c t (f + 1) (some sp) n d out = if n + 1 < c.num then replL mf c t f (nextM mf c.pat t j) (n + 1) d out else if c.all = true then replL mf c t f (nextM mf c.pat t j) (n + 1) j (fillT t sp c.temp (out ++ row (t.extract d i))) else (fillT t sp c.temp (out ++ row (t.extract d i)) ++ row (t.extract j t.size), n + 1) := by
  rw [replL]
  simp only [e, Int.toNat_natCast]
theorem first_ne {p t : ByteArray} {pl : Nat} {sp : List (Int × Int)} (h : FirstIs p t pl sp) : sp ≠ [] := by
  obtain ⟨i, j, c, rfl, _⟩ := h
  simp
structure Lp (mf : Mf) (x : Cm) (t : ByteArray) (R : List UInt8 × Nat) (cur : Option (List (Int × Int))) (n d f : Nat) (out : List UInt8) : Prop where
  eq : replL mf x t f cur n d out = R
  dle : d ≤ t.size
  nle : n ≤ 81
  ole : out.length ≤ n * 33000
  cur : ∀ sp, cur = some sp → (∃ pl, d ≤ pl ∧ FirstIs x.pat t pl sp) ∧ n ≤ toOf (some sp) ∧ toOf (some sp) ≤ t.size ∧ t.size < toOf (some sp) + f
set_option maxRecDepth 100000 in
set_option maxHeartbeats 8000000 in
theorem replaced_any (mf : Mf) (hm : MfOk mf) (t : ByteArray) (g o : Nat) (x : Cm) (q : Pts) (w : World) (h : PutP w g o x q) (ht : t.size ≤ 80) (hn : x.num ≤ 9) (htm : ∀ p ∈ x.temp, (p.grp = -1 ∧ p.byte < 256) ∨ (0 ≤ p.grp ∧ p.grp ≤ grps x.pat)) (htl : x.temp.length ≤ 400) :
    Calls Tryz.prog 234 #[.string t, .pointer (some ⟨g, o, none⟩)] w fun e w' => Below w.heap.size w w' ∧ e = .returned (.tuple #[.string (repl mf x t).1, .bool (repl mf x t).2]) := by
  obtain ⟨i0, hi0, hz0, hz1, hz2⟩ := info_parts Rs.Tryz.info5
  have n41 : ∀ (W : World), (binOp .neq 41 (.slice none 0 0) (.slice none 0 0)).run Tryz.prog W = .ok (.bool false) W := fun W => run_neq_slice_nil (P := Tryz.prog) (w := W) _ _ none 0 0 Tryz.underlying41
  have s41 : ∀ (W : World) (x : Addr) (n c : Nat), (binOp .neq 41 (.slice (some x) n c) (.slice none 0 0)).run Tryz.prog W = .ok (.bool true) W := fun W x n c => run_neq_slice_nil (P := Tryz.prog) (w := W) _ _ (some x) n c Tryz.underlying41
  have HM : Hid (MfOk mf) := hm
  have HPU : Hid (PutP w g o x q) := h
  have HTM : Hid (∀ p ∈ x.temp, (p.grp = -1 ∧ p.byte < 256) ∨ (0 ≤ p.grp ∧ p.grp ≤ grps x.pat)) := htm
  have hlt := h.lt
  have c0 := h.c0
  have c1 := h.c1
  have c2 := h.c2
  clear h hm htm
  obtain ⟨R, HRD⟩ : ∃ R, Hid (replL mf x t (t.size + 3) (mf x.pat t 0) 0 0 [] = R) := ⟨_, rfl⟩
  have HRR : Hid (repl mf x t = (txt R.1, decide (x.num ≤ R.2))) := by rw [Hid, ← HRD.out]; rfl
  go_enter Tryz.func234, Tryz.ntmps234
  go_wp2_with fail
  have hL := look_pt x.pat t _ _ _ w HPU.out.pat ht
  refine hL.mono ?_
  rintro e w1 ⟨tb, rfl, hT, hB⟩
  have HT : Hid (Tb w1 x.pat t tb) := hT
  have HB1 : Hid (Below w.heap.size w w1) := hB
  clear hL hT hB c0 c1 c2
  go_wp2_with fail
  have hL := first_tb mf HM.out x.pat t tb 0 w1 HT.out (by omega)
  refine hL.mono ?_
  rintro e w2 ⟨hB, u, rfl, hS⟩
  have HRP0 : Hid (Rp w1 w2 x.pat t tb (.slice none 0 0) [] u (mf x.pat t 0)) := Rp.next (cur := none) (u := .slice none 0 0) ⟨Below.refl _ _, World.ownsRow_nil w1 _ _ 1, rfl, (fun k hk => by cases hk), (fun k hk => by cases hk)⟩ hB hS (fun sp hsp => first_ne (HM.out.some' hsp))
  have HL0 : Hid (Lp mf x t R (mf x.pat t 0) 0 0 (t.size + 3) []) := ⟨HRD.out, by omega, by omega, by simp, fun sp hsp => by
    obtain ⟨⟨i, j, h0, h1, h2, h3⟩, _, _⟩ := (HM.out.some' hsp).vs
    have e1 : sp.getD 0 (-1, -1) = ((i : Int), (j : Int)) := by rw [List.getD, h0]; rfl
    refine ⟨⟨0, Nat.le_refl _, HM.out.some' hsp⟩, ?_⟩
    simp only [toOf, e1]
    have : ((j : Int)).toNat = j := by simp
    omega⟩
  clear hL hB hS
  generalize hC0 : mf x.pat t 0 = cur0 at HRP0 HL0
  clear hC0 HRD
  go_wp2_with fail
  go_loopw [7, 8, 9, 10] (fun x7 x8 x9 x10 wr => ∃ (n d f : Nat) (out : List UInt8) (cur : Option (List (Int × Int))), x8 = .int .i64 n ∧ x9 = .int .i64 d ∧ Hid (Rp w1 wr x.pat t tb x7 out x10 cur) ∧ Hid (Lp mf x t R cur n d f out)) (fun _ x8 _ _ _ => 100 - (intOf x8).toNat)
  case atStart => exact ⟨0, 0, t.size + 3, [], cur0, rfl, rfl, HRP0.out, HL0.out⟩
  case round =>
    obtain ⟨n, d, f, out, cur, rfl, rfl, HRP, HLP⟩ := hrel
    have HBW : Hid (Below w.heap.size w wr) := HB1.out.trans (HRP.out.below.mono HB1.out.size)
    have hol := HLP.out.ole
    have hn81 := HLP.out.nle
    have hd := HLP.out.dle
    have hol2 : out.length ≤ 2673000 := Nat.le_trans hol (by omega)
    rcases cur with _ | sp
    · have hu : u10 = .slice none 0 0 := HRP.out.sp
      have HE : Hid (R = (out ++ row (t.extract d t.size), n)) := by rw [Hid, ← HLP.out.eq, replL_none]
      subst hu
      go_wp2_with fail
      obtain ⟨k3, k4, k5⟩ := HPU.out.cells (w' := wr) ((HBW.out).block g hlt)
      clear k3 k5
      have hext := extract_size_le t d t.size
      have hSd : wr.drew.cell? ⟨g, o + 4, none⟩ = some (.int .i64 (x.num : Int)) := k4
      go_region_held_law (fun W => W.cell? ⟨g, o + 4, none⟩ = some (.int .i64 (x.num : Int))) (first | exact hSd | exact k4z)
        ((refine step_str_lies _ (by rfl) _ _ 99 9 (by rfl) w1.heap.size 5 i0 Tryz.underlying99 Tryz.underlying9 hi0 hz0 hz1 hz2 u7 out.length (bv out) (by rfl) (HRP.out.own.drew) (t.extract d t.size) (by rfl) (by unfold maxLen; omega) (by omega) (by have := HRP.out.below.size; simp; omega) wr.heap.size (by simp) ?_; intro vz wz hownz hgrowz hatz; have hcv := bytes_txt w1.heap.size vz (out ++ row (t.extract d t.size)) wz (by rw [bv_append, List.length_append, row_length, ← strCells_bv]; exact hownz); have k4z : wz.cell? ⟨g, o + 4, none⟩ = some (.int .i64 (x.num : Int)) := (World.cell?_of_block (w := wr) (w' := wz) (a := ⟨g, o + 4, none⟩) (hgrowz.block g (Nat.lt_of_lt_of_le hlt (HBW.out).size) (fun e => by have := (HRP.out.own.lt g e.symm).1; have := HB1.out.size; omega))).trans k4; have HBz : Hid (Below w.heap.size w wz) := (HBW.out).trans ⟨hgrowz.os, hgrowz.tape, hgrowz.output, (by have := (HBW.out).size; exact hgrowz.size), fun k hk => hgrowz.block k (Nat.lt_of_lt_of_le hk (HBW.out).size) (fun e => by have := (HRP.out.own.lt k e.symm).1; have := HB1.out.size; omega)⟩; generalize hTX : txt (out ++ row (t.extract d t.size)) = TX at hcv; have HTX : Hid (txt (out ++ row (t.extract d t.size)) = TX) := hTX; clear hownz hgrowz hatz hTX))
      all_goals go_wp2_with fail
      all_goals go_ret2
      all_goals exact ⟨HBz.out, by rw [HRR.out, ← HTX.out]; rw [HE.out]; simp⟩
    · obtain ⟨⟨pl, hpl, hFI⟩, hnt, htt, hft⟩ := HLP.out.cur sp rfl
      obtain ⟨⟨i, j, h0, hi1, hi2, hi3⟩, hsl, hvc⟩ := hFI.vs
      have e1 : sp.getD 0 (-1, -1) = ((i : Int), (j : Int)) := by rw [List.getD, h0]; rfl
      have hto : toOf (some sp) = j := by unfold toOf; simp only [e1]; simp
      rw [hto] at hnt htt hft
      have hdi : d ≤ i := Nat.le_trans hpl hi1
      obtain ⟨f', rfl⟩ : ∃ f', f = f' + 1 := ⟨f - 1, by omega⟩
      obtain ⟨ob, hu, _, hOut⟩ := HRP.out.sp
      subst hu
      have HOUT : Hid (OutAt wr ob sp) := hOut
      have hobl : ob < wr.heap.size := HRP.out.ol ob rfl
      obtain ⟨a1, a2⟩ := spat_first hOut h0
      have H0 : Hid (sp[0]? = some ((i : Int), (j : Int))) := h0
      have HVC : Hid (Vc t.size sp) := hvc
      have HSL : Hid (sp.length = grps x.pat + 1) := hsl
      have hsl1 : 1 ≤ sp.length := by omega
      have HNX : Hid (∀ sp', nextM mf x.pat t j = some sp' → (∃ pl, j ≤ pl ∧ FirstIs x.pat t pl sp') ∧ j < toOf (some sp') ∧ toOf (some sp') ≤ t.size) := fun sp' hs' => ⟨nextM_vs HM.out hs', nextM_to HM.out hs'⟩
      have HEQ : Hid (R = if n + 1 < x.num then replL mf x t f' (nextM mf x.pat t j) (n + 1) d out else if x.all = true then replL mf x t f' (nextM mf x.pat t j) (n + 1) j (fillT t sp x.temp (out ++ row (t.extract d i))) else (fillT t sp x.temp (out ++ row (t.extract d i)) ++ row (t.extract j t.size), n + 1)) := by
        rw [Hid, ← HLP.out.eq]
        exact replL_some mf x t f' sp n d out i j e1
      obtain ⟨k3, k4, k5⟩ := HPU.out.cells (w' := wr) (HBW.out.block g hlt)
      clear hOut h0 hvc hsl e1 hto hFI
      by_cases hnum : n + 1 < x.num
      · have HE2 : Hid (R = replL mf x t f' (nextM mf x.pat t j) (n + 1) d out) := by rw [Hid, HEQ.out, if_pos hnum]
        have q1 : decide (n + 1 < x.num) = true := by simpa using hnum
        have q2 : decide ((n : Int) + 1 < (x.num : Int)) = true := by simp; omega
        have hL := following_any mf HM.out x.pat t tb j (i : Int) wr (HT.out.below HRP.out.below) hi3 ht
        go_wp2_with fail
        refine hL.mono ?_
        rintro e w3 ⟨hB3, u3, rfl, hS3⟩
        clear hL
        have HRP3 : Hid (Rp w1 w3 x.pat t tb u7 out u3 (nextM mf x.pat t j)) := HRP.out.next hB3 hS3 (fun sp' hs' => by obtain ⟨⟨pl', _, hf'⟩, _⟩ := HNX.out sp' hs'; exact first_ne hf')
        have HLP3 : Hid (Lp mf x t R (nextM mf x.pat t j) (n + 1) d f' out) := ⟨HE2.out.symm, hd, by omega, by omega, fun sp' hs' => by
          obtain ⟨⟨pl', h1, h2⟩, h3, h4⟩ := HNX.out sp' hs'
          exact ⟨⟨pl', by omega, h2⟩, by omega, h4, by omega⟩⟩
        clear hB3 hS3
        go_wp2_with fail
        go_roundw
        case rel => exact ⟨n + 1, d, f', out, _, by go_num, rfl, HRP3.out, HLP3.out⟩
        case measure => simp [intOf]; omega
      · have q1 : decide (n + 1 < x.num) = false := by simpa using hnum
        have q2 : decide ((n : Int) + 1 < (x.num : Int)) = false := by simp; omega
        have hex := extract_size_le t d i
        have HTV : Hid (∀ k, q.tv.ownBlock = some k → k < w.heap.size) := fun k hk => (HPU.out.temp.lt k hk).2
        go_wp2_with (at_builtin; (refine wpList_str_lies _ rfl _ _ 99 9 rfl w1.heap.size 5 i0 Tryz.underlying99 Tryz.underlying9 hi0 hz0 hz1 hz2 u7 out.length (bv out) rfl HRP.out.own (t.extract d i) rfl (by unfold maxLen; omega) (by omega) HRP.out.below.size wr.heap.size rfl ?_; intro v1 w5 hown5 hgrow5 hat5; have HGN5 : Hid (Gn wr w5 u7 v1) := Gn.grown (Below.refl _ _) hgrow5 (by rcases hat5 with e | e; exact .inl e; exact .inr ⟨_, e, Nat.le_refl _⟩); have HRP5 : Hid (Rp w1 w5 x.pat t tb v1 (out ++ row (t.extract d i)) (.slice (some ⟨ob, 0, none⟩) sp.length sp.length) (some sp)) := HRP.out.grown HGN5.out (by rw [bv_append, List.length_append, row_length, ← strCells_bv]; exact hown5); clear hown5 hgrow5 hat5 a1 a2 k3 k4 k5; have HBW5 : Hid (Below w.heap.size w w5) := HB1.out.trans (HRP5.out.below.mono HB1.out.size); obtain ⟨k3, k4, k5⟩ := HPU.out.cells (w' := w5) (HBW5.out.block g hlt)))
        have HFP : Hid (FlPre w5 v1 q.tv x.temp ob sp t.size) := ⟨own_of HPU.out.temp fun k hk => HBW5.out.block k (HTV.out k hk), fun k hk hk2 => by have h1 := HTV.out k hk2; have h2 := (HRP5.out.own.lt k hk).1; have := HB1.out.size; omega, by obtain ⟨ob2, e2, _, h2⟩ := HRP5.out.sp; injection e2 with e2; injection e2 with e2; injection e2 with e2; subst e2; exact h2, HRP5.out.ol ob rfl, HRP5.out.od ob rfl, fun p hp => by have := HTM.out p hp; have := HSL.out; omega, HVC.out⟩
        have hol5 : (out ++ row (t.extract d i)).length ≤ 2673100 := by rw [List.length_append, row_length]; omega
        have hflen := fillT_len t sp x.temp (out ++ row (t.extract d i))
        have hL := fill_any w1.heap.size v1 q.tv (out ++ row (t.extract d i)) x.temp t ob sp w5 HFP.out HRP5.out.own HRP5.out.below.size ht (by omega) (by omega)
        have hflen2 : (fillT t sp x.temp (out ++ row (t.extract d i))).length ≤ (n + 1) * 33000 := by
          have h1 : x.temp.length * (t.size + 1) ≤ 400 * 81 := Nat.mul_le_mul htl (by omega)
          rw [List.length_append, row_length] at hflen
          omega
        generalize fillT t sp x.temp (out ++ row (t.extract d i)) = out2 at hL hflen2 HEQ
        clear hflen
        refine hL.mono ?_
        rintro e w6 ⟨v6, rfl, hF6⟩
        clear hL
        have HRP6 : Hid (Rp w1 w6 x.pat t tb v6 out2 (.slice (some ⟨ob, 0, none⟩) sp.length sp.length) (some sp)) := HRP5.out.grown hF6.gn hF6.own
        have HBW6 : Hid (Below w.heap.size w w6) := HB1.out.trans (HRP6.out.below.mono HB1.out.size)
        obtain ⟨a1, a2⟩ := spat_first (HFP.out.gn hF6.gn).oa H0.out
        clear hF6 k3 k4 k5
        obtain ⟨k3, k4, k5⟩ := HPU.out.cells (w' := w6) (HBW6.out.block g hlt)
        rcases bool_or x.all with hal | hal
        · have HE2 : Hid (R = replL mf x t f' (nextM mf x.pat t j) (n + 1) j out2) := by rw [Hid, HEQ.out, if_neg hnum, if_pos hal]
          rw [hal] at k5
          have hL := following_any mf HM.out x.pat t tb j (i : Int) w6 (HT.out.below HRP6.out.below) hi3 ht
          go_wp2_with fail
          refine hL.mono ?_
          rintro e w3 ⟨hB3, u3, rfl, hS3⟩
          clear hL
          have HRP3 : Hid (Rp w1 w3 x.pat t tb v6 out2 u3 (nextM mf x.pat t j)) := HRP6.out.next hB3 hS3 (fun sp' hs' => by obtain ⟨⟨pl', _, hf'⟩, _⟩ := HNX.out sp' hs'; exact first_ne hf')
          have HLP3 : Hid (Lp mf x t R (nextM mf x.pat t j) (n + 1) j f' out2) := ⟨HE2.out.symm, hi3, by omega, hflen2, fun sp' hs' => by
            obtain ⟨⟨pl', h1, h2⟩, h3, h4⟩ := HNX.out sp' hs'
            exact ⟨⟨pl', by omega, h2⟩, by omega, h4, by omega⟩⟩
          clear hB3 hS3
          go_wp2_with fail
          go_roundw
          case rel => exact ⟨n + 1, j, f', out2, _, by go_num, rfl, HRP3.out, HLP3.out⟩
          case measure => simp [intOf]; omega
        · have HE2 : Hid (R = (out2 ++ row (t.extract j t.size), n + 1)) := by rw [Hid, HEQ.out, if_neg hnum, if_neg (by rw [hal]; simp)]
          rw [hal] at k5
          have ho2 : out2.length ≤ 2706000 := by omega
          go_wp2_with fail
          obtain ⟨k3, k4, k5⟩ := HPU.out.cells (w' := w6) ((HBW6.out).block g hlt)
          clear k3 k5
          have hext := extract_size_le t j t.size
          have hSd : w6.drew.cell? ⟨g, o + 4, none⟩ = some (.int .i64 (x.num : Int)) := k4
          go_region_held_law (fun W => W.cell? ⟨g, o + 4, none⟩ = some (.int .i64 (x.num : Int))) (first | exact hSd | exact k4z)
            ((refine step_str_lies _ (by rfl) _ _ 99 9 (by rfl) w1.heap.size 5 i0 Tryz.underlying99 Tryz.underlying9 hi0 hz0 hz1 hz2 v6 (out2).length (bv (out2)) (by rfl) (HRP6.out.own.drew) (t.extract j t.size) (by rfl) (by unfold maxLen; omega) (by omega) (by have := HRP6.out.below.size; simp; omega) w6.heap.size (by simp) ?_; intro vz wz hownz hgrowz hatz; have hcv := bytes_txt w1.heap.size vz (out2 ++ row (t.extract j t.size)) wz (by rw [bv_append, List.length_append, row_length, ← strCells_bv]; exact hownz); have k4z : wz.cell? ⟨g, o + 4, none⟩ = some (.int .i64 (x.num : Int)) := (World.cell?_of_block (w := w6) (w' := wz) (a := ⟨g, o + 4, none⟩) (hgrowz.block g (Nat.lt_of_lt_of_le hlt (HBW6.out).size) (fun e => by have := (HRP6.out.own.lt g e.symm).1; have := HB1.out.size; omega))).trans k4; have HBz : Hid (Below w.heap.size w wz) := (HBW6.out).trans ⟨hgrowz.os, hgrowz.tape, hgrowz.output, (by have := (HBW6.out).size; exact hgrowz.size), fun k hk => hgrowz.block k (Nat.lt_of_lt_of_le hk (HBW6.out).size) (fun e => by have := (HRP6.out.own.lt k e.symm).1; have := HB1.out.size; omega)⟩; generalize hTX : txt (out2 ++ row (t.extract j t.size)) = TX at hcv; have HTX : Hid (txt (out2 ++ row (t.extract j t.size)) = TX) := hTX; clear hownz hgrowz hatz hTX))
          all_goals go_wp2_with fail
          all_goals go_ret2
          all_goals exact ⟨HBz.out, by rw [HRR.out, ← HTX.out]; rw [HE2.out]; simp; omega⟩
end Ee
end Go.Proofs.YtppjlpihaocdiaaGreatDoor
