/- Several texts in one. -/
import Derived.Test.YtppjlpihaocdiaaGreatDoorPrYH
import Derived.Deep.CutBlock
/- A part of the proof. -/
set_option linter.unusedSimpArgs false
set_option linter.unusedVariables false
namespace Go.Proofs.YtppjlpihaocdiaaGreatDoor
namespace Rs
open Go.RowKit
attribute [local go_sem ↓] LC_eq BC_eq Go.wp_at_zero Go.wp_at_succ
theorem Rk.added' {w w1 : World} {b gg cap lo hi : Nat} {s : ByteArray} {p : RSt} {cv lv : Value} {o1 : Obj} {x : Cm} {q : Pts} {xs : List Value} {cs : List Cm} (h : Rk w b s p cv lv) (hp : p.cmds = cs) (hl : Lies w b lo hi cv lv x q) (hxs : w.ownsRow (b + 1) 200 23 cv cs.length xs) (hcms : CmsAt w b cv lv xs p.cmds)
    (hg : (w.alloc o1).drew.grownBy w1 cv.ownBlock) (hown : w1.ownsRow (b + 1) 200 23 (.slice (some ⟨gg, 0, none⟩) (cs.length + 1) cap) (cs.length + 1) (xs ++ cmL x q))
    (hat : cv.ownBlock = some gg ∨ gg = w.heap.size + 1) :
    Rk (w1.setCell ⟨b, 3, none⟩ (.slice (some ⟨gg, 0, none⟩) (cs.length + 1) cap)) b s { p with cmds := cs ++ [x] } (.slice (some ⟨gg, 0, none⟩) (cs.length + 1) cap) lv ∧
    Fq b cv (.slice (some ⟨gg, 0, none⟩) (cs.length + 1) cap) lv lv w (w1.setCell ⟨b, 3, none⟩ (.slice (some ⟨gg, 0, none⟩) (cs.length + 1) cap)) := by
  subst hp
  exact h.added hl.cm hl.above hl.fits hl.acv hl.alv hxs hcms hg hown hat
set_option maxRecDepth 100000 in
set_option maxHeartbeats 16000000 in
theorem what_any (N : Nat) (ih : RowAt N) (b : Nat) (s : ByteArray) (p : RSt) (cv lv : Value) (w : World) (hr : Rk w b s p cv lv) (c : Cm) (q : Pts) (lo hi : Nat) (hl : Lies w b lo hi cv lv c q) (hcv0 : ∀ g, cv.ownBlock = some g → g ≤ lo) (hlv0 : ∀ g, lv.ownBlock = some g → g ≤ lo) (hlow : lo ≤ w.heap.size) (hn1 : p.cmds.length ≤ p.at') (hn2 : p.labs.length ≤ p.at') (hop : p.op ≤ 5) (hN : 6 ≤ p.op + 1 + N) :
    Calls Tryz.prog 164 #[.pointer (some ⟨b, 0, none⟩), .agg (cmL c q).toArray] w (RPost 1 b s p cv lv w (whatF (rowN s N) s p c)) := by
  have HK : Hid (Rk w b s p cv lv) := hr
  have IH : Hid (RowAt N) := ih
  have HL : Hid (Lies w b lo hi cv lv c q) := hl
  have hb := hr.lt
  have hle := hr.cu.rc.le
  have h400 := hr.cu.rc.s40
  have HC : Hid (Cu w b s p.at' p.long) := hr.cu
  clear hr ih hl
  rcases bool_or (nxt s letters p.at') with hn | hn
  · have HN : Hid (nxt s letters p.at' = true) := hn
    obtain ⟨hlt, hkd, hk20⟩ := kind_is hn
    have HF : Hid (whatF (rowN s N) s p c = if kindF (byt s p.at') = 0 then blockF (rowN s N) s p { c with kind := kindF (byt s p.at') } else if kindF (byt s p.at') = 14 ∨ kindF (byt s p.at') = 15 ∨ kindF (byt s p.at') = 16 then (if pk s (p.at' + 1) = 32 then ({ p with at' := eol s (p.at' + 1 + 1), cmds := p.cmds ++ [{ c with kind := kindF (byt s p.at'), text := s.extract (p.at' + 1 + 1) (eol s (p.at' + 1 + 1)) }] }, true) else ({ p with at' := p.at' + 1, cmds := p.cmds ++ [{ c with kind := kindF (byt s p.at') }] }, false)) else if kindF (byt s p.at') = 17 ∨ kindF (byt s p.at') = 18 then ((p.label s (p.at' + 1) true).add { c with kind := kindF (byt s p.at') }, true) else if kindF (byt s p.at') = 19 then ({ p with at' := (putF s (p.at' + 1) p.long { c with kind := kindF (byt s p.at') }).1, cmds := p.cmds ++ [(putF s (p.at' + 1) p.long { c with kind := kindF (byt s p.at') }).2.1], long := (putF s (p.at' + 1) p.long { c with kind := kindF (byt s p.at') }).2.2.1 }, (putF s (p.at' + 1) p.long { c with kind := kindF (byt s p.at') }).2.2.2) else if kindF (byt s p.at') = 20 then ({ p with at' := (rowsF s (p.at' + 1)).1, cmds := p.cmds ++ [{ c with kind := kindF (byt s p.at'), frm := (rowsF s (p.at' + 1)).2.1, too := (rowsF s (p.at' + 1)).2.2.1 }] }, (rowsF s (p.at' + 1)).2.2.2) else ({ p with at' := p.at' + 1, cmds := p.cmds ++ [{ c with kind := kindF (byt s p.at') }] }, true)) := by rw [Hid, whatF, if_pos hn]
    clear hn
    generalize hWF : whatF (rowN s N) s p c = WF at HF
    clear hWF
    obtain ⟨ao, cap0, rfl⟩ : ∃ ao cap0, cv = .slice ao p.cmds.length cap0 := by
      obtain ⟨xs, own, _⟩ := HK.out.own
      rcases own.2 with ⟨e, e2⟩ | ⟨g, c, _, e, _⟩
      · exact ⟨none, 0, by rw [e, e2]⟩
      · exact ⟨_, _, e⟩
    have hy := byt_int s p.at' hlt
    have hy256 := byt_lt s p.at'
    have HKD : Hid (Lib.indexByte letters.data.toList ((byt s p.at' : Nat) : Int).toNat.toUInt8 = (kindF (byt s p.at') : Int)) := hkd
    generalize kindF (byt s p.at') = k at HF HKD hk20
    clear hkd
    obtain ⟨i0, hi0, hz0, hz1, hz2⟩ := info_parts23
    have k1 : (0 : Int) ≤ (p.at' : Int) := by omega
    have k2 : (p.at' : Int) < (s.size : Int) := by omega
    go_enter Tryz.func164, Tryz.ntmps164
    go_upto_region 3 with (first
      | (refine wpList_box_row 3 rfl rfl 200 (.tmp 1) rfl _ rfl ?_; intro w1 h1 hR1 hB1; have HR1 : Hid (Row w1 w.heap.size (cmL c q)) := hR1; have HB1 : Hid (Below w.heap.size w w1) := hB1; clear hR1 hB1)
      | (go_at_call 161; refine (nextIsIn_any b s letters p.at' _ (HC.out.below HB1.out).rc).mono ?_; rw [HN.out]; rintro e w2 ⟨rfl, n2, rfl⟩))
    have HM2 : Hid (Mw b w (w1.drewN n2)) := (Mw.below HB1.out hb).drewN n2
    have HC2 : Hid (Cu (w1.drewN n2) b s p.at' p.long) := (HC.out.below HB1.out).drewN n2
    have HR2 : Hid (Row (w1.drewN n2) w.heap.size (cmL c q)) := HR1.out.of_block rfl
    have hz2' : w.heap.size < (w1.drewN n2).heap.size := by show w.heap.size < w1.heap.size; omega
    generalize w1.drewN n2 = w2 at HM2 HC2 HR2 hz2' ⊢
    clear HR1 HB1
    obtain ⟨⟨r0, r1, rf, _, _⟩, r5, rf5⟩ := HC2.out
    have m0 := HR2.out.cell (k := 0) rfl
    have f0 := HR2.out.frozen (k := 0) (by show 0 < 23; omega)
    go_cut [] (fun wx => ∃ n, wx = ((w2.setCell ⟨w.heap.size, 0, none⟩ (.int .i64 (k : Int))).drewN n))
    case first =>
      go_region_with (go_at_call 194; refine (indexByte_any letters (byt s p.at') _ hy256).mono ?_; rw [HKD.out]; rintro e w3 ⟨rfl, hw3⟩; subst hw3)
      all_goals (go_wp2_with fail; go_meet; exact ⟨1, rfl⟩)
    case rest =>
      obtain ⟨n, rfl⟩ := hcut
      have HM3 : Hid (Mw b w ((w2.setCell ⟨w.heap.size, 0, none⟩ (.int .i64 (k : Int))).drewN n)) := (HM2.out.setNew (Nat.le_refl _) hb _).drewN n
      have HC3 : Hid (Cu ((w2.setCell ⟨w.heap.size, 0, none⟩ (.int .i64 (k : Int))).drewN n) b s p.at' p.long) := (HC2.out.setNew (by omega) _).drewN n
      have HR3 : Hid (Row ((w2.setCell ⟨w.heap.size, 0, none⟩ (.int .i64 (k : Int))).drewN n) w.heap.size (cmL { c with kind := k } q)) := (Row.put HR2.out 0 (by show 0 < 23; omega) (.int .i64 (k : Int))).of_block rfl
      have hz3 : w.heap.size < ((w2.setCell ⟨w.heap.size, 0, none⟩ (.int .i64 (k : Int))).drewN n).heap.size := by show w.heap.size < (w2.setCell _ _).heap.size; rw [size_set]; exact hz2'
      generalize ((w2.setCell ⟨w.heap.size, 0, none⟩ (.int .i64 (k : Int))).drewN n) = w3 at HM3 HC3 HR3 hz3 ⊢
      clear r0 r1 rf r5 rf5 m0 f0 HM2 HC2 HR2 hz2'
      obtain ⟨⟨r0, r1, rf, _, _⟩, r5, rf5⟩ := HC3.out
      have m0 := HR3.out.cell (k := 0) rfl
      by_cases hk0 : k = 0
      · subst hk0
        have HW : Hid (WF = blockF (rowN s N) s p { c with kind := 0 }) := by rw [Hid, HF.out, if_pos rfl]
        clear HF
        go_wp2_with (first | (refine wpList_load_row 28 rfl rfl 200 (.tmp 3) rfl _ rfl _ _ HR3.out Tryz.underlying200 rfl (Tryz.size200 _ _) ?_))
        refine (block_any N IH.out b s p (Value.slice ao p.cmds.length cap0) lv _ (HK.out.mw HM3.out HC3.out) { c with kind := 0 } q lo hi ⟨HL.out.cm.plain ((Keep.refl HL.out.fits).mw HM3.out HL.out.above) (show ¬ (0 : Nat) = 19 by decide) rfl rfl, HL.out.above, Nat.le_trans HL.out.fits HM3.out.size, HL.out.acv, HL.out.alv⟩ hn1 hn2 hlt hop hN).mono ?_
        rintro e w4 hP
        rw [← HW.out] at hP
        unfold RPost at hP
        rcases hP with ⟨h1, rfl, ⟨cv', lv', hk4, hf4⟩, hrest⟩ | ⟨h1, rfl, hrc, hbl⟩
        · have HP : Hid (RPost 1 b s p (Value.slice ao p.cmds.length cap0) lv w WF (.returned (.bool true)) w4) := .inl ⟨h1, rfl, ⟨cv', lv', hk4, (Fq.mw HM3.out).trans hf4⟩, hrest⟩
          clear hk4 hf4 hrest h1
          go_wp2_with fail
          go_ret
          exact HP.out
        · have HP : Hid (RPost 1 b s p (Value.slice ao p.cmds.length cap0) lv w WF (.returned (.bool false)) w4) := .inr ⟨h1, rfl, hrc, ((Fq.mw HM3.out).below HK.out).trans hbl⟩
          clear hrc hbl h1
          go_wp2_with fail
          go_ret
          exact HP.out
      · have hk0' : ((k : Int) == 0) = false := beq_false_of_ne (by omega)
        go_upto_block 0 with fail
        have HMV : Hid (Mw b w (w3.setCell ⟨b, 1, none⟩ (.int .i64 ((p.at' : Int) + 1)))) := HM3.out.set1 _
        have HCV : Hid (Cu (w3.setCell ⟨b, 1, none⟩ (.int .i64 ((p.at' : Int) + 1))) b s (p.at' + 1) p.long) := HC3.out.put (p.at' + 1) (by omega) (by omega)
        have HRV : Hid (Row (w3.setCell ⟨b, 1, none⟩ (.int .i64 ((p.at' : Int) + 1))) w.heap.size (cmL { c with kind := k } q)) := HR3.out.of_block (Below.heap_setCell _ _ _ _ (by simp only; omega))
        have hzv : w.heap.size < (w3.setCell ⟨b, 1, none⟩ (.int .i64 ((p.at' : Int) + 1))).heap.size := by rw [size_set]; exact hz3
        generalize w3.setCell ⟨b, 1, none⟩ (.int .i64 ((p.at' : Int) + 1)) = v at HMV HCV HRV hzv ⊢
        clear r0 r1 rf r5 rf5 m0 HM3 HC3 HR3 hz3
        have HLV : Hid (Keep lo hi w v) := (Keep.refl HL.out.fits).mw HMV.out HL.out.above
        go_cut [5] (fun s5 wx => ∃ (ok : Bool) (p' : RSt) (cs : List Value) (lv' : Value), s5 = .bool ok ∧ Hid (Rk wx b s p' (Value.slice ao p.cmds.length cap0) lv') ∧ Hid (Row wx w.heap.size cs ∧ cs.length = 23 ∧ ∀ v ∈ cs, v.oneCell' = true) ∧ Hid (Fq b (Value.slice ao p.cmds.length cap0) (Value.slice ao p.cmds.length cap0) lv lv' w wx) ∧ Hid (WF.2 = ok ∧ WF.1.at' = p'.at') ∧ Hid (ok = true → ∃ c' q' hi', cs = cmL c' q' ∧ Lies wx b lo hi' (Value.slice ao p.cmds.length cap0) lv' c' q' ∧ WF.1 = { p' with cmds := p.cmds ++ [c'] }) ∧ Hid (p'.cmds = p.cmds) ∧ p'.labs.length ≤ p'.at' ∧ Hid (p'.op = p.op) ∧ p.at' + 1 ≤ p'.at' ∧ p'.at' ≤ 400)
        case first =>
          by_cases e14 : k = 14
          · subst e14
            have HW : Hid (WF = if pk s (p.at' + 1) = 32 then ({ p with at' := eol s (p.at' + 1 + 1), cmds := p.cmds ++ [{ c with kind := 14, text := s.extract (p.at' + 1 + 1) (eol s (p.at' + 1 + 1)) }] }, true) else ({ p with at' := p.at' + 1, cmds := p.cmds ++ [{ c with kind := 14 }] }, false)) := by rw [Hid, HF.out, if_neg (by decide), if_pos (by decide)]
            clear HF
            go_wp2_with fail
            refine (line_any b s (p.at' + 1) _ HCV.out.rc).mono ?_
            rintro e w5 hL5
            rcases hL5 with ⟨h32, rfl, hm5, hle5⟩ | ⟨h32, rfl, hm5⟩
            · obtain ⟨hlt2, _⟩ := pk_byte (s := s) (i := p.at' + 1) (by rw [h32]; decide)
              have hat5 : p.at' + 1 + 1 ≤ eol s (p.at' + 1 + 1) := (eol_text s (p.at' + 1 + 1) (by omega)).2.2.1
              have HM5 : Hid (Mw b w w5) := HMV.out.trans (Mw.ofMk hm5)
              have HC5 : Hid (Cu w5 b s (eol s (p.at' + 1 + 1)) p.long) := HCV.out.ofMk hm5 hle5
              have HR5 : Hid (Row w5 w.heap.size (cmL { c with kind := 14 } q)) := HRV.out.of_block (hm5.block w.heap.size hzv (by omega))
              have HW2 : Hid (WF = ({ p with at' := eol s (p.at' + 1 + 1), cmds := p.cmds ++ [{ { c with kind := 14 } with text := s.extract (p.at' + 1 + 1) (eol s (p.at' + 1 + 1)) }] }, true)) := by rw [Hid, HW.out, if_pos h32]
              have m13 := HR5.out.cell (k := 13) rfl
              have f13 := HR5.out.frozen (k := 13) (by show 13 < 23; omega)
              clear hm5 h32 HW
              generalize eol s (p.at' + 1 + 1) = J at hle5 hat5 HC5 HW2
              have HM6 : Hid (Mw b w (w5.setCell ⟨w.heap.size, 13, none⟩ (.string (s.extract (p.at' + 1 + 1) J)))) := HM5.out.setNew (Nat.le_refl _) hb _
              have HC6 : Hid (Cu (w5.setCell ⟨w.heap.size, 13, none⟩ (.string (s.extract (p.at' + 1 + 1) J))) b s J p.long) := HC5.out.setNew (by omega) _
              have HR6 : Hid (Row (w5.setCell ⟨w.heap.size, 13, none⟩ (.string (s.extract (p.at' + 1 + 1) J))) w.heap.size (cmL { { c with kind := 14 } with text := s.extract (p.at' + 1 + 1) J } q)) := HR5.out.put 13 (by show 13 < 23; omega) _
              have HL6 : Hid (Keep lo hi w (w5.setCell ⟨w.heap.size, 13, none⟩ (.string (s.extract (p.at' + 1 + 1) J)))) := (Keep.refl HL.out.fits).mw HM6.out HL.out.above
              go_wp2_with fail
              go_meet
              exact ⟨true, { p with at' := J }, _, lv, rfl, HK.out.mw HM6.out HC6.out, ⟨HR6.out, rfl, cmL_one _ _ HL.out.cm.one⟩, Fq.mw HM6.out, ⟨by rw [HW2.out], by rw [HW2.out]⟩, fun _ => ⟨_, _, hi, rfl, ⟨HL.out.cm.plain HL6.out (show ¬ (14 : Nat) = 19 by decide) rfl rfl, HL.out.above, HL6.out.size, HL.out.acv, HL.out.alv⟩, by rw [HW2.out]⟩, rfl, (by show p.labs.length ≤ J; omega), rfl, (by show p.at' + 1 ≤ J; omega), (by show J ≤ 400; omega)⟩
            · have HM5 : Hid (Mw b w w5) := HMV.out.trans (Mw.ofMk hm5)
              have HC5 : Hid (Cu w5 b s (p.at' + 1) p.long) := HCV.out.ofMk hm5 (by omega)
              have HR5 : Hid (Row w5 w.heap.size (cmL { c with kind := 14 } q)) := HRV.out.of_block (hm5.block w.heap.size hzv (by omega))
              have HW2 : Hid (WF.2 = false ∧ WF.1.at' = p.at' + 1) := by rw [Hid, HW.out, if_neg h32]; exact ⟨rfl, rfl⟩
              have m13 := HR5.out.cell (k := 13) rfl
              have f13 := HR5.out.frozen (k := 13) (by show 13 < 23; omega)
              clear hm5 h32 HW
              have HM6 : Hid (Mw b w (w5.setCell ⟨w.heap.size, 13, none⟩ (.string noBytes))) := HM5.out.setNew (Nat.le_refl _) hb _
              have HC6 : Hid (Cu (w5.setCell ⟨w.heap.size, 13, none⟩ (.string noBytes)) b s (p.at' + 1) p.long) := HC5.out.setNew (by omega) _
              have HR6 : Hid (Row (w5.setCell ⟨w.heap.size, 13, none⟩ (.string noBytes)) w.heap.size (cmL { { c with kind := 14 } with text := noBytes } q)) := HR5.out.put 13 (by show 13 < 23; omega) _
              go_wp2_with fail
              go_meet
              exact ⟨false, { p with at' := p.at' + 1 }, _, lv, rfl, HK.out.mw HM6.out HC6.out, ⟨HR6.out, rfl, cmL_one _ _ HL.out.cm.one⟩, Fq.mw HM6.out, HW2.out, fun h => (by cases h), rfl, (by show p.labs.length ≤ p.at' + 1; omega), rfl, Nat.le_refl _, (by show p.at' + 1 ≤ 400; omega)⟩
          · by_cases e15 : k = 15
            · subst e15
              have HW : Hid (WF = if pk s (p.at' + 1) = 32 then ({ p with at' := eol s (p.at' + 1 + 1), cmds := p.cmds ++ [{ c with kind := 15, text := s.extract (p.at' + 1 + 1) (eol s (p.at' + 1 + 1)) }] }, true) else ({ p with at' := p.at' + 1, cmds := p.cmds ++ [{ c with kind := 15 }] }, false)) := by rw [Hid, HF.out, if_neg (by decide), if_pos (by decide)]
              clear HF
              go_wp2_with fail
              refine (line_any b s (p.at' + 1) _ HCV.out.rc).mono ?_
              rintro e w5 hL5
              rcases hL5 with ⟨h32, rfl, hm5, hle5⟩ | ⟨h32, rfl, hm5⟩
              · obtain ⟨hlt2, _⟩ := pk_byte (s := s) (i := p.at' + 1) (by rw [h32]; decide)
                have hat5 : p.at' + 1 + 1 ≤ eol s (p.at' + 1 + 1) := (eol_text s (p.at' + 1 + 1) (by omega)).2.2.1
                have HM5 : Hid (Mw b w w5) := HMV.out.trans (Mw.ofMk hm5)
                have HC5 : Hid (Cu w5 b s (eol s (p.at' + 1 + 1)) p.long) := HCV.out.ofMk hm5 hle5
                have HR5 : Hid (Row w5 w.heap.size (cmL { c with kind := 15 } q)) := HRV.out.of_block (hm5.block w.heap.size hzv (by omega))
                have HW2 : Hid (WF = ({ p with at' := eol s (p.at' + 1 + 1), cmds := p.cmds ++ [{ { c with kind := 15 } with text := s.extract (p.at' + 1 + 1) (eol s (p.at' + 1 + 1)) }] }, true)) := by rw [Hid, HW.out, if_pos h32]
                have m13 := HR5.out.cell (k := 13) rfl
                have f13 := HR5.out.frozen (k := 13) (by show 13 < 23; omega)
                clear hm5 h32 HW
                generalize eol s (p.at' + 1 + 1) = J at hle5 hat5 HC5 HW2
                have HM6 : Hid (Mw b w (w5.setCell ⟨w.heap.size, 13, none⟩ (.string (s.extract (p.at' + 1 + 1) J)))) := HM5.out.setNew (Nat.le_refl _) hb _
                have HC6 : Hid (Cu (w5.setCell ⟨w.heap.size, 13, none⟩ (.string (s.extract (p.at' + 1 + 1) J))) b s J p.long) := HC5.out.setNew (by omega) _
                have HR6 : Hid (Row (w5.setCell ⟨w.heap.size, 13, none⟩ (.string (s.extract (p.at' + 1 + 1) J))) w.heap.size (cmL { { c with kind := 15 } with text := s.extract (p.at' + 1 + 1) J } q)) := HR5.out.put 13 (by show 13 < 23; omega) _
                have HL6 : Hid (Keep lo hi w (w5.setCell ⟨w.heap.size, 13, none⟩ (.string (s.extract (p.at' + 1 + 1) J)))) := (Keep.refl HL.out.fits).mw HM6.out HL.out.above
                go_wp2_with fail
                go_meet
                exact ⟨true, { p with at' := J }, _, lv, rfl, HK.out.mw HM6.out HC6.out, ⟨HR6.out, rfl, cmL_one _ _ HL.out.cm.one⟩, Fq.mw HM6.out, ⟨by rw [HW2.out], by rw [HW2.out]⟩, fun _ => ⟨_, _, hi, rfl, ⟨HL.out.cm.plain HL6.out (show ¬ (15 : Nat) = 19 by decide) rfl rfl, HL.out.above, HL6.out.size, HL.out.acv, HL.out.alv⟩, by rw [HW2.out]⟩, rfl, (by show p.labs.length ≤ J; omega), rfl, (by show p.at' + 1 ≤ J; omega), (by show J ≤ 400; omega)⟩
              · have HM5 : Hid (Mw b w w5) := HMV.out.trans (Mw.ofMk hm5)
                have HC5 : Hid (Cu w5 b s (p.at' + 1) p.long) := HCV.out.ofMk hm5 (by omega)
                have HR5 : Hid (Row w5 w.heap.size (cmL { c with kind := 15 } q)) := HRV.out.of_block (hm5.block w.heap.size hzv (by omega))
                have HW2 : Hid (WF.2 = false ∧ WF.1.at' = p.at' + 1) := by rw [Hid, HW.out, if_neg h32]; exact ⟨rfl, rfl⟩
                have m13 := HR5.out.cell (k := 13) rfl
                have f13 := HR5.out.frozen (k := 13) (by show 13 < 23; omega)
                clear hm5 h32 HW
                have HM6 : Hid (Mw b w (w5.setCell ⟨w.heap.size, 13, none⟩ (.string noBytes))) := HM5.out.setNew (Nat.le_refl _) hb _
                have HC6 : Hid (Cu (w5.setCell ⟨w.heap.size, 13, none⟩ (.string noBytes)) b s (p.at' + 1) p.long) := HC5.out.setNew (by omega) _
                have HR6 : Hid (Row (w5.setCell ⟨w.heap.size, 13, none⟩ (.string noBytes)) w.heap.size (cmL { { c with kind := 15 } with text := noBytes } q)) := HR5.out.put 13 (by show 13 < 23; omega) _
                go_wp2_with fail
                go_meet
                exact ⟨false, { p with at' := p.at' + 1 }, _, lv, rfl, HK.out.mw HM6.out HC6.out, ⟨HR6.out, rfl, cmL_one _ _ HL.out.cm.one⟩, Fq.mw HM6.out, HW2.out, fun h => (by cases h), rfl, (by show p.labs.length ≤ p.at' + 1; omega), rfl, Nat.le_refl _, (by show p.at' + 1 ≤ 400; omega)⟩
            · by_cases e16 : k = 16
              · subst e16
                have HW : Hid (WF = if pk s (p.at' + 1) = 32 then ({ p with at' := eol s (p.at' + 1 + 1), cmds := p.cmds ++ [{ c with kind := 16, text := s.extract (p.at' + 1 + 1) (eol s (p.at' + 1 + 1)) }] }, true) else ({ p with at' := p.at' + 1, cmds := p.cmds ++ [{ c with kind := 16 }] }, false)) := by rw [Hid, HF.out, if_neg (by decide), if_pos (by decide)]
                clear HF
                go_wp2_with fail
                refine (line_any b s (p.at' + 1) _ HCV.out.rc).mono ?_
                rintro e w5 hL5
                rcases hL5 with ⟨h32, rfl, hm5, hle5⟩ | ⟨h32, rfl, hm5⟩
                · obtain ⟨hlt2, _⟩ := pk_byte (s := s) (i := p.at' + 1) (by rw [h32]; decide)
                  have hat5 : p.at' + 1 + 1 ≤ eol s (p.at' + 1 + 1) := (eol_text s (p.at' + 1 + 1) (by omega)).2.2.1
                  have HM5 : Hid (Mw b w w5) := HMV.out.trans (Mw.ofMk hm5)
                  have HC5 : Hid (Cu w5 b s (eol s (p.at' + 1 + 1)) p.long) := HCV.out.ofMk hm5 hle5
                  have HR5 : Hid (Row w5 w.heap.size (cmL { c with kind := 16 } q)) := HRV.out.of_block (hm5.block w.heap.size hzv (by omega))
                  have HW2 : Hid (WF = ({ p with at' := eol s (p.at' + 1 + 1), cmds := p.cmds ++ [{ { c with kind := 16 } with text := s.extract (p.at' + 1 + 1) (eol s (p.at' + 1 + 1)) }] }, true)) := by rw [Hid, HW.out, if_pos h32]
                  have m13 := HR5.out.cell (k := 13) rfl
                  have f13 := HR5.out.frozen (k := 13) (by show 13 < 23; omega)
                  clear hm5 h32 HW
                  generalize eol s (p.at' + 1 + 1) = J at hle5 hat5 HC5 HW2
                  have HM6 : Hid (Mw b w (w5.setCell ⟨w.heap.size, 13, none⟩ (.string (s.extract (p.at' + 1 + 1) J)))) := HM5.out.setNew (Nat.le_refl _) hb _
                  have HC6 : Hid (Cu (w5.setCell ⟨w.heap.size, 13, none⟩ (.string (s.extract (p.at' + 1 + 1) J))) b s J p.long) := HC5.out.setNew (by omega) _
                  have HR6 : Hid (Row (w5.setCell ⟨w.heap.size, 13, none⟩ (.string (s.extract (p.at' + 1 + 1) J))) w.heap.size (cmL { { c with kind := 16 } with text := s.extract (p.at' + 1 + 1) J } q)) := HR5.out.put 13 (by show 13 < 23; omega) _
                  have HL6 : Hid (Keep lo hi w (w5.setCell ⟨w.heap.size, 13, none⟩ (.string (s.extract (p.at' + 1 + 1) J)))) := (Keep.refl HL.out.fits).mw HM6.out HL.out.above
                  go_wp2_with fail
                  go_meet
                  exact ⟨true, { p with at' := J }, _, lv, rfl, HK.out.mw HM6.out HC6.out, ⟨HR6.out, rfl, cmL_one _ _ HL.out.cm.one⟩, Fq.mw HM6.out, ⟨by rw [HW2.out], by rw [HW2.out]⟩, fun _ => ⟨_, _, hi, rfl, ⟨HL.out.cm.plain HL6.out (show ¬ (16 : Nat) = 19 by decide) rfl rfl, HL.out.above, HL6.out.size, HL.out.acv, HL.out.alv⟩, by rw [HW2.out]⟩, rfl, (by show p.labs.length ≤ J; omega), rfl, (by show p.at' + 1 ≤ J; omega), (by show J ≤ 400; omega)⟩
                · have HM5 : Hid (Mw b w w5) := HMV.out.trans (Mw.ofMk hm5)
                  have HC5 : Hid (Cu w5 b s (p.at' + 1) p.long) := HCV.out.ofMk hm5 (by omega)
                  have HR5 : Hid (Row w5 w.heap.size (cmL { c with kind := 16 } q)) := HRV.out.of_block (hm5.block w.heap.size hzv (by omega))
                  have HW2 : Hid (WF.2 = false ∧ WF.1.at' = p.at' + 1) := by rw [Hid, HW.out, if_neg h32]; exact ⟨rfl, rfl⟩
                  have m13 := HR5.out.cell (k := 13) rfl
                  have f13 := HR5.out.frozen (k := 13) (by show 13 < 23; omega)
                  clear hm5 h32 HW
                  have HM6 : Hid (Mw b w (w5.setCell ⟨w.heap.size, 13, none⟩ (.string noBytes))) := HM5.out.setNew (Nat.le_refl _) hb _
                  have HC6 : Hid (Cu (w5.setCell ⟨w.heap.size, 13, none⟩ (.string noBytes)) b s (p.at' + 1) p.long) := HC5.out.setNew (by omega) _
                  have HR6 : Hid (Row (w5.setCell ⟨w.heap.size, 13, none⟩ (.string noBytes)) w.heap.size (cmL { { c with kind := 16 } with text := noBytes } q)) := HR5.out.put 13 (by show 13 < 23; omega) _
                  go_wp2_with fail
                  go_meet
                  exact ⟨false, { p with at' := p.at' + 1 }, _, lv, rfl, HK.out.mw HM6.out HC6.out, ⟨HR6.out, rfl, cmL_one _ _ HL.out.cm.one⟩, Fq.mw HM6.out, HW2.out, fun h => (by cases h), rfl, (by show p.labs.length ≤ p.at' + 1; omega), rfl, Nat.le_refl _, (by show p.at' + 1 ≤ 400; omega)⟩
              · by_cases e17 : k = 17
                · subst e17
                  have HW : Hid (WF = ((p.label s (p.at' + 1) true).add { c with kind := 17 }, true)) := by rw [Hid, HF.out, if_neg (by decide), if_neg (by decide), if_pos (by decide)]
                  clear HF
                  have HKV : Hid (Rk v b s { p with at' := p.at' + 1 } (Value.slice ao p.cmds.length cap0) lv) := HK.out.mw HMV.out HCV.out
                  go_wp2_with fail
                  refine (label_any b s { p with at' := p.at' + 1 } (Value.slice ao p.cmds.length cap0) lv true _ HKV.out (by simp only; omega) (by simp only; omega)).mono ?_
                  rintro e w5 ⟨lv5, rfl, hk5, hf5⟩
                  have HK5 : Hid (Rk w5 b s (p.label s (p.at' + 1) true) (Value.slice ao p.cmds.length cap0) lv5) := hk5
                  have HF5 : Hid (Fq b (Value.slice ao p.cmds.length cap0) (Value.slice ao p.cmds.length cap0) lv lv5 w w5) := (Fq.mw HMV.out).trans hf5
                  have hal : ∀ g, ((Value.slice ao p.cmds.length cap0)).ownBlock = some g → g < w.heap.size := fun g hg => by obtain ⟨xs, own, _⟩ := HK.out.own; exact (own.lt g hg).2
                  have hll : ∀ g, lv.ownBlock = some g → g < w.heap.size := fun g hg => (HK.out.lab.lt g hg).2
                  have HR5 : Hid (Row w5 w.heap.size (cmL { c with kind := 17 } q)) := HRV.out.of_block (hf5.block w.heap.size hzv (by omega) (fun e => by have := hal _ e.symm; omega) (fun e => by have := hll _ e.symm; omega))
                  have HL5 : Hid (Keep lo hi w w5) := ⟨fun i h1 h2 => HF5.out.block i (by have := HL.out.fits; omega) (by have := HL.out.above; omega) (fun e => by have := HL.out.acv i e.symm; omega) (fun e => by have := HL.out.alv i e.symm; omega), Nat.le_trans HL.out.fits HF5.out.size⟩
                  have hlab := labF_le s 8 (p.at' + 1) (by omega)
                  have HAL : Hid (∀ g, lv5.ownBlock = some g → g ≤ lo ∨ hi ≤ g) := fun g hg => by
                    rcases HF5.out.ll with e | e
                    · exact HL.out.alv g (by rw [← e]; exact hg)
                    · exact .inr (Nat.le_trans HL.out.fits (e g hg))
                  clear hk5 hf5
                  simp only
                  go_wp2_with fail
                  go_meet
                  exact ⟨true, p.label s (p.at' + 1) true, _, lv5, rfl, HK5.out, ⟨HR5.out, rfl, cmL_one _ _ HL.out.cm.one⟩, HF5.out, ⟨by rw [HW.out], by rw [HW.out]; rfl⟩, fun _ => ⟨_, _, hi, rfl, ⟨HL.out.cm.plain HL5.out (show ¬ (17 : Nat) = 19 by decide) rfl rfl, HL.out.above, HL5.out.size, HL.out.acv, HAL.out⟩, by rw [HW.out]; rfl⟩, rfl, (by show (p.labs ++ [_]).length ≤ labF s 8 (p.at' + 1); rw [List.length_append, List.length_singleton]; omega), rfl, (by show p.at' + 1 ≤ labF s 8 (p.at' + 1); omega), (by show labF s 8 (p.at' + 1) ≤ 400; omega)⟩
                · by_cases e18 : k = 18
                  · subst e18
                    have HW : Hid (WF = ((p.label s (p.at' + 1) true).add { c with kind := 18 }, true)) := by rw [Hid, HF.out, if_neg (by decide), if_neg (by decide), if_pos (by decide)]
                    clear HF
                    have HKV : Hid (Rk v b s { p with at' := p.at' + 1 } (Value.slice ao p.cmds.length cap0) lv) := HK.out.mw HMV.out HCV.out
                    go_wp2_with fail
                    refine (label_any b s { p with at' := p.at' + 1 } (Value.slice ao p.cmds.length cap0) lv true _ HKV.out (by simp only; omega) (by simp only; omega)).mono ?_
                    rintro e w5 ⟨lv5, rfl, hk5, hf5⟩
                    have HK5 : Hid (Rk w5 b s (p.label s (p.at' + 1) true) (Value.slice ao p.cmds.length cap0) lv5) := hk5
                    have HF5 : Hid (Fq b (Value.slice ao p.cmds.length cap0) (Value.slice ao p.cmds.length cap0) lv lv5 w w5) := (Fq.mw HMV.out).trans hf5
                    have hal : ∀ g, ((Value.slice ao p.cmds.length cap0)).ownBlock = some g → g < w.heap.size := fun g hg => by obtain ⟨xs, own, _⟩ := HK.out.own; exact (own.lt g hg).2
                    have hll : ∀ g, lv.ownBlock = some g → g < w.heap.size := fun g hg => (HK.out.lab.lt g hg).2
                    have HR5 : Hid (Row w5 w.heap.size (cmL { c with kind := 18 } q)) := HRV.out.of_block (hf5.block w.heap.size hzv (by omega) (fun e => by have := hal _ e.symm; omega) (fun e => by have := hll _ e.symm; omega))
                    have HL5 : Hid (Keep lo hi w w5) := ⟨fun i h1 h2 => HF5.out.block i (by have := HL.out.fits; omega) (by have := HL.out.above; omega) (fun e => by have := HL.out.acv i e.symm; omega) (fun e => by have := HL.out.alv i e.symm; omega), Nat.le_trans HL.out.fits HF5.out.size⟩
                    have hlab := labF_le s 8 (p.at' + 1) (by omega)
                    have HAL : Hid (∀ g, lv5.ownBlock = some g → g ≤ lo ∨ hi ≤ g) := fun g hg => by
                      rcases HF5.out.ll with e | e
                      · exact HL.out.alv g (by rw [← e]; exact hg)
                      · exact .inr (Nat.le_trans HL.out.fits (e g hg))
                    clear hk5 hf5
                    simp only
                    go_wp2_with fail
                    go_meet
                    exact ⟨true, p.label s (p.at' + 1) true, _, lv5, rfl, HK5.out, ⟨HR5.out, rfl, cmL_one _ _ HL.out.cm.one⟩, HF5.out, ⟨by rw [HW.out], by rw [HW.out]; rfl⟩, fun _ => ⟨_, _, hi, rfl, ⟨HL.out.cm.plain HL5.out (show ¬ (18 : Nat) = 19 by decide) rfl rfl, HL.out.above, HL5.out.size, HL.out.acv, HAL.out⟩, by rw [HW.out]; rfl⟩, rfl, (by show (p.labs ++ [_]).length ≤ labF s 8 (p.at' + 1); rw [List.length_append, List.length_singleton]; omega), rfl, (by show p.at' + 1 ≤ labF s 8 (p.at' + 1); omega), (by show labF s 8 (p.at' + 1) ≤ 400; omega)⟩
                  · by_cases e19 : k = 19
                    · subst e19
                      have HW : Hid (WF = ({ p with at' := (putF s (p.at' + 1) p.long { c with kind := 19 }).1, cmds := p.cmds ++ [(putF s (p.at' + 1) p.long { c with kind := 19 }).2.1], long := (putF s (p.at' + 1) p.long { c with kind := 19 }).2.2.1 }, (putF s (p.at' + 1) p.long { c with kind := 19 }).2.2.2)) := by rw [Hid, HF.out, if_neg (by decide), if_neg (by decide), if_neg (by decide), if_pos rfl]
                      clear HF
                      go_wp2_with fail
                      refine (put_any b s (p.at' + 1) p.long { c with kind := 19 } _ HCV.out).mono ?_
                      rintro e w5 hP5
                      unfold PutPost at hP5
                      have hple := putF_ge s (p.at' + 1) p.long { c with kind := 19 } (by omega)
                      generalize putF s (p.at' + 1) p.long { c with kind := 19 } = R at hP5 HW hple
                      obtain ⟨j5, c5, lg5, ok5⟩ := R
                      obtain ⟨a5, l5, cc5, r5, g5, tv5, n5, al5, pr5, rfl, hone5, hm5, hc5, hp5⟩ := hP5
                      simp only at hple hp5 hc5 HW ⊢
                      have HM5 : Hid (Mw b w w5) := HMV.out.trans hm5
                      have HC5 : Hid (Cu w5 b s j5 lg5) := hc5
                      have HR5 : Hid (Row w5 w.heap.size (cmL { c with kind := 19 } q)) := HRV.out.of_block (hm5.block w.heap.size hzv (by omega))
                      have HP5 : Hid (ok5 = true → ∃ pt tp, c5 = { { c with kind := 19 } with pat := pt, temp := tp, num := n5, all := al5, prt := pr5 } ∧ PatAt w5 v.heap.size w5.heap.size pt (.slice a5 l5 cc5) (.int .i64 r5) (.int .i64 g5) ∧ TempIn w5 v.heap.size w5.heap.size tp tv5) := hp5
                      have hz5 : v.heap.size ≤ w5.heap.size := hm5.size
                      have hj5 := hc5.rc.le
                      clear hm5 hc5 hp5
                      go_wp2_with (first
                        | (refine wpList_store_part rfl 198 (.tmp 63) (.tmp 61) rfl w.heap.size 14 rfl (putL a5 l5 cc5 r5 g5 tv5 n5 al5 pr5) rfl (cmL { c with kind := 19 } q) (cmL { { c with kind := 19 } with num := n5, all := al5, prt := pr5 } { q with a3 := a5, l3 := l5, c3 := cc5, r3 := r5, g3 := g5, tv := tv5 }) HR5.out (by show 14 + 7 ≤ 23; omega) rfl Tryz.size198 (putL_one _ _ _ _ _ _ _ _ hone5) ?_; intro w6 hR6 hS6; have HR6 : Hid (Row w6 w.heap.size (cmL { { c with kind := 19 } with num := n5, all := al5, prt := pr5 } { q with a3 := a5, l3 := l5, c3 := cc5, r3 := r5, g3 := g5, tv := tv5 })) := hR6; have HS6 : Hid (Sole w.heap.size w5 w6) := hS6; clear hR6 hS6))
                      have HM6 : Hid (Mw b w w6) := HM5.out.sole HS6.out (Nat.le_refl _) hb
                      have HC6 : Hid (Cu w6 b s j5 lg5) := HC5.out.sole HS6.out (by omega)
                      have HL6 : Hid (Keep lo hi w w6) := (Keep.refl HL.out.fits).mw HM6.out HL.out.above
                      have HK6 : Hid (Keep v.heap.size w5.heap.size w5 w6) := (Keep.refl (Nat.le_refl _)).sole HS6.out (by omega)
                      go_meet
                      refine ⟨ok5, { p with at' := j5, long := lg5 }, _, lv, rfl, HK.out.mw HM6.out HC6.out, ⟨HR6.out, rfl, cmL_one _ _ hone5⟩, Fq.mw HM6.out, ⟨by rw [HW.out], by rw [HW.out]⟩, fun hok => ?_, rfl, (by show p.labs.length ≤ j5; omega), rfl, (by show p.at' + 1 ≤ j5; omega), (by show j5 ≤ 400; omega)⟩
                      obtain ⟨pt, tp, rfl, hpt, htp⟩ := HP5.out hok
                      have hlov : lo ≤ v.heap.size := by have := HL.out.above; omega
                      refine ⟨{ { c with kind := 19 } with pat := pt, temp := tp, num := n5, all := al5, prt := pr5 }, { q with a3 := a5, l3 := l5, c3 := cc5, r3 := r5, g3 := g5, tv := tv5 }, w6.heap.size, rfl, ⟨⟨fun h => (HL.out.cm.fst h).keep HL6.out (Nat.le_refl _), fun h => (HL.out.cm.snd h).keep HL6.out (Nat.le_refl _), fun _ => hpt.keep HK6.out hlov, fun _ => htp.keep HK6.out hlov, hone5⟩, HL.out.above, Nat.le_refl _, fun g hg => .inl (hcv0 g hg), fun g hg => .inl (hlv0 g hg)⟩, by rw [HW.out]⟩
                    · by_cases e20 : k = 20
                      · subst e20
                        have HW : Hid (WF = ({ p with at' := (rowsF s (p.at' + 1)).1, cmds := p.cmds ++ [{ c with kind := 20, frm := (rowsF s (p.at' + 1)).2.1, too := (rowsF s (p.at' + 1)).2.2.1 }] }, (rowsF s (p.at' + 1)).2.2.2)) := by rw [Hid, HF.out, if_neg (by decide), if_neg (by decide), if_neg (by decide), if_neg (by decide), if_pos rfl]
                        clear HF
                        go_wp2_with fail
                        refine (rows_any b s (p.at' + 1) _ HCV.out.rc).mono ?_
                        have hge := rowsF_ge s (p.at' + 1) (by omega)
                        generalize rowsF s (p.at' + 1) = R at HW hge ⊢
                        obtain ⟨j5, f5, t5, ok5⟩ := R
                        simp only at HW hge ⊢
                        rintro e w5 ⟨x5, y5, rfl, hm5, hj5, hxy⟩
                        have hlo5 : p.at' + 1 ≤ j5 := hge
                        have HM5 : Hid (Mw b w w5) := HMV.out.trans (Mw.ofMk hm5)
                        have HC5 : Hid (Cu w5 b s j5 p.long) := HCV.out.ofMk hm5 hj5
                        have HR5 : Hid (Row w5 w.heap.size (cmL { c with kind := 20 } q)) := HRV.out.of_block (hm5.block w.heap.size hzv (by omega))
                        have HXY : Hid (ok5 = true → x5 = f5 ∧ y5 = t5) := hxy
                        have m21 := HR5.out.cell (k := 21) rfl
                        have f21 := HR5.out.frozen (k := 21) (by show 21 < 23; omega)
                        have m22 := HR5.out.cell (k := 22) rfl
                        have f22 := HR5.out.frozen (k := 22) (by show 22 < 23; omega)
                        clear hm5 hxy
                        have HM6 : Hid (Mw b w ((w5.setCell ⟨w.heap.size, 21, none⟩ (.string x5)).setCell ⟨w.heap.size, 22, none⟩ (.string y5))) := (HM5.out.setNew (Nat.le_refl _) hb _).setNew (Nat.le_refl _) hb _
                        have HC6 : Hid (Cu ((w5.setCell ⟨w.heap.size, 21, none⟩ (.string x5)).setCell ⟨w.heap.size, 22, none⟩ (.string y5)) b s j5 p.long) := (HC5.out.setNew (by omega) _).setNew (by omega) _
                        have HR6 : Hid (Row ((w5.setCell ⟨w.heap.size, 21, none⟩ (.string x5)).setCell ⟨w.heap.size, 22, none⟩ (.string y5)) w.heap.size (cmL { { c with kind := 20 } with frm := x5, too := y5 } q)) := Row.put (Row.put HR5.out 21 (by show 21 < 23; omega) (.string x5)) 22 (by show 22 < 23; omega) (.string y5)
                        have HL6 : Hid (Keep lo hi w ((w5.setCell ⟨w.heap.size, 21, none⟩ (.string x5)).setCell ⟨w.heap.size, 22, none⟩ (.string y5))) := (Keep.refl HL.out.fits).mw HM6.out HL.out.above
                        go_wp2_with fail
                        go_meet
                        refine ⟨ok5, { p with at' := j5 }, _, lv, rfl, HK.out.mw HM6.out HC6.out, ⟨HR6.out, rfl, cmL_one _ _ HL.out.cm.one⟩, Fq.mw HM6.out, ⟨by rw [HW.out], by rw [HW.out]⟩, fun hok => ⟨_, _, hi, rfl, ⟨HL.out.cm.plain HL6.out (show ¬ (20 : Nat) = 19 by decide) rfl rfl, HL.out.above, HL6.out.size, HL.out.acv, HL.out.alv⟩, ?_⟩, rfl, (by show p.labs.length ≤ j5; omega), rfl, hlo5, (by show j5 ≤ 400; omega)⟩
                        obtain ⟨rfl, rfl⟩ := HXY.out hok
                        rw [HW.out]
                      · have q14 : ((k : Int) == 14) = false := beq_false_of_ne (by omega)
                        have q15 : ((k : Int) == 15) = false := beq_false_of_ne (by omega)
                        have q16 : ((k : Int) == 16) = false := beq_false_of_ne (by omega)
                        have q17 : ((k : Int) == 17) = false := beq_false_of_ne (by omega)
                        have q18 : ((k : Int) == 18) = false := beq_false_of_ne (by omega)
                        have q19 : ((k : Int) == 19) = false := beq_false_of_ne (by omega)
                        have q20 : ((k : Int) == 20) = false := beq_false_of_ne (by omega)
                        have HW : Hid (WF = ({ p with at' := p.at' + 1, cmds := p.cmds ++ [{ c with kind := k }] }, true)) := by rw [Hid, HF.out, if_neg hk0, if_neg (by omega), if_neg (by omega), if_neg (by omega), if_neg (by omega)]
                        clear HF
                        go_wp2_with fail
                        go_meet
                        exact ⟨true, { p with at' := p.at' + 1 }, _, lv, rfl, HK.out.mw HMV.out HCV.out, ⟨HRV.out, rfl, cmL_one _ _ HL.out.cm.one⟩, Fq.mw HMV.out, ⟨by rw [HW.out], by rw [HW.out]⟩, fun _ => ⟨_, _, hi, rfl, ⟨HL.out.cm.plain HLV.out (show ¬ k = 19 by omega) rfl rfl, HL.out.above, HLV.out.size, HL.out.acv, HL.out.alv⟩, by rw [HW.out]⟩, rfl, (by show p.labs.length ≤ p.at' + 1; omega), rfl, Nat.le_refl _, (by show p.at' + 1 ≤ 400; omega)⟩
        case rest =>
          obtain ⟨ok, p1, cs, lv1, rfl, HKU, HRX, HFU, HWF, HOK, HP1, hl1, HO1, ha1, ha2⟩ := hcut
          have hnn : p.cmds.length ≤ 400 := by omega
          have HRU : Hid (Row wc w.heap.size cs) := HRX.out.1
          have HCL : Hid (cs.length = 23) := HRX.out.2.1
          have HON : Hid (∀ v ∈ cs, v.oneCell' = true) := HRX.out.2.2
          obtain ⟨xs, own, cms⟩ := HKU.out.own
          have HO : Hid (wc.ownsRow (b + 1) 200 23 (Value.slice ao p.cmds.length cap0) p.cmds.length xs) := by rw [HP1.out] at own; exact own
          have HCS : Hid (CmsAt wc b (Value.slice ao p.cmds.length cap0) lv1 xs p1.cmds) := cms
          have HLL : Hid (∀ k, ((Value.slice ao p.cmds.length cap0)).ownBlock = some k → b + 1 ≤ k ∧ k < wc.heap.size) := fun k hk => own.lt k hk
          clear own cms
          obtain ⟨⟨⟨g0, g1, gf, _, _⟩, g5, gf5⟩, g2, g3, g4, gf2, gf3, gf4, _, _, _⟩ := HKU.out
          have hbu : b < wc.heap.size := HKU.out.lt
          have hlc := run_LC (w := wc.drew) (HRU.out.of_block rfl) HCL.out
          have hbc := run_BC wc.drew cs HCL.out
          cases ok with
          | true =>
            obtain ⟨c1, q1, hi1, rfl, hL1, hW1⟩ := HOK.out rfl
            have HL1 : Hid (Lies wc b lo hi1 (Value.slice ao p.cmds.length cap0) lv1 c1 q1) := hL1
            have HW1 : Hid (WF = ({ p1 with cmds := p.cmds ++ [c1] }, true)) := by
              obtain ⟨x, y⟩ := WF
              simp only at hW1
              have := HWF.out.1
              simp only at this
              rw [Hid, hW1, this]
            clear hL1 hW1 HOK
            go_wp2_with fail
            go_region_law
              ((refine step_append_lies _ (by rfl) _ _ _ (by rfl) (b + 1) 200 i0 _ 23 264 Tryz.underlying94 hi0 hz0 hz1 hz2 (by rfl) (by omega) (Value.slice ao p.cmds.length cap0) p.cmds.length xs (by rfl) ((HO.out.alloc _).drew)
                    ⟨wc.heap.size, 0, none⟩ 1 1 (cmL c1 q1) (by rfl) (by rfl) (World.news_of_block (cs := (cmL c1 q1).toArray) (t := 200) (fr := (0, 0)) (heap_alloc_new wc _)) (cmL_one _ _ HL1.out.cm.one)
                    (by omega) (by unfold maxLen; omega) (by omega) (by simp; omega) (wc.heap.size + 1) (by simp) ?_; intro gg cap wa hown1 hgrow hat hlt1; have hx := (hgrow.block b (by simp; omega) (fun e => by have := (HLL.out _ e.symm).1; omega)).trans (Below.heap_alloc wc _ b hbu); have kc := World.cell?_of_block (w := wc) (w' := wa) (a := ⟨b, 3, none⟩) hx; have kf := World.frozen?_of_block (w := wc) (w' := wa) (a := ⟨b, 3, none⟩) hx; rw [g3] at kc; rw [gf3] at kf; have HAD : Hid _ := HKU.out.added' HP1.out HL1.out HO.out HCS.out hgrow hown1 hat; clear hx hown1 hgrow hat hlt1))
            all_goals go_wp2
            all_goals go_ret
            all_goals rw [HW1.out]
            all_goals exact .inl ⟨rfl, rfl, ⟨_, _, HAD.out.1, HFU.out.trans HAD.out.2⟩, HO1.out, (by show (p.cmds ++ [c1]).length ≤ p1.at'; rw [List.length_append, List.length_singleton]; omega), hl1, (by show p.at' + 1 ≤ p1.at'; omega), (by show p.cmds.length ≤ (p.cmds ++ [c1]).length; rw [List.length_append]; omega)⟩
          | false =>
            clear HOK
            go_wp2_with fail
            go_region_law
              ((refine step_append_lies _ (by rfl) _ _ _ (by rfl) (b + 1) 200 i0 _ 23 264 Tryz.underlying94 hi0 hz0 hz1 hz2 (by rfl) (by omega) (Value.slice ao p.cmds.length cap0) p.cmds.length xs (by rfl) ((HO.out.alloc _).drew)
                    ⟨wc.heap.size, 0, none⟩ 1 1 cs (by rfl) (by rw [HCL.out]) (World.news_of_block (cs := cs.toArray) (t := 200) (fr := (0, 0)) (heap_alloc_new wc _)) HON.out
                    (by omega) (by unfold maxLen; omega) (by omega) (by simp; omega) (wc.heap.size + 1) (by simp) ?_; intro gg cap wa hown1 hgrow hat hlt1; have hx := (hgrow.block b (by simp; omega) (fun e => by have := (HLL.out _ e.symm).1; omega)).trans (Below.heap_alloc wc _ b hbu); have kc := World.cell?_of_block (w := wc) (w' := wa) (a := ⟨b, 3, none⟩) hx; have kf := World.frozen?_of_block (w := wc) (w' := wa) (a := ⟨b, 3, none⟩) hx; rw [g3] at kc; rw [gf3] at kf; have HAD : Hid _ := HKU.out.addedAny HO.out hgrow hown1; clear hx hown1 hgrow hat hlt1))
            all_goals go_wp2
            all_goals go_ret
            all_goals exact .inr ⟨HWF.out.1, rfl, by rw [HWF.out.2]; exact HAD.out.1, (HFU.out.below HK.out).trans HAD.out.2⟩
  · have HN : Hid (nxt s letters p.at' = false) := hn
    have HF : Hid (whatF (rowN s N) s p c = (p, false)) := by rw [Hid, whatF, hn]; rfl
    clear hn
    go_enter Tryz.func164, Tryz.ntmps164
    go_wp2_with (first
      | (refine wpList_box_row 3 rfl rfl 200 (.tmp 1) rfl _ rfl ?_; intro w1 h1 hR1 hB1; have HB1 : Hid (Below w.heap.size w w1) := hB1; clear hR1 hB1)
      | (go_at_call 161; refine (nextIsIn_any b s letters p.at' _ (HC.out.below HB1.out).rc).mono ?_; rw [HN.out]; rintro e w2 ⟨rfl, n2, rfl⟩))
    go_ret
    rw [HF.out]
    exact .inr ⟨rfl, rfl, (HC.out.below HB1.out).rc.drewN n2, ⟨HB1.out.os, HB1.out.tape, HB1.out.output, HB1.out.size, fun k hk => HB1.out.block k (by omega)⟩⟩
end Rs
end Go.Proofs.YtppjlpihaocdiaaGreatDoor

/- A part of the proof. -/
set_option linter.unusedSimpArgs false
set_option linter.unusedVariables false
namespace Go.Proofs.YtppjlpihaocdiaaGreatDoor
namespace Rs
open Go.RowKit
theorem addrF_ge (s : ByteArray) (i : Nat) (lg : Int) (h : i ≤ s.size) : i ≤ (addrF s i lg).1 := by
  unfold addrF
  split
  · have h1 := whereF_le s i lg h
    simp only
    split
    · split
      · rename_i h2
        obtain ⟨h3, _⟩ := pk_byte (s := s) (i := (whereF s i lg).1) (by rw [h2]; decide)
        have h4 := whereF_le s ((whereF s i lg).1 + 1) (whereF s i lg).2.2.1 (by omega)
        split
        · have := le_skip s blank (whereF s ((whereF s i lg).1 + 1) (whereF s i lg).2.2.1).1 h4.1
          simp only; omega
        · simp only; omega
      · have := le_skip s blank (whereF s i lg).1 h1.1
        simp only; omega
    · simp only; omega
  · exact Nat.le_refl _
set_option maxRecDepth 100000 in
set_option maxHeartbeats 8000000 in
theorem command_any (N : Nat) (ih : RowAt N) (b : Nat) (s : ByteArray) (p : RSt) (cv lv : Value) (w : World) (hr : Rk w b s p cv lv) (hn1 : p.cmds.length ≤ p.at') (hn2 : p.labs.length ≤ p.at') (hop : p.op ≤ 5) (hN : 6 ≤ p.op + 1 + N) :
    Calls Tryz.prog 112 #[.pointer (some ⟨b, 0, none⟩)] w (RPost 1 b s p cv lv w (commandF (rowN s N) s p)) := by
  have HK : Hid (Rk w b s p cv lv) := hr
  have IH : Hid (RowAt N) := ih
  have hb := hr.lt
  have hle := hr.cu.rc.le
  have h400 := hr.cu.rc.s40
  have HC : Hid (Cu w b s p.at' p.long) := hr.cu
  have hcv0 : ∀ g, cv.ownBlock = some g → g ≤ w.heap.size := fun g hg => by obtain ⟨xs, own, _⟩ := hr.own; have := (own.lt g hg).2; omega
  have hlv0 : ∀ g, lv.ownBlock = some g → g ≤ w.heap.size := fun g hg => by have := (hr.lab.lt g hg).2; omega
  have HCV0 : Hid (∀ g, cv.ownBlock = some g → g ≤ w.heap.size) := hcv0
  have HLV0 : Hid (∀ g, lv.ownBlock = some g → g ≤ w.heap.size) := hlv0
  obtain ⟨⟨r0, r1, rf, _, _⟩, r5, rf5⟩ := hr.cu
  clear hr ih hcv0 hlv0
  have HF : Hid (commandF (rowN s N) s p = if (addrF s p.at' p.long).2.2.2.2 = true then (if pk s (addrF s p.at' p.long).1 = 33 then (if pk s (skip s blank ((addrF s p.at' p.long).1 + 1)) = 58 then ({ p with at' := skip s blank ((addrF s p.at' p.long).1 + 1), long := (addrF s p.at' p.long).2.2.2.1 }, false) else whatF (rowN s N) s { p with at' := skip s blank ((addrF s p.at' p.long).1 + 1), long := (addrF s p.at' p.long).2.2.2.1 } { adC (addrF s p.at' p.long).2.1 (addrF s p.at' p.long).2.2.1 with neg := true }) else if pk s (addrF s p.at' p.long).1 = 58 then (if (addrF s p.at' p.long).1 = p.at' then (RSt.label { p with at' := (addrF s p.at' p.long).1, long := (addrF s p.at' p.long).2.2.2.1 } s ((addrF s p.at' p.long).1 + 1) false, decide ((addrF s p.at' p.long).1 + 1 < labF s 8 ((addrF s p.at' p.long).1 + 1))) else ({ p with at' := (addrF s p.at' p.long).1, long := (addrF s p.at' p.long).2.2.2.1 }, false)) else whatF (rowN s N) s { p with at' := (addrF s p.at' p.long).1, long := (addrF s p.at' p.long).2.2.2.1 } (adC (addrF s p.at' p.long).2.1 (addrF s p.at' p.long).2.2.1)) else ({ p with at' := (addrF s p.at' p.long).1, long := (addrF s p.at' p.long).2.2.2.1 }, false)) := rfl
  generalize hWF : commandF (rowN s N) s p = WF at HF
  clear hWF
  have hge := addrF_ge s p.at' p.long hle
  generalize hA : addrF s p.at' p.long = A at HF hge
  have HA : Hid (addrF s p.at' p.long = A) := hA
  clear hA
  obtain ⟨j1, x1, x2, lg1, ok⟩ := A
  simp only at HF hge
  go_enter Tryz.func112, Tryz.ntmps112
  go_wp2_with fail
  refine (address_any b s p.at' p.long _ HC.out).mono ?_
  rw [HA.out]
  rintro e w1 ⟨a1, l1, c1, r1', g1, a2, l2, c2, r2, g2, rfl, hm1, hc1, hw1⟩
  have HM1 : Hid (Mw b w w1) := hm1
  have HC1 : Hid (Cu w1 b s j1 lg1) := hc1
  have HW1 : Hid (ok = true → WhAt w1 w.heap.size w1.heap.size x1 a1 l1 c1 r1' g1 ∧ WhAt w1 w.heap.size w1.heap.size x2 a2 l2 c2 r2 g2) := hw1
  have hj1 := hc1.rc.le
  have hz1 : w.heap.size ≤ w1.heap.size := hm1.size
  clear hm1 hc1 hw1 r0 r1 rf r5 rf5
  simp only
  go_upto_region 3 with (first
    | (refine wpList_alloc_row 4 rfl rfl 200 rfl _ Tryz.zero200 ?_; intro w2 h2 hR2 hB2; have HR2 : Hid (Row w2 w1.heap.size (cmL cm0 pts0)) := hR2; have HB2 : Hid (Below w1.heap.size w1 w2) := hB2; clear hR2 hB2)
    | (refine wpList_store_row rfl 200 (.tmp 4) (.tmp 14) rfl _ rfl _ rfl _ HR2.out rfl (Tryz.size200 _ _) (cmL_one _ _ rfl) ?_; intro w3 hR3 hS3; have HR3 : Hid (Row w3 w1.heap.size (cmL (adC x1 x2) (adP a1 l1 c1 r1' g1 a2 l2 c2 r2 g2))) := hR3; have HS3 : Hid (Sole w1.heap.size w2 w3) := hS3; clear hR3 hS3))
  have HM3 : Hid (Mw b w w3) := (HM1.out.trans (Mw.below HB2.out (by omega))).sole HS3.out (by omega) hb
  have HC3 : Hid (Cu w3 b s j1 lg1) := (HC1.out.below HB2.out).sole HS3.out (by omega)
  have HK3 : Hid (Keep w.heap.size w1.heap.size w1 w3) := ⟨fun k h1 h2 => (HS3.out.block k (by omega)).trans (HB2.out.block k h2), by rw [HS3.out.size]; omega⟩
  have hz3 : w1.heap.size < w3.heap.size := by rw [HS3.out.size]; omega
  clear HR2 HB2 HS3
  cases ok with
  | false =>
    have HW : Hid (WF = ({ p with at' := j1, long := lg1 }, false)) := by rw [Hid, HF.out]; rfl
    clear HF
    go_wp2_with fail
    go_ret
    rw [HW.out]
    exact .inr ⟨rfl, rfl, HC3.out.rc, (Fq.mw HM3.out).below HK.out⟩
  | true =>
    obtain ⟨hwa, hwb⟩ := HW1.out rfl
    have HCM : Hid (∀ {u : World} {d : Cm}, Keep w.heap.size w1.heap.size w1 u → d.kind = 0 → d.fst = x1 → d.snd = x2 → CmAt u w.heap.size w1.heap.size d (adP a1 l1 c1 r1' g1 a2 l2 c2 r2 g2)) := fun k h0 h1 h2 => ⟨by rw [h1]; exact fun e => (hwa e).of k.same k.size, by rw [h2]; exact fun e => (hwb e).of k.same k.size, fun e => by rw [h0] at e; omega, fun e => by rw [h0] at e; omega, rfl⟩
    clear hwa hwb HW1
    by_cases h33 : pk s j1 = ((33 : Nat) : Int)
    · have HI : Hid (pk s j1 = ((33 : Nat) : Int)) := h33
      obtain ⟨hlt, _⟩ := pk_byte (s := s) (i := j1) (by rw [h33]; decide)
      have HF1 : Hid (WF = if pk s (skip s blank (j1 + 1)) = 58 then ({ p with at' := skip s blank (j1 + 1), long := lg1 }, false) else whatF (rowN s N) s { p with at' := skip s blank (j1 + 1), long := lg1 } { adC x1 x2 with neg := true }) := by rw [Hid, HF.out, if_pos rfl, if_pos (by rw [h33]; rfl)]
      have hJ1 := le_skip s blank (j1 + 1) (by omega)
      have hJ2 := skip_le s blank (j1 + 1) (by omega)
      generalize hJ : skip s blank (j1 + 1) = J at HF1 hJ1 hJ2
      have HJ : Hid (skip s blank (j1 + 1) = J) := hJ
      clear hJ h33 HF
      go_wp2_with fail
      refine (acceptY b s j1 33 _ HC3.out.rc (by omega) HI.out).mono ?_
      rintro e w4 ⟨rfl, hm4⟩
      have HM4 : Hid (Mw b w w4) := HM3.out.trans (.mv hm4)
      have HC4 : Hid (Cu w4 b s (j1 + 1) lg1) := HC3.out.mv hm4 (by omega)
      have HR4 : Hid (Row w4 w1.heap.size (cmL (adC x1 x2) (adP a1 l1 c1 r1' g1 a2 l2 c2 r2 g2))) := HR3.out.of_block (hm4.only.block _ (by omega))
      have HK4 : Hid (Keep w.heap.size w1.heap.size w1 w4) := HK3.out.mw (.mv hm4) (by omega)
      clear hm4
      have m11 := HR4.out.cell (k := 11) rfl
      have f11 := HR4.out.frozen (k := 11) (by show 11 < 23; omega)
      have HM5 : Hid (Mw b w (w4.setCell ⟨w1.heap.size, 11, none⟩ (.bool true))) := HM4.out.setNew (by omega) hb _
      have HC5 : Hid (Cu (w4.setCell ⟨w1.heap.size, 11, none⟩ (.bool true)) b s (j1 + 1) lg1) := HC4.out.setNew (by omega) _
      have HR5 : Hid (Row (w4.setCell ⟨w1.heap.size, 11, none⟩ (.bool true)) w1.heap.size (cmL { adC x1 x2 with neg := true } (adP a1 l1 c1 r1' g1 a2 l2 c2 r2 g2))) := Row.put HR4.out 11 (by show 11 < 23; omega) _
      have HK5 : Hid (Keep w.heap.size w1.heap.size w1 (w4.setCell ⟨w1.heap.size, 11, none⟩ (.bool true))) := HK4.out.set (by omega)
      go_wp2_with fail
      refine (skip_any b s blank (j1 + 1) _ HC5.out.rc).mono ?_
      rw [HJ.out]
      rintro e w6 ⟨rfl, hm6⟩
      have HM6 : Hid (Mw b w w6) := HM5.out.trans (.mv hm6)
      have HC6 : Hid (Cu w6 b s J lg1) := HC5.out.mv hm6 hJ2
      have HR6 : Hid (Row w6 w1.heap.size (cmL { adC x1 x2 with neg := true } (adP a1 l1 c1 r1' g1 a2 l2 c2 r2 g2))) := HR5.out.of_block (hm6.only.block _ (by omega))
      have HK6 : Hid (Keep w.heap.size w1.heap.size w1 w6) := HK5.out.mw (.mv hm6) (by omega)
      clear hm6 m11 f11
      by_cases h58 : pk s J = ((58 : Nat) : Int)
      · have HPK : Hid (pk s J = 58) := h58
        have HW : Hid (WF = ({ p with at' := J, long := lg1 }, false)) := by rw [Hid, HF1.out, if_pos (by rw [h58]; rfl)]
        clear h58 HF1
        obtain ⟨t0, t1, tf, _, _⟩ := HC6.out.rc
        have hne : ((J : Int) == (p.at' : Int)) = false := beq_false_of_ne (by omega)
        go_wp2_with (go_at_call 110; refine (peek_any b s J _ HC6.out.rc).mono ?_; rw [HPK.out]; rintro e wp ⟨rfl, np, rfl⟩)
        go_ret
        rw [HW.out]
        exact .inr ⟨rfl, rfl, HC6.out.rc.drewN np, (Fq.mw (HM6.out.drewN np)).below HK.out⟩
      · have HW : Hid (WF = whatF (rowN s N) s { p with at' := J, long := lg1 } { adC x1 x2 with neg := true }) := by rw [Hid, HF1.out, if_neg (fun e => h58 (by rw [e]; rfl))]
        clear HF1
        have hpe : (pk s (J) == 58) = false := beq_false_of_ne (fun e => h58 (by rw [e]; rfl))
        obtain ⟨y, hy⟩ : ∃ y, pk s (J) = y := ⟨_, rfl⟩
        have HPK : Hid (pk s (J) = y) := hy
        rw [hy] at hpe
        clear h58 hy
        go_wp2_with (first | (refine wpList_load_row 44 rfl rfl 200 (.tmp 4) rfl _ rfl _ _ (HR6.out.of_block rfl) Tryz.underlying200 rfl (Tryz.size200 _ _) ?_) | (go_at_call 110; refine (peek_any b s (J) _ HC6.out.rc).mono ?_; rw [HPK.out]; rintro e wp ⟨rfl, np, rfl⟩))
        refine (what_any N IH.out b s { p with at' := J, long := lg1 } cv lv _ (HK.out.mw (HM6.out.drewN np) (HC6.out.drewN np)) ({ adC x1 x2 with neg := true }) (adP a1 l1 c1 r1' g1 a2 l2 c2 r2 g2) w.heap.size w1.heap.size ⟨HCM.out (HK6.out.drewN np) rfl rfl rfl, by omega, (HK6.out.drewN np).size, fun g hg => .inl (HCV0.out g hg), fun g hg => .inl (HLV0.out g hg)⟩ HCV0.out HLV0.out (HM6.out.drewN np).size (by show p.cmds.length ≤ J; omega) (by show p.labs.length ≤ J; omega) hop hN).mono ?_
        rintro e w7 hP
        rw [← HW.out] at hP
        unfold RPost at hP
        rcases hP with ⟨h1, rfl, ⟨cv', lv', hk4, hf4⟩, ho7, hb1, hb2, hb3, hb4⟩ | ⟨h1, rfl, hrc, hbl⟩
        · have HP : Hid (RPost 1 b s p cv lv w WF (.returned (.bool true)) w7) := .inl ⟨h1, rfl, ⟨cv', lv', hk4, (Fq.mw (HM6.out.drewN np)).trans hf4⟩, ho7, hb1, hb2, (by simp only at hb3; omega), hb4⟩
          clear hk4 hf4 hb1 hb2 hb3 hb4 ho7 h1
          go_wp2_with fail
          go_ret
          exact HP.out
        · have HP : Hid (RPost 1 b s p cv lv w WF (.returned (.bool false)) w7) := .inr ⟨h1, rfl, hrc, ((Fq.mw (HM6.out.drewN np)).below HK.out).trans hbl⟩
          clear hrc hbl h1
          go_wp2_with fail
          go_ret
          exact HP.out
    · have HI : Hid (pk s j1 ≠ ((33 : Nat) : Int)) := h33
      have HF1 : Hid (WF = if pk s j1 = 58 then (if j1 = p.at' then (RSt.label { p with at' := j1, long := lg1 } s (j1 + 1) false, decide (j1 + 1 < labF s 8 (j1 + 1))) else ({ p with at' := j1, long := lg1 }, false)) else whatF (rowN s N) s { p with at' := j1, long := lg1 } (adC x1 x2)) := by rw [Hid, HF.out, if_pos rfl, if_neg (fun e => h33 (by rw [e]; rfl))]
      clear h33 HF
      go_wp2_with fail
      refine (acceptN b s j1 33 _ HC3.out.rc (by omega) HI.out).mono ?_
      rintro e w4 ⟨rfl, hm4⟩
      have HM4 : Hid (Mw b w w4) := HM3.out.trans (.mv hm4)
      have HC4 : Hid (Cu w4 b s j1 lg1) := HC3.out.mv hm4 hj1
      have HR4 : Hid (Row w4 w1.heap.size (cmL (adC x1 x2) (adP a1 l1 c1 r1' g1 a2 l2 c2 r2 g2))) := HR3.out.of_block (hm4.only.block _ (by omega))
      have HK4 : Hid (Keep w.heap.size w1.heap.size w1 w4) := HK3.out.mw (.mv hm4) (by omega)
      clear hm4
      by_cases h58 : pk s j1 = ((58 : Nat) : Int)
      · have HPK : Hid (pk s j1 = 58) := h58
        obtain ⟨hlt, _⟩ := pk_byte (s := s) (i := j1) (by rw [h58]; decide)
        obtain ⟨t0, t1, tf, _, _⟩ := HC4.out.rc
        by_cases hjp : j1 = p.at'
        · have HW : Hid (WF = (RSt.label { p with at' := j1, long := lg1 } s (j1 + 1) false, decide (j1 + 1 < labF s 8 (j1 + 1)))) := by rw [Hid, HF1.out, if_pos (by rw [h58]; rfl), if_pos hjp]
          have heq : ((j1 : Int) == (p.at' : Int)) = true := by rw [hjp]; simp
          have HKM : Hid (∀ n, Rk (w4.drewN n) b s { p with at' := j1, long := lg1 } cv lv) := fun n => HK.out.mw (HM4.out.drewN n) (HC4.out.drewN n)
          have hlab := labF_le s 8 (j1 + 1) (by omega)
          have hn1j : p.cmds.length ≤ j1 := by omega
          have hn2j : p.labs.length ≤ j1 := by omega
          have hpj : p.at' ≤ j1 := by omega
          clear h58 HF1 hjp
          go_wp2_with (go_at_call 110; refine (peek_any b s j1 _ HC4.out.rc).mono ?_; rw [HPK.out]; rintro e wp ⟨rfl, np, rfl⟩)
          refine (mark_any b s { p with at' := j1, long := lg1 } cv lv _ (HKM.out np) hlt (by show p.labs.length ≤ 1000; omega) (by show p.cmds.length ≤ 1000; omega)).mono ?_
          rintro e w5 ⟨lv5, rfl, hk5, hf5⟩
          have HK5 : Hid (Rk w5 b s (RSt.label { p with at' := j1, long := lg1 } s (j1 + 1) false) cv lv5) := hk5
          have HF5 : Hid (Fq b cv cv lv lv5 w w5) := (Fq.mw (HM4.out.drewN np)).trans hf5
          clear hk5 hf5
          have HP : Hid (RPost 1 b s p cv lv w WF (.returned (.bool (decide (j1 + 1 < labF s 8 (j1 + 1))))) w5) := by
            rw [HW.out]
            by_cases hl : j1 + 1 < labF s 8 (j1 + 1)
            · exact .inl ⟨by simpa using hl, by rw [decide_eq_true hl], ⟨cv, lv5, HK5.out, HF5.out⟩, rfl, (by show p.cmds.length ≤ labF s 8 (j1 + 1); omega), (by show (p.labs ++ [_]).length ≤ labF s 8 (j1 + 1); rw [List.length_append, List.length_singleton]; omega), (by show p.at' + 1 ≤ labF s 8 (j1 + 1); omega), Nat.le_refl _⟩
            · exact .inr ⟨by simpa using hl, by rw [decide_eq_false hl], HK5.out.cu.rc, HF5.out.below HK.out⟩
          simp only
          generalize decide (j1 + 1 < labF s 8 (j1 + 1)) = dl at HP ⊢
          go_wp2_with fail
          go_ret
          exact HP.out
        · have HW : Hid (WF = ({ p with at' := j1, long := lg1 }, false)) := by rw [Hid, HF1.out, if_pos (by rw [h58]; rfl), if_neg hjp]
          have heq : ((j1 : Int) == (p.at' : Int)) = false := beq_false_of_ne (by omega)
          clear h58 HF1
          go_wp2_with (go_at_call 110; refine (peek_any b s j1 _ HC4.out.rc).mono ?_; rw [HPK.out]; rintro e wp ⟨rfl, np, rfl⟩)
          go_ret
          rw [HW.out]
          exact .inr ⟨rfl, rfl, HC4.out.rc.drewN np, (Fq.mw (HM4.out.drewN np)).below HK.out⟩
      · have HW : Hid (WF = whatF (rowN s N) s { p with at' := j1, long := lg1 } (adC x1 x2)) := by rw [Hid, HF1.out, if_neg (fun e => h58 (by rw [e]; rfl))]
        clear HF1
        have hpe : (pk s (j1) == 58) = false := beq_false_of_ne (fun e => h58 (by rw [e]; rfl))
        obtain ⟨y, hy⟩ : ∃ y, pk s (j1) = y := ⟨_, rfl⟩
        have HPK : Hid (pk s (j1) = y) := hy
        rw [hy] at hpe
        clear h58 hy
        go_wp2_with (first | (refine wpList_load_row 44 rfl rfl 200 (.tmp 4) rfl _ rfl _ _ (HR4.out.of_block rfl) Tryz.underlying200 rfl (Tryz.size200 _ _) ?_) | (go_at_call 110; refine (peek_any b s (j1) _ HC4.out.rc).mono ?_; rw [HPK.out]; rintro e wp ⟨rfl, np, rfl⟩))
        refine (what_any N IH.out b s { p with at' := j1, long := lg1 } cv lv _ (HK.out.mw (HM4.out.drewN np) (HC4.out.drewN np)) (adC x1 x2) (adP a1 l1 c1 r1' g1 a2 l2 c2 r2 g2) w.heap.size w1.heap.size ⟨HCM.out (HK4.out.drewN np) rfl rfl rfl, by omega, (HK4.out.drewN np).size, fun g hg => .inl (HCV0.out g hg), fun g hg => .inl (HLV0.out g hg)⟩ HCV0.out HLV0.out (HM4.out.drewN np).size (by show p.cmds.length ≤ j1; omega) (by show p.labs.length ≤ j1; omega) hop hN).mono ?_
        rintro e w7 hP
        rw [← HW.out] at hP
        unfold RPost at hP
        rcases hP with ⟨h1, rfl, ⟨cv', lv', hk4, hf4⟩, ho7, hb1, hb2, hb3, hb4⟩ | ⟨h1, rfl, hrc, hbl⟩
        · have HP : Hid (RPost 1 b s p cv lv w WF (.returned (.bool true)) w7) := .inl ⟨h1, rfl, ⟨cv', lv', hk4, (Fq.mw (HM4.out.drewN np)).trans hf4⟩, ho7, hb1, hb2, (by simp only at hb3; omega), hb4⟩
          clear hk4 hf4 hb1 hb2 hb3 hb4 ho7 h1
          go_wp2_with fail
          go_ret
          exact HP.out
        · have HP : Hid (RPost 1 b s p cv lv w WF (.returned (.bool false)) w7) := .inr ⟨h1, rfl, hrc, ((Fq.mw (HM4.out.drewN np)).below HK.out).trans hbl⟩
          clear hrc hbl h1
          go_wp2_with fail
          go_ret
          exact HP.out
end Rs
end Go.Proofs.YtppjlpihaocdiaaGreatDoor

/- A part of the proof. -/
set_option linter.unusedSimpArgs false
set_option linter.unusedVariables false
namespace Go.Proofs.YtppjlpihaocdiaaGreatDoor
namespace Rs
open Go.RowKit
set_option maxRecDepth 100000 in
set_option maxHeartbeats 8000000 in
theorem row_any (N : Nat) (ih : RowAt N) : RowAt (N + 1) := by
  intro b s p cv lv w hr hn1 hn2 hop hN
  have HK : Hid (Rk w b s p cv lv) := hr
  have IH : Hid (RowAt N) := ih
  have hb := hr.lt
  have hle := hr.cu.rc.le
  have h400 := hr.cu.rc.s40
  clear hr ih
  generalize hWF : rowN s (N + 1) p = WF
  have HWF : Hid (rowL' (rowN s N) s (s.size + 1) p = WF) := hWF
  clear hWF
  go_enter Tryz.func69, Tryz.ntmps69
  go_wp2_with fail
  go_loopw [] (fun wr => ∃ (f : Nat) (p1 : RSt) (cv1 lv1 : Value), Hid (Rk wr b s p1 cv1 lv1) ∧ Hid (Fq b cv cv1 lv lv1 w wr) ∧ Hid (p1.op = p.op) ∧ p1.cmds.length ≤ p1.at' ∧ p1.labs.length ≤ p1.at' ∧ p.at' ≤ p1.at' ∧ p.cmds.length ≤ p1.cmds.length ∧ s.size + 1 ≤ f + p1.at' ∧ Hid (WF = rowL' (rowN s N) s f p1)) (fun wr => s.size - atOf wr b)
  case atStart => exact ⟨s.size + 1, p, cv, lv, HK, Fq.refl _ _ _ _, rfl, hn1, hn2, Nat.le_refl _, Nat.le_refl _, by omega, HWF.out.symm⟩
  case round =>
    obtain ⟨f, p1, cv1, lv1, HK1, HF1, HO1, hc1, hc2, hc3, hc4, hf, HW⟩ := hrel
    have hle1 := HK1.out.cu.rc.le
    have HAT : Hid (atOf wr b = p1.at') := atOf_is HK1.out.cu.rc.c1
    have HW1 : Hid (WF = if pk s (skip s between p1.at') = -1 ∨ closesF s { p1 with at' := skip s between p1.at' } = true then ({ p1 with at' := skip s between p1.at' }, true) else if (commandF (rowN s N) s { p1 with at' := skip s between p1.at' }).2 = true then (if pk s (skip s blank (commandF (rowN s N) s { p1 with at' := skip s between p1.at' }).1.at') = -1 ∨ nxt s parts (skip s blank (commandF (rowN s N) s { p1 with at' := skip s between p1.at' }).1.at') = true ∨ closesF s { (commandF (rowN s N) s { p1 with at' := skip s between p1.at' }).1 with at' := skip s blank (commandF (rowN s N) s { p1 with at' := skip s between p1.at' }).1.at' } = true then rowL' (rowN s N) s (f - 1) { (commandF (rowN s N) s { p1 with at' := skip s between p1.at' }).1 with at' := skip s blank (commandF (rowN s N) s { p1 with at' := skip s between p1.at' }).1.at' } else ({ (commandF (rowN s N) s { p1 with at' := skip s between p1.at' }).1 with at' := skip s blank (commandF (rowN s N) s { p1 with at' := skip s between p1.at' }).1.at' }, false)) else commandF (rowN s N) s { p1 with at' := skip s between p1.at' }) := by
      rw [Hid, HW.out]
      conv => lhs; rw [show f = (f - 1) + 1 by omega, rowL']
    clear HW
    have hJ1 := le_skip s between p1.at' hle1
    have hJ2 := skip_le s between p1.at' hle1
    generalize hJ : skip s between p1.at' = J at HW1 hJ1 hJ2
    have HJ : Hid (skip s between p1.at' = J) := hJ
    clear hJ
    go_wp2_with fail
    refine (skip_any b s between p1.at' _ HK1.out.cu.rc).mono ?_
    rw [HJ.out]
    rintro e w2 ⟨rfl, hm2⟩
    have HK2 : Hid (Rk w2 b s { p1 with at' := J } cv1 lv1) := HK1.out.mw (.mv hm2) (HK1.out.cu.mv hm2 hJ2)
    have HF2 : Hid (Fq b cv cv1 lv lv1 w w2) := HF1.out.trans (Fq.mw (.mv hm2))
    clear hm2
    have hop1 : p1.op = p.op := HO1.out
    by_cases hend : pk s J = -1
    · have HPK : Hid (pk s J = -1) := hend
      have HW2 : Hid (WF = ({ p1 with at' := J }, true)) := by rw [Hid, HW1.out, if_pos (.inl hend)]
      clear hend HW1
      go_wp2_with (go_at_call 110; refine (peek_any b s J _ HK2.out.cu.rc).mono ?_; rw [HPK.out]; rintro e wp ⟨rfl, np, rfl⟩)
      go_ret
      rw [HW2.out]
      exact .inl ⟨rfl, rfl, ⟨cv1, lv1, HK2.out.beside (Nat.le_refl _) (fun _ _ => rfl), HF2.out.trans (Fq.mw ((Mw.refl b w2).drewN np))⟩, HO1.out, (by show p1.cmds.length ≤ J; omega), (by show p1.labs.length ≤ J; omega), (by show p.at' + 0 ≤ J; omega), hc4⟩
    · obtain ⟨hlt, _⟩ := pk_byte hend
      have hpe : (pk s J == -1) = false := beq_false_of_ne hend
      obtain ⟨y, hy⟩ : ∃ y, pk s J = y := ⟨_, rfl⟩
      have HPK : Hid (pk s J = y) := hy
      rw [hy] at hpe
      have HCL : Hid (∀ n, Calls Tryz.prog 111 #[.pointer (some ⟨b, 0, none⟩)] (w2.drewN n) fun e w' => e = .returned (.bool (closesF s { p1 with at' := J })) ∧ ∃ m, w' = (w2.drewN n).drewN m) := fun n => closes_any b s J p1.op _ (HK2.out.cu.rc.drewN n) HK2.out.c2
      rcases bool_or (closesF s { p1 with at' := J }) with hcl | hcl
      · have HW2 : Hid (WF = ({ p1 with at' := J }, true)) := by rw [Hid, HW1.out, if_pos (.inr hcl)]
        rw [hcl] at HCL
        clear hend HW1 hcl hy
        go_wp2_with (first | (go_at_call 110; refine (peek_any b s J _ HK2.out.cu.rc).mono ?_; rw [HPK.out]; rintro e wp ⟨rfl, np, rfl⟩) | (go_at_call 111; refine (HCL.out _).mono ?_; rintro e wq ⟨rfl, nq, rfl⟩))
        go_ret
        rw [HW2.out]
        exact .inl ⟨rfl, rfl, ⟨cv1, lv1, HK2.out.beside (Nat.le_refl _) (fun _ _ => rfl), HF2.out.trans (Fq.mw ((Mw.refl b w2).drewN _))⟩, HO1.out, (by show p1.cmds.length ≤ J; omega), (by show p1.labs.length ≤ J; omega), (by show p.at' + 0 ≤ J; omega), hc4⟩
      · have HW2 : Hid (WF = if (commandF (rowN s N) s { p1 with at' := J }).2 = true then (if pk s (skip s blank (commandF (rowN s N) s { p1 with at' := J }).1.at') = -1 ∨ nxt s parts (skip s blank (commandF (rowN s N) s { p1 with at' := J }).1.at') = true ∨ closesF s { (commandF (rowN s N) s { p1 with at' := J }).1 with at' := skip s blank (commandF (rowN s N) s { p1 with at' := J }).1.at' } = true then rowL' (rowN s N) s (f - 1) { (commandF (rowN s N) s { p1 with at' := J }).1 with at' := skip s blank (commandF (rowN s N) s { p1 with at' := J }).1.at' } else ({ (commandF (rowN s N) s { p1 with at' := J }).1 with at' := skip s blank (commandF (rowN s N) s { p1 with at' := J }).1.at' }, false)) else commandF (rowN s N) s { p1 with at' := J }) := by rw [Hid, HW1.out, if_neg (by rw [hcl]; simp; exact hend)]
        rw [hcl] at HCL
        clear hend HW1 hcl hy
        have HKQ : Hid (∀ n, Rk (w2.drewN n) b s { p1 with at' := J } cv1 lv1) := fun n => HK2.out.beside (Nat.le_refl _) (fun _ _ => rfl)
        have HCM : Hid (∀ n, Calls Tryz.prog 112 #[.pointer (some ⟨b, 0, none⟩)] (w2.drewN n) (RPost 1 b s { p1 with at' := J } cv1 lv1 (w2.drewN n) (commandF (rowN s N) s { p1 with at' := J }))) := fun n => command_any N IH.out b s { p1 with at' := J } cv1 lv1 _ (HKQ.out n) (by show p1.cmds.length ≤ J; omega) (by show p1.labs.length ≤ J; omega) (by show p1.op ≤ 5; omega) (by show 6 ≤ p1.op + 1 + N; omega)
        generalize commandF (rowN s N) s { p1 with at' := J } = C at HW2 HCM
        obtain ⟨p3, okc⟩ := C
        simp only at HW2
        go_wp2_with (first | (go_at_call 110; refine (peek_any b s J _ HK2.out.cu.rc).mono ?_; rw [HPK.out]; rintro e wp ⟨rfl, np, rfl⟩) | (go_at_call 111; refine (HCL.out _).mono ?_; rintro e wq ⟨rfl, nq, rfl⟩))
        refine (HCM.out _).mono ?_
        rintro e w3 hP
        unfold RPost at hP
        rcases hP with ⟨h1, rfl, ⟨cv3, lv3, hk3, hf3⟩, ho3, hb1, hb2, hb3, hb4⟩ | ⟨h1, rfl, hrc, hbl⟩
        · simp only at h1 ho3 hb1 hb2 hb3 hb4
          subst h1
          have HK3 : Hid (Rk w3 b s p3 cv3 lv3) := hk3
          have HF3 : Hid (Fq b cv cv3 lv lv3 w w3) := (HF2.out.trans (Fq.mw ((Mw.refl b w2).drewN _))).trans hf3
          have hle3 := hk3.cu.rc.le
          have HW3 : Hid (WF = if partedF s (skip s blank p3.at') p3.op = true then rowL' (rowN s N) s (f - 1) { p3 with at' := skip s blank p3.at' } else ({ p3 with at' := skip s blank p3.at' }, false)) := by
            rw [Hid, HW2.out, if_pos rfl]
            congr 1
            simp [partedF, closesF, or_assoc]
          have hS1 := le_skip s blank p3.at' hle3
          have hS2 := skip_le s blank p3.at' hle3
          clear hk3 hf3 HW2 HCM
          go_wp2_with fail
          refine (parted_any b s p3.at' p3.op _ HK3.out.cu.rc HK3.out.c2).mono ?_
          generalize skip s blank p3.at' = S at HW3 hS1 hS2 ⊢
          rintro e w4 ⟨rfl, hm4⟩
          have HK4 : Hid (Rk w4 b s { p3 with at' := S } cv3 lv3) := HK3.out.mw (.mv hm4) (HK3.out.cu.mv hm4 hS2)
          have HF4 : Hid (Fq b cv cv3 lv lv3 w w4) := HF3.out.trans (Fq.mw (.mv hm4))
          clear hm4
          rcases bool_or (partedF s S p3.op) with hpt | hpt
          · have HW4 : Hid (WF = rowL' (rowN s N) s (f - 1) { p3 with at' := S }) := by rw [Hid, HW3.out, if_pos hpt]
            rw [hpt]
            clear hpt HW3
            go_wp2_with fail
            go_roundw
            case rel => exact ⟨f - 1, { p3 with at' := S }, cv3, lv3, HK4, HF4, (by show p3.op = p.op; rw [ho3]; exact HO1.out), (by show p3.cmds.length ≤ S; omega), (by show p3.labs.length ≤ S; omega), (by show p.at' ≤ S; omega), (by show p.cmds.length ≤ p3.cmds.length; omega), (by show s.size + 1 ≤ f - 1 + S; omega), HW4⟩
            case measure =>
              have q1 := atOf_is HK4.out.cu.rc.c1
              have q2 := HAT.out
              rw [q1, q2]
              show s.size - S < s.size - p1.at'
              omega
          · have HW4 : Hid (WF = ({ p3 with at' := S }, false)) := by rw [Hid, HW3.out, hpt]; rfl
            rw [hpt]
            clear hpt HW3
            go_wp2_with fail
            go_ret
            rw [HW4.out]
            exact .inr ⟨rfl, rfl, HK4.out.cu.rc, HF4.out.below HK.out⟩
        · simp only at h1 hrc
          subst h1
          have HW3 : Hid (WF = (p3, false)) := by rw [Hid, HW2.out]; rfl
          have HR3 : Hid (Rc w3 b s p3.at') := hrc
          have HB3 : Hid (Below b w w3) := ((HF2.out.trans (Fq.mw ((Mw.refl b w2).drewN _))).below HK.out).trans hbl
          clear hrc hbl HW2 HCM
          go_wp2_with fail
          go_ret
          rw [HW3.out]
          exact .inr ⟨rfl, rfl, HR3.out, HB3.out⟩
theorem row_all : ∀ N, RowAt N
  | 0 => fun b s p cv lv w _ _ _ h1 h2 => absurd h2 (by omega)
  | N + 1 => row_any N (row_all N)
end Rs
end Go.Proofs.YtppjlpihaocdiaaGreatDoor

