/- Several texts in one. -/
import Derived.Test.YtppjlpihaocdiaaPrZK
/- The program's reader of scripts: a command. -/
set_option linter.unusedSimpArgs false
set_option linter.unusedVariables false
namespace Go.Proofs.Ytppjlpihaocdiaa
namespace Rs
open Go.RowKit

theorem addrF_ge (s : ByteArray) (i : Nat) (lg : Int) (h : i ≤ s.size) : i ≤ (addrF s i lg).1 := by
  unfold addrF
  split
  · have h1 := whereF_le s i lg h
    simp only
    split
    · split
      · rename_i h2
        obtain ⟨h3, _⟩ := pk_byte (s := s) (i := (whereF s i lg).1) (by rw [h2]; decide)
        have h4 := whereF_le s ((whereF s i lg).1 + 1) (whereF s i lg).2.2.1 (by omega)
        split
        · have := le_skip s blank (whereF s ((whereF s i lg).1 + 1) (whereF s i lg).2.2.1).1 h4.1
          simp only; omega
        · simp only; omega
      · have := le_skip s blank (whereF s i lg).1 h1.1
        simp only; omega
    · simp only; omega
  · exact Nat.le_refl _

set_option maxRecDepth 100000 in
set_option maxHeartbeats 8000000 in
theorem command_any (N : Nat) (ih : RowAt N) (b : Nat) (s : ByteArray) (p : RSt) (cv lv : Value) (w : World) (hr : Rk w b s p cv lv) (hn1 : p.cmds.length ≤ p.at') (hn2 : p.labs.length ≤ p.at') (hop : p.op ≤ 5) (hN : 6 ≤ p.op + 1 + N) :
    Calls Try.prog 66 #[.pointer (some ⟨b, 0, none⟩)] w (RPost 1 b s p cv lv w (commandF (rowN s N) s p)) := by
  have HK : Hid (Rk w b s p cv lv) := hr
  have IH : Hid (RowAt N) := ih
  have hb := hr.lt
  have hle := hr.cu.rc.le
  have h400 := hr.cu.rc.s40
  have HC : Hid (Cu w b s p.at' p.long) := hr.cu
  have hcv0 : ∀ g, cv.ownBlock = some g → g ≤ w.heap.size := fun g hg => by obtain ⟨xs, own, _⟩ := hr.own; have := (own.lt g hg).2; omega
  have hlv0 : ∀ g, lv.ownBlock = some g → g ≤ w.heap.size := fun g hg => by have := (hr.lab.lt g hg).2; omega
  have HCV0 : Hid (∀ g, cv.ownBlock = some g → g ≤ w.heap.size) := hcv0
  have HLV0 : Hid (∀ g, lv.ownBlock = some g → g ≤ w.heap.size) := hlv0
  obtain ⟨⟨r0, r1, rf, _, _⟩, r5, rf5⟩ := hr.cu
  clear hr ih hcv0 hlv0
  have HF : Hid (commandF (rowN s N) s p = if (addrF s p.at' p.long).2.2.2.2 = true then (if pk s (addrF s p.at' p.long).1 = 33 then (if pk s (skip s blank ((addrF s p.at' p.long).1 + 1)) = 58 then ({ p with at' := skip s blank ((addrF s p.at' p.long).1 + 1), long := (addrF s p.at' p.long).2.2.2.1 }, false) else whatF (rowN s N) s { p with at' := skip s blank ((addrF s p.at' p.long).1 + 1), long := (addrF s p.at' p.long).2.2.2.1 } { adC (addrF s p.at' p.long).2.1 (addrF s p.at' p.long).2.2.1 with neg := true }) else if pk s (addrF s p.at' p.long).1 = 58 then (if (addrF s p.at' p.long).1 = p.at' then (RSt.label { p with at' := (addrF s p.at' p.long).1, long := (addrF s p.at' p.long).2.2.2.1 } s ((addrF s p.at' p.long).1 + 1) false, decide ((addrF s p.at' p.long).1 + 1 < labF s 8 ((addrF s p.at' p.long).1 + 1))) else ({ p with at' := (addrF s p.at' p.long).1, long := (addrF s p.at' p.long).2.2.2.1 }, false)) else whatF (rowN s N) s { p with at' := (addrF s p.at' p.long).1, long := (addrF s p.at' p.long).2.2.2.1 } (adC (addrF s p.at' p.long).2.1 (addrF s p.at' p.long).2.2.1)) else ({ p with at' := (addrF s p.at' p.long).1, long := (addrF s p.at' p.long).2.2.2.1 }, false)) := rfl
  generalize hWF : commandF (rowN s N) s p = WF at HF
  clear hWF
  have hge := addrF_ge s p.at' p.long hle
  generalize hA : addrF s p.at' p.long = A at HF hge
  have HA : Hid (addrF s p.at' p.long = A) := hA
  clear hA
  obtain ⟨j1, x1, x2, lg1, ok⟩ := A
  simp only at HF hge
  go_enter Try.func66, Try.ntmps66
  go_wp2_with fail
  refine (address_any b s p.at' p.long _ HC.out).mono ?_
  rw [HA.out]
  rintro e w1 ⟨a1, l1, c1, r1', g1, a2, l2, c2, r2, g2, rfl, hm1, hc1, hw1⟩
  have HM1 : Hid (Mw b w w1) := hm1
  have HC1 : Hid (Cu w1 b s j1 lg1) := hc1
  have HW1 : Hid (ok = true → WhAt w1 w.heap.size w1.heap.size x1 a1 l1 c1 r1' g1 ∧ WhAt w1 w.heap.size w1.heap.size x2 a2 l2 c2 r2 g2) := hw1
  have hj1 := hc1.rc.le
  have hz1 : w.heap.size ≤ w1.heap.size := hm1.size
  clear hm1 hc1 hw1 r0 r1 rf r5 rf5
  simp only
  go_upto_region 3 with (first
    | (refine wpList_alloc_row 4 rfl rfl 131 rfl _ Try.zero131 ?_; intro w2 h2 hR2 hB2; have HR2 : Hid (Row w2 w1.heap.size (cmL cm0 pts0)) := hR2; have HB2 : Hid (Below w1.heap.size w1 w2) := hB2; clear hR2 hB2)
    | (refine wpList_store_row rfl 131 (.tmp 4) (.tmp 14) rfl _ rfl _ rfl _ HR2.out rfl (Try.size131 _ _) (cmL_one _ _ rfl) ?_; intro w3 hR3 hS3; have HR3 : Hid (Row w3 w1.heap.size (cmL (adC x1 x2) (adP a1 l1 c1 r1' g1 a2 l2 c2 r2 g2))) := hR3; have HS3 : Hid (Sole w1.heap.size w2 w3) := hS3; clear hR3 hS3))
  have HM3 : Hid (Mw b w w3) := (HM1.out.trans (Mw.below HB2.out (by omega))).sole HS3.out (by omega) hb
  have HC3 : Hid (Cu w3 b s j1 lg1) := (HC1.out.below HB2.out).sole HS3.out (by omega)
  have HK3 : Hid (Keep w.heap.size w1.heap.size w1 w3) := ⟨fun k h1 h2 => (HS3.out.block k (by omega)).trans (HB2.out.block k h2), by rw [HS3.out.size]; omega⟩
  have hz3 : w1.heap.size < w3.heap.size := by rw [HS3.out.size]; omega
  clear HR2 HB2 HS3
  cases ok with
  | false =>
    have HW : Hid (WF = ({ p with at' := j1, long := lg1 }, false)) := by rw [Hid, HF.out]; rfl
    clear HF
    go_wp2_with fail
    go_ret
    rw [HW.out]
    exact .inr ⟨rfl, rfl, HC3.out.rc, (Fq.mw HM3.out).below HK.out⟩
  | true =>
    obtain ⟨hwa, hwb⟩ := HW1.out rfl
    have HCM : Hid (∀ {u : World} {d : Cm}, Keep w.heap.size w1.heap.size w1 u → d.kind = 0 → d.fst = x1 → d.snd = x2 → CmAt u w.heap.size w1.heap.size d (adP a1 l1 c1 r1' g1 a2 l2 c2 r2 g2)) := fun k h0 h1 h2 => ⟨by rw [h1]; exact fun e => (hwa e).of k.same k.size, by rw [h2]; exact fun e => (hwb e).of k.same k.size, fun e => by rw [h0] at e; omega, fun e => by rw [h0] at e; omega, rfl⟩
    clear hwa hwb HW1
    by_cases h33 : pk s j1 = ((33 : Nat) : Int)
    · have HI : Hid (pk s j1 = ((33 : Nat) : Int)) := h33
      obtain ⟨hlt, _⟩ := pk_byte (s := s) (i := j1) (by rw [h33]; decide)
      have HF1 : Hid (WF = if pk s (skip s blank (j1 + 1)) = 58 then ({ p with at' := skip s blank (j1 + 1), long := lg1 }, false) else whatF (rowN s N) s { p with at' := skip s blank (j1 + 1), long := lg1 } { adC x1 x2 with neg := true }) := by rw [Hid, HF.out, if_pos rfl, if_pos (by rw [h33]; rfl)]
      have hJ1 := le_skip s blank (j1 + 1) (by omega)
      have hJ2 := skip_le s blank (j1 + 1) (by omega)
      generalize hJ : skip s blank (j1 + 1) = J at HF1 hJ1 hJ2
      have HJ : Hid (skip s blank (j1 + 1) = J) := hJ
      clear hJ h33 HF
      go_wp2_with fail
      refine (acceptY b s j1 33 _ HC3.out.rc (by omega) HI.out).mono ?_
      rintro e w4 ⟨rfl, hm4⟩
      have HM4 : Hid (Mw b w w4) := HM3.out.trans (.mv hm4)
      have HC4 : Hid (Cu w4 b s (j1 + 1) lg1) := HC3.out.mv hm4 (by omega)
      have HR4 : Hid (Row w4 w1.heap.size (cmL (adC x1 x2) (adP a1 l1 c1 r1' g1 a2 l2 c2 r2 g2))) := HR3.out.of_block (hm4.only.block _ (by omega))
      have HK4 : Hid (Keep w.heap.size w1.heap.size w1 w4) := HK3.out.mw (.mv hm4) (by omega)
      clear hm4
      have m11 := HR4.out.cell (k := 11) rfl
      have f11 := HR4.out.frozen (k := 11) (by show 11 < 23; omega)
      have HM5 : Hid (Mw b w (w4.setCell ⟨w1.heap.size, 11, none⟩ (.bool true))) := HM4.out.setNew (by omega) hb _
      have HC5 : Hid (Cu (w4.setCell ⟨w1.heap.size, 11, none⟩ (.bool true)) b s (j1 + 1) lg1) := HC4.out.setNew (by omega) _
      have HR5 : Hid (Row (w4.setCell ⟨w1.heap.size, 11, none⟩ (.bool true)) w1.heap.size (cmL { adC x1 x2 with neg := true } (adP a1 l1 c1 r1' g1 a2 l2 c2 r2 g2))) := Row.put HR4.out 11 (by show 11 < 23; omega) _
      have HK5 : Hid (Keep w.heap.size w1.heap.size w1 (w4.setCell ⟨w1.heap.size, 11, none⟩ (.bool true))) := HK4.out.set (by omega)
      go_wp2_with fail
      refine (skip_any b s blank (j1 + 1) _ HC5.out.rc).mono ?_
      rw [HJ.out]
      rintro e w6 ⟨rfl, hm6⟩
      have HM6 : Hid (Mw b w w6) := HM5.out.trans (.mv hm6)
      have HC6 : Hid (Cu w6 b s J lg1) := HC5.out.mv hm6 hJ2
      have HR6 : Hid (Row w6 w1.heap.size (cmL { adC x1 x2 with neg := true } (adP a1 l1 c1 r1' g1 a2 l2 c2 r2 g2))) := HR5.out.of_block (hm6.only.block _ (by omega))
      have HK6 : Hid (Keep w.heap.size w1.heap.size w1 w6) := HK5.out.mw (.mv hm6) (by omega)
      clear hm6 m11 f11
      by_cases h58 : pk s J = ((58 : Nat) : Int)
      · have HPK : Hid (pk s J = 58) := h58
        have HW : Hid (WF = ({ p with at' := J, long := lg1 }, false)) := by rw [Hid, HF1.out, if_pos (by rw [h58]; rfl)]
        clear h58 HF1
        obtain ⟨t0, t1, tf, _, _⟩ := HC6.out.rc
        have hne : ((J : Int) == (p.at' : Int)) = false := beq_false_of_ne (by omega)
        go_wp2_with (go_at_call 64; refine (peek_any b s J _ HC6.out.rc).mono ?_; rw [HPK.out]; rintro e wp ⟨rfl, np, rfl⟩)
        go_ret
        rw [HW.out]
        exact .inr ⟨rfl, rfl, HC6.out.rc.drewN np, (Fq.mw (HM6.out.drewN np)).below HK.out⟩
      · have HW : Hid (WF = whatF (rowN s N) s { p with at' := J, long := lg1 } { adC x1 x2 with neg := true }) := by rw [Hid, HF1.out, if_neg (fun e => h58 (by rw [e]; rfl))]
        clear HF1
        have hpe : (pk s (J) == 58) = false := beq_false_of_ne (fun e => h58 (by rw [e]; rfl))
        obtain ⟨y, hy⟩ : ∃ y, pk s (J) = y := ⟨_, rfl⟩
        have HPK : Hid (pk s (J) = y) := hy
        rw [hy] at hpe
        clear h58 hy
        go_wp2_with (first | (refine wpList_load_row 44 rfl rfl 131 (.tmp 4) rfl _ rfl _ _ (HR6.out.of_block rfl) Try.underlying131 rfl (Try.size131 _ _) ?_) | (go_at_call 64; refine (peek_any b s (J) _ HC6.out.rc).mono ?_; rw [HPK.out]; rintro e wp ⟨rfl, np, rfl⟩))
        refine (what_any N IH.out b s { p with at' := J, long := lg1 } cv lv _ (HK.out.mw (HM6.out.drewN np) (HC6.out.drewN np)) ({ adC x1 x2 with neg := true }) (adP a1 l1 c1 r1' g1 a2 l2 c2 r2 g2) w.heap.size w1.heap.size ⟨HCM.out (HK6.out.drewN np) rfl rfl rfl, by omega, (HK6.out.drewN np).size, fun g hg => .inl (HCV0.out g hg), fun g hg => .inl (HLV0.out g hg)⟩ HCV0.out HLV0.out (HM6.out.drewN np).size (by show p.cmds.length ≤ J; omega) (by show p.labs.length ≤ J; omega) hop hN).mono ?_
        rintro e w7 hP
        rw [← HW.out] at hP
        unfold RPost at hP
        rcases hP with ⟨h1, rfl, ⟨cv', lv', hk4, hf4⟩, ho7, hb1, hb2, hb3, hb4⟩ | ⟨h1, rfl, hrc, hbl⟩
        · have HP : Hid (RPost 1 b s p cv lv w WF (.returned (.bool true)) w7) := .inl ⟨h1, rfl, ⟨cv', lv', hk4, (Fq.mw (HM6.out.drewN np)).trans hf4⟩, ho7, hb1, hb2, (by simp only at hb3; omega), hb4⟩
          clear hk4 hf4 hb1 hb2 hb3 hb4 ho7 h1
          go_wp2_with fail
          go_ret
          exact HP.out
        · have HP : Hid (RPost 1 b s p cv lv w WF (.returned (.bool false)) w7) := .inr ⟨h1, rfl, hrc, ((Fq.mw (HM6.out.drewN np)).below HK.out).trans hbl⟩
          clear hrc hbl h1
          go_wp2_with fail
          go_ret
          exact HP.out
    · have HI : Hid (pk s j1 ≠ ((33 : Nat) : Int)) := h33
      have HF1 : Hid (WF = if pk s j1 = 58 then (if j1 = p.at' then (RSt.label { p with at' := j1, long := lg1 } s (j1 + 1) false, decide (j1 + 1 < labF s 8 (j1 + 1))) else ({ p with at' := j1, long := lg1 }, false)) else whatF (rowN s N) s { p with at' := j1, long := lg1 } (adC x1 x2)) := by rw [Hid, HF.out, if_pos rfl, if_neg (fun e => h33 (by rw [e]; rfl))]
      clear h33 HF
      go_wp2_with fail
      refine (acceptN b s j1 33 _ HC3.out.rc (by omega) HI.out).mono ?_
      rintro e w4 ⟨rfl, hm4⟩
      have HM4 : Hid (Mw b w w4) := HM3.out.trans (.mv hm4)
      have HC4 : Hid (Cu w4 b s j1 lg1) := HC3.out.mv hm4 hj1
      have HR4 : Hid (Row w4 w1.heap.size (cmL (adC x1 x2) (adP a1 l1 c1 r1' g1 a2 l2 c2 r2 g2))) := HR3.out.of_block (hm4.only.block _ (by omega))
      have HK4 : Hid (Keep w.heap.size w1.heap.size w1 w4) := HK3.out.mw (.mv hm4) (by omega)
      clear hm4
      by_cases h58 : pk s j1 = ((58 : Nat) : Int)
      · have HPK : Hid (pk s j1 = 58) := h58
        obtain ⟨hlt, _⟩ := pk_byte (s := s) (i := j1) (by rw [h58]; decide)
        obtain ⟨t0, t1, tf, _, _⟩ := HC4.out.rc
        by_cases hjp : j1 = p.at'
        · have HW : Hid (WF = (RSt.label { p with at' := j1, long := lg1 } s (j1 + 1) false, decide (j1 + 1 < labF s 8 (j1 + 1)))) := by rw [Hid, HF1.out, if_pos (by rw [h58]; rfl), if_pos hjp]
          have heq : ((j1 : Int) == (p.at' : Int)) = true := by rw [hjp]; simp
          have HKM : Hid (∀ n, Rk (w4.drewN n) b s { p with at' := j1, long := lg1 } cv lv) := fun n => HK.out.mw (HM4.out.drewN n) (HC4.out.drewN n)
          have hlab := labF_le s 8 (j1 + 1) (by omega)
          have hn1j : p.cmds.length ≤ j1 := by omega
          have hn2j : p.labs.length ≤ j1 := by omega
          have hpj : p.at' ≤ j1 := by omega
          clear h58 HF1 hjp
          go_wp2_with (go_at_call 64; refine (peek_any b s j1 _ HC4.out.rc).mono ?_; rw [HPK.out]; rintro e wp ⟨rfl, np, rfl⟩)
          refine (mark_any b s { p with at' := j1, long := lg1 } cv lv _ (HKM.out np) hlt (by show p.labs.length ≤ 1000; omega) (by show p.cmds.length ≤ 1000; omega)).mono ?_
          rintro e w5 ⟨lv5, rfl, hk5, hf5⟩
          have HK5 : Hid (Rk w5 b s (RSt.label { p with at' := j1, long := lg1 } s (j1 + 1) false) cv lv5) := hk5
          have HF5 : Hid (Fq b cv cv lv lv5 w w5) := (Fq.mw (HM4.out.drewN np)).trans hf5
          clear hk5 hf5
          have HP : Hid (RPost 1 b s p cv lv w WF (.returned (.bool (decide (j1 + 1 < labF s 8 (j1 + 1))))) w5) := by
            rw [HW.out]
            by_cases hl : j1 + 1 < labF s 8 (j1 + 1)
            · exact .inl ⟨by simpa using hl, by rw [decide_eq_true hl], ⟨cv, lv5, HK5.out, HF5.out⟩, rfl, (by show p.cmds.length ≤ labF s 8 (j1 + 1); omega), (by show (p.labs ++ [_]).length ≤ labF s 8 (j1 + 1); rw [List.length_append, List.length_singleton]; omega), (by show p.at' + 1 ≤ labF s 8 (j1 + 1); omega), Nat.le_refl _⟩
            · exact .inr ⟨by simpa using hl, by rw [decide_eq_false hl], HK5.out.cu.rc, HF5.out.below HK.out⟩
          simp only
          generalize decide (j1 + 1 < labF s 8 (j1 + 1)) = dl at HP ⊢
          go_wp2_with fail
          go_ret
          exact HP.out
        · have HW : Hid (WF = ({ p with at' := j1, long := lg1 }, false)) := by rw [Hid, HF1.out, if_pos (by rw [h58]; rfl), if_neg hjp]
          have heq : ((j1 : Int) == (p.at' : Int)) = false := beq_false_of_ne (by omega)
          clear h58 HF1
          go_wp2_with (go_at_call 64; refine (peek_any b s j1 _ HC4.out.rc).mono ?_; rw [HPK.out]; rintro e wp ⟨rfl, np, rfl⟩)
          go_ret
          rw [HW.out]
          exact .inr ⟨rfl, rfl, HC4.out.rc.drewN np, (Fq.mw (HM4.out.drewN np)).below HK.out⟩
      · have HW : Hid (WF = whatF (rowN s N) s { p with at' := j1, long := lg1 } (adC x1 x2)) := by rw [Hid, HF1.out, if_neg (fun e => h58 (by rw [e]; rfl))]
        clear HF1
        have hpe : (pk s (j1) == 58) = false := beq_false_of_ne (fun e => h58 (by rw [e]; rfl))
        obtain ⟨y, hy⟩ : ∃ y, pk s (j1) = y := ⟨_, rfl⟩
        have HPK : Hid (pk s (j1) = y) := hy
        rw [hy] at hpe
        clear h58 hy
        go_wp2_with (first | (refine wpList_load_row 44 rfl rfl 131 (.tmp 4) rfl _ rfl _ _ (HR4.out.of_block rfl) Try.underlying131 rfl (Try.size131 _ _) ?_) | (go_at_call 64; refine (peek_any b s (j1) _ HC4.out.rc).mono ?_; rw [HPK.out]; rintro e wp ⟨rfl, np, rfl⟩))
        refine (what_any N IH.out b s { p with at' := j1, long := lg1 } cv lv _ (HK.out.mw (HM4.out.drewN np) (HC4.out.drewN np)) (adC x1 x2) (adP a1 l1 c1 r1' g1 a2 l2 c2 r2 g2) w.heap.size w1.heap.size ⟨HCM.out (HK4.out.drewN np) rfl rfl rfl, by omega, (HK4.out.drewN np).size, fun g hg => .inl (HCV0.out g hg), fun g hg => .inl (HLV0.out g hg)⟩ HCV0.out HLV0.out (HM4.out.drewN np).size (by show p.cmds.length ≤ j1; omega) (by show p.labs.length ≤ j1; omega) hop hN).mono ?_
        rintro e w7 hP
        rw [← HW.out] at hP
        unfold RPost at hP
        rcases hP with ⟨h1, rfl, ⟨cv', lv', hk4, hf4⟩, ho7, hb1, hb2, hb3, hb4⟩ | ⟨h1, rfl, hrc, hbl⟩
        · have HP : Hid (RPost 1 b s p cv lv w WF (.returned (.bool true)) w7) := .inl ⟨h1, rfl, ⟨cv', lv', hk4, (Fq.mw (HM4.out.drewN np)).trans hf4⟩, ho7, hb1, hb2, (by simp only at hb3; omega), hb4⟩
          clear hk4 hf4 hb1 hb2 hb3 hb4 ho7 h1
          go_wp2_with fail
          go_ret
          exact HP.out
        · have HP : Hid (RPost 1 b s p cv lv w WF (.returned (.bool false)) w7) := .inr ⟨h1, rfl, hrc, ((Fq.mw (HM4.out.drewN np)).below HK.out).trans hbl⟩
          clear hrc hbl h1
          go_wp2_with fail
          go_ret
          exact HP.out

end Rs
end Go.Proofs.Ytppjlpihaocdiaa

/- The program's reader of scripts: a row of commands. -/
set_option linter.unusedSimpArgs false
set_option linter.unusedVariables false
namespace Go.Proofs.Ytppjlpihaocdiaa
namespace Rs
open Go.RowKit

set_option maxRecDepth 100000 in
set_option maxHeartbeats 8000000 in
theorem row_any (N : Nat) (ih : RowAt N) : RowAt (N + 1) := by
  intro b s p cv lv w hr hn1 hn2 hop hN
  have HK : Hid (Rk w b s p cv lv) := hr
  have IH : Hid (RowAt N) := ih
  have hb := hr.lt
  have hle := hr.cu.rc.le
  have h400 := hr.cu.rc.s40
  clear hr ih
  generalize hWF : rowN s (N + 1) p = WF
  have HWF : Hid (rowL' (rowN s N) s (s.size + 1) p = WF) := hWF
  clear hWF
  go_enter Try.func36, Try.ntmps36
  go_wp2_with fail
  go_loopw [] (fun wr => ∃ (f : Nat) (p1 : RSt) (cv1 lv1 : Value), Hid (Rk wr b s p1 cv1 lv1) ∧ Hid (Fq b cv cv1 lv lv1 w wr) ∧ Hid (p1.op = p.op) ∧ p1.cmds.length ≤ p1.at' ∧ p1.labs.length ≤ p1.at' ∧ p.at' ≤ p1.at' ∧ p.cmds.length ≤ p1.cmds.length ∧ s.size + 1 ≤ f + p1.at' ∧ Hid (WF = rowL' (rowN s N) s f p1)) (fun wr => s.size - atOf wr b)
  case atStart => exact ⟨s.size + 1, p, cv, lv, HK, Fq.refl _ _ _ _, rfl, hn1, hn2, Nat.le_refl _, Nat.le_refl _, by omega, HWF.out.symm⟩
  case round =>
    obtain ⟨f, p1, cv1, lv1, HK1, HF1, HO1, hc1, hc2, hc3, hc4, hf, HW⟩ := hrel
    have hle1 := HK1.out.cu.rc.le
    have HAT : Hid (atOf wr b = p1.at') := atOf_is HK1.out.cu.rc.c1
    have HW1 : Hid (WF = if pk s (skip s between p1.at') = -1 ∨ closesF s { p1 with at' := skip s between p1.at' } = true then ({ p1 with at' := skip s between p1.at' }, true) else if (commandF (rowN s N) s { p1 with at' := skip s between p1.at' }).2 = true then (if pk s (skip s blank (commandF (rowN s N) s { p1 with at' := skip s between p1.at' }).1.at') = -1 ∨ nxt s parts (skip s blank (commandF (rowN s N) s { p1 with at' := skip s between p1.at' }).1.at') = true ∨ closesF s { (commandF (rowN s N) s { p1 with at' := skip s between p1.at' }).1 with at' := skip s blank (commandF (rowN s N) s { p1 with at' := skip s between p1.at' }).1.at' } = true then rowL' (rowN s N) s (f - 1) { (commandF (rowN s N) s { p1 with at' := skip s between p1.at' }).1 with at' := skip s blank (commandF (rowN s N) s { p1 with at' := skip s between p1.at' }).1.at' } else ({ (commandF (rowN s N) s { p1 with at' := skip s between p1.at' }).1 with at' := skip s blank (commandF (rowN s N) s { p1 with at' := skip s between p1.at' }).1.at' }, false)) else commandF (rowN s N) s { p1 with at' := skip s between p1.at' }) := by
      rw [Hid, HW.out]
      conv => lhs; rw [show f = (f - 1) + 1 by omega, rowL']
    clear HW
    have hJ1 := le_skip s between p1.at' hle1
    have hJ2 := skip_le s between p1.at' hle1
    generalize hJ : skip s between p1.at' = J at HW1 hJ1 hJ2
    have HJ : Hid (skip s between p1.at' = J) := hJ
    clear hJ
    go_wp2_with fail
    refine (skip_any b s between p1.at' _ HK1.out.cu.rc).mono ?_
    rw [HJ.out]
    rintro e w2 ⟨rfl, hm2⟩
    have HK2 : Hid (Rk w2 b s { p1 with at' := J } cv1 lv1) := HK1.out.mw (.mv hm2) (HK1.out.cu.mv hm2 hJ2)
    have HF2 : Hid (Fq b cv cv1 lv lv1 w w2) := HF1.out.trans (Fq.mw (.mv hm2))
    clear hm2
    have hop1 : p1.op = p.op := HO1.out
    by_cases hend : pk s J = -1
    · have HPK : Hid (pk s J = -1) := hend
      have HW2 : Hid (WF = ({ p1 with at' := J }, true)) := by rw [Hid, HW1.out, if_pos (.inl hend)]
      clear hend HW1
      go_wp2_with (go_at_call 64; refine (peek_any b s J _ HK2.out.cu.rc).mono ?_; rw [HPK.out]; rintro e wp ⟨rfl, np, rfl⟩)
      go_ret
      rw [HW2.out]
      exact .inl ⟨rfl, rfl, ⟨cv1, lv1, HK2.out.beside (Nat.le_refl _) (fun _ _ => rfl), HF2.out.trans (Fq.mw ((Mw.refl b w2).drewN np))⟩, HO1.out, (by show p1.cmds.length ≤ J; omega), (by show p1.labs.length ≤ J; omega), (by show p.at' + 0 ≤ J; omega), hc4⟩
    · obtain ⟨hlt, _⟩ := pk_byte hend
      have hpe : (pk s J == -1) = false := beq_false_of_ne hend
      obtain ⟨y, hy⟩ : ∃ y, pk s J = y := ⟨_, rfl⟩
      have HPK : Hid (pk s J = y) := hy
      rw [hy] at hpe
      have HCL : Hid (∀ n, Calls Try.prog 65 #[.pointer (some ⟨b, 0, none⟩)] (w2.drewN n) fun e w' => e = .returned (.bool (closesF s { p1 with at' := J })) ∧ ∃ m, w' = (w2.drewN n).drewN m) := fun n => closes_any b s J p1.op _ (HK2.out.cu.rc.drewN n) HK2.out.c2
      rcases bool_or (closesF s { p1 with at' := J }) with hcl | hcl
      · have HW2 : Hid (WF = ({ p1 with at' := J }, true)) := by rw [Hid, HW1.out, if_pos (.inr hcl)]
        rw [hcl] at HCL
        clear hend HW1 hcl hy
        go_wp2_with (first | (go_at_call 64; refine (peek_any b s J _ HK2.out.cu.rc).mono ?_; rw [HPK.out]; rintro e wp ⟨rfl, np, rfl⟩) | (go_at_call 65; refine (HCL.out _).mono ?_; rintro e wq ⟨rfl, nq, rfl⟩))
        go_ret
        rw [HW2.out]
        exact .inl ⟨rfl, rfl, ⟨cv1, lv1, HK2.out.beside (Nat.le_refl _) (fun _ _ => rfl), HF2.out.trans (Fq.mw ((Mw.refl b w2).drewN _))⟩, HO1.out, (by show p1.cmds.length ≤ J; omega), (by show p1.labs.length ≤ J; omega), (by show p.at' + 0 ≤ J; omega), hc4⟩
      · have HW2 : Hid (WF = if (commandF (rowN s N) s { p1 with at' := J }).2 = true then (if pk s (skip s blank (commandF (rowN s N) s { p1 with at' := J }).1.at') = -1 ∨ nxt s parts (skip s blank (commandF (rowN s N) s { p1 with at' := J }).1.at') = true ∨ closesF s { (commandF (rowN s N) s { p1 with at' := J }).1 with at' := skip s blank (commandF (rowN s N) s { p1 with at' := J }).1.at' } = true then rowL' (rowN s N) s (f - 1) { (commandF (rowN s N) s { p1 with at' := J }).1 with at' := skip s blank (commandF (rowN s N) s { p1 with at' := J }).1.at' } else ({ (commandF (rowN s N) s { p1 with at' := J }).1 with at' := skip s blank (commandF (rowN s N) s { p1 with at' := J }).1.at' }, false)) else commandF (rowN s N) s { p1 with at' := J }) := by rw [Hid, HW1.out, if_neg (by rw [hcl]; simp; exact hend)]
        rw [hcl] at HCL
        clear hend HW1 hcl hy
        have HKQ : Hid (∀ n, Rk (w2.drewN n) b s { p1 with at' := J } cv1 lv1) := fun n => HK2.out.beside (Nat.le_refl _) (fun _ _ => rfl)
        have HCM : Hid (∀ n, Calls Try.prog 66 #[.pointer (some ⟨b, 0, none⟩)] (w2.drewN n) (RPost 1 b s { p1 with at' := J } cv1 lv1 (w2.drewN n) (commandF (rowN s N) s { p1 with at' := J }))) := fun n => command_any N IH.out b s { p1 with at' := J } cv1 lv1 _ (HKQ.out n) (by show p1.cmds.length ≤ J; omega) (by show p1.labs.length ≤ J; omega) (by show p1.op ≤ 5; omega) (by show 6 ≤ p1.op + 1 + N; omega)
        generalize commandF (rowN s N) s { p1 with at' := J } = C at HW2 HCM
        obtain ⟨p3, okc⟩ := C
        simp only at HW2
        go_wp2_with (first | (go_at_call 64; refine (peek_any b s J _ HK2.out.cu.rc).mono ?_; rw [HPK.out]; rintro e wp ⟨rfl, np, rfl⟩) | (go_at_call 65; refine (HCL.out _).mono ?_; rintro e wq ⟨rfl, nq, rfl⟩))
        refine (HCM.out _).mono ?_
        rintro e w3 hP
        unfold RPost at hP
        rcases hP with ⟨h1, rfl, ⟨cv3, lv3, hk3, hf3⟩, ho3, hb1, hb2, hb3, hb4⟩ | ⟨h1, rfl, hrc, hbl⟩
        · simp only at h1 ho3 hb1 hb2 hb3 hb4
          subst h1
          have HK3 : Hid (Rk w3 b s p3 cv3 lv3) := hk3
          have HF3 : Hid (Fq b cv cv3 lv lv3 w w3) := (HF2.out.trans (Fq.mw ((Mw.refl b w2).drewN _))).trans hf3
          have hle3 := hk3.cu.rc.le
          have HW3 : Hid (WF = if partedF s (skip s blank p3.at') p3.op = true then rowL' (rowN s N) s (f - 1) { p3 with at' := skip s blank p3.at' } else ({ p3 with at' := skip s blank p3.at' }, false)) := by
            rw [Hid, HW2.out, if_pos rfl]
            congr 1
            simp [partedF, closesF, or_assoc]
          have hS1 := le_skip s blank p3.at' hle3
          have hS2 := skip_le s blank p3.at' hle3
          clear hk3 hf3 HW2 HCM
          go_wp2_with fail
          refine (parted_any b s p3.at' p3.op _ HK3.out.cu.rc HK3.out.c2).mono ?_
          generalize skip s blank p3.at' = S at HW3 hS1 hS2 ⊢
          rintro e w4 ⟨rfl, hm4⟩
          have HK4 : Hid (Rk w4 b s { p3 with at' := S } cv3 lv3) := HK3.out.mw (.mv hm4) (HK3.out.cu.mv hm4 hS2)
          have HF4 : Hid (Fq b cv cv3 lv lv3 w w4) := HF3.out.trans (Fq.mw (.mv hm4))
          clear hm4
          rcases bool_or (partedF s S p3.op) with hpt | hpt
          · have HW4 : Hid (WF = rowL' (rowN s N) s (f - 1) { p3 with at' := S }) := by rw [Hid, HW3.out, if_pos hpt]
            rw [hpt]
            clear hpt HW3
            go_wp2_with fail
            go_roundw
            case rel => exact ⟨f - 1, { p3 with at' := S }, cv3, lv3, HK4, HF4, (by show p3.op = p.op; rw [ho3]; exact HO1.out), (by show p3.cmds.length ≤ S; omega), (by show p3.labs.length ≤ S; omega), (by show p.at' ≤ S; omega), (by show p.cmds.length ≤ p3.cmds.length; omega), (by show s.size + 1 ≤ f - 1 + S; omega), HW4⟩
            case measure =>
              have q1 := atOf_is HK4.out.cu.rc.c1
              have q2 := HAT.out
              rw [q1, q2]
              show s.size - S < s.size - p1.at'
              omega
          · have HW4 : Hid (WF = ({ p3 with at' := S }, false)) := by rw [Hid, HW3.out, hpt]; rfl
            rw [hpt]
            clear hpt HW3
            go_wp2_with fail
            go_ret
            rw [HW4.out]
            exact .inr ⟨rfl, rfl, HK4.out.cu.rc, HF4.out.below HK.out⟩
        · simp only at h1 hrc
          subst h1
          have HW3 : Hid (WF = (p3, false)) := by rw [Hid, HW2.out]; rfl
          have HR3 : Hid (Rc w3 b s p3.at') := hrc
          have HB3 : Hid (Below b w w3) := ((HF2.out.trans (Fq.mw ((Mw.refl b w2).drewN _))).below HK.out).trans hbl
          clear hrc hbl HW2 HCM
          go_wp2_with fail
          go_ret
          rw [HW3.out]
          exact .inr ⟨rfl, rfl, HR3.out, HB3.out⟩

theorem row_all : ∀ N, RowAt N
  | 0 => fun b s p cv lv w _ _ _ h1 h2 => absurd h2 (by omega)
  | N + 1 => row_any N (row_all N)

end Rs
end Go.Proofs.Ytppjlpihaocdiaa

