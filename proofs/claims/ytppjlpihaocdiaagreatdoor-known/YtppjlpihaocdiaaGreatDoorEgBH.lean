/- Several texts in one. -/
import Derived.Test.YtppjlpihaocdiaaGreatDoorEfBH
import Derived.Test.YtppjlpihaocdiaaGreatDoorEfJH
import Derived.WalkMore
/- A part of the proof. -/
set_option linter.unusedSimpArgs false
set_option linter.unusedVariables false
namespace Go.Proofs.YtppjlpihaocdiaaGreatDoor
namespace Ee
open Go.RowKit
open Rs (Cm Wh Pc)
theorem workF_0 (mf : Mf) (cf : Cf) (f : Nat) (E : Ed) : E.workF mf cf (f + 1) 0 = if (({ E with stage := 0 } : Ed).begin cf).2 = true then ({ (({ E with stage := 0 } : Ed).begin cf).1 with at' := 0 } : Ed).workF mf cf f 1 else (({ E with stage := 0 } : Ed).begin cf).1 := rfl
theorem workF_1 (mf : Mf) (cf : Cf) (f : Nat) (E : Ed) : E.workF mf cf (f + 1) 1 = if E.at' = cf.cmds.length then E.workF mf cf f 3 else ({ E with stage := 1 } : Ed).workF mf cf f 2 := rfl
theorem workF_2 (mf : Mf) (cf : Cf) (f : Nat) (E : Ed) : E.workF mf cf (f + 1) 2 = if (E.command mf cf).2 = 0 then (E.command mf cf).1 else if (E.command mf cf).2 = 1 then (E.command mf cf).1.workF mf cf f 1 else if (E.command mf cf).2 = 2 then ({ (E.command mf cf).1 with at' := 0 } : Ed).workF mf cf f 1 else if (E.command mf cf).2 = 3 then (E.command mf cf).1.workF mf cf f 4 else (E.command mf cf).1.workF mf cf f 3 := rfl
theorem workF_3 (mf : Mf) (cf : Cf) (f : Nat) (E : Ed) : E.workF mf cf (f + 1) 3 = (E.printSpace cf).workF mf cf f 4 := rfl
theorem workF_4 (mf : Mf) (cf : Cf) (f : Nat) (E : Ed) : E.workF mf cf (f + 1) 4 = if E.printComing.state = 0 then E.printComing.workF mf cf f 0 else E.printComing := rfl
theorem mu_small {cf : Cf} {K l : Nat} {E : Ed} (hc : Cok cf) : mu cf l E < 10000 := by
  have h1 := hc.fuel
  unfold mu
  have r1 : (if l = 0 then 0 else if l = 4 then 1 else if l = 3 then 2 else if l = 2 then (if E.stage = 1 then 3 else 5) else 4) ≤ 5 := by
    repeat' split
    all_goals omega
  have r2 : 2005 * (if E.more = true then 1 else 0) ≤ 2005 := by split <;> omega
  omega
theorem begin_good {cf : Cf} {K : Nat} {E : Ed} (hc : Cok cf) (h : Good cf K 0 E) : (((({ E with stage := 0 } : Ed).begin cf).2 = true) ∧ Good cf K 1 { (({ E with stage := 0 } : Ed).begin cf).1 with at' := 0 } ∧ mu cf 1 { (({ E with stage := 0 } : Ed).begin cf).1 with at' := 0 } < mu cf 0 E) ∨ ((({ E with stage := 0 } : Ed).begin cf).2 = false ∧ Rest cf K (({ E with stage := 0 } : Ed).begin cf).1) := by
  have hs : E.state = 0 := by rcases h.run with e | e | e <;> first | exact e | omega
  have i0 : Iv cf K 0 { E with stage := 0 } := (h.iv).upd E.at' 0 E.state E.put h.iv.at'
  have hfu := hc.fuel
  unfold Ed.begin
  split
  · split
    · rename_i ha hm
      have hm' : E.more = true := hm
      rcases i0.readBy hc hm false with ⟨h1, h2, h3, h5⟩ | ⟨h1, h2, h3⟩
      · refine .inl ⟨h1, good_1 (h2.upd 0 _ _ _ (Nat.zero_le _)) (by show (Ed.readBy cf false { E with stage := 0 }).1.state = 0; rw [readBy_state cf false _ h1]; exact hs), ?_⟩
        have e1 : ({ (Ed.readBy cf false { E with stage := 0 }).1 with at' := 0 } : Ed).more = false := h3
        have e2 : ({ (Ed.readBy cf false { E with stage := 0 }).1 with at' := 0 } : Ed).looked = 0 := h5
        have hlf := h.iv.looked
        unfold mu
        rw [e1, e2, hm']
        simp
        omega
      · exact .inr ⟨h1, rest_off h2 h3⟩
    · exact .inr ⟨rfl, rest_off (i0.upd E.at' 0 1 E.put h.iv.at') (by simp)⟩
  · refine .inr ⟨rfl, i0, fun _ => ?_⟩
    rw [if_pos rfl]
    exact good_0 i0 hs
theorem workF_rest {mf : Mf} {cf : Cf} {K : Nat} (hc : Cok cf) (hK : K ≤ 2000000) : ∀ (f l : Nat) (E : Ed), l ≤ 4 → Good cf K l E → mu cf l E < f → Rest cf K (E.workF mf cf f l)
  | 0, l, E, _, _, h => by omega
  | f + 1, l, E, hl, hg, hmu => by
    rcases (by omega : l = 0 ∨ l = 1 ∨ l = 2 ∨ l = 3 ∨ l = 4) with rfl | rfl | rfl | rfl | rfl
    · rw [workF_0]
      rcases begin_good hc hg with ⟨h1, h2, h3⟩ | ⟨h1, h2⟩
      · rw [if_pos h1]
        exact workF_rest hc hK f 1 _ (by omega) h2 (by omega)
      · rw [if_neg (by rw [h1]; simp)]
        exact h2
    · rw [workF_1]
      have hs : E.state = 0 := by rcases hg.run with e | e | e <;> first | exact e | omega
      split
      · exact workF_rest hc hK f 3 _ (by omega) (good_3 hg.iv) (by unfold mu at hmu ⊢; simp at hmu ⊢; omega)
      · have := hg.iv.at'
        refine workF_rest hc hK f 2 _ (by omega) ⟨hg.iv.upd E.at' 1 E.state E.put hg.iv.at', fun _ => by simp only; omega, fun _ => by simp, fun _ e => by simp at e, fun _ e => by simp at e, .inl hs⟩ ?_
        unfold mu at hmu ⊢
        have e1 : ({ E with stage := 1 } : Ed).more = E.more := rfl
        rw [e1]
        simp at hmu ⊢
        omega
    · rw [workF_2]
      obtain ⟨h1, h2, h3⟩ := command_cp (mf := mf) hc hK hg
      by_cases h0 : (E.command mf cf).2 = 0
      · rw [if_pos h0]; exact h2 h0
      · obtain ⟨g1, g2⟩ := h3 h0
        rw [if_neg h0]
        by_cases e1 : (E.command mf cf).2 = 1
        · rw [if_pos e1]
          have el : lbl (E.command mf cf).2 = 1 := by rw [e1]; rfl
          have en : nx (E.command mf cf) = (E.command mf cf).1 := by unfold nx; rw [if_neg (by omega)]
          rw [el, en] at g1 g2
          exact workF_rest hc hK f 1 _ (by omega) g1 (by omega)
        · rw [if_neg e1]
          by_cases e2 : (E.command mf cf).2 = 2
          · rw [if_pos e2]
            have el : lbl (E.command mf cf).2 = 1 := by rw [e2]; rfl
            have en : nx (E.command mf cf) = { (E.command mf cf).1 with at' := 0 } := by unfold nx; rw [if_pos e2]
            rw [el, en] at g1 g2
            exact workF_rest hc hK f 1 _ (by omega) g1 (by omega)
          · rw [if_neg e2]
            have en : nx (E.command mf cf) = (E.command mf cf).1 := by unfold nx; rw [if_neg e2]
            rw [en] at g1 g2
            by_cases e3 : (E.command mf cf).2 = 3
            · rw [if_pos e3]
              have el : lbl (E.command mf cf).2 = 4 := by rw [e3]; rfl
              rw [el] at g1 g2
              exact workF_rest hc hK f 4 _ (by omega) g1 (by omega)
            · rw [if_neg e3]
              have el : lbl (E.command mf cf).2 = 3 := by unfold lbl; rw [if_neg (by omega), if_neg e3]
              rw [el] at g1 g2
              exact workF_rest hc hK f 3 _ (by omega) g1 (by omega)
    · rw [workF_3]
      have i1 : Iv cf K 0 (E.printSpace cf) := hg.iv.printSpace
      obtain ⟨a1, a2, a3, a4, a5⟩ := printSpace_more cf E
      refine workF_rest hc hK f 4 _ (by omega) (good_4 i1) ?_
      unfold mu at hmu ⊢
      rw [a1, a2]
      simp at hmu ⊢
      omega
    · rw [workF_4]
      have i1 : Iv cf K 0 E.printComing := hg.iv.printComing
      obtain ⟨a1, a2, a3, a4, a5⟩ := printComing_more E
      split
      · rename_i hs
        refine workF_rest hc hK f 0 _ (by omega) (good_0 i1 hs) ?_
        unfold mu at hmu ⊢
        rw [a1, a2]
        simp at hmu ⊢
        omega
      · rename_i hs
        exact rest_off i1 hs
theorem work_rest {mf : Mf} {cf : Cf} {K : Nat} {E : Ed} (hc : Cok cf) (hK : K ≤ 2000000) (hg : Good cf K (if E.stage = 0 then 0 else 2) E) : Rest cf K (E.work mf cf) := by
  unfold Ed.work
  exact workF_rest hc hK 10000 _ E (by split <;> omega) hg (mu_small (K := K) hc)
end Ee
end Go.Proofs.YtppjlpihaocdiaaGreatDoor

/- A part of the proof. -/
set_option linter.unusedSimpArgs false
set_option linter.unusedVariables false
namespace Go.Proofs.YtppjlpihaocdiaaGreatDoor
namespace Ee
open Go.RowKit
open Rs (Cm Wh Pc)
def Fr (b : Nat) (a : Act) : Prop := ∃ (u2 u3 u4 u5 u6 u7 u8 u9 u10 u11 u12 u13 u14 u15 u16 u17 u18 u19 u20 u21 u22 u23 u24 u25 u26 u27 u28 u29 u30 u31 u32 u33 u34 u35 u36 u37 u38 u39 u40 u41 u42 u43 u44 u45 u46 u47 u48 u49 : Value), a = { tmps := List.toArray (.pointer (some ⟨b, 0, none⟩) :: undef :: u2 :: u3 :: u4 :: u5 :: u6 :: u7 :: u8 :: u9 :: u10 :: u11 :: u12 :: u13 :: u14 :: u15 :: u16 :: u17 :: u18 :: u19 :: u20 :: u21 :: u22 :: u23 :: u24 :: u25 :: u26 :: u27 :: u28 :: u29 :: u30 :: u31 :: u32 :: u33 :: u34 :: u35 :: u36 :: u37 :: u38 :: u39 :: u40 :: u41 :: u42 :: u43 :: u44 :: u45 :: u46 :: u47 :: u48 :: u49 :: []), defers := [] }
def plb (l : Nat) : Nat := if l = 1 then 0 else if l = 2 ∨ l = 4 then 1 else if l = 0 then 2 else if l = 3 then 3 else 4
def adj (l : Nat) (E : Ed) : Ed := if l = 2 then { E with at' := 0 } else E
def WJ (mf : Mf) (cf : Cf) (b K : Nat) (R : Ed) (w : World) (v : Ev) (l n : Nat) (a : Act) (w' : World) : Prop :=
  Fr b a ∧ ∃ E, Ok w b cf v E w' ∧ Good cf K (plb l) (adj l E) ∧ mu cf (plb l) (adj l E) < n ∧ (adj l E).workF mf cf n (plb l) = R
def WQ (cf : Cf) (b : Nat) (R : Ed) (w : World) (v : Ev) : Ending → World → Prop := fun e w' => e = .returned (.tuple #[]) ∧ Ok w b cf v R w'
set_option maxRecDepth 100000 in
set_option maxHeartbeats 8000000 in
theorem work_any (mf : Mf) (hm : MfOk mf) (b : Nat) (cf : Cf) (K : Nat) (E : Ed) (v : Ev) (w : World) (h : At w b cf E v) (hc : Cok cf) (hK : K ≤ 2000000) (hg : Good cf K (if E.stage = 0 then 0 else 2) E) :
    Calls Tryz.prog 50 #[.pointer (some ⟨b, 0, none⟩)] w (WQ cf b (E.work mf cf) w v) := by
  have HA : Hid (At w b cf E v) := h
  have HM : Hid (MfOk mf) := hm
  have HC : Hid (Cok cf) := hc
  have HG : Hid (Good cf K (if E.stage = 0 then 0 else 2) E) := hg
  have m15 := h.cell (k := 15) rfl
  have HR : Hid (E.workF mf cf 10000 (if E.stage = 0 then 0 else 2) = E.work mf cf) := rfl
  generalize E.work mf cf = R at HR ⊢
  clear h hm hc hg
  go_enter Tryz.func50, Tryz.ntmps50
  go_wp2_with fail
  refine wp_scope_six (WJ mf cf b K R w v) rfl rfl rfl rfl rfl rfl ?s5 ?s3 ?s0 ?s4 ?s2 ?s1 ?first
  case s5 =>
    intro N n a w' hn hJ
    obtain ⟨⟨u2, u3, u4, u5, u6, u7, u8, u9, u10, u11, u12, u13, u14, u15, u16, u17, u18, u19, u20, u21, u22, u23, u24, u25, u26, u27, u28, u29, u30, u31, u32, u33, u34, u35, u36, u37, u38, u39, u40, u41, u42, u43, u44, u45, u46, u47, u48, u49, rfl⟩, E', hO, hG, hmu, hR⟩ := hJ
    have hG4 : Good cf K 4 E' := hG
    have hmu4 : mu cf 4 E' < n := hmu
    obtain ⟨f, rfl⟩ : ∃ f, n = f + 1 := ⟨n - 1, by omega⟩
    have hR4 : E'.workF mf cf (f + 1) 4 = R := hR
    rw [workF_4] at hR4
    have hS := hG4.iv.sml HC.out hK
    obtain ⟨v1, hA1, hF1⟩ := hO
    have hL := printComing_any b cf E' v1 w' hA1 (Nat.le_trans hS.out (by omega)) (fun t ht => Nat.le_trans (hS.com t ht) (by omega))
    have HF1 : Hid (Fe b v v1 w w') := hF1
    have HI : Hid (Iv cf K 0 E'.printComing) := hG4.iv.printComing
    have HR4 : Hid ((if E'.printComing.state = 0 then E'.printComing.workF mf cf f 0 else E'.printComing) = R) := hR4
    have HMU : Hid (mu cf 0 E'.printComing < f) := by
      obtain ⟨a1, a2, a3, a4, a5⟩ := printComing_more E'
      rw [Hid]
      unfold mu at hmu4 ⊢
      rw [a1, a2]
      simp at hmu4 ⊢
      omega
    clear hG hmu hmu4 hR hR4 hA1 hF1 hS hG4
    go_wp2_with fail
    refine hL.mono ?_
    rintro e w2 ⟨rfl, hO⟩
    have HO2 : Hid (Ok w b cf v E'.printComing w2) := by
      obtain ⟨v2, a1, a2⟩ := hO
      exact ⟨v2, a1, HF1.out.trans a2⟩
    clear hL hO
    generalize E'.printComing = E2 at HO2 HI HR4 HMU
    have m20 := HO2.out.cell (k := 20) (fun _ => rfl)
    by_cases hs : E2.state = 0
    · rw [hs] at m20
      have HR5 : Hid (E2.workF mf cf f 0 = R) := by rw [Hid, ← HR4.out, if_pos hs]
      have HS0 : Hid (E2.state = 0) := hs
      clear hs HR4
      go_wp2_with fail
      go_step3
      exact ⟨by omega, f, by omega, ⟨_, _, _, _, _, _, _, _, _, _, _, _, _, _, _, _, _, _, _, _, _, _, _, _, _, _, _, _, _, _, _, _, _, _, _, _, _, _, _, _, _, _, _, _, _, _, _, _, rfl⟩, E2, HO2.out, good_0 HI.out HS0.out, HMU.out, HR5.out⟩
    · have q0 : ((E2.state : Int) == 0) = false := by simp; omega
      have HR5 : Hid (E2 = R) := by rw [Hid, ← HR4.out, if_neg hs]
      clear hs HR4
      go_wp2_with fail
      exact bodyPost_end (v := .tuple #[]) (by simp [results, Tryz.results50, go_sem]) rfl ⟨rfl, by rw [← HR5.out]; exact HO2.out⟩
  case s3 =>
    intro h5 N n a w' hn hJ
    obtain ⟨⟨u2, u3, u4, u5, u6, u7, u8, u9, u10, u11, u12, u13, u14, u15, u16, u17, u18, u19, u20, u21, u22, u23, u24, u25, u26, u27, u28, u29, u30, u31, u32, u33, u34, u35, u36, u37, u38, u39, u40, u41, u42, u43, u44, u45, u46, u47, u48, u49, rfl⟩, E', hO, hG, hmu, hR⟩ := hJ
    have hG3 : Good cf K 3 E' := hG
    have hmu3 : mu cf 3 E' < n := hmu
    obtain ⟨f, rfl⟩ : ∃ f, n = f + 1 := ⟨n - 1, by omega⟩
    have hR3 : E'.workF mf cf (f + 1) 3 = R := hR
    rw [workF_3] at hR3
    have hS := hG3.iv.sml HC.out hK
    obtain ⟨v1, hA1, hF1⟩ := hO
    have hL := printSpace_any b cf E' v1 w' hA1 hS.outl (Nat.le_trans hS.pat (by omega))
    have HF1 : Hid (Fe b v v1 w w') := hF1
    have HI : Hid (Iv cf K 0 (E'.printSpace cf)) := hG3.iv.printSpace
    have HR3 : Hid ((E'.printSpace cf).workF mf cf f 4 = R) := hR3
    have HMU : Hid (mu cf 4 (E'.printSpace cf) < f) := by
      obtain ⟨a1, a2, a3, a4, a5⟩ := printSpace_more cf E'
      rw [Hid]
      unfold mu at hmu3 ⊢
      rw [a1, a2]
      simp at hmu3 ⊢
      omega
    have H5 : Hid _ := h5
    clear hG hmu hmu3 hR hR3 hA1 hF1 hS hG3 h5
    go_wp2_with fail
    refine hL.mono ?_
    rintro e w2 ⟨rfl, hO⟩
    have HO2 : Hid (Ok w b cf v (E'.printSpace cf) w2) := by
      obtain ⟨v2, a1, a2⟩ := hO
      exact ⟨v2, a1, HF1.out.trans a2⟩
    clear hL hO
    generalize E'.printSpace cf = E2 at HO2 HI HR3 HMU
    go_wp2_with fail
    refine wp_label ?_
    rename_i hK
    exact hK _ _ (H5.out N f _ _ (by omega) ⟨⟨_, _, _, _, _, _, _, _, _, _, _, _, _, _, _, _, _, _, _, _, _, _, _, _, _, _, _, _, _, _, _, _, _, _, _, _, _, _, _, _, _, _, _, _, _, _, _, _, rfl⟩, E2, HO2.out, good_4 HI.out, HMU.out, HR3.out⟩)
  case s0 =>
    intro h3 N n a w' hn hJ
    obtain ⟨⟨u2, u3, u4, u5, u6, u7, u8, u9, u10, u11, u12, u13, u14, u15, u16, u17, u18, u19, u20, u21, u22, u23, u24, u25, u26, u27, u28, u29, u30, u31, u32, u33, u34, u35, u36, u37, u38, u39, u40, u41, u42, u43, u44, u45, u46, u47, u48, u49, rfl⟩, E', hO, hG, hmu, hR⟩ := hJ
    have hG2 : Good cf K 2 E' := hG
    have hmu2 : mu cf 2 E' < n := hmu
    obtain ⟨f, rfl⟩ : ∃ f, n = f + 1 := ⟨n - 1, by omega⟩
    have hR2 : E'.workF mf cf (f + 1) 2 = R := hR
    rw [workF_2] at hR2
    have hS := hG2.iv.sml HC.out hK
    obtain ⟨x, hx⟩ : ∃ x, cf.cmds[E'.at']? = some x := ⟨cf.cmds[E'.at']'(hG2.lt rfl), List.getElem?_eq_getElem (hG2.lt rfl)⟩
    obtain ⟨v1, hA1, hF1⟩ := hO
    have hL := command_any mf HM.out b cf E' v1 x w' hA1 hS hx (HC.out.cm _ _ hx)
    have HF1 : Hid (Fe b v v1 w w') := hF1
    obtain ⟨k1, k2, k3⟩ := command_cp (mf := mf) HC.out hK hG2
    have HR2 : Hid _ := hR2
    have HK3 : Hid _ := k3
    have H3 : Hid _ := h3
    generalize E'.command mf cf = r at hL k1 k2 HR2 HK3
    have HMU : Hid (mu cf 2 E' < f + 1) := hmu2
    clear hG hmu hmu2 hR hR2 hA1 hF1 hS hG2 h3 k2 k3 hx
    obtain ⟨E2, s⟩ := r
    simp only at k1
    go_wp2_with fail
    refine hL.mono ?_
    rintro e w2 ⟨rfl, hO⟩
    have HO2 : Hid (Ok w b cf v E2 w2) := by
      obtain ⟨v2, a1, a2⟩ := hO
      exact ⟨v2, a1, HF1.out.trans a2⟩
    clear hL hO
    rcases (by omega : s = 0 ∨ s = 1 ∨ s = 2 ∨ s = 3 ∨ s = 4) with rfl | rfl | rfl | rfl | rfl
    · have HR3 : Hid (E2 = R) := HR2.out
      clear HR2 HK3
      go_wp2_with fail
      refine bodyPost_ret (v := .tuple #[]) (by simp [results, Tryz.results50, go_sem]) rfl ⟨rfl, ?_⟩
      rw [← HR3.out]
      exact HO2.out
    · have HR3 : Hid (E2.workF mf cf f 1 = R) := HR2.out
      obtain ⟨g1, g2⟩ := HK3.out (by simp)
      have HG1 : Hid (Good cf K 1 E2) := g1
      have HM1 : Hid (mu cf 1 E2 < f) := Nat.lt_of_lt_of_le g2 (by have := HMU.out; omega)
      clear g1 g2 HR2 HK3
      go_wp2_with fail
      go_step3
      exact ⟨by omega, f, by omega, ⟨_, _, _, _, _, _, _, _, _, _, _, _, _, _, _, _, _, _, _, _, _, _, _, _, _, _, _, _, _, _, _, _, _, _, _, _, _, _, _, _, _, _, _, _, _, _, _, _, rfl⟩, E2, HO2.out, HG1.out, HM1.out, HR3.out⟩
    · have HR3 : Hid (({ E2 with at' := 0 } : Ed).workF mf cf f 1 = R) := HR2.out
      obtain ⟨g1, g2⟩ := HK3.out (by simp)
      have HG1 : Hid (Good cf K 1 { E2 with at' := 0 }) := g1
      have HM1 : Hid (mu cf 1 { E2 with at' := 0 } < f) := Nat.lt_of_lt_of_le g2 (by have := HMU.out; omega)
      clear g1 g2 HR2 HK3
      go_wp2_with fail
      go_step3
      exact ⟨by omega, f, by omega, ⟨_, _, _, _, _, _, _, _, _, _, _, _, _, _, _, _, _, _, _, _, _, _, _, _, _, _, _, _, _, _, _, _, _, _, _, _, _, _, _, _, _, _, _, _, _, _, _, _, rfl⟩, E2, HO2.out, HG1.out, HM1.out, HR3.out⟩
    · have HR3 : Hid (E2.workF mf cf f 4 = R) := HR2.out
      obtain ⟨g1, g2⟩ := HK3.out (by simp)
      have HG1 : Hid (Good cf K 4 E2) := g1
      have HM1 : Hid (mu cf 4 E2 < f) := Nat.lt_of_lt_of_le g2 (by have := HMU.out; omega)
      clear g1 g2 HR2 HK3
      go_wp2_with fail
      go_step3
      exact ⟨by omega, f, by omega, ⟨_, _, _, _, _, _, _, _, _, _, _, _, _, _, _, _, _, _, _, _, _, _, _, _, _, _, _, _, _, _, _, _, _, _, _, _, _, _, _, _, _, _, _, _, _, _, _, _, rfl⟩, E2, HO2.out, HG1.out, HM1.out, HR3.out⟩
    · have HR3 : Hid (E2.workF mf cf f 3 = R) := HR2.out
      obtain ⟨g1, g2⟩ := HK3.out (by simp)
      have HG1 : Hid (Good cf K 3 E2) := g1
      have HM1 : Hid (mu cf 3 E2 < f) := Nat.lt_of_lt_of_le g2 (by have := HMU.out; omega)
      clear g1 g2 HR2 HK3
      go_wp2_with fail
      refine wp_label ?_
      rename_i hK
      exact hK _ _ (H3.out N f _ _ (by omega) ⟨⟨_, _, _, _, _, _, _, _, _, _, _, _, _, _, _, _, _, _, _, _, _, _, _, _, _, _, _, _, _, _, _, _, _, _, _, _, _, _, _, _, _, _, _, _, _, _, _, _, rfl⟩, E2, HO2.out, HG1.out, HM1.out, HR3.out⟩)
  case s4 =>
    intro h0 N n a w' hn hJ
    obtain ⟨⟨u2, u3, u4, u5, u6, u7, u8, u9, u10, u11, u12, u13, u14, u15, u16, u17, u18, u19, u20, u21, u22, u23, u24, u25, u26, u27, u28, u29, u30, u31, u32, u33, u34, u35, u36, u37, u38, u39, u40, u41, u42, u43, u44, u45, u46, u47, u48, u49, rfl⟩, E', hO, hG, hmu, hR⟩ := hJ
    have hG1 : Good cf K 1 E' := hG
    have hmu1 : mu cf 1 E' < n := hmu
    obtain ⟨f, rfl⟩ : ∃ f, n = f + 1 := ⟨n - 1, by omega⟩
    have hR1 : E'.workF mf cf (f + 1) 1 = R := hR
    rw [workF_1] at hR1
    have hst : E'.state = 0 := by rcases hG1.run with e | e | e <;> first | exact e | omega
    have hale := hG1.iv.at'
    have hcl := HC.out.cmds
    have HO : Hid (Ok w b cf v E' w') := hO
    have m14 := hO.cell (k := 14) (fun _ => rfl)
    have m15 := hO.cell (k := 15) (fun _ => rfl)
    have f15 := hO.frz 15 (by omega)
    obtain ⟨ao, cp, hcm⟩ : ∃ ao cp, w'.cell? ⟨b, 12, none⟩ = some (.slice ao cf.cmds.length cp) := by
      obtain ⟨v1, a1, a2⟩ := hO
      obtain ⟨_, xs, own, _⟩ := a1.cm
      obtain ⟨ao, cp, e⟩ := own_form own
      exact ⟨ao, cp, by rw [a1.cell (k := 12) rfl, e]⟩
    have H0 : Hid _ := h0
    have HI : Hid (Iv cf K 81 E') := hG1.iv
    have HST : Hid (E'.state = 0) := hst
    by_cases hat : E'.at' = cf.cmds.length
    · have HR3 : Hid (E'.workF mf cf f 3 = R) := by rw [Hid, ← hR1, if_pos hat]
      have HM1 : Hid (mu cf 3 E' < f) := by
        rw [Hid]
        unfold mu at hmu1 ⊢
        simp at hmu1 ⊢
        omega
      have q1 : ((E'.at' : Int) == (cf.cmds.length : Int)) = true := by simp; omega
      have q2 : (E'.at' == cf.cmds.length) = true := by simp; omega
      clear hG hmu hmu1 hR hR1 hG1 hO hst h0 hat
      go_wp2_with fail
      go_region
      all_goals
        go_wp2_with fail
        go_step3
        exact ⟨by omega, f, by omega, ⟨_, _, _, _, _, _, _, _, _, _, _, _, _, _, _, _, _, _, _, _, _, _, _, _, _, _, _, _, _, _, _, _, _, _, _, _, _, _, _, _, _, _, _, _, _, _, _, _, rfl⟩, E', HO.out.drewN 1, good_3 HI.out, HM1.out, HR3.out⟩
    · have HR3 : Hid (({ E' with stage := 1 } : Ed).workF mf cf f 2 = R) := by rw [Hid, ← hR1, if_neg hat]
      have HG2 : Hid (Good cf K 2 { E' with stage := 1 }) := ⟨hG1.iv.upd E'.at' 1 E'.state E'.put hG1.iv.at', fun _ => by simp only; omega, fun _ => by simp, fun _ e => by simp at e, fun _ e => by simp at e, .inl hst⟩
      have HM1 : Hid (mu cf 2 { E' with stage := 1 } < f) := by
        rw [Hid]
        unfold mu at hmu1 ⊢
        have e1 : ({ E' with stage := 1 } : Ed).more = E'.more := rfl
        rw [e1]
        simp at hmu1 ⊢
        omega
      have q1 : ((E'.at' : Int) == (cf.cmds.length : Int)) = false := by simp; omega
      have q2 : (E'.at' == cf.cmds.length) = false := by simp; omega
      have HO3 : Hid (Ok w b cf v { E' with stage := 1 } ((w'.setCell ⟨b, 15, none⟩ (.int .i64 1)).drewN 1)) := (HO.out.put (E' := { E' with stage := 1 }) (fun v' h' => ⟨(Sole.refl _ _).setCell _ _, rput h'.row 15 _ (by omega) rfl⟩)).drewN 1
      clear hG hmu hmu1 hR hR1 hG1 hO hst h0 hat
      go_wp2_with fail
      go_region
      all_goals
        go_wp2_with fail
        refine wp_label ?_
        rename_i hK
        exact hK _ _ (H0.out N f _ _ (by omega) ⟨⟨_, _, _, _, _, _, _, _, _, _, _, _, _, _, _, _, _, _, _, _, _, _, _, _, _, _, _, _, _, _, _, _, _, _, _, _, _, _, _, _, _, _, _, _, _, _, _, _, rfl⟩, _, HO3.out, HG2.out, HM1.out, HR3.out⟩)
  case s2 =>
    intro h4 N n a w' hn hJ
    obtain ⟨⟨u2, u3, u4, u5, u6, u7, u8, u9, u10, u11, u12, u13, u14, u15, u16, u17, u18, u19, u20, u21, u22, u23, u24, u25, u26, u27, u28, u29, u30, u31, u32, u33, u34, u35, u36, u37, u38, u39, u40, u41, u42, u43, u44, u45, u46, u47, u48, u49, rfl⟩, E', hO, hG, hmu, hR⟩ := hJ
    have HG1 : Hid (Good cf K 1 { E' with at' := 0 }) := hG
    have HM1 : Hid (mu cf 1 { E' with at' := 0 } < n) := hmu
    have HR1 : Hid (({ E' with at' := 0 } : Ed).workF mf cf n 1 = R) := hR
    have m14 := hO.cell (k := 14) (fun _ => rfl)
    have f14 := hO.frz 14 (by omega)
    have HO3 : Hid (Ok w b cf v { E' with at' := 0 } (w'.setCell ⟨b, 14, none⟩ (.int .i64 0))) := hO.put (E' := { E' with at' := 0 }) (fun v' h' => ⟨(Sole.refl _ _).setCell _ _, rput h'.row 14 _ (by omega) rfl⟩)
    have H4 : Hid _ := h4
    clear hG hmu hR hO h4
    go_wp2_with fail
    refine wp_label ?_
    rename_i hK
    exact hK _ _ (H4.out N n _ _ hn ⟨⟨_, _, _, _, _, _, _, _, _, _, _, _, _, _, _, _, _, _, _, _, _, _, _, _, _, _, _, _, _, _, _, _, _, _, _, _, _, _, _, _, _, _, _, _, _, _, _, _, rfl⟩, _, HO3.out, HG1.out, HM1.out, HR1.out⟩)
  case s1 =>
    intro h2 N n a w' hn hJ
    obtain ⟨⟨u2, u3, u4, u5, u6, u7, u8, u9, u10, u11, u12, u13, u14, u15, u16, u17, u18, u19, u20, u21, u22, u23, u24, u25, u26, u27, u28, u29, u30, u31, u32, u33, u34, u35, u36, u37, u38, u39, u40, u41, u42, u43, u44, u45, u46, u47, u48, u49, rfl⟩, E', hO, hG, hmu, hR⟩ := hJ
    have hG0 : Good cf K 0 E' := hG
    have hmu0 : mu cf 0 E' < n := hmu
    obtain ⟨f, rfl⟩ : ∃ f, n = f + 1 := ⟨n - 1, by omega⟩
    have hR0 : E'.workF mf cf (f + 1) 0 = R := hR
    rw [workF_0] at hR0
    have hS := hG0.iv.sml HC.out hK
    have m15 := hO.cell (k := 15) (fun _ => rfl)
    have f15 := hO.frz 15 (by omega)
    have HO3 : Hid (Ok w b cf v { E' with stage := 0 } (w'.setCell ⟨b, 15, none⟩ (.int .i64 0))) := hO.put (E' := { E' with stage := 0 }) (fun v' h' => ⟨(Sole.refl _ _).setCell _ _, rput h'.row 15 _ (by omega) rfl⟩)
    obtain ⟨v1, hA1, hF1⟩ := HO3.out
    have hL := begin_any b cf { E' with stage := 0 } v1 _ hA1 (Nat.le_trans hS.number (by omega)) hS.next
    have HF1 : Hid (Fe b v v1 w (w'.setCell ⟨b, 15, none⟩ (.int .i64 0))) := hF1
    have hbg := begin_good HC.out hG0
    have HR0 : Hid _ := hR0
    have HBG : Hid _ := hbg
    have H2 : Hid _ := h2
    generalize ({ E' with stage := 0 } : Ed).begin cf = r at hL HR0 HBG
    have HMU : Hid (mu cf 0 E' < f + 1) := hmu0
    clear hG hmu hmu0 hR hR0 hG0 hO hS hA1 hF1 h2 hbg
    obtain ⟨E2, ok⟩ := r
    go_wp2_with fail
    refine hL.mono ?_
    rintro e w2 ⟨rfl, hO⟩
    have HO2 : Hid (Ok w b cf v E2 w2) := by
      obtain ⟨v2, a1, a2⟩ := hO
      exact ⟨v2, a1, HF1.out.trans a2⟩
    clear hL hO
    rcases bool_or ok with hk | hk <;> subst hk
    · have HR3 : Hid (({ E2 with at' := 0 } : Ed).workF mf cf f 1 = R) := HR0.out
      have hb2 : Good cf K 1 { E2 with at' := 0 } ∧ mu cf 1 { E2 with at' := 0 } < mu cf 0 E' := by
        rcases HBG.out with ⟨_, h1, h2⟩ | ⟨h1, _⟩
        · exact ⟨h1, h2⟩
        · cases h1
      have HG1 : Hid (Good cf K 1 { E2 with at' := 0 }) := hb2.1
      have HM1 : Hid (mu cf 1 { E2 with at' := 0 } < f) := Nat.lt_of_lt_of_le hb2.2 (by have := HMU.out; omega)
      clear hb2 HR0 HBG
      go_wp2_with fail
      refine wp_label ?_
      rename_i hK
      exact hK _ _ (H2.out N f _ _ (by omega) ⟨⟨_, _, _, _, _, _, _, _, _, _, _, _, _, _, _, _, _, _, _, _, _, _, _, _, _, _, _, _, _, _, _, _, _, _, _, _, _, _, _, _, _, _, _, _, _, _, _, _, rfl⟩, E2, HO2.out, HG1.out, HM1.out, HR3.out⟩)
    · have HR3 : Hid (E2 = R) := HR0.out
      clear HR0 HBG
      go_wp2_with fail
      refine bodyPost_ret (v := .tuple #[]) (by simp [results, Tryz.results50, go_sem]) rfl ⟨rfl, ?_⟩
      rw [← HR3.out]
      exact HO2.out
  case first =>
    intro h1
    have H1 : Hid _ := h1
    clear h1
    by_cases h0 : E.stage = 0
    · have HG0 : Hid (Good cf K 0 E) := by have := HG.out; rw [if_pos h0] at this; exact this
      have HR0 : Hid (E.workF mf cf 10000 0 = R) := by have := HR.out; rw [if_pos h0] at this; exact this
      rw [h0] at m15
      clear h0 HR HG
      go_wp2_with fail
      refine wp_label ?_
      rename_i hK
      exact hK _ _ (H1.out 10000 _ _ ⟨⟨_, _, _, _, _, _, _, _, _, _, _, _, _, _, _, _, _, _, _, _, _, _, _, _, _, _, _, _, _, _, _, _, _, _, _, _, _, _, _, _, _, _, _, _, _, _, _, _, rfl⟩, E, Ok.refl HA.out, HG0.out, mu_small (K := K) HC.out, HR0.out⟩)
    · have HG0 : Hid (Good cf K 2 E) := by have := HG.out; rw [if_neg h0] at this; exact this
      have HR0 : Hid (E.workF mf cf 10000 2 = R) := by have := HR.out; rw [if_neg h0] at this; exact this
      have q0 : ((E.stage : Int) == 0) = false := by simp; omega
      have q1 : ((E.stage : Int) != 0) = true := by simp; omega
      clear h0 HR HG
      go_wp2_with fail
      go_step3
      exact ⟨by omega, 10000, ⟨_, _, _, _, _, _, _, _, _, _, _, _, _, _, _, _, _, _, _, _, _, _, _, _, _, _, _, _, _, _, _, _, _, _, _, _, _, _, _, _, _, _, _, _, _, _, _, _, rfl⟩, E, Ok.refl HA.out, HG0.out, mu_small (K := K) HC.out, HR0.out⟩
end Ee
end Go.Proofs.YtppjlpihaocdiaaGreatDoor

/- A part of the proof. -/
set_option linter.unusedSimpArgs false
set_option linter.unusedVariables false
namespace Go.Proofs.YtppjlpihaocdiaaGreatDoor
namespace Ee
open Go.RowKit
open Rs (Cm Wh Pc)
theorem add_more (E : Ed) (c : UInt8) : (E.add c).more = true := by
  unfold Ed.add
  split
  · simp [Ed.more]
  · simp [Ed.more]
theorem add_iv {cf : Cf} {K k : Nat} {E : Ed} (h : Iv cf K k E) (c : UInt8) : Iv cf (K + 1) k (E.add c) := by
  have h1 := h.num
  have hn : E.number ≤ K := by omega
  unfold Ed.add
  split
  · exact ⟨h.pat, h.hold, h.com, h.opn, h.looked, h.at', by simp only; split <;> omega, by have := h.next; simp only; omega, h.pot, h.taken⟩
  · exact ⟨h.pat, h.hold, h.com, h.opn, h.looked, h.at', by simp only; split <;> omega, by have := h.next; simp only [List.length_append, List.length_singleton]; omega, h.pot, h.taken⟩
theorem add_fields (E : Ed) (c : UInt8) : (E.add c).stage = E.stage ∧ (E.add c).at' = E.at' ∧ (E.add c).state = E.state ∧ (E.add c).ended = E.ended := by
  unfold Ed.add
  split <;> exact ⟨rfl, rfl, rfl, rfl⟩
theorem takes_state {E : Ed} (h : E.takes = true) : E.state = 0 ∧ E.ended = false := by
  unfold Ed.takes at h
  simp at h
  exact h
theorem add_good {cf : Cf} {K : Nat} {E : Ed} (h : Rest cf K E) (ht : E.takes = true) (c : UInt8) : Good cf (K + 1) (if (E.add c).stage = 0 then 0 else 2) (E.add c) := by
  obtain ⟨hs, _⟩ := takes_state ht
  have hg := h.2 hs
  obtain ⟨a1, a2, a3, a4⟩ := add_fields E c
  rw [a1]
  refine ⟨by rw [a1]; exact add_iv hg.iv c, fun e => by rw [a2]; exact hg.lt e, fun e => by rw [a1]; exact hg.st e, fun e => by rw [a1, a2]; exact hg.rd e, fun _ _ => add_more E c, ?_⟩
  rw [a3]
  exact .inl hs
theorem end_good {cf : Cf} {K : Nat} {E : Ed} (h : Rest cf K E) (ht : E.takes = true) : Good cf K (if ({ E with ended := true } : Ed).stage = 0 then 0 else 2) { E with ended := true } := by
  obtain ⟨hs, _⟩ := takes_state ht
  have hg := h.2 hs
  exact ⟨⟨hg.iv.pat, hg.iv.hold, hg.iv.com, hg.iv.opn, hg.iv.looked, hg.iv.at', hg.iv.num, hg.iv.next, hg.iv.pot, hg.iv.taken⟩, hg.lt, hg.st, hg.rd, hg.mr, hg.run⟩
theorem Rest.more {cf : Cf} {K : Nat} {E : Ed} (h : Rest cf K E) : Rest cf (K + 1) E := by
  have up : ∀ {c : Nat}, Iv cf K c E → Iv cf (K + 1) c E := fun h => ⟨h.pat, h.hold, h.com, h.opn, h.looked, h.at', by have := h.num; omega, by have := h.next; omega, h.pot, h.taken⟩
  exact ⟨up h.1, fun hs => ⟨up (h.2 hs).iv, (h.2 hs).lt, (h.2 hs).st, (h.2 hs).rd, (h.2 hs).mr, (h.2 hs).run⟩⟩
theorem feed1_rest {mf : Mf} {cf : Cf} {K : Nat} {E : Ed} (hc : Cok cf) (hK : K + 1 ≤ 2000000) (h : Rest cf K E) (c : UInt8) : Rest cf (K + 1) (E.feed1 mf cf c) := by
  unfold Ed.feed1
  split
  · rename_i ht
    exact work_rest hc hK (add_good h ht c)
  · exact h.more
theorem feed_rest {mf : Mf} {cf : Cf} (hc : Cok cf) : ∀ (l : List UInt8) (K : Nat) (E : Ed), K + l.length ≤ 2000000 → Rest cf K E → Rest cf (K + l.length) (E.feed mf cf l)
  | [], K, E, _, h => h
  | c :: l, K, E, hK, h => by
    have := feed_rest (mf := mf) hc l (K + 1) (E.feed1 mf cf c) (by simp at hK; omega) (feed1_rest hc (by simp at hK; omega) h c)
    rw [List.length_cons, show K + (l.length + 1) = K + 1 + l.length by omega]
    exact this
theorem end_rest {mf : Mf} {cf : Cf} {K : Nat} {E : Ed} (hc : Cok cf) (hK : K ≤ 2000000) (h : Rest cf K E) : Rest cf K (E.endIt mf cf) := by
  unfold Ed.endIt
  split
  · rename_i ht
    exact work_rest hc hK (end_good h ht)
  · exact h
theorem feed_stop {mf : Mf} {cf : Cf} : ∀ (l : List UInt8) (E : Ed), E.takes = false → E.feed mf cf l = E
  | [], E, _ => rfl
  | c :: l, E, h => by
    have e : E.feed1 mf cf c = E := by unfold Ed.feed1; rw [if_neg (by rw [h]; simp)]
    show (E.feed1 mf cf c).feed mf cf l = E
    rw [e]
    exact feed_stop l E h
theorem feed_snoc (mf : Mf) (cf : Cf) (E : Ed) (l : List UInt8) (c : UInt8) : E.feed mf cf (l ++ [c]) = (E.feed mf cf l).feed1 mf cf c := by
  unfold Ed.feed
  rw [List.foldl_append]
  rfl
theorem feed_append (mf : Mf) (cf : Cf) (E : Ed) (l m : List UInt8) : E.feed mf cf (l ++ m) = (E.feed mf cf l).feed mf cf m := by
  unfold Ed.feed
  rw [List.foldl_append]
set_option maxRecDepth 100000 in
set_option maxHeartbeats 4000000 in
theorem feed_any (mf : Mf) (hm : MfOk mf) (b : Nat) (cf : Cf) (K : Nat) (E : Ed) (v : Ev) (s : ByteArray) (w : World) (h : At w b cf E v) (hc : Cok cf) (hK : K + s.size ≤ 2000000) (hr : Rest cf K E) :
    Calls Tryz.prog 29 #[.pointer (some ⟨b, 0, none⟩), .string s] w (WQ cf b (E.feed mf cf (row s)) w v) := by
  have HA : Hid (At w b cf E v) := h
  have HM : Hid (MfOk mf) := hm
  have HC : Hid (Cok cf) := hc
  have HR : Hid (Rest cf K E) := hr
  have HRL : Hid ((row s).length = s.size) := row_length s
  clear h hm hc hr
  go_enter Tryz.func29, Tryz.ntmps29
  go_wp2_with fail
  go_loopw [4] (fun x wr => ∃ (k : Nat), k ≤ s.size ∧ x = .int .i64 k ∧ Hid (Ok w b cf v (E.feed mf cf ((row s).take k)) wr) ∧ Hid (Rest cf (K + k) (E.feed mf cf ((row s).take k)))) (fun x _ => s.size + 1 - (intOf x).toNat)
  case atStart => exact ⟨0, by omega, rfl, Ok.refl HA.out, HR.out⟩
  case round =>
    obtain ⟨k, hk, rfl, HO, HRk⟩ := hrel
    by_cases hlt : k < s.size
    · have hkl : k < (row s).length := by rw [HRL.out]; exact hlt
      have HS : Hid (E.feed mf cf ((row s).take (k + 1)) = (E.feed mf cf ((row s).take k)).feed1 mf cf (s[k]'hlt)) := by
        rw [Hid, List.take_add_one, List.getElem?_eq_getElem hkl, Option.toList_some, feed_snoc]
        rfl
      have HALL : Hid (E.feed mf cf (row s) = (E.feed mf cf ((row s).take k)).feed mf cf ((row s).drop k)) := by rw [Hid, ← feed_append, List.take_append_drop]
      generalize E.feed mf cf ((row s).take k) = E1 at HO HRk HS HALL
      obtain ⟨v1, hA1, hF1⟩ := HO.out
      have HA1 : Hid (At wr b cf E1 v1) := hA1
      have HF1 : Hid (Fe b v v1 w wr) := hF1
      have hL := takes_any b cf E1 v1 wr hA1
      clear hA1 hF1 hkl
      rcases bool_or E1.takes with ht | ht
      · rw [ht] at hL
        have HT : Hid (E1.takes = true) := ht
        have hnl : E1.next.length ≤ 70368744177664 := by have := HRk.out.1.next; omega
        clear ht
        go_wp2_with fail
        refine hL.mono ?_
        rintro e w2 ⟨rfl, n, rfl⟩
        clear hL
        go_wp2_with fail
        go_region_with (first
          | (go_at_call 49; (have hL := radd_any b cf E1 v1 _ (s[k]'hlt) ((HA1.out.drewN n).drew) hnl; refine hL.mono ?_; rintro e w3 ⟨rfl, hO⟩; have HO3 : Hid (Ok w b cf v (E1.add (s[k]'hlt)) w3) := (by obtain ⟨v3, a1, a2⟩ := hO; exact ⟨v3, a1, HF1.out.trans ⟨a2.os, a2.tape, a2.output, a2.size, a2.block, a2.mine, a2.cm⟩⟩); clear hL hO)))
        all_goals
          have HGD : Hid (Good cf (K + k + 1) (if (E1.add (s[k]'hlt)).stage = 0 then 0 else 2) (E1.add (s[k]'hlt))) := add_good HRk.out HT.out _
          have HE1 : Hid (E1.feed1 mf cf (s[k]'hlt) = (E1.add (s[k]'hlt)).work mf cf) := by rw [Hid, Ed.feed1, if_pos HT.out]
          have HWR : Hid (Rest cf (K + (k + 1)) ((E1.add (s[k]'hlt)).work mf cf)) := work_rest HC.out (by omega) HGD.out
          obtain ⟨v3, hA3, hF3⟩ := HO3.out
          have hL := work_any mf HM.out b cf (K + k + 1) (E1.add (s[k]'hlt)) v3 w3 hA3 HC.out (by omega) HGD.out
          have HF3 : Hid (Fe b v v3 w w3) := hF3
          clear hA3 hF3
          go_wp2_with fail
          refine hL.mono ?_
          rintro e w4 ⟨rfl, hO⟩
          have HO4 : Hid (Ok w b cf v ((E1.add (s[k]'hlt)).work mf cf) w4) := by
            obtain ⟨v4, a1, a2⟩ := hO
            exact ⟨v4, a1, HF3.out.trans a2⟩
          clear hL hO
          go_wp2_with fail
          go_roundw
          case rel => exact ⟨k + 1, by omega, by go_num, by rw [HS.out, HE1.out]; exact HO4.out, by rw [HS.out, HE1.out]; exact HWR.out⟩
          case measure => simp [intOf]; omega
      · rw [ht] at hL
        have HT : Hid (E.feed mf cf (row s) = E1) := by rw [Hid, HALL.out, feed_stop _ _ ht]
        clear ht
        go_wp2_with fail
        refine hL.mono ?_
        rintro e w2 ⟨rfl, n, rfl⟩
        clear hL
        go_wp2_with fail
        refine bodyPost_end (v := .tuple #[]) (by simp [results, Tryz.results29, go_sem]) rfl ⟨rfl, ?_⟩
        rw [HT.out]
        exact ⟨v1, HA1.out.drewN n, HF1.out.drewN n⟩
    · have hkN : k = s.size := by omega
      have HE : Hid ((row s).take k = row s) := by rw [Hid, hkN, ← HRL.out]; exact List.take_length
      have HOE : Hid (Ok w b cf v (E.feed mf cf (row s)) wr) := by have := HO.out; rw [HE.out] at this; exact this
      clear hlt
      go_wp2_with fail
      exact bodyPost_end (v := .tuple #[]) (by simp [results, Tryz.results29, go_sem]) rfl ⟨rfl, HOE.out⟩
set_option maxRecDepth 100000 in
set_option maxHeartbeats 2000000 in
theorem end_any (mf : Mf) (hm : MfOk mf) (b : Nat) (cf : Cf) (K : Nat) (E : Ed) (v : Ev) (w : World) (h : At w b cf E v) (hc : Cok cf) (hK : K ≤ 2000000) (hr : Rest cf K E) :
    Calls Tryz.prog 32 #[.pointer (some ⟨b, 0, none⟩)] w (WQ cf b (E.endIt mf cf) w v) := by
  have HA : Hid (At w b cf E v) := h
  have HM : Hid (MfOk mf) := hm
  have HC : Hid (Cok cf) := hc
  have HR : Hid (Rest cf K E) := hr
  have m3 := h.cell (k := 3) rfl
  have f3 := h.frz 3 (by omega)
  have hL := takes_any b cf E v w h
  clear h hm hc hr
  rcases bool_or E.takes with ht | ht
  · rw [ht] at hL
    have HE : Hid (E.endIt mf cf = ({ E with ended := true } : Ed).work mf cf) := by rw [Hid, Ed.endIt, if_pos ht]
    have HG : Hid (Good cf K (if ({ E with ended := true } : Ed).stage = 0 then 0 else 2) { E with ended := true }) := end_good HR.out ht
    clear ht
    go_enter Tryz.func32, Tryz.ntmps32
    go_wp2_with fail
    refine hL.mono ?_
    rintro e w2 ⟨rfl, n, rfl⟩
    clear hL
    have HO : Hid (Ok w b cf v { E with ended := true } ((w.drewN n).setCell ⟨b, 3, none⟩ (.bool true))) := ((Ok.refl HA.out).drewN n).put (fun v' h' => ⟨(Sole.refl _ _).setCell _ _, rput h'.row 3 _ (by omega) rfl⟩)
    go_wp2_with fail
    obtain ⟨v3, hA3, hF3⟩ := HO.out
    have hL := work_any mf HM.out b cf K { E with ended := true } v3 _ hA3 HC.out hK HG.out
    have HF3 : Hid (Fe b v v3 w ((w.drewN n).setCell ⟨b, 3, none⟩ (.bool true))) := hF3
    clear hA3 hF3
    refine hL.mono ?_
    rintro e w4 ⟨rfl, hO⟩
    have HO4 : Hid (Ok w b cf v (({ E with ended := true } : Ed).work mf cf) w4) := by
      obtain ⟨v4, a1, a2⟩ := hO
      exact ⟨v4, a1, HF3.out.trans a2⟩
    clear hL hO
    go_wp2_with fail
    exact bodyPost_end (v := .tuple #[]) (by simp [results, Tryz.results32, go_sem]) rfl ⟨rfl, by rw [HE.out]; exact HO4.out⟩
  · rw [ht] at hL
    have HE : Hid (E.endIt mf cf = E) := by rw [Hid, Ed.endIt, if_neg (by rw [ht]; simp)]
    clear ht
    go_enter Tryz.func32, Tryz.ntmps32
    go_wp2_with fail
    refine hL.mono ?_
    rintro e w2 ⟨rfl, n, rfl⟩
    clear hL
    go_wp2_with fail
    exact bodyPost_end (v := .tuple #[]) (by simp [results, Tryz.results32, go_sem]) rfl ⟨rfl, by rw [HE.out]; exact (Ok.refl HA.out).drewN n⟩
set_option maxHeartbeats 1000000 in
theorem wready_any (b : Nat) (cf : Cf) (E : Ed) (v : Ev) (w : World) (h : At w b cf E v) (ht : E.taken ≤ E.out.length) (hl : E.out.length ≤ 70368744177664) :
    Calls Tryz.prog 51 #[.pointer (some ⟨b, 9, none⟩)] w (Says w (.int .i64 (E.ready : Int))) := by
  have m9 := h.cell (k := 9) rfl
  have m10 := h.cell (k := 10) rfl
  obtain ⟨ao, cap, e⟩ := own_form h.ot
  rw [e] at m9
  have HE : Hid ((E.ready : Int) = (E.out.length : Int) - (E.taken : Int)) := by rw [Hid, Ed.ready]; omega
  rw [HE.out]
  clear h e
  generalize E.out.length = n at *
  generalize E.taken = k at *
  go_enter Tryz.func51, Tryz.ntmps51
  go_wp2_with fail
  go_region
  all_goals go_wp2_with fail
  all_goals go_ret
  all_goals exact ⟨by go_num, 1, rfl⟩
set_option maxHeartbeats 1000000 in
theorem state_any (b : Nat) (cf : Cf) (E : Ed) (v : Ev) (w : World) (h : At w b cf E v) :
    Calls Tryz.prog 33 #[.pointer (some ⟨b, 0, none⟩)] w (Says w (.int .i64 (E.state : Int))) := by
  have m20 := h.cell (k := 20) rfl
  clear h
  go_enter Tryz.func33, Tryz.ntmps33
  go_wp2_with fail
  go_ret
  exact ⟨rfl, 0, rfl⟩
end Ee
end Go.Proofs.YtppjlpihaocdiaaGreatDoor

/- A part of the proof. -/
set_option linter.unusedSimpArgs false
set_option linter.unusedVariables false
namespace Go.Proofs.YtppjlpihaocdiaaGreatDoor
namespace Ee
open Rs (Cm Wh Pc)
def Ed.re (E : Ed) (o : List UInt8) (t : Nat) : Ed := { E with out := o, taken := t }
def Pu (f : Ed → Ed) : Prop := ∀ (E : Ed) (o : List UInt8) (t : Nat), ∃ d, (f E).out = E.out ++ d ∧ (f E).taken = E.taken ∧ f (E.re o t) = (f E).re (o ++ d) t
def PuN (f : Ed → Ed × Nat) : Prop := ∀ (E : Ed) (o : List UInt8) (t : Nat), ∃ d, (f E).1.out = E.out ++ d ∧ (f E).1.taken = E.taken ∧ f (E.re o t) = ((f E).1.re (o ++ d) t, (f E).2)
def PuB (f : Ed → Ed × Bool) : Prop := ∀ (E : Ed) (o : List UInt8) (t : Nat), ∃ d, (f E).1.out = E.out ++ d ∧ (f E).1.taken = E.taken ∧ f (E.re o t) = ((f E).1.re (o ++ d) t, (f E).2)
def PuO (f : Ed → Option Ed) : Prop := ∀ (E : Ed) (o : List UInt8) (t : Nat), (f E = none ∧ f (E.re o t) = none) ∨ ∃ E1 d, f E = some E1 ∧ E1.out = E.out ++ d ∧ E1.taken = E.taken ∧ f (E.re o t) = some (E1.re (o ++ d) t)
theorem pu_print (t : Ed → ByteArray) (ht : ∀ E o k, t (E.re o k) = t E) : Pu fun E => E.print (t E) := fun E o k => ⟨row (t E) ++ [10], by simp [Ed.print, List.append_assoc], rfl, by simp only [ht]; simp [Ed.print, Ed.re, List.append_assoc]⟩
theorem pu_comp {f g : Ed → Ed} (hf : Pu f) (hg : Pu g) : Pu fun E => g (f E) := fun E o t => by
  obtain ⟨d, h1, h2, h3⟩ := hf E o t
  obtain ⟨d', k1, k2, k3⟩ := hg (f E) (o ++ d) t
  exact ⟨d ++ d', by rw [k1, h1, List.append_assoc], by rw [k2, h2], by show g (f (E.re o t)) = (g (f E)).re _ t; rw [h3, k3, List.append_assoc]⟩
theorem pu_printSpace (cf : Cf) : Pu (Ed.printSpace cf) := fun E o t => by
  unfold Ed.printSpace
  split
  · exact ⟨[], by simp, rfl, by simp⟩
  · exact pu_print (fun E => E.pat) (fun _ _ _ => rfl) E o t
theorem pu_printAll : ∀ (l : List ByteArray), Pu fun E => E.printAll l
  | [] => fun E o t => ⟨[], by simp [Ed.printAll], rfl, by simp [Ed.printAll]⟩
  | x :: l => fun E o t => pu_comp (pu_print (fun _ => x) (fun _ _ _ => rfl)) (pu_printAll l) E o t
def clr (E : Ed) : Ed := { E with coming := [] }
theorem pu_printComing : Pu Ed.printComing := fun E o t => by
  obtain ⟨d, h1, h2, h3⟩ := pu_printAll E.coming E o t
  have e : ∀ X : Ed, X.printComing = clr (X.printAll X.coming) := fun _ => rfl
  have h3' : (E.re o t).printAll E.coming = (E.printAll E.coming).re (o ++ d) t := h3
  refine ⟨d, h1, h2, ?_⟩
  rw [e, e]
  show clr ((E.re o t).printAll E.coming) = _
  rw [h3']
  rfl
theorem pu_readBy (cf : Cf) (j : Bool) : PuB (Ed.readBy cf j) := fun E o t => by
  have e1 : (E.re o t).tooLong cf = E.tooLong cf := rfl
  have e2 : (E.re o t).next = E.next := rfl
  have ew : ∀ x, (E.re o t).read.way cf j x = (E.read.way cf j x).map (fun E => E.re o t) := fun x => by
    have eb : ∀ y, (E.re o t).read.become cf y = (E.read.become cf y).map (fun E => E.re o t) := fun y => by
      unfold Ed.become
      by_cases hq : cf.space < y.size
      · rw [if_pos hq, if_pos hq]; rfl
      · rw [if_neg hq, if_neg hq]; rfl
    unfold Ed.way Ed.grow
    split
    · exact eb _
    · exact eb _
  unfold Ed.readBy
  rw [e1, e2, ew]
  by_cases h : E.tooLong cf = true
  · rw [if_pos h, if_pos h]
    exact ⟨[], by simp, rfl, by simp [Ed.re]⟩
  · rw [if_neg h, if_neg h]
    cases hw : E.read.way cf j (txt E.next) with
    | none => exact ⟨[], by simp [Ed.read], rfl, by simp [Ed.re, Ed.read]⟩
    | some E1 =>
      obtain ⟨p, rfl, _⟩ := way_some hw
      exact ⟨[], by simp [Ed.read], rfl, by simp [Ed.re, Ed.read]⟩
theorem pu_begin (cf : Cf) : PuB (Ed.begin cf) := fun E o t => by
  have e1 : (E.re o t).atHand cf = E.atHand cf := rfl
  have e2 : (E.re o t).more = E.more := rfl
  unfold Ed.begin
  rw [e1, e2]
  split
  · split
    · exact pu_readBy cf false E o t
    · exact ⟨[], by simp, rfl, by simp [Ed.re]⟩
  · exact ⟨[], by simp, rfl, by simp [Ed.re]⟩
theorem re_selects (mf : Mf) (E : Ed) (x : Cm) (o : List UInt8) (t : Nat) : (E.re o t).selects mf x = ((E.selects mf x).1.re o t, (E.selects mf x).2) ∧ (E.selects mf x).1.out = E.out ∧ (E.selects mf x).1.taken = E.taken := by
  have em : ∀ w, (E.re o t).meets mf w = E.meets mf w := fun w => rfl
  have ec : ∀ w b, (E.re o t).closes mf w b = E.closes mf w b := fun w b => rfl
  unfold Ed.selects
  simp only [em, ec]
  split
  · exact ⟨rfl, rfl, rfl⟩
  · have e2 : (E.re o t).opn = E.opn := rfl
    have e3 : (E.re o t).at' = E.at' := rfl
    rw [e2, e3]
    split
    · exact ⟨rfl, rfl, rfl⟩
    · split
      · exact ⟨rfl, rfl, rfl⟩
      · exact ⟨rfl, rfl, rfl⟩
theorem puo_some {f : Ed → Ed} (h : Pu f) : PuO fun E => some (f E) := fun E o t => by
  obtain ⟨d, h1, h2, h3⟩ := h E o t
  exact .inr ⟨f E, d, rfl, h1, h2, by show some (f (E.re o t)) = _; rw [h3]⟩
theorem puo_become (cf : Cf) (f : Ed → ByteArray) (hf : ∀ E o t, f (E.re o t) = f E) : PuO fun E => E.become cf (f E) := fun E o t => by
  simp only [hf]
  unfold Ed.become
  split
  · exact .inl ⟨rfl, rfl⟩
  · exact .inr ⟨_, [], rfl, by simp, rfl, by simp [Ed.re]⟩
theorem puo_holds (cf : Cf) (f : Ed → ByteArray) (hf : ∀ E o t, f (E.re o t) = f E) : PuO fun E => E.holds cf (f E) := fun E o t => by
  simp only [hf]
  unfold Ed.holds
  split
  · exact .inl ⟨rfl, rfl⟩
  · exact .inr ⟨_, [], rfl, by simp, rfl, by simp [Ed.re]⟩
theorem puo_subst (mf : Mf) (cf : Cf) (x : Cm) : PuO fun E => E.subst mf cf x := fun E o t => by
  have ep : (E.re o t).pat = E.pat := rfl
  have eb : ∀ y, (E.re o t).become cf y = (E.become cf y).map (fun E => E.re o t) := fun y => by
    unfold Ed.become
    by_cases hq : cf.space < y.size
    · rw [if_pos hq, if_pos hq]; rfl
    · rw [if_neg hq, if_neg hq]; rfl
  unfold Ed.subst
  simp only [ep, eb]
  split
  · cases hb : E.become cf (repl mf x E.pat).1 with
    | none => exact .inl ⟨rfl, rfl⟩
    | some E1 =>
      obtain ⟨rfl, _⟩ := become_some hb
      simp only [Option.map_some]
      split
      · exact .inr ⟨_, row (repl mf x E.pat).1 ++ [10], rfl, by simp [Ed.print, List.append_assoc], rfl, by simp [Ed.print, Ed.re, List.append_assoc]⟩
      · exact .inr ⟨_, [], rfl, by simp, rfl, by simp [Ed.re]⟩
  · exact .inr ⟨E, [], rfl, by simp, rfl, by simp [Ed.re]⟩
theorem puo_edit (mf : Mf) (cf : Cf) (x : Cm) : PuO fun E => E.edit mf cf x := by
  have h5 := puo_some (pu_print (fun E => E.pat) (fun _ _ _ => rfl))
  have h6 := puo_some (pu_print (fun E => firstLine E.pat) (fun _ _ _ => rfl))
  have h12 := puo_some (pu_print (fun E => itoa E.number) (fun _ _ _ => rfl))
  have h15 := puo_some (pu_print (fun _ => x.text) (fun _ _ _ => rfl))
  have pl : ∀ (f : Ed → Ed), (∀ E o t, f (E.re o t) = (f E).re o t) → (∀ E, (f E).out = E.out ∧ (f E).taken = E.taken) → PuO fun E => some (f E) := fun f hf hg E o t => .inr ⟨f E, [], rfl, by simp [(hg E).1], (hg E).2, by simp [hf]⟩
  intro E o t
  by_cases k5 : x.kind = 5
  · have e : ∀ E : Ed, E.edit mf cf x = some (E.print E.pat) := fun E => by rw [Ed.edit, if_pos k5]
    simp only [e]; exact h5 E o t
  by_cases k6 : x.kind = 6
  · have e : ∀ E : Ed, E.edit mf cf x = some (E.print (firstLine E.pat)) := fun E => by rw [Ed.edit, if_neg k5, if_pos k6]
    simp only [e]; exact h6 E o t
  by_cases k12 : x.kind = 12
  · have e : ∀ E : Ed, E.edit mf cf x = some (E.print (itoa E.number)) := fun E => by rw [Ed.edit, if_neg k5, if_neg k6, if_pos k12]
    simp only [e]; exact h12 E o t
  by_cases k14 : x.kind = 14
  · have e : ∀ E : Ed, E.edit mf cf x = some { E with coming := E.coming ++ [x.text] } := fun E => by rw [Ed.edit, if_neg k5, if_neg k6, if_neg k12, if_pos k14]
    simp only [e]; exact pl (fun E => { E with coming := E.coming ++ [x.text] }) (fun _ _ _ => rfl) (fun _ => ⟨rfl, rfl⟩) E o t
  by_cases k15 : x.kind = 15
  · have e : ∀ E : Ed, E.edit mf cf x = some (E.print x.text) := fun E => by rw [Ed.edit, if_neg k5, if_neg k6, if_neg k12, if_neg k14, if_pos k15]
    simp only [e]; exact h15 E o t
  by_cases k7 : x.kind = 7
  · have e : ∀ E : Ed, E.edit mf cf x = E.become cf E.hold := fun E => by rw [Ed.edit, if_neg k5, if_neg k6, if_neg k12, if_neg k14, if_neg k15, if_pos k7]
    simp only [e]; exact puo_become cf (fun E => E.hold) (fun _ _ _ => rfl) E o t
  by_cases k8 : x.kind = 8
  · have e : ∀ E : Ed, E.edit mf cf x = E.become cf (E.pat ++ newline ++ E.hold) := fun E => by rw [Ed.edit, if_neg k5, if_neg k6, if_neg k12, if_neg k14, if_neg k15, if_neg k7, if_pos k8]; rfl
    simp only [e]; exact puo_become cf (fun E => E.pat ++ newline ++ E.hold) (fun _ _ _ => rfl) E o t
  by_cases k9 : x.kind = 9
  · have e : ∀ E : Ed, E.edit mf cf x = E.holds cf E.pat := fun E => by rw [Ed.edit, if_neg k5, if_neg k6, if_neg k12, if_neg k14, if_neg k15, if_neg k7, if_neg k8, if_pos k9]
    simp only [e]; exact puo_holds cf (fun E => E.pat) (fun _ _ _ => rfl) E o t
  by_cases k10 : x.kind = 10
  · have e : ∀ E : Ed, E.edit mf cf x = E.holds cf (E.hold ++ newline ++ E.pat) := fun E => by rw [Ed.edit, if_neg k5, if_neg k6, if_neg k12, if_neg k14, if_neg k15, if_neg k7, if_neg k8, if_neg k9, if_pos k10]
    simp only [e]; exact puo_holds cf (fun E => E.hold ++ newline ++ E.pat) (fun _ _ _ => rfl) E o t
  by_cases k11 : x.kind = 11
  · have e : ∀ E : Ed, E.edit mf cf x = some { E with pat := E.hold, hold := E.pat } := fun E => by rw [Ed.edit, if_neg k5, if_neg k6, if_neg k12, if_neg k14, if_neg k15, if_neg k7, if_neg k8, if_neg k9, if_neg k10, if_pos k11]
    simp only [e]; exact pl (fun E => { E with pat := E.hold, hold := E.pat }) (fun _ _ _ => rfl) (fun _ => ⟨rfl, rfl⟩) E o t
  by_cases k19 : x.kind = 19
  · have e : ∀ E : Ed, E.edit mf cf x = E.subst mf cf x := fun E => by rw [Ed.edit, if_neg k5, if_neg k6, if_neg k12, if_neg k14, if_neg k15, if_neg k7, if_neg k8, if_neg k9, if_neg k10, if_neg k11, if_pos k19]
    simp only [e]; exact puo_subst mf cf x E o t
  by_cases k20 : x.kind = 20
  · have e : ∀ E : Ed, E.edit mf cf x = some { E with pat := trans x.frm x.too E.pat } := fun E => by rw [Ed.edit, if_neg k5, if_neg k6, if_neg k12, if_neg k14, if_neg k15, if_neg k7, if_neg k8, if_neg k9, if_neg k10, if_neg k11, if_neg k19, if_pos k20]
    simp only [e]; exact pl (fun E => { E with pat := trans x.frm x.too E.pat }) (fun _ _ _ => rfl) (fun _ => ⟨rfl, rfl⟩) E o t
  have e : ∀ E : Ed, E.edit mf cf x = some E := fun E => by rw [Ed.edit, if_neg k5, if_neg k6, if_neg k12, if_neg k14, if_neg k15, if_neg k7, if_neg k8, if_neg k9, if_neg k10, if_neg k11, if_neg k19, if_neg k20]
  simp only [e]; exact pl (fun E => E) (fun _ _ _ => rfl) (fun _ => ⟨rfl, rfl⟩) E o t
end Ee
end Go.Proofs.YtppjlpihaocdiaaGreatDoor

