/- The document's gives: a repetition. -/
import Derived.Test.YtppjlpihaocdiaaDgCJ
set_option linter.unusedSimpArgs false
set_option linter.unusedVariables false
namespace Go.Proofs.Ytppjlpihaocdiaa
namespace Dg
open Go.RowKit

attribute [local go_sem ↓] L66_eq S66_eq L73_eq S73_eq IX_eq Go.wp_at_zero Go.wp_at_succ

/-- While a repetition is given: dn times so far, from place a on the rest. -/
structure Rt (w wr : World) (p : Fp) (ob : Option Nat) (n i j : Nat) (c : Caps) (d : Nd) (ao : Option Addr) (cc x dn a : Nat) (c' : Caps) (f : Nat) : Prop where
  gl : Gl w wr p ob c' d ao cc
  cl : c'.length = c.length
  ia : i ≤ a
  aj : a ≤ j
  dl : dn ≤ d.lo + a
  tr : TimesR (Mat p.s p.nodes x) d.lo d.hi dn (fun k => k = a) j
  fu : (d.lo - dn) + (j - a) < f
  gq : ∀ c'', repG (Mat p.s p.nodes) (Gq p.s p.nodes) x d.lo d.hi f dn a j c' c'' → Gq p.s p.nodes n i j c c''

theorem TimesR_at {R : Nat → Nat → Prop} {lo k0 t j : Nat} {hi : Int} : TimesR R lo hi k0 (fun i => decide (i = t) = true) j ↔ TimesR R lo hi k0 (fun k => k = t) j := by
  constructor
  · rintro ⟨i, m, q, h, r⟩
    exact ⟨i, m, q, by simpa using h, r⟩
  · rintro ⟨i, m, q, h, r⟩
    exact ⟨i, m, q, by simpa using h, r⟩

set_option maxRecDepth 100000 in
set_option maxHeartbeats 8000000 in
theorem gives_times (p : Fp) (n : Nat) (d : Nd) (hd : p.nodes[n]? = some d) (h0 : d.kind = 6) (h3 : ∀ (n : Nat) (d : Nd), p.nodes[n]? = some d → d.kind = 3 → d.subs ≠ []) (x : Nat) (hx0 : d.subs[0]? = some x) (hsf : x < p.nodes.length ∧ FromAt p x ∧ GivesAt p x) (hok : NdOk d) (hlo9 : d.lo ≤ 900) : GivesAt p n := by
  intro w i j c ob hG hcl hij hj hM
  have HG : Hid (Gs w w p ob c) := hG
  have hI := hG.fd
  have HWF : Hid (Wf p.nodes) := hI.wf
  have hn : n < p.nodes.length := by
    rcases Nat.lt_or_ge n p.nodes.length with h | h
    · exact h
    · rw [List.getElem?_eq_none h] at hd; cases hd
  have hmany := hI.tree.many
  have hs80 := hI.s80
  obtain ⟨ao, cc, hnd, hsub⟩ := hI.tree.node n d hd
  have HND : Hid (w.rangeAt p.nb (n * 261) (ndL d (.slice ao d.subs.length cc))) := hnd
  have HSA : Hid (SubsAt w p.N0 d ao) := hsub
  obtain ⟨cap, t0⟩ := hI.tree.c0
  have f0 := hI.c0
  have k1 : (0 : Int) ≤ (n : Int) := by omega
  have k2 : (n : Int) < (p.nodes.length : Int) := by omega
  have q3 : (d.kind : Int) = 6 := by omega
  have hgD : d.subs.getD 0 0 = x := by rw [List.getD_eq_getElem?_getD, hx0]; rfl
  have HQ : Hid (∀ c', repG (Mat p.s p.nodes) (Gq p.s p.nodes) x d.lo d.hi (d.lo + p.s.size + 1) 0 i j c c' → Gq p.s p.nodes n i j c c') := by
    intro c' h
    rw [Gq_eq hI.wf h3 hd, if_neg (by omega), if_neg (by omega), if_neg (by omega), if_pos h0, hgD]
    exact h
  have HM : Hid (TimesR (Mat p.s p.nodes x) d.lo d.hi 0 (fun k => k = i) j) := by
    rw [Mat_eq hI.wf hd, if_neg (by omega), if_neg (by omega), if_neg (by omega), if_neg (by omega), if_pos h0, hgD] at hM
    exact hM.toR
  have HXM : Hid (x < p.nodes.length ∧ FromAt p x ∧ GivesAt p x) := hsf
  have HX : Hid (d.subs[0]? = some x) := hx0
  have HOK : Hid (NdOk d) := hok
  have hsl1 : (0 : Int) < (d.subs.length : Int) := by
    have := (List.getElem?_eq_some_iff.1 hx0).1
    omega
  have kj : (0 : Int) ≤ (j : Int) := by omega
  have kj2 : (j : Int) < 82 := by omega
  clear hG hI hnd hsub hd h0 hM h3 hsf hx0 hgD hok
  go_enter Try.func62, Try.ntmps62
  go_wp2_with (first
    | (refine wpList_load_mid rfl 140 (.tmp 25) rfl p.nb (n * 261) rfl (ndL d (.slice ao d.subs.length cc)) _ HND.out Try.underlying140 rfl (Try.size140 _ _) ?_)
    | (refine wpList_alloc_row 8 rfl rfl 140 rfl _ Try.info140 ?_; intro w3 h3 hR3 hB3; have HR3 : Hid (Row w3 w.heap.size (ndL ⟨0, fun _ => false, [], 0, 0, 0⟩ (.slice none 0 0))) := hR3; have HB3 : Hid (Below w.heap.size w w3) := hB3; clear hR3 hB3)
    | (refine wpList_store_row rfl 140 (.tmp 8) (.tmp 26) rfl _ rfl _ rfl _ HR3.out (by rw [ndL_length, ndL_length]) (Try.size140 _ _) (ndL_one _ _ _ _) ?_; intro w4 hR4 hS4; have hL := Gl.start HG.out HB3.out hS4 hR4 HSA.out; have HL : Hid (Gl w w4 p ob c d ao cc) := hL; have n0 := hL.nd.kind; clear hR4 hS4 hL f0 t0))
  clear n0
  go_loopw [2, 14] (fun v2 v wr => ∃ (dn a : Nat) (c' : Caps) (f : Nat), v = .int .i64 dn ∧ v2 = .int .i64 a ∧ Rt w wr p ob n i j c d ao cc x dn a c' f) (fun v2 v _ => (d.lo - (intOf v).toNat) + (j - (intOf v2).toNat))
  case atStart => exact ⟨0, i, c, d.lo + p.s.size + 1, rfl, rfl, ⟨HL.out, rfl, Nat.le_refl _, hij, by omega, HM.out, by omega, HQ.out⟩⟩
  case round =>
    obtain ⟨dn, a, c', f, rfl, rfl, hLr⟩ := hrel
    have HLr : Hid (Rt w wr p ob n i j c d ao cc x dn a c' f) := hLr
    have n257 := hLr.gl.nd.subs
    have n259 := hLr.gl.nd.cell (k := 259) (ndL_tail d _ 2)
    have haj := hLr.aj
    have hdl := hLr.dl
    by_cases hgo : a < j ∨ dn < d.lo
    · obtain ⟨sb, hao, hsb, hcx⟩ := hLr.gl.sa 0 x HX.out
      subst hao
      have HGO : Hid (a < j ∨ dn < d.lo) := hgo
      have HCH : Hid (∃ t, a ≤ t ∧ t ≤ j ∧ Mat p.s p.nodes x a t ∧ TimesR (Mat p.s p.nodes x) d.lo d.hi (dn + 1) (fun k => k = t) j ∧ (dn < d.lo ∨ a < t)) := times_step (L := p.s.size) (Mat_stays p.s HWF.out (x + 1) x (by omega)) (by omega) hLr.tr hgo
      have hcase : (a < j) ∨ (¬ a < j ∧ dn < d.lo) := by omega
      clear hLr HL HG hgo
      rcases hcase with hcs | hcs
      · have hda : decide ((a : Int) < (j : Int)) = true := by simp; omega
        go_wp2_with fail
        refine (HXM.out.2.1 _ a HLr.out.gl.gs.fd (by omega)).mono ?_
        rintro e w5 ⟨f5, rfl, hS5, hF5, hM5⟩
        have HL5 : Hid (Gl w w5 p ob c' d (some ⟨sb, 0, none⟩) cc) := HLr.out.gl.fm hF5 hM5
        have HS5 : Hid (Says f5 (Mat p.s p.nodes x a)) := hS5
        have hl5 := HL5.out.lt
        clear hS5 hF5 hM5 n257 hcx n259
        go_wp2_with (first
            | (refine wpList_alloc_row 15 rfl rfl 114 rfl _ Try.info114 ?_; intro w6 h6 hR6 hB6; have HR6 : Hid (Row w6 w5.heap.size (endsL fun _ => false)) := hR6; have HB6 : Hid (Below w5.heap.size w5 w6) := hB6; clear hR6 hB6)
            | (refine wpList_store_row rfl 114 (.tmp 15) (.tmp 147) rfl _ rfl _ rfl _ HR6.out (by rw [endsL_length, endsL_length]) (Try.size114 _) (endsL_one _) ?_; intro w7 hR7 hS7; have HL7 : Hid (Gl w w7 p ob c' d (some ⟨sb, 0, none⟩) cc) := (HL5.out.grow HB6.out).sole hS7 hl5; have HE7 : Hid (Row w7 w5.heap.size (endsL f5)) := hR7; clear hR7 hS7))
        generalize w5.heap.size = E at HE7 hl5 h6 ⊢
        clear hda
        go_loopw [16] (fun v wx => ∃ t : Nat, v = .int .i64 t ∧ a ≤ t ∧ t ≤ j ∧ Gl w wx p ob c' d (some ⟨sb, 0, none⟩) cc ∧ Row wx E (endsL f5) ∧ Hid (∀ u, t < u → u ≤ j → ¬ (Mat p.s p.nodes x a u ∧ TimesR (Mat p.s p.nodes x) d.lo d.hi (dn + 1) (fun k => k = u) j))) (fun v _ => (intOf v).toNat)
        case atStart => exact ⟨j, rfl, haj, Nat.le_refl _, HL7.out, HE7.out, fun u h1 h2 => by omega⟩
        case round =>
          obtain ⟨t, rfl, hat, htj, hGl, hE, HNo⟩ := hrel
          have HGl : Hid (Gl w wr p ob c' d (some ⟨sb, 0, none⟩) cc) := hGl
          have HE : Hid (Row wr E (endsL f5)) := hE
          have kt : (0 : Int) ≤ (t : Int) := by omega
          have kt2 : (t : Int) < 82 := by omega
          have hGlt := hGl.lt
          have hElt := hE.lt (by rw [endsL_length]; omega)
          clear hGl HL7 HE7 h6
          by_cases hta : a < t
          · have hd1 : decide ((a : Int) < (t : Int)) = true := by simp; omega
            have ct := hE.cell (endsL_at f5 (k := t) (by omega))
            rcases bool_or (f5 t) with hft | hft
            · have HFT : Hid (f5 t = true) := hft
              have HMt : Hid (Mat p.s p.nodes x a t) := (HS5.out t (by omega)).1 hft
              rw [hft] at ct
              clear hft hE
              have HGd : Hid (Gl w wr.drew p ob c' d (some ⟨sb, 0, none⟩) cc) := HGl.out.grow (Below.refl _ _).drew
              have HEd : Hid (Row wr.drew E (endsL f5)) := HE.out.drew
              have hl73 := run_L73 HGd.out.nd
              have HAI : Hid (∀ q, (fun q => decide (q = t)) q = true → q ≤ p.s.size) := fun q hq => by
                have : q = t := by simpa using hq
                omega
              have hszd : Hid (wr.drew.heap.size = wr.heap.size) := rfl
              go_wp2_with fail
              have HWR : Hid (IntKind.i64.wrap ((dn : Int) + 1) = ((dn + 1 : Nat) : Int)) := by rw [Hid, IntWalk.i64_in _ (by omega)]; omega
              have hSd : wr.drew.cell? ⟨E, t, none⟩ = some (.bool true) ∧ (L73 (.pointer (some ⟨w.heap.size, 0, none⟩))).run Try.prog wr.drew = .ok (.agg (ndL d (.slice (some ⟨sb, 0, none⟩) d.subs.length cc)).toArray) wr.drew := ⟨ct, hl73⟩
              go_region_held3 (fun W => W.cell? ⟨E, t, none⟩ = some (.bool true) ∧ (L73 (.pointer (some ⟨w.heap.size, 0, none⟩))).run Try.prog W = .ok (.agg (ndL d (.slice (some ⟨sb, 0, none⟩) d.subs.length cc)).toArray) W) (first | exact hSd | exact hS8 | exact hS9)
                (first
                  | (go_at_call 86; have hcA := donly_any t wr.drew (by omega); refine hcA.mono ?_; clear hcA; rintro e w8 ⟨rfl, hB8⟩; have HB8 : Hid (Below wr.drew.heap.size wr.drew w8) := hB8; have hS8 : w8.cell? ⟨E, t, none⟩ = some (.bool true) ∧ (L73 (.pointer (some ⟨w.heap.size, 0, none⟩))).run Try.prog w8 = .ok (.agg (ndL d (.slice (some ⟨sb, 0, none⟩) d.subs.length cc)).toArray) w8 := ⟨(hB8.cell (p := ⟨E, t, none⟩) hElt).trans hSd.1, run_L73 (HGd.out.nd.below hB8 HGd.out.lt)⟩; clear hB8)
                  | (go_at_call 87; have hcB := times_any p d (some ⟨sb, 0, none⟩) cc x HX.out ⟨HXM.out.1, HXM.out.2.1⟩ (fun q => decide (q = t)) (dn + 1) w8 (HGd.out.grow HB8.out).gs.fd (HGd.out.grow HB8.out).sa HOK.out.subs HOK.out.lo HOK.out.hi (by omega) HAI.out; rw [HWR.out]; refine hcB.mono ?_; clear hcB; rintro e w9 ⟨f9, rfl, hS9', hFi9, hFm9⟩; have hix := fun ww => run_IX f9 j (by omega) ww; have HS9 : Hid (f9 j = true ↔ TimesR (Mat p.s p.nodes x) d.lo d.hi (dn + 1) (fun k => k = t) j) := (hS9' j (by omega)).trans TimesR_at; have HG9 : Hid (Gl w w9 p ob c' d (some ⟨sb, 0, none⟩) cc) := (HGd.out.grow HB8.out).fm hFi9 hFm9; have HE9 : Hid (Row w9 E (endsL f5)) := (HEd.out.below HB8.out (by rw [hszd.out]; exact hElt)).fm hFm9 (by have := HB8.out.size; rw [hszd.out] at this; omega) (by have := HGl.out.kl; omega) (by have := HGl.out.el; omega); have hS9 : w9.cell? ⟨E, t, none⟩ = some (.bool true) ∧ (L73 (.pointer (some ⟨w.heap.size, 0, none⟩))).run Try.prog w9 = .ok (.agg (ndL d (.slice (some ⟨sb, 0, none⟩) d.subs.length cc)).toArray) w9 := ⟨(by have := HE9.out.cell (endsL_at f5 (k := t) (by omega)); rw [HFT.out] at this; exact this), run_L73 HG9.out.nd⟩; clear hS9' hFi9 hFm9))
              clear hl73 ct hSd hS8 hS9
              rcases bool_or (f9 j) with hf9 | hf9
              · have HCt : Hid (TimesR (Mat p.s p.nodes x) d.lo d.hi (dn + 1) (fun k => k = t) j) := HS9.out.1 hf9
                have HT : Hid (Top (fun t => Mat p.s p.nodes x a t ∧ TimesR (Mat p.s p.nodes x) d.lo d.hi (dn + 1) (fun k => k = t) j) a j t) := Top.of hat htj HNo.out (.inr ⟨HMt.out, HCt.out⟩)
                rw [hf9] at hix ⊢
                clear hf9 hix
                have HPt : Hid (Mat p.s p.nodes x a t ∧ TimesR (Mat p.s p.nodes x) d.lo d.hi (dn + 1) (fun k => k = t) j) := HT.out.holds ⟨HCH.out.choose, HCH.out.choose_spec.1, HCH.out.choose_spec.2.1, HCH.out.choose_spec.2.2.1, HCH.out.choose_spec.2.2.2.1⟩
                have HPg : Hid (dn < d.lo ∨ a < t) := by
                  obtain ⟨u, u1, u2, u3, u4, u5⟩ := HCH.out
                  rcases u5 with u5 | u5
                  · exact .inl u5
                  · right
                    rcases Nat.lt_or_ge a t with h | h
                    · exact h
                    · exact absurd ⟨u3, u4⟩ (HT.out.2.2.1 u (by omega) u2)
                have n257 := HG9.out.nd.subs
                obtain ⟨sb2, hao2, hsb2, hcx2⟩ := HG9.out.sa 0 x HX.out
                cases hao2
                go_wp2_with fail
                refine (HXM.out.2.2 _ a t c' ob HG9.out.gs.base (by rw [HLr.out.cl]; exact hcl) hat (by omega) HPt.out.1).mono ?_
                rintro e w10 ⟨rfl, c10, hg10, hl10, hG10⟩
                have HR10 : Hid (Rt w w10 p ob n i j c d (some ⟨sb, 0, none⟩) cc x (dn + 1) t c10 (f - 1)) := ⟨HG9.out.call hG10, by rw [hl10]; exact HLr.out.cl, by have := HLr.out.ia; omega, htj, by have := HLr.out.dl; have := HPg.out; omega, HPt.out.2, by have := HLr.out.fu; have := HPg.out; omega, fun c'' h => HLr.out.gq c'' (by rw [show f = (f - 1) + 1 by have := HLr.out.fu; omega]; exact repG_step HGO.out HT.out hg10 h)⟩
                have hPg := HPg.out
                clear hg10 hl10 hG10 n257 hcx2
                go_wp2_with fail
                go_roundw
                case rel => exact ⟨dn + 1, t, c10, f - 1, by go_num, rfl, HR10.out⟩
                case measure => simp [intOf]; omega
              · have HCt : Hid (¬ TimesR (Mat p.s p.nodes x) d.lo d.hi (dn + 1) (fun k => k = t) j) := fun h => by rw [HS9.out.2 h] at hf9; cases hf9
                rw [hf9] at hix ⊢
                clear hf9 hix
                go_wp2_with fail
                go_roundw
                case rel => exact ⟨t - 1, by rw [Int.ofNat_sub (by omega)]; rfl, by omega, by omega, HG9.out, HE9.out, fun u h1 h2 => by
                  by_cases e : u = t
                  · subst e; exact fun h => HCt.out h.2
                  · exact HNo.out u (by omega) h2⟩
                case measure => simp [intOf]; omega
            · have HFT : Hid (¬ Mat p.s p.nodes x a t) := fun h => by rw [(HS5.out t (by omega)).2 h] at hft; cases hft
              rw [hft] at ct
              clear hft hE
              go_wp2_with fail
              go_quiet (fail)
              go_wp2_with fail
              go_roundw
              case rel => exact ⟨t - 1, by rw [Int.ofNat_sub (by omega)]; rfl, by omega, by omega, HGl.out.grow ⟨rfl, rfl, rfl, Nat.le_refl _, fun _ _ => rfl⟩, HE.out.of_block rfl, fun u h1 h2 => by
                by_cases e : u = t
                · subst e; exact fun h => HFT.out h.1
                · exact HNo.out u (by omega) h2⟩
              case measure => simp [intOf]; omega
          · have hd1 : decide ((a : Int) < (t : Int)) = false := by simp; omega
            have hd2 : decide (a < t) = false := by simp; omega
            have hte : t = a := by omega
            have HT : Hid (Top (fun t => Mat p.s p.nodes x a t ∧ TimesR (Mat p.s p.nodes x) d.lo d.hi (dn + 1) (fun k => k = t) j) a j t) := Top.of hat htj HNo.out (.inl hte)
            clear hE hte
            go_wp2_with fail
            go_quiet (fail)
            have HG9 : Hid (Gl w (wr.drewN nq) p ob c' d (some ⟨sb, 0, none⟩) cc) := HGl.out.grow ⟨rfl, rfl, rfl, Nat.le_refl _, fun _ _ => rfl⟩
            generalize wr.drewN nq = w9 at HG9 ⊢
            clear hd1 hd2
            have HPt : Hid (Mat p.s p.nodes x a t ∧ TimesR (Mat p.s p.nodes x) d.lo d.hi (dn + 1) (fun k => k = t) j) := HT.out.holds ⟨HCH.out.choose, HCH.out.choose_spec.1, HCH.out.choose_spec.2.1, HCH.out.choose_spec.2.2.1, HCH.out.choose_spec.2.2.2.1⟩
            have HPg : Hid (dn < d.lo ∨ a < t) := by
              obtain ⟨u, u1, u2, u3, u4, u5⟩ := HCH.out
              rcases u5 with u5 | u5
              · exact .inl u5
              · right
                rcases Nat.lt_or_ge a t with h | h
                · exact h
                · exact absurd ⟨u3, u4⟩ (HT.out.2.2.1 u (by omega) u2)
            have n257 := HG9.out.nd.subs
            obtain ⟨sb2, hao2, hsb2, hcx2⟩ := HG9.out.sa 0 x HX.out
            cases hao2
            go_wp2_with fail
            refine (HXM.out.2.2 _ a t c' ob HG9.out.gs.base (by rw [HLr.out.cl]; exact hcl) hat (by omega) HPt.out.1).mono ?_
            rintro e w10 ⟨rfl, c10, hg10, hl10, hG10⟩
            have HR10 : Hid (Rt w w10 p ob n i j c d (some ⟨sb, 0, none⟩) cc x (dn + 1) t c10 (f - 1)) := ⟨HG9.out.call hG10, by rw [hl10]; exact HLr.out.cl, by have := HLr.out.ia; omega, htj, by have := HLr.out.dl; have := HPg.out; omega, HPt.out.2, by have := HLr.out.fu; have := HPg.out; omega, fun c'' h => HLr.out.gq c'' (by rw [show f = (f - 1) + 1 by have := HLr.out.fu; omega]; exact repG_step HGO.out HT.out hg10 h)⟩
            have hPg := HPg.out
            clear hg10 hl10 hG10 n257 hcx2
            go_wp2_with fail
            go_roundw
            case rel => exact ⟨dn + 1, t, c10, f - 1, by go_num, rfl, HR10.out⟩
            case measure => simp [intOf]; omega
      · have hda : decide ((a : Int) < (j : Int)) = false := by simp; omega
        have hda2 : decide (a < j) = false := by simp; omega
        have hdn : decide ((dn : Int) < (d.lo : Int)) = true := by simp; omega
        go_wp2_with fail
        refine (HXM.out.2.1 _ a HLr.out.gl.gs.fd (by omega)).mono ?_
        rintro e w5 ⟨f5, rfl, hS5, hF5, hM5⟩
        have HL5 : Hid (Gl w w5 p ob c' d (some ⟨sb, 0, none⟩) cc) := HLr.out.gl.fm hF5 hM5
        have HS5 : Hid (Says f5 (Mat p.s p.nodes x a)) := hS5
        have hl5 := HL5.out.lt
        clear hS5 hF5 hM5 n257 hcx n259
        go_wp2_with (first
            | (refine wpList_alloc_row 15 rfl rfl 114 rfl _ Try.info114 ?_; intro w6 h6 hR6 hB6; have HR6 : Hid (Row w6 w5.heap.size (endsL fun _ => false)) := hR6; have HB6 : Hid (Below w5.heap.size w5 w6) := hB6; clear hR6 hB6)
            | (refine wpList_store_row rfl 114 (.tmp 15) (.tmp 147) rfl _ rfl _ rfl _ HR6.out (by rw [endsL_length, endsL_length]) (Try.size114 _) (endsL_one _) ?_; intro w7 hR7 hS7; have HL7 : Hid (Gl w w7 p ob c' d (some ⟨sb, 0, none⟩) cc) := (HL5.out.grow HB6.out).sole hS7 hl5; have HE7 : Hid (Row w7 w5.heap.size (endsL f5)) := hR7; clear hR7 hS7))
        generalize w5.heap.size = E at HE7 hl5 h6 ⊢
        clear hda
        clear hdn hda2
        go_loopw [16] (fun v wx => ∃ t : Nat, v = .int .i64 t ∧ a ≤ t ∧ t ≤ j ∧ Gl w wx p ob c' d (some ⟨sb, 0, none⟩) cc ∧ Row wx E (endsL f5) ∧ Hid (∀ u, t < u → u ≤ j → ¬ (Mat p.s p.nodes x a u ∧ TimesR (Mat p.s p.nodes x) d.lo d.hi (dn + 1) (fun k => k = u) j))) (fun v _ => (intOf v).toNat)
        case atStart => exact ⟨j, rfl, haj, Nat.le_refl _, HL7.out, HE7.out, fun u h1 h2 => by omega⟩
        case round =>
          obtain ⟨t, rfl, hat, htj, hGl, hE, HNo⟩ := hrel
          have HGl : Hid (Gl w wr p ob c' d (some ⟨sb, 0, none⟩) cc) := hGl
          have HE : Hid (Row wr E (endsL f5)) := hE
          have kt : (0 : Int) ≤ (t : Int) := by omega
          have kt2 : (t : Int) < 82 := by omega
          have hGlt := hGl.lt
          have hElt := hE.lt (by rw [endsL_length]; omega)
          clear hGl HL7 HE7 h6
          by_cases hta : a < t
          · exfalso; omega
          · have hd1 : decide ((a : Int) < (t : Int)) = false := by simp; omega
            have hd2 : decide (a < t) = false := by simp; omega
            have hte : t = a := by omega
            have HT : Hid (Top (fun t => Mat p.s p.nodes x a t ∧ TimesR (Mat p.s p.nodes x) d.lo d.hi (dn + 1) (fun k => k = t) j) a j t) := Top.of hat htj HNo.out (.inl hte)
            clear hE hte
            go_wp2_with fail
            go_quiet (fail)
            have HG9 : Hid (Gl w (wr.drewN nq) p ob c' d (some ⟨sb, 0, none⟩) cc) := HGl.out.grow ⟨rfl, rfl, rfl, Nat.le_refl _, fun _ _ => rfl⟩
            generalize wr.drewN nq = w9 at HG9 ⊢
            clear hd1 hd2
            have HPt : Hid (Mat p.s p.nodes x a t ∧ TimesR (Mat p.s p.nodes x) d.lo d.hi (dn + 1) (fun k => k = t) j) := HT.out.holds ⟨HCH.out.choose, HCH.out.choose_spec.1, HCH.out.choose_spec.2.1, HCH.out.choose_spec.2.2.1, HCH.out.choose_spec.2.2.2.1⟩
            have HPg : Hid (dn < d.lo ∨ a < t) := by
              obtain ⟨u, u1, u2, u3, u4, u5⟩ := HCH.out
              rcases u5 with u5 | u5
              · exact .inl u5
              · right
                rcases Nat.lt_or_ge a t with h | h
                · exact h
                · exact absurd ⟨u3, u4⟩ (HT.out.2.2.1 u (by omega) u2)
            have n257 := HG9.out.nd.subs
            obtain ⟨sb2, hao2, hsb2, hcx2⟩ := HG9.out.sa 0 x HX.out
            cases hao2
            go_wp2_with fail
            refine (HXM.out.2.2 _ a t c' ob HG9.out.gs.base (by rw [HLr.out.cl]; exact hcl) hat (by omega) HPt.out.1).mono ?_
            rintro e w10 ⟨rfl, c10, hg10, hl10, hG10⟩
            have HR10 : Hid (Rt w w10 p ob n i j c d (some ⟨sb, 0, none⟩) cc x (dn + 1) t c10 (f - 1)) := ⟨HG9.out.call hG10, by rw [hl10]; exact HLr.out.cl, by have := HLr.out.ia; omega, htj, by have := HLr.out.dl; have := HPg.out; omega, HPt.out.2, by have := HLr.out.fu; have := HPg.out; omega, fun c'' h => HLr.out.gq c'' (by rw [show f = (f - 1) + 1 by have := HLr.out.fu; omega]; exact repG_step HGO.out HT.out hg10 h)⟩
            have hPg := HPg.out
            clear hg10 hl10 hG10 n257 hcx2
            go_wp2_with fail
            go_roundw
            case rel => exact ⟨dn + 1, t, c10, f - 1, by go_num, rfl, HR10.out⟩
            case measure => simp [intOf]; omega
    · have HQ8 : Hid (Gq p.s p.nodes n i j c c') := hLr.gq c' (repG_end hgo)
      have hda : decide ((a : Int) < (j : Int)) = false := by simp; omega
      have hdn : decide ((dn : Int) < (d.lo : Int)) = false := by simp; omega
      have hda2 : decide (a < j) = false := by simp; omega
      have hdn2 : decide (dn < d.lo) = false := by simp; omega
      clear hLr
      go_wp2_with fail
      exact bodyPost_end (v := .tuple #[]) (by simp [results, Try.results62, go_sem]) rfl ⟨rfl, c', HQ8.out, HLr.out.cl, HLr.out.gl.gs⟩
end Dg
end Go.Proofs.Ytppjlpihaocdiaa
