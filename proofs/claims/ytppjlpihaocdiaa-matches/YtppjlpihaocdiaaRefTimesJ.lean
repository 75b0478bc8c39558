/- The document's times: so often, then as often as it goes. -/
import Derived.Test.YtppjlpihaocdiaaRefFromJ
set_option linter.unusedSimpArgs false
set_option linter.unusedVariables false
namespace Go.Proofs.Ytppjlpihaocdiaa
open Go.RowKit

attribute [local go_sem ↓] L66_eq S66_eq Go.wp_at_zero Go.wp_at_succ

set_option maxRecDepth 100000 in
set_option maxHeartbeats 8000000 in
theorem times_any (p : Fp) (d : Nd) (ao : Option Addr) (c x : Nat) (hx0 : d.subs[0]? = some x) (hsub : x < p.nodes.length ∧ FromAt p x) (A : Nat → Bool) (k0 : Nat) (w : World) (hI : FieldAt w p) (hsa : SubsAt w p.N0 d ao) (hl : d.subs.length ≤ 1000)
    (hlo : d.lo ≤ 1000) (hhi : -1 ≤ d.hi ∧ d.hi ≤ 1000) (hk0 : k0 ≤ 1000) (hA : ∀ i, A i = true → i ≤ p.s.size) :
    Calls Try.prog 87 #[.pointer (some ⟨p.fb, 0, none⟩), .agg (ndL d (.slice ao d.subs.length c)).toArray, .agg (endsL A).toArray, .int .i64 k0] w fun e w' => ∃ f, e = .returned (.agg (endsL f).toArray) ∧
      Says f (TimesR (Mat p.s p.nodes x) d.lo d.hi k0 (fun i => A i = true)) ∧ FieldAt w' p ∧ Fm p w w' := by
  have HI : Hid (FieldAt w p) := hI
  have HSA : Hid (SubsAt w p.N0 d ao) := hsa
  have HXM : Hid (x < p.nodes.length ∧ FromAt p x) := hsub
  have HAA : Hid (∀ i, A i = true → i ≤ p.s.size) := hA
  have HST : Hid (Stays p.s.size (Mat p.s p.nodes x)) := Mat_stays p.s hI.wf (x + 1) x (by omega)
  have hs80 := hI.s80
  have hfl := hI.lt
  have hkl := hI.kl
  have hel := hI.el
  have hNf := hI.nf
  have hNk := hI.nk
  have hNe := hI.ne
  obtain ⟨sb, hao, hsb, hcx⟩ := hsa 0 x hx0
  subst hao
  have HSB : Hid (w.cell? ⟨sb, 0, none⟩ = some (.int .i64 x)) := hcx
  have hpos : (0 : Int) < (d.subs.length : Int) := by
    have : 0 < d.subs.length := by
      rcases Nat.lt_or_ge 0 d.subs.length with h | h
      · exact h
      · rw [List.getElem?_eq_none h] at hx0; cases hx0
    omega
  have HX0 : Hid (d.subs[0]? = some x) := hx0
  clear hI hsa hsub hA hcx hx0
  go_enter Try.func87, Try.ntmps87
  go_wp2_with (first
    | (refine wpList_box_row 5 rfl rfl 140 (.tmp 1) rfl _ rfl ?_; intro w1 h1 hR1 hB1; have HR1 : Hid (Row w1 w.heap.size (ndL d (.slice (some ⟨sb, 0, none⟩) d.subs.length c))) := hR1; have HB1 : Hid (Below w.heap.size w w1) := hB1; clear hR1 hB1)
    | (refine wpList_box_row 6 rfl rfl 114 (.tmp 2) rfl _ rfl ?_; intro w2 h2 hR2 hB2; rw [h1] at hR2 hB2 h2; have HR2 : Hid (Row w2 (w.heap.size + 1) (endsL A)) := hR2; have HB2 : Hid (Below (w.heap.size + 1) w1 w2) := hB2; clear hR2 hB2)
    | (refine wpList_alloc_row 8 rfl rfl 114 rfl _ Try.info114 ?_; intro w3 h3 hR3 hB3; rw [h2] at hR3 hB3 h3; have HR3 : Hid (Row w3 (w.heap.size + 1 + 1) (endsL fun _ => false)) := hR3; have HB3 : Hid (Below (w.heap.size + 1 + 1) w2 w3) := hB3; clear hR3 hB3))
  go_simp
  go_loopw [3] (fun v wr => ∃ (k : Nat) (f : Nat → Bool), k0 ≤ k ∧ (k ≤ d.lo ∨ k = k0) ∧ v = .int .i64 k ∧ Says f (fun j => ∃ i, A i = true ∧ Pow (Mat p.s p.nodes x) (k - k0) i j) ∧
      Row wr w.heap.size (ndL d (.slice (some ⟨sb, 0, none⟩) d.subs.length c)) ∧ Row wr (w.heap.size + 1) (endsL f) ∧ Row wr (w.heap.size + 1 + 1) (endsL fun _ => false) ∧ FieldAt wr p ∧ Fm p w wr) (fun v _ => d.lo - (intOf v).toNat)
  case atStart =>
    have hB : Below w.heap.size w w3 := (HB1.out.trans (HB2.out.mono (by omega))).trans (HB3.out.mono (by omega))
    refine ⟨k0, A, Nat.le_refl _, .inr rfl, rfl, fun j _ => ?_, (HR1.out.below HB2.out (by omega)).below HB3.out (by omega), HR2.out.below HB3.out (by omega), HR3.out, HI.out.grow hB, Below.fm hB⟩
    rw [Nat.sub_self]
    constructor
    · intro h; exact ⟨j, h, rfl⟩
    · rintro ⟨i, h, e⟩; cases e; exact h
  case round =>
    obtain ⟨k, f, hk0', hk, rfl, hS, hN, hE, hZ, hFi, hFm⟩ := hrel
    have HN : Hid (Row wr w.heap.size (ndL d (.slice (some ⟨sb, 0, none⟩) d.subs.length c))) := hN
    have HE : Hid (Row wr (w.heap.size + 1) (endsL f)) := hE
    have HZ : Hid (Row wr (w.heap.size + 1 + 1) (endsL fun _ => false)) := hZ
    have HFi : Hid (FieldAt wr p) := hFi
    have HFm : Hid (Fm p w wr) := hFm
    have HS : Hid (Says f (fun j => ∃ i, A i = true ∧ Pow (Mat p.s p.nodes x) (k - k0) i j)) := hS
    have n257 := hN.cell (k := 257) (ndL_tail d _ 0)
    have n259 := hN.cell (k := 259) (ndL_tail d _ 2)
    have n260 := hN.cell (k := 260) (ndL_tail d _ 3)
    have hol := hZ.lt (by rw [endsL_length]; omega)
    have hsw := hFm.size
    have hcx : wr.cell? ⟨sb, 0, none⟩ = some (.int .i64 x) := ((hFm.below hNk hNe (by omega)).cell (p := ⟨sb, 0, none⟩) hsb).trans HSB.out
    by_cases hlt : k < d.lo
    · have hld := run_L66 (w := wr.drew) (f := f) ⟨hE.lies, hE.free⟩
      have HFd : Hid (FieldAt wr.drew p) := HFi.out.grow (Below.refl _ _).drew
      have HEd : Hid (Row wr.drew (w.heap.size + 1) (endsL f)) := ⟨hE.lies, hE.free⟩
      have HZd : Hid (wr.drew.heap.size = wr.heap.size) := rfl
      clear hN hE hZ hFi hFm hS n260
      go_wp2_with fail
      go_region_with ((go_at_call 107; refine (behind_any p x HXM.out.2 f false _ HFd.out HXM.out.1).mono ?_; rintro e w4 ⟨f4, rfl, hS4, hFi4, hFm4⟩; obtain ⟨w5, hst, hR5, hS5⟩ := run_S66 (HEd.out.fm hFm4 (by rw [HZd.out]; omega) (by omega) (by omega)) f4))
      all_goals
        have HS4 : Hid (Says f4 (fun j => ∃ i, i ≤ p.s.size ∧ f i = true ∧ Mat p.s p.nodes x i j ∧ (false = true → i ≠ j))) := hS4
        have HFi4 : Hid (FieldAt w4 p) := hFi4
        have HFm4 : Hid (Fm p wr.drew w4) := hFm4
        have HS5 : Hid (Sole (w.heap.size + 1) w4 w5) := hS5
        have HR5 : Hid (Row w5 (w.heap.size + 1) (endsL f4)) := hR5
        have hs4 := hFm4.size
        rw [HZd.out] at hs4
        clear hS4 hFi4 hFm4 hS5 hR5 hst hld
        go_wp2_with fail
        go_roundw
        case rel =>
          have hF5 : Fm p w w5 := ((HFm.out.trans (Below.fm ((Below.refl _ _).drew))).trans HFm4.out).sole HS5.out (by omega)
          refine ⟨k + 1, f4, by omega, .inl (by omega), by go_num, fun j hj => ?_, ?_, HR5.out, ?_, HFi4.out.sole HS5.out (by omega) (by omega) (by omega) (by omega), hF5⟩
          · rw [HS4.out j hj, show k + 1 - k0 = (k - k0) + 1 by omega]
            constructor
            · rintro ⟨i, y1, y2, y3, _⟩
              obtain ⟨i0, z1, z2⟩ := (HS.out i (by omega)).1 y2
              exact ⟨i0, z1, Pow.snoc z2 y3⟩
            · rintro ⟨i0, z1, z2⟩
              obtain ⟨m, z3, z4⟩ := Pow.unsnoc z2
              have hm := (Pow.le HST.out (HAA.out i0 z1) z3).2
              exact ⟨m, hm, (HS.out m (by omega)).2 ⟨i0, z1, z3⟩, z4, (fun h => by cases h)⟩
          · exact ((Row.of_block HN.out (w' := wr.drew) rfl).fm HFm4.out (by rw [HZd.out]; omega) (by omega) (by omega)).sole HS5.out (by omega)
          · exact ((Row.of_block HZ.out (w' := wr.drew) rfl).fm HFm4.out (by rw [HZd.out]; omega) (by omega) (by omega)).sole HS5.out (by omega)
        case measure => simp [intOf]; omega
    · have hkk : k = max k0 d.lo := by omega
      have hpk : k - k0 = d.lo - k0 := by omega
      have HKK : Hid (k = max k0 d.lo) := hkk
      have HPK : Hid (k - k0 = d.lo - k0) := hpk
      have hk2 : k ≤ 1000 := by omega
      clear hN hE hZ hFi hFm hS hkk hpk n257 n260
      go_wp2_with (first
        | (refine wpList_load_row 24 rfl rfl 114 (.tmp 6) rfl _ rfl _ _ HE.out Try.underlying114 rfl (Try.size114 _) ?_)
        | (refine wpList_alloc_row 9 rfl rfl 114 rfl _ Try.info114 ?_; intro w4 h4 hR4 hB4; have HR4 : Hid (Row w4 wr.heap.size (endsL fun _ => false)) := hR4; have HB4 : Hid (Below wr.heap.size wr w4) := hB4; clear hR4 hB4)
        | (refine wpList_store_row rfl 114 (.tmp 9) (.tmp 24) rfl _ rfl _ rfl _ HR4.out (by rw [endsL_length, endsL_length]) (Try.size114 _) (endsL_one _) ?_; intro w5 hR5 hS5; have HR5 : Hid (Row w5 wr.heap.size (endsL f)) := hR5; have HS5 : Hid (Sole wr.heap.size w4 w5) := hS5; clear hR5 hS5))
      have HN5 : Hid (Row w5 w.heap.size (ndL d (.slice (some ⟨sb, 0, none⟩) d.subs.length c))) := (HN.out.below HB4.out (by omega)).sole HS5.out (by omega)
      have HE5 : Hid (Row w5 (w.heap.size + 1) (endsL f)) := (HE.out.below HB4.out (by omega)).sole HS5.out (by omega)
      have HZ5 : Hid (Row w5 (w.heap.size + 1 + 1) (endsL fun _ => false)) := (HZ.out.below HB4.out (by omega)).sole HS5.out (by omega)
      have HFi5 : Hid (FieldAt w5 p) := (HFi.out.grow HB4.out).sole HS5.out (by omega) (by omega) (by omega) (by omega)
      have HFm5 : Hid (Fm p w w5) := (HFm.out.trans (Below.fm HB4.out)).sole HS5.out (by omega)
      obtain ⟨X, hX⟩ : ∃ X, wr.heap.size = X := ⟨_, rfl⟩
      rw [hX] at HR5 hol hsw ⊢
      clear HN HE HZ HFi HFm HR4 HB4 HS5 n259 hcx h4 hX
      have HHF : Hid (∀ m, f m = true → m < 82 → m ≤ p.s.size) := by
        intro m hm hm82
        obtain ⟨i, z1, z2⟩ := (HS.out m hm82).1 hm
        exact (Pow.le HST.out (HAA.out i z1) z2).2
      go_loopw [10] (fun v wq => ∃ (t : Nat) (fa fo : Nat → Bool), t ≤ p.s.size + 1 ∧ v = .int .i64 t ∧ (t = 0 ∨ d.hi < 0 ∨ (k : Int) + t ≤ d.hi) ∧ Says fa (fun j => ∃ m, m ≤ p.s.size ∧ f m = true ∧ Pow (Full (Mat p.s p.nodes x)) t m j) ∧ Says fo (fun j => ∃ m q, m ≤ p.s.size ∧ f m = true ∧ q ≤ t ∧ Pow (Full (Mat p.s p.nodes x)) q m j) ∧
          Row wq w.heap.size (ndL d (.slice (some ⟨sb, 0, none⟩) d.subs.length c)) ∧ Row wq (w.heap.size + 1) (endsL fa) ∧ Row wq (w.heap.size + 1 + 1) (endsL fun _ => false) ∧ Row wq X (endsL fo) ∧ FieldAt wq p ∧ Fm p w wq) (fun v _ => p.s.size + 1 - (intOf v).toNat)
      case atStart =>
        refine ⟨0, f, f, by omega, rfl, .inl rfl, fun j hj => ?_, fun j hj => ?_, HN5.out, HE5.out, HZ5.out, HR5.out, HFi5.out, HFm5.out⟩
        · constructor
          · intro h; exact ⟨j, HHF.out j h hj, h, rfl⟩
          · rintro ⟨i, _, h, e⟩; cases e; exact h
        · constructor
          · intro h; exact ⟨j, 0, HHF.out j h hj, h, Nat.le_refl _, rfl⟩
          · rintro ⟨i, q, _, h, hq, e⟩
            obtain rfl : q = 0 := by omega
            cases e; exact h
      case round =>
        obtain ⟨t, fa, fo, ht, rfl, hb, hSa, hSo, hN, hE, hZ, hO, hFi, hFm⟩ := hrel
        clear HN5 HE5 HZ5 HR5 HFi5 HFm5
        have HN : Hid (Row wr w.heap.size (ndL d (.slice (some ⟨sb, 0, none⟩) d.subs.length c))) := hN
        have HE : Hid (Row wr (w.heap.size + 1) (endsL fa)) := hE
        have HZ : Hid (Row wr (w.heap.size + 1 + 1) (endsL fun _ => false)) := hZ
        have HO : Hid (Row wr X (endsL fo)) := hO
        have HFi : Hid (FieldAt wr p) := hFi
        have HFm : Hid (Fm p w wr) := hFm
        have HSa : Hid (Says fa (fun j => ∃ m, m ≤ p.s.size ∧ f m = true ∧ Pow (Full (Mat p.s p.nodes x)) t m j)) := hSa
        have HSo : Hid (Says fo (fun j => ∃ m q, m ≤ p.s.size ∧ f m = true ∧ q ≤ t ∧ Pow (Full (Mat p.s p.nodes x)) q m j)) := hSo
        have HBd : Hid (t = 0 ∨ d.hi < 0 ∨ (k : Int) + t ≤ d.hi) := hb
        have n257 := hN.cell (k := 257) (ndL_tail d _ 0)
        have n260 := hN.cell (k := 260) (ndL_tail d _ 3)
        have hoX := hO.lt (by rw [endsL_length]; omega)
        have hsw2 := hFm.size
        have g1 := hFi.c1
        have hcx : wr.cell? ⟨sb, 0, none⟩ = some (.int .i64 x) := ((hFm.below hNk hNe (by omega)).cell (p := ⟨sb, 0, none⟩) hsb).trans HSB.out
        by_cases hgo : t ≤ p.s.size ∧ (d.hi < 0 ∨ (k : Int) + t < d.hi)
        · obtain ⟨hg1, hg2⟩ := hgo
          have hld := run_L66 (w := wr.drew) (f := fa) ⟨hE.lies, hE.free⟩
          have HFd : Hid (FieldAt wr.drew p) := HFi.out.grow (Below.refl _ _).drew
          have HEd : Hid (Row wr.drew (w.heap.size + 1) (endsL fa)) := ⟨hE.lies, hE.free⟩
          have HZd : Hid (wr.drew.heap.size = wr.heap.size) := rfl
          have k1 : (t : Int) ≤ (p.s.size : Int) := by omega
          have HGO : Hid (t ≤ p.s.size ∧ (d.hi < 0 ∨ (k : Int) + t < d.hi)) := ⟨hg1, hg2⟩
          clear hN hE hZ hO hFi hFm hSa hSo hb hg1
          by_cases hneg : d.hi < 0
          all_goals
            first
            | (have hq2 : (k : Int) + t < d.hi := by omega)
            | skip
            clear hg2
            go_wp2_with fail
            go_region_with ((go_at_call 107; refine (behind_any p x HXM.out.2 fa true _ HFd.out HXM.out.1).mono ?_; rintro e w4 ⟨f4, rfl, hS4, hFi4, hFm4⟩; obtain ⟨w5, hst, hR5, hS5⟩ := run_S66 (HEd.out.fm hFm4 (by rw [HZd.out]; omega) (by omega) (by omega)) f4))
            all_goals
              have HS4 : Hid (Says f4 (fun j => ∃ i, i ≤ p.s.size ∧ fa i = true ∧ Mat p.s p.nodes x i j ∧ (True → i ≠ j))) := hS4
              have HFi4 : Hid (FieldAt w4 p) := hFi4
              have HFm4 : Hid (Fm p wr.drew w4) := hFm4
              have HS5 : Hid (Sole (w.heap.size + 1) w4 w5) := hS5
              have HR5 : Hid (Row w5 (w.heap.size + 1) (endsL f4)) := hR5
              have hs4 := hFm4.size
              rw [HZd.out] at hs4
              have hs5 := hS5.size
              have HO5 : Hid (Row w5 X (endsL fo)) := ((Row.of_block HO.out (w' := wr.drew) rfl).fm HFm4.out (by rw [HZd.out]; omega) (by omega) (by omega)).sole HS5.out (by omega)
              clear hS4 hFi4 hFm4 hS5 hR5 hst hld
              have hla := run_L66 HO5.out
              have hlb := run_L66 HR5.out
              go_wp2_with fail
              refine (joined_any fo f4 _).mono ?_
              rintro e w6 ⟨rfl, hB6⟩
              have HB6 : Hid (Below w5.heap.size w5 w6) := hB6
              clear hB6
              obtain ⟨w7, hst7, hR7, hS7⟩ := run_S66 (HO5.out.below HB6.out (by omega)) (fun j => fo j || f4 j)
              have HR7 : Hid (Row w7 X (endsL fun j => fo j || f4 j)) := hR7
              have HS7 : Hid (Sole X w6 w7) := hS7
              clear hR7 hS7 hla hlb
              go_wp2_with fail
              go_roundw
              case rel =>
                have hF5 : Fm p w w6 := (((HFm.out.trans (Below.fm ((Below.refl _ _).drew))).trans HFm4.out).sole HS5.out (by omega)).trans (Below.fm HB6.out)
                have hFi6 : FieldAt w6 p := (HFi4.out.sole HS5.out (by omega) (by omega) (by omega) (by omega)).grow HB6.out
                have hNxt : Says f4 (fun j => ∃ m, m ≤ p.s.size ∧ f m = true ∧ Pow (Full (Mat p.s p.nodes x)) (t + 1) m j) := by
                  intro j hj
                  rw [HS4.out j hj]
                  constructor
                  · rintro ⟨i, y1, y2, y3, y4⟩
                    obtain ⟨m, z0, z1, z2⟩ := (HSa.out i (by omega)).1 y2
                    exact ⟨m, z0, z1, Pow.snoc z2 ⟨y3, y4 trivial⟩⟩
                  · rintro ⟨m, z0, z1, z2⟩
                    obtain ⟨i, z3, z4, z5⟩ := Pow.unsnoc z2
                    have hi := (Pow.le HST.out.full z0 z3).2
                    exact ⟨i, hi, (HSa.out i (by omega)).2 ⟨m, z0, z1, z3⟩, z4, fun _ => z5⟩
                have hg := HGO.out
                refine ⟨t + 1, f4, _, by omega, by go_num, by omega, hNxt, fun j hj => ?_, ?_, ?_, ?_, HR7.out, hFi6.sole HS7.out (by omega) (by omega) (by omega) (by omega), hF5.sole HS7.out (by omega)⟩
                · simp only [Bool.or_eq_true]
                  rw [HSo.out j hj, hNxt j hj]
                  constructor
                  · rintro (⟨m, q, y0, y1, y2, y3⟩ | ⟨m, y0, y1, y2⟩)
                    · exact ⟨m, q, y0, y1, by omega, y3⟩
                    · exact ⟨m, t + 1, y0, y1, Nat.le_refl _, y2⟩
                  · rintro ⟨m, q, y0, y1, y2, y3⟩
                    by_cases e : q = t + 1
                    · subst e; exact .inr ⟨m, y0, y1, y3⟩
                    · exact .inl ⟨m, q, y0, y1, by omega, y3⟩
                · exact ((((Row.of_block HN.out (w' := wr.drew) rfl).fm HFm4.out (by rw [HZd.out]; omega) (by omega) (by omega)).sole HS5.out (by omega)).below HB6.out (by omega)).sole HS7.out (by omega)
                · exact (HR5.out.below HB6.out (by omega)).sole HS7.out (by omega)
                · exact ((((Row.of_block HZ.out (w' := wr.drew) rfl).fm HFm4.out (by rw [HZd.out]; omega) (by omega) (by omega)).sole HS5.out (by omega)).below HB6.out (by omega)).sole HS7.out (by omega)
              case measure => simp [intOf]; have := HGO.out.1; omega
        · skip
          have HEnd : Hid (Says fo (TimesR (Mat p.s p.nodes x) d.lo d.hi k0 (fun i => A i = true))) := by
            intro j hj
            rw [HSo.out j hj]
            unfold TimesR
            constructor
            · rintro ⟨m, q, y0, y1, y2, y3⟩
              obtain ⟨i, z1, z2⟩ := (HS.out m (by omega)).1 y1
              rw [HPK.out] at z2
              have hkk := HKK.out
              exact ⟨i, m, q, z1, z2, by have := HBd.out; omega, y3⟩
            · rintro ⟨i, m, q, y1, y2, y3, y4⟩
              have hm := (Pow.le HST.out (HAA.out i y1) y2).2
              have hlen := Pow.full_len HST.out hm y4
              have hjl := (Pow.le HST.out.full hm y4).2
              have hkk := HKK.out
              refine ⟨m, q, hm, (HS.out m (by omega)).2 ⟨i, y1, by rw [HPK.out]; exact y2⟩, ?_, y4⟩
              have hst : ¬ (t ≤ p.s.size ∧ (d.hi < 0 ∨ (k : Int) + t < d.hi)) := hgo
              rcases Nat.lt_or_ge p.s.size t with h | h
              · omega
              · have h2 : ¬ (d.hi < 0 ∨ (k : Int) + t < d.hi) := fun h2 => hst ⟨h, h2⟩
                omega
          have hst : ¬ (t ≤ p.s.size ∧ (d.hi < 0 ∨ (k : Int) + t < d.hi)) := hgo
          clear hN hE hZ hO hFi hFm hSa hSo hb hgo
          by_cases hts : t ≤ p.s.size
          · have hnn : 0 ≤ d.hi := by
              by_cases h : d.hi < 0
              · exact absurd ⟨hts, .inl h⟩ hst
              · exact Int.not_lt.1 h
            have hge : d.hi ≤ (k : Int) + t := by
              by_cases h : (k : Int) + t < d.hi
              · exact absurd ⟨hts, .inr h⟩ hst
              · exact Int.not_lt.1 h
            have k1 : (t : Int) ≤ (p.s.size : Int) := by omega
            have k2 : decide (d.hi < 0) = false := by simp; omega
            have k3 : decide ((k : Int) + (t : Int) < d.hi) = false := by simp; omega
            clear hst
            have hlo66 := run_L66 HO.out
            obtain ⟨w4, hst4, hR4, hS4⟩ := run_S66 HZ.out fo
            have HR4 : Hid (Row w4 (w.heap.size + 1 + 1) (endsL fo)) := hR4
            have HS4 : Hid (Sole (w.heap.size + 1 + 1) wr w4) := hS4
            clear hR4 hS4
            go_wp2_with fail
            exact bodyPost_row 8 114 Try.results87 rfl _ rfl _ _ HR4.out Try.underlying114 rfl (Try.size114 _) ⟨fo, rfl, HEnd.out, HFi.out.sole HS4.out (by omega) (by omega) (by omega) (by omega), HFm.out.sole HS4.out (by omega)⟩
          · have k1 : decide ((t : Int) ≤ (p.s.size : Int)) = false := by simp; omega
            have k1' : decide (t ≤ p.s.size) = false := by simp; omega
            clear hst
            have hlo66 := run_L66 HO.out
            obtain ⟨w4, hst4, hR4, hS4⟩ := run_S66 HZ.out fo
            have HR4 : Hid (Row w4 (w.heap.size + 1 + 1) (endsL fo)) := hR4
            have HS4 : Hid (Sole (w.heap.size + 1 + 1) wr w4) := hS4
            clear hR4 hS4
            go_wp2_with fail
            exact bodyPost_row 8 114 Try.results87 rfl _ rfl _ _ HR4.out Try.underlying114 rfl (Try.size114 _) ⟨fo, rfl, HEnd.out, HFi.out.sole HS4.out (by omega) (by omega) (by omega) (by omega), HFm.out.sole HS4.out (by omega)⟩
end Go.Proofs.Ytppjlpihaocdiaa
