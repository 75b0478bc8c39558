/- The document's Check: it answers 'SAns'. -/
import Derived.Test.YtppjlpihaocdiaaSChBK
set_option linter.unusedSimpArgs false
set_option linter.unusedVariables false
namespace Go.Proofs.Ytppjlpihaocdiaa
namespace Sk
open Go.RowKit

theorem below_drewN (b : Nat) (w : World) : ∀ n, Below b w (w.drewN n)
  | 0 => Below.refl _ _
  | n + 1 => (below_drewN b w n).trans (c := (w.drewN n).drew) ⟨rfl, rfl, rfl, Nat.le_refl _, fun _ _ => rfl⟩

theorem ba_ne {a b : ByteArray} (h : decide (a = b) = false) : (a.toList == b.toList) = false := by
  rcases bool_or (a.toList == b.toList) with e | e
  · exfalso
    rw [beq_iff_eq, ByteArray.toList_eq, ByteArray.toList_eq] at e
    have : a = b := ByteArray.ext (Array.toList_inj.1 e)
    simp [this] at h
  · exact e

theorem ints_at {l : List Nat} {i n : Nat} (h : l[i]? = some n) : (ints l)[i]? = some (.int .i64 (n : Int)) := by simp [ints, h]

set_option maxRecDepth 100000 in
set_option maxHeartbeats 4000000 in
theorem check_any (s : ByteArray) (w : World) (hs : s.size ≤ maxLen) :
    Calls Try.prog 12 #[.string s] w fun e w' => ∃ ec p : Int, e = .returned (.tuple #[.int .i64 ec, .int .i64 p]) ∧ SAns s ec p ∧ Below w.heap.size w w' := by
  unfold maxLen at hs
  by_cases h400 : 400 < s.size
  · go_enter Try.func12, Try.ntmps12
    go_wp2_with fail
    go_ret2
    exact ⟨1, 0, rfl, .inl ⟨h400, rfl, rfl⟩, Below.refl _ _⟩
  · have hle : s.size ≤ 400 := by omega
    go_enter Try.func12, Try.ntmps12
    go_wp2_with fail
    go_loopw [5] (fun v wr => ∃ (k : Nat) (x : Sc), k ≤ s.size ∧ v = .int .i64 k ∧ Hid (srun s k = some x) ∧ Hid (ScAt wr w.heap.size x) ∧ Hid (Below w.heap.size w wr)) (fun v _ => s.size - (intOf v).toNat)
    case atStart => exact ⟨0, sc0, Nat.zero_le _, rfl, rfl, ScAt.new w, (Below.refl _ _).alloc (Nat.le_refl _) _⟩
    case round =>
      obtain ⟨k, x, hk, rfl, HG, HX, HB⟩ := hrel
      by_cases hlt : k < s.size
      · have HY : Hid ((s[k]'hlt).toNat = byt s k) := byt_eq s k hlt
        go_wp2_with fail
        refine (step_any w.heap.size x (s[k]'hlt).toNat k _ HX.out (fit_run k x HG.out) (UInt8.toNat_lt _) (by omega)).mono ?_
        rintro e w1 ⟨q, rfl, hb, hd⟩
        have HB1 : Hid (Below w.heap.size w w1) := HB.out.trans hb
        clear hb
        rcases hd with ⟨x', hx', rfl, hX'⟩ | ⟨hx', rfl⟩
        · have HG1 : Hid (srun s (k + 1) = some x') := by rw [Hid, srun_succ HG.out, ← HY.out]; exact hx'
          have HX1 : Hid (ScAt w1 w.heap.size x') := hX'
          clear hx' hX'
          go_wp2_with fail
          go_roundw
          case rel => exact ⟨k + 1, x', by omega, by go_num, HG1, HX1, HB1⟩
          case measure => simp [intOf]; omega
        · have HF : Hid (SFails s k) := ⟨x, HG.out, hk, fun _ => by rw [← HY.out]; exact hx', fun e => by omega⟩
          clear hx'
          go_wp2_with fail
          go_ret2
          exact ⟨3, k, rfl, .inr (.inl ⟨hle, rfl, k, rfl, HF.out⟩), HB1.out⟩
      · have hks : k = s.size := by omega
        subst hks
        have hFit := fit_run _ x HG.out
        have HFit : Hid (Fit x s.size) := hFit
        have hpl := hFit.pl
        have hll := hFit.lb
        go_wp2_with fail
        refine (swhole_any w.heap.size x _ HX.out (hFit.sm (by omega))).mono ?_
        rintro e w1 ⟨rfl, n1, hw1⟩
        have HX1 : Hid (ScAt w1 w.heap.size x) := by rw [hw1]; exact HX.out.drewN n1
        have HB1 : Hid (Below w.heap.size w w1) := by rw [hw1]; exact HB.out.trans (below_drewN _ _ n1)
        clear hw1 HX HB hFit
        rcases bool_or (swhole x) with hw | hw
        · have HW : Hid (SWholly s x) := ⟨HG.out, hw⟩
          rw [hw]
          clear hw
          go_wp2_with fail
          go_loopw [8] (fun v wr => ∃ (i : Nat), i ≤ x.patLen.length ∧ v = .int .i64 i ∧ Hid (∀ k n : Nat, k < i → x.patLen[k]? = some n → n ≤ 40) ∧ Hid (ScAt wr w.heap.size x) ∧ Hid (Below w.heap.size w wr)) (fun v _ => x.patLen.length - (intOf v).toNat)
          case atStart => exact ⟨0, Nat.zero_le _, rfl, fun k n hk => by omega, HX1, HB1⟩
          case round =>
            obtain ⟨i, hi, rfl, HNL, HX, HB⟩ := hrel
            obtain ⟨pv, lv, bv, hR, hN⟩ := HX.out
            obtain ⟨ao, cap, rfl⟩ : ∃ ao cap, lv = .slice ao x.patLen.length cap := by
              rcases hN.o2.2 with ⟨e, e2⟩ | ⟨g, c, _, e, _⟩
              · exact ⟨none, 0, by rw [e, e2]⟩
              · exact ⟨_, _, e⟩
            have m272 := hR.cell (scL_lv x pv _ bv)
            by_cases hlt : i < x.patLen.length
            · have hpe := HFit.out.pe
              obtain ⟨g, cap2, e, hg1, hg2⟩ := hN.o2.form (by omega)
              simp only [Value.slice.injEq] at e
              obtain ⟨rfl, _, rfl⟩ := e
              obtain ⟨ga, capa, rfl, ha1, ha2⟩ := hN.o1.form (by omega)
              have m271 := hR.cell (scL_pv x _ _ bv)
              obtain ⟨n, hn⟩ : ∃ n, x.patLen[i]? = some n := ⟨_, List.getElem?_eq_getElem hlt⟩
              obtain ⟨a, ha⟩ : ∃ a, x.patAt[i]? = some a := ⟨_, List.getElem?_eq_getElem (show i < x.patAt.length by omega)⟩
              have mg : wr.cell? ⟨g, i, none⟩ = some (.int .i64 (n : Int)) := by rw [hN.o2.cellAt i (by omega)]; exact ints_at hn
              have ma : wr.cell? ⟨ga, i, none⟩ = some (.int .i64 (a : Int)) := by rw [hN.o1.cellAt i (by omega)]; exact ints_at ha
              have k1 : (0 : Int) ≤ (i : Int) := by omega
              have k2 : (i : Int) < (x.patLen.length : Int) := by omega
              have k3 : (i : Int) < (x.patAt.length : Int) := by omega
              clear hR hN ha1 ha2 hg1 hg2
              by_cases h40 : 40 < n
              · have q1 : decide ((n : Int) > 40) = true := by simp; omega
                have HL : Hid (LongAt x a) := ⟨i, ha, ⟨n, hn, h40⟩, fun k' n' hk hk2 => HNL.out k' n' hk hk2⟩
                clear hn ha HNL
                go_wp2_with fail
                go_region
                go_wp2_with fail
                go_ret2
                exact ⟨2, a, rfl, .inr (.inr ⟨hle, x, HW.out, .inl ⟨rfl, a, rfl, HL.out⟩⟩), HB.out.trans (below_drewN _ _ 1)⟩
              · have q1 : decide ((n : Int) > 40) = false := by simp; omega
                have HNL2 : Hid (∀ k m : Nat, k < i + 1 → x.patLen[k]? = some m → m ≤ 40) := fun k m hk hk2 => by
                  by_cases e : k = i
                  · subst e; rw [hn] at hk2; cases hk2; omega
                  · exact HNL.out k m (by omega) hk2
                clear hn ha HNL h40
                go_wp2_with fail
                go_roundw
                case rel => exact ⟨i + 1, by omega, by go_num, HNL2, HX, HB⟩
                case measure => simp [intOf]; omega
            · have HNo : Hid (NoLong x) := fun k n hk => HNL.out k n (by have := (List.getElem?_eq_some_iff.1 hk).1; omega) hk
              clear hR hN
              go_wp2_with fail
              clear m272
              go_loopw [9] (fun v wr => ∃ (i : Nat), i ≤ x.labels.length ∧ v = .int .i64 i ∧ Hid (∀ k : Nat, k < i → ¬ BadLabel x k) ∧ Hid (ScAt wr w.heap.size x) ∧ Hid (Below w.heap.size w wr)) (fun v _ => x.labels.length - (intOf v).toNat)
              case atStart => exact ⟨0, Nat.zero_le _, rfl, fun k hk => by omega, HX, HB⟩
              case round =>
                obtain ⟨i, hi, rfl, HNB, HXr, HBr⟩ := hrel
                clear HX HB
                obtain ⟨pv, lv, bv, hR, hN⟩ := HXr.out
                obtain ⟨ao, cap, rfl⟩ : ∃ ao cap, bv = .slice ao x.labels.length cap := by
                  rcases hN.o3.2 with ⟨e, e2⟩ | ⟨g, c, _, e, _⟩
                  · exact ⟨none, 0, by rw [e, e2]⟩
                  · exact ⟨_, _, e⟩
                have m273 := hR.cell (scL_bv x pv lv _)
                by_cases hlt : i < x.labels.length
                · obtain ⟨g, cap2, e, hg1, hg2⟩ := hN.o3.form (by omega)
                  simp only [Value.slice.injEq] at e
                  obtain ⟨rfl, _, rfl⟩ := e
                  obtain ⟨q, hq⟩ : ∃ q, x.labels[i]? = some q := ⟨_, List.getElem?_eq_getElem hlt⟩
                  have HQ : Hid (x.labels[i]? = some q) := hq
                  have HBD : Hid (BadLabel x i ↔ ((q.goal && twiceB x.labels i x.labels.length) || !thereB x.labels i x.labels.length) = true) := bad_of HFit.out.nc hq
                  clear hR hN hq
                  go_wp2_with fail
                  clear m273 hg1 hg2
                  go_loopw [10, 11, 12] (fun tw th v wr => ∃ (k : Nat), k ≤ x.labels.length ∧ v = .int .i64 k ∧ tw = .bool (twiceB x.labels i k) ∧ th = .bool (thereB x.labels i k) ∧ Hid (ScAt wr w.heap.size x) ∧ Hid (Below w.heap.size w wr)) (fun _ _ v _ => x.labels.length - (intOf v).toNat)
                  case atStart => exact ⟨0, Nat.zero_le _, rfl, rfl, rfl, HXr, HBr⟩
                  case round =>
                    obtain ⟨k, hkk, rfl, rfl, rfl, HXi, HBi⟩ := hrel
                    clear HXr HBr
                    obtain ⟨pv, lv, bv, hR, hN⟩ := HXi.out
                    obtain ⟨g2, cap2, rfl, hg1, hg2⟩ := hN.o3.form (by omega)
                    have m273 := hR.cell (scL_bv x pv lv _)
                    have i0 := hN.lab HQ.out 0 _ rfl
                    have i1 := hN.lab HQ.out 1 _ rfl
                    have i2 := hN.lab HQ.out 2 _ rfl
                    rw [Nat.add_zero] at i0
                    have k1 : (0 : Int) ≤ (i : Int) := by omega
                    have k2 : (i : Int) < (x.labels.length : Int) := by omega
                    by_cases hkl : k < x.labels.length
                    · obtain ⟨a, ha⟩ : ∃ a, x.labels[k]? = some a := ⟨_, List.getElem?_eq_getElem hkl⟩
                      have j0 := hN.lab ha 0 _ rfl
                      have j2 := hN.lab ha 2 _ rfl
                      rw [Nat.add_zero] at j0
                      have k3 : (0 : Int) ≤ (k : Int) := by omega
                      have k4 : (k : Int) < (x.labels.length : Int) := by omega
                      have HSM : Hid (sameB x.labels i k = (a.goal && decide (str a.name = str q.name))) := by rw [Hid, sameB, ha, HQ.out]
                      have HT1 : Hid (twiceB x.labels i (k + 1) = (twiceB x.labels i k || ((a.goal && decide (str a.name = str q.name)) && decide (k < i)))) := by rw [Hid, twiceB, HSM.out]
                      have HE1 : Hid (thereB x.labels i (k + 1) = (thereB x.labels i k || (a.goal && decide (str a.name = str q.name)))) := by rw [Hid, thereB, HSM.out]
                      generalize twiceB x.labels i k = T at HT1 ⊢
                      generalize thereB x.labels i k = E at HE1 ⊢
                      generalize str a.name = na at j0 HT1 HE1
                      generalize str q.name = nq at i0 HT1 HE1
                      generalize a.goal = ga at j2 HT1 HE1
                      clear hR hN ha HSM hg1
                      rcases bool_or (decide (k < i)) with hki | hki
                      all_goals have hki2 : decide ((k : Int) < (i : Int)) = decide (k < i) := by simp
                      all_goals rw [hki] at hki2 HT1
                      all_goals (
                        rcases bool_or ga with hga | hga
                        · subst hga
                          rcases bool_or (decide (na = nq)) with hnn | hnn
                          · rw [hnn] at HT1 HE1
                            have hnn3 : na = nq := by simpa using hnn
                            subst hnn3
                            clear hnn
                            rcases bool_or T with hT | hT <;> rcases bool_or E with hE | hE <;> subst hT <;> subst hE
                            all_goals (
                              go_wp2_with fail
                              go_region
                              go_wp2_with fail
                              go_roundw
                              case rel => exact ⟨k + 1, by omega, by go_num, by rw [HT1.out]; rfl, by rw [HE1.out]; rfl, HXi.out.drew, HBi.out.trans (below_drewN _ _ 1)⟩
                              case measure => simp [intOf]; omega)
                          · have hnn2 : (na.toList == nq.toList) = false := ba_ne hnn
                            rw [hnn] at HT1 HE1
                            rcases bool_or T with hT | hT <;> rcases bool_or E with hE | hE <;> subst hT <;> subst hE
                            all_goals (
                              go_wp2_with fail
                              go_region
                              go_wp2_with fail
                              go_roundw
                              case rel => exact ⟨k + 1, by omega, by go_num, by rw [HT1.out]; rfl, by rw [HE1.out]; rfl, HXi.out.drew, HBi.out.trans (below_drewN _ _ 1)⟩
                              case measure => simp [intOf]; omega)
                        · subst hga
                          rcases bool_or T with hT | hT <;> rcases bool_or E with hE | hE <;> subst hT <;> subst hE
                          all_goals (
                            go_wp2_with fail
                            go_region
                            go_wp2_with fail
                            go_roundw
                            case rel => exact ⟨k + 1, by omega, by go_num, by rw [HT1.out]; rfl, by rw [HE1.out]; rfl, HXi.out.drew, HBi.out.trans (below_drewN _ _ 1)⟩
                            case measure => simp [intOf]; omega))
                    · have hkn : k = x.labels.length := by omega
                      subst hkn
                      have hbd := HBD.out
                      generalize twiceB x.labels i x.labels.length = T at hbd ⊢
                      generalize thereB x.labels i x.labels.length = E at hbd ⊢
                      have HLL : Hid (∀ ec p : Int, BadLabel x i → ec = 4 → p = q.at' → SAns s ec p) := fun ec p hb e1 e2 => .inr (.inr ⟨hle, x, HW.out, .inr (.inl ⟨HNo.out, e1, i, q, HQ.out, e2, hb, HNB.out⟩)⟩)
                      have HNB2 : Hid (¬ BadLabel x i → ∀ k : Nat, k < i + 1 → ¬ BadLabel x k) := fun hb k hk => by
                        by_cases e : k = i
                        · subst e; exact hb
                        · exact HNB.out k (by omega)
                      generalize q.goal = gq at i2 hbd
                      clear hR hN hg1
                      rcases bool_or gq with hG | hG <;> rcases bool_or T with hT | hT <;> rcases bool_or E with hE | hE <;> subst hG <;> subst hT <;> subst hE
                      all_goals (
                        simp only [Bool.and_true, Bool.and_false, Bool.true_and, Bool.false_and, Bool.or_true, Bool.or_false, Bool.true_or, Bool.false_or, Bool.not_true, Bool.not_false, iff_true, iff_false, Bool.false_eq_true] at hbd
                        have HH : Hid _ := hbd
                        clear hbd
                        go_wp2_with fail
                        first
                          | (go_region
                             go_wp2_with fail
                             go_ret2
                             exact ⟨4, q.at', rfl, HLL.out _ _ HH.out rfl rfl, HBi.out.trans (below_drewN _ _ 1)⟩)
                          | (go_roundw
                             case rel => exact ⟨i + 1, by omega, by go_num, HNB2.out HH.out, HXi, HBi⟩
                             case measure => simp [intOf]; omega))
                · have HA : Hid (∀ k, ¬ BadLabel x k) := fun k hk => by
                    by_cases e : k < i
                    · exact HNB.out k e hk
                    · obtain ⟨l, hl, _⟩ := hk
                      have := (List.getElem?_eq_some_iff.1 hl).1
                      omega
                  clear hR hN HNB
                  go_wp2_with fail
                  go_ret2
                  exact ⟨0, 0, rfl, .inr (.inr ⟨hle, x, HW.out, .inr (.inr ⟨HNo.out, rfl, rfl, HA.out⟩)⟩), HBr.out⟩
        · have HF : Hid (SFails s s.size) := ⟨x, HG.out, Nat.le_refl _, fun h => absurd h (Nat.lt_irrefl _), fun _ => hw⟩
          rw [hw]
          clear hw
          go_wp2_with fail
          go_ret2
          exact ⟨3, s.size, rfl, .inr (.inl ⟨hle, rfl, s.size, rfl, HF.out⟩), HB1.out⟩
end Sk
end Go.Proofs.Ytppjlpihaocdiaa
