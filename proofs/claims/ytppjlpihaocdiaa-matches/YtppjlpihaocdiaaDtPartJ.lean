/- The document's reader: a part with its repetition. -/
import Derived.Test.YtppjlpihaocdiaaDtOneJ
set_option linter.unusedSimpArgs false
set_option linter.unusedVariables false
namespace Go.Proofs.Ytppjlpihaocdiaa
namespace Dt
open Go.RowKit

def reps : ByteArray := ⟨#[42, 43, 63, 123]⟩
theorem inB_reps (c : Nat) : inB reps c = true ↔ c = 42 ∨ c = 43 ∨ c = 63 ∨ c = 123 := by
  simp [inB, reps]; omega

/-- What stands in braces. -/
theorem brace_run {s : ByteArray} (h : Wholly s) {j : Nat} {st : St} (hr : run s j = some st) (hm : st.m = 1) (hj : j < s.size) (hc : byt s j = 123) :
    j + 2 < s.size ∧ 48 ≤ byt s (j + 1) ∧ byt s (j + 1) ≤ 57 ∧ (pk s (j + 2) = 44 → j + 4 < s.size ∧ 48 ≤ byt s (j + 3) ∧ byt s (j + 3) ≤ 57) := by
  obtain ⟨m1, o1, a1, l1⟩ := st
  simp only at hm
  subst hm
  have h3 : run s (j + 1) = some ⟨11, o1, a1, 0⟩ := by
    rw [run_succ hr, hc]
    exact Tr.step_brace
  have h4 := h.inside h3 (by omega) (by simp) (by simp)
  obtain ⟨st2, b1, b2⟩ := h.next h3 h4
  rw [Tr.digit_step (.inl rfl)] at b1
  split at b1
  · rename_i hd
    cases b1
    have h5 := h.inside b2 (by omega) (by simp) (by simp)
    refine ⟨h5, hd.1, hd.2.1, fun e44 => ?_⟩
    obtain ⟨st3, c1, c2⟩ := h.next b2 h5
    rw [if_pos rfl, Tr.brace_step (.inl rfl)] at c1
    have e44' : byt s (j + 1 + 1) = 44 := by
      have := pk_in h5
      rw [show j + 1 + 1 = j + 2 from rfl] at this ⊢
      omega
    rw [if_neg (by omega), if_pos ⟨e44', rfl⟩] at c1
    cases c1
    have h6 := h.inside c2 (by omega) (by simp) (by simp)
    obtain ⟨st4, d1, d2⟩ := h.next c2 h6
    rw [Tr.digit_step (.inr rfl)] at d1
    split at d1
    · rename_i hd2
      cases d1
      have h7 := h.inside d2 (by omega) (by simp) (by simp)
      exact ⟨h7, hd2.1, hd2.2.1⟩
    · cases d1
  · cases b1

section
variable {ch : PSt → PSt × Nat} {s : ByteArray} {p : PSt}
theorem dPartF_no (h : ∀ c, c = 42 ∨ c = 43 ∨ c = 63 ∨ c = 123 → pk s (dOneF ch s p).1.at' ≠ c) : dPartF ch s p = dOneF ch s p := by
  unfold dPartF
  simp only
  rw [if_neg (h 42 (by omega)), if_neg (h 43 (by omega)), if_neg (h 63 (by omega)), if_neg (h 123 (by omega))]
theorem dPartF_42 (h : pk s (dOneF ch s p).1.at' = 42) : dPartF ch s p = addN (dOneF ch s p).1 ((dOneF ch s p).1.at' + 1) (repN (dOneF ch s p).2 0 (-1)) := by
  unfold dPartF
  simp only
  rw [if_pos h]
theorem dPartF_43 (h : pk s (dOneF ch s p).1.at' = 43) : dPartF ch s p = addN (dOneF ch s p).1 ((dOneF ch s p).1.at' + 1) (repN (dOneF ch s p).2 1 (-1)) := by
  unfold dPartF
  simp only
  rw [if_neg (by omega), if_pos h]
theorem dPartF_63 (h : pk s (dOneF ch s p).1.at' = 63) : dPartF ch s p = addN (dOneF ch s p).1 ((dOneF ch s p).1.at' + 1) (repN (dOneF ch s p).2 0 1) := by
  unfold dPartF
  simp only
  rw [if_neg (by omega), if_neg (by omega), if_pos h]
theorem dPartF_two (h : pk s (dOneF ch s p).1.at' = 123) (h2 : pk s ((dOneF ch s p).1.at' + 2) = 44) : dPartF ch s p = addN (dOneF ch s p).1 ((dOneF ch s p).1.at' + 5) (repN (dOneF ch s p).2 (byt s ((dOneF ch s p).1.at' + 1) - 48) ((byt s ((dOneF ch s p).1.at' + 3) - 48 : Nat) : Int)) := by
  unfold dPartF
  simp only
  rw [if_neg (by omega), if_neg (by omega), if_neg (by omega), if_pos h, if_pos h2]
theorem dPartF_one (h : pk s (dOneF ch s p).1.at' = 123) (h2 : ¬ pk s ((dOneF ch s p).1.at' + 2) = 44) : dPartF ch s p = addN (dOneF ch s p).1 ((dOneF ch s p).1.at' + 3) (repN (dOneF ch s p).2 (byt s ((dOneF ch s p).1.at' + 1) - 48) ((byt s ((dOneF ch s p).1.at' + 1) - 48 : Nat) : Int)) := by
  unfold dPartF
  simp only
  rw [if_neg (by omega), if_neg (by omega), if_neg (by omega), if_pos h, if_neg h2]
end

/-- A repetition is being made in block M, its one part named in block K. -/
structure Rp (w wr : World) (b : Nat) (s : ByteArray) (p : PSt) (nv nv' : Value) (X : Nat → Prop) (M K z : Nat) (d : Nd) : Prop where
  nd : Mk w wr b s p nv nv' X M d (.slice (some ⟨K, 0, none⟩) 1 1)
  kid : wr.cell? ⟨K, 0, none⟩ = some (.int .i64 z)
  kb : K ≠ b
  kM : K ≠ M
  kn : nv'.ownBlock ≠ some K
  kX : ¬ X K

section
variable {w wr w' : World} {b : Nat} {s : ByteArray} {p : PSt} {nv nv' : Value} {X : Nat → Prop} {M K z : Nat} {d : Nd}
theorem Rp.cell (h : Rp w wr b s p nv nv' X M K z d) (k : Nat) (hk : k < 261) (v : Value) {d' : Nd} (he : (ndL d (.slice (some ⟨K, 0, none⟩) 1 1)).set k v = ndL d' (.slice (some ⟨K, 0, none⟩) 1 1)) : Rp w (wr.setCell ⟨M, k, none⟩ v) b s p nv nv' X M K z d' :=
  ⟨h.nd.cell k hk v he, (World.cell?_of_block (w := wr) (w' := wr.setCell ⟨M, k, none⟩ v) (a := ⟨K, 0, none⟩) (Below.heap_setCell _ _ _ _ h.kM)).trans h.kid, h.kb, h.kM, h.kn, h.kX⟩
theorem Rp.only (h : Rp w wr b s p nv nv' X M K z d) {p' : PSt} (ho : Only b wr w') (hd : Dr w' b s p' nv' (fun k => X k ∨ k = M)) : Rp w w' b s p' nv nv' X M K z d :=
  ⟨h.nd.only ho hd, (World.cell?_of_block (w := wr) (w' := w') (a := ⟨K, 0, none⟩) (ho.block K h.kb)).trans h.kid, h.kb, h.kM, h.kn, h.kX⟩
theorem Rp.put4 (h : Rp w wr b s p nv nv' X M K z d) {v : Int} (j : Nat) (hv : v = j) (hj : j ≤ s.size) : Rp w (wr.setCell ⟨b, 4, none⟩ (.int .i64 v)) b s ⟨j, p.g, p.l⟩ nv nv' X M K z d :=
  h.only ((Only.refl b wr).setCell 4 _) (h.nd.dr.put4 j hv hj)
theorem Rp.drewN (h : Rp w wr b s p nv nv' X M K z d) (n : Nat) : Rp w (wr.drewN n) b s p nv nv' X M K z d := h.only (Only.drewN (Only.refl b wr) n) (h.nd.dr.drewN n)
theorem Rp.drew (h : Rp w wr b s p nv nv' X M K z d) : Rp w wr.drew b s p nv nv' X M K z d := h.drewN 1
theorem Rp.done (h : Rp w wr b s p nv nv' X M K z d) (hs : d.subs = [z]) (hn : p.l.length ≤ 1000) :
    Calls Try.prog 83 #[.pointer (some ⟨b, 0, none⟩), .agg (ndL d (.slice (some ⟨K, 0, none⟩) 1 1)).toArray] wr fun e w' => ∃ nv'', e = .returned (.int .i64 p.l.length) ∧ Dr w' b s ⟨p.at', p.g, p.l ++ [d]⟩ nv'' X ∧ Tr.Fr b nv nv'' w w' := by
  have h1 : d.subs.length = 1 := by rw [hs]; rfl
  have hm := h.nd
  rw [← h1] at hm
  have := Mk.done (c := d.subs.length) hm hn (.inr ⟨K, rfl, h.kb, h.kn, fun e => e.elim h.kX h.kM, fun k y hy => by
    rw [hs] at hy
    have hk0 : k = 0 := by
      have := (List.getElem?_eq_some_iff.1 hy).1
      simpa using this
    subst hk0
    have hyz : y = z := by simpa using hy.symm
    subst hyz
    exact h.kid⟩)
  rw [h1] at this
  exact this
end

attribute [local go_sem ↓] Go.wp_at_zero Go.wp_at_succ

set_option maxRecDepth 100000 in
set_option maxHeartbeats 4000000 in
theorem part_any (N : Nat) (ih : PatAt N) (b : Nat) (p : PSt) (X : Nat → Prop) (s : ByteArray) (nv : Value) (st : St) (w : World) (hI : OneIn N w b p X s nv st) :
    Calls Try.prog 105 #[.pointer (some ⟨b, 0, none⟩)] w fun e w' => ∃ nv', e = .returned (.int .i64 ((dPartF (dChoiceN s N) s p).2 : Nat)) ∧ Dr w' b s (dPartF (dChoiceN s N) s p).1 nv' X ∧ Tr.Fr b nv nv' w w' := by
  have HI : Hid (OneIn N w b p X s nv st) := hI
  have IH : Hid (PatAt N) := ih
  have hb := hI.dr.lt
  have h40 := hI.dr.s40
  have HXX : Hid (∀ q, X q → q < w.heap.size) := hI.X
  have hcnt := hI.cnt
  have hgc := hI.gc
  obtain ⟨RR, st1, hq1, hq2⟩ := one_reads hI.W (choices_read hI.W N) rfl rfl hI.gd hI.gd hI.rn hI.m2 hI.lt hI.N hI.st
  have hle := RR.le
  rw [RR.at'] at hq1 hle
  have hcn := cnt_one (s := s) (cnt_choiceN s N) p
  clear RR hI ih
  generalize hFF : dPartF (dChoiceN s N) s p = FF
  have HFF : Hid (dPartF (dChoiceN s N) s p = FF) := hFF
  clear hFF
  go_enter Try.func105, Try.ntmps105
  go_wp2_with fail
  refine (one_any N IH.out b p X s nv st _ HI.out).mono ?_
  rintro e w1 ⟨nv1, rfl, hd1, hf1⟩
  have HNO : Hid (∀ k, nv1.ownBlock = some k → k < w1.heap.size) := by
    obtain ⟨xs, ho, _⟩ := hd1.own
    exact fun k hk => (ho.lt k hk).2
  generalize hrr : dOneF (dChoiceN s N) s p = rr at hq1 hle hcn hd1 ⊢
  have HRR : Hid (dOneF (dChoiceN s N) s p = rr) := hrr
  clear hrr
  obtain ⟨⟨j, gj, lj⟩, z⟩ := rr
  simp only at hq1 hle hcn ⊢
  have HD1 : Hid (Dr w1 b s ⟨j, gj, lj⟩ nv1 X) := hd1
  have HF1 : Hid (Tr.Fr b nv nv1 w w1) := hf1
  have HQ1 : Hid (run s j = some st1) := hq1
  have HQ2 : Hid (st1.m = 1) := hq2
  have hlj : lj.length ≤ 1000 := by have := HI.out.lt; omega
  have c3 := hd1.c3
  have c4 := hd1.c4
  have f4 := hd1.f4
  have hsz1 := hf1.size
  have hb1 := hd1.lt
  simp only at c4
  clear hd1 hf1 hq1 hq2
  by_cases hend : j = s.size
  · have HNP : Hid (FF = (⟨j, gj, lj⟩, z)) := by
      rw [Hid, ← HFF.out, dPartF_no (fun c hc => by rw [HRR.out]; simp only; rw [pk_out (by omega)]; omega), HRR.out]
    have he : ((j : Int) == (s.size : Int)) = true := by simp; omega
    go_wp2_with fail
    go_quiet (fail)
    go_wp2_with fail
    go_ret
    rw [HNP.out]
    exact ⟨nv1, rfl, HD1.out.drewN _, HF1.out.trans (Tr.Only.fr (Only.drewN (Only.refl b w1) _) nv1)⟩
  · have hj : j < s.size := by omega
    have he : ((j : Int) == (s.size : Int)) = false := by simp; omega
    have hy : ((s[j]).toNat : Int) = (byt s j : Int) := byt_int s j hj
    have hyl := byt_lt s j
    have hpk := pk_in hj
    have k1 : (0 : Int) ≤ (j : Int) := by omega
    have k2 : (j : Int) < (s.size : Int) := by omega
    obtain ⟨c, hc⟩ : ∃ c, byt s j = c := ⟨_, rfl⟩
    have HB : Hid (byt s j = c) := hc
    rw [hc] at hy hyl hpk
    have HPK : Hid (pk s j = (c : Int)) := hpk
    have HIN : Hid (∀ (y' : Nat) (w' : World), (y' : Int) = c → Calls Try.prog 58 #[.string reps, .int .u8 y'] w' fun e w'' => e = .returned (.bool (inB reps c)) ∧ w'' = w') := by
      intro y' w' h
      have : y' = c := by omega
      subst this
      exact in_any reps y' w' (by decide)
    clear hc hpk
    rcases bool_or (inB reps c) with hq | hq
    · have HQ : Hid (inB reps c = true) := hq
      have hc4 := (inB_reps c).1 hq
      rw [hq] at HIN
      clear hq
      go_wp2_with fail
      go_quiet ((go_at_call 58; exact Calls.quiet_of_same (HIN.out _ _ (by first | exact hy | rfl | omega))))
      obtain ⟨n1, hn1⟩ : ∃ n1, n1 = nq := ⟨_, rfl⟩
      rw [← hn1]
      clear hn1
      go_wp2_with fail
      go_quiet (fail)
      have HD2 : Hid (Dr ((w1.drewN (n1 + nq)).setCell ⟨b, 4, none⟩ (.int .i64 ((j : Int) + 1))) b s ⟨j + 1, gj, lj⟩ nv1 X) := (HD1.out.drewN _).put4 (v := (j : Int) + 1) (j + 1) (by omega) (by omega)
      have HO2 : Hid (Only b w1 ((w1.drewN (n1 + nq)).setCell ⟨b, 4, none⟩ (.int .i64 ((j : Int) + 1)))) := (Only.drewN (Only.refl b w1) _).setCell 4 _
      go_upto_region 6 with fail
      generalize (w1.drewN (n1 + nq)).setCell ⟨b, 4, none⟩ (.int .i64 ((j : Int) + 1)) = w2 at HD2 HO2 ⊢
      clear c3 c4 f4 HIN
      have HZ2 : Hid (w2.heap.size = w1.heap.size) := HO2.out.size
      have HA : Hid ((w2.alloc (.cells #[.int .i64 (z : Int)] 3)).heap.size = w2.heap.size + 1) := by simp [Hid]
      go_upto_region 7 with (first
        | (refine wpList_build_row 51 rfl rfl 140 _ rfl _ (built6 _) ?_)
        | (refine wpList_alloc_row 5 rfl rfl 140 rfl _ Try.zero140 ?_; intro w3 h3 hR3 hB3; have HR3 : Hid (Row w3 (w2.alloc (.cells #[.int .i64 (z : Int)] 3)).heap.size (ndL ⟨0, noSet, [], 0, 0, 0⟩ (.slice none 0 0))) := hR3; rw [HA.out] at h3 hB3; have HB3 : Hid (Below (w2.heap.size + 1) (w2.alloc (.cells #[.int .i64 (z : Int)] 3)) w3) := hB3; clear hR3 hB3)
        | (refine wpList_store_row rfl 140 (.tmp 5) (.tmp 51) rfl _ rfl _ rfl _ HR3.out (by rw [ndL_length, ndL_length]) (Try.size140 _ _) (ndL_one _ _ _ _) ?_; intro w4 hR4 hS4; rw [HA.out] at hR4 hS4; have HR4 : Hid (Row w4 (w2.heap.size + 1) (ndL ⟨6, noSet, [], 0, 0, 0⟩ (.slice (some ⟨w2.heap.size, 0, none⟩) 1 1))) := hR4; have HS4 : Hid (Sole (w2.heap.size + 1) w3 w4) := hS4; clear hR4 hS4))
      have HK : Hid (Rp w w4 b s ⟨j + 1, gj, lj⟩ nv nv1 X (w2.heap.size + 1) w2.heap.size z ⟨6, noSet, [z], 0, 0, 0⟩) := by
        have hz2 := HZ2.out
        have hB2 : Below w2.heap.size w2 (w2.alloc (.cells #[.int .i64 (z : Int)] 3)) := (Below.refl _ _).alloc (Nat.le_refl _) _
        have hB3 : Below w2.heap.size w2 w3 := hB2.trans (HB3.out.mono (by omega))
        have hk3 : w3.cell? ⟨w2.heap.size, 0, none⟩ = some (.int .i64 (z : Int)) := by
          rw [HB3.out.cell (p := ⟨w2.heap.size, 0, none⟩) (by show w2.heap.size < w2.heap.size + 1; omega)]
          rw [cell_of_row _ w2.heap.size 0 #[.int .i64 (z : Int)] 3 (0, 0) (heap_alloc_last w2 _)]
          rfl
        have hk4 : w4.cell? ⟨w2.heap.size, 0, none⟩ = some (.int .i64 (z : Int)) := (World.cell?_of_block (w := w3) (w' := w4) (a := ⟨w2.heap.size, 0, none⟩) (HS4.out.block _ (by show w2.heap.size ≠ w2.heap.size + 1; omega))).trans hk3
        refine ⟨⟨HR4.out, ((HD2.out.bar (fun k => X k ∨ k = w2.heap.size + 1) (fun k hk h => h.elim id (fun e => by omega))).grow hB3).sole HS4.out (by omega) (fun e => by have := HNO.out _ e; omega) (.inr rfl), Fr.sole ((HF1.out.trans (Tr.Only.fr HO2.out nv1)).trans (Tr.Below.fr hB3 nv1)) HS4.out (by omega), by omega, by omega, fun e => by have := HNO.out _ e; omega⟩, hk4, by omega, by omega, fun e => by have := HNO.out _ e; omega, fun e => by have := HXX.out _ e; omega⟩
      have hbM : b < w2.heap.size + 1 := by have := HZ2.out; omega
      rw [HA.out]
      clear HR3 HB3 HR4 HS4 HD2 HO2 HA h3
      have HMK : Hid (∃ M K : Nat, M = w2.heap.size + 1 ∧ K = w2.heap.size) := ⟨_, _, rfl, rfl⟩
      obtain ⟨M, K, hM, hK⟩ := HMK.out
      rw [← hM] at HK hbM ⊢
      rw [← hK] at HK ⊢
      clear hM hK HMK HZ2
      have hne1 : M ≠ b := by omega
      have hne2 : b ≠ M := by omega
      have m259 := HK.out.nd.row.cell (ndL_tail _ _ 2)
      have f259 := HK.out.nd.row.frozen (k := 259) (by rw [ndL_length]; omega)
      have m260 := HK.out.nd.row.cell (ndL_tail _ _ 3)
      have f260 := HK.out.nd.row.frozen (k := 260) (by rw [ndL_length]; omega)
      simp only at m259 m260
      by_cases h42 : c = 42
      · subst h42
        have HK2 : Hid (Rp w (w4.setCell ⟨M, 260, none⟩ (.int .i64 (-1))) b s ⟨j + 1, gj, lj⟩ nv nv1 X M K z ⟨6, noSet, [z], 0, 0, -1⟩) := HK.out.cell 260 (by omega) _ (ndL_put_hi _ _ (-1))
        go_wp2_with (first | (refine wpList_load_row 117 rfl rfl 140 (.tmp 5) rfl _ rfl _ _ HK2.out.nd.row Try.underlying140 rfl (Try.size140 _ _) ?_))
        refine (Rp.done HK2.out rfl hlj).mono ?_
        rintro e w8 ⟨nv8, rfl, p1, p2⟩
        go_wp2_with fail
        go_ret
        have hF : FF = addN ⟨j, gj, lj⟩ (j + 1) (repN z 0 (-1)) := by rw [← HFF.out, dPartF_42 (by rw [HRR.out]; exact HPK.out), HRR.out]
        rw [hF]
        exact ⟨nv8, rfl, p1, p2⟩
      by_cases h43 : c = 43
      · subst h43
        have HK2 : Hid (Rp w ((w4.setCell ⟨M, 259, none⟩ (.int .i64 1)).setCell ⟨M, 260, none⟩ (.int .i64 (-1))) b s ⟨j + 1, gj, lj⟩ nv nv1 X M K z ⟨6, noSet, [z], 0, 1, -1⟩) := (HK.out.cell 259 (by omega) (.int .i64 1) (ndL_put_lo _ _ 1)).cell 260 (by omega) _ (ndL_put_hi _ _ (-1))
        go_wp2_with (first | (refine wpList_load_row 117 rfl rfl 140 (.tmp 5) rfl _ rfl _ _ HK2.out.nd.row Try.underlying140 rfl (Try.size140 _ _) ?_))
        refine (Rp.done HK2.out rfl hlj).mono ?_
        rintro e w8 ⟨nv8, rfl, p1, p2⟩
        go_wp2_with fail
        go_ret
        have hF : FF = addN ⟨j, gj, lj⟩ (j + 1) (repN z 1 (-1)) := by rw [← HFF.out, dPartF_43 (by rw [HRR.out]; exact HPK.out), HRR.out]
        rw [hF]
        exact ⟨nv8, rfl, p1, p2⟩
      by_cases h63 : c = 63
      · subst h63
        have HK2 : Hid (Rp w (w4.setCell ⟨M, 260, none⟩ (.int .i64 1)) b s ⟨j + 1, gj, lj⟩ nv nv1 X M K z ⟨6, noSet, [z], 0, 0, 1⟩) := HK.out.cell 260 (by omega) _ (ndL_put_hi _ _ 1)
        go_wp2_with (first | (refine wpList_load_row 117 rfl rfl 140 (.tmp 5) rfl _ rfl _ _ HK2.out.nd.row Try.underlying140 rfl (Try.size140 _ _) ?_))
        refine (Rp.done HK2.out rfl hlj).mono ?_
        rintro e w8 ⟨nv8, rfl, p1, p2⟩
        go_wp2_with fail
        go_ret
        have hF : FF = addN ⟨j, gj, lj⟩ (j + 1) (repN z 0 1) := by rw [← HFF.out, dPartF_63 (by rw [HRR.out]; exact HPK.out), HRR.out]
        rw [hF]
        exact ⟨nv8, rfl, p1, p2⟩
      have hc123 : c = 123 := by omega
      subst hc123
      obtain ⟨hj2, hd1, hd2, h44⟩ := brace_run HI.out.W HQ1.out HQ2.out hj HB.out
      have H44 : Hid (pk s (j + 2) = 44 → j + 4 < s.size ∧ 48 ≤ byt s (j + 3) ∧ byt s (j + 3) ≤ 57) := h44
      have hj1 : j + 1 < s.size := by omega
      have hy1 : ((s[j + 1]).toNat : Int) = (byt s (j + 1) : Int) := byt_int s (j + 1) hj1
      generalize hgy : byt s (j + 1) = y at hy1 hd1 hd2
      have HGY : Hid (byt s (j + 1) = y) := hgy
      have k5 : (0 : Int) ≤ (j : Int) + 1 := by omega
      have k6 : (j : Int) + 1 < (s.size : Int) := by omega
      have b3 := HK.out.nd.dr.c3
      have b4 := HK.out.nd.dr.c4
      have bf4 := HK.out.nd.dr.f4
      simp only at b4
      clear hgy h44 h42 h43 h63 hc4
      go_upto_region 8 with fail
      go_region
      have hsub : ((y : Int) - 48) = ((y - 48 : Nat) : Int) := by omega
      have HSUB : Hid (((y : Int) - 48) = ((y - 48 : Nat) : Int)) := hsub
      have HK2 : Hid (Rp w ((((w4.setCell ⟨M, 259, none⟩ (.int .i64 ((y : Int) - 48))).setCell ⟨M, 260, none⟩ (.int .i64 ((y : Int) - 48))).setCell ⟨b, 4, none⟩ (.int .i64 ((j : Int) + 1 + 1))).drew) b s ⟨j + 2, gj, lj⟩ nv nv1 X M K z ⟨6, noSet, [z], 0, y - 48, ((y - 48 : Nat) : Int)⟩) := by
        rw [hsub]
        exact (((HK.out.cell 259 (by omega) (.int .i64 ((y - 48 : Nat) : Int)) (ndL_put_lo _ _ (y - 48))).cell 260 (by omega) (.int .i64 ((y - 48 : Nat) : Int)) (ndL_put_hi _ _ _)).put4 (v := (j : Int) + 1 + 1) (j + 2) (by omega) (by omega)).drew
      clear hsub
      go_wp2_with fail
      refine (is_any b ⟨j + 2, gj, lj⟩ _ s nv1 44 _ HK2.out.nd.dr).mono ?_
      rintro e w5 ⟨rfl, n5, rfl⟩
      have HK3 : Hid _ := HK2.out.drewN n5
      clear HK2 HK m259 f259 m260 f260 b3 b4 bf4
      generalize (((((w4.setCell ⟨M, 259, none⟩ (.int .i64 ((y : Int) - 48))).setCell ⟨M, 260, none⟩ (.int .i64 ((y : Int) - 48))).setCell ⟨b, 4, none⟩ (.int .i64 ((j : Int) + 1 + 1))).drew).drewN n5) = w5 at HK3 ⊢
      have m260 := HK3.out.nd.row.cell (ndL_tail _ _ 3)
      have f260 := HK3.out.nd.row.frozen (k := 260) (by rw [ndL_length]; omega)
      have b3 := HK3.out.nd.dr.c3
      have b4 := HK3.out.nd.dr.c4
      have bf4 := HK3.out.nd.dr.f4
      simp only at m260 b4 ⊢
      by_cases h44 : pk s (j + 2) = ((44 : Nat) : Int)
      · have hd : decide (pk s (j + 2) = ((44 : Nat) : Int)) = true := by simpa using h44
        rw [hd]
        obtain ⟨hj4, he1, he2⟩ := H44.out h44
        have HP44 : Hid (pk s (j + 2) = 44) := h44
        have hj3 : j + 3 < s.size := by omega
        have hy3 : ((s[j + 3]).toNat : Int) = (byt s (j + 3) : Int) := byt_int s (j + 3) hj3
        generalize hgx : byt s (j + 3) = x at hy3 he1 he2
        have HGX : Hid (byt s (j + 3) = x) := hgx
        have k7 : (0 : Int) ≤ (j : Int) + 2 + 1 := by omega
        have k8 : (j : Int) + 2 + 1 < (s.size : Int) := by omega
        clear hd h44 hgx
        go_upto_region 13 with fail
        go_region
        have hsub : ((x : Int) - 48) = ((x - 48 : Nat) : Int) := by omega
        have HK4 : Hid (Rp w ((((w5.setCell ⟨M, 260, none⟩ (.int .i64 ((x : Int) - 48))).setCell ⟨b, 4, none⟩ (.int .i64 ((j : Int) + 2 + 2))).setCell ⟨b, 4, none⟩ (.int .i64 ((j : Int) + 2 + 2 + 1))).drew) b s ⟨j + 5, gj, lj⟩ nv nv1 X M K z ⟨6, noSet, [z], 0, y - 48, ((x - 48 : Nat) : Int)⟩) := by
          rw [hsub]
          exact (((HK3.out.cell 260 (by omega) (.int .i64 ((x - 48 : Nat) : Int)) (ndL_put_hi _ _ _)).put4 (v := (j : Int) + 2 + 2) (j + 4) (by omega) (by omega)).put4 (v := (j : Int) + 2 + 2 + 1) (j + 5) (by omega) (by omega)).drew
        clear hsub
        go_wp2_with (first | (refine wpList_load_row 117 rfl rfl 140 (.tmp 5) rfl _ rfl _ _ HK4.out.nd.row Try.underlying140 rfl (Try.size140 _ _) ?_))
        refine (Rp.done HK4.out rfl hlj).mono ?_
        rintro e w8 ⟨nv8, rfl, p1, p2⟩
        go_wp2_with fail
        go_ret
        have hF : FF = addN ⟨j, gj, lj⟩ (j + 5) (repN z (y - 48) ((x - 48 : Nat) : Int)) := by
          rw [← HFF.out, dPartF_two (by rw [HRR.out]; exact HPK.out) (by rw [HRR.out]; exact HP44.out), HRR.out, ← HGY.out, ← HGX.out]
        rw [hF]
        exact ⟨nv8, rfl, p1, p2⟩
      · have hd : decide (pk s (j + 2) = ((44 : Nat) : Int)) = false := by simpa using h44
        rw [hd]
        have HP44 : Hid (¬ pk s (j + 2) = 44) := h44
        have HK4 : Hid (Rp w (w5.setCell ⟨b, 4, none⟩ (.int .i64 ((j : Int) + 2 + 1))) b s ⟨j + 3, gj, lj⟩ nv nv1 X M K z ⟨6, noSet, [z], 0, y - 48, ((y - 48 : Nat) : Int)⟩) := HK3.out.put4 (v := (j : Int) + 2 + 1) (j + 3) (by omega) (by omega)
        clear hd h44
        go_wp2_with (first | (refine wpList_load_row 117 rfl rfl 140 (.tmp 5) rfl _ rfl _ _ HK4.out.nd.row Try.underlying140 rfl (Try.size140 _ _) ?_))
        refine (Rp.done HK4.out rfl hlj).mono ?_
        rintro e w8 ⟨nv8, rfl, p1, p2⟩
        go_wp2_with fail
        go_ret
        have hF : FF = addN ⟨j, gj, lj⟩ (j + 3) (repN z (y - 48) ((y - 48 : Nat) : Int)) := by
          rw [← HFF.out, dPartF_one (by rw [HRR.out]; exact HPK.out) (by rw [HRR.out]; exact HP44.out), HRR.out, ← HGY.out]
        rw [hF]
        exact ⟨nv8, rfl, p1, p2⟩
    · have HQ : Hid (inB reps c = false) := hq
      rw [hq] at HIN
      have HNP : Hid (FF = (⟨j, gj, lj⟩, z)) := by
        have hn : ¬ (inB reps c = true) := by rw [HQ.out]; simp
        rw [inB_reps] at hn
        rw [Hid, ← HFF.out, dPartF_no (fun c' hc => by rw [HRR.out]; simp only; rw [HPK.out]; omega), HRR.out]
      clear hq
      go_wp2_with fail
      go_quiet ((go_at_call 58; exact Calls.quiet_of_same (HIN.out _ _ (by first | exact hy | rfl | omega))))
      go_wp2_with fail
      go_ret
      rw [HNP.out]
      exact ⟨nv1, rfl, HD1.out.drewN _, HF1.out.trans (Tr.Only.fr (Only.drewN (Only.refl b w1) _) nv1)⟩
end Dt
end Go.Proofs.Ytppjlpihaocdiaa
