/- Several texts in one. -/
import Derived.Test.YtppjlpihaocdiaaTrGroupK
/- 'one': a single part of a pattern, without its repetition. -/
set_option linter.unusedSimpArgs false
set_option linter.unusedVariables false
namespace Go.Proofs.Ytppjlpihaocdiaa
namespace Tr
open Go.RowKit

theorem starts_any (b : Nat) (s : ByteArray) (i : Nat) (w : World) (hr : Rc w b s i) :
    Calls Try.prog 79 #[.pointer (some ⟨b, 0, none⟩)] w fun e w' => e = .returned (.bool (starts s i)) ∧ Mv b w w' i := by
  refine (startsPart_any b s i w hr).mono ?_
  rintro e w' ⟨rfl, n, rfl⟩
  exact ⟨rfl, hr.stay.drewN n⟩

theorem begins_plain {st : St} {c : Nat} (hc : inB noStart c = false) (h1 : c ≠ 40) (h2 : c ≠ 91) (h3 : c ≠ 92) : begins st c = some ⟨1, st.o, st.a, st.l⟩ := by
  unfold begins
  rw [if_neg h1, if_neg h2, if_neg h3, if_neg (by rw [hc]; simp)]

theorem step_esc (o a l c : Nat) : step ⟨3, o, a, l⟩ c = if inB escs c = true then some ⟨1, o, a, l⟩ else none := rfl

section
variable {ch : PSt → PSt × Nat} {s : ByteArray} {p : PSt}
theorem oneF_94 (h : byt s p.at' = 94) : oneF ch s p = addN p (p.at' + 1) (leaf 1 noSet) := by unfold oneF; simp only [h]; rfl
theorem oneF_36 (h : byt s p.at' = 36) : oneF ch s p = addN p (p.at' + 1) (leaf 2 noSet) := by unfold oneF; simp only [h]; rfl
theorem oneF_46 (h : byt s p.at' = 46) : oneF ch s p = addN p (p.at' + 1) (leaf 0 fun _ => true) := by unfold oneF; simp only [h]; rfl
theorem oneF_40 (h : byt s p.at' = 40) : oneF ch s p = addN (ch ⟨p.at' + 1, p.g + 1, p.l⟩).1 ((ch ⟨p.at' + 1, p.g + 1, p.l⟩).1.at' + 1) (grpN (ch ⟨p.at' + 1, p.g + 1, p.l⟩).2 p.g) := by unfold oneF; simp only [h]; rfl
theorem oneF_91 (h : byt s p.at' = 91) : oneF ch s p = addN p (setV s p.at').1 (leaf 0 (setV s p.at').2) := by unfold oneF; simp only [h]; rfl
theorem oneF_92 (h : byt s p.at' = 92) : oneF ch s p = addN p (p.at' + 2) (leaf 0 (addR noSet (val (byt s (p.at' + 1))) (val (byt s (p.at' + 1))))) := by unfold oneF; simp only [h]; rfl
theorem oneF_else {c : Nat} (h : byt s p.at' = c) (h1 : c ≠ 94) (h2 : c ≠ 36) (h3 : c ≠ 46) (h4 : c ≠ 40) (h5 : c ≠ 91) (h6 : c ≠ 92) : oneF ch s p = addN p (p.at' + 1) (leaf 0 (addR noSet c c)) := by
  unfold oneF; simp only [h]; rw [if_neg h1, if_neg h2, if_neg h3, if_neg h4, if_neg h5, if_neg h6]
end

/-- Ahead of a single part. -/
structure OneIn (N : Nat) (w : World) (b i o g : Nat) (n : NX) (s : ByteArray) (nv : Value) (st : St) : Prop where
  rd : Rd w b s i o g nv n
  n2 : n.l.length ≤ 2 * i
  X : ∀ q, n.X q → q < w.heap.size
  run : run s i = some st
  o : st.o = o
  a : st.a = g
  m2 : st.m ≤ 2
  st : st.m = 0 ∨ starts s i = true
  N : s.size - i < N + 1

set_option maxHeartbeats 1000000 in
theorem one_any (N : Nat) (ih : ChoiceAt N) (b i o g : Nat) (n : NX) (s : ByteArray) (nv : Value) (st : St) (w : World) (hI : OneIn N w b i o g n s nv st) :
    Calls Try.prog 102 #[.pointer (some ⟨b, 0, none⟩)] w fun e w' => ∃ (z : Int) (ok : Bool), e = .returned (.tuple #[.int .i64 z, .bool ok]) ∧ Post b s i o n nv w (fun _ st => st.m = 1) (oneF (choiceN s N) s ⟨i, g, n.l⟩) z ok w' := by
  obtain ⟨hr, hn, hX, hrun, ho, ha, hm, hst, hN⟩ := hI
  have HXX : Hid (∀ q, n.X q → q < w.heap.size) := hX
  clear hX
  generalize hFF : oneF (choiceN s N) s ⟨i, g, n.l⟩ = FF
  have HFF : Hid (oneF (choiceN s N) s ⟨i, g, n.l⟩ = FF) := hFF
  clear hFF
  have HR : Hid (Rd w b s i o g nv n) := hr
  have HG : Hid (run s i = some st) := hrun
  have IH : Hid (ChoiceAt N) := ih
  have hle := hr.rc.le
  have h40 := hr.rc.s40
  clear hr hrun ih
  rcases bool_or (starts s i) with hq | hq
  · have HQ : Hid (starts s i = true) := hq
    have hi : i < s.size := by simp [starts] at hq; exact hq.1
    have HC : Hid (inB noStart (byt s i) = false) := by simp [starts] at hq; exact hq.2
    have HI : Hid (i < s.size) := hi
    have hy : ((s[i]).toNat : Int) = (byt s i : Int) := byt_int s i hi
    have hyl := byt_lt s i
    obtain ⟨c, hc⟩ : ∃ c, byt s i = c := ⟨_, rfl⟩
    have HB : Hid (byt s i = c) := hc
    rw [hc] at hy hyl HC
    have HST : Hid (run s (i + 1) = begins st c) := by
      rw [Hid, run_succ HG.out, HB.out, step_low hm HC.out]
    have k1 : (0 : Int) ≤ (i : Int) := by omega
    have k2 : (i : Int) < (s.size : Int) := by omega
    clear hq hc hst
    go_enter Try.func102, Try.ntmps102
    go_wp2_with fail
    refine (starts_any b s i _ HR.out.rc).mono ?_
    rw [HQ.out]
    rintro e w1 ⟨rfl, hm1⟩
    have HR1 : Hid (Rd w1 b s i o g nv n) := Mv.rd hm1 HR.out hle
    have HF1 : Hid (Fr b nv nv w w1) := Mv.fr hm1 nv
    have rr := hm1.rc HR.out.rc hle
    obtain ⟨r0, r1, rf, rle, r40⟩ := rr
    clear hm1 rle
    go_wp2_with fail
    go_quiet (fail)
    have HR2 : Hid (Rd (w1.drewN nq) b s i o g nv n) := Rd.drewN HR1.out nq
    have HF2 : Hid (Fr b nv nv w (w1.drewN nq)) := HF1.out.trans (Mv.fr (HR1.out.rc.stay.drewN nq) nv)
    clear r0 r1 rf
    generalize w1.drewN nq = w2 at HR2 HF2
    by_cases h94 : c = 94
    · subst h94
      have HP : Hid (run s (i + 1) = some ⟨1, st.o, st.a, st.l⟩) := by rw [Hid, HST.out, begins_plain HC.out (by decide) (by decide) (by decide)]
      go_wp2_with fail
      refine (sign_any b i o g n s nv _ HR2.out (by omega) HI.out 0 1 noSet 0 0 0 0 (by omega) rfl S4.zero).mono ?_
      rintro e w8 ⟨nv', rfl, p1, p2⟩
      go_wp2_with fail
      go_ret2
      exact ⟨_, true, rfl, .inl ⟨rfl, _, _, _, nv', _, n.l.length, p1, HF2.out.trans p2, HP.out, ho, ha, by omega, by rw [len_add]; omega, rfl, rfl, rfl, by rw [len_add]; omega, by rw [← HFF.out, oneF_94 HB.out]; rfl⟩⟩
    · by_cases h36 : c = 36
      · subst h36
        have HP : Hid (run s (i + 1) = some ⟨1, st.o, st.a, st.l⟩) := by rw [Hid, HST.out, begins_plain HC.out (by decide) (by decide) (by decide)]
        go_wp2_with fail
        refine (sign_any b i o g n s nv _ HR2.out (by omega) HI.out 1 2 noSet 0 0 0 0 (by omega) rfl S4.zero).mono ?_
        rintro e w8 ⟨nv', rfl, p1, p2⟩
        go_wp2_with fail
        go_ret2
        exact ⟨_, true, rfl, .inl ⟨rfl, _, _, _, nv', _, n.l.length, p1, HF2.out.trans p2, HP.out, ho, ha, by omega, by rw [len_add]; omega, rfl, rfl, rfl, by rw [len_add]; omega, by rw [← HFF.out, oneF_36 HB.out]; rfl⟩⟩
      · by_cases h46 : c = 46
        · subst h46
          have HP : Hid (run s (i + 1) = some ⟨1, st.o, st.a, st.l⟩) := by rw [Hid, HST.out, begins_plain HC.out (by decide) (by decide) (by decide)]
          go_wp2_with fail
          refine (others_any 0 0 0 0 _ _ S4.zero).mono ?_
          rintro e w3 ⟨⟨x0, x1, x2, x3, rfl, hx4⟩, hB3⟩
          have HX4 : Hid (S4 x0 x1 x2 x3 fun _ => true) := hx4
          clear hx4
          have HB3 : Hid (Below w2.heap.size w2 w3) := hB3
          clear hB3
          go_wp2_with fail
          refine (sign_any b i o g n s nv _ (Below.rd HB3.out HR2.out) (by omega) HI.out 2 0 (fun _ => true) x0 x1 x2 x3 (by omega) rfl HX4.out).mono ?_
          rintro e w8 ⟨nv', rfl, p1, p2⟩
          go_wp2_with fail
          go_ret2
          exact ⟨_, true, rfl, .inl ⟨rfl, _, _, _, nv', _, n.l.length, p1, (HF2.out.trans (Below.fr HB3.out nv)).trans p2, HP.out, ho, ha, by omega, by rw [len_add]; omega, rfl, rfl, rfl, by rw [len_add]; omega, by rw [← HFF.out, oneF_46 HB.out]; rfl⟩⟩
        · by_cases h40c : c = 40
          · subst h40c
            go_wp2_with fail
            refine (group_any N IH.out b i o g n s nv st _ HR2.out hn (fun q hq => Nat.lt_of_lt_of_le (HXX.out q hq) HF2.out.size) HI.out HG.out ho ha (by rw [HB.out]; exact step_low hm HC.out) hN).mono ?_
            rintro e w3 ⟨z, ok, rfl, hP⟩
            have HP : Hid (Post b s i o n nv w (fun _ st => st.m = 1) FF z ok w3) := by
              have := Post.after HR.out HF2.out (Nat.le_refl _) (Nat.le_refl _) rfl hP
              rw [← HFF.out, oneF_40 HB.out]
              exact this
            clear hP
            go_wp2_with fail
            go_ret2
            exact ⟨z, ok, rfl, HP.out⟩
          · by_cases h91 : c = 91
            · subst h91
              have HP1 : Hid (run s (i + 1) = some ⟨4, o, g, st.l⟩) := by rw [Hid, HST.out, ← ho, ← ha]; rfl
              go_wp2_with fail
              refine (set_any b i o g st.l n s nv _ HR2.out (by omega) HI.out HP1.out).mono ?_
              rintro e w3 ⟨z, ok, rfl, hP⟩
              have HP : Hid (Post b s i o n nv w (fun _ st => st.m = 1) FF z ok w3) := by
                have := Post.after HR.out HF2.out (Nat.le_refl _) (Nat.le_refl _) rfl hP
                rw [← HFF.out, oneF_91 HB.out]
                exact this
              clear hP
              go_wp2_with fail
              go_ret2
              exact ⟨z, ok, rfl, HP.out⟩
            · by_cases h92 : c = 92
              · subst h92
                have HP1 : Hid (run s (i + 1) = some ⟨3, st.o, st.a, st.l⟩) := by rw [Hid, HST.out]; rfl
                go_wp2_with fail
                refine (escape_any b s i 0 _ HR2.out.rc HI.out (by omega)).mono ?_
                rintro e w3 ⟨v, ok, j, rfl, hm3, hE⟩
                have HM3 : Hid (Mv b w2 w3 j) := hm3
                clear hm3
                rcases hE with ⟨g1, rfl, hj, rfl⟩ | ⟨g1, rfl, hj, rfl, g2⟩ | ⟨g1, rfl, hj, g2, g3, g4, hv⟩
                · omega
                · have HF : Hid (Fails s j) := by
                    rw [hj]
                    refine Fails.here HP1.out (by omega) (fun hlt => ?_) (fun _ => not_whole (by simp) (by simp))
                    have hx : ¬ (inB escs (byt s (i + 1)) = true) := fun hx => g2 ⟨hlt, hx, Nat.zero_le _⟩
                    rw [step_esc, if_neg hx]
                  have HBW : Hid (Below b w w3) := (HF2.out.trans (Mv.fr HM3.out nv)).below HR.out
                  clear g2
                  go_wp2_with fail
                  go_ret2
                  exact ⟨_, false, rfl, .inr ⟨rfl, j, HF.out, HM3.out.c1, HBW.out⟩⟩
                · have HP2 : Hid (run s j = some ⟨1, st.o, st.a, st.l⟩) := by
                    rw [hj, Hid, run_succ HP1.out, step_esc, if_pos g3]
                  have hv255 : v ≤ 255 := by rw [hv]; exact val_le (byt_lt s (i + 1))
                  have hjs : j ≤ s.size := by omega
                  have HR3 : Hid (Rd w3 b s j o g nv n) := Mv.rd HM3.out HR2.out hjs
                  have HF3 : Hid (Fr b nv nv w w3) := HF2.out.trans (Mv.fr HM3.out nv)
                  have HVV : Hid (v = val (byt s (i + 1))) := hv
                  have HJJ : Hid (j = i + 2) := hj
                  clear g2 g3 g4 hv
                  go_wp2_with fail
                  refine (with_any 0 0 0 0 noSet v v _ S4.zero hv255 hv255).mono ?_
                  rintro e w4 ⟨⟨x0, x1, x2, x3, rfl, hx4⟩, hB4⟩
                  have HX4 : Hid (S4 x0 x1 x2 x3 (addR noSet v v)) := hx4
                  clear hx4
                  have HB4 : Hid (Below w3.heap.size w3 w4) := hB4
                  clear hB4
                  go_wp2_with fail
                  refine (add_any b j o g n s nv _ (Below.rd HB4.out HR3.out) (by omega) (leaf 0 (addR noSet v v)) 2 0 0 0 0 none 0 x0 x1 x2 x3 rfl rfl rfl rfl rfl HX4.out (.inl rfl) (Nat.le_refl _) (PNd_leaf (by omega))).mono ?_
                  rintro e w8 ⟨nv', rfl, p1, p2⟩
                  go_wp2_with fail
                  go_ret2
                  exact ⟨_, true, rfl, .inl ⟨rfl, _, _, _, nv', _, n.l.length, p1, (HF3.out.trans (Below.fr HB4.out nv)).trans p2, HP2.out, ho, ha, by omega, by rw [len_add]; omega, rfl, rfl, rfl, by rw [len_add]; omega, by rw [← HFF.out, oneF_92 HB.out, HVV.out, HJJ.out]; rfl⟩⟩
              · have q1 : ((c : Int) == 94) = false := by simp; omega
                have q2 : ((c : Int) == 36) = false := by simp; omega
                have q3 : ((c : Int) == 46) = false := by simp; omega
                have q4 : ((c : Int) == 40) = false := by simp; omega
                have q5 : ((c : Int) == 91) = false := by simp; omega
                have q6 : ((c : Int) == 92) = false := by simp; omega
                have HP : Hid (run s (i + 1) = some ⟨1, st.o, st.a, st.l⟩) := by rw [Hid, HST.out, begins_plain HC.out h40c h91 h92]
                go_wp2_with fail
                refine (with_any 0 0 0 0 noSet (s[i]).toNat (s[i]).toNat _ S4.zero (by omega) (by omega)).mono ?_
                rintro e w3 ⟨⟨x0, x1, x2, x3, rfl, hx4⟩, hB3⟩
                have HX4 : Hid (S4 x0 x1 x2 x3 (addR noSet c c)) := by
                  have e : (s[i]).toNat = c := by omega
                  rw [e] at hx4
                  exact hx4
                clear hx4
                have HB3 : Hid (Below w2.heap.size w2 w3) := hB3
                clear hB3 q1 q2 q3 q4 q5 q6
                go_wp2_with fail
                refine (sign_any b i o g n s nv _ (Below.rd HB3.out HR2.out) (by omega) HI.out 2 0 (addR noSet c c) x0 x1 x2 x3 (by omega) rfl HX4.out).mono ?_
                rintro e w8 ⟨nv', rfl, p1, p2⟩
                go_wp2_with fail
                go_ret2
                exact ⟨_, true, rfl, .inl ⟨rfl, _, _, _, nv', _, n.l.length, p1, (HF2.out.trans (Below.fr HB3.out nv)).trans p2, HP.out, ho, ha, by omega, by rw [len_add]; omega, rfl, rfl, rfl, by rw [len_add]; omega, by rw [← HFF.out, oneF_else HB.out h94 h36 h46 h40c h91 h92]; rfl⟩⟩
  · have HQ : Hid (starts s i = false) := hq
    have HF : Hid (Fails s i) := by
      have h0 : st.m = 0 := by
        rcases hst with h | h
        · exact h
        · rw [hq] at h; cases h
      refine Fails.here HG.out hle (fun hlt => ?_) (fun _ => not_whole (by omega) (by omega))
      have hs : inB noStart (byt s i) = true := by simpa [starts, hlt] using hq
      have hs' := hs
      rw [inB_noStart] at hs'
      unfold step
      rw [if_pos h0]
      unfold begins
      rw [if_neg (by omega), if_neg (by omega), if_neg (by omega), if_pos hs]
    clear hq hst
    go_enter Try.func102, Try.ntmps102
    go_wp2_with fail
    refine (starts_any b s i _ HR.out.rc).mono ?_
    rw [HQ.out]
    rintro e w1 ⟨rfl, hm1⟩
    go_wp2_with fail
    go_ret2
    exact ⟨0, false, rfl, .fails HR.out hm1 HF.out⟩
end Tr
end Go.Proofs.Ytppjlpihaocdiaa

/- 'part', 'way', 'choice': a part with its repetition; a row of parts; ways between bars. -/
set_option linter.unusedSimpArgs false
set_option linter.unusedVariables false
namespace Go.Proofs.Ytppjlpihaocdiaa
namespace Tr
open Go.RowKit

theorem step_quant {o a l c : Nat} (hc : c = 42 ∨ c = 43 ∨ c = 63) : step ⟨1, o, a, l⟩ c = some ⟨2, o, a, l⟩ := by
  have hq : inB quants c = true := by rw [inB_quants]; exact hc
  show goesOn ⟨1, o, a, l⟩ c = _
  unfold goesOn
  rw [if_pos ⟨rfl, hq⟩]

theorem step_brace {o a l : Nat} : step ⟨1, o, a, l⟩ 123 = some ⟨11, o, a, 0⟩ := by
  have hq : ¬ (inB quants 123 = true) := by rw [inB_quants]; omega
  show goesOn ⟨1, o, a, l⟩ 123 = _
  unfold goesOn
  rw [if_neg (fun h => hq h.2), if_pos ⟨rfl, rfl⟩]

theorem partF_eq {ch : PSt → PSt × Nat} {s : ByteArray} {p : PSt} {j g z : Nat} {l : List Nd} (h : oneF ch s p = (⟨j, g, l⟩, z)) : partF ch s p =
    if pk s j = 42 then addN ⟨j, g, l⟩ (j + 1) (repN z 0 (-1))
    else if pk s j = 43 then addN ⟨j, g, l⟩ (j + 1) (repN z 1 (-1))
    else if pk s j = 63 then addN ⟨j, g, l⟩ (j + 1) (repN z 0 1)
    else if pk s j = 123 then (if pk s (j + 2) = 44 then addN ⟨j, g, l⟩ (j + 5) (repN z (byt s (j + 1) - 48) ((byt s (j + 3) - 48 : Nat) : Int)) else addN ⟨j, g, l⟩ (j + 3) (repN z (byt s (j + 1) - 48) ((byt s (j + 1) - 48 : Nat) : Int)))
    else (⟨j, g, l⟩, z) := by
  unfold partF
  rw [h]

set_option maxHeartbeats 1000000 in
theorem part_any (N : Nat) (ih : ChoiceAt N) (b i o g : Nat) (n : NX) (s : ByteArray) (nv : Value) (st : St) (w : World) (hI : OneIn N w b i o g n s nv st) :
    Calls Try.prog 78 #[.pointer (some ⟨b, 0, none⟩)] w fun e w' => ∃ (z : Int) (ok : Bool), e = .returned (.tuple #[.int .i64 z, .bool ok]) ∧ Post b s i o n nv w (PartQ s) (partF (choiceN s N) s ⟨i, g, n.l⟩) z ok w' := by
  generalize hFF : partF (choiceN s N) s ⟨i, g, n.l⟩ = FF
  have HFF : Hid (partF (choiceN s N) s ⟨i, g, n.l⟩ = FF) := hFF
  clear hFF
  have HI : Hid (OneIn N w b i o g n s nv st) := hI
  have HR : Hid (Rd w b s i o g nv n) := hI.rd
  have hn := hI.n2
  have h40 := hI.rd.rc.s40
  clear hI
  go_enter Try.func78, Try.ntmps78
  go_wp2_with fail
  refine (one_any N ih b i o g n s nv st _ HI.out).mono ?_
  rintro e w1 ⟨z, ok, rfl, hP⟩
  rcases hP with ⟨rfl, j, g', n', nv', st2, zn, q1, q2, q3, q4, q5, q6, q7, q8, q9, rfl, q11, q12⟩ | ⟨rfl, j, q1, q2, q3⟩
  · have HR1 : Hid (Rd w1 b s j o g' nv' n') := q1
    have HF1 : Hid (Fr b nv nv' w w1) := q2
    have HG1 : Hid (run s j = some ⟨1, o, g', st2.l⟩) := by
      obtain ⟨m, o2, a2, l2⟩ := st2
      simp only at q4 q5 q8
      rw [Hid, q3, q4, q5, q8]
    have hjs := q1.rc.le
    have HPE : Hid _ := partF_eq q12
    have HXN : Hid (n'.X = n.X) := q9
    have HXX : Hid (∀ q, n'.X q → q < w1.heap.size) := fun q hq => by
      rw [q9] at hq
      exact Nat.lt_of_lt_of_le (HI.out.X q hq) q2.size
    clear q1 q2 q3 q8 q4 q5 ih q9 q12
    by_cases h42 : pk s j = (42 : Nat)
    · obtain ⟨m3, m4⟩ := pk_is h42
      have HG2 : Hid (run s (j + 1) = some ⟨2, o, g', st2.l⟩) := by rw [Hid, run_succ HG1.out, m4, step_quant (.inl rfl)]
      have H42 : Hid (pk s j = (42 : Nat)) := h42
      clear h42 m4
      go_wp2_with fail
      refine (acceptY b s j 42 _ HR1.out.rc (by omega) H42.out).mono ?_
      rintro e w2 ⟨rfl, hm2⟩
      go_wp2_with fail
      refine (repeat_any b (j + 1) o g' n' s nv' zn 0 (-1) _ (Mv.rd hm2 HR1.out (by omega)) (by omega) (by rw [hm2.only.size]; exact HXX.out) q11 (by omega) (by omega) (.inl rfl)).mono ?_
      rintro e w3 ⟨nv3, rfl, p1, p2⟩
      go_wp2_with fail
      go_ret2
      exact ⟨_, true, rfl, .inl ⟨rfl, _, _, _, nv3, _, n'.l.length, p1, (HF1.out.trans (Mv.fr hm2 nv')).trans p2, HG2.out, rfl, rfl, by omega, by rw [len_add]; omega, .inr rfl, HXN.out, rfl, by rw [len_add]; omega, by rw [← HFF.out, HPE.out, if_pos (show pk s j = 42 from H42.out)]; rfl⟩⟩
    · have H42 : Hid (pk s j ≠ (42 : Nat)) := h42
      clear h42
      go_wp2_with fail
      refine (acceptN b s j 42 _ HR1.out.rc (by omega) H42.out).mono ?_
      rintro e w2 ⟨rfl, hm2⟩
      have HR2 : Hid (Rd w2 b s j o g' nv' n') := Mv.rd hm2 HR1.out hjs
      have HX2 : Hid (∀ q, n'.X q → q < w2.heap.size) := fun q hq => by rw [hm2.only.size]; exact HXX.out q hq
      have HF2 : Hid (Fr b nv nv' w w2) := HF1.out.trans (Mv.fr hm2 nv')
      clear hm2
      by_cases h43 : pk s j = (43 : Nat)
      · obtain ⟨m3, m4⟩ := pk_is h43
        have HG2 : Hid (run s (j + 1) = some ⟨2, o, g', st2.l⟩) := by rw [Hid, run_succ HG1.out, m4, step_quant (.inr (.inl rfl))]
        have H43 : Hid (pk s j = (43 : Nat)) := h43
        clear h43 m4
        go_wp2_with fail
        refine (acceptY b s j 43 _ HR2.out.rc (by omega) H43.out).mono ?_
        rintro e w3 ⟨rfl, hm3⟩
        go_wp2_with fail
        refine (repeat_any b (j + 1) o g' n' s nv' zn 1 (-1) _ (Mv.rd hm3 HR2.out (by omega)) (by omega) (by rw [hm3.only.size]; exact HX2.out) q11 (by omega) (by omega) (.inl rfl)).mono ?_
        rintro e w4 ⟨nv3, rfl, p1, p2⟩
        go_wp2_with fail
        go_ret2
        exact ⟨_, true, rfl, .inl ⟨rfl, _, _, _, nv3, _, n'.l.length, p1, (HF2.out.trans (Mv.fr hm3 nv')).trans p2, HG2.out, rfl, rfl, by omega, by rw [len_add]; omega, .inr rfl, HXN.out, rfl, by rw [len_add]; omega, by rw [← HFF.out, HPE.out, if_neg (show ¬ pk s j = 42 from H42.out), if_pos (show pk s j = 43 from H43.out)]; rfl⟩⟩
      · have H43 : Hid (pk s j ≠ (43 : Nat)) := h43
        clear h43
        go_wp2_with fail
        refine (acceptN b s j 43 _ HR2.out.rc (by omega) H43.out).mono ?_
        rintro e w3 ⟨rfl, hm3⟩
        have HR3 : Hid (Rd w3 b s j o g' nv' n') := Mv.rd hm3 HR2.out hjs
        have HX3 : Hid (∀ q, n'.X q → q < w3.heap.size) := fun q hq => by rw [hm3.only.size]; exact HX2.out q hq
        have HF3 : Hid (Fr b nv nv' w w3) := HF2.out.trans (Mv.fr hm3 nv')
        clear hm3
        by_cases h63 : pk s j = (63 : Nat)
        · obtain ⟨m3, m4⟩ := pk_is h63
          have HG2 : Hid (run s (j + 1) = some ⟨2, o, g', st2.l⟩) := by rw [Hid, run_succ HG1.out, m4, step_quant (.inr (.inr rfl))]
          have H63 : Hid (pk s j = (63 : Nat)) := h63
          clear h63 m4
          go_wp2_with fail
          refine (acceptY b s j 63 _ HR3.out.rc (by omega) H63.out).mono ?_
          rintro e w4 ⟨rfl, hm4⟩
          go_wp2_with fail
          refine (repeat_any b (j + 1) o g' n' s nv' zn 0 1 _ (Mv.rd hm4 HR3.out (by omega)) (by omega) (by rw [hm4.only.size]; exact HX3.out) q11 (by omega) (by omega) (.inr (by omega))).mono ?_
          rintro e w5 ⟨nv3, rfl, p1, p2⟩
          go_wp2_with fail
          go_ret2
          exact ⟨_, true, rfl, .inl ⟨rfl, _, _, _, nv3, _, n'.l.length, p1, (HF3.out.trans (Mv.fr hm4 nv')).trans p2, HG2.out, rfl, rfl, by omega, by rw [len_add]; omega, .inr rfl, HXN.out, rfl, by rw [len_add]; omega, by rw [← HFF.out, HPE.out, if_neg (show ¬ pk s j = 42 from H42.out), if_neg (show ¬ pk s j = 43 from H43.out), if_pos (show pk s j = 63 from H63.out)]; rfl⟩⟩
        · have H63 : Hid (pk s j ≠ (63 : Nat)) := h63
          clear h63
          go_wp2_with fail
          refine (acceptN b s j 63 _ HR3.out.rc (by omega) H63.out).mono ?_
          rintro e w4 ⟨rfl, hm4⟩
          have HR4 : Hid (Rd w4 b s j o g' nv' n') := Mv.rd hm4 HR3.out hjs
          have HX4 : Hid (∀ q, n'.X q → q < w4.heap.size) := fun q hq => by rw [hm4.only.size]; exact HX3.out q hq
          have HF4 : Hid (Fr b nv nv' w w4) := HF3.out.trans (Mv.fr hm4 nv')
          clear hm4
          by_cases h123 : pk s j = (123 : Nat)
          · obtain ⟨m3, m4⟩ := pk_is h123
            have HG2 : Hid (run s (j + 1) = some ⟨11, o, g', 0⟩) := by rw [Hid, run_succ HG1.out, m4, step_brace]
            have H123 : Hid (pk s j = (123 : Nat)) := h123
            clear h123 m4
            go_wp2_with fail
            refine (acceptY b s j 123 _ HR4.out.rc (by omega) H123.out).mono ?_
            rintro e w5 ⟨rfl, hm5⟩
            have HR5 : Hid (Rd w5 b s (j + 1) o g' nv' n') := Mv.rd hm5 HR4.out (by omega)
            have HX5 : Hid (∀ q, n'.X q → q < w5.heap.size) := fun q hq => by rw [hm5.only.size]; exact HX4.out q hq
            have HF5 : Hid (Fr b nv nv' w w5) := HF4.out.trans (Mv.fr hm5 nv')
            clear hm5
            go_wp2_with fail
            refine (counted_any b (j + 1) o g' n' s nv' zn _ HR5.out (by omega) HX5.out q11 HG2.out).mono ?_
            rintro e w6 ⟨z6, ok6, rfl, hP6⟩
            have HP6 : Hid (Post b s i o n nv w (PartQ s) FF z6 ok6 w6) := by
              have hx := Post.after HR.out HF5.out (i1 := j + 1) (by omega) (by omega) HXN.out hP6
              rcases hx with ⟨rfl, j', g'', n'', nv'', st'', zz, x1, x2, x3, x4, x5, x6, x7, x8, x9, x10, x11, x12⟩ | x
              · exact .inl ⟨rfl, j', g'', n'', nv'', st'', zz, x1, x2, x3, x4, x5, x6, x7, .inr x8, x9, x10, x11, by rw [← x12, ← HFF.out, HPE.out, if_neg (show ¬ pk s j = 42 from H42.out), if_neg (show ¬ pk s j = 43 from H43.out), if_neg (show ¬ pk s j = 63 from H63.out), if_pos (show pk s j = 123 from H123.out)]; rfl⟩
              · exact .inr x
            clear hP6
            go_wp2_with fail
            go_ret2
            exact ⟨_, _, rfl, HP6.out⟩
          · have H123 : Hid (pk s j ≠ (123 : Nat)) := h123
            clear h123
            go_wp2_with fail
            refine (acceptN b s j 123 _ HR4.out.rc (by omega) H123.out).mono ?_
            rintro e w5 ⟨rfl, hm5⟩
            go_wp2_with fail
            go_ret2
            exact ⟨_, true, rfl, .inl ⟨rfl, _, _, _, nv', _, zn, Mv.rd hm5 HR4.out hjs, HF4.out.trans (Mv.fr hm5 nv'), HG1.out, rfl, rfl, by omega, by omega, .inl ⟨rfl, H42.out, H43.out, H63.out, H123.out⟩, HXN.out, rfl, q11, by rw [← HFF.out, HPE.out, if_neg (show ¬ pk s j = 42 from H42.out), if_neg (show ¬ pk s j = 43 from H43.out), if_neg (show ¬ pk s j = 63 from H63.out), if_neg (show ¬ pk s j = 123 from H123.out)]⟩⟩
  · have HF : Hid (Fails s j) := q1
    have HB : Hid (Below b w w1) := q3
    have HC : Hid (w1.cell? ⟨b, 1, none⟩ = some (.int .i64 j)) := q2
    clear q1 q2 q3
    go_wp2_with fail
    go_ret2
    exact ⟨_, false, rfl, .inr ⟨rfl, j, HF.out, HC.out, HB.out⟩⟩
end Tr
end Go.Proofs.Ytppjlpihaocdiaa

