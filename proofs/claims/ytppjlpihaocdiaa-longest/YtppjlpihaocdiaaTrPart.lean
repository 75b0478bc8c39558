/- 'part', 'way', 'choice': a part with its repetition; a row of parts; ways between bars. -/
import Derived.Test.YtppjlpihaocdiaaTrOne
set_option linter.unusedSimpArgs false
set_option linter.unusedVariables false
namespace Go.Proofs.Ytppjlpihaocdiaa
namespace Tr
open Go.RowKit

theorem step_quant {o a l c : Nat} (hc : c = 42 ∨ c = 43 ∨ c = 63) : step ⟨1, o, a, l⟩ c = some ⟨2, o, a, l⟩ := by
  have hq : inB quants c = true := by rw [inB_quants]; exact hc
  show goesOn ⟨1, o, a, l⟩ c = _
  unfold goesOn
  rw [if_pos ⟨rfl, hq⟩]

theorem step_brace {o a l : Nat} : step ⟨1, o, a, l⟩ 123 = some ⟨11, o, a, 0⟩ := by
  have hq : ¬ (inB quants 123 = true) := by rw [inB_quants]; omega
  show goesOn ⟨1, o, a, l⟩ 123 = _
  unfold goesOn
  rw [if_neg (fun h => hq h.2), if_pos ⟨rfl, rfl⟩]

theorem partF_eq {ch : PSt → PSt × Nat} {s : ByteArray} {p : PSt} {j g z : Nat} {l : List Nd} (h : oneF ch s p = (⟨j, g, l⟩, z)) : partF ch s p =
    if pk s j = 42 then addN ⟨j, g, l⟩ (j + 1) (repN z 0 (-1))
    else if pk s j = 43 then addN ⟨j, g, l⟩ (j + 1) (repN z 1 (-1))
    else if pk s j = 63 then addN ⟨j, g, l⟩ (j + 1) (repN z 0 1)
    else if pk s j = 123 then (if pk s (j + 2) = 44 then addN ⟨j, g, l⟩ (j + 5) (repN z (byt s (j + 1) - 48) ((byt s (j + 3) - 48 : Nat) : Int)) else addN ⟨j, g, l⟩ (j + 3) (repN z (byt s (j + 1) - 48) ((byt s (j + 1) - 48 : Nat) : Int)))
    else (⟨j, g, l⟩, z) := by
  unfold partF
  rw [h]

set_option maxHeartbeats 1000000 in
theorem part_any (N : Nat) (ih : ChoiceAt N) (b i o g : Nat) (n : NX) (s : ByteArray) (nv : Value) (st : St) (w : World) (hI : OneIn N w b i o g n s nv st) :
    Calls Try.prog 78 #[.pointer (some ⟨b, 0, none⟩)] w fun e w' => ∃ (z : Int) (ok : Bool), e = .returned (.tuple #[.int .i64 z, .bool ok]) ∧ Post b s i o n nv w (PartQ s) (partF (choiceN s N) s ⟨i, g, n.l⟩) z ok w' := by
  generalize hFF : partF (choiceN s N) s ⟨i, g, n.l⟩ = FF
  have HFF : Hid (partF (choiceN s N) s ⟨i, g, n.l⟩ = FF) := hFF
  clear hFF
  have HI : Hid (OneIn N w b i o g n s nv st) := hI
  have HR : Hid (Rd w b s i o g nv n) := hI.rd
  have hn := hI.n2
  have h40 := hI.rd.rc.s40
  clear hI
  go_enter Try.func78, Try.ntmps78
  go_wp2_with fail
  refine (one_any N ih b i o g n s nv st _ HI.out).mono ?_
  rintro e w1 ⟨z, ok, rfl, hP⟩
  rcases hP with ⟨rfl, j, g', n', nv', st2, zn, q1, q2, q3, q4, q5, q6, q7, q8, q9, rfl, q11, q12⟩ | ⟨rfl, j, q1, q2, q3⟩
  · have HR1 : Hid (Rd w1 b s j o g' nv' n') := q1
    have HF1 : Hid (Fr b nv nv' w w1) := q2
    have HG1 : Hid (run s j = some ⟨1, o, g', st2.l⟩) := by
      obtain ⟨m, o2, a2, l2⟩ := st2
      simp only at q4 q5 q8
      rw [Hid, q3, q4, q5, q8]
    have hjs := q1.rc.le
    have HPE : Hid _ := partF_eq q12
    have HXN : Hid (n'.X = n.X) := q9
    have HXX : Hid (∀ q, n'.X q → q < w1.heap.size) := fun q hq => by
      rw [q9] at hq
      exact Nat.lt_of_lt_of_le (HI.out.X q hq) q2.size
    clear q1 q2 q3 q8 q4 q5 ih q9 q12
    by_cases h42 : pk s j = (42 : Nat)
    · obtain ⟨m3, m4⟩ := pk_is h42
      have HG2 : Hid (run s (j + 1) = some ⟨2, o, g', st2.l⟩) := by rw [Hid, run_succ HG1.out, m4, step_quant (.inl rfl)]
      have H42 : Hid (pk s j = (42 : Nat)) := h42
      clear h42 m4
      go_wp2_with fail
      refine (acceptY b s j 42 _ HR1.out.rc (by omega) H42.out).mono ?_
      rintro e w2 ⟨rfl, hm2⟩
      go_wp2_with fail
      refine (repeat_any b (j + 1) o g' n' s nv' zn 0 (-1) _ (Mv.rd hm2 HR1.out (by omega)) (by omega) (by rw [hm2.only.size]; exact HXX.out) q11 (by omega) (by omega) (.inl rfl)).mono ?_
      rintro e w3 ⟨nv3, rfl, p1, p2⟩
      go_wp2_with fail
      go_ret2
      exact ⟨_, true, rfl, .inl ⟨rfl, _, _, _, nv3, _, n'.l.length, p1, (HF1.out.trans (Mv.fr hm2 nv')).trans p2, HG2.out, rfl, rfl, by omega, by rw [len_add]; omega, .inr rfl, HXN.out, rfl, by rw [len_add]; omega, by rw [← HFF.out, HPE.out, if_pos (show pk s j = 42 from H42.out)]; rfl⟩⟩
    · have H42 : Hid (pk s j ≠ (42 : Nat)) := h42
      clear h42
      go_wp2_with fail
      refine (acceptN b s j 42 _ HR1.out.rc (by omega) H42.out).mono ?_
      rintro e w2 ⟨rfl, hm2⟩
      have HR2 : Hid (Rd w2 b s j o g' nv' n') := Mv.rd hm2 HR1.out hjs
      have HX2 : Hid (∀ q, n'.X q → q < w2.heap.size) := fun q hq => by rw [hm2.only.size]; exact HXX.out q hq
      have HF2 : Hid (Fr b nv nv' w w2) := HF1.out.trans (Mv.fr hm2 nv')
      clear hm2
      by_cases h43 : pk s j = (43 : Nat)
      · obtain ⟨m3, m4⟩ := pk_is h43
        have HG2 : Hid (run s (j + 1) = some ⟨2, o, g', st2.l⟩) := by rw [Hid, run_succ HG1.out, m4, step_quant (.inr (.inl rfl))]
        have H43 : Hid (pk s j = (43 : Nat)) := h43
        clear h43 m4
        go_wp2_with fail
        refine (acceptY b s j 43 _ HR2.out.rc (by omega) H43.out).mono ?_
        rintro e w3 ⟨rfl, hm3⟩
        go_wp2_with fail
        refine (repeat_any b (j + 1) o g' n' s nv' zn 1 (-1) _ (Mv.rd hm3 HR2.out (by omega)) (by omega) (by rw [hm3.only.size]; exact HX2.out) q11 (by omega) (by omega) (.inl rfl)).mono ?_
        rintro e w4 ⟨nv3, rfl, p1, p2⟩
        go_wp2_with fail
        go_ret2
        exact ⟨_, true, rfl, .inl ⟨rfl, _, _, _, nv3, _, n'.l.length, p1, (HF2.out.trans (Mv.fr hm3 nv')).trans p2, HG2.out, rfl, rfl, by omega, by rw [len_add]; omega, .inr rfl, HXN.out, rfl, by rw [len_add]; omega, by rw [← HFF.out, HPE.out, if_neg (show ¬ pk s j = 42 from H42.out), if_pos (show pk s j = 43 from H43.out)]; rfl⟩⟩
      · have H43 : Hid (pk s j ≠ (43 : Nat)) := h43
        clear h43
        go_wp2_with fail
        refine (acceptN b s j 43 _ HR2.out.rc (by omega) H43.out).mono ?_
        rintro e w3 ⟨rfl, hm3⟩
        have HR3 : Hid (Rd w3 b s j o g' nv' n') := Mv.rd hm3 HR2.out hjs
        have HX3 : Hid (∀ q, n'.X q → q < w3.heap.size) := fun q hq => by rw [hm3.only.size]; exact HX2.out q hq
        have HF3 : Hid (Fr b nv nv' w w3) := HF2.out.trans (Mv.fr hm3 nv')
        clear hm3
        by_cases h63 : pk s j = (63 : Nat)
        · obtain ⟨m3, m4⟩ := pk_is h63
          have HG2 : Hid (run s (j + 1) = some ⟨2, o, g', st2.l⟩) := by rw [Hid, run_succ HG1.out, m4, step_quant (.inr (.inr rfl))]
          have H63 : Hid (pk s j = (63 : Nat)) := h63
          clear h63 m4
          go_wp2_with fail
          refine (acceptY b s j 63 _ HR3.out.rc (by omega) H63.out).mono ?_
          rintro e w4 ⟨rfl, hm4⟩
          go_wp2_with fail
          refine (repeat_any b (j + 1) o g' n' s nv' zn 0 1 _ (Mv.rd hm4 HR3.out (by omega)) (by omega) (by rw [hm4.only.size]; exact HX3.out) q11 (by omega) (by omega) (.inr (by omega))).mono ?_
          rintro e w5 ⟨nv3, rfl, p1, p2⟩
          go_wp2_with fail
          go_ret2
          exact ⟨_, true, rfl, .inl ⟨rfl, _, _, _, nv3, _, n'.l.length, p1, (HF3.out.trans (Mv.fr hm4 nv')).trans p2, HG2.out, rfl, rfl, by omega, by rw [len_add]; omega, .inr rfl, HXN.out, rfl, by rw [len_add]; omega, by rw [← HFF.out, HPE.out, if_neg (show ¬ pk s j = 42 from H42.out), if_neg (show ¬ pk s j = 43 from H43.out), if_pos (show pk s j = 63 from H63.out)]; rfl⟩⟩
        · have H63 : Hid (pk s j ≠ (63 : Nat)) := h63
          clear h63
          go_wp2_with fail
          refine (acceptN b s j 63 _ HR3.out.rc (by omega) H63.out).mono ?_
          rintro e w4 ⟨rfl, hm4⟩
          have HR4 : Hid (Rd w4 b s j o g' nv' n') := Mv.rd hm4 HR3.out hjs
          have HX4 : Hid (∀ q, n'.X q → q < w4.heap.size) := fun q hq => by rw [hm4.only.size]; exact HX3.out q hq
          have HF4 : Hid (Fr b nv nv' w w4) := HF3.out.trans (Mv.fr hm4 nv')
          clear hm4
          by_cases h123 : pk s j = (123 : Nat)
          · obtain ⟨m3, m4⟩ := pk_is h123
            have HG2 : Hid (run s (j + 1) = some ⟨11, o, g', 0⟩) := by rw [Hid, run_succ HG1.out, m4, step_brace]
            have H123 : Hid (pk s j = (123 : Nat)) := h123
            clear h123 m4
            go_wp2_with fail
            refine (acceptY b s j 123 _ HR4.out.rc (by omega) H123.out).mono ?_
            rintro e w5 ⟨rfl, hm5⟩
            have HR5 : Hid (Rd w5 b s (j + 1) o g' nv' n') := Mv.rd hm5 HR4.out (by omega)
            have HX5 : Hid (∀ q, n'.X q → q < w5.heap.size) := fun q hq => by rw [hm5.only.size]; exact HX4.out q hq
            have HF5 : Hid (Fr b nv nv' w w5) := HF4.out.trans (Mv.fr hm5 nv')
            clear hm5
            go_wp2_with fail
            refine (counted_any b (j + 1) o g' n' s nv' zn _ HR5.out (by omega) HX5.out q11 HG2.out).mono ?_
            rintro e w6 ⟨z6, ok6, rfl, hP6⟩
            have HP6 : Hid (Post b s i o n nv w (PartQ s) FF z6 ok6 w6) := by
              have hx := Post.after HR.out HF5.out (i1 := j + 1) (by omega) (by omega) HXN.out hP6
              rcases hx with ⟨rfl, j', g'', n'', nv'', st'', zz, x1, x2, x3, x4, x5, x6, x7, x8, x9, x10, x11, x12⟩ | x
              · exact .inl ⟨rfl, j', g'', n'', nv'', st'', zz, x1, x2, x3, x4, x5, x6, x7, .inr x8, x9, x10, x11, by rw [← x12, ← HFF.out, HPE.out, if_neg (show ¬ pk s j = 42 from H42.out), if_neg (show ¬ pk s j = 43 from H43.out), if_neg (show ¬ pk s j = 63 from H63.out), if_pos (show pk s j = 123 from H123.out)]; rfl⟩
              · exact .inr x
            clear hP6
            go_wp2_with fail
            go_ret2
            exact ⟨_, _, rfl, HP6.out⟩
          · have H123 : Hid (pk s j ≠ (123 : Nat)) := h123
            clear h123
            go_wp2_with fail
            refine (acceptN b s j 123 _ HR4.out.rc (by omega) H123.out).mono ?_
            rintro e w5 ⟨rfl, hm5⟩
            go_wp2_with fail
            go_ret2
            exact ⟨_, true, rfl, .inl ⟨rfl, _, _, _, nv', _, zn, Mv.rd hm5 HR4.out hjs, HF4.out.trans (Mv.fr hm5 nv'), HG1.out, rfl, rfl, by omega, by omega, .inl ⟨rfl, H42.out, H43.out, H63.out, H123.out⟩, HXN.out, rfl, q11, by rw [← HFF.out, HPE.out, if_neg (show ¬ pk s j = 42 from H42.out), if_neg (show ¬ pk s j = 43 from H43.out), if_neg (show ¬ pk s j = 63 from H63.out), if_neg (show ¬ pk s j = 123 from H123.out)]⟩⟩
  · have HF : Hid (Fails s j) := q1
    have HB : Hid (Below b w w1) := q3
    have HC : Hid (w1.cell? ⟨b, 1, none⟩ = some (.int .i64 j)) := q2
    clear q1 q2 q3
    go_wp2_with fail
    go_ret2
    exact ⟨_, false, rfl, .inr ⟨rfl, j, HF.out, HC.out, HB.out⟩⟩
end Tr
end Go.Proofs.Ytppjlpihaocdiaa
