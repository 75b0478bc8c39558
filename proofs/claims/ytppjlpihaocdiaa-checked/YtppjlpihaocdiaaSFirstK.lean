/- Several texts in one. -/
import Derived.Test.YtppjlpihaocdiaaSLetK
/- The document's walk over a script: the walk over a pattern within it. -/
set_option linter.unusedSimpArgs false
set_option linter.unusedVariables false
namespace Go.Proofs.Ytppjlpihaocdiaa
namespace Sk
open Go.RowKit

theorem Row.wk {w : World} {b : Nat} {x : Sc} {pv lv bv : Value} (h : Row w b (scL x pv lv bv)) : W2.Wk w b x.pat :=
  ⟨h.cell (k := 2) rfl, h.cell (k := 3) rfl, h.cell (k := 4) rfl, h.cell (k := 5) rfl, h.frozen (k := 2) (by rw [scL_length]; omega), h.frozen (k := 3) (by rw [scL_length]; omega), h.frozen (k := 4) (by rw [scL_length]; omega), h.frozen (k := 5) (by rw [scL_length]; omega)⟩

theorem OnlyW.sole {b : Nat} {w w' : World} (h : W2.OnlyW b w w') : Sole b w w' := ⟨h.os, h.tape, h.output, h.size, h.block⟩

theorem Row.walked {w w' : World} {b : Nat} {x : Sc} {st : St} {pv lv bv : Value} (h : Row w b (scL x pv lv bv)) (ho : W2.OnlyW b w w') (hk : W2.Wk w' b st) : Row w' b (scL { x with pat := st } pv lv bv) := by
  have key : ∀ j v, (scL { x with pat := st } pv lv bv)[j]? = some v → w'.cell? ⟨b, j, none⟩ = some v := fun j v hv => by
    match j, hv with
    | 0, hv => exact (ho.cell 0 (by omega)).trans (h.cell (k := 0) hv)
    | 1, hv => exact (ho.cell 1 (by omega)).trans (h.cell (k := 1) hv)
    | 2, hv => exact hk.c0.trans hv
    | 3, hv => exact hk.c1.trans hv
    | 4, hv => exact hk.c2.trans hv
    | 5, hv => exact hk.c3.trans hv
    | k + 6, hv => exact (ho.cell (k + 6) (by omega)).trans (h.cell (k := k + 6) hv)
  refine ⟨fun j v hv => by rw [Nat.zero_add]; exact key j v hv, fun j hj => ⟨?_, ?_⟩⟩
  · rw [Nat.zero_add, key j _ (List.getElem?_eq_getElem hj)]
    simp
  · rw [Nat.zero_add, ho.frz]
    exact h.frozen (by rw [scL_length] at hj ⊢; exact hj)

theorem escaping_any (b : Nat) (st : St) (w : World) (hs : Small st) (hw : W2.Wk w b st) :
    Calls Try.prog 70 #[.pointer (some ⟨b, 2, none⟩)] w fun e w' => e = .returned (.bool (escaping st)) ∧ w' = w := by
  obtain ⟨c0, c1, c2, c3, f0, f1, f2, f3⟩ := hw
  obtain h | h | h | h : st.m = 3 ∨ st.m = 9 ∨ st.m = 10 ∨ (st.m ≠ 3 ∧ st.m ≠ 9 ∧ st.m ≠ 10) := by omega
  · have HS : Hid (escaping st = true) := by rw [Hid]; unfold escaping; rw [h]; rfl
    rw [h] at c0
    clear h
    go_enter Try.func70, Try.ntmps70
    go_wp2_with fail
    go_ret
    rw [HS.out]
    exact ⟨rfl, rfl⟩
  · have HS : Hid (escaping st = true) := by rw [Hid]; unfold escaping; rw [h]; rfl
    rw [h] at c0
    clear h
    go_enter Try.func70, Try.ntmps70
    go_wp2_with fail
    go_ret
    rw [HS.out]
    exact ⟨rfl, rfl⟩
  · have HS : Hid (escaping st = true) := by rw [Hid]; unfold escaping; rw [h]; rfl
    rw [h] at c0
    clear h
    go_enter Try.func70, Try.ntmps70
    go_wp2_with fail
    go_ret
    rw [HS.out]
    exact ⟨rfl, rfl⟩
  · obtain ⟨n1, n2, n3⟩ := h
    have HS : Hid (escaping st = false) := by rw [Hid]; unfold escaping; simp [n1, n2, n3]
    have e1 : ((st.m : Int) == 3) = false := by simp; omega
    have e2 : ((st.m : Int) == 9) = false := by simp; omega
    have e3 : ((st.m : Int) == 10) = false := by simp; omega
    clear n1 n2 n3
    go_enter Try.func70, Try.ntmps70
    go_wp2_with fail
    go_ret
    rw [HS.out]
    exact ⟨rfl, rfl⟩
end Sk
end Go.Proofs.Ytppjlpihaocdiaa

/- The document's walk over a script: numbers and flags. -/
set_option linter.unusedSimpArgs false
set_option linter.unusedVariables false
namespace Go.Proofs.Ytppjlpihaocdiaa
namespace Sk
open Go.RowKit

set_option maxHeartbeats 2000000 in
theorem afterSpot_any (b : Nat) (x : Sc) (c : Nat) (w : World) (hx : ScAt w b x) (hm : Sm x) (hc : c < 256) :
    Calls Try.prog 40 #[.pointer (some ⟨b, 0, none⟩), .int .u8 c] w (Sd b w (afterSpot x c)) := by
  have HX : Hid (ScAt w b x) := hx
  have HM : Hid (Sm x) := hm
  obtain ⟨pv, lv, bv, hR, hN⟩ := hx
  have HR : Hid (Row w b (scL x pv lv bv)) := hR
  have HN : Hid (Notes w b x pv lv bv) := hN
  have m0 := hR.cell (k := 0) rfl
  have f0 := hR.frozen (k := 0) (by rw [scL_length]; omega)
  have m6 := hR.cell (k := 6) rfl
  have f6 := hR.frozen (k := 6) (by rw [scL_length]; omega)
  have hpa := hm.part
  have hAd := addressed_any b x c w HX.out hm hc
  have HAd : Hid (Calls Try.prog 42 #[.pointer (some ⟨b, 0, none⟩), .int .u8 c] w (Sd b w (addressed x c))) := hAd
  clear hR hN hm hAd
  by_cases h44 : c = 44
  · subst h44
    by_cases h1 : x.part = 1
    · have HS : Hid (afterSpot x 44 = some { x with mode := 3, part := 2 }) := by unfold afterSpot; rw [Hid, if_pos ⟨rfl, h1⟩]
      have e1 : (x.part : Int) = 1 := by omega
      clear h1
      go_enter Try.func40, Try.ntmps40
      go_wp2_with fail
      go_ret
      rw [HS.out]
      exact Sd.yes (x' := { x with mode := 3, part := 2 }) HN.out (((Sole.refl _ _).setCell _ _).setCell _ _) (Row.head (x := { x with mode := 3 }) (Row.head HR.out 0 _ (by omega) rfl) 6 _ (by omega) rfl) rfl
    · have HS : Hid (afterSpot x 44 = addressed x 44) := by unfold afterSpot; rw [Hid, if_neg (fun h => h1 h.2)]
      have e1 : ((x.part : Int) == 1) = false := by simp; omega
      clear h1
      go_enter Try.func40, Try.ntmps40
      go_wp2_with fail
      refine HAd.out.mono ?_
      rw [← HS.out]
      intro e w' h
      obtain ⟨q, rfl, h1, h2⟩ := h
      have H1 : Hid (Below b w w') := h1
      have H2 : Hid ((∃ x', afterSpot x 44 = some x' ∧ q = true ∧ ScAt w' b x') ∨ (afterSpot x 44 = none ∧ q = false)) := h2
      clear h1 h2
      go_wp2_with fail
      go_ret
      exact ⟨q, rfl, H1.out, H2.out⟩
  · have q1 : ((c : Int) == 44) = false := by simp; omega
    have HS : Hid (afterSpot x c = addressed x c) := by unfold afterSpot; rw [Hid, if_neg (fun h => h44 h.1)]
    go_enter Try.func40, Try.ntmps40
    go_wp2_with fail
    refine HAd.out.mono ?_
    rw [← HS.out]
    intro e w' h
    obtain ⟨q, rfl, h1, h2⟩ := h
    have H1 : Hid (Below b w w') := h1
    have H2 : Hid ((∃ x', afterSpot x c = some x' ∧ q = true ∧ ScAt w' b x') ∨ (afterSpot x c = none ∧ q = false)) := h2
    clear h1 h2
    go_wp2_with fail
    go_ret
    exact ⟨q, rfl, H1.out, H2.out⟩

set_option maxHeartbeats 2000000 in
theorem digit_any (b : Nat) (x : Sc) (c : Nat) (w : World) (hx : ScAt w b x) (hm : Sm x) (hc : c < 256) :
    Calls Try.prog 39 #[.pointer (some ⟨b, 0, none⟩), .int .u8 c] w (Sd b w (digit x c)) := by
  have HX : Hid (ScAt w b x) := hx
  have HM : Hid (Sm x) := hm
  obtain ⟨pv, lv, bv, hR, hN⟩ := hx
  have HR : Hid (Row w b (scL x pv lv bv)) := hR
  have HN : Hid (Notes w b x pv lv bv) := hN
  have m7 := hR.cell (k := 7) rfl
  have f7 := hR.frozen (k := 7) (by rw [scL_length]; omega)
  have m8 := hR.cell (k := 8) rfl
  have f8 := hR.frozen (k := 8) (by rw [scL_length]; omega)
  have hco := hm.count
  have hze := hm.zero
  have hAf := afterSpot_any b x c w HX.out hm hc
  have HAf : Hid (Calls Try.prog 40 #[.pointer (some ⟨b, 0, none⟩), .int .u8 c] w (Sd b w (afterSpot x c))) := hAf
  clear hR hN hm hAf
  by_cases hd : 48 ≤ c ∧ c ≤ 57 ∧ x.count < 4
  · obtain ⟨d1, d2, d3⟩ := hd
    have HE : Hid (((x.count : Int) + 1) = ((x.count + 1 : Nat) : Int)) := by rw [Hid]; omega
    have hD : digit x c = if x.count + 1 < 4 ∨ (if c = 48 then x.zero else 1) = 1 then some { x with count := x.count + 1, zero := if c = 48 then x.zero else 1 } else none := by unfold digit; rw [if_pos ⟨d1, d2, d3⟩]
    by_cases h48 : c = 48
    · subst h48
      rw [if_pos rfl] at hD
      have hRR := Row.head (x' := { x with count := x.count + 1 }) HR.out 7 (.int .i64 ((x.count + 1 : Nat) : Int)) (by omega) rfl
      have HRR : Hid _ := hRR
      clear hRR
      by_cases hq : x.count + 1 < 4 ∨ x.zero = 1
      · have HS : Hid (digit x 48 = some { x with count := x.count + 1 }) := by rw [Hid, hD, if_pos hq]
        have hqq : (x.count + 1 < 4) ∨ (¬ x.count + 1 < 4 ∧ x.zero = 1) := by omega
        clear hD hq
        rcases hqq with hqq | ⟨hqq, hz⟩
        · go_enter Try.func39, Try.ntmps39
          go_wp2_with fail
          go_ret
          rw [HS.out, HE.out]
          exact Sd.yes (x' := { x with count := x.count + 1 }) HN.out ((Sole.refl _ _).setCell _ _) HRR.out rfl
        · have hz1 : (x.zero : Int) = 1 := by omega
          have hn4 : ¬ ((x.count : Int) + 1 < 4) := by omega
          go_enter Try.func39, Try.ntmps39
          go_wp2_with fail
          go_ret
          rw [HS.out, HE.out]
          exact Sd.yes (x' := { x with count := x.count + 1 }) HN.out ((Sole.refl _ _).setCell _ _) HRR.out rfl
      · have HS : Hid (digit x 48 = none) := by rw [Hid, hD, if_neg hq]
        have hz1 : (x.zero : Int) = 0 := by omega
        have hn4 : ¬ ((x.count : Int) + 1 < 4) := by omega
        clear hD hq
        go_enter Try.func39, Try.ntmps39
        go_wp2_with fail
        go_ret
        rw [HS.out]
        exact Sd.no (Sole.below ((Sole.refl _ _).setCell _ _)) rfl
    · rw [if_neg h48, if_pos (.inr rfl)] at hD
      have HS : Hid (digit x c = some { x with count := x.count + 1, zero := 1 }) := by rw [Hid, hD]
      have q48 : ((c : Int) == 48) = false := by simp; omega
      have hRR := Row.head (x' := { x with count := x.count + 1, zero := 1 }) (Row.head (x' := { x with count := x.count + 1 }) HR.out 7 (.int .i64 ((x.count + 1 : Nat) : Int)) (by omega) rfl) 8 (.int .i64 1) (by omega) rfl
      have HRR : Hid _ := hRR
      clear hRR hD
      rcases Nat.lt_or_ge (x.count + 1) 4 with h4 | h4
      · go_enter Try.func39, Try.ntmps39
        go_wp2_with fail
        go_ret
        rw [HS.out, HE.out]
        exact Sd.yes (x' := { x with count := x.count + 1, zero := 1 }) HN.out (((Sole.refl _ _).setCell _ _).setCell _ _) HRR.out rfl
      · have hn4 : ¬ ((x.count : Int) + 1 < 4) := by omega
        go_enter Try.func39, Try.ntmps39
        go_wp2_with fail
        go_ret
        rw [HS.out, HE.out]
        exact Sd.yes (x' := { x with count := x.count + 1, zero := 1 }) HN.out (((Sole.refl _ _).setCell _ _).setCell _ _) HRR.out rfl
  · have hD : digit x c = if x.zero = 0 then none else afterSpot x c := by unfold digit; rw [if_neg hd]
    have hcs : c < 48 ∨ (48 ≤ c ∧ 57 < c) ∨ (48 ≤ c ∧ c ≤ 57 ∧ 4 ≤ x.count) := by omega
    by_cases hz : x.zero = 0
    · have HS : Hid (digit x c = none) := by rw [Hid, hD, if_pos hz]
      have hz0 : (x.zero : Int) = 0 := by omega
      clear hD hz hd
      rcases hcs with h | ⟨h, h'⟩ | ⟨h, h', h''⟩
      all_goals
        go_enter Try.func39, Try.ntmps39
        go_wp2_with fail
        go_ret
        rw [HS.out]
        exact Sd.no (Below.refl _ _) rfl
    · have HS : Hid (digit x c = afterSpot x c) := by rw [Hid, hD, if_neg hz]
      have hz0 : ((x.zero : Int) == 0) = false := by simp; omega
      clear hD hz hd
      rcases hcs with h | ⟨h, h'⟩ | ⟨h, h', h''⟩
      all_goals
        go_enter Try.func39, Try.ntmps39
        go_wp2_with fail
        refine HAf.out.mono ?_
        rw [← HS.out]
        intro e w' h
        obtain ⟨q, rfl, h1, h2⟩ := h
        have H1 : Hid (Below b w w') := h1
        have H2 : Hid ((∃ x', digit x c = some x' ∧ q = true ∧ ScAt w' b x') ∨ (digit x c = none ∧ q = false)) := h2
        clear h1 h2
        go_wp2_with fail
        go_ret
        exact ⟨q, rfl, H1.out, H2.out⟩
end Sk
end Go.Proofs.Ytppjlpihaocdiaa

/- The document's walk over a script: flags, templates. -/
set_option linter.unusedSimpArgs false
set_option linter.unusedVariables false
namespace Go.Proofs.Ytppjlpihaocdiaa
namespace Sk
open Go.RowKit

set_option maxHeartbeats 2000000 in
theorem flag_any (b : Nat) (x : Sc) (c : Nat) (w : World) (hx : ScAt w b x) (hm : Sm x) (hc : c < 256) :
    Calls Try.prog 48 #[.pointer (some ⟨b, 0, none⟩), .int .u8 c] w (Sd b w (flag x c)) := by
  have HX : Hid (ScAt w b x) := hx
  have HM : Hid (Sm x) := hm
  obtain ⟨pv, lv, bv, hR, hN⟩ := hx
  have HR : Hid (Row w b (scL x pv lv bv)) := hR
  have HN : Hid (Notes w b x pv lv bv) := hN
  have m11 := hR.cell (k := 11) rfl
  have f11 := hR.frozen (k := 11) (by rw [scL_length]; omega)
  have m12 := hR.cell (k := 12) rfl
  have f12 := hR.frozen (k := 12) (by rw [scL_length]; omega)
  have m13 := hR.cell (k := 13) rfl
  have f13 := hR.frozen (k := 13) (by rw [scL_length]; omega)
  have hSe := separates_any b x c w HX.out hm hc
  have HSe : Hid (Calls Try.prog 44 #[.pointer (some ⟨b, 0, none⟩), .int .u8 c] w (Sd b w (separates x c))) := hSe
  clear hR hN hm hSe
  by_cases h103 : c = 103 ∧ x.all = false
  · obtain ⟨rfl, ha⟩ := h103
    have HS : Hid (flag x 103 = some { x with all := true }) := by unfold flag; rw [Hid, if_pos ⟨rfl, ha⟩]
    rw [ha] at m11
    clear ha
    go_enter Try.func48, Try.ntmps48
    go_wp2_with fail
    go_ret
    rw [HS.out]
    exact Sd.yes (x' := { x with all := true }) HN.out ((Sole.refl _ _).setCell _ _) (Row.head HR.out 11 _ (by omega) rfl) rfl
  by_cases h112 : c = 112 ∧ x.print = false
  · obtain ⟨rfl, ha⟩ := h112
    have HS : Hid (flag x 112 = some { x with print := true }) := by unfold flag; rw [Hid, if_neg (by omega), if_pos ⟨rfl, ha⟩]
    rw [ha] at m12
    clear ha h103
    go_enter Try.func48, Try.ntmps48
    go_wp2_with fail
    go_ret
    rw [HS.out]
    exact Sd.yes (x' := { x with print := true }) HN.out ((Sole.refl _ _).setCell _ _) (Row.head HR.out 12 _ (by omega) rfl) rfl
  by_cases hdg : 49 ≤ c ∧ c ≤ 57 ∧ x.numbers = false
  · obtain ⟨d1, d2, ha⟩ := hdg
    have HS : Hid (flag x c = some { x with numbers := true }) := by unfold flag; rw [Hid, if_neg (by omega), if_neg (by omega), if_pos ⟨d1, d2, ha⟩]
    have q1 : ((c : Int) == 103) = false := by simp; omega
    have q2 : ((c : Int) == 112) = false := by simp; omega
    rw [ha] at m13
    clear ha h103 h112
    go_enter Try.func48, Try.ntmps48
    go_wp2_with fail
    go_ret
    rw [HS.out]
    exact Sd.yes (x' := { x with numbers := true }) HN.out ((Sole.refl _ _).setCell _ _) (Row.head HR.out 13 _ (by omega) rfl) rfl
  · have HS : Hid (flag x c = separates x c) := by unfold flag; rw [Hid, if_neg h103, if_neg h112, if_neg hdg]
    have hcs : (c = 103 ∧ x.all = true) ∨ (c = 112 ∧ x.print = true) ∨ (49 ≤ c ∧ c ≤ 57 ∧ x.numbers = true) ∨ (c ≠ 103 ∧ c ≠ 112 ∧ c < 49) ∨ (c ≠ 103 ∧ c ≠ 112 ∧ 49 ≤ c ∧ 57 < c) := by
      cases h1 : x.all <;> cases h2 : x.print <;> cases h3 : x.numbers <;> simp only [h1, h2, h3, and_true, and_false, Bool.true_eq_false, Bool.false_eq_true, false_or, or_false] at h103 h112 hdg ⊢ <;> omega
    clear h103 h112 hdg
    rcases hcs with ⟨rfl, ha⟩ | ⟨rfl, ha⟩ | ⟨d1, d2, ha⟩ | ⟨d1, d2, d3⟩ | ⟨d1, d2, d3, d4⟩
    · rw [ha] at m11
      clear ha
      go_enter Try.func48, Try.ntmps48
      go_wp2_with fail
      refine HSe.out.mono ?_
      rw [← HS.out]
      intro e w' h
      obtain ⟨q, rfl, h1, h2⟩ := h
      have H1 : Hid (Below b w w') := h1
      have H2 : Hid ((∃ x', flag x 103 = some x' ∧ q = true ∧ ScAt w' b x') ∨ (flag x 103 = none ∧ q = false)) := h2
      clear h1 h2
      go_wp2_with fail
      go_ret
      exact ⟨q, rfl, H1.out, H2.out⟩
    · rw [ha] at m12
      clear ha
      go_enter Try.func48, Try.ntmps48
      go_wp2_with fail
      refine HSe.out.mono ?_
      rw [← HS.out]
      intro e w' h
      obtain ⟨q, rfl, h1, h2⟩ := h
      have H1 : Hid (Below b w w') := h1
      have H2 : Hid ((∃ x', flag x 112 = some x' ∧ q = true ∧ ScAt w' b x') ∨ (flag x 112 = none ∧ q = false)) := h2
      clear h1 h2
      go_wp2_with fail
      go_ret
      exact ⟨q, rfl, H1.out, H2.out⟩
    · rw [ha] at m13
      have q1 : ((c : Int) == 103) = false := by simp; omega
      have q2 : ((c : Int) == 112) = false := by simp; omega
      clear ha
      go_enter Try.func48, Try.ntmps48
      go_wp2_with fail
      refine HSe.out.mono ?_
      rw [← HS.out]
      intro e w' h
      obtain ⟨q, rfl, h1, h2⟩ := h
      have H1 : Hid (Below b w w') := h1
      have H2 : Hid ((∃ x', flag x c = some x' ∧ q = true ∧ ScAt w' b x') ∨ (flag x c = none ∧ q = false)) := h2
      clear h1 h2
      go_wp2_with fail
      go_ret
      exact ⟨q, rfl, H1.out, H2.out⟩
    · have q1 : ((c : Int) == 103) = false := by simp; omega
      have q2 : ((c : Int) == 112) = false := by simp; omega
      clear d1 d2
      go_enter Try.func48, Try.ntmps48
      go_wp2_with fail
      refine HSe.out.mono ?_
      rw [← HS.out]
      intro e w' h
      obtain ⟨q, rfl, h1, h2⟩ := h
      have H1 : Hid (Below b w w') := h1
      have H2 : Hid ((∃ x', flag x c = some x' ∧ q = true ∧ ScAt w' b x') ∨ (flag x c = none ∧ q = false)) := h2
      clear h1 h2
      go_wp2_with fail
      go_ret
      exact ⟨q, rfl, H1.out, H2.out⟩
    · have q1 : ((c : Int) == 103) = false := by simp; omega
      have q2 : ((c : Int) == 112) = false := by simp; omega
      clear d1 d2
      go_enter Try.func48, Try.ntmps48
      go_wp2_with fail
      refine HSe.out.mono ?_
      rw [← HS.out]
      intro e w' h
      obtain ⟨q, rfl, h1, h2⟩ := h
      have H1 : Hid (Below b w w') := h1
      have H2 : Hid ((∃ x', flag x c = some x' ∧ q = true ∧ ScAt w' b x') ∨ (flag x c = none ∧ q = false)) := h2
      clear h1 h2
      go_wp2_with fail
      go_ret
      exact ⟨q, rfl, H1.out, H2.out⟩
end Sk
end Go.Proofs.Ytppjlpihaocdiaa

/- The document's walk over a script: its end; templates. -/
set_option linter.unusedSimpArgs false
set_option linter.unusedVariables false
namespace Go.Proofs.Ytppjlpihaocdiaa
namespace Sk
open Go.RowKit

set_option maxHeartbeats 2000000 in
theorem swhole_any (b : Nat) (x : Sc) (w : World) (hx : ScAt w b x) (hm : Sm x) :
    Calls Try.prog 24 #[.pointer (some ⟨b, 0, none⟩)] w fun e w' => e = .returned (.bool (swhole x)) ∧ ∃ n, w' = w.drewN n := by
  have HX : Hid (ScAt w b x) := hx
  have HM : Hid (Sm x) := hm
  obtain ⟨pv, lv, bv, hR, hN⟩ := hx
  have HR : Hid (Row w b (scL x pv lv bv)) := hR
  have HN : Hid (Notes w b x pv lv bv) := hN
  have m0 := hR.cell (k := 0) rfl
  have f0 := hR.frozen (k := 0) (by rw [scL_length]; omega)
  have m1 := hR.cell (k := 1) rfl
  have f1 := hR.frozen (k := 1) (by rw [scL_length]; omega)
  have m7 := hR.cell (k := 7) rfl
  have f7 := hR.frozen (k := 7) (by rw [scL_length]; omega)
  have m9 := hR.cell (k := 9) rfl
  have f9 := hR.frozen (k := 9) (by rw [scL_length]; omega)
  have hmo := hm.mode
  clear hR hN hm
  have HC : Hid (∀ (q : Bool), q = (decide (x.mode = 0) || decide (x.mode = 7) || decide (x.mode = 9) || decide (x.mode = 15) || (decide (x.mode = 10) && decide (x.least ≤ x.count))) → swhole x = (q && decide (x.op = 0))) := fun q h => by rw [h]; rfl
  have hop : ((x.op : Int) == 0) = decide (x.op = 0) := by
    by_cases h : x.op = 0
    · simp [h]
    · have : ((x.op : Int) == 0) = false := by simp; omega
      rw [this]; simp [h]
  obtain hcs | hcs | hcs | hcs | hcs | hcs | hcs : x.mode = 0 ∨ x.mode = 7 ∨ x.mode = 9 ∨ x.mode = 15 ∨ (x.mode = 10 ∧ x.least ≤ x.count) ∨ (x.mode = 10 ∧ ¬ x.least ≤ x.count) ∨ (x.mode ≠ 0 ∧ x.mode ≠ 7 ∧ x.mode ≠ 9 ∧ x.mode ≠ 15 ∧ x.mode ≠ 10) := by omega
  · have HW : Hid (swhole x = (true && decide (x.op = 0))) := HC.out true (by rw [hcs]; rfl)
    rw [hcs] at m0
    clear hcs
    go_enter Try.func24, Try.ntmps24
    go_wp2_with fail
    go_quiet (fail)
    go_wp2_with fail
    go_ret
    rw [HW.out]
    exact ⟨ret_bool (by first | rfl | simpa using hop), _, rfl⟩
  · have HW : Hid (swhole x = (true && decide (x.op = 0))) := HC.out true (by rw [hcs]; rfl)
    rw [hcs] at m0
    clear hcs
    go_enter Try.func24, Try.ntmps24
    go_wp2_with fail
    go_quiet (fail)
    go_wp2_with fail
    go_ret
    rw [HW.out]
    exact ⟨ret_bool (by first | rfl | simpa using hop), _, rfl⟩
  · have HW : Hid (swhole x = (true && decide (x.op = 0))) := HC.out true (by rw [hcs]; rfl)
    rw [hcs] at m0
    clear hcs
    go_enter Try.func24, Try.ntmps24
    go_wp2_with fail
    go_quiet (fail)
    go_wp2_with fail
    go_ret
    rw [HW.out]
    exact ⟨ret_bool (by first | rfl | simpa using hop), _, rfl⟩
  · have HW : Hid (swhole x = (true && decide (x.op = 0))) := HC.out true (by rw [hcs]; rfl)
    rw [hcs] at m0
    clear hcs
    go_enter Try.func24, Try.ntmps24
    go_wp2_with fail
    go_quiet (fail)
    go_wp2_with fail
    go_ret
    rw [HW.out]
    exact ⟨ret_bool (by first | rfl | simpa using hop), _, rfl⟩
  · obtain ⟨h10, hle⟩ := hcs
    have HW : Hid (swhole x = (true && decide (x.op = 0))) := HC.out true (by rw [h10]; simp [hle])
    rw [h10] at m0
    have hli : (x.least : Int) ≤ (x.count : Int) := by omega
    clear h10 hle
    go_enter Try.func24, Try.ntmps24
    go_wp2_with fail
    go_quiet (fail)
    go_wp2_with fail
    go_ret
    rw [HW.out]
    exact ⟨ret_bool (by first | rfl | simpa using hop), _, rfl⟩
  · obtain ⟨h10, hle⟩ := hcs
    have HW : Hid (swhole x = (false && decide (x.op = 0))) := HC.out false (by rw [h10]; simp [hle])
    rw [h10] at m0
    have hli : decide ((x.least : Int) ≤ (x.count : Int)) = false := by simp; omega
    have hli2 : decide (x.least ≤ x.count) = false := by simp; omega
    clear h10 hle
    go_enter Try.func24, Try.ntmps24
    go_wp2_with fail
    go_quiet (fail)
    go_wp2_with fail
    go_ret
    rw [HW.out]
    exact ⟨ret_bool (by first | rfl | simp), _, rfl⟩
  · obtain ⟨n1, n2, n3, n4, n5⟩ := hcs
    have HW : Hid (swhole x = (false && decide (x.op = 0))) := HC.out false (by simp [n1, n2, n3, n4, n5])
    have e1 : ((x.mode : Int) == 0) = false := by simp; omega
    have e2 : ((x.mode : Int) == 7) = false := by simp; omega
    have e3 : ((x.mode : Int) == 9) = false := by simp; omega
    have e4 : ((x.mode : Int) == 15) = false := by simp; omega
    have e5 : ((x.mode : Int) == 10) = false := by simp; omega
    clear n1 n2 n3 n4 n5
    go_enter Try.func24, Try.ntmps24
    go_wp2_with fail
    go_quiet (fail)
    go_wp2_with fail
    go_ret
    rw [HW.out]
    exact ⟨ret_bool (by first | rfl | simp), _, rfl⟩

set_option maxHeartbeats 2000000 in
theorem inTemplate_any (b : Nat) (x : Sc) (c : Nat) (w : World) (hx : ScAt w b x) (hm : Sm x) (hc : c < 256) :
    Calls Try.prog 47 #[.pointer (some ⟨b, 0, none⟩), .int .u8 c] w (Sd b w (inTemplate x c)) := by
  have HX : Hid (ScAt w b x) := hx
  have HM : Hid (Sm x) := hm
  obtain ⟨pv, lv, bv, hR, hN⟩ := hx
  have HR : Hid (Row w b (scL x pv lv bv)) := hR
  have HN : Hid (Notes w b x pv lv bv) := hN
  have m0 := hR.cell (k := 0) rfl
  have f0 := hR.frozen (k := 0) (by rw [scL_length]; omega)
  have m4 := hR.cell (k := 4) rfl
  have f4 := hR.frozen (k := 4) (by rw [scL_length]; omega)
  have m11 := hR.cell (k := 11) rfl
  have f11 := hR.frozen (k := 11) (by rw [scL_length]; omega)
  have m12 := hR.cell (k := 12) rfl
  have f12 := hR.frozen (k := 12) (by rw [scL_length]; omega)
  have m13 := hR.cell (k := 13) rfl
  have f13 := hR.frozen (k := 13) (by rw [scL_length]; omega)
  have hmo := hm.mode
  have hpa := hm.pat.2.2.1
  clear hR hN hm
  by_cases h14 : x.mode = 14
  · have e14 : (x.mode : Int) = 14 := by omega
    have hT : inTemplate x c = if inB tempEscs c = true ∨ (49 ≤ c ∧ c ≤ 57 ∧ c - 48 ≤ x.pat.a) then some { x with mode := 13 } else none := by unfold inTemplate; rw [if_pos h14]
    have hRR := Row.head (x' := { x with mode := 13 }) HR.out 0 (.int .i64 13) (by omega) rfl
    have HRR : Hid _ := hRR
    clear h14 hRR
    rcases bool_or (inB tempEscs c) with hq | hq
    · have HQ : Hid (inB tempEscs c = true) := hq
      have HS : Hid (inTemplate x c = some { x with mode := 13 }) := by rw [Hid, hT, if_pos (.inl hq)]
      clear hT hq
      go_enter Try.func47, Try.ntmps47
      go_wp2_with fail
      refine (in_any tempEscs c _ (by decide)).mono ?_
      rw [HQ.out]
      rintro e w1 ⟨rfl, rfl⟩
      go_wp2_with fail
      go_ret
      rw [HS.out]
      exact Sd.yes (x' := { x with mode := 13 }) HN.out ((Sole.refl _ _).setCell _ _) HRR.out rfl
    · have HQ : Hid (inB tempEscs c = false) := hq
      by_cases hd : 49 ≤ c ∧ c ≤ 57 ∧ c - 48 ≤ x.pat.a
      · have HS : Hid (inTemplate x c = some { x with mode := 13 }) := by rw [Hid, hT, if_pos (.inr hd)]
        obtain ⟨d1, d2, d3⟩ := hd
        have d4 : (c : Int) - 48 ≤ (x.pat.a : Int) := by omega
        clear hT hq
        go_enter Try.func47, Try.ntmps47
        go_wp2_with fail
        refine (in_any tempEscs c _ (by decide)).mono ?_
        rw [HQ.out]
        rintro e w1 ⟨rfl, rfl⟩
        go_wp2_with fail
        go_ret
        rw [HS.out]
        exact Sd.yes (x' := { x with mode := 13 }) HN.out ((Sole.refl _ _).setCell _ _) HRR.out rfl
      · have HS : Hid (inTemplate x c = none) := by rw [Hid, hT, if_neg (by rw [hq]; simp; omega)]
        have hcs : c < 49 ∨ (49 ≤ c ∧ 57 < c) ∨ (49 ≤ c ∧ c ≤ 57 ∧ ¬ (c : Int) - 48 ≤ (x.pat.a : Int)) := by omega
        clear hT hq hd
        rcases hcs with d1 | ⟨d1, d2⟩ | ⟨d1, d2, d3⟩
        all_goals
          go_enter Try.func47, Try.ntmps47
          go_wp2_with fail
          refine (in_any tempEscs c _ (by decide)).mono ?_
          rw [HQ.out]
          rintro e w1 ⟨rfl, rfl⟩
          go_wp2_with fail
          go_ret
          rw [HS.out]
          first
            | exact Sd.no (Sole.below ((Sole.refl _ _).setCell _ _)) rfl
            | exact ⟨_, rfl, Sole.below ((Sole.refl _ _).setCell _ _), .inr ⟨rfl, decide_eq_false (by omega)⟩⟩
  · have e14 : ((x.mode : Int) == 14) = false := by simp; omega
    have hT : inTemplate x c = if c = 47 then some { x with mode := 15, all := false, print := false, numbers := false } else if c = 92 then some { x with mode := 14 } else if c = 10 then none else some x := by unfold inTemplate; rw [if_neg h14]
    clear h14
    by_cases h47 : c = 47
    · subst h47
      have HS : Hid (inTemplate x 47 = some { x with mode := 15, all := false, print := false, numbers := false }) := by rw [Hid, hT, if_pos rfl]
      have hRR := Row.head (x' := { x with mode := 15, all := false, print := false, numbers := false }) (Row.head (x' := { x with mode := 15, all := false, print := false }) (Row.head (x' := { x with mode := 15, all := false }) (Row.head (x' := { x with mode := 15 }) HR.out 0 (.int .i64 15) (by omega) rfl) 11 (.bool false) (by omega) rfl) 12 (.bool false) (by omega) rfl) 13 (.bool false) (by omega) rfl
      have HRR : Hid _ := hRR
      clear hT hRR
      go_enter Try.func47, Try.ntmps47
      go_wp2_with fail
      go_ret
      rw [HS.out]
      exact Sd.yes (x' := { x with mode := 15, all := false, print := false, numbers := false }) HN.out (((((Sole.refl _ _).setCell _ _).setCell _ _).setCell _ _).setCell _ _) HRR.out rfl
    by_cases h92 : c = 92
    · subst h92
      have HS : Hid (inTemplate x 92 = some { x with mode := 14 }) := by rw [Hid, hT, if_neg (by omega), if_pos rfl]
      clear hT
      go_enter Try.func47, Try.ntmps47
      go_wp2_with fail
      go_ret
      rw [HS.out]
      exact Sd.yes (x' := { x with mode := 14 }) HN.out ((Sole.refl _ _).setCell _ _) (Row.head HR.out 0 _ (by omega) rfl) rfl
    by_cases h10 : c = 10
    · subst h10
      have HS : Hid (inTemplate x 10 = none) := by rw [Hid, hT, if_neg (by omega), if_neg (by omega), if_pos rfl]
      clear hT
      go_enter Try.func47, Try.ntmps47
      go_wp2_with fail
      go_ret
      rw [HS.out]
      exact Sd.no (Below.refl _ _) rfl
    · have HS : Hid (inTemplate x c = some x) := by rw [Hid, hT, if_neg h47, if_neg h92, if_neg h10]
      have q1 : ((c : Int) == 47) = false := by simp; omega
      have q2 : ((c : Int) == 92) = false := by simp; omega
      have q3 : ((c : Int) == 10) = false := by simp; omega
      clear hT
      go_enter Try.func47, Try.ntmps47
      go_wp2_with fail
      go_ret
      rw [HS.out]
      exact ⟨_, rfl, Below.refl _ _, .inl ⟨x, rfl, by first | rfl | (simp; omega), HX.out⟩⟩
end Sk
end Go.Proofs.Ytppjlpihaocdiaa

/- The document's walk over a script: the first row of y. -/
set_option linter.unusedSimpArgs false
set_option linter.unusedVariables false
namespace Go.Proofs.Ytppjlpihaocdiaa
namespace Sk
open Go.RowKit

theorem r256_set (f : Nat → Bool) (v : Nat) (hv : v < 256) : (r256 f).set v (.bool true) = r256 fun k => if k = v then true else f k := by
  apply List.ext_getElem?
  intro k
  by_cases h : k < 256
  · by_cases e : v = k
    · subst e
      rw [List.getElem?_set_self (by simp [r256]; omega)]
      simp [r256, h]
    · rw [List.getElem?_set_ne e]
      have e' : ¬ k = v := fun h => e h.symm
      simp [r256, h, e']
  · rw [List.getElem?_eq_none (by simp [r256]; omega), List.getElem?_eq_none (by simp [r256]; omega)]

theorem scL_put_row (x : Sc) (pv lv bv : Value) (v : Nat) (hv : v < 256) : (scL x pv lv bv).set (v + 14) (.bool true) = scL { x with row := fun k => if k = v then true else x.row k } pv lv bv := by
  have h : (r256 x.row ++ [Value.int .i64 x.rows, pv, lv, bv]).set v (.bool true) = r256 (fun k => if k = v then true else x.row k) ++ [Value.int .i64 x.rows, pv, lv, bv] := by
    rw [List.set_append_left _ _ (by simp [r256]; omega), r256_set _ _ hv]
  unfold scL
  simp only [List.set_cons_succ]
  rw [h]

theorem scL_put_rows (x : Sc) (pv lv bv : Value) (n : Nat) : (scL x pv lv bv).set 270 (.int .i64 (n : Int)) = scL { x with rows := n } pv lv bv := by
  have h : (r256 x.row ++ [Value.int .i64 x.rows, pv, lv, bv]).set 256 (.int .i64 (n : Int)) = r256 x.row ++ [Value.int .i64 n, pv, lv, bv] := by
    rw [List.set_append_right _ _ (by simp [r256])]
    simp [r256]
  unfold scL
  simp only [List.set_cons_succ]
  rw [h]

theorem val_lt {c : Nat} (h : c < 256) : val c < 256 := by unfold val; split <;> omega

set_option maxHeartbeats 1000000 in
theorem inFirst_any (b : Nat) (x : Sc) (c : Nat) (w : World) (hx : ScAt w b x) (hm : Sm x) (hc : c < 256) :
    Calls Try.prog 49 #[.pointer (some ⟨b, 0, none⟩), .int .u8 c] w (Sd b w (inFirst x c)) := by
  have HX : Hid (ScAt w b x) := hx
  have HM : Hid (Sm x) := hm
  obtain ⟨pv, lv, bv, hR, hN⟩ := hx
  have HR : Hid (Row w b (scL x pv lv bv)) := hR
  have HN : Hid (Notes w b x pv lv bv) := hN
  have m0 := hR.cell (k := 0) rfl
  have f0 := hR.frozen (k := 0) (by rw [scL_length]; omega)
  have m7 := hR.cell (k := 7) rfl
  have f7 := hR.frozen (k := 7) (by rw [scL_length]; omega)
  have m270 := hR.cell (k := 270) (scL_rows x pv lv bv)
  have f270 := hR.frozen (k := 270) (by rw [scL_length]; omega)
  have HMV : Hid (∀ v, v < 256 → w.cell? ⟨b, 14 + v, none⟩ = some (.bool (x.row v)) ∧ w.frozen? ⟨b, 14 + v, none⟩ = false) := fun v hv => by
    rw [Nat.add_comm]
    exact ⟨hR.cell (scL_row x pv lv bv v hv), hR.frozen (by rw [scL_length]; omega)⟩
  have hmo := hm.mode
  have hro := hm.rows
  clear hR hN hm
  have HE : Hid (((x.rows : Int) + 1) = ((x.rows + 1 : Nat) : Int)) := by rw [Hid]; omega
  by_cases h18 : x.mode = 18
  · have e18 : (x.mode : Int) = 18 := by omega
    rcases bool_or (inB rowEscs c) with hq | hq
    · have HQ : Hid (inB rowEscs c = true) := hq
      have hT : inFirst x c = rowMore { x with mode := 17 } (val c) := by unfold inFirst; rw [if_pos h18, if_pos hq]
      have hv := val_lt hc
      obtain ⟨mv, fv⟩ := HMV.out (val c) hv
      clear h18 hq
      rcases bool_or (x.row (val c)) with hrv | hrv
      · have HS : Hid (inFirst x c = none) := by rw [Hid, hT]; unfold rowMore; rw [if_pos hrv]
        rw [hrv] at mv
        clear hT hrv
        go_enter Try.func49, Try.ntmps49
        go_wp2_with fail
        refine (value_any c _ hc).mono ?_
        rintro e w1 ⟨rfl, rfl⟩
        go_wp2_with fail
        refine (in_any rowEscs c _ (by decide)).mono ?_
        rw [HQ.out]
        rintro e w1 ⟨rfl, rfl⟩
        go_wp2_with fail
        go_ret
        rw [HS.out]
        exact Sd.no (Sole.below ((Sole.refl _ _).setCell _ _)) rfl
      · have HS : Hid (inFirst x c = some { x with mode := 17, row := fun k => if k = val c then true else x.row k, rows := x.rows + 1 }) := by rw [Hid, hT]; unfold rowMore; rw [if_neg (by rw [hrv]; simp)]
        have HRv : Hid _ := Row.head (x' := { x with mode := 17, row := fun k => if k = val c then true else x.row k, rows := x.rows + 1 }) (Row.head (x' := { x with mode := 17, row := fun k => if k = val c then true else x.row k }) (Row.head (x' := { x with mode := 17 }) HR.out 0 (.int .i64 17) (by omega) rfl) (14 + val c) (.bool true) (by omega) (by rw [Nat.add_comm 14]; exact scL_put_row _ _ _ _ _ hv)) 270 (.int .i64 ((x.rows + 1 : Nat) : Int)) (by omega) (scL_put_rows _ _ _ _ _)
        rw [hrv] at mv
        clear hT hrv
        go_enter Try.func49, Try.ntmps49
        go_wp2_with fail
        refine (value_any c _ hc).mono ?_
        rintro e w1 ⟨rfl, rfl⟩
        go_wp2_with fail
        refine (in_any rowEscs c _ (by decide)).mono ?_
        rw [HQ.out]
        rintro e w1 ⟨rfl, rfl⟩
        go_wp2_with fail
        go_ret
        rw [HS.out, HE.out]
        exact Sd.yes (x' := { x with mode := 17, row := fun k => if k = val c then true else x.row k, rows := x.rows + 1 }) HN.out ((((Sole.refl _ _).setCell _ _).setCell _ _).setCell _ _) HRv.out rfl
    · have HQ : Hid (inB rowEscs c = false) := hq
      have HS : Hid (inFirst x c = none) := by unfold inFirst; rw [Hid, if_pos h18, if_neg (by rw [hq]; simp)]
      clear h18 hq
      go_enter Try.func49, Try.ntmps49
      go_wp2_with fail
      refine (value_any c _ hc).mono ?_
      rintro e w1 ⟨rfl, rfl⟩
      go_wp2_with fail
      refine (in_any rowEscs c _ (by decide)).mono ?_
      rw [HQ.out]
      rintro e w1 ⟨rfl, rfl⟩
      go_wp2_with fail
      go_ret
      rw [HS.out]
      exact Sd.no (Sole.below ((Sole.refl _ _).setCell _ _)) rfl
  · have e18 : ((x.mode : Int) == 18) = false := by simp; omega
    have hT0 : inFirst x c = if c = 47 then some { x with mode := if x.rows = 0 then 21 else 19, count := 0 } else if c = 92 then (if x.row 10 = false ∨ x.row 92 = false ∨ x.row 47 = false then some { x with mode := 18 } else none) else if c = 10 then none else rowMore x c := by unfold inFirst; rw [if_neg h18]
    clear h18
    by_cases h47 : c = 47
    · subst h47
      have hRc := Row.head (x' := { x with mode := 19, count := 0 }) (Row.head (x' := { x with mode := 19 }) HR.out 0 (.int .i64 19) (by omega) rfl) 7 (.int .i64 0) (by omega) rfl
      have HRc : Hid _ := hRc
      clear hRc
      by_cases hr : x.rows = 0
      · have HS : Hid (inFirst x 47 = some { x with mode := 21, count := 0 }) := by rw [Hid, hT0, if_pos rfl, if_pos hr]
        have q9 : (x.rows : Int) = 0 := by omega
        clear hT0 hr
        go_enter Try.func49, Try.ntmps49
        go_wp2_with fail
        go_ret
        rw [HS.out]
        exact Sd.yes (x' := { x with mode := 21, count := 0 }) HN.out ((((Sole.refl _ _).setCell _ _).setCell _ _).setCell _ _) (Row.head HRc.out 0 _ (by omega) rfl) rfl
      · have HS : Hid (inFirst x 47 = some { x with mode := 19, count := 0 }) := by rw [Hid, hT0, if_pos rfl, if_neg hr]
        have q9 : ((x.rows : Int) == 0) = false := by simp; omega
        clear hT0 hr
        go_enter Try.func49, Try.ntmps49
        go_wp2_with fail
        go_ret
        rw [HS.out]
        exact Sd.yes (x' := { x with mode := 19, count := 0 }) HN.out (((Sole.refl _ _).setCell _ _).setCell _ _) HRc.out rfl
    by_cases h92 : c = 92
    · subst h92
      obtain ⟨ma, fa⟩ := HMV.out 10 (by omega)
      obtain ⟨mb, fb⟩ := HMV.out 92 (by omega)
      obtain ⟨md, fd⟩ := HMV.out 47 (by omega)
      simp only [Nat.reduceAdd] at ma mb md fa fb fd
      have hcs : (x.row 10 = false) ∨ (x.row 10 = true ∧ x.row 92 = false) ∨ (x.row 10 = true ∧ x.row 92 = true ∧ x.row 47 = false) ∨ (x.row 10 = true ∧ x.row 92 = true ∧ x.row 47 = true) := by
        cases x.row 10 <;> cases x.row 92 <;> cases x.row 47 <;> simp
      rcases hcs with r1 | ⟨r1, r2⟩ | ⟨r1, r2, r3⟩ | ⟨r1, r2, r3⟩
      · have HS : Hid (inFirst x 92 = some { x with mode := 18 }) := by rw [Hid, hT0, if_neg (by omega), if_pos rfl, if_pos (by simp [r1])]
        rw [r1] at ma
        clear hT0 r1
        go_enter Try.func49, Try.ntmps49
        go_wp2_with fail
        go_ret
        rw [HS.out]
        exact Sd.yes (x' := { x with mode := 18 }) HN.out ((Sole.refl _ _).setCell _ _) (Row.head HR.out 0 _ (by omega) rfl) rfl
      · have HS : Hid (inFirst x 92 = some { x with mode := 18 }) := by rw [Hid, hT0, if_neg (by omega), if_pos rfl, if_pos (by simp [r1, r2])]
        rw [r1] at ma
        rw [r2] at mb
        clear hT0 r1 r2
        go_enter Try.func49, Try.ntmps49
        go_wp2_with fail
        go_ret
        rw [HS.out]
        exact Sd.yes (x' := { x with mode := 18 }) HN.out ((Sole.refl _ _).setCell _ _) (Row.head HR.out 0 _ (by omega) rfl) rfl
      · have HS : Hid (inFirst x 92 = some { x with mode := 18 }) := by rw [Hid, hT0, if_neg (by omega), if_pos rfl, if_pos (by simp [r1, r2, r3])]
        rw [r1] at ma
        rw [r2] at mb
        rw [r3] at md
        clear hT0 r1 r2 r3
        go_enter Try.func49, Try.ntmps49
        go_wp2_with fail
        go_ret
        rw [HS.out]
        exact Sd.yes (x' := { x with mode := 18 }) HN.out ((Sole.refl _ _).setCell _ _) (Row.head HR.out 0 _ (by omega) rfl) rfl
      · have HS : Hid (inFirst x 92 = none) := by rw [Hid, hT0, if_neg (by omega), if_pos rfl, if_neg (by simp [r1, r2, r3])]
        rw [r1] at ma
        rw [r2] at mb
        rw [r3] at md
        clear hT0 r1 r2 r3
        go_enter Try.func49, Try.ntmps49
        go_wp2_with fail
        go_ret
        rw [HS.out]
        exact Sd.no (Sole.below ((Sole.refl _ _).setCell _ _)) rfl
    by_cases h10 : c = 10
    · subst h10
      have HS : Hid (inFirst x 10 = none) := by rw [Hid, hT0, if_neg (by omega), if_neg (by omega), if_pos rfl]
      clear hT0
      go_enter Try.func49, Try.ntmps49
      go_wp2_with fail
      go_ret
      rw [HS.out]
      exact Sd.no (Below.refl _ _) rfl
    have hT : inFirst x c = rowMore x c := by rw [hT0, if_neg h47, if_neg h92, if_neg h10]
    have q1 : ((c : Int) == 92) = false := by simp; omega
    have q2 : ((c : Int) == 47) = false := by simp; omega
    have q3 : ((c : Int) == 10) = false := by simp; omega
    have hv := hc
    obtain ⟨mv, fv⟩ := HMV.out c hc
    clear hT0 h47 h92 h10
    rcases bool_or (x.row (c)) with hrv | hrv
    · have HS : Hid (inFirst x c = none) := by rw [Hid, hT]; unfold rowMore; rw [if_pos hrv]
      rw [hrv] at mv
      clear hT hrv
      go_enter Try.func49, Try.ntmps49
      go_wp2_with fail
      go_ret
      rw [HS.out]
      exact Sd.no (Sole.below (Sole.refl _ _)) rfl
    · have HS : Hid (inFirst x c = some { x with row := fun k => if k = c then true else x.row k, rows := x.rows + 1 }) := by rw [Hid, hT]; unfold rowMore; rw [if_neg (by rw [hrv]; simp)]
      have HRv : Hid _ := Row.head (x' := { x with row := fun k => if k = c then true else x.row k, rows := x.rows + 1 }) (Row.head (x' := { x with row := fun k => if k = c then true else x.row k }) HR.out (14 + c) (.bool true) (by omega) (by rw [Nat.add_comm 14]; exact scL_put_row _ _ _ _ _ hv)) 270 (.int .i64 ((x.rows + 1 : Nat) : Int)) (by omega) (scL_put_rows _ _ _ _ _)
      rw [hrv] at mv
      clear hT hrv
      go_enter Try.func49, Try.ntmps49
      go_wp2_with fail
      go_ret
      rw [HS.out, HE.out]
      exact Sd.yes (x' := { x with row := fun k => if k = c then true else x.row k, rows := x.rows + 1 }) HN.out (((Sole.refl _ _).setCell _ _).setCell _ _) HRv.out rfl
end Sk
end Go.Proofs.Ytppjlpihaocdiaa

