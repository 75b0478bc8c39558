/- Several texts in one. -/
import Derived.Test.YtppjlpihaocdiaaGreatDoorEdWH
/- A part of the proof. -/
set_option linter.unusedSimpArgs false
set_option linter.unusedVariables false
namespace Go.Proofs.YtppjlpihaocdiaaGreatDoor
namespace Ee
open Go.RowKit
open Rs (Cm Wh Pc CmAt Pts cmL Keep own_of grps pcL)
theorem printSpace_out (cf : Cf) (E : Ed) : ∃ o, E.printSpace cf = { E with out := o } ∧ E.out.length ≤ o.length ∧ o.length ≤ E.out.length + E.pat.size + 1 := by
  unfold Ed.printSpace
  split
  · exact ⟨E.out, rfl, by omega, by omega⟩
  · refine ⟨E.out ++ row E.pat ++ [10], rfl, ?_, ?_⟩ <;> simp [row_length] <;> omega
theorem readBy_at (cf : Cf) (j : Bool) (E : Ed) : (E.readBy cf j).1.at' = E.at' := by
  unfold Ed.readBy
  split
  · rfl
  · cases hw : E.read.way cf j (txt E.next) with
    | none => rfl
    | some E' =>
      have : E'.at' = E.at' := by
        unfold Ed.way Ed.grow Ed.become at hw
        split at hw <;> split at hw <;> cases hw <;> rfl
      exact this
def Ed.nextTail (cf : Cf) (join : Bool) (E1 : Ed) : Ed × Nat := if E1.atHand cf = true then (if (E1.readBy cf join).2 = true then (E1.readBy cf join).1.jump ((E1.readBy cf join).1.at' + 1) else ((E1.readBy cf join).1, 0)) else (E1, 0)
theorem doNext_eq (cf : Cf) (E : Ed) (join : Bool) : E.doNext cf join = if E.stage = 3 ∧ E.known = false then (E, 0) else if E.stage = 3 ∧ E.more = false then (E, 4) else (if E.stage = 3 then { (if join = true then E else (E.printSpace cf).printComing) with stage := 4 } else E).nextTail cf join := rfl
set_option maxRecDepth 100000 in
set_option maxHeartbeats 4000000 in
theorem doNext_3 (b : Nat) (cf : Cf) (E : Ed) (v : Ev) (w : World) (h : At w b cf E v) (hs : Sml cf E) :
    Calls Tryz.prog 171 #[.pointer (some ⟨b, 0, none⟩), .int .i64 3] w (Step w b cf v (E.doNext cf false)) := by
  have HA : Hid (At w b cf E v) := h
  have HDN : Hid (E.doNext cf false = _) := doNext_eq cf E false
  have m15 := h.cell (k := 15) rfl
  have hn1 : E.number ≤ 70368744177664 := Nat.le_trans hs.number (by omega)
  have hl1 := hs.next
  have hp1 : E.pat.size ≤ 1000000 := Nat.le_trans hs.pat (by omega)
  have hpat := hs.pat
  have hout := hs.out
  have hoo : E.out.length ≤ 70368744177664 := hs.outl
  have HCM : Hid (∀ t ∈ E.coming, t.size ≤ 1000000) := fun t ht => Nat.le_trans (hs.com t ht) (by omega)
  have hat1 : E.at' ≤ 1000000 := by have := hs.at'; have := hs.cmds; omega
  clear h hs
  by_cases h3 : E.stage = 3
  · rw [h3] at m15
    have hM := more_any b cf E v w HA.out
    by_cases hk : E.known = false
    · have HD : Hid (E.doNext cf false = (E, 0)) := by rw [Hid, HDN.out, if_pos ⟨h3, hk⟩]
      rw [hk] at hM
      generalize E.more = mo at hM
      clear HDN h3 hk
      go_enter Tryz.func171, Tryz.ntmps171
      go_wp2_with fail
      refine hM.mono ?_
      rintro e w1 ⟨rfl, n, rfl⟩
      go_wp2_with fail
      go_ret
      rw [HD.out]
      exact ⟨rfl, (Ok.refl HA.out).drewN n⟩
    · have hk2 : E.known = true := by simpa using hk
      rw [hk2] at hM
      by_cases hm : E.more = false
      · have HD : Hid (E.doNext cf false = (E, 4)) := by rw [Hid, HDN.out, if_neg (by simp [hk]), if_pos ⟨h3, hm⟩]
        rw [hm] at hM
        clear HDN h3 hk hk2 hm
        go_enter Tryz.func171, Tryz.ntmps171
        go_wp2_with fail
        refine hM.mono ?_
        rintro e w1 ⟨rfl, n, rfl⟩
        go_wp2_with fail
        go_ret
        rw [HD.out]
        exact ⟨rfl, (Ok.refl HA.out).drewN n⟩
      · have hm2 : E.more = true := by simpa using hm
        rw [hm2] at hM
        obtain ⟨o1, hq1, hq2, hq3⟩ := printSpace_out cf E
        obtain ⟨o2, hr1, hr2⟩ := printComing_out (E.printSpace cf)
        have HE1 : Hid ((E.printSpace cf).printComing = { E with out := o2, coming := [] }) := by rw [Hid, hr1, hq1]
        have HD : Hid (E.doNext cf false = ({ E with out := o2, coming := [], stage := 4 } : Ed).nextTail cf false) := by
          rw [Hid, HDN.out, if_neg (by simp [hk]), if_neg (by simp [hm]), if_pos h3, if_neg (by simp), HE1.out]
        have HQ1 : Hid (E.printSpace cf = { E with out := o1 }) := hq1
        have hw2 : o1.length + weigh E.coming ≤ 70368744177664 := by omega
        clear HDN h3 hk hk2 hm hm2 hr1 hr2 hq1 hq2 hq3
        go_enter Tryz.func171, Tryz.ntmps171
        go_wp2_with fail
        refine hM.mono ?_
        rintro e w1 ⟨rfl, n, rfl⟩
        clear hM
        have HA1 : Hid (At (w.drewN n) b cf E v) := HA.out.drewN n
        have hL := printSpace_any b cf E v _ HA1.out hoo hp1
        go_wp2_with fail
        refine hL.mono ?_
        rintro e w2 ⟨rfl, hO⟩
        clear hL
        rw [HQ1.out] at hO
        obtain ⟨v2, hA2, hF2⟩ := hO
        have HA2 : Hid (At w2 b cf { E with out := o1 } v2) := hA2
        have HF2 : Hid (Fe b v v2 w w2) := ⟨hF2.os, hF2.tape, hF2.output, hF2.size, hF2.block, hF2.mine, hF2.cm⟩
        clear hA2 hF2
        have hL := printComing_any b cf { E with out := o1 } v2 w2 HA2.out hw2 HCM.out
        go_wp2_with fail
        refine hL.mono ?_
        rintro e w3 ⟨rfl, hO⟩
        clear hL
        have HO3 : Hid (Ok w b cf v { E with out := o2, coming := [] } w3) := by
          obtain ⟨v3, a1, a2⟩ := hO
          rw [← HQ1.out, HE1.out] at a1
          exact ⟨v3, a1, HF2.out.trans a2⟩
        clear hO
        have n15 := HO3.out.cell (k := 15) (fun _ => rfl)
        have f15 := HO3.out.frz 15 (by omega)
        have HO4 : Hid (Ok w b cf v { E with out := o2, coming := [], stage := 4 } (w3.setCell ⟨b, 15, none⟩ (.int .i64 4))) := HO3.out.put (fun v' h' => ⟨(Sole.refl _ _).setCell _ _, rput h'.row 15 _ (by omega) rfl⟩)
        obtain ⟨v3, hA3, hF3⟩ := HO4.out
        have HA3 : Hid (At (w3.setCell ⟨b, 15, none⟩ (.int .i64 4)) b cf { E with out := o2, coming := [], stage := 4 } v3) := hA3
        have HF3 : Hid (Fe b v v3 w (w3.setCell ⟨b, 15, none⟩ (.int .i64 4))) := hF3
        clear hA3 hF3
        have hL := atHand_any b cf { E with out := o2, coming := [], stage := 4 } v3 (w3.setCell ⟨b, 15, none⟩ (.int .i64 4)) HA3.out
        rcases bool_or (({ E with out := o2, coming := [], stage := 4 }).atHand cf) with ha | ha
        · rw [ha] at hL
          have HD2 : Hid (E.doNext cf false = if (({ E with out := o2, coming := [], stage := 4 }).readBy cf false).2 = true then (({ E with out := o2, coming := [], stage := 4 }).readBy cf false).1.jump ((({ E with out := o2, coming := [], stage := 4 }).readBy cf false).1.at' + 1) else ((({ E with out := o2, coming := [], stage := 4 }).readBy cf false).1, 0)) := by rw [Hid, HD.out, Ed.nextTail, if_pos ha]
          have HAT := readBy_at cf false ({ E with out := o2, coming := [], stage := 4 })
          go_wp2_with fail
          refine hL.mono ?_
          rintro e w4 ⟨rfl, n, rfl⟩
          clear hL
          have hL := readBy_become b cf { E with out := o2, coming := [], stage := 4 } v3 _ (HA3.out.drewN n) hn1 hl1
          rcases hr : ({ E with out := o2, coming := [], stage := 4 }).readBy cf false with ⟨E2, ok⟩
          rw [hr] at hL HD2 HAT
          simp only at hL HAT
          have HF4 : Hid (Fe b v v3 w (((w3.setCell ⟨b, 15, none⟩ (.int .i64 4))).drewN n)) := HF3.out.drewN n
          rcases bool_or ok with hk | hk <;> subst hk
          · have HD3 : Hid (E.doNext cf false = E2.jump (E2.at' + 1)) := by rw [Hid, HD2.out]; rfl
            clear hr
            go_wp2_with fail
            refine hL.mono ?_
            rintro e w5 ⟨rfl, hO⟩
            clear hL
            obtain ⟨v5, hA5, hF5⟩ := hO
            have HA5 : Hid (At w5 b cf E2 v5) := hA5
            have HF5 : Hid (Fe b v v5 w w5) := HF4.out.trans hF5
            clear hA5 hF5
            have m14 := HA5.out.cell (k := 14) rfl
            have hat2 : E2.at' ≤ 1000000 := by rw [HAT]; exact hat1
            have hL := jump_any b cf E2 v5 w5 (E2.at' + 1) HA5.out
            generalize E2.jump (E2.at' + 1) = r at hL HD3
            clear HAT
            go_wp2_with fail
            refine hL.mono ?_
            rintro e w6 ⟨rfl, hO⟩
            have HO6 : Hid (Ok w b cf v r.1 w6) := by
              obtain ⟨v6, a1, a2⟩ := hO
              exact ⟨v6, a1, HF5.out.trans a2⟩
            clear hL hO
            go_wp2_with fail
            go_ret
            rw [HD3.out]
            exact ⟨rfl, HO6.out⟩
          · have HD3 : Hid (E.doNext cf false = (E2, 0)) := by rw [Hid, HD2.out]; rfl
            clear hr
            go_wp2_with fail
            refine hL.mono ?_
            rintro e w5 ⟨rfl, hO⟩
            have HO5 : Hid (Ok w b cf v E2 w5) := by
              obtain ⟨v6, a1, a2⟩ := hO
              exact ⟨v6, a1, HF4.out.trans a2⟩
            clear hL hO
            go_wp2_with fail
            go_ret
            rw [HD3.out]
            exact ⟨rfl, HO5.out⟩
        · rw [ha] at hL
          have HD3 : Hid (E.doNext cf false = ({ E with out := o2, coming := [], stage := 4 }, 0)) := by rw [Hid, HD.out, Ed.nextTail, if_neg (by rw [ha]; simp)]
          go_wp2_with fail
          refine hL.mono ?_
          rintro e w4 ⟨rfl, n, rfl⟩
          clear hL
          go_wp2_with fail
          go_ret
          rw [HD3.out]
          exact ⟨rfl, v3, HA3.out.drewN n, HF3.out.drewN n⟩
  · have q3 : ((E.stage : Int) == 3) = false := by simp; omega
    have HD : Hid (E.doNext cf false = E.nextTail cf false) := by
      rw [Hid, HDN.out, if_neg (by simp [h3]), if_neg (by simp [h3]), if_neg h3]
    clear HDN h3
    have HO4 : Hid (Ok w b cf v E w) := Ok.refl HA.out
    go_enter Tryz.func171, Tryz.ntmps171
    go_wp2_with fail
    obtain ⟨v3, hA3, hF3⟩ := HO4.out
    have HA3 : Hid (At w b cf E v3) := hA3
    have HF3 : Hid (Fe b v v3 w w) := hF3
    clear hA3 hF3
    have hL := atHand_any b cf E v3 w HA3.out
    rcases bool_or ((E).atHand cf) with ha | ha
    · rw [ha] at hL
      have HD2 : Hid (E.doNext cf false = if ((E).readBy cf false).2 = true then ((E).readBy cf false).1.jump (((E).readBy cf false).1.at' + 1) else (((E).readBy cf false).1, 0)) := by rw [Hid, HD.out, Ed.nextTail, if_pos ha]
      have HAT := readBy_at cf false (E)
      refine hL.mono ?_
      rintro e w4 ⟨rfl, n, rfl⟩
      clear hL
      have hL := readBy_become b cf E v3 _ (HA3.out.drewN n) hn1 hl1
      rcases hr : (E).readBy cf false with ⟨E2, ok⟩
      rw [hr] at hL HD2 HAT
      simp only at hL HAT
      have HF4 : Hid (Fe b v v3 w ((w).drewN n)) := HF3.out.drewN n
      rcases bool_or ok with hk | hk <;> subst hk
      · have HD3 : Hid (E.doNext cf false = E2.jump (E2.at' + 1)) := by rw [Hid, HD2.out]; rfl
        clear hr
        go_wp2_with fail
        refine hL.mono ?_
        rintro e w5 ⟨rfl, hO⟩
        clear hL
        obtain ⟨v5, hA5, hF5⟩ := hO
        have HA5 : Hid (At w5 b cf E2 v5) := hA5
        have HF5 : Hid (Fe b v v5 w w5) := HF4.out.trans hF5
        clear hA5 hF5
        have m14 := HA5.out.cell (k := 14) rfl
        have hat2 : E2.at' ≤ 1000000 := by rw [HAT]; exact hat1
        have hL := jump_any b cf E2 v5 w5 (E2.at' + 1) HA5.out
        generalize E2.jump (E2.at' + 1) = r at hL HD3
        clear HAT
        go_wp2_with fail
        refine hL.mono ?_
        rintro e w6 ⟨rfl, hO⟩
        have HO6 : Hid (Ok w b cf v r.1 w6) := by
          obtain ⟨v6, a1, a2⟩ := hO
          exact ⟨v6, a1, HF5.out.trans a2⟩
        clear hL hO
        go_wp2_with fail
        go_ret
        rw [HD3.out]
        exact ⟨rfl, HO6.out⟩
      · have HD3 : Hid (E.doNext cf false = (E2, 0)) := by rw [Hid, HD2.out]; rfl
        clear hr
        go_wp2_with fail
        refine hL.mono ?_
        rintro e w5 ⟨rfl, hO⟩
        have HO5 : Hid (Ok w b cf v E2 w5) := by
          obtain ⟨v6, a1, a2⟩ := hO
          exact ⟨v6, a1, HF4.out.trans a2⟩
        clear hL hO
        go_wp2_with fail
        go_ret
        rw [HD3.out]
        exact ⟨rfl, HO5.out⟩
    · rw [ha] at hL
      have HD3 : Hid (E.doNext cf false = (E, 0)) := by rw [Hid, HD.out, Ed.nextTail, if_neg (by rw [ha]; simp)]
      refine hL.mono ?_
      rintro e w4 ⟨rfl, n, rfl⟩
      clear hL
      go_wp2_with fail
      go_ret
      rw [HD3.out]
      exact ⟨rfl, v3, HA3.out.drewN n, HF3.out.drewN n⟩
set_option maxRecDepth 100000 in
set_option maxHeartbeats 4000000 in
theorem doNext_4 (b : Nat) (cf : Cf) (E : Ed) (v : Ev) (w : World) (h : At w b cf E v) (hs : Sml cf E) :
    Calls Tryz.prog 171 #[.pointer (some ⟨b, 0, none⟩), .int .i64 4] w (Step w b cf v (E.doNext cf true)) := by
  have HA : Hid (At w b cf E v) := h
  have HDN : Hid (E.doNext cf true = _) := doNext_eq cf E true
  have m15 := h.cell (k := 15) rfl
  have hn1 : E.number ≤ 70368744177664 := Nat.le_trans hs.number (by omega)
  have hl1 := hs.next
  have hp1 : E.pat.size ≤ 1000000 := Nat.le_trans hs.pat (by omega)
  have hpat := hs.pat
  have hout := hs.out
  have hoo : E.out.length ≤ 70368744177664 := hs.outl
  have HCM : Hid (∀ t ∈ E.coming, t.size ≤ 1000000) := fun t ht => Nat.le_trans (hs.com t ht) (by omega)
  have hat1 : E.at' ≤ 1000000 := by have := hs.at'; have := hs.cmds; omega
  clear h hs
  by_cases h3 : E.stage = 3
  · rw [h3] at m15
    have hM := more_any b cf E v w HA.out
    by_cases hk : E.known = false
    · have HD : Hid (E.doNext cf true = (E, 0)) := by rw [Hid, HDN.out, if_pos ⟨h3, hk⟩]
      rw [hk] at hM
      generalize E.more = mo at hM
      clear HDN h3 hk
      go_enter Tryz.func171, Tryz.ntmps171
      go_wp2_with fail
      refine hM.mono ?_
      rintro e w1 ⟨rfl, n, rfl⟩
      go_wp2_with fail
      go_ret
      rw [HD.out]
      exact ⟨rfl, (Ok.refl HA.out).drewN n⟩
    · have hk2 : E.known = true := by simpa using hk
      rw [hk2] at hM
      by_cases hm : E.more = false
      · have HD : Hid (E.doNext cf true = (E, 4)) := by rw [Hid, HDN.out, if_neg (by simp [hk]), if_pos ⟨h3, hm⟩]
        rw [hm] at hM
        clear HDN h3 hk hk2 hm
        go_enter Tryz.func171, Tryz.ntmps171
        go_wp2_with fail
        refine hM.mono ?_
        rintro e w1 ⟨rfl, n, rfl⟩
        go_wp2_with fail
        go_ret
        rw [HD.out]
        exact ⟨rfl, (Ok.refl HA.out).drewN n⟩
      · have hm2 : E.more = true := by simpa using hm
        rw [hm2] at hM
        have HD : Hid (E.doNext cf true = ({ E with stage := 4 } : Ed).nextTail cf true) := by
          rw [Hid, HDN.out, if_neg (by simp [hk]), if_neg (by simp [hm]), if_pos h3, if_pos rfl]
        clear HDN h3 hk hk2 hm hm2
        have HO4 : Hid (∀ n, Ok w b cf v { E with stage := 4 } ((w.drewN n).setCell ⟨b, 15, none⟩ (.int .i64 4))) := fun n => ((Ok.refl HA.out).drewN n).put (fun v' h' => ⟨(Sole.refl _ _).setCell _ _, rput h'.row 15 _ (by omega) rfl⟩)
        have f15 := HA.out.frz 15 (by omega)
        go_enter Tryz.func171, Tryz.ntmps171
        go_wp2_with fail
        refine hM.mono ?_
        rintro e w1 ⟨rfl, n1, rfl⟩
        clear hM
        obtain ⟨W, hW, HW⟩ : ∃ W, (w.drewN n1).setCell ⟨b, 15, none⟩ (.int .i64 4) = W ∧ Hid (Ok w b cf v { E with stage := 4 } W) := ⟨_, rfl, HO4.out n1⟩
        have HWE : Hid ((w.drewN n1).setCell ⟨b, 15, none⟩ (.int .i64 4) = W) := hW
        clear hW
        go_wp2_with fail
        rw [HWE.out]
        obtain ⟨v3, hA3, hF3⟩ := HW.out
        have HA3 : Hid (At W b cf { E with stage := 4 } v3) := hA3
        have HF3 : Hid (Fe b v v3 w W) := hF3
        clear hA3 hF3
        have hL := atHand_any b cf { E with stage := 4 } v3 W HA3.out
        rcases bool_or (({ E with stage := 4 }).atHand cf) with ha | ha
        · rw [ha] at hL
          have HD2 : Hid (E.doNext cf true = if (({ E with stage := 4 }).readBy cf true).2 = true then (({ E with stage := 4 }).readBy cf true).1.jump ((({ E with stage := 4 }).readBy cf true).1.at' + 1) else ((({ E with stage := 4 }).readBy cf true).1, 0)) := by rw [Hid, HD.out, Ed.nextTail, if_pos ha]
          have HAT := readBy_at cf true ({ E with stage := 4 })
          refine hL.mono ?_
          rintro e w4 ⟨rfl, n, rfl⟩
          clear hL
          have hL := readBy_grow b cf { E with stage := 4 } v3 _ (HA3.out.drewN n) hn1 hl1 hp1
          rcases hr : ({ E with stage := 4 }).readBy cf true with ⟨E2, ok⟩
          rw [hr] at hL HD2 HAT
          simp only at hL HAT
          have HF4 : Hid (Fe b v v3 w ((W).drewN n)) := HF3.out.drewN n
          rcases bool_or ok with hk | hk <;> subst hk
          · have HD3 : Hid (E.doNext cf true = E2.jump (E2.at' + 1)) := by rw [Hid, HD2.out]; rfl
            clear hr
            go_wp2_with fail
            refine hL.mono ?_
            rintro e w5 ⟨rfl, hO⟩
            clear hL
            obtain ⟨v5, hA5, hF5⟩ := hO
            have HA5 : Hid (At w5 b cf E2 v5) := hA5
            have HF5 : Hid (Fe b v v5 w w5) := HF4.out.trans hF5
            clear hA5 hF5
            have m14 := HA5.out.cell (k := 14) rfl
            have hat2 : E2.at' ≤ 1000000 := by rw [HAT]; exact hat1
            have hL := jump_any b cf E2 v5 w5 (E2.at' + 1) HA5.out
            generalize E2.jump (E2.at' + 1) = r at hL HD3
            clear HAT
            go_wp2_with fail
            refine hL.mono ?_
            rintro e w6 ⟨rfl, hO⟩
            have HO6 : Hid (Ok w b cf v r.1 w6) := by
              obtain ⟨v6, a1, a2⟩ := hO
              exact ⟨v6, a1, HF5.out.trans a2⟩
            clear hL hO
            go_wp2_with fail
            go_ret
            rw [HD3.out]
            exact ⟨rfl, HO6.out⟩
          · have HD3 : Hid (E.doNext cf true = (E2, 0)) := by rw [Hid, HD2.out]; rfl
            clear hr
            go_wp2_with fail
            refine hL.mono ?_
            rintro e w5 ⟨rfl, hO⟩
            have HO5 : Hid (Ok w b cf v E2 w5) := by
              obtain ⟨v6, a1, a2⟩ := hO
              exact ⟨v6, a1, HF4.out.trans a2⟩
            clear hL hO
            go_wp2_with fail
            go_ret
            rw [HD3.out]
            exact ⟨rfl, HO5.out⟩
        · rw [ha] at hL
          have HD3 : Hid (E.doNext cf true = ({ E with stage := 4 }, 0)) := by rw [Hid, HD.out, Ed.nextTail, if_neg (by rw [ha]; simp)]
          refine hL.mono ?_
          rintro e w4 ⟨rfl, n, rfl⟩
          clear hL
          go_wp2_with fail
          go_ret
          rw [HD3.out]
          exact ⟨rfl, v3, HA3.out.drewN n, HF3.out.drewN n⟩
  · have q3 : ((E.stage : Int) == 3) = false := by simp; omega
    have HD : Hid (E.doNext cf true = E.nextTail cf true) := by
      rw [Hid, HDN.out, if_neg (by simp [h3]), if_neg (by simp [h3]), if_neg h3]
    clear HDN h3
    have HO4 : Hid (Ok w b cf v E w) := Ok.refl HA.out
    go_enter Tryz.func171, Tryz.ntmps171
    go_wp2_with fail
    obtain ⟨v3, hA3, hF3⟩ := HO4.out
    have HA3 : Hid (At w b cf E v3) := hA3
    have HF3 : Hid (Fe b v v3 w w) := hF3
    clear hA3 hF3
    have hL := atHand_any b cf E v3 w HA3.out
    rcases bool_or ((E).atHand cf) with ha | ha
    · rw [ha] at hL
      have HD2 : Hid (E.doNext cf true = if ((E).readBy cf true).2 = true then ((E).readBy cf true).1.jump (((E).readBy cf true).1.at' + 1) else (((E).readBy cf true).1, 0)) := by rw [Hid, HD.out, Ed.nextTail, if_pos ha]
      have HAT := readBy_at cf true (E)
      refine hL.mono ?_
      rintro e w4 ⟨rfl, n, rfl⟩
      clear hL
      have hL := readBy_grow b cf E v3 _ (HA3.out.drewN n) hn1 hl1 hp1
      rcases hr : (E).readBy cf true with ⟨E2, ok⟩
      rw [hr] at hL HD2 HAT
      simp only at hL HAT
      have HF4 : Hid (Fe b v v3 w ((w).drewN n)) := HF3.out.drewN n
      rcases bool_or ok with hk | hk <;> subst hk
      · have HD3 : Hid (E.doNext cf true = E2.jump (E2.at' + 1)) := by rw [Hid, HD2.out]; rfl
        clear hr
        go_wp2_with fail
        refine hL.mono ?_
        rintro e w5 ⟨rfl, hO⟩
        clear hL
        obtain ⟨v5, hA5, hF5⟩ := hO
        have HA5 : Hid (At w5 b cf E2 v5) := hA5
        have HF5 : Hid (Fe b v v5 w w5) := HF4.out.trans hF5
        clear hA5 hF5
        have m14 := HA5.out.cell (k := 14) rfl
        have hat2 : E2.at' ≤ 1000000 := by rw [HAT]; exact hat1
        have hL := jump_any b cf E2 v5 w5 (E2.at' + 1) HA5.out
        generalize E2.jump (E2.at' + 1) = r at hL HD3
        clear HAT
        go_wp2_with fail
        refine hL.mono ?_
        rintro e w6 ⟨rfl, hO⟩
        have HO6 : Hid (Ok w b cf v r.1 w6) := by
          obtain ⟨v6, a1, a2⟩ := hO
          exact ⟨v6, a1, HF5.out.trans a2⟩
        clear hL hO
        go_wp2_with fail
        go_ret
        rw [HD3.out]
        exact ⟨rfl, HO6.out⟩
      · have HD3 : Hid (E.doNext cf true = (E2, 0)) := by rw [Hid, HD2.out]; rfl
        clear hr
        go_wp2_with fail
        refine hL.mono ?_
        rintro e w5 ⟨rfl, hO⟩
        have HO5 : Hid (Ok w b cf v E2 w5) := by
          obtain ⟨v6, a1, a2⟩ := hO
          exact ⟨v6, a1, HF4.out.trans a2⟩
        clear hL hO
        go_wp2_with fail
        go_ret
        rw [HD3.out]
        exact ⟨rfl, HO5.out⟩
    · rw [ha] at hL
      have HD3 : Hid (E.doNext cf true = (E, 0)) := by rw [Hid, HD.out, Ed.nextTail, if_neg (by rw [ha]; simp)]
      refine hL.mono ?_
      rintro e w4 ⟨rfl, n, rfl⟩
      clear hL
      go_wp2_with fail
      go_ret
      rw [HD3.out]
      exact ⟨rfl, v3, HA3.out.drewN n, HF3.out.drewN n⟩
def Ed.doD (E : Ed) : Ed × Nat := match dropLine E.pat with
  | none => (E, 3)
  | some t => ({ E with pat := t }.printComing, 2)
theorem doD_none {E : Ed} (h : dropLine E.pat = none) : E.doD = (E, 3) := by unfold Ed.doD; rw [h]
theorem doD_some {E : Ed} {t : ByteArray} (h : dropLine E.pat = some t) : E.doD = ({ E with pat := t }.printComing, 2) := by unfold Ed.doD; rw [h]
set_option maxHeartbeats 2000000 in
theorem doDropLine_any (b : Nat) (cf : Cf) (E : Ed) (v : Ev) (w : World) (h : At w b cf E v) (hs : Sml cf E) :
    Calls Tryz.prog 170 #[.pointer (some ⟨b, 0, none⟩)] w (Step w b cf v E.doD) := by
  have hL := dropLine_any b cf E v w h (Nat.le_trans hs.pat (by omega))
  have hout : E.out.length + weigh E.coming ≤ 70368744177664 := Nat.le_trans hs.out (by omega)
  have HCM : Hid (∀ t ∈ E.coming, t.size ≤ 1000000) := fun t ht => Nat.le_trans (hs.com t ht) (by omega)
  clear h hs
  go_enter Tryz.func170, Tryz.ntmps170
  go_wp2_with fail
  refine hL.mono ?_
  rintro e w1 hO
  clear hL
  rcases hO with ⟨hd, rfl, hO⟩ | ⟨t, hd, rfl, hO⟩
  · have HD : Hid (dropLine E.pat = none) := hd
    have HO : Hid (Ok w b cf v E w1) := hO
    clear hd hO
    go_wp2_with fail
    go_ret
    rw [doD_none HD.out]
    exact ⟨rfl, HO.out⟩
  · have HD : Hid (dropLine E.pat = some t) := hd
    obtain ⟨v2, hA2, hF2⟩ := hO
    have HF2 : Hid (Fe b v v2 w w1) := hF2
    have hL := printComing_any b cf { E with pat := t } v2 w1 hA2 hout HCM.out
    clear hd hA2 hF2
    go_wp2_with fail
    refine hL.mono ?_
    rintro e w2 ⟨rfl, hO⟩
    have HO : Hid (Ok w b cf v ({ E with pat := t } : Ed).printComing w2) := by
      obtain ⟨v3, a1, a2⟩ := hO
      exact ⟨v3, a1, HF2.out.trans a2⟩
    clear hL hO
    go_wp2_with fail
    go_ret
    rw [doD_some HD.out]
    exact ⟨rfl, HO.out⟩
end Ee
end Go.Proofs.YtppjlpihaocdiaaGreatDoor

/- A part of the proof. -/
set_option linter.unusedSimpArgs false
set_option linter.unusedVariables false
namespace Go.Proofs.YtppjlpihaocdiaaGreatDoor
namespace Ee
open Go.RowKit
open Rs (Cm Wh Pc CmAt Pts cmL Keep own_of grps pcL)
structure Kp (cf : Cf) (E E1 : Ed) : Prop where
  next : E1.next = E.next
  whole : E1.whole = E.whole
  ended : E1.ended = E.ended
  number : E1.number = E.number
  opn : E1.opn = E.opn
  at' : E1.at' = E.at'
  stage : E1.stage = E.stage
  looked : E1.looked = E.looked
  taken : E1.taken = E.taken
  state : E1.state = E.state
  pat : E1.pat.size ≤ 80
  hold : E1.hold.size ≤ 80
  com : ∀ t ∈ E1.coming, t.size ≤ 1000
  out : E1.out.length + weigh E1.coming ≤ E.out.length + weigh E.coming + 401
  pre : ∃ l, E1.out = E.out ++ l
theorem become_some {cf : Cf} {E E1 : Ed} {t : ByteArray} (h : E.become cf t = some E1) : E1 = { E with pat := t } ∧ t.size ≤ cf.space := by
  unfold Ed.become at h
  split at h
  · cases h
  · cases h; exact ⟨rfl, by omega⟩
theorem holds_some {cf : Cf} {E E1 : Ed} {t : ByteArray} (h : E.holds cf t = some E1) : E1 = { E with hold := t } ∧ t.size ≤ cf.space := by
  unfold Ed.holds at h
  split at h
  · cases h
  · cases h; exact ⟨rfl, by omega⟩
theorem kp_refl {cf : Cf} {E : Ed} (hs : Sml cf E) : Kp cf E E := ⟨rfl, rfl, rfl, rfl, rfl, rfl, rfl, rfl, rfl, rfl, hs.pat, hs.hold, hs.com, by omega, [], by simp⟩
theorem kp_print {cf : Cf} {E : Ed} (hs : Sml cf E) (t : ByteArray) (ht : t.size ≤ 400) : Kp cf E (E.print t) :=
  ⟨rfl, rfl, rfl, rfl, rfl, rfl, rfl, rfl, rfl, rfl, hs.pat, hs.hold, hs.com, by simp only [Ed.print, List.length_append, row_length, List.length_singleton]; omega, row t ++ [10], by simp [Ed.print, List.append_assoc]⟩
theorem kp_pat {cf : Cf} {E : Ed} (hs : Sml cf E) (t : ByteArray) (ht : t.size ≤ 80) : Kp cf E { E with pat := t } := ⟨rfl, rfl, rfl, rfl, rfl, rfl, rfl, rfl, rfl, rfl, ht, hs.hold, hs.com, by simp only; omega, [], by simp⟩
theorem kp_hold {cf : Cf} {E : Ed} (hs : Sml cf E) (t : ByteArray) (ht : t.size ≤ 80) : Kp cf E { E with hold := t } := ⟨rfl, rfl, rfl, rfl, rfl, rfl, rfl, rfl, rfl, rfl, hs.pat, ht, hs.com, by simp only; omega, [], by simp⟩
theorem trans_size (frm too t : ByteArray) : (trans frm too t).size = t.size := by rw [trans, txt_size, List.length_map, row_length]
theorem edit_kp {mf : Mf} {cf : Cf} {E E1 : Ed} {n : Nat} {x : Cm} (hs : Sml cf E) (ok : CmOk n x) (h : E.edit mf cf x = some E1) : Kp cf E E1 := by
  have hsp := hs.space
  unfold Ed.edit at h
  by_cases h5 : x.kind = 5
  · rw [if_pos h5] at h
    cases h; exact kp_print hs _ (by have := hs.pat; omega)
  rw [if_neg h5] at h
  by_cases h6 : x.kind = 6
  · rw [if_pos h6] at h
    cases h; exact kp_print hs _ (by have := hs.pat; have := extract_size_le E.pat 0 (Rs.eol E.pat 0); unfold firstLine; omega)
  rw [if_neg h6] at h
  by_cases h12 : x.kind = 12
  · rw [if_pos h12] at h
    cases h; exact kp_print hs _ (by have := itoa_size E.number (Nat.le_trans hs.number (by omega)); omega)
  rw [if_neg h12] at h
  by_cases h14 : x.kind = 14
  · rw [if_pos h14] at h
    cases h
    refine ⟨rfl, rfl, rfl, rfl, rfl, rfl, rfl, rfl, rfl, rfl, hs.pat, hs.hold, fun t ht => ?_, ?_, [], by simp⟩
    · rcases List.mem_append.1 ht with ht | ht
      · exact hs.com t ht
      · have : t = x.text := by simpa using ht
        subst this
        have := ok.tx
        omega
    · have := ok.tx
      simp only [weigh_append]
      have e : weigh [x.text] = x.text.size + 1 := by simp [weigh]
      omega
  rw [if_neg h14] at h
  by_cases h15 : x.kind = 15
  · rw [if_pos h15] at h
    cases h; exact kp_print hs _ ok.tx
  rw [if_neg h15] at h
  by_cases h7 : x.kind = 7
  · rw [if_pos h7] at h
    obtain ⟨rfl, h2⟩ := become_some h; exact kp_pat hs _ (by omega)
  rw [if_neg h7] at h
  by_cases h8 : x.kind = 8
  · rw [if_pos h8] at h
    obtain ⟨rfl, h2⟩ := become_some h; exact kp_pat hs _ (by omega)
  rw [if_neg h8] at h
  by_cases h9 : x.kind = 9
  · rw [if_pos h9] at h
    obtain ⟨rfl, h2⟩ := holds_some h; exact kp_hold hs _ (by omega)
  rw [if_neg h9] at h
  by_cases h10 : x.kind = 10
  · rw [if_pos h10] at h
    obtain ⟨rfl, h2⟩ := holds_some h; exact kp_hold hs _ (by omega)
  rw [if_neg h10] at h
  by_cases h11 : x.kind = 11
  · rw [if_pos h11] at h
    cases h
    exact ⟨rfl, rfl, rfl, rfl, rfl, rfl, rfl, rfl, rfl, rfl, hs.hold, hs.pat, hs.com, by simp only; omega, [], by simp⟩
  rw [if_neg h11] at h
  by_cases h19 : x.kind = 19
  · rw [if_pos h19] at h
    unfold Ed.subst at h
    simp only at h
    split at h
    · cases hb : E.become cf (repl mf x E.pat).1 with
      | none => rw [hb] at h; cases h
      | some E2 =>
        rw [hb] at h
        obtain ⟨rfl, h2⟩ := become_some hb
        simp only at h
        split at h
        · cases h
          refine ⟨rfl, rfl, rfl, rfl, rfl, rfl, rfl, rfl, rfl, rfl, by simp only [Ed.print]; omega, hs.hold, hs.com, ?_, row (repl mf x E.pat).1 ++ [10], by simp [Ed.print, List.append_assoc]⟩
          simp only [Ed.print, List.length_append, row_length, List.length_singleton]
          omega
        · cases h
          exact ⟨rfl, rfl, rfl, rfl, rfl, rfl, rfl, rfl, rfl, rfl, by simp only; omega, hs.hold, hs.com, by simp only; omega, [], by simp⟩
    · cases h; exact kp_refl hs
  rw [if_neg h19] at h
  by_cases h20 : x.kind = 20
  · rw [if_pos h20] at h
    cases h; exact kp_pat hs _ (by rw [trans_size]; exact hs.pat)
  rw [if_neg h20] at h
  cases h
  exact kp_refl hs
set_option maxRecDepth 100000 in
set_option maxHeartbeats 4000000 in
theorem do_1 (mf : Mf) (hm : MfOk mf) (b : Nat) (cf : Cf) (E : Ed) (v : Ev) (g o : Nat) (x : Cm) (q : Pts) (w : World) (h : At w b cf E v) (hx : CmP w g o x q) (hg : ¬ Mine b v g) (hs : Sml cf E) (ok : CmOk cf.cmds.length x) (hk : x.kind = 1) :
    Calls Tryz.prog 122 #[.pointer (some ⟨b, 0, none⟩), .pointer (some ⟨g, o, none⟩)] w (Step w b cf v (E.doIt mf cf x)) := by
  have HA : Hid (At w b cf E v) := h
  have HX : Hid (CmP w g o x q) := hx
  have HG : Hid (¬ Mine b v g) := hg
  have HS : Hid (Sml cf E) := hs
  have c0 : w.cell? ⟨g, o, none⟩ = some (.int .i64 (x.kind : Int)) := hx.cell 0 _ rfl
  have c12 := hx.cell 12 _ rfl
  have c13 := hx.cell 13 _ rfl
  have m14 := h.cell (k := 14) rfl
  have m18 := h.cell (k := 18) rfl
  have f18 := h.frz 18 (by omega)
  have m20 := h.cell (k := 20) rfl
  have f20 := h.frz 20 (by omega)
  have hout := hs.outl
  have htx := ok.tx
  have hat : E.at' ≤ 1000000 := by have := hs.at'; have := hs.cmds; omega
  rw [hk] at c0
  have HD : Hid (E.doIt mf cf x = (E, 3)) := by rw [Hid, Ed.doIt, if_pos hk]
  clear h hx hg hs ok hm hk
  go_enter Tryz.func122, Tryz.ntmps122
  go_wp2_with fail
  go_ret
  rw [HD.out]
  exact ⟨rfl, Ok.refl HA.out⟩
set_option maxRecDepth 100000 in
set_option maxHeartbeats 4000000 in
theorem do_2 (mf : Mf) (hm : MfOk mf) (b : Nat) (cf : Cf) (E : Ed) (v : Ev) (g o : Nat) (x : Cm) (q : Pts) (w : World) (h : At w b cf E v) (hx : CmP w g o x q) (hg : ¬ Mine b v g) (hs : Sml cf E) (ok : CmOk cf.cmds.length x) (hk : x.kind = 2) :
    Calls Tryz.prog 122 #[.pointer (some ⟨b, 0, none⟩), .pointer (some ⟨g, o, none⟩)] w (Step w b cf v (E.doIt mf cf x)) := by
  have HA : Hid (At w b cf E v) := h
  have HX : Hid (CmP w g o x q) := hx
  have HG : Hid (¬ Mine b v g) := hg
  have HS : Hid (Sml cf E) := hs
  have c0 : w.cell? ⟨g, o, none⟩ = some (.int .i64 (x.kind : Int)) := hx.cell 0 _ rfl
  have c12 := hx.cell 12 _ rfl
  have c13 := hx.cell 13 _ rfl
  have m14 := h.cell (k := 14) rfl
  have m18 := h.cell (k := 18) rfl
  have f18 := h.frz 18 (by omega)
  have m20 := h.cell (k := 20) rfl
  have f20 := h.frz 20 (by omega)
  have hout := hs.outl
  have htx := ok.tx
  have hat : E.at' ≤ 1000000 := by have := hs.at'; have := hs.cmds; omega
  rw [hk] at c0
  have HD : Hid (E.doIt mf cf x = E.doD) := by rw [Hid, Ed.doIt, if_neg (by omega), if_pos hk]; rfl
  have hL := doDropLine_any b cf E v w h hs
  generalize E.doD = r at hL HD
  clear h hx hg hs ok hm hk
  go_enter Tryz.func122, Tryz.ntmps122
  go_wp2_with fail
  refine hL.mono ?_
  rintro e w1 ⟨rfl, hO⟩
  have HO : Hid (Ok w b cf v r.1 w1) := hO
  clear hL hO
  go_wp2_with fail
  go_ret
  rw [HD.out]
  exact ⟨rfl, HO.out⟩
set_option maxRecDepth 100000 in
set_option maxHeartbeats 4000000 in
theorem do_16 (mf : Mf) (hm : MfOk mf) (b : Nat) (cf : Cf) (E : Ed) (v : Ev) (g o : Nat) (x : Cm) (q : Pts) (w : World) (h : At w b cf E v) (hx : CmP w g o x q) (hg : ¬ Mine b v g) (hs : Sml cf E) (ok : CmOk cf.cmds.length x) (hk : x.kind = 16) :
    Calls Tryz.prog 122 #[.pointer (some ⟨b, 0, none⟩), .pointer (some ⟨g, o, none⟩)] w (Step w b cf v (E.doIt mf cf x)) := by
  have HA : Hid (At w b cf E v) := h
  have HX : Hid (CmP w g o x q) := hx
  have HG : Hid (¬ Mine b v g) := hg
  have HS : Hid (Sml cf E) := hs
  have c0 : w.cell? ⟨g, o, none⟩ = some (.int .i64 (x.kind : Int)) := hx.cell 0 _ rfl
  have c12 := hx.cell 12 _ rfl
  have c13 := hx.cell 13 _ rfl
  have m14 := h.cell (k := 14) rfl
  have m18 := h.cell (k := 18) rfl
  have f18 := h.frz 18 (by omega)
  have m20 := h.cell (k := 20) rfl
  have f20 := h.frz 20 (by omega)
  have hout := hs.outl
  have htx := ok.tx
  have hat : E.at' ≤ 1000000 := by have := hs.at'; have := hs.cmds; omega
  rw [hk] at c0
  have HD : Hid (E.doIt mf cf x = (E.print x.text, 3)) := by rw [Hid, Ed.doIt, if_neg (by omega), if_neg (by omega), if_pos hk]
  clear h hx hg hs ok hm hk
  go_enter Tryz.func122, Tryz.ntmps122
  go_wp2_with fail
  go_region_with (first
    | (go_at_call 123; (have hL := print_any b cf E v w.drew x.text HA.out.drew hout (by omega); refine hL.mono ?_; rintro e w1 ⟨rfl, nv, hO⟩; have HO : Hid (Ok w b cf v (E.print x.text) w1) := Ok.drewed hO.ok; clear hL hO)))
  all_goals
    go_wp2_with fail
    go_ret
    rw [HD.out]
    exact ⟨rfl, HO.out⟩
set_option maxRecDepth 100000 in
set_option maxHeartbeats 4000000 in
theorem do_3 (mf : Mf) (hm : MfOk mf) (b : Nat) (cf : Cf) (E : Ed) (v : Ev) (g o : Nat) (x : Cm) (q : Pts) (w : World) (h : At w b cf E v) (hx : CmP w g o x q) (hg : ¬ Mine b v g) (hs : Sml cf E) (ok : CmOk cf.cmds.length x) (hk : x.kind = 3) :
    Calls Tryz.prog 122 #[.pointer (some ⟨b, 0, none⟩), .pointer (some ⟨g, o, none⟩)] w (Step w b cf v (E.doIt mf cf x)) := by
  have HA : Hid (At w b cf E v) := h
  have HX : Hid (CmP w g o x q) := hx
  have HG : Hid (¬ Mine b v g) := hg
  have HS : Hid (Sml cf E) := hs
  have c0 : w.cell? ⟨g, o, none⟩ = some (.int .i64 (x.kind : Int)) := hx.cell 0 _ rfl
  have c12 := hx.cell 12 _ rfl
  have c13 := hx.cell 13 _ rfl
  have m14 := h.cell (k := 14) rfl
  have m18 := h.cell (k := 18) rfl
  have f18 := h.frz 18 (by omega)
  have m20 := h.cell (k := 20) rfl
  have f20 := h.frz 20 (by omega)
  have hout := hs.outl
  have htx := ok.tx
  have hat : E.at' ≤ 1000000 := by have := hs.at'; have := hs.cmds; omega
  rw [hk] at c0
  have HD : Hid (E.doIt mf cf x = E.doNext cf false) := by rw [Hid, Ed.doIt, if_neg (by omega), if_neg (by omega), if_neg (by omega), if_pos (by omega)]; rw [hk]; rfl
  have hL := doNext_3 b cf E v w h hs
  generalize E.doNext cf false = r at hL HD
  clear h hx hg hs ok hm hk
  go_enter Tryz.func122, Tryz.ntmps122
  go_wp2_with fail
  refine hL.mono ?_
  rintro e w1 ⟨rfl, hO⟩
  have HO : Hid (Ok w b cf v r.1 w1) := hO
  clear hL hO
  go_wp2_with fail
  go_ret
  rw [HD.out]
  exact ⟨rfl, HO.out⟩
set_option maxRecDepth 100000 in
set_option maxHeartbeats 4000000 in
theorem do_4 (mf : Mf) (hm : MfOk mf) (b : Nat) (cf : Cf) (E : Ed) (v : Ev) (g o : Nat) (x : Cm) (q : Pts) (w : World) (h : At w b cf E v) (hx : CmP w g o x q) (hg : ¬ Mine b v g) (hs : Sml cf E) (ok : CmOk cf.cmds.length x) (hk : x.kind = 4) :
    Calls Tryz.prog 122 #[.pointer (some ⟨b, 0, none⟩), .pointer (some ⟨g, o, none⟩)] w (Step w b cf v (E.doIt mf cf x)) := by
  have HA : Hid (At w b cf E v) := h
  have HX : Hid (CmP w g o x q) := hx
  have HG : Hid (¬ Mine b v g) := hg
  have HS : Hid (Sml cf E) := hs
  have c0 : w.cell? ⟨g, o, none⟩ = some (.int .i64 (x.kind : Int)) := hx.cell 0 _ rfl
  have c12 := hx.cell 12 _ rfl
  have c13 := hx.cell 13 _ rfl
  have m14 := h.cell (k := 14) rfl
  have m18 := h.cell (k := 18) rfl
  have f18 := h.frz 18 (by omega)
  have m20 := h.cell (k := 20) rfl
  have f20 := h.frz 20 (by omega)
  have hout := hs.outl
  have htx := ok.tx
  have hat : E.at' ≤ 1000000 := by have := hs.at'; have := hs.cmds; omega
  rw [hk] at c0
  have HD : Hid (E.doIt mf cf x = E.doNext cf true) := by rw [Hid, Ed.doIt, if_neg (by omega), if_neg (by omega), if_neg (by omega), if_pos (by omega)]; rw [hk]; rfl
  have hL := doNext_4 b cf E v w h hs
  generalize E.doNext cf true = r at hL HD
  clear h hx hg hs ok hm hk
  go_enter Tryz.func122, Tryz.ntmps122
  go_wp2_with fail
  refine hL.mono ?_
  rintro e w1 ⟨rfl, hO⟩
  have HO : Hid (Ok w b cf v r.1 w1) := hO
  clear hL hO
  go_wp2_with fail
  go_ret
  rw [HD.out]
  exact ⟨rfl, HO.out⟩
set_option maxRecDepth 100000 in
set_option maxHeartbeats 4000000 in
theorem do_13 (mf : Mf) (hm : MfOk mf) (b : Nat) (cf : Cf) (E : Ed) (v : Ev) (g o : Nat) (x : Cm) (q : Pts) (w : World) (h : At w b cf E v) (hx : CmP w g o x q) (hg : ¬ Mine b v g) (hs : Sml cf E) (ok : CmOk cf.cmds.length x) (hk : x.kind = 13) :
    Calls Tryz.prog 122 #[.pointer (some ⟨b, 0, none⟩), .pointer (some ⟨g, o, none⟩)] w (Step w b cf v (E.doIt mf cf x)) := by
  have HA : Hid (At w b cf E v) := h
  have HX : Hid (CmP w g o x q) := hx
  have HG : Hid (¬ Mine b v g) := hg
  have HS : Hid (Sml cf E) := hs
  have c0 : w.cell? ⟨g, o, none⟩ = some (.int .i64 (x.kind : Int)) := hx.cell 0 _ rfl
  have c12 := hx.cell 12 _ rfl
  have c13 := hx.cell 13 _ rfl
  have m14 := h.cell (k := 14) rfl
  have m18 := h.cell (k := 18) rfl
  have f18 := h.frz 18 (by omega)
  have m20 := h.cell (k := 20) rfl
  have f20 := h.frz 20 (by omega)
  have hout := hs.outl
  have htx := ok.tx
  have hat : E.at' ≤ 1000000 := by have := hs.at'; have := hs.cmds; omega
  rw [hk] at c0
  have HD : Hid (E.doIt mf cf x = ({ E with state := 2 }, 4)) := by rw [Hid, Ed.doIt, if_neg (by omega), if_neg (by omega), if_neg (by omega), if_neg (by omega), if_pos hk]
  clear h hx hg hs ok hm hk
  go_enter Tryz.func122, Tryz.ntmps122
  go_wp2_with fail
  go_ret
  rw [HD.out]
  exact ⟨rfl, HA.out.put ((Sole.refl _ _).setCell _ _) (rput HA.out.row 20 _ (by omega) rfl)⟩
set_option maxRecDepth 100000 in
set_option maxHeartbeats 4000000 in
theorem do_17 (mf : Mf) (hm : MfOk mf) (b : Nat) (cf : Cf) (E : Ed) (v : Ev) (g o : Nat) (x : Cm) (q : Pts) (w : World) (h : At w b cf E v) (hx : CmP w g o x q) (hg : ¬ Mine b v g) (hs : Sml cf E) (ok : CmOk cf.cmds.length x) (hk : x.kind = 17) :
    Calls Tryz.prog 122 #[.pointer (some ⟨b, 0, none⟩), .pointer (some ⟨g, o, none⟩)] w (Step w b cf v (E.doIt mf cf x)) := by
  have HA : Hid (At w b cf E v) := h
  have HX : Hid (CmP w g o x q) := hx
  have HG : Hid (¬ Mine b v g) := hg
  have HS : Hid (Sml cf E) := hs
  have c0 : w.cell? ⟨g, o, none⟩ = some (.int .i64 (x.kind : Int)) := hx.cell 0 _ rfl
  have c12 := hx.cell 12 _ rfl
  have c13 := hx.cell 13 _ rfl
  have m14 := h.cell (k := 14) rfl
  have m18 := h.cell (k := 18) rfl
  have f18 := h.frz 18 (by omega)
  have m20 := h.cell (k := 20) rfl
  have f20 := h.frz 20 (by omega)
  have hout := hs.outl
  have htx := ok.tx
  have hat : E.at' ≤ 1000000 := by have := hs.at'; have := hs.cmds; omega
  rw [hk] at c0
  have HD : Hid (E.doIt mf cf x = E.jump x.goal) := by rw [Hid, Ed.doIt, if_neg (by omega), if_neg (by omega), if_neg (by omega), if_neg (by omega), if_neg (by omega), if_pos hk]
  have hL := jump_any b cf E v w x.goal h
  generalize E.jump x.goal = r at hL HD
  clear h hx hg hs ok hm hk
  go_enter Tryz.func122, Tryz.ntmps122
  go_wp2_with fail
  refine hL.mono ?_
  rintro e w1 ⟨rfl, hO⟩
  have HO : Hid (Ok w b cf v r.1 w1) := hO
  clear hL hO
  go_wp2_with fail
  go_ret
  rw [HD.out]
  exact ⟨rfl, HO.out⟩
set_option maxRecDepth 100000 in
set_option maxHeartbeats 4000000 in
theorem do_18 (mf : Mf) (hm : MfOk mf) (b : Nat) (cf : Cf) (E : Ed) (v : Ev) (g o : Nat) (x : Cm) (q : Pts) (w : World) (h : At w b cf E v) (hx : CmP w g o x q) (hg : ¬ Mine b v g) (hs : Sml cf E) (ok : CmOk cf.cmds.length x) (hk : x.kind = 18) :
    Calls Tryz.prog 122 #[.pointer (some ⟨b, 0, none⟩), .pointer (some ⟨g, o, none⟩)] w (Step w b cf v (E.doIt mf cf x)) := by
  have HA : Hid (At w b cf E v) := h
  have HX : Hid (CmP w g o x q) := hx
  have HG : Hid (¬ Mine b v g) := hg
  have HS : Hid (Sml cf E) := hs
  have c0 : w.cell? ⟨g, o, none⟩ = some (.int .i64 (x.kind : Int)) := hx.cell 0 _ rfl
  have c12 := hx.cell 12 _ rfl
  have c13 := hx.cell 13 _ rfl
  have m14 := h.cell (k := 14) rfl
  have m18 := h.cell (k := 18) rfl
  have f18 := h.frz 18 (by omega)
  have m20 := h.cell (k := 20) rfl
  have f20 := h.frz 20 (by omega)
  have hout := hs.outl
  have htx := ok.tx
  have hat : E.at' ≤ 1000000 := by have := hs.at'; have := hs.cmds; omega
  rw [hk] at c0
  have HD0 : Hid (E.doIt mf cf x = if E.put = true then { E with put := false }.jump x.goal else E.jump (E.at' + 1)) := by rw [Hid, Ed.doIt, if_neg (by omega), if_neg (by omega), if_neg (by omega), if_neg (by omega), if_neg (by omega), if_neg (by omega), if_pos hk]
  rcases bool_or E.put with hp | hp
  · have HD : Hid (E.doIt mf cf x = { E with put := false }.jump x.goal) := by rw [Hid, HD0.out, if_pos hp]
    rw [hp] at m18
    have HO1 : Hid (Ok w b cf v { E with put := false } (w.setCell ⟨b, 18, none⟩ (.bool false))) := HA.out.put ((Sole.refl _ _).setCell _ _) (rput HA.out.row 18 _ (by omega) rfl)
    have hgb : g ≠ b := fun e => hg (.inl e)
    have hbg : ¬ b = g := fun e => hg (.inl e.symm)
    obtain ⟨v1, hA1, hF1⟩ := HO1.out
    have HF1 : Hid (Fe b v v1 w (w.setCell ⟨b, 18, none⟩ (.bool false))) := hF1
    have hL := jump_any b cf { E with put := false } v1 _ x.goal hA1
    generalize ({ E with put := false } : Ed).jump x.goal = r at hL HD
    clear h hx hg hs ok hm hk hA1 hF1 HD0 hp
    go_enter Tryz.func122, Tryz.ntmps122
    go_wp2_with fail
    refine hL.mono ?_
    rintro e w1 ⟨rfl, hO⟩
    have HO : Hid (Ok w b cf v r.1 w1) := by
      obtain ⟨v2, a1, a2⟩ := hO
      exact ⟨v2, a1, HF1.out.trans a2⟩
    clear hL hO
    go_wp2_with fail
    go_ret
    rw [HD.out]
    exact ⟨rfl, HO.out⟩
  · have HD : Hid (E.doIt mf cf x = E.jump (E.at' + 1)) := by rw [Hid, HD0.out, if_neg (by rw [hp]; simp)]
    rw [hp] at m18
    have hL := jump_any b cf E v w (E.at' + 1) h
    generalize E.jump (E.at' + 1) = r at hL HD
    clear h hx hg hs ok hm hk HD0 hp
    go_enter Tryz.func122, Tryz.ntmps122
    go_wp2_with fail
    refine hL.mono ?_
    rintro e w1 ⟨rfl, hO⟩
    have HO : Hid (Ok w b cf v r.1 w1) := hO
    clear hL hO
    go_wp2_with fail
    go_ret
    rw [HD.out]
    exact ⟨rfl, HO.out⟩
set_option maxRecDepth 100000 in
set_option maxHeartbeats 4000000 in
theorem do_any (mf : Mf) (hm : MfOk mf) (b : Nat) (cf : Cf) (E : Ed) (v : Ev) (g o : Nat) (x : Cm) (q : Pts) (w : World) (h : At w b cf E v) (hx : CmP w g o x q) (hg : ¬ Mine b v g) (hs : Sml cf E) (ok : CmOk cf.cmds.length x) :
    Calls Tryz.prog 122 #[.pointer (some ⟨b, 0, none⟩), .pointer (some ⟨g, o, none⟩)] w (Step w b cf v (E.doIt mf cf x)) := by
  by_cases h1 : x.kind = 1
  · exact do_1 mf hm b cf E v g o x q w h hx hg hs ok h1
  by_cases h2 : x.kind = 2
  · exact do_2 mf hm b cf E v g o x q w h hx hg hs ok h2
  by_cases h16 : x.kind = 16
  · exact do_16 mf hm b cf E v g o x q w h hx hg hs ok h16
  by_cases h3 : x.kind = 3
  · exact do_3 mf hm b cf E v g o x q w h hx hg hs ok h3
  by_cases h4 : x.kind = 4
  · exact do_4 mf hm b cf E v g o x q w h hx hg hs ok h4
  by_cases h13 : x.kind = 13
  · exact do_13 mf hm b cf E v g o x q w h hx hg hs ok h13
  by_cases h17 : x.kind = 17
  · exact do_17 mf hm b cf E v g o x q w h hx hg hs ok h17
  by_cases h18 : x.kind = 18
  · exact do_18 mf hm b cf E v g o x q w h hx hg hs ok h18
  have HA : Hid (At w b cf E v) := h
  have HX : Hid (CmP w g o x q) := hx
  have HG : Hid (¬ Mine b v g) := hg
  have HS : Hid (Sml cf E) := hs
  have c0 : w.cell? ⟨g, o, none⟩ = some (.int .i64 (x.kind : Int)) := hx.cell 0 _ rfl
  have c12 := hx.cell 12 _ rfl
  have c13 := hx.cell 13 _ rfl
  have m14 := h.cell (k := 14) rfl
  have m18 := h.cell (k := 18) rfl
  have f18 := h.frz 18 (by omega)
  have m20 := h.cell (k := 20) rfl
  have f20 := h.frz 20 (by omega)
  have hout := hs.outl
  have htx := ok.tx
  have hat : E.at' ≤ 1000000 := by have := hs.at'; have := hs.cmds; omega
  have hcc : E.coming.length ≤ 1099511627776 := by have := weigh_len E.coming; have := hs.out; omega
  have hL := edit_any mf hm b cf E v g o x q w h hx hg hs hcc ok
  have HKP : Hid (∀ E1, E.edit mf cf x = some E1 → Kp cf E E1) := fun E1 he => edit_kp hs ok he
  have HD0 : Hid (E.doIt mf cf x = match E.edit mf cf x with | none => E.stop 4 | some E1 => E1.jump (E1.at' + 1)) := by rw [Hid, Ed.doIt, if_neg h1, if_neg h2, if_neg h16, if_neg (by omega), if_neg h13, if_neg h17, if_neg h18]; rfl
  have q1 : ((x.kind : Int) == 1) = false := by simp; omega
  have q2 : ((x.kind : Int) == 2) = false := by simp; omega
  have q16 : ((x.kind : Int) == 16) = false := by simp; omega
  have q3 : ((x.kind : Int) == 3) = false := by simp; omega
  have q4 : ((x.kind : Int) == 4) = false := by simp; omega
  have q13 : ((x.kind : Int) == 13) = false := by simp; omega
  have q17 : ((x.kind : Int) == 17) = false := by simp; omega
  have q18 : ((x.kind : Int) == 18) = false := by simp; omega
  clear h hx hg hs ok hm h1 h2 h16 h3 h4 h13 h17 h18
  rcases he : E.edit mf cf x with _ | E1
  · have HD : Hid (E.doIt mf cf x = E.stop 4) := by rw [Hid, HD0.out, he]
    rw [he] at hL
    clear he HD0
    go_enter Tryz.func122, Tryz.ntmps122
    go_wp2_with fail
    refine hL.mono ?_
    rintro e w1 hO
    obtain ⟨rfl, hO2⟩ := hO.none'
    clear hL hO
    obtain ⟨v1, hA1, hF1⟩ := hO2
    have HF1 : Hid (Fe b v v1 w w1) := hF1
    have hL := stop_any b cf E v1 w1 4 hA1
    generalize E.stop 4 = r at hL HD
    clear hA1 hF1
    go_wp2_with fail
    refine hL.mono ?_
    rintro e w2 ⟨rfl, hO⟩
    have HO : Hid (Ok w b cf v r.1 w2) := by
      obtain ⟨v2, a1, a2⟩ := hO
      exact ⟨v2, a1, HF1.out.trans a2⟩
    clear hL hO
    go_wp2_with fail
    go_ret
    rw [HD.out]
    exact ⟨rfl, HO.out⟩
  · have HD : Hid (E.doIt mf cf x = E1.jump (E1.at' + 1)) := by rw [Hid, HD0.out, he]
    have hat1 : E1.at' ≤ 1000000 := by rw [(HKP.out E1 he).at']; exact hat
    rw [he] at hL
    clear he HD0 m14
    go_enter Tryz.func122, Tryz.ntmps122
    go_wp2_with fail
    refine hL.mono ?_
    rintro e w1 hO
    obtain ⟨rfl, hO2⟩ := hO.some'
    clear hL hO
    obtain ⟨v1, hA1, hF1⟩ := hO2
    have HF1 : Hid (Fe b v v1 w w1) := hF1
    have m14 := hA1.cell (k := 14) rfl
    have hL := jump_any b cf E1 v1 w1 (E1.at' + 1) hA1
    generalize E1.jump (E1.at' + 1) = r at hL HD
    clear hA1 hF1
    go_wp2_with fail
    refine hL.mono ?_
    rintro e w2 ⟨rfl, hO⟩
    have HO : Hid (Ok w b cf v r.1 w2) := by
      obtain ⟨v2, a1, a2⟩ := hO
      exact ⟨v2, a1, HF1.out.trans a2⟩
    clear hL hO
    go_wp2_with fail
    go_ret
    rw [HD.out]
    exact ⟨rfl, HO.out⟩
end Ee
end Go.Proofs.YtppjlpihaocdiaaGreatDoor

