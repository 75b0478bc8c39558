/- Several texts in one. -/
import Derived.Test.YtppjlpihaocdiaaGreatDoorEdWH
/- A part of the proof. -/
set_option linter.unusedSimpArgs false
set_option linter.unusedVariables false
namespace Go.Proofs.YtppjlpihaocdiaaGreatDoor
namespace Ee
open Go.RowKit
open Rs (Cm Wh Pc CmAt Pts cmL Keep own_of grps pcL)
theorem printSpace_out (cf : Cf) (E : Ed) : ∃ o, E.printSpace cf = { E with out := o } ∧ E.out.length ≤ o.length ∧ o.length ≤ E.out.length + E.pat.size + 1 := by
  unfold Ed.printSpace
  split
  · exact ⟨E.out, rfl, by omega, by omega⟩
  · refine ⟨E.out ++ row E.pat ++ [10], rfl, ?_, ?_⟩ <;> simp [row_length] <;> omega
theorem readBy_at (cf : Cf) (j : Bool) (E : Ed) : (E.readBy cf j).1.at' = E.at' := by
  unfold Ed.readBy
  split
  · rfl
  · cases hw : E.read.way cf j (txt E.next) with
    | none => rfl
    | some E' =>
      have : E'.at' = E.at' := by
        unfold Ed.way Ed.grow Ed.become at hw
        split at hw <;> split at hw <;> cases hw <;> rfl
      exact this
def Ed.nextTail (cf : Cf) (join : Bool) (E1 : Ed) : Ed × Nat := if E1.atHand cf = true then (if (E1.readBy cf join).2 = true then (E1.readBy cf join).1.jump ((E1.readBy cf join).1.at' + 1) else ((E1.readBy cf join).1, 0)) else (E1, 0)
theorem doNext_eq (cf : Cf) (E : Ed) (join : Bool) : E.doNext cf join = if E.stage = 3 ∧ E.known = false then (E, 0) else if E.stage = 3 ∧ E.more = false then (E, 4) else (if E.stage = 3 then { (if join = true then E else (E.printSpace cf).printComing) with stage := 4 } else E).nextTail cf join := rfl
set_option maxRecDepth 100000 in
set_option maxHeartbeats 4000000 in
theorem doNext_3 (b : Nat) (cf : Cf) (E : Ed) (v : Ev) (w : World) (h : At w b cf E v) (hs : Sml cf E) :
    Calls Tryz.prog 171 #[.pointer (some ⟨b, 0, none⟩), .int .i64 3] w (Step w b cf v (E.doNext cf false)) := by
  have HA : Hid (At w b cf E v) := h
  have HDN : Hid (E.doNext cf false = _) := doNext_eq cf E false
  have m15 := h.cell (k := 15) rfl
  have hn1 : E.number ≤ 70368744177664 := Nat.le_trans hs.number (by omega)
  have hl1 := hs.next
  have hp1 : E.pat.size ≤ 1000000 := Nat.le_trans hs.pat (by omega)
  have hpat := hs.pat
  have hout := hs.out
  have hoo : E.out.length ≤ 70368744177664 := hs.outl
  have HCM : Hid (∀ t ∈ E.coming, t.size ≤ 1000000) := fun t ht => Nat.le_trans (hs.com t ht) (by omega)
  have hat1 : E.at' ≤ 1000000 := by have := hs.at'; have := hs.cmds; omega
  clear h hs
  by_cases h3 : E.stage = 3
  · rw [h3] at m15
    have hM := more_any b cf E v w HA.out
    by_cases hk : E.known = false
    · have HD : Hid (E.doNext cf false = (E, 0)) := by rw [Hid, HDN.out, if_pos ⟨h3, hk⟩]
      rw [hk] at hM
      generalize E.more = mo at hM
      clear HDN h3 hk
      go_enter Tryz.func171, Tryz.ntmps171
      go_wp2_with fail
      refine hM.mono ?_
      rintro e w1 ⟨rfl, n, rfl⟩
      go_wp2_with fail
      go_ret
      rw [HD.out]
      exact ⟨rfl, (Ok.refl HA.out).drewN n⟩
    · have hk2 : E.known = true := by simpa using hk
      rw [hk2] at hM
      by_cases hm : E.more = false
      · have HD : Hid (E.doNext cf false = (E, 4)) := by rw [Hid, HDN.out, if_neg (by simp [hk]), if_pos ⟨h3, hm⟩]
        rw [hm] at hM
        clear HDN h3 hk hk2 hm
        go_enter Tryz.func171, Tryz.ntmps171
        go_wp2_with fail
        refine hM.mono ?_
        rintro e w1 ⟨rfl, n, rfl⟩
        go_wp2_with fail
        go_ret
        rw [HD.out]
        exact ⟨rfl, (Ok.refl HA.out).drewN n⟩
      · have hm2 : E.more = true := by simpa using hm
        rw [hm2] at hM
        obtain ⟨o1, hq1, hq2, hq3⟩ := printSpace_out cf E
        obtain ⟨o2, hr1, hr2⟩ := printComing_out (E.printSpace cf)
        have HE1 : Hid ((E.printSpace cf).printComing = { E with out := o2, coming := [] }) := by rw [Hid, hr1, hq1]
        have HD : Hid (E.doNext cf false = ({ E with out := o2, coming := [], stage := 4 } : Ed).nextTail cf false) := by
          rw [Hid, HDN.out, if_neg (by simp [hk]), if_neg (by simp [hm]), if_pos h3, if_neg (by simp), HE1.out]
        have HQ1 : Hid (E.printSpace cf = { E with out := o1 }) := hq1
        have hw2 : o1.length + weigh E.coming ≤ 70368744177664 := by omega
        clear HDN h3 hk hk2 hm hm2 hr1 hr2 hq1 hq2 hq3
        go_enter Tryz.func171, Tryz.ntmps171
        go_wp2_with fail
        refine hM.mono ?_
        rintro e w1 ⟨rfl, n, rfl⟩
        clear hM
        have HA1 : Hid (At (w.drewN n) b cf E v) := HA.out.drewN n
        have hL := printSpace_any b cf E v _ HA1.out hoo hp1
        go_wp2_with fail
        refine hL.mono ?_
        rintro e w2 ⟨rfl, hO⟩
        clear hL
        rw [HQ1.out] at hO
        obtain ⟨v2, hA2, hF2⟩ := hO
        have HA2 : Hid (At w2 b cf { E with out := o1 } v2) := hA2
        have HF2 : Hid (Fe b v v2 w w2) := ⟨hF2.os, hF2.tape, hF2.output, hF2.size, hF2.block, hF2.mine, hF2.cm⟩
        clear hA2 hF2
        have hL := printComing_any b cf { E with out := o1 } v2 w2 HA2.out hw2 HCM.out
        go_wp2_with fail
        refine hL.mono ?_
        rintro e w3 ⟨rfl, hO⟩
        clear hL
        have HO3 : Hid (Ok w b cf v { E with out := o2, coming := [] } w3) := by
          obtain ⟨v3, a1, a2⟩ := hO
          rw [← HQ1.out, HE1.out] at a1
          exact ⟨v3, a1, HF2.out.trans a2⟩
        clear hO
        have n15 := HO3.out.cell (k := 15) (fun _ => rfl)
        have f15 := HO3.out.frz 15 (by omega)
        have HO4 : Hid (Ok w b cf v { E with out := o2, coming := [], stage := 4 } (w3.setCell ⟨b, 15, none⟩ (.int .i64 4))) := HO3.out.put (fun v' h' => ⟨(Sole.refl _ _).setCell _ _, rput h'.row 15 _ (by omega) rfl⟩)
        obtain ⟨v3, hA3, hF3⟩ := HO4.out
        have HA3 : Hid (At (w3.setCell ⟨b, 15, none⟩ (.int .i64 4)) b cf { E with out := o2, coming := [], stage := 4 } v3) := hA3
        have HF3 : Hid (Fe b v v3 w (w3.setCell ⟨b, 15, none⟩ (.int .i64 4))) := hF3
        clear hA3 hF3
        have hL := atHand_any b cf { E with out := o2, coming := [], stage := 4 } v3 (w3.setCell ⟨b, 15, none⟩ (.int .i64 4)) HA3.out
        rcases bool_or (({ E with out := o2, coming := [], stage := 4 }).atHand cf) with ha | ha
        · rw [ha] at hL
          have HD2 : Hid (E.doNext cf false = if (({ E with out := o2, coming := [], stage := 4 }).readBy cf false).2 = true then (({ E with out := o2, coming := [], stage := 4 }).readBy cf false).1.jump ((({ E with out := o2, coming := [], stage := 4 }).readBy cf false).1.at' + 1) else ((({ E with out := o2, coming := [], stage := 4 }).readBy cf false).1, 0)) := by rw [Hid, HD.out, Ed.nextTail, if_pos ha]
          have HAT := readBy_at cf false ({ E with out := o2, coming := [], stage := 4 })
          go_wp2_with fail
          refine hL.mono ?_
          rintro e w4 ⟨rfl, n, rfl⟩
          clear hL
          have hL := readBy_become b cf { E with out := o2, coming := [], stage := 4 } v3 _ (HA3.out.drewN n) hn1 hl1
          rcases hr : ({ E with out := o2, coming := [], stage := 4 }).readBy cf false with ⟨E2, ok⟩
          rw [hr] at hL HD2 HAT
          simp only at hL HAT
          have HF4 : Hid (Fe b v v3 w (((w3.setCell ⟨b, 15, none⟩ (.int .i64 4))).drewN n)) := HF3.out.drewN n
          rcases bool_or ok with hk | hk <;> subst hk
          · have HD3 : Hid (E.doNext cf false = E2.jump (E2.at' + 1)) := by rw [Hid, HD2.out]; rfl
            clear hr
            go_wp2_with fail
            refine hL.mono ?_
            rintro e w5 ⟨rfl, hO⟩
            clear hL
            obtain ⟨v5, hA5, hF5⟩ := hO
            have HA5 : Hid (At w5 b cf E2 v5) := hA5
            have HF5 : Hid (Fe b v v5 w w5) := HF4.out.trans hF5
            clear hA5 hF5
            have m14 := HA5.out.cell (k := 14) rfl
            have hat2 : E2.at' ≤ 1000000 := by rw [HAT]; exact hat1
            have hL := jump_any b cf E2 v5 w5 (E2.at' + 1) HA5.out
            generalize E2.jump (E2.at' + 1) = r at hL HD3
            clear HAT
            go_wp2_with fail
            refine hL.mono ?_
            rintro e w6 ⟨rfl, hO⟩
            have HO6 : Hid (Ok w b cf v r.1 w6) := by
              obtain ⟨v6, a1, a2⟩ := hO
              exact ⟨v6, a1, HF5.out.trans a2⟩
            clear hL hO
            go_wp2_with fail
            go_ret
            rw [HD3.out]
            exact ⟨rfl, HO6.out⟩
          · have HD3 : Hid (E.doNext cf false = (E2, 0)) := by rw [Hid, HD2.out]; rfl
            clear hr
            go_wp2_with fail
            refine hL.mono ?_
            rintro e w5 ⟨rfl, hO⟩
            have HO5 : Hid (Ok w b cf v E2 w5) := by
              obtain ⟨v6, a1, a2⟩ := hO
              exact ⟨v6, a1, HF4.out.trans a2⟩
            clear hL hO
            go_wp2_with fail
            go_ret
            rw [HD3.out]
            exact ⟨rfl, HO5.out⟩
        · rw [ha] at hL
          have HD3 : Hid (E.doNext cf false = ({ E with out := o2, coming := [], stage := 4 }, 0)) := by rw [Hid, HD.out, Ed.nextTail, if_neg (by rw [ha]; simp)]
          go_wp2_with fail
          refine hL.mono ?_
          rintro e w4 ⟨rfl, n, rfl⟩
          clear hL
          go_wp2_with fail
          go_ret
          rw [HD3.out]
          exact ⟨rfl, v3, HA3.out.drewN n, HF3.out.drewN n⟩
  · have q3 : ((E.stage : Int) == 3) = false := by simp; omega
    have HD : Hid (E.doNext cf false = E.nextTail cf false) := by
      rw [Hid, HDN.out, if_neg (by simp [h3]), if_neg (by simp [h3]), if_neg h3]
    clear HDN h3
    have HO4 : Hid (Ok w b cf v E w) := Ok.refl HA.out
    go_enter Tryz.func171, Tryz.ntmps171
    go_wp2_with fail
    obtain ⟨v3, hA3, hF3⟩ := HO4.out
    have HA3 : Hid (At w b cf E v3) := hA3
    have HF3 : Hid (Fe b v v3 w w) := hF3
    clear hA3 hF3
    have hL := atHand_any b cf E v3 w HA3.out
    rcases bool_or ((E).atHand cf) with ha | ha
    · rw [ha] at hL
      have HD2 : Hid (E.doNext cf false = if ((E).readBy cf false).2 = true then ((E).readBy cf false).1.jump (((E).readBy cf false).1.at' + 1) else (((E).readBy cf false).1, 0)) := by rw [Hid, HD.out, Ed.nextTail, if_pos ha]
      have HAT := readBy_at cf false (E)
      refine hL.mono ?_
      rintro e w4 ⟨rfl, n, rfl⟩
      clear hL
      have hL := readBy_become b cf E v3 _ (HA3.out.drewN n) hn1 hl1
      rcases hr : (E).readBy cf false with ⟨E2, ok⟩
      rw [hr] at hL HD2 HAT
      simp only at hL HAT
      have HF4 : Hid (Fe b v v3 w ((w).drewN n)) := HF3.out.drewN n
      rcases bool_or ok with hk | hk <;> subst hk
      · have HD3 : Hid (E.doNext cf false = E2.jump (E2.at' + 1)) := by rw [Hid, HD2.out]; rfl
        clear hr
        go_wp2_with fail
        refine hL.mono ?_
        rintro e w5 ⟨rfl, hO⟩
        clear hL
        obtain ⟨v5, hA5, hF5⟩ := hO
        have HA5 : Hid (At w5 b cf E2 v5) := hA5
        have HF5 : Hid (Fe b v v5 w w5) := HF4.out.trans hF5
        clear hA5 hF5
        have m14 := HA5.out.cell (k := 14) rfl
        have hat2 : E2.at' ≤ 1000000 := by rw [HAT]; exact hat1
        have hL := jump_any b cf E2 v5 w5 (E2.at' + 1) HA5.out
        generalize E2.jump (E2.at' + 1) = r at hL HD3
        clear HAT
        go_wp2_with fail
        refine hL.mono ?_
        rintro e w6 ⟨rfl, hO⟩
        have HO6 : Hid (Ok w b cf v r.1 w6) := by
          obtain ⟨v6, a1, a2⟩ := hO
          exact ⟨v6, a1, HF5.out.trans a2⟩
        clear hL hO
        go_wp2_with fail
        go_ret
        rw [HD3.out]
        exact ⟨rfl, HO6.out⟩
      · have HD3 : Hid (E.doNext cf false = (E2, 0)) := by rw [Hid, HD2.out]; rfl
        clear hr
        go_wp2_with fail
        refine hL.mono ?_
        rintro e w5 ⟨rfl, hO⟩
        have HO5 : Hid (Ok w b cf v E2 w5) := by
          obtain ⟨v6, a1, a2⟩ := hO
          exact ⟨v6, a1, HF4.out.trans a2⟩
        clear hL hO
        go_wp2_with fail
        go_ret
        rw [HD3.out]
        exact ⟨rfl, HO5.out⟩
    · rw [ha] at hL
      have HD3 : Hid (E.doNext cf false = (E, 0)) := by rw [Hid, HD.out, Ed.nextTail, if_neg (by rw [ha]; simp)]
      refine hL.mono ?_
      rintro e w4 ⟨rfl, n, rfl⟩
      clear hL
      go_wp2_with fail
      go_ret
      rw [HD3.out]
      exact ⟨rfl, v3, HA3.out.drewN n, HF3.out.drewN n⟩
set_option maxRecDepth 100000 in
set_option maxHeartbeats 4000000 in
theorem doNext_4 (b : Nat) (cf : Cf) (E : Ed) (v : Ev) (w : World) (h : At w b cf E v) (hs : Sml cf E) :
    Calls Tryz.prog 171 #[.pointer (some ⟨b, 0, none⟩), .int .i64 4] w (Step w b cf v (E.doNext cf true)) := by
  have HA : Hid (At w b cf E v) := h
  have HDN : Hid (E.doNext cf true = _) := doNext_eq cf E true
  have m15 := h.cell (k := 15) rfl
  have hn1 : E.number ≤ 70368744177664 := Nat.le_trans hs.number (by omega)
  have hl1 := hs.next
  have hp1 : E.pat.size ≤ 1000000 := Nat.le_trans hs.pat (by omega)
  have hpat := hs.pat
  have hout := hs.out
  have hoo : E.out.length ≤ 70368744177664 := hs.outl
  have HCM : Hid (∀ t ∈ E.coming, t.size ≤ 1000000) := fun t ht => Nat.le_trans (hs.com t ht) (by omega)
  have hat1 : E.at' ≤ 1000000 := by have := hs.at'; have := hs.cmds; omega
  clear h hs
  by_cases h3 : E.stage = 3
  · rw [h3] at m15
    have hM := more_any b cf E v w HA.out
    by_cases hk : E.known = false
    · have HD : Hid (E.doNext cf true = (E, 0)) := by rw [Hid, HDN.out, if_pos ⟨h3, hk⟩]
      rw [hk] at hM
      generalize E.more = mo at hM
      clear HDN h3 hk
      go_enter Tryz.func171, Tryz.ntmps171
      go_wp2_with fail
      refine hM.mono ?_
      rintro e w1 ⟨rfl, n, rfl⟩
      go_wp2_with fail
      go_ret
      rw [HD.out]
      exact ⟨rfl, (Ok.refl HA.out).drewN n⟩
    · have hk2 : E.known = true := by simpa using hk
      rw [hk2] at hM
      by_cases hm : E.more = false
      · have HD : Hid (E.doNext cf true = (E, 4)) := by rw [Hid, HDN.out, if_neg (by simp [hk]), if_pos ⟨h3, hm⟩]
        rw [hm] at hM
        clear HDN h3 hk hk2 hm
        go_enter Tryz.func171, Tryz.ntmps171
        go_wp2_with fail
        refine hM.mono ?_
        rintro e w1 ⟨rfl, n, rfl⟩
        go_wp2_with fail
        go_ret
        rw [HD.out]
        exact ⟨rfl, (Ok.refl HA.out).drewN n⟩
      · have hm2 : E.more = true := by simpa using hm
        rw [hm2] at hM
        have HD : Hid (E.doNext cf true = ({ E with stage := 4 } : Ed).nextTail cf true) := by
          rw [Hid, HDN.out, if_neg (by simp [hk]), if_neg (by simp [hm]), if_pos h3, if_pos rfl]
        clear HDN h3 hk hk2 hm hm2
        have HO4 : Hid (∀ n, Ok w b cf v { E with stage := 4 } ((w.drewN n).setCell ⟨b, 15, none⟩ (.int .i64 4))) := fun n => ((Ok.refl HA.out).drewN n).put (fun v' h' => ⟨(Sole.refl _ _).setCell _ _, rput h'.row 15 _ (by omega) rfl⟩)
        have f15 := HA.out.frz 15 (by omega)
        go_enter Tryz.func171, Tryz.ntmps171
        go_wp2_with fail
        refine hM.mono ?_
        rintro e w1 ⟨rfl, n1, rfl⟩
        clear hM
        obtain ⟨W, hW, HW⟩ : ∃ W, (w.drewN n1).setCell ⟨b, 15, none⟩ (.int .i64 4) = W ∧ Hid (Ok w b cf v { E with stage := 4 } W) := ⟨_, rfl, HO4.out n1⟩
        have HWE : Hid ((w.drewN n1).setCell ⟨b, 15, none⟩ (.int .i64 4) = W) := hW
        clear hW
        go_wp2_with fail
        rw [HWE.out]
        obtain ⟨v3, hA3, hF3⟩ := HW.out
        have HA3 : Hid (At W b cf { E with stage := 4 } v3) := hA3
        have HF3 : Hid (Fe b v v3 w W) := hF3
        clear hA3 hF3
        have hL := atHand_any b cf { E with stage := 4 } v3 W HA3.out
        rcases bool_or (({ E with stage := 4 }).atHand cf) with ha | ha
        · rw [ha] at hL
          have HD2 : Hid (E.doNext cf true = if (({ E with stage := 4 }).readBy cf true).2 = true then (({ E with stage := 4 }).readBy cf true).1.jump ((({ E with stage := 4 }).readBy cf true).1.at' + 1) else ((({ E with stage := 4 }).readBy cf true).1, 0)) := by rw [Hid, HD.out, Ed.nextTail, if_pos ha]
          have HAT := readBy_at cf true ({ E with stage := 4 })
          refine hL.mono ?_
          rintro e w4 ⟨rfl, n, rfl⟩
          clear hL
          have hL := readBy_grow b cf { E with stage := 4 } v3 _ (HA3.out.drewN n) hn1 hl1 hp1
          rcases hr : ({ E with stage := 4 }).readBy cf true with ⟨E2, ok⟩
          rw [hr] at hL HD2 HAT
          simp only at hL HAT
          have HF4 : Hid (Fe b v v3 w ((W).drewN n)) := HF3.out.drewN n
          rcases bool_or ok with hk | hk <;> subst hk
          · have HD3 : Hid (E.doNext cf true = E2.jump (E2.at' + 1)) := by rw [Hid, HD2.out]; rfl
            clear hr
            go_wp2_with fail
            refine hL.mono ?_
            rintro e w5 ⟨rfl, hO⟩
            clear hL
            obtain ⟨v5, hA5, hF5⟩ := hO
            have HA5 : Hid (At w5 b cf E2 v5) := hA5
            have HF5 : Hid (Fe b v v5 w w5) := HF4.out.trans hF5
            clear hA5 hF5
            have m14 := HA5.out.cell (k := 14) rfl
            have hat2 : E2.at' ≤ 1000000 := by rw [HAT]; exact hat1
            have hL := jump_any b cf E2 v5 w5 (E2.at' + 1) HA5.out
            generalize E2.jump (E2.at' + 1) = r at hL HD3
            clear HAT
            go_wp2_with fail
            refine hL.mono ?_
            rintro e w6 ⟨rfl, hO⟩
            have HO6 : Hid (Ok w b cf v r.1 w6) := by
              obtain ⟨v6, a1, a2⟩ := hO
              exact ⟨v6, a1, HF5.out.trans a2⟩
            clear hL hO
            go_wp2_with fail
            go_ret
            rw [HD3.out]
            exact ⟨rfl, HO6.out⟩
          · have HD3 : Hid (E.doNext cf true = (E2, 0)) := by rw [Hid, HD2.out]; rfl
            clear hr
            go_wp2_with fail
            refine hL.mono ?_
            rintro e w5 ⟨rfl, hO⟩
            have HO5 : Hid (Ok w b cf v E2 w5) := by
              obtain ⟨v6, a1, a2⟩ := hO
              exact ⟨v6, a1, HF4.out.trans a2⟩
            clear hL hO
            go_wp2_with fail
            go_ret
            rw [HD3.out]
            exact ⟨rfl, HO5.out⟩
        · rw [ha] at hL
          have HD3 : Hid (E.doNext cf true = ({ E with stage := 4 }, 0)) := by rw [Hid, HD.out, Ed.nextTail, if_neg (by rw [ha]; simp)]
          refine hL.mono ?_
          rintro e w4 ⟨rfl, n, rfl⟩
          clear hL
          go_wp2_with fail
          go_ret
          rw [HD3.out]
          exact ⟨rfl, v3, HA3.out.drewN n, HF3.out.drewN n⟩
  · have q3 : ((E.stage : Int) == 3) = false := by simp; omega
    have HD : Hid (E.doNext cf true = E.nextTail cf true) := by
      rw [Hid, HDN.out, if_neg (by simp [h3]), if_neg (by simp [h3]), if_neg h3]
    clear HDN h3
    have HO4 : Hid (Ok w b cf v E w) := Ok.refl HA.out
    go_enter Tryz.func171, Tryz.ntmps171
    go_wp2_with fail
    obtain ⟨v3, hA3, hF3⟩ := HO4.out
    have HA3 : Hid (At w b cf E v3) := hA3
    have HF3 : Hid (Fe b v v3 w w) := hF3
    clear hA3 hF3
    have hL := atHand_any b cf E v3 w HA3.out
    rcases bool_or ((E).atHand cf) with ha | ha
    · rw [ha] at hL
      have HD2 : Hid (E.doNext cf true = if ((E).readBy cf true).2 = true then ((E).readBy cf true).1.jump (((E).readBy cf true).1.at' + 1) else (((E).readBy cf true).1, 0)) := by rw [Hid, HD.out, Ed.nextTail, if_pos ha]
      have HAT := readBy_at cf true (E)
      refine hL.mono ?_
      rintro e w4 ⟨rfl, n, rfl⟩
      clear hL
      have hL := readBy_grow b cf E v3 _ (HA3.out.drewN n) hn1 hl1 hp1
      rcases hr : (E).readBy cf true with ⟨E2, ok⟩
      rw [hr] at hL HD2 HAT
      simp only at hL HAT
      have HF4 : Hid (Fe b v v3 w ((w).drewN n)) := HF3.out.drewN n
      rcases bool_or ok with hk | hk <;> subst hk
      · have HD3 : Hid (E.doNext cf true = E2.jump (E2.at' + 1)) := by rw [Hid, HD2.out]; rfl
        clear hr
        go_wp2_with fail
        refine hL.mono ?_
        rintro e w5 ⟨rfl, hO⟩
        clear hL
        obtain ⟨v5, hA5, hF5⟩ := hO
        have HA5 : Hid (At w5 b cf E2 v5) := hA5
        have HF5 : Hid (Fe b v v5 w w5) := HF4.out.trans hF5
        clear hA5 hF5
        have m14 := HA5.out.cell (k := 14) rfl
        have hat2 : E2.at' ≤ 1000000 := by rw [HAT]; exact hat1
        have hL := jump_any b cf E2 v5 w5 (E2.at' + 1) HA5.out
        generalize E2.jump (E2.at' + 1) = r at hL HD3
        clear HAT
        go_wp2_with fail
        refine hL.mono ?_
        rintro e w6 ⟨rfl, hO⟩
        have HO6 : Hid (Ok w b cf v r.1 w6) := by
          obtain ⟨v6, a1, a2⟩ := hO
          exact ⟨v6, a1, HF5.out.trans a2⟩
        clear hL hO
        go_wp2_with fail
        go_ret
        rw [HD3.out]
        exact ⟨rfl, HO6.out⟩
      · have HD3 : Hid (E.doNext cf true = (E2, 0)) := by rw [Hid, HD2.out]; rfl
        clear hr
        go_wp2_with fail
        refine hL.mono ?_
        rintro e w5 ⟨rfl, hO⟩
        have HO5 : Hid (Ok w b cf v E2 w5) := by
          obtain ⟨v6, a1, a2⟩ := hO
          exact ⟨v6, a1, HF4.out.trans a2⟩
        clear hL hO
        go_wp2_with fail
        go_ret
        rw [HD3.out]
        exact ⟨rfl, HO5.out⟩
    · rw [ha] at hL
      have HD3 : Hid (E.doNext cf true = (E, 0)) := by rw [Hid, HD.out, Ed.nextTail, if_neg (by rw [ha]; simp)]
      refine hL.mono ?_
      rintro e w4 ⟨rfl, n, rfl⟩
      clear hL
      go_wp2_with fail
      go_ret
      rw [HD3.out]
      exact ⟨rfl, v3, HA3.out.drewN n, HF3.out.drewN n⟩
def Ed.doD (E : Ed) : Ed × Nat := match dropLine E.pat with
  | none => (E, 3)
  | some t => ({ E with pat := t }.printComing, 2)
theorem doD_none {E : Ed} (h : dropLine E.pat = none) : E.doD = (E, 3) := by unfold Ed.doD; rw [h]
theorem doD_some {E : Ed} {t : ByteArray} (h : dropLine E.pat = some t) : E.doD = ({ E with pat := t }.printComing, 2) := by unfold Ed.doD; rw [h]
set_option maxHeartbeats 2000000 in
theorem doDropLine_any (b : Nat) (cf : Cf) (E : Ed) (v : Ev) (w : World) (h : At w b cf E v) (hs : Sml cf E) :
    Calls Tryz.prog 170 #[.pointer (some ⟨b, 0, none⟩)] w (Step w b cf v E.doD) := by
  have hL := dropLine_any b cf E v w h (Nat.le_trans hs.pat (by omega))
  have hout : E.out.length + weigh E.coming ≤ 70368744177664 := Nat.le_trans hs.out (by omega)
  have HCM : Hid (∀ t ∈ E.coming, t.size ≤ 1000000) := fun t ht => Nat.le_trans (hs.com t ht) (by omega)
  clear h hs
  go_enter Tryz.func170, Tryz.ntmps170
  go_wp2_with fail
  refine hL.mono ?_
  rintro e w1 hO
  clear hL
  rcases hO with ⟨hd, rfl, hO⟩ | ⟨t, hd, rfl, hO⟩
  · have HD : Hid (dropLine E.pat = none) := hd
    have HO : Hid (Ok w b cf v E w1) := hO
    clear hd hO
    go_wp2_with fail
    go_ret
    rw [doD_none HD.out]
    exact ⟨rfl, HO.out⟩
  · have HD : Hid (dropLine E.pat = some t) := hd
    obtain ⟨v2, hA2, hF2⟩ := hO
    have HF2 : Hid (Fe b v v2 w w1) := hF2
    have hL := printComing_any b cf { E with pat := t } v2 w1 hA2 hout HCM.out
    clear hd hA2 hF2
    go_wp2_with fail
    refine hL.mono ?_
    rintro e w2 ⟨rfl, hO⟩
    have HO : Hid (Ok w b cf v ({ E with pat := t } : Ed).printComing w2) := by
      obtain ⟨v3, a1, a2⟩ := hO
      exact ⟨v3, a1, HF2.out.trans a2⟩
    clear hL hO
    go_wp2_with fail
    go_ret
    rw [doD_some HD.out]
    exact ⟨rfl, HO.out⟩
end Ee
end Go.Proofs.YtppjlpihaocdiaaGreatDoor

/- A part of the proof. -/
set_option linter.unusedSimpArgs false
set_option linter.unusedVariables false
namespace Go.Proofs.YtppjlpihaocdiaaGreatDoor
namespace Ee
open Go.RowKit
open Rs (Cm Wh Pc CmAt Pts cmL Keep own_of grps pcL)
structure Kp (cf : Cf) (E E1 : Ed) : Prop where
  next : E1.next = E.next
  whole : E1.whole = E.whole
  ended : E1.ended = E.ended
  number : E1.number = E.number
  opn : E1.opn = E.opn
  at' : E1.at' = E.at'
  stage : E1.stage = E.stage
  looked : E1.looked = E.looked
  taken : E1.taken = E.taken
  state : E1.state = E.state
  pat : E1.pat.size ≤ 80
  hold : E1.hold.size ≤ 80
  com : ∀ t ∈ E1.coming, t.size ≤ 1000
  out : E1.out.length + weigh E1.coming ≤ E.out.length + weigh E.coming + 401
  pre : ∃ l, E1.out = E.out ++ l
theorem become_some {cf : Cf} {E E1 : Ed} {t : ByteArray} (h : E.become cf t = some E1) : E1 = { E with pat := t } ∧ t.size ≤ cf.space := by
  unfold Ed.become at h
  split at h
  · cases h
  · cases h; exact ⟨rfl, by omega⟩
theorem holds_some {cf : Cf} {E E1 : Ed} {t : ByteArray} (h : E.holds cf t = some E1) : E1 = { E with hold := t } ∧ t.size ≤ cf.space := by
  unfold Ed.holds at h
  split at h
  · cases h
  · cases h; exact ⟨rfl, by omega⟩
theorem kp_refl {cf : Cf} {E : Ed} (hs : Sml cf E) : Kp cf E E := ⟨rfl, rfl, rfl, rfl, rfl, rfl, rfl, rfl, rfl, rfl, hs.pat, hs.hold, hs.com, by omega, [], by simp⟩
theorem kp_print {cf : Cf} {E : Ed} (hs : Sml cf E) (t : ByteArray) (ht : t.size ≤ 400) : Kp cf E (E.print t) :=
  ⟨rfl, rfl, rfl, rfl, rfl, rfl, rfl, rfl, rfl, rfl, hs.pat, hs.hold, hs.com, by simp only [Ed.print, List.length_append, row_length, List.length_singleton]; omega, row t ++ [10], by simp [Ed.print, List.append_assoc]⟩
theorem kp_pat {cf : Cf} {E : Ed} (hs : Sml cf E) (t : ByteArray) (ht : t.size ≤ 80) : Kp cf E { E with pat := t } := ⟨rfl, rfl, rfl, rfl, rfl, rfl, rfl, rfl, rfl, rfl, ht, hs.hold, hs.com, by simp only; omega, [], by simp⟩
theorem kp_hold {cf : Cf} {E : Ed} (hs : Sml cf E) (t : ByteArray) (ht : t.size ≤ 80) : Kp cf E { E with hold := t } := ⟨rfl, rfl, rfl, rfl, rfl, rfl, rfl, rfl, rfl, rfl, hs.pat, ht, hs.com, by simp only; omega, [], by simp⟩
theorem trans_size (frm too t : ByteArray) : (trans frm too t).size = t.size := by rw [trans, txt_size, List.length_map, row_length]
theorem edit_kp {mf : Mf} {cf : Cf} {E E1 : Ed} {n : Nat} {x : Cm} (hs : Sml cf E) (ok : CmOk n x) (h : E.edit mf cf x = some E1) : Kp cf E E1 := by
  have hsp := hs.space
  unfold Ed.edit at h
  by_cases h5 : x.kind = 5
  · rw [if_pos h5] at h
    cases h; exact kp_print hs _ (by have := hs.pat; omega)
  rw [if_neg h5] at h
  by_cases h6 : x.kind = 6
  · rw [if_pos h6] at h
    cases h; exact kp_print hs _ (by have := hs.pat; have := extract_size_le E.pat 0 (Rs.eol E.pat 0); unfold firstLine; omega)
  rw [if_neg h6] at h
  by_cases h12 : x.kind = 12
  · rw [if_pos h12] at h
    cases h; exact kp_print hs _ (by have := itoa_size E.number (Nat.le_trans hs.number (by omega)); omega)
  rw [if_neg h12] at h
  by_cases h14 : x.kind = 14
  · rw [if_pos h14] at h
    cases h
    refine ⟨rfl, rfl, rfl, rfl, rfl, rfl, rfl, rfl, rfl, rfl, hs.pat, hs.hold, fun t ht => ?_, ?_, [], by simp⟩
    · rcases List.mem_append.1 ht with ht | ht
      · exact hs.com t ht
      · have : t = x.text := by simpa using ht
        subst this
        have := ok.tx
        omega
    · have := ok.tx
      simp only [weigh_append]
      have e : weigh [x.text] = x.text.size + 1 := by simp [weigh]
      omega
  rw [if_neg h14] at h
  by_cases h15 : x.kind = 15
  · rw [if_pos h15] at h
    cases h; exact kp_print hs _ ok.tx
  rw [if_neg h15] at h
  by_cases h7 : x.kind = 7
  · rw [if_pos h7] at h
    obtain ⟨rfl, h2⟩ := become_some h; exact kp_pat hs _ (by omega)
  rw [if_neg h7] at h
  by_cases h8 : x.kind = 8
  · rw [if_pos h8] at h
    obtain ⟨rfl, h2⟩ := become_some h; exact kp_pat hs _ (by omega)
  rw [if_neg h8] at h
  by_cases h9 : x.kind = 9
  · rw [if_pos h9] at h
    obtain ⟨rfl, h2⟩ := holds_some h; exact kp_hold hs _ (by omega)
  rw [if_neg h9] at h
  by_cases h10 : x.kind = 10
  · rw [if_pos h10] at h
    obtain ⟨rfl, h2⟩ := holds_some h; exact kp_hold hs _ (by omega)
  rw [if_neg h10] at h
  by_cases h11 : x.kind = 11
  · rw [if_pos h11] at h
    cases h
    exact ⟨rfl, rfl, rfl, rfl, rfl, rfl, rfl, rfl, rfl, rfl, hs.hold, hs.pat, hs.com, by simp only; omega, [], by simp⟩
  rw [if_neg h11] at h
  by_cases h19 : x.kind = 19
  · rw [if_pos h19] at h
    unfold Ed.subst at h
    simp only at h
    split at h
    · cases hb : E.become cf (repl mf x E.pat).1 with
      | none => rw [hb] at h; cases h
      | some E2 =>
        rw [hb] at h
        obtain ⟨rfl, h2⟩ := become_some hb
        simp only at h
        split at h
        · cases h
          refine ⟨rfl, rfl, rfl, rfl, rfl, rfl, rfl, rfl, rfl, rfl, by simp only [Ed.print]; omega, hs.hold, hs.com, ?_, row (repl mf x E.pat).1 ++ [10], by simp [Ed.print, List.append_assoc]⟩
          simp only [Ed.print, List.length_append, row_length, List.length_singleton]
          omega
        · cases h
          exact ⟨rfl, rfl, rfl, rfl, rfl, rfl, rfl, rfl, rfl, rfl, by simp only; omega, hs.hold, hs.com, by simp only; omega, [], by simp⟩
    · cases h; exact kp_refl hs
  rw [if_neg h19] at h
  by_cases h20 : x.kind = 20
  · rw [if_pos h20] at h
    cases h; exact kp_pat hs _ (by rw [trans_size]; exact hs.pat)
  rw [if_neg h20] at h
  cases h
  exact kp_refl hs
set_option maxRecDepth 100000 in
set_option maxHeartbeats 4000000 in
theorem do_1 (mf : Mf) (hm : MfOk mf) (b : Nat) (cf : Cf) (E : Ed) (v : Ev) (g o : Nat) (x : Cm) (q : Pts) (w : World) (h : At w b cf E v) (hx : CmP w g o x q) (hg : ¬ Mine b v g) (hs : Sml cf E) (ok : CmOk cf.cmds.length x) (hk : x.kind = 1) :
    Calls Tryz.prog 122 #[.pointer (some ⟨b, 0, none⟩), .pointer (some ⟨g, o, none⟩)] w (Step w b cf v (E.doIt mf cf x)) := by
  have HA : Hid (At w b cf E v) := h
  have HX : Hid (CmP w g o x q) := hx
  have HG : Hid (¬ Mine b v g) := hg
  have HS : Hid (Sml cf E) := hs
  have c0 : w.cell? ⟨g, o, none⟩ = some (.int .i64 (x.kind : Int)) := hx.cell 0 _ rfl
  have c12 := hx.cell 12 _ rfl
  have c13 := hx.cell 13 _ rfl
  have m14 := h.cell (k := 14) rfl
  have m18 := h.cell (k := 18) rfl
  have f18 := h.frz 18 (by omega)
  have m20 := h.cell (k := 20) rfl
  have f20 := h.frz 20 (by omega)
  have hout := hs.outl
  have htx := ok.tx
  have hat : E.at' ≤ 1000000 := by have := hs.at'; have := hs.cmds; omega
  rw [hk] at c0
  have HD : Hid (E.doIt mf cf x = (E, 3)) := by rw [Hid, Ed.doIt, if_pos hk]
  clear h hx hg hs ok hm hk
  go_enter Tryz.func122, Tryz.ntmps122
  go_wp2_with fail
  go_ret
  rw [HD.out]
  exact ⟨rfl, Ok.refl HA.out⟩
set_option maxRecDepth 100000 in
set_option maxHeartbeats 4000000 in
theorem do_2 (mf : Mf) (hm : MfOk mf) (b : Nat) (cf : Cf) (E : Ed) (v : Ev) (g o : Nat) (x : Cm) (q : Pts) (w : World) (h : At w b cf E v) (hx : CmP w g o x q) (hg : ¬ Mine b v g) (hs : Sml cf E) (ok : CmOk cf.cmds.length x) (hk : x.kind = 2) :
    Calls Tryz.prog 122 #[.pointer (some ⟨b, 0, none⟩), .pointer (some ⟨g, o, none⟩)] w (Step w b cf v (E.doIt mf cf x)) := by
  have HA : Hid (At w b cf E v) := h
  have HX : Hid (CmP w g o x q) := hx
  have HG : Hid (¬ Mine b v g) := hg
  have HS : Hid (Sml cf E) := hs
  have c0 : w.cell? ⟨g, o, none⟩ = some (.int .i64 (x.kind : Int)) := hx.cell 0 _ rfl
  have c12 := hx.cell 12 _ rfl
  have c13 := hx.cell 13 _ rfl
  have m14 := h.cell (k := 14) rfl
  have m18 := h.cell (k := 18) rfl
  have f18 := h.frz 18 (by omega)
  have m20 := h.cell (k := 20) rfl
  have f20 := h.frz 20 (by omega)
  have hout := hs.outl
  have htx := ok.tx
  have hat : E.at' ≤ 1000000 := by have := hs.at'; have := hs.cmds; omega
  rw [hk] at c0
  have HD : Hid (E.doIt mf cf x = E.doD) := by rw [Hid, Ed.doIt, if_neg (by omega), if_pos hk]; rfl
  have hL := doDropLine_any b cf E v w h hs
  generalize E.doD = r at hL HD
  clear h hx hg hs ok hm hk
  go_enter Tryz.func122, Tryz.ntmps122
  go_wp2_with fail
  refine hL.mono ?_
  rintro e w1 ⟨rfl, hO⟩
  have HO : Hid (Ok w b cf v r.1 w1) := hO
  clear hL hO
  go_wp2_with fail
  go_ret
  rw [HD.out]
  exact ⟨rfl, HO.out⟩
set_option maxRecDepth 100000 in
set_option maxHeartbeats 4000000 in
theorem do_16 (mf : Mf) (hm : MfOk mf) (b : Nat) (cf : Cf) (E : Ed) (v : Ev) (g o : Nat) (x : Cm) (q : Pts) (w : World) (h : At w b cf E v) (hx : CmP w g o x q) (hg : ¬ Mine b v g) (hs : Sml cf E) (ok : CmOk cf.cmds.length x) (hk : x.kind = 16) :
    Calls Tryz.prog 122 #[.pointer (some ⟨b, 0, none⟩), .pointer (some ⟨g, o, none⟩)] w (Step w b cf v (E.doIt mf cf x)) := by
  have HA : Hid (At w b cf E v) := h
  have HX : Hid (CmP w g o x q) := hx
  have HG : Hid (¬ Mine b v g) := hg
  have HS : Hid (Sml cf E) := hs
  have c0 : w.cell? ⟨g, o, none⟩ = some (.int .i64 (x.kind : Int)) := hx.cell 0 _ rfl
  have c12 := hx.cell 12 _ rfl
  have c13 := hx.cell 13 _ rfl
  have m14 := h.cell (k := 14) rfl
  have m18 := h.cell (k := 18) rfl
  have f18 := h.frz 18 (by omega)
  have m20 := h.cell (k := 20) rfl
  have f20 := h.frz 20 (by omega)
  have hout := hs.outl
  have htx := ok.tx
  have hat : E.at' ≤ 1000000 := by have := hs.at'; have := hs.cmds; omega
  rw [hk] at c0
  have HD : Hid (E.doIt mf cf x = (E.print x.text, 3)) := by rw [Hid, Ed.doIt, if_neg (by omega), if_neg (by omega), if_pos hk]
  clear h hx hg hs ok hm hk
  go_enter Tryz.func122, Tryz.ntmps122
  go_wp2_with fail
  go_region_with (first
    | (go_at_call 123; (have hL := print_any b cf E v w.drew x.text HA.out.drew hout (by omega); refine hL.mono ?_; rintro e w1 ⟨rfl, nv, hO⟩; have HO : Hid (Ok w b cf v (E.print x.text) w1) := Ok.drewed hO.ok; clear hL hO)))
  all_goals
    go_wp2_with fail
    go_ret
    rw [HD.out]
    exact ⟨rfl, HO.out⟩
set_option maxRecDepth 100000 in
set_option maxHeartbeats 4000000 in
theorem do_3 (mf : Mf) (hm : MfOk mf) (b : Nat) (cf : Cf) (E : Ed) (v : Ev) (g o : Nat) (x : Cm) (q : Pts) (w : World) (h : At w b cf E v) (hx : CmP w g o x q) (hg : ¬ Mine b v g) (hs : Sml cf E) (ok : CmOk cf.cmds.length x) (hk : x.kind = 3) :
    Calls Tryz.prog 122 #[.pointer (some ⟨b, 0, none⟩), .pointer (some ⟨g, o, none⟩)] w (Step w b cf v (E.doIt mf cf x)) := by
  have HA : Hid (At w b cf E v) := h
  have HX : Hid (CmP w g o x q) := hx
  have HG : Hid (¬ Mine b v g) := hg
  have HS : Hid (Sml cf E) := hs
  have c0 : w.cell? ⟨g, o, none⟩ = some (.int .i64 (x.kind : Int)) := hx.cell 0 _ rfl
  have c12 := hx.cell 12 _ rfl
  have c13 := hx.cell 13 _ rfl
  have m14 := h.cell (k := 14) rfl
  have m18 := h.cell (k := 18) rfl
  have f18 := h.frz 18 (by omega)
  have m20 := h.cell (k := 20) rfl
  have f20 := h.frz 20 (by omega)
  have hout := hs.outl
  have htx := ok.tx
  have hat : E.at' ≤ 1000000 := by have := hs.at'; have := hs.cmds; omega
  rw [hk] at c0
  have HD : Hid (E.doIt mf cf x = E.doNext cf false) := by rw [Hid, Ed.doIt, if_neg (by omega), if_neg (by omega), if_neg (by omega), if_pos (by omega)]; rw [hk]; rfl
  have hL := doNext_3 b cf E v w h hs
  generalize E.doNext cf false = r at hL HD
  clear h hx hg hs ok hm hk
  go_enter Tryz.func122, Tryz.ntmps122
  go_wp2_with fail
  refine hL.mono ?_
  rintro e w1 ⟨rfl, hO⟩
  have HO : Hid (Ok w b cf v r.1 w1) := hO
  clear hL hO
  go_wp2_with fail
  go_ret
  rw [HD.out]
  exact ⟨rfl, HO.out⟩
set_option maxRecDepth 100000 in
set_option maxHeartbeats 4000000 in
theorem do_4 (mf : Mf) (hm : MfOk mf) (b : Nat) (cf : Cf) (E : Ed) (v : Ev) (g o : Nat) (x : Cm) (q : Pts) (w : World) (h : At w b cf E v) (hx : CmP w g o x q) (hg : ¬ Mine b v g) (hs : Sml cf E) (ok : CmOk cf.cmds.length x) (hk : x.kind = 4) :
    Calls Tryz.prog 122 #[.pointer (some ⟨b, 0, none⟩), .pointer (some ⟨g, o, none⟩)] w (Step w b cf v (E.doIt mf cf x)) := by
  have HA : Hid (At w b cf E v) := h
  have HX : Hid (CmP w g o x q) := hx
  have HG : Hid (¬ Mine b v g) := hg
  have HS : Hid (Sml cf E) := hs
  have c0 : w.cell? ⟨g, o, none⟩ = some (.int .i64 (x.kind : Int)) := hx.cell 0 _ rfl
  have c12 := hx.cell 12 _ rfl
  have c13 := hx.cell 13 _ rfl
  have m14 := h.cell (k := 14) rfl
  have m18 := h.cell (k := 18) rfl
  have f18 := h.frz 18 (by omega)
  have m20 := h.cell (k := 20) rfl
  have f20 := h.frz 20 (by omega)
  have hout := hs.outl
  have htx := ok.tx
  have hat : E.at' ≤ 1000000 := by have := hs.at'; have := hs.cmds; omega
  rw [hk] at c0
  have HD : Hid (E.doIt mf cf x = E.doNext cf true) := by rw [Hid, Ed.doIt, if_neg (by omega), if_neg (by omega), if_neg (by omega), if_pos (by omega)]; rw [hk]; rfl
  have hL := doNext_4 b cf E v w h hs
  generalize E.doNext cf true = r at hL HD
  clear h hx hg hs ok hm hk
  go_enter Tryz.func122, Tryz.ntmps122
  go_wp2_with fail
  refine hL.mono ?_
  rintro e w1 ⟨rfl, hO⟩
  have HO : Hid (Ok w b cf v r.1 w1) := hO
  clear hL hO
  go_wp2_with fail
  go_ret
  rw [HD.out]
  exact ⟨rfl, HO.out⟩
set_option maxRecDepth 100000 in
set_option maxHeartbeats 4000000 in
theorem do_13 (mf : Mf) (hm : MfOk mf) (b : Nat) (cf : Cf) (E : Ed) (v : Ev) (g o : Nat) (x : Cm) (q : Pts) (w : World) (h : At w b cf E v) (hx : CmP w g o x q) (hg : ¬ Mine b v g) (hs : Sml cf E) (ok : CmOk cf.cmds.length x) (hk : x.kind = 13) :
    Calls Tryz.prog 122 #[.pointer (some ⟨b, 0, none⟩), .pointer (some ⟨g, o, none⟩)] w (Step w b cf v (E.doIt mf cf x)) := by
  have HA : Hid (At w b cf E v) := h
  have HX : Hid (CmP w g o x q) := hx
  have HG : Hid (¬ Mine b v g) := hg
  have HS : Hid (Sml cf E) := hs
  have c0 : w.cell? ⟨g, o, none⟩ = some (.int .i64 (x.kind : Int)) := hx.cell 0 _ rfl
  have c12 := hx.cell 12 _ rfl
  have c13 := hx.cell 13 _ rfl
  have m14 := h.cell (k := 14) rfl
  have m18 := h.cell (k := 18) rfl
  have f18 := h.frz 18 (by omega)
  have m20 := h.cell (k := 20) rfl
  have f20 := h.frz 20 (by omega)
  have hout := hs.outl
  have htx := ok.tx
  have hat : E.at' ≤ 1000000 := by have := hs.at'; have := hs.cmds; omega
  rw [hk] at c0
  have HD : Hid (E.doIt mf cf x = ({ E with state := 2 }, 4)) := by rw [Hid, Ed.doIt, if_neg (by omega), if_neg (by omega), if_neg (by omega), if_neg (by omega), if_pos hk]
  clear h hx hg hs ok hm hk
  go_enter Tryz.func122, Tryz.ntmps122
  go_wp2_with fail
  go_ret
  rw [HD.out]
  exact ⟨rfl, HA.out.put ((Sole.refl _ _).setCell _ _) (rput HA.out.row 20 _ (by omega) rfl)⟩
set_option maxRecDepth 100000 in
set_option maxHeartbeats 4000000 in
theorem do_17 (mf : Mf) (hm : MfOk mf) (b : Nat) (cf : Cf) (E : Ed) (v : Ev) (g o : Nat) (x : Cm) (q : Pts) (w : World) (h : At w b cf E v) (hx : CmP w g o x q) (hg : ¬ Mine b v g) (hs : Sml cf E) (ok : CmOk cf.cmds.length x) (hk : x.kind = 17) :
    Calls Tryz.prog 122 #[.pointer (some ⟨b, 0, none⟩), .pointer (some ⟨g, o, none⟩)] w (Step w b cf v (E.doIt mf cf x)) := by
  have HA : Hid (At w b cf E v) := h
  have HX : Hid (CmP w g o x q) := hx
  have HG : Hid (¬ Mine b v g) := hg
  have HS : Hid (Sml cf E) := hs
  have c0 : w.cell? ⟨g, o, none⟩ = some (.int .i64 (x.kind : Int)) := hx.cell 0 _ rfl
  have c12 := hx.cell 12 _ rfl
  have c13 := hx.cell 13 _ rfl
  have m14 := h.cell (k := 14) rfl
  have m18 := h.cell (k := 18) rfl
  have f18 := h.frz 18 (by omega)
  have m20 := h.cell (k := 20) rfl
  have f20 := h.frz 20 (by omega)
  have hout := hs.outl
  have htx := ok.tx
  have hat : E.at' ≤ 1000000 := by have := hs.at'; have := hs.cmds; omega
  rw [hk] at c0
  have HD : Hid (E.doIt mf cf x = E.jump x.goal) := by rw [Hid, Ed.doIt, if_neg (by omega), if_neg (by omega), if_neg (by omega), if_neg (by omega), if_neg (by omega), if_pos hk]
  have hL := jump_any b cf E v w x.goal h
  generalize E.jump x.goal = r at hL HD
  clear h hx hg hs ok hm hk
  go_enter Tryz.func122, Tryz.ntmps122
  go_wp2_with fail
  refine hL.mono ?_
  rintro e w1 ⟨rfl, hO⟩
  have HO : Hid (Ok w b cf v r.1 w1) := hO
  clear hL hO
  go_wp2_with fail
  go_ret
  rw [HD.out]
  exact ⟨rfl, HO.out⟩
set_option maxRecDepth 100000 in
set_option maxHeartbeats 4000000 in
theorem do_18 (mf : Mf) (hm : MfOk mf) (b : Nat) (cf : Cf) (E : Ed) (v : Ev) (g o : Nat) (x : Cm) (q : Pts) (w : World) (h : At w b cf E v) (hx : CmP w g o x q) (hg : ¬ Mine b v g) (hs : Sml cf E) (ok : CmOk cf.cmds.length x) (hk : x.kind = 18) :
    Calls Tryz.prog 122 #[.pointer (some ⟨b, 0, none⟩), .pointer (some ⟨g, o, none⟩)] w (Step w b cf v (E.doIt mf cf x)) := by
  have HA : Hid (At w b cf E v) := h
  have HX : Hid (CmP w g o x q) := hx
  have HG : Hid (¬ Mine b v g) := hg
  have HS : Hid (Sml cf E) := hs
  have c0 : w.cell? ⟨g, o, none⟩ = some (.int .i64 (x.kind : Int)) := hx.cell 0 _ rfl
  have c12 := hx.cell 12 _ rfl
  have c13 := hx.cell 13 _ rfl
  have m14 := h.cell (k := 14) rfl
  have m18 := h.cell (k := 18) rfl
  have f18 := h.frz 18 (by omega)
  have m20 := h.cell (k := 20) rfl
  have f20 := h.frz 20 (by omega)
  have hout := hs.outl
  have htx := ok.tx
  have hat : E.at' ≤ 1000000 := by have := hs.at'; have := hs.cmds; omega
  rw [hk] at c0
  have HD0 : Hid (E.doIt mf cf x = if E.put = true then { E with put := false }.jump x.goal else E.jump (E.at' + 1)) := by rw [Hid, Ed.doIt, if_neg (by omega), if_neg (by omega), if_neg (by omega), if_neg (by omega), if_neg (by omega), if_neg (by omega), if_pos hk]
  rcases bool_or E.put with hp | hp
  · have HD : Hid (E.doIt mf cf x = { E with put := false }.jump x.goal) := by rw [Hid, HD0.out, if_pos hp]
    rw [hp] at m18
    have HO1 : Hid (Ok w b cf v { E with put := false } (w.setCell ⟨b, 18, none⟩ (.bool false))) := HA.out.put ((Sole.refl _ _).setCell _ _) (rput HA.out.row 18 _ (by omega) rfl)
    have hgb : g ≠ b := fun e => hg (.inl e)
    have hbg : ¬ b = g := fun e => hg (.inl e.symm)
    obtain ⟨v1, hA1, hF1⟩ := HO1.out
    have HF1 : Hid (Fe b v v1 w (w.setCell ⟨b, 18, none⟩ (.bool false))) := hF1
    have hL := jump_any b cf { E with put := false } v1 _ x.goal hA1
    generalize ({ E with put := false } : Ed).jump x.goal = r at hL HD
    clear h hx hg hs ok hm hk hA1 hF1 HD0 hp
    go_enter Tryz.func122, Tryz.ntmps122
    go_wp2_with fail
    refine hL.mono ?_
    rintro e w1 ⟨rfl, hO⟩
    have HO : Hid (Ok w b cf v r.1 w1) := by
      obtain ⟨v2, a1, a2⟩ := hO
      exact ⟨v2, a1, HF1.out.trans a2⟩
    clear hL hO
    go_wp2_with fail
    go_ret
    rw [HD.out]
    exact ⟨rfl, HO.out⟩
  · have HD : Hid (E.doIt mf cf x = E.jump (E.at' + 1)) := by rw [Hid, HD0.out, if_neg (by rw [hp]; simp)]
    rw [hp] at m18
    have hL := jump_any b cf E v w (E.at' + 1) h
    generalize E.jump (E.at' + 1) = r at hL HD
    clear h hx hg hs ok hm hk HD0 hp
    go_enter Tryz.func122, Tryz.ntmps122
    go_wp2_with fail
    refine hL.mono ?_
    rintro e w1 ⟨rfl, hO⟩
    have HO : Hid (Ok w b cf v r.1 w1) := hO
    clear hL hO
    go_wp2_with fail
    go_ret
    rw [HD.out]
    exact ⟨rfl, HO.out⟩
set_option maxRecDepth 100000 in
set_option maxHeartbeats 4000000 in
theorem do_any (mf : Mf) (hm : MfOk mf) (b : Nat) (cf : Cf) (E : Ed) (v : Ev) (g o : Nat) (x : Cm) (q : Pts) (w : World) (h : At w b cf E v) (hx : CmP w g o x q) (hg : ¬ Mine b v g) (hs : Sml cf E) (ok : CmOk cf.cmds.length x) :
    Calls Tryz.prog 122 #[.pointer (some ⟨b, 0, none⟩), .pointer (some ⟨g, o, none⟩)] w (Step w b cf v (E.doIt mf cf x)) := by
  by_cases h1 : x.kind = 1
  · exact do_1 mf hm b cf E v g o x q w h hx hg hs ok h1
  by_cases h2 : x.kind = 2
  · exact do_2 mf hm b cf E v g o x q w h hx hg hs ok h2
  by_cases h16 : x.kind = 16
  · exact do_16 mf hm b cf E v g o x q w h hx hg hs ok h16
  by_cases h3 : x.kind = 3
  · exact do_3 mf hm b cf E v g o x q w h hx hg hs ok h3
  by_cases h4 : x.kind = 4
  · exact do_4 mf hm b cf E v g o x q w h hx hg hs ok h4
  by_cases h13 : x.kind = 13
  · exact do_13 mf hm b cf E v g o x q w h hx hg hs ok h13
  by_cases h17 : x.kind = 17
  · exact do_17 mf hm b cf E v g o x q w h hx hg hs ok h17
  by_cases h18 : x.kind = 18
  · exact do_18 mf hm b cf E v g o x q w h hx hg hs ok h18
  have HA : Hid (At w b cf E v) := h
  have HX : Hid (CmP w g o x q) := hx
  have HG : Hid (¬ Mine b v g) := hg
  have HS : Hid (Sml cf E) := hs
  have c0 : w.cell? ⟨g, o, none⟩ = some (.int .i64 (x.kind : Int)) := hx.cell 0 _ rfl
  have c12 := hx.cell 12 _ rfl
  have c13 := hx.cell 13 _ rfl
  have m14 := h.cell (k := 14) rfl
  have m18 := h.cell (k := 18) rfl
  have f18 := h.frz 18 (by omega)
  have m20 := h.cell (k := 20) rfl
  have f20 := h.frz 20 (by omega)
  have hout := hs.outl
  have htx := ok.tx
  have hat : E.at' ≤ 1000000 := by have := hs.at'; have := hs.cmds; omega
  have hcc : E.coming.length ≤ 1099511627776 := by have := weigh_len E.coming; have := hs.out; omega
  have hL := edit_any mf hm b cf E v g o x q w h hx hg hs hcc ok
  have HKP : Hid (∀ E1, E.edit mf cf x = some E1 → Kp cf E E1) := fun E1 he => edit_kp hs ok he
  have HD0 : Hid (E.doIt mf cf x = match E.edit mf cf x with | none => E.stop 4 | some E1 => E1.jump (E1.at' + 1)) := by rw [Hid, Ed.doIt, if_neg h1, if_neg h2, if_neg h16, if_neg (by omega), if_neg h13, if_neg h17, if_neg h18]; rfl
  have q1 : ((x.kind : Int) == 1) = false := by simp; omega
  have q2 : ((x.kind : Int) == 2) = false := by simp; omega
  have q16 : ((x.kind : Int) == 16) = false := by simp; omega
  have q3 : ((x.kind : Int) == 3) = false := by simp; omega
  have q4 : ((x.kind : Int) == 4) = false := by simp; omega
  have q13 : ((x.kind : Int) == 13) = false := by simp; omega
  have q17 : ((x.kind : Int) == 17) = false := by simp; omega
  have q18 : ((x.kind : Int) == 18) = false := by simp; omega
  clear h hx hg hs ok hm h1 h2 h16 h3 h4 h13 h17 h18
  rcases he : E.edit mf cf x with _ | E1
  · have HD : Hid (E.doIt mf cf x = E.stop 4) := by rw [Hid, HD0.out, he]
    rw [he] at hL
    clear he HD0
    go_enter Tryz.func122, Tryz.ntmps122
    go_wp2_with fail
    refine hL.mono ?_
    rintro e w1 hO
    obtain ⟨rfl, hO2⟩ := hO.none'
    clear hL hO
    obtain ⟨v1, hA1, hF1⟩ := hO2
    have HF1 : Hid (Fe b v v1 w w1) := hF1
    have hL := stop_any b cf E v1 w1 4 hA1
    generalize E.stop 4 = r at hL HD
    clear hA1 hF1
    go_wp2_with fail
    refine hL.mono ?_
    rintro e w2 ⟨rfl, hO⟩
    have HO : Hid (Ok w b cf v r.1 w2) := by
      obtain ⟨v2, a1, a2⟩ := hO
      exact ⟨v2, a1, HF1.out.trans a2⟩
    clear hL hO
    go_wp2_with fail
    go_ret
    rw [HD.out]
    exact ⟨rfl, HO.out⟩
  · have HD : Hid (E.doIt mf cf x = E1.jump (E1.at' + 1)) := by rw [Hid, HD0.out, he]
    have hat1 : E1.at' ≤ 1000000 := by rw [(HKP.out E1 he).at']; exact hat
    rw [he] at hL
    clear he HD0 m14
    go_enter Tryz.func122, Tryz.ntmps122
    go_wp2_with fail
    refine hL.mono ?_
    rintro e w1 hO
    obtain ⟨rfl, hO2⟩ := hO.some'
    clear hL hO
    obtain ⟨v1, hA1, hF1⟩ := hO2
    have HF1 : Hid (Fe b v v1 w w1) := hF1
    have m14 := hA1.cell (k := 14) rfl
    have hL := jump_any b cf E1 v1 w1 (E1.at' + 1) hA1
    generalize E1.jump (E1.at' + 1) = r at hL HD
    clear hA1 hF1
    go_wp2_with fail
    refine hL.mono ?_
    rintro e w2 ⟨rfl, hO⟩
    have HO : Hid (Ok w b cf v r.1 w2) := by
      obtain ⟨v2, a1, a2⟩ := hO
      exact ⟨v2, a1, HF1.out.trans a2⟩
    clear hL hO
    go_wp2_with fail
    go_ret
    rw [HD.out]
    exact ⟨rfl, HO.out⟩
end Ee
end Go.Proofs.YtppjlpihaocdiaaGreatDoor

/- A part of the proof. -/
set_option linter.unusedSimpArgs false
set_option linter.unusedVariables false
namespace Go.Proofs.YtppjlpihaocdiaaGreatDoor
namespace Ee
open Go.RowKit
open Rs (Cm Wh Pc CmAt Pts cmL Keep own_of grps pcL)
theorem At.cmdAt {w : World} {b : Nat} {cf : Cf} {E : Ed} {v : Ev} (h : At w b cf E v) {k : Nat} {x : Cm} (hx : cf.cmds[k]? = some x) (ok : CmOk cf.cmds.length x) {g n cap : Nat} (hv : v.cm = .slice (some ⟨g, 0, none⟩) n cap) : ∃ q, ¬ Mine b v g ∧ CmP w g (k * 23) x q := by
  obtain ⟨g', cap', q, h1, h2, h3⟩ := h.cmd hx ok
  rw [hv] at h1
  injection h1 with h1
  injection h1 with h1
  injection h1 with h1
  subst h1
  exact ⟨q, h2, h3⟩
theorem selects_same (mf : Mf) (E : Ed) (x : Cm) : ∃ o, (E.selects mf x).1 = { E with opn := o } ∧ o.length = E.opn.length := by
  unfold Ed.selects
  split
  · exact ⟨E.opn, rfl, rfl⟩
  · simp only
    split
    · exact ⟨E.opn, rfl, rfl⟩
    · simp only
      split
      · exact ⟨_, rfl, by simp⟩
      · exact ⟨E.opn, rfl, rfl⟩
theorem Sml.sel {cf : Cf} {E : Ed} (h : Sml cf E) (o : List Bool) (ho : o.length = E.opn.length) (s l : Nat) (hl : l ≤ cf.fuel) : Sml cf { E with opn := o, stage := s, looked := l } :=
  ⟨h.pat, h.hold, h.space, h.line, h.fuel, h.out, h.com, h.number, h.next, h.cmds, ho.trans h.opn, hl, h.at'⟩
theorem choose_2 {mf : Mf} {cf : Cf} {E : Ed} {x : Cm} (h : E.stage = 2) : E.choose mf cf x = if (E.selects mf x).2.2 = false then ((E.selects mf x).1, 0) else if (E.selects mf x).2.1 = x.neg then (E.selects mf x).1.jump (if x.kind = 0 then x.goal else (E.selects mf x).1.at' + 1) else ({ (E.selects mf x).1 with stage := 3 } : Ed).doIt mf cf x := by
  rw [Ed.choose, if_pos h]
theorem choose_n {mf : Mf} {cf : Cf} {E : Ed} {x : Cm} (h : E.stage ≠ 2) : E.choose mf cf x = E.doIt mf cf x := by
  rw [Ed.choose, if_neg h]
set_option maxRecDepth 100000 in
set_option maxHeartbeats 4000000 in
theorem command_any (mf : Mf) (hm : MfOk mf) (b : Nat) (cf : Cf) (E : Ed) (v : Ev) (x : Cm) (w : World) (h : At w b cf E v) (hs : Sml cf E) (hx : cf.cmds[E.at']? = some x) (ok : CmOk cf.cmds.length x) :
    Calls Tryz.prog 73 #[.pointer (some ⟨b, 0, none⟩)] w (Step w b cf v (E.command mf cf)) := by
  have hlt : E.at' < cf.cmds.length := by
    rcases Nat.lt_or_ge E.at' cf.cmds.length with e | e
    · exact e
    · rw [List.getElem?_eq_none e] at hx; cases hx
  obtain ⟨g, cap, q, hcm, hng, hCP⟩ := h.cmd hx ok
  have HA : Hid (At w b cf E v) := h
  have HS : Hid (Sml cf E) := hs
  have HG : Hid (¬ Mine b v g) := hng
  have HCP : Hid (CmP w g (E.at' * 23) x q) := hCP
  have hgb : g ≠ b := fun e => hng (.inl e)
  have hbg : ¬ b = g := fun e => hng (.inl e.symm)
  have m12 : w.cell? ⟨b, 12, none⟩ = some (.slice (some ⟨g, 0, none⟩) cf.cmds.length cap) := (h.cell (k := 12) rfl).trans (congrArg some hcm)
  have m14 := h.cell (k := 14) rfl
  have m15 := h.cell (k := 15) rfl
  have f15 := h.frz 15 (by omega)
  have m16 := h.cell (k := 16) rfl
  have f16 := h.frz 16 (by omega)
  have m17 := h.cell (k := 17) rfl
  have hlf := hs.looked
  have hfu := hs.fuel
  have HC : Hid (E.command mf cf = if E.stage = 1 then (if E.looked = cf.fuel then E.stop 5 else ({ E with looked := E.looked + 1, stage := 2 } : Ed).choose mf cf x) else E.choose mf cf x) := by
    have e : cf.cmds.getD E.at' noCm = x := by rw [List.getD, hx]; rfl
    rw [Hid, Ed.command]
    simp only [e]
  have HSEL : Hid (∀ E' W, E'.pat.size ≤ 80 → E'.at' < E'.opn.length → Ok w b cf v E' W → Calls Tryz.prog 120 #[.pointer (some ⟨b, 0, none⟩), .pointer (some ⟨g, E.at' * 23, none⟩)] W (BothE w b cf v (E'.selects mf x))) := fun E' W h1 h2 ⟨v', a1, a2⟩ => by
    obtain ⟨q', b1, b2⟩ := a1.cmdAt hx ok (a2.cm.trans hcm)
    refine (selects_any mf hm b cf E' v' g (E.at' * 23) x q' W a1 b2 h1 h2).mono ?_
    rintro e w' ⟨rfl, v2, c1, c2⟩
    exact ⟨rfl, v2, c1, a2.trans c2⟩
  have HPASS : Hid (∀ E' W, E'.at' ≤ 1000000 → Ok w b cf v E' W → Calls Tryz.prog 121 #[.pointer (some ⟨b, 0, none⟩), .pointer (some ⟨g, E.at' * 23, none⟩)] W (Step w b cf v (E'.jump (if x.kind = 0 then x.goal else E'.at' + 1)))) := fun E' W h1 ⟨v', a1, a2⟩ => by
    obtain ⟨q', b1, b2⟩ := a1.cmdAt hx ok (a2.cm.trans hcm)
    refine (pass_any b cf E' v' g (E.at' * 23) x q' W a1 b2 h1).mono ?_
    rintro e w' ⟨rfl, v2, c1, c2⟩
    exact ⟨rfl, v2, c1, a2.trans c2⟩
  have HDO : Hid (∀ E' W, Sml cf E' → Ok w b cf v E' W → Calls Tryz.prog 122 #[.pointer (some ⟨b, 0, none⟩), .pointer (some ⟨g, E.at' * 23, none⟩)] W (Step w b cf v (E'.doIt mf cf x))) := fun E' W h1 ⟨v', a1, a2⟩ => by
    obtain ⟨q', b1, b2⟩ := a1.cmdAt hx ok (a2.cm.trans hcm)
    refine (do_any mf hm b cf E' v' g (E.at' * 23) x q' W a1 b2 b1 h1 ok).mono ?_
    rintro e w' ⟨rfl, v2, c1, c2⟩
    exact ⟨rfl, v2, c1, a2.trans c2⟩
  have HSTOP : Hid (∀ W, Ok w b cf v E W → Calls Tryz.prog 119 #[.pointer (some ⟨b, 0, none⟩), .int .i64 5] W (Step w b cf v (E.stop 5))) := fun W ⟨v', a1, a2⟩ => by
    refine (stop_any b cf E v' W 5 a1).mono ?_
    rintro e w' ⟨rfl, v2, c1, c2⟩
    exact ⟨rfl, v2, c1, a2.trans c2⟩
  have hpat := hs.pat
  have hopn := hs.opn
  have hc1 := hs.cmds
  have c11 := hCP.cell 11 _ rfl
  have hgl := hCP.lt
  clear h hs hx ok hm hcm hng hCP
  by_cases h1 : E.stage = 1
  · rw [h1] at m15
    by_cases hl : E.looked = cf.fuel
    · have HC2 : Hid (E.command mf cf = E.stop 5) := by rw [Hid, HC.out, if_pos h1, if_pos hl]
      have q1 : ((E.looked : Int) == (cf.fuel : Int)) = true := by simp; omega
      have q2 : (E.looked == cf.fuel) = true := by simp; omega
      clear HC h1 hl
      go_enter Tryz.func73, Tryz.ntmps73
      go_wp2_with fail
      go_region
      all_goals
        go_wp2_with fail
        go_region
        all_goals
          go_wp2_with fail
          refine (HSTOP.out _ ?_).mono ?_
          · exact (Ok.refl HA.out).drewN 2
          generalize E.stop 5 = r at HC2
          rintro e w5 ⟨rfl, hO⟩
          have HO5 : Hid (Ok w b cf v r.1 w5) := hO
          clear hO
          go_wp2_with fail
          go_ret
          rw [HC2.out]
          exact ⟨rfl, HO5.out⟩
    · have HC2 : Hid (E.command mf cf = ({ E with looked := E.looked + 1, stage := 2 } : Ed).choose mf cf x) := by rw [Hid, HC.out, if_pos h1, if_neg hl]
      have HC4 := choose_2 (mf := mf) (cf := cf) (E := { E with looked := E.looked + 1, stage := 2 }) (x := x) rfl
      have HCH : Hid _ := HC4
      have q1 : ((E.looked : Int) == (cf.fuel : Int)) = false := by simp; omega
      have q2 : (E.looked == cf.fuel) = false := by simp; omega
      have HOB : Hid (Ok w b cf v { E with looked := E.looked + 1, stage := 2 } (((w.setCell ⟨b, 16, none⟩ (.int .i64 ((E.looked : Int) + 1))).setCell ⟨b, 15, none⟩ (.int .i64 2)).drewN 2)) :=
        (HA.out.put (E' := { E with looked := E.looked + 1, stage := 2 }) (((Sole.refl _ _).setCell _ _).setCell _ _) (rput (E := { E with looked := E.looked + 1 }) (rput HA.out.row 16 _ (by omega) (by simp [edL])) 15 _ (by omega) rfl)).drewN 2
      clear HC h1 HC4
      go_enter Tryz.func73, Tryz.ntmps73
      go_wp2_with fail
      go_region
      all_goals
        go_wp2_with fail
        go_region
        all_goals
          go_wp2_with fail
          refine (HSEL.out { E with looked := E.looked + 1, stage := 2 } _ hpat (by first | omega | (simp only; omega)) ?_).mono ?_
          · exact HOB.out
          obtain ⟨oo, hse, hol⟩ := selects_same mf { E with looked := E.looked + 1, stage := 2 } x
          have HSE : Hid ((({ E with looked := E.looked + 1, stage := 2 } : Ed).selects mf x).1 = { ({ E with looked := E.looked + 1, stage := 2 } : Ed) with opn := oo }) := hse
          rcases hsr : ({ E with looked := E.looked + 1, stage := 2 } : Ed).selects mf x with ⟨E2, sel, kn⟩
          rw [hsr] at HSE
          have HE2 : Hid (E2 = { ({ E with looked := E.looked + 1, stage := 2 } : Ed) with opn := oo }) := HSE.out
          clear hse
          rintro e w4 ⟨rfl, hO4⟩
          have HO4 : Hid (Ok w b cf v E2 w4) := hO4
          clear hO4
          have k11 : w4.cell? ⟨g, E.at' * 23 + 11, none⟩ = some (.bool x.neg) := (World.cell?_of_block (w := w) (w' := w4) (a := ⟨g, E.at' * 23 + 11, none⟩) (HO4.out.far HG.out hgl)).trans c11
          have n15 := HO4.out.cell (k := 15) (fun _ => rfl)
          have nf15 := HO4.out.frz 15 (by omega)
          clear m12 m14 m15 f15 m16 f16 m17 c11
          rcases bool_or kn with hkn | hkn <;> subst hkn
          · by_cases hsn : sel = x.neg
            · have HC3 : Hid (E.command mf cf = E2.jump (if x.kind = 0 then x.goal else E2.at' + 1)) := by rw [Hid, HC2.out, HCH.out, hsr]; simp only; rw [if_neg (by simp), if_pos hsn]
              have q1 : (sel == x.neg) = true := by rw [hsn]; simp
              have hat2 : E2.at' ≤ 1000000 := by rw [HE2.out]; simp only; omega
              clear hsr
              go_wp2_with fail
              refine (HPASS.out E2 _ hat2 HO4.out).mono ?_
              generalize E2.jump (if x.kind = 0 then x.goal else E2.at' + 1) = r at HC3
              rintro e w5 ⟨rfl, hO⟩
              have HO5 : Hid (Ok w b cf v r.1 w5) := hO
              clear hO
              go_wp2_with fail
              go_ret
              rw [HC3.out]
              exact ⟨rfl, HO5.out⟩
            · have HC3 : Hid (E.command mf cf = ({ E2 with stage := 3 } : Ed).doIt mf cf x) := by rw [Hid, HC2.out, HCH.out, hsr]; simp only; rw [if_neg (by simp), if_neg hsn]
              have q1 : (sel == x.neg) = false := by simpa using hsn
              have HO6 : Hid (Ok w b cf v { E2 with stage := 3 } (w4.setCell ⟨b, 15, none⟩ (.int .i64 3))) := HO4.out.put (fun v' h' => ⟨(Sole.refl _ _).setCell _ _, rput h'.row 15 _ (by omega) rfl⟩)
              have HS2 : Hid (Sml cf { E2 with stage := 3 }) := by rw [Hid, HE2.out]; exact HS.out.sel oo hol 3 _ (by first | omega | (simp only; omega))
              clear hsr hsn
              go_wp2_with fail
              refine (HDO.out { E2 with stage := 3 } _ HS2.out HO6.out).mono ?_
              generalize ({ E2 with stage := 3 } : Ed).doIt mf cf x = r at HC3
              rintro e w5 ⟨rfl, hO⟩
              have HO5 : Hid (Ok w b cf v r.1 w5) := hO
              clear hO
              go_wp2_with fail
              go_ret
              rw [HC3.out]
              exact ⟨rfl, HO5.out⟩
          · have HC3 : Hid (E.command mf cf = (E2, 0)) := by rw [Hid, HC2.out, HCH.out, hsr]; rfl
            clear hsr
            go_wp2_with fail
            go_ret
            rw [HC3.out]
            exact ⟨rfl, HO4.out⟩
  · have q1 : ((E.stage : Int) == 1) = false := by simp; omega
    by_cases h2 : E.stage = 2
    · have HC2 : Hid (E.command mf cf = E.choose mf cf x) := by rw [Hid, HC.out, if_neg h1]
      have HC4 := choose_2 (mf := mf) (cf := cf) (E := E) (x := x) h2
      have HCH : Hid _ := HC4
      rw [h2] at m15
      clear HC h1 HC4 q1 h2
      go_enter Tryz.func73, Tryz.ntmps73
      go_wp2_with fail
      go_region
      all_goals
        go_wp2_with fail
        refine (HSEL.out E _ hpat (by first | omega | (simp only; omega)) ?_).mono ?_
        · exact (Ok.refl HA.out).drewN 1
        obtain ⟨oo, hse, hol⟩ := selects_same mf E x
        have HSE : Hid (((E : Ed).selects mf x).1 = { (E : Ed) with opn := oo }) := hse
        rcases hsr : (E : Ed).selects mf x with ⟨E2, sel, kn⟩
        rw [hsr] at HSE
        have HE2 : Hid (E2 = { (E : Ed) with opn := oo }) := HSE.out
        clear hse
        rintro e w4 ⟨rfl, hO4⟩
        have HO4 : Hid (Ok w b cf v E2 w4) := hO4
        clear hO4
        have k11 : w4.cell? ⟨g, E.at' * 23 + 11, none⟩ = some (.bool x.neg) := (World.cell?_of_block (w := w) (w' := w4) (a := ⟨g, E.at' * 23 + 11, none⟩) (HO4.out.far HG.out hgl)).trans c11
        have n15 := HO4.out.cell (k := 15) (fun _ => rfl)
        have nf15 := HO4.out.frz 15 (by omega)
        clear m12 m14 m15 f15 m16 f16 m17 c11
        rcases bool_or kn with hkn | hkn <;> subst hkn
        · by_cases hsn : sel = x.neg
          · have HC3 : Hid (E.command mf cf = E2.jump (if x.kind = 0 then x.goal else E2.at' + 1)) := by rw [Hid, HC2.out, HCH.out, hsr]; simp only; rw [if_neg (by simp), if_pos hsn]
            have q1 : (sel == x.neg) = true := by rw [hsn]; simp
            have hat2 : E2.at' ≤ 1000000 := by rw [HE2.out]; simp only; omega
            clear hsr
            go_wp2_with fail
            refine (HPASS.out E2 _ hat2 HO4.out).mono ?_
            generalize E2.jump (if x.kind = 0 then x.goal else E2.at' + 1) = r at HC3
            rintro e w5 ⟨rfl, hO⟩
            have HO5 : Hid (Ok w b cf v r.1 w5) := hO
            clear hO
            go_wp2_with fail
            go_ret
            rw [HC3.out]
            exact ⟨rfl, HO5.out⟩
          · have HC3 : Hid (E.command mf cf = ({ E2 with stage := 3 } : Ed).doIt mf cf x) := by rw [Hid, HC2.out, HCH.out, hsr]; simp only; rw [if_neg (by simp), if_neg hsn]
            have q1 : (sel == x.neg) = false := by simpa using hsn
            have HO6 : Hid (Ok w b cf v { E2 with stage := 3 } (w4.setCell ⟨b, 15, none⟩ (.int .i64 3))) := HO4.out.put (fun v' h' => ⟨(Sole.refl _ _).setCell _ _, rput h'.row 15 _ (by omega) rfl⟩)
            have HS2 : Hid (Sml cf { E2 with stage := 3 }) := by rw [Hid, HE2.out]; exact HS.out.sel oo hol 3 _ (by first | omega | (simp only; omega))
            clear hsr hsn
            go_wp2_with fail
            refine (HDO.out { E2 with stage := 3 } _ HS2.out HO6.out).mono ?_
            generalize ({ E2 with stage := 3 } : Ed).doIt mf cf x = r at HC3
            rintro e w5 ⟨rfl, hO⟩
            have HO5 : Hid (Ok w b cf v r.1 w5) := hO
            clear hO
            go_wp2_with fail
            go_ret
            rw [HC3.out]
            exact ⟨rfl, HO5.out⟩
        · have HC3 : Hid (E.command mf cf = (E2, 0)) := by rw [Hid, HC2.out, HCH.out, hsr]; rfl
          clear hsr
          go_wp2_with fail
          go_ret
          rw [HC3.out]
          exact ⟨rfl, HO4.out⟩
    · have HC2 : Hid (E.command mf cf = E.doIt mf cf x) := by rw [Hid, HC.out, if_neg h1, choose_n h2]
      have q2 : ((E.stage : Int) == 2) = false := by simp; omega
      clear HC h1 h2
      go_enter Tryz.func73, Tryz.ntmps73
      go_wp2_with fail
      go_region
      all_goals
        go_wp2_with fail
        refine (HDO.out E _ HS.out ?_).mono ?_
        · exact (Ok.refl HA.out).drewN 1
        generalize E.doIt mf cf x = r at HC2
        rintro e w5 ⟨rfl, hO⟩
        have HO5 : Hid (Ok w b cf v r.1 w5) := hO
        clear hO
        go_wp2_with fail
        go_ret
        rw [HC2.out]
        exact ⟨rfl, HO5.out⟩
end Ee
end Go.Proofs.YtppjlpihaocdiaaGreatDoor

/- A part of the proof. -/
set_option linter.unusedSimpArgs false
set_option linter.unusedVariables false
namespace Go.Proofs.YtppjlpihaocdiaaGreatDoor
namespace Ee
open Rs (Cm Wh Pc)
structure Cok (cf : Cf) : Prop where
  line : cf.line ≤ 80
  space : cf.space ≤ 80
  fuel : cf.fuel ≤ 1000
  cmds : cf.cmds.length ≤ 1000
  cm : ∀ (k : Nat) (x : Cm), cf.cmds[k]? = some x → CmOk cf.cmds.length x
structure Iv (cf : Cf) (K c : Nat) (E : Ed) : Prop where
  pat : E.pat.size ≤ 80
  hold : E.hold.size ≤ 80
  com : ∀ t ∈ E.coming, t.size ≤ 1000
  opn : E.opn.length = cf.cmds.length
  looked : E.looked ≤ cf.fuel
  at' : E.at' ≤ cf.cmds.length
  num : E.number + (if E.more = true then 1 else 0) ≤ K
  next : E.next.length ≤ K
  pot : E.out.length + weigh E.coming + 402 * (cf.fuel - E.looked) + c ≤ 402100 * (E.number + 1)
  taken : E.taken ≤ E.out.length
theorem Iv.sml {cf : Cf} {K c : Nat} {E : Ed} (h : Iv cf K c E) (hc : Cok cf) (hK : K ≤ 2000000) : Sml cf E := by
  have h1 := h.num
  have h2 := h.pot
  have h3 := h.next
  exact ⟨h.pat, h.hold, hc.space, hc.line, hc.fuel, by omega, h.com, by omega, by omega, hc.cmds, h.opn, h.looked, h.at'⟩
theorem Iv.less {cf : Cf} {K c c' : Nat} {E : Ed} (h : Iv cf K c E) (hc : c' ≤ c) : Iv cf K c' E :=
  ⟨h.pat, h.hold, h.com, h.opn, h.looked, h.at', h.num, h.next, by have := h.pot; omega, h.taken⟩
theorem Iv.upd {cf : Cf} {K c : Nat} {E : Ed} (h : Iv cf K c E) (a s t : Nat) (p : Bool) (ha : a ≤ cf.cmds.length) : Iv cf K c { E with at' := a, stage := s, state := t, put := p } :=
  ⟨h.pat, h.hold, h.com, h.opn, h.looked, ha, h.num, h.next, h.pot, h.taken⟩
theorem more_of {E E' : Ed} (h1 : E'.next = E.next) (h2 : E'.whole = E.whole) : E'.more = E.more := by unfold Ed.more; rw [h1, h2]
theorem Iv.kp {cf : Cf} {K c : Nat} {E E1 : Ed} (h : Iv cf K (c + 401) E) (k : Kp cf E E1) : Iv cf K c E1 := by
  have hm : E1.more = E.more := more_of k.next k.whole
  obtain ⟨l, hl⟩ := k.pre
  refine ⟨k.pat, k.hold, k.com, by rw [k.opn]; exact h.opn, by rw [k.looked]; exact h.looked, by rw [k.at']; exact h.at', by rw [k.number, hm]; exact h.num, by rw [k.next]; exact h.next, ?_, ?_⟩
  · have h1 := h.pot
    have h2 := k.out
    rw [k.number, k.looked]
    omega
  · rw [k.taken, hl, List.length_append]
    have := h.taken
    omega
theorem Iv.printSpace {cf : Cf} {K c : Nat} {E : Ed} (h : Iv cf K (c + 81) E) : Iv cf K c (E.printSpace cf) := by
  obtain ⟨o, h1, h2, h3⟩ := printSpace_out cf E
  rw [h1]
  have hp := h.pat
  have ht := h.taken
  exact ⟨h.pat, h.hold, h.com, h.opn, h.looked, h.at', h.num, h.next, by have := h.pot; simp only; omega, by simp only; omega⟩
theorem Iv.printComing {cf : Cf} {K c : Nat} {E : Ed} (h : Iv cf K c E) : Iv cf K c E.printComing := by
  obtain ⟨o, h1, h2⟩ := printComing_out E
  rw [h1]
  have ht := h.taken
  refine ⟨h.pat, h.hold, fun t ht => by simp at ht, h.opn, h.looked, h.at', h.num, h.next, ?_, ?_⟩
  · have := h.pot
    have e : weigh [] = 0 := rfl
    simp only [e]
    omega
  · simp only
    omega
theorem way_some {cf : Cf} {join : Bool} {E E1 : Ed} {t : ByteArray} (h : E.way cf join t = some E1) : ∃ p, E1 = { E with pat := p } ∧ p.size ≤ cf.space := by
  unfold Ed.way Ed.grow at h
  split at h
  · obtain ⟨h1, h2⟩ := become_some h; exact ⟨_, h1, h2⟩
  · obtain ⟨h1, h2⟩ := become_some h; exact ⟨_, h1, h2⟩
theorem Iv.readBy {cf : Cf} {K c : Nat} {E : Ed} (hc : Cok cf) (h : Iv cf K c E) (hm : E.more = true) (join : Bool) :
    ((E.readBy cf join).2 = true ∧ Iv cf K 81 (E.readBy cf join).1 ∧ (E.readBy cf join).1.more = false ∧ (E.readBy cf join).1.looked = 0) ∨ ((E.readBy cf join).2 = false ∧ Iv cf K c (E.readBy cf join).1 ∧ (E.readBy cf join).1.state ≠ 0) := by
  have hn := h.num
  rw [if_pos hm] at hn
  have hp := h.pot
  have hlf := h.looked
  have hf := hc.fuel
  unfold Ed.readBy
  split
  · refine .inr ⟨rfl, h.upd _ _ 3 _ h.at', by simp⟩
  · cases hw : E.read.way cf join (txt E.next) with
    | none =>
      refine .inr ⟨rfl, ⟨h.pat, h.hold, h.com, h.opn, h.looked, h.at', ?_, by simp [Ed.read], ?_, h.taken⟩, by simp⟩
      · simp only [Ed.more, Ed.read]; simp; omega
      · simp only [Ed.read]; omega
    | some E1 =>
      obtain ⟨p, rfl, hps⟩ := way_some hw
      have hsp := hc.space
      refine .inl ⟨rfl, ⟨by simp only; omega, h.hold, h.com, h.opn, by simp, h.at', ?_, by simp [Ed.read], ?_, h.taken⟩, by simp [Ed.more, Ed.read], rfl⟩
      · simp only [Ed.more, Ed.read]; simp; omega
      · simp only [Ed.read]
        omega
def mu (cf : Cf) (l : Nat) (E : Ed) : Nat := 2005 * (if E.more = true then 1 else 0) + 2 * (cf.fuel - E.looked) + (if l = 0 then 0 else if l = 4 then 1 else if l = 3 then 2 else if l = 2 then (if E.stage = 1 then 3 else 5) else 4)
def cr (l s : Nat) : Nat := if l = 0 ∨ l = 4 then 0 else if l = 2 then (if s = 2 ∨ s = 3 then 482 else 81) else 81
structure Good (cf : Cf) (K l : Nat) (E : Ed) : Prop where
  iv : Iv cf K (cr l E.stage) E
  lt : l = 2 → E.at' < cf.cmds.length
  st : l = 2 → 1 ≤ E.stage ∧ E.stage ≤ 4
  rd : l = 2 → E.stage = 4 → ∀ x, cf.cmds[E.at']? = some x → x.kind = 3 ∨ x.kind = 4
  mr : l = 2 → E.stage = 4 → E.more = true
  run : E.state = 0 ∨ l = 3 ∨ l = 4
def Rest (cf : Cf) (K : Nat) (E : Ed) : Prop := Iv cf K 0 E ∧ (E.state = 0 → Good cf K (if E.stage = 0 then 0 else 2) E)
end Ee
end Go.Proofs.YtppjlpihaocdiaaGreatDoor

/- A part of the proof. -/
set_option linter.unusedSimpArgs false
set_option linter.unusedVariables false
namespace Go.Proofs.YtppjlpihaocdiaaGreatDoor
namespace Ee
open Rs (Cm Wh Pc)
def lbl (s : Nat) : Nat := if s = 1 ∨ s = 2 then 1 else if s = 3 then 4 else 3
def nx (r : Ed × Nat) : Ed := if r.2 = 2 then { r.1 with at' := 0 } else r.1
structure Cp (cf : Cf) (K : Nat) (m : Bool) (lk : Nat) (r : Ed × Nat) : Prop where
  le : r.2 ≤ 4
  rest : r.2 = 0 → Rest cf K r.1
  on : r.2 ≠ 0 → Good cf K (lbl r.2) (nx r) ∧ (((nx r).more = m ∧ (nx r).looked = lk) ∨ (m = true ∧ (nx r).more = false))
theorem good_1 {cf : Cf} {K : Nat} {E : Ed} (h : Iv cf K 81 E) (hs : E.state = 0) : Good cf K 1 E := ⟨h, fun e => by omega, fun e => by omega, fun e => by omega, fun e => by omega, .inl hs⟩
theorem good_3 {cf : Cf} {K : Nat} {E : Ed} (h : Iv cf K 81 E) : Good cf K 3 E := ⟨h, fun e => by omega, fun e => by omega, fun e => by omega, fun e => by omega, .inr (.inl rfl)⟩
theorem good_4 {cf : Cf} {K : Nat} {E : Ed} (h : Iv cf K 0 E) : Good cf K 4 E := ⟨h, fun e => by omega, fun e => by omega, fun e => by omega, fun e => by omega, .inr (.inr rfl)⟩
theorem good_0 {cf : Cf} {K : Nat} {E : Ed} (h : Iv cf K 0 E) (hs : E.state = 0) : Good cf K 0 E := ⟨h, fun e => by omega, fun e => by omega, fun e => by omega, fun e => by omega, .inl hs⟩
theorem rest_off {cf : Cf} {K c : Nat} {E : Ed} (h : Iv cf K c E) (hs : E.state ≠ 0) : Rest cf K E := ⟨h.less (Nat.zero_le _), fun e => absurd e hs⟩
theorem rest_2 {cf : Cf} {K : Nat} {E : Ed} (h : Good cf K 2 E) : Rest cf K E := ⟨h.iv.less (Nat.zero_le _), fun _ => by rw [if_neg (by have := (h.st rfl).1; omega)]; exact h⟩
theorem cp_jump {cf : Cf} {K : Nat} {m : Bool} {lk : Nat} {E : Ed} {k : Nat} (h : Iv cf K 81 E) (hs : E.state = 0) (hk : k ≤ cf.cmds.length) (hm : (E.more = m ∧ E.looked = lk) ∨ (m = true ∧ E.more = false)) : Cp cf K m lk (E.jump k) :=
  ⟨by simp [Ed.jump], fun e => by simp [Ed.jump] at e, fun _ => ⟨good_1 (h.upd k E.stage E.state E.put hk) hs, hm⟩⟩
theorem Iv.pat' {cf : Cf} {K c : Nat} {E : Ed} (h : Iv cf K c E) (t : ByteArray) (ht : t.size ≤ 80) : Iv cf K c { E with pat := t } :=
  ⟨ht, h.hold, h.com, h.opn, h.looked, h.at', h.num, h.next, h.pot, h.taken⟩
theorem Iv.opn' {cf : Cf} {K c : Nat} {E : Ed} (h : Iv cf K c E) (o : List Bool) (ho : o.length = E.opn.length) : Iv cf K c { E with opn := o } :=
  ⟨h.pat, h.hold, h.com, ho.trans h.opn, h.looked, h.at', h.num, h.next, h.pot, h.taken⟩
theorem printSpace_more (cf : Cf) (E : Ed) : (E.printSpace cf).more = E.more ∧ (E.printSpace cf).looked = E.looked ∧ (E.printSpace cf).state = E.state ∧ (E.printSpace cf).at' = E.at' ∧ (E.printSpace cf).stage = E.stage := by
  obtain ⟨o, h, _⟩ := printSpace_out cf E
  rw [h]
  exact ⟨rfl, rfl, rfl, rfl, rfl⟩
theorem printComing_more (E : Ed) : E.printComing.more = E.more ∧ E.printComing.looked = E.looked ∧ E.printComing.state = E.state ∧ E.printComing.at' = E.at' ∧ E.printComing.stage = E.stage := by
  obtain ⟨o, h, _⟩ := printComing_out E
  rw [h]
  exact ⟨rfl, rfl, rfl, rfl, rfl⟩
theorem readBy_state (cf : Cf) (j : Bool) (E : Ed) (h : (E.readBy cf j).2 = true) : (E.readBy cf j).1.state = E.state := by
  unfold Ed.readBy at h ⊢
  split
  · rename_i hq; rw [if_pos hq] at h; cases h
  · rename_i hq
    rw [if_neg hq] at h
    cases hw : E.read.way cf j (txt E.next) with
    | none => rw [hw] at h; cases h
    | some E1 =>
      obtain ⟨p, rfl, _⟩ := way_some hw
      rfl
theorem nextTail_cp {cf : Cf} {K : Nat} {E : Ed} (hc : Cok cf) (h : Iv cf K 81 E) (hs : E.state = 0) (hlt : E.at' < cf.cmds.length) (h4 : E.stage = 4) (hm : E.more = true) (hr : ∀ x, cf.cmds[E.at']? = some x → x.kind = 3 ∨ x.kind = 4) (join : Bool) {lk : Nat} : Cp cf K true lk (E.nextTail cf join) := by
  unfold Ed.nextTail
  split
  · rcases h.readBy hc hm join with ⟨h1, h2, h3, h5⟩ | ⟨h1, h2, h3⟩
    · rw [if_pos h1]
      exact cp_jump h2 (by rw [readBy_state cf join E h1]; exact hs) (by rw [readBy_at]; omega) (.inr ⟨rfl, h3⟩)
    · rw [if_neg (by rw [h1]; simp)]
      exact ⟨by simp, fun _ => rest_off h2 h3, fun e => absurd rfl e⟩
  · refine ⟨by simp, fun _ => rest_2 ⟨?_, fun _ => hlt, fun _ => (by rw [h4]; decide), fun _ _ => hr, fun _ _ => hm, .inl hs⟩, fun e => absurd rfl e⟩
    have : cr 2 E.stage = 81 := by rw [h4]; rfl
    rw [this]
    exact h
theorem doNext_cp {cf : Cf} {K : Nat} {E : Ed} (hc : Cok cf) (h : Good cf K 2 E) (hs : E.state = 0) (h3 : E.stage = 3 ∨ E.stage = 4) (hr : ∀ x, cf.cmds[E.at']? = some x → x.kind = 3 ∨ x.kind = 4) (join : Bool) : Cp cf K E.more E.looked (E.doNext cf join) := by
  have hlt := h.lt rfl
  rw [doNext_eq]
  rcases h3 with h3 | h4
  · have hiv := h.iv
    have e2 : cr 2 E.stage = 482 := by rw [h3]; rfl
    rw [e2] at hiv
    split
    · exact ⟨by simp, fun _ => rest_2 h, fun e => absurd rfl e⟩
    · rename_i hk
      split
      · exact ⟨by simp, fun e => by simp at e, fun _ => ⟨good_3 (hiv.less (by omega)), .inl ⟨rfl, rfl⟩⟩⟩
      · rename_i hm
        have hm2 : E.more = true := by
          cases hmm : E.more with
          | true => rfl
          | false => exact absurd ⟨h3, hmm⟩ hm
        rw [hm2]
        rcases bool_or join with hj | hj <;> subst hj
        · exact nextTail_cp (E := { E with stage := 4 }) hc ((hiv.less (by omega : 81 ≤ 482)).upd E.at' 4 E.state E.put hiv.at') hs hlt rfl hm2 hr true
        · have i1 : Iv cf K 401 (E.printSpace cf) := hiv.printSpace
          have i2 := i1.printComing
          obtain ⟨a1, a2, a3, a4, a5⟩ := printSpace_more cf E
          obtain ⟨b1, b2, b3, b4, b5⟩ := printComing_more (E.printSpace cf)
          exact nextTail_cp (E := { (E.printSpace cf).printComing with stage := 4 }) hc ((i2.less (by omega : 81 ≤ 401)).upd _ 4 _ _ i2.at') (by show (E.printSpace cf).printComing.state = 0; rw [b3, a3]; exact hs) (by show (E.printSpace cf).printComing.at' < _; rw [b4, a4]; exact hlt) rfl (by show (E.printSpace cf).printComing.more = true; rw [b1, a1]; exact hm2) (fun x hx => hr x (by rw [← a4, ← b4]; exact hx)) false
  · have hm := h.mr rfl h4
    have e2 : cr 2 E.stage = 81 := by rw [h4]; rfl
    have hiv := h.iv
    rw [e2] at hiv
    rw [if_neg (by omega), if_neg (by omega), if_neg (by omega), hm]
    exact nextTail_cp hc hiv hs hlt h4 hm hr join
theorem dropLine_size {t t' : ByteArray} (h : dropLine t = some t') : t'.size ≤ t.size := by
  unfold dropLine at h
  split at h
  · cases h; exact extract_size_le _ _ _
  · cases h
theorem doIt_cp {mf : Mf} {cf : Cf} {K : Nat} {E : Ed} {x : Cm} (hc : Cok cf) (hK : K ≤ 2000000) (h : Good cf K 2 E) (hs : E.state = 0) (h3 : E.stage = 3 ∨ E.stage = 4) (hx : cf.cmds[E.at']? = some x) : Cp cf K E.more E.looked (E.doIt mf cf x) := by
  have hlt := h.lt rfl
  have ok := hc.cm _ _ hx
  have h81 : Iv cf K 81 E := h.iv.less (by rcases h3 with e | e <;> rw [e] <;> decide)
  have hS : Sml cf E := h.iv.sml hc hK
  by_cases hk34 : x.kind = 3 ∨ x.kind = 4
  · have e : E.doIt mf cf x = E.doNext cf (decide (x.kind = 4)) := by rw [Ed.doIt, if_neg (by omega), if_neg (by omega), if_neg (by omega), if_pos hk34]
    rw [e]
    exact doNext_cp hc h hs h3 (fun y hy => by rw [hx] at hy; cases hy; exact hk34) _
  · have h3' : E.stage = 3 := by
      rcases h3 with e | e
      · exact e
      · exact absurd (h.rd rfl e x hx) hk34
    have hiv := h.iv
    have e2 : cr 2 E.stage = 482 := by rw [h3']; rfl
    rw [e2] at hiv
    have same : (E.more = E.more ∧ E.looked = E.looked) ∨ (E.more = true ∧ E.more = false) := .inl ⟨rfl, rfl⟩
    by_cases k1 : x.kind = 1
    · rw [Ed.doIt, if_pos k1]
      exact ⟨by simp, fun e => by simp at e, fun _ => ⟨good_4 (hiv.less (by omega)), same⟩⟩
    by_cases k2 : x.kind = 2
    · have e : E.doIt mf cf x = E.doD := by rw [Ed.doIt, if_neg k1, if_pos k2]; rfl
      rw [e]
      cases hd : dropLine E.pat with
      | none =>
        rw [doD_none hd]
        exact ⟨by simp, fun e => by simp at e, fun _ => ⟨good_4 (hiv.less (by omega)), same⟩⟩
      | some t =>
        rw [doD_some hd]
        have ht := dropLine_size hd
        have hp := hiv.pat
        have i1 := ((h81.pat' t (by omega)).printComing)
        obtain ⟨b1, b2, b3, b4, b5⟩ := printComing_more { E with pat := t }
        refine ⟨by simp, fun e => by simp at e, fun _ => ⟨good_1 (i1.upd 0 _ _ _ (Nat.zero_le _)) ?_, .inl ⟨b1, b2⟩⟩⟩
        show ({ E with pat := t } : Ed).printComing.state = 0
        rw [b3]
        exact hs
    by_cases k16 : x.kind = 16
    · rw [Ed.doIt, if_neg k1, if_neg k2, if_pos k16]
      have i1 : Iv cf K 81 (E.print x.text) := hiv.kp (kp_print hS _ ok.tx)
      exact ⟨by simp, fun e => by simp at e, fun _ => ⟨good_4 (i1.less (by omega)), same⟩⟩
    by_cases k13 : x.kind = 13
    · rw [Ed.doIt, if_neg k1, if_neg k2, if_neg k16, if_neg hk34, if_pos k13]
      exact ⟨by simp, fun e => by simp at e, fun _ => ⟨good_3 (h81.upd E.at' E.stage 2 E.put hiv.at'), same⟩⟩
    by_cases k17 : x.kind = 17
    · rw [Ed.doIt, if_neg k1, if_neg k2, if_neg k16, if_neg hk34, if_neg k13, if_pos k17]
      exact cp_jump h81 hs ok.gl same
    by_cases k18 : x.kind = 18
    · rw [Ed.doIt, if_neg k1, if_neg k2, if_neg k16, if_neg hk34, if_neg k13, if_neg k17, if_pos k18]
      split
      · exact cp_jump (h81.upd E.at' E.stage E.state false hiv.at') hs ok.gl same
      · exact cp_jump h81 hs (by omega) same
    have e : E.doIt mf cf x = match E.edit mf cf x with | none => E.stop 4 | some E1 => E1.jump (E1.at' + 1) := by rw [Ed.doIt, if_neg k1, if_neg k2, if_neg k16, if_neg hk34, if_neg k13, if_neg k17, if_neg k18]; rfl
    rw [e]
    cases he : E.edit mf cf x with
    | none => exact ⟨by simp [Ed.stop], fun _ => rest_off (h81.upd E.at' E.stage 4 E.put hiv.at') (by simp [Ed.stop]), fun e => absurd rfl e⟩
    | some E1 =>
      have kp := edit_kp hS ok he
      have i1 : Iv cf K 81 E1 := hiv.kp kp
      exact cp_jump i1 (by rw [kp.state]; exact hs) (by rw [kp.at']; omega) (.inl ⟨more_of kp.next kp.whole, kp.looked⟩)
theorem choose_cp {mf : Mf} {cf : Cf} {K : Nat} {E : Ed} {x : Cm} (hc : Cok cf) (hK : K ≤ 2000000) (h : Good cf K 2 E) (hs : E.state = 0) (h2 : 2 ≤ E.stage) (hx : cf.cmds[E.at']? = some x) : Cp cf K E.more E.looked (E.choose mf cf x) := by
  have hlt := h.lt rfl
  have ok := hc.cm _ _ hx
  by_cases e2 : E.stage = 2
  · rw [choose_2 e2]
    obtain ⟨oo, hse, hol⟩ := selects_same mf E x
    rcases hsr : E.selects mf x with ⟨E2, sel, kn⟩
    rw [hsr] at hse
    have hse2 : E2 = { E with opn := oo } := hse
    subst hse2
    have hiv := h.iv
    have ec : cr 2 E.stage = 482 := by rw [e2]; rfl
    rw [ec] at hiv
    simp only
    have i1 := hiv.opn' oo hol
    by_cases hk : kn = false
    · rw [if_pos hk]
      refine ⟨by simp, fun _ => rest_2 ⟨by show Iv cf K (cr 2 E.stage) _; rw [ec]; exact i1, fun _ => hlt, fun _ => h.st rfl, fun _ e => by simp only at e; omega, fun _ e => by simp only at e; omega, .inl hs⟩, fun e => absurd rfl e⟩
    · rw [if_neg hk]
      by_cases hn : sel = x.neg
      · rw [if_pos hn]
        refine cp_jump (i1.less (by omega)) hs ?_ (.inl ⟨rfl, rfl⟩)
        split
        · exact ok.gl
        · first | omega | (simp only; omega)
      · rw [if_neg hn]
        have g : Good cf K 2 { E with opn := oo, stage := 3 } := ⟨i1.upd E.at' 3 E.state E.put i1.at', fun _ => hlt, fun _ => by simp, fun _ e => by simp at e, fun _ e => by simp at e, .inl hs⟩
        exact doIt_cp (E := { E with opn := oo, stage := 3 }) hc hK g hs (.inl rfl) hx
  · rw [choose_n e2]
    have := (h.st rfl).2
    exact doIt_cp hc hK h hs (by omega) hx
theorem command_cp {mf : Mf} {cf : Cf} {K : Nat} {E : Ed} (hc : Cok cf) (hK : K ≤ 2000000) (h : Good cf K 2 E) : (E.command mf cf).2 ≤ 4 ∧ ((E.command mf cf).2 = 0 → Rest cf K (E.command mf cf).1) ∧ ((E.command mf cf).2 ≠ 0 → Good cf K (lbl (E.command mf cf).2) (nx (E.command mf cf)) ∧ mu cf (lbl (E.command mf cf).2) (nx (E.command mf cf)) < mu cf 2 E) := by
  have hlt := h.lt rfl
  have hs : E.state = 0 := by rcases h.run with e | e | e <;> first | exact e | omega
  obtain ⟨x, hx⟩ : ∃ x, cf.cmds[E.at']? = some x := ⟨cf.cmds[E.at'], List.getElem?_eq_getElem hlt⟩
  have eg : cf.cmds.getD E.at' noCm = x := by rw [List.getD, hx]; rfl
  have hlf := h.iv.looked
  have hfu := hc.fuel
  have fin : ∀ (lk : Nat) (r : Ed × Nat), Cp cf K E.more lk r → E.looked ≤ lk → (E.stage = 1 → E.looked < lk ∧ lk ≤ cf.fuel) → r.2 ≤ 4 ∧ (r.2 = 0 → Rest cf K r.1) ∧ (r.2 ≠ 0 → Good cf K (lbl r.2) (nx r) ∧ mu cf (lbl r.2) (nx r) < mu cf 2 E) := by
    intro lk r hr hl1 hl2
    refine ⟨hr.le, hr.rest, fun hne => ⟨(hr.on hne).1, ?_⟩⟩
    have hle := hr.le
    have hl := (hr.on hne).1.iv.looked
    have hlb : lbl r.2 = 1 ∨ lbl r.2 = 3 ∨ lbl r.2 = 4 := by unfold lbl; split; exact .inl rfl; split; exact .inr (.inr rfl); exact .inr (.inl rfl)
    unfold mu
    have r1 : (if lbl r.2 = 0 then 0 else if lbl r.2 = 4 then 1 else if lbl r.2 = 3 then 2 else if lbl r.2 = 2 then (if (nx r).stage = 1 then 3 else 5) else 4) ≤ 4 := by
      rcases hlb with e | e | e <;> rw [e] <;> simp
    generalize (if lbl r.2 = 0 then 0 else if lbl r.2 = 4 then 1 else if lbl r.2 = 3 then 2 else if lbl r.2 = 2 then (if (nx r).stage = 1 then 3 else 5) else 4) = X at r1 ⊢
    rw [if_neg (by omega : ¬ (2 : Nat) = 0), if_neg (by omega : ¬ (2 : Nat) = 4), if_neg (by omega : ¬ (2 : Nat) = 3), if_pos (rfl : (2 : Nat) = 2)]
    rcases (hr.on hne).2 with ⟨m1, m2⟩ | ⟨m1, m2⟩
    · rw [m1, m2]
      by_cases h1 : E.stage = 1
      · have := hl2 h1
        rw [if_pos h1]
        omega
      · rw [if_neg h1]
        omega
    · rw [m1, m2, if_neg (by simp : ¬ (false = true)), if_pos rfl]
      split <;> omega
  rw [Ed.command]
  simp only [eg]
  by_cases h1 : E.stage = 1
  · rw [if_pos h1]
    have hiv := h.iv
    have ec : cr 2 E.stage = 81 := by rw [h1]; rfl
    rw [ec] at hiv
    by_cases hl : E.looked = cf.fuel
    · rw [if_pos hl]
      exact ⟨by simp [Ed.stop], fun _ => rest_off (hiv.upd E.at' E.stage 5 E.put hiv.at') (by simp [Ed.stop]), fun e => absurd rfl e⟩
    · rw [if_neg hl]
      have i1 : Iv cf K 482 { E with looked := E.looked + 1, stage := 2 } := ⟨hiv.pat, hiv.hold, hiv.com, hiv.opn, by simp only; omega, hiv.at', hiv.num, hiv.next, by have := hiv.pot; simp only; omega, hiv.taken⟩
      have g : Good cf K 2 { E with looked := E.looked + 1, stage := 2 } := ⟨i1, fun _ => hlt, fun _ => by simp, fun _ e => by simp at e, fun _ e => by simp at e, .inl hs⟩
      exact fin (E.looked + 1) _ (choose_cp hc hK g hs (by simp) hx) (by omega) (fun _ => ⟨by omega, by omega⟩)
  · rw [if_neg h1]
    have hst := h.st rfl
    exact fin E.looked _ (choose_cp hc hK h hs (by omega) hx) (Nat.le_refl _) (fun e => absurd e h1)
end Ee
end Go.Proofs.YtppjlpihaocdiaaGreatDoor

