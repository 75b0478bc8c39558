/- A part of the proof. -/
import Derived.Test.YtppjlpihaocdiaaGreatDoorEdMemH
import Derived.Deep.DeepCutAuto
import Derived.Laws.IdiomStrings
import Derived.Laws.Concat
set_option linter.unusedSimpArgs false
set_option linter.unusedVariables false
namespace Go.Proofs.YtppjlpihaocdiaaGreatDoor
namespace Ee
open Go.RowKit
open Rs (Cm CmAt Pts cmL Keep own_of)
theorem own_form {w : World} {base : Nat} {e : TypeId} {size n : Nat} {v : Value} {xs : List Value} (h : w.ownsRow base e size v n xs) : ∃ ao cap, v = .slice ao n cap := by
  rcases h.2 with ⟨e, e2⟩ | ⟨g, c, _, e, _⟩
  · exact ⟨none, 0, by rw [e, e2]⟩
  · exact ⟨_, _, e⟩
theorem At.cell {w : World} {b : Nat} {cf : Cf} {E : Ed} {v : Ev} (h : At w b cf E v) {k : Nat} {x : Value} (hk : (edL cf E v)[k]? = some x) : w.cell? ⟨b, k, none⟩ = some x := h.row.cell hk
theorem At.frz {w : World} {b : Nat} {cf : Cf} {E : Ed} {v : Ev} (h : At w b cf E v) (k : Nat) (hk : k < 21) : w.frozen? ⟨b, k, none⟩ = false := h.row.frozen (by rw [edL_length]; exact hk)
def Says (w : World) (x : Value) (e : Ending) (w' : World) : Prop := e = .returned x ∧ ∃ n, w' = w.drewN n
set_option maxHeartbeats 1000000 in
theorem tooLong_any (b : Nat) (cf : Cf) (E : Ed) (v : Ev) (w : World) (h : At w b cf E v) : Calls Tryz.prog 165 #[.pointer (some ⟨b, 0, none⟩)] w (Says w (.bool (E.tooLong cf))) := by
  have m0 := h.cell (k := 0) rfl
  have m1 := h.cell (k := 1) rfl
  obtain ⟨ao, cap, e⟩ := own_form h.nx
  rw [e] at m1
  have HQ : Hid (E.tooLong cf = decide (cf.line < E.next.length)) := rfl
  by_cases hq : cf.line < E.next.length
  · have HD : Hid (E.tooLong cf = true) := by rw [Hid, HQ.out]; simpa using hq
    have q1 : decide ((E.next.length : Int) > (cf.line : Int)) = true := by simp; omega
    have q2 : decide (cf.line < E.next.length) = true := by simp; omega
    clear h hq HQ e
    go_enter Tryz.func165, Tryz.ntmps165
    go_wp2_with fail
    go_region
    go_wp2_with fail
    go_ret
    exact ⟨(by rw [HD.out]; rfl), 1, rfl⟩
  · have HD : Hid (E.tooLong cf = false) := by rw [Hid, HQ.out]; simpa using hq
    have q1 : decide ((E.next.length : Int) > (cf.line : Int)) = false := by simp; omega
    have q2 : decide (cf.line < E.next.length) = false := by simp; omega
    clear h hq HQ e
    go_enter Tryz.func165, Tryz.ntmps165
    go_wp2_with fail
    go_region
    go_wp2_with fail
    go_ret
    exact ⟨(by rw [HD.out]; rfl), 1, rfl⟩
set_option maxHeartbeats 1000000 in
theorem more_any (b : Nat) (cf : Cf) (E : Ed) (v : Ev) (w : World) (h : At w b cf E v) : Calls Tryz.prog 116 #[.pointer (some ⟨b, 0, none⟩)] w (Says w (.tuple #[.bool E.more, .bool E.known])) := by
  have m1 := h.cell (k := 1) rfl
  have m2 := h.cell (k := 2) rfl
  have m3 := h.cell (k := 3) rfl
  obtain ⟨ao, cap, e⟩ := own_form h.nx
  rw [e] at m1
  have HM : Hid (E.more = (E.whole || decide (E.next ≠ []))) := rfl
  have HK : Hid (E.known = (E.more || E.ended)) := rfl
  have hl : decide (E.next ≠ []) = decide (0 < E.next.length) := by
    rw [decide_eq_decide, List.length_pos_iff]
  have HL : Hid (decide (E.next ≠ []) = decide (0 < E.next.length)) := hl
  clear h e hl
  generalize E.next.length = n at m1 HL
  generalize hwh : E.whole = wh at m2 HM
  generalize hen : E.ended = en at m3 HK
  clear hwh hen
  have HA : Hid (E.more = (wh || decide (0 < n))) := by rw [Hid, HM.out, HL.out]
  clear HM HL
  by_cases hn : 0 < n
  · have q1 : decide ((n : Int) > 0) = true := by simp; omega
    have HA2 : Hid (E.more = true) := by rw [Hid, HA.out]; simp [hn]
    have HK2 : Hid (E.known = true) := by rw [Hid, HK.out, HA2.out]; rfl
    rcases bool_or wh with hw | hw <;> subst hw
    all_goals (
      go_enter Tryz.func116, Tryz.ntmps116
      go_wp2_with fail
      go_region
      all_goals go_wp2_with fail
      all_goals go_ret2
      all_goals exact ⟨(by rw [HA2.out, HK2.out]; rfl), 1, rfl⟩)
  · have q1 : decide ((n : Int) > 0) = false := by simp; omega
    have HA2 : Hid (E.more = wh) := by rw [Hid, HA.out]; simp [hn]
    rcases bool_or wh with hw | hw <;> subst hw
    · have HK2 : Hid (E.known = true) := by rw [Hid, HK.out, HA2.out]; rfl
      go_enter Tryz.func116, Tryz.ntmps116
      go_wp2_with fail
      go_region
      all_goals go_wp2_with fail
      all_goals go_ret2
      all_goals exact ⟨(by rw [HA2.out, HK2.out]; rfl), 1, rfl⟩
    · have HK2 : Hid (E.known = en) := by rw [Hid, HK.out, HA2.out]; rfl
      go_enter Tryz.func116, Tryz.ntmps116
      go_wp2_with fail
      go_region
      all_goals go_wp2_with fail
      all_goals go_ret2
      all_goals exact ⟨(by rw [HA2.out, HK2.out]; rfl), 1, rfl⟩
set_option maxHeartbeats 1000000 in
theorem atHand_any (b : Nat) (cf : Cf) (E : Ed) (v : Ev) (w : World) (h : At w b cf E v) : Calls Tryz.prog 115 #[.pointer (some ⟨b, 0, none⟩)] w (Says w (.bool (E.atHand cf))) := by
  have HA : Hid (At w b cf E v) := h
  have m2 := h.cell (k := 2) rfl
  have m3 := h.cell (k := 3) rfl
  have HM : Hid (E.atHand cf = (E.whole || E.ended || E.tooLong cf)) := rfl
  clear h
  generalize hwh : E.whole = wh at m2 HM
  generalize hen : E.ended = en at m3 HM
  clear hwh hen
  rcases bool_or wh with hw | hw <;> subst hw
  · have HM2 : Hid (E.atHand cf = true) := by rw [Hid, HM.out]; rfl
    go_enter Tryz.func115, Tryz.ntmps115
    go_wp2_with fail
    go_ret
    exact ⟨(by rw [HM2.out]; rfl), 0, rfl⟩
  · rcases bool_or en with hw | hw <;> subst hw
    · have HM2 : Hid (E.atHand cf = true) := by rw [Hid, HM.out]; rfl
      go_enter Tryz.func115, Tryz.ntmps115
      go_wp2_with fail
      go_ret
      exact ⟨(by rw [HM2.out]; rfl), 0, rfl⟩
    · have HM2 : Hid (E.atHand cf = E.tooLong cf) := by rw [Hid, HM.out]; rfl
      go_enter Tryz.func115, Tryz.ntmps115
      go_wp2_with fail
      refine (tooLong_any b cf E v _ HA.out).mono ?_
      rintro e w1 ⟨rfl, n, rfl⟩
      go_wp2_with fail
      go_ret
      exact ⟨(by rw [HM2.out]; rfl), n, rfl⟩
set_option maxHeartbeats 1000000 in
theorem takes_any (b : Nat) (cf : Cf) (E : Ed) (v : Ev) (w : World) (h : At w b cf E v) : Calls Tryz.prog 48 #[.pointer (some ⟨b, 0, none⟩)] w (Says w (.bool E.takes)) := by
  have m3 := h.cell (k := 3) rfl
  have m20 := h.cell (k := 20) rfl
  have HM : Hid (E.takes = (decide (E.state = 0) && !E.ended)) := rfl
  clear h
  generalize E.state = st at m20 HM
  generalize E.ended = en at m3 HM
  by_cases h0 : st = 0
  · subst h0
    have HM2 : Hid (E.takes = !en) := by rw [Hid, HM.out]; simp
    go_enter Tryz.func48, Tryz.ntmps48
    go_wp2_with fail
    go_ret
    exact ⟨(by rw [HM2.out]; rfl), 0, rfl⟩
  · have HM2 : Hid (E.takes = false) := by rw [Hid, HM.out]; simp [h0]
    have q1 : ((st : Int) == 0) = false := by simp; omega
    clear h0 HM
    go_enter Tryz.func48, Tryz.ntmps48
    go_wp2_with fail
    go_ret
    exact ⟨(by rw [HM2.out]; rfl), 0, rfl⟩
end Ee
end Go.Proofs.YtppjlpihaocdiaaGreatDoor
