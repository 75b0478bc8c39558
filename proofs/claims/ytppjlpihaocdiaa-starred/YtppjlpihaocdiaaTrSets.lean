/- A range within a set, with its ends. -/
import Derived.Test.YtppjlpihaocdiaaTrAdd
set_option linter.unusedSimpArgs false
set_option linter.unusedVariables false
namespace Go.Proofs.Ytppjlpihaocdiaa
namespace Tr
open Go.RowKit

theorem inn_val {s : ByteArray} {i L v j : Nat} (h : InnR s i L v true j) : innV s i = (v, j) := by
  unfold innV
  rcases h with ⟨_, h, _⟩ | ⟨_, h1, h2⟩ | ⟨_, _, h1, h2⟩
  · cases h
  · rw [if_pos h1]
    rcases h2 with ⟨_, h, _⟩ | ⟨_, h, _⟩ | ⟨_, _, h3, _, _, _, h4⟩
    · cases h
    · cases h
    · rw [h3, h4]
  · rw [if_neg h1]
    rcases h2 with ⟨_, h, _⟩ | ⟨_, _, h3, h4⟩
    · cases h
    · rw [h3, h4]

set_option maxHeartbeats 400000 in
theorem between_any (b : Nat) (s : ByteArray) (i : Nat) (st : St) (w : World) (hr : Rc w b s i) (h : run s i = some st) (hm : InPre s i 0 st) (h8 : st.m ≠ 8) :
    Calls Try.prog 135 #[.pointer (some ⟨b, 0, none⟩)] w fun e w' => ∃ (lo hi : Nat) (ok : Bool) (j : Nat), e = .returned (.tuple #[.int .u8 lo, .int .u8 hi, .bool ok]) ∧ Mv b w w' j ∧ (ok = true → lo ≤ 255 ∧ hi ≤ 255 ∧ betV s i = (lo, hi, j)) ∧ BetR s i st ok j := by
  have HR : Hid (Rc w b s i) := hr
  have HG : Hid (run s i = some st) := h
  have HM : Hid (InPre s i 0 st) := hm
  have hle := hr.le
  clear hr h hm
  go_enter Try.func135, Try.ntmps135
  go_wp2_with fail
  refine (inner_any b s i 0 _ HR.out (by omega)).mono ?_
  rintro e w1 ⟨v, ok, j, rfl, hmv, hE⟩
  have HV1 : Hid (ok = true → innV s i = (v, j)) := fun e => by subst e; exact inn_val hE
  have HV : Hid (Mv b w w1 j) := hmv
  rcases inner_walk HG.out hle HM.out hE with ⟨rfl, hij, hjs, hv, hrun⟩ | ⟨rfl, hF⟩
  · rw [if_neg h8] at hrun
    have HJ : Hid (run s j = some ⟨6, st.o, st.a, v⟩) := hrun
    have HR1 : Hid (Rc w1 b s j) := hmv.rc HR.out hjs
    clear hE hmv hrun
    by_cases hd : pk s j = 45
    · have HD : Hid (pk s j = 45) := hd
      have hlt : j < s.size := by
        by_cases hx : j < s.size
        · exact hx
        · rw [pk_out hx] at hd; omega
      have HK : Hid (run s (j + 1) = some ⟨8, st.o, st.a, v⟩) := by
        have e : byt s j = 45 := by rw [pk_in hlt] at hd; omega
        rw [Hid, run_succ HJ.out, step_set (by omega) (by omega), inSet6, e]; rfl
      have HR2 : Hid (Rc (w1.setCell ⟨b, 1, none⟩ (.int .i64 ((j : Int) + 1))) b s (j + 1)) := HR1.out.put (j + 1) (by omega) (by omega)
      clear hd
      go_wp2_with (first | (go_at_call 56; refine (accept_yes b s j 45 _ HR1.out (by omega) HD.out).mono ?_; rintro e w2 ⟨rfl, n, rfl⟩))
      refine (inner_any b s (j + 1) v _ (HR2.out.drewN _) hv).mono ?_
      rintro e w2 ⟨v2, ok2, j2, rfl, hmv2, hE2⟩
      have hm2 : Mv b w w2 j2 := HV.out.trans (((HR1.out.stay.set (j + 1) (by omega)).drewN _).trans hmv2)
      have hB : (ok2 = true → v ≤ 255 ∧ v2 ≤ 255 ∧ betV s i = (v, v2, j2)) ∧ BetR s i st ok2 j2 := by
        rcases inner_walk HK.out (by omega) (.inl ⟨rfl, rfl⟩) hE2 with ⟨rfl, g1, g2, g3, g4⟩ | ⟨rfl, hF⟩
        · exact ⟨fun _ => ⟨hv, g3, by unfold betV; rw [HV1.out (by simp), if_pos HD.out, inn_val hE2]⟩, .inl ⟨rfl, by omega, g2, v2, .inr g4⟩⟩
        · exact ⟨(fun h => absurd h (by simp)), .inr ⟨rfl, hF⟩⟩
      clear hmv2 hE2
      go_wp2_with fail
      go_ret3
      exact ⟨v, v2, ok2, j2, rfl, hm2, hB⟩
    · have HD : Hid (pk s j ≠ 45) := hd
      clear hd
      go_wp2_with (first | (go_at_call 56; refine (accept_no b s j 45 _ HR1.out (by omega) HD.out).mono ?_; rintro e w2 ⟨rfl, n, rfl⟩))
      go_ret3
      exact ⟨v, v, true, j, rfl, HV.out.drewN _, fun _ => ⟨hv, hv, by unfold betV; rw [HV1.out (by simp), if_neg HD.out]⟩, .inl ⟨rfl, hij, hjs, v, .inl ⟨HJ.out, HD.out⟩⟩⟩
  · have HF : Hid (Fails s j) := hF
    clear hF hE hmv
    go_wp2_with fail
    go_ret3
    exact ⟨v, v, false, j, rfl, HV.out, (fun h => absurd h (by simp)), .inr ⟨rfl, HF.out⟩⟩
end Tr
end Go.Proofs.Ytppjlpihaocdiaa
