/- The document's Pattern: it answers 'Ans'. -/
import Derived.Test.YtppjlpihaocdiaaRefB
set_option linter.unusedSimpArgs false
set_option linter.unusedVariables false
namespace Go.Proofs.Ytppjlpihaocdiaa
open Go.RowKit

set_option maxHeartbeats 1000000 in
theorem refPattern_any (s : ByteArray) (w : World) (hs : s.size ≤ maxLen) :
    Calls Try.prog 9 #[.string s] w fun e w' => ∃ ec p : Int, e = .returned (.tuple #[.int .i64 ec, .int .i64 p]) ∧ Ans s ec p ∧ Below w.heap.size w w' := by
  unfold maxLen at hs
  by_cases h40 : 40 < s.size
  · go_enter Try.func9, Try.ntmps9
    go_wp2_with fail
    go_ret2
    exact ⟨1, 0, rfl, .inl ⟨h40, rfl, rfl⟩, Below.refl _ _⟩
  · have hle : s.size ≤ 40 := by omega
    go_enter Try.func9, Try.ntmps9
    go_wp2_with fail
    go_loopw [5] (fun v wr => ∃ (k : Nat) (st : St), k ≤ s.size ∧ v = .int .i64 k ∧ Hid (run s k = some st) ∧ Wk wr w.heap.size st ∧ Below w.heap.size w wr) (fun v _ => s.size - (intOf v).toNat)
    case atStart => exact ⟨0, ⟨0, 0, 0, 0⟩, Nat.zero_le _, rfl, rfl, by constructor <;> go_simp, (Below.refl _ _).alloc (Nat.le_refl _) _⟩
    case round =>
      obtain ⟨k, st, hk, rfl, HG, hW, hB⟩ := hrel
      have HW : Hid (Wk wr w.heap.size st) := hW
      have HB : Hid (Below w.heap.size w wr) := hB
      clear hW hB
      by_cases hlt : k < s.size
      · have HY : Hid ((s[k]'hlt).toNat = byt s k) := byt_eq s k hlt
        go_wp2_with fail
        refine (step_any w.heap.size st (s[k]'hlt).toNat _ (UInt8.toNat_lt _) (small_run HG.out) HW.out).mono ?_
        rintro e w1 ⟨q, rfl, ho, hd⟩
        have HB1 : Hid (Below w.heap.size w w1) := HB.out.trans ⟨ho.os, ho.tape, ho.output, by rw [ho.size]; exact Nat.le_refl _, fun i hi => ho.block i (by omega)⟩
        clear ho
        rcases hd with ⟨st', hst', rfl, hW'⟩ | ⟨hst', rfl⟩
        · have HG1 : Hid (run s (k + 1) = some st') := by rw [Hid, run_succ HG.out, ← HY.out]; exact hst'
          have HW1 : Hid (Wk w1 w.heap.size st') := hW'
          clear hst' hW'
          go_wp2_with fail
          go_roundw
          case rel => exact ⟨k + 1, st', by omega, by go_num, HG1, HW1.out, HB1.out⟩
          case measure => simp [intOf]; omega
        · have HF : Hid (Fails s k) := ⟨st, HG.out, hk, fun _ => by rw [← HY.out]; exact hst', fun e => by omega⟩
          clear hst'
          go_wp2_with fail
          go_ret2
          exact ⟨2, k, rfl, .inr (.inl ⟨hle, rfl, k, rfl, HF.out⟩), HB1.out⟩
      · have hks : k = s.size := by omega
        subst hks
        go_wp2_with fail
        refine (whole_any w.heap.size st _ HW.out).mono ?_
        rintro e w1 ⟨rfl, hw1⟩
        subst hw1
        rcases bool_or (whole st) with hw | hw
        · have HH : Hid (whole st = true) := hw
          rw [hw]
          clear hw
          go_wp2_with fail
          go_ret2
          exact ⟨0, 0, rfl, .inr (.inr ⟨hle, rfl, rfl, st, HG.out, HH.out⟩), HB.out⟩
        · have HF : Hid (Fails s s.size) := ⟨st, HG.out, Nat.le_refl _, fun h => absurd h (Nat.lt_irrefl _), fun _ => hw⟩
          rw [hw]
          clear hw
          go_wp2_with fail
          go_ret2
          exact ⟨2, s.size, rfl, .inr (.inl ⟨hle, rfl, s.size, rfl, HF.out⟩), HB.out⟩
end Go.Proofs.Ytppjlpihaocdiaa
