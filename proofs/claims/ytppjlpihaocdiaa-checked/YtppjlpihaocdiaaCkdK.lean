/- Check: the program's answer is the document's. -/
import Derived.Test.YtppjlpihaocdiaaSChkK
import Derived.Test.YtppjlpihaocdiaaSm8K
set_option linter.unusedSimpArgs false
set_option linter.unusedVariables false
namespace Go.Proofs.Ytppjlpihaocdiaa
namespace Sk
open Go.RowKit

set_option maxHeartbeats 1000000 in
theorem pcheck_any (s : ByteArray) (w : World) (hs : s.size ≤ maxLen) :
    Calls Try.prog 11 #[.string s] w fun e w' => ∃ ec p : Int, e = .returned (.tuple #[.int .i64 ec, .int .i64 p]) ∧ SAns s ec p ∧ Below w.heap.size w w' := by
  have HA : Hid (SAns s ((Rs.readR s).2.1 : Int) (Rs.readR s).2.2) := Sm.read_ans s
  have HR := Rs.read_any s w hs
  go_enter Try.func11, Try.ntmps11
  go_wp2_with fail
  refine HR.mono ?_
  rintro e w1 ⟨v, rfl, hb, _⟩
  have HB : Hid (Below w.heap.size w w1) := hb
  clear hb HR
  generalize ((Rs.readR s).2.1 : Int) = ec at HA ⊢
  generalize (Rs.readR s).2.2 = p at HA ⊢
  go_wp2_with fail
  go_ret2
  exact ⟨ec, p, rfl, HA.out, HB.out⟩

set_option maxHeartbeats 1000000 in
theorem checked_true (s : ByteArray) (w : World) (hs : s.size ≤ maxLen) :
    Calls Try.prog 5 #[.string s] w fun e w' => e = .returned (.bool true) ∧ Below w.heap.size w w' := by
  go_enter Try.func5, Try.ntmps5
  go_wp2_with fail
  refine (pcheck_any s w hs).mono ?_
  rintro e w1 ⟨ec, p, rfl, ha, hb⟩
  have HA : Hid (SAns s ec p) := ha
  have HB : Hid (Below w.heap.size w w1) := hb
  clear ha hb
  go_wp2_with fail
  refine (check_any s w1 hs).mono ?_
  rintro e w2 ⟨ec2, p2, rfl, ha, hb⟩
  obtain ⟨rfl, rfl⟩ := HA.out.unique ha
  have HB2 : Hid (Below w.heap.size w w2) := HB.out.trans (hb.mono HB.out.size)
  clear ha hb
  go_wp2_with fail
  go_ret
  exact ⟨rfl, HB2.out⟩
end Sk
end Go.Proofs.Ytppjlpihaocdiaa
