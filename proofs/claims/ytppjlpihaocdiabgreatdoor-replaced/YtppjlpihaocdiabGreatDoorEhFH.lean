/- A part of the proof. -/
import Derived.Test.YtppjlpihaocdiabGreatDoorEhEH
set_option linter.unusedSimpArgs false
set_option linter.unusedVariables false
namespace Go.Proofs.YtppjlpihaocdiabGreatDoor
namespace Ee
open Rs (Cm Wh Pc readR)
theorem byt_txt (l : List UInt8) (q : Nat) : byt (txt l) q = (l.getD q 0).toNat := by simp [byt, txt]
theorem row_extract (l : List UInt8) (a b : Nat) : (txt l).extract a b = txt ((l.take b).drop a) := by
  apply ByteArray.ext
  apply Array.ext'
  simp [txt, ByteArray.data_extract, Array.toList_extract, List.extract_eq_take_drop, List.drop_take]
theorem join_two (p l : List UInt8) : txt p ++ newline ++ txt l = txt (p ++ 10 :: l) := by
  have e : newline = txt [10] := rfl
  rw [e, txt_append, txt_append]
  simp
section
variable {mf : Mf}
end
end Ee
end Go.Proofs.YtppjlpihaocdiabGreatDoor
