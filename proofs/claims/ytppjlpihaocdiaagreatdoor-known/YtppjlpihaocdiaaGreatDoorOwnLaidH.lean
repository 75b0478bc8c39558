/- A part of the proof. -/
import Derived.Test.YtppjlpihaocdiaaGreatDoorRows
import Derived.Test.YtppjlpihaocdiaaGreatDoorEhEH
import Derived.WalkKit
import Derived.ProofKit
import Derived.OpenShut
import Derived.ShutString
import Derived.ChangeSlices
import Derived.Carry
import Derived.Deep.DeepHandedRow
import Derived.Lib.LaidTab
import Derived.Lib.SmallJoins
import Derived.LaidSub
import Derived.MakeChecks
import Derived.Stop.LaidErr
set_option linter.unusedSimpArgs false
set_option linter.unusedVariables false
set_option maxRecDepth 100000
namespace Go.Proofs.YtppjlpihaocdiaaGreatDoor
namespace Ee
open Go.ChangeShapes Go.WideShapes Go.ChangeAt Go.RowKit
open Go.ChangeMaps (open_string shut_string)
theorem own_knob : ownKnob Tryz.prog.godebug = none := by kernel_rfl
theorem cells_u64 : Tryz.prog.cellsOf 147 = 1 := by kernel_rfl
theorem cells_p10 : Tryz.prog.cellsOf 311 = 20 := by kernel_rfl
theorem g_p10 : Tryz.prog.globalNamed "internal/strconv.uint64pow10" = some 1 := by kernel_rfl
theorem g_type : (Tryz.prog.globals[1]?).map (·.type) = some 311 := by kernel_rfl
def listed : List (String × DataW Unit) := [("math/bits.deBruijn32tab", Rows.laid_math_bits_deBruijn32tab), ("math/bits.deBruijn64tab", Rows.laid_math_bits_deBruijn64tab), ("internal/strconv.uint64pow10", Rows.laid_internal_strconv_uint64pow10)]
theorem p10_eq : (Rows.laid_internal_strconv_uint64pow10 : DataW Unit) = Lib.tabData .u64 Lib.pow10Tab := by rfl
theorem cell_in {w : World} {a : Addr} {v : Value} (h : w.cell? a = some v) : a.block < w.heap.size := by
  unfold World.cell? at h
  by_cases hk : a.block < w.heap.size
  · exact hk
  · have hn : w.heap[a.block]? = none := Array.getElem?_eq_none (by omega)
    simp [hn] at h
theorem tab_of {W : World} (h : laidMetH Tryz.prog listed W) : Tab W := by
  rw [MakeChecks.laidMetH_plain _ _ _ (by kernel_rfl)] at h
  have h2 := (h.tail).tail
  rw [p10_eq] at h2
  have ht := Lib.tabIs_of_head (rest := []) g_p10 g_type Tryz.underlying311 Tryz.underlying147 cells_u64 cells_p10 h2
  refine ⟨ht, fun g hg => ?_⟩
  have hc := ht.cell hg 0 (by decide)
  have hl := cell_in hc
  exact ⟨hl, Nat.not_le.2 hl⟩
def numsOf : DataW Unit → Array Value
  | .agg l => (l.map fun d => match d with | .lit (.int k z) => Value.int k z | _ => Value.bool false).toArray
  | _ => #[]
def layTab (d : DataW Unit) : Obj → Obj
  | .cells _ t frozen => .cells (numsOf d) t frozen
  | o => o
def layAll (w : World) : World :=
  { w with heap := ((w.heap.modify 1 (layTab Rows.laid_internal_strconv_uint64pow10)).modify 2 (layTab Rows.laid_math_bits_deBruijn32tab)).modify 3 (layTab Rows.laid_math_bits_deBruijn64tab) }
theorem laid_met (os : Os) (args : Array Value) : laidMet Tryz.prog listed ((layAll (World.holding Tryz.prog os ⟨#[], #[], []⟩)).forCall (fun _ _ => 0) ⟨#[], args, []⟩).memory :=
  laidMet_of_run' 8 (by kernel_rfl) (by kernel_rfl)
end Ee
end Go.Proofs.YtppjlpihaocdiaaGreatDoor
