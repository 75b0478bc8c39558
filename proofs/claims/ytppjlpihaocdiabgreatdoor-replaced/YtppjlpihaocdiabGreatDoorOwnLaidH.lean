/- A part of the proof. -/
import Derived.Test.YtppjlpihaocdiabGreatDoorRows
import Derived.Test.YtppjlpihaocdiabGreatDoorEgGH
import Derived.WalkKit
import Derived.ProofKit
import Derived.OpenShut
import Derived.ShutString
import Derived.ChangeSlices
import Derived.Carry
import Derived.Deep.DeepHandedRow
import Derived.Lib.LaidTab
import Derived.Lib.SmallJoins
import Derived.LaidSub
import Derived.MakeChecks
import Derived.Stop.LaidErr
set_option linter.unusedSimpArgs false
set_option linter.unusedVariables false
set_option maxRecDepth 100000
namespace Go.Proofs.YtppjlpihaocdiabGreatDoor
namespace Ee
open Go.ChangeShapes Go.WideShapes Go.ChangeAt Go.RowKit
open Go.ChangeMaps (open_string shut_string)
theorem own_knob : ownKnob Tryz.prog.godebug = none := by kernel_rfl
theorem laid_out : laidOutB Tryz.prog = true := by kernel_rfl
theorem cells_int : Tryz.prog.cellsOf 3 = 1 := by kernel_rfl
theorem cells_u64 : Tryz.prog.cellsOf 158 = 1 := by kernel_rfl
theorem cells_p10 : Tryz.prog.cellsOf 200 = 20 := by kernel_rfl
theorem cells_lim : Tryz.prog.cellsOf 30 = 4 := by kernel_rfl
theorem g_p10 : Tryz.prog.globalNamed "internal/strconv.uint64pow10" = some 1 := by kernel_rfl
theorem g_type : (Tryz.prog.globals[1]?).map (·.type) = some 200 := by kernel_rfl
def listed : List (String × DataW Unit) := [("math/bits.deBruijn32tab", Rows.laid_math_bits_deBruijn32tab), ("math/bits.deBruijn64tab", Rows.laid_math_bits_deBruijn64tab), ("internal/strconv.uint64pow10", Rows.laid_internal_strconv_uint64pow10)]
theorem p10_eq : (Rows.laid_internal_strconv_uint64pow10 : DataW Unit) = Lib.tabData .u64 Lib.pow10Tab := by rfl
theorem cell_in {w : World} {a : Addr} {v : Value} (h : w.cell? a = some v) : a.block < w.heap.size := by
  unfold World.cell? at h
  by_cases hk : a.block < w.heap.size
  · exact hk
  · have hn : w.heap[a.block]? = none := Array.getElem?_eq_none (by omega)
    simp [hn] at h
theorem tab_of {W : World} (h : laidMetH Tryz.prog listed W) : Tab W := by
  rw [MakeChecks.laidMetH_plain _ _ _ (by kernel_rfl)] at h
  have h2 := (h.tail).tail
  rw [p10_eq] at h2
  have ht := Lib.tabIs_of_head (rest := []) g_p10 g_type Tryz.underlying200 Tryz.underlying158 cells_u64 cells_p10 h2
  refine ⟨ht, fun g hg => ?_⟩
  have hc := ht.cell hg 0 (by decide)
  have hl := cell_in hc
  exact ⟨hl, Nat.not_le.2 hl⟩
def numsOf : DataW Unit → Array Value
  | .agg l => (l.map fun d => match d with | .lit (.int k z) => Value.int k z | _ => Value.bool false).toArray
  | _ => #[]
def layTab (d : DataW Unit) : Obj → Obj
  | .cells _ t frozen => .cells (numsOf d) t frozen
  | o => o
def layAll (w : World) : World :=
  { w with heap := ((w.heap.modify 1 (layTab Rows.laid_internal_strconv_uint64pow10)).modify 2 (layTab Rows.laid_math_bits_deBruijn32tab)).modify 3 (layTab Rows.laid_math_bits_deBruijn64tab) }
theorem laid_met (os : Os) (args : Array Value) : laidMet Tryz.prog listed ((layAll (World.holding Tryz.prog os ⟨#[], #[], []⟩)).forCall (fun _ _ => 0) ⟨#[], args, []⟩).memory :=
  laidMet_of_run' 8 (by kernel_rfl) (by kernel_rfl)
theorem bulk_mem {H : Type} {d : DataW H} : ∀ {l : List (DataW H)}, d ∈ l → Rows.uptoBulk d ≤ Rows.uptoBulkAll l
  | [], h => by cases h
  | x :: r, h => by
    simp only [Rows.uptoBulkAll]
    rcases List.mem_cons.1 h with rfl | e
    · omega
    · have := bulk_mem e
      omega
theorem bulk_lits {H : Type} (k : IntKind) (l : List Int) : Rows.uptoBulkAll (lits k l : List (DataW H)) = l.length := by
  induction l with
  | nil => rfl
  | cons a l ih =>
    have e : (lits k (a :: l) : List (DataW H)) = .lit (.int k a) :: lits k l := rfl
    rw [e]
    simp only [Rows.uptoBulkAll, Rows.uptoBulk, ih, List.length_cons]
    omega
theorem bulk_of {H : Type} {l : List (DataW H)} (hk : Rows.uptoSmall H l = true) : Rows.uptoBulkAll l ≤ 1048576 := of_decide_eq_true hk
theorem open_row {H : Type} {enc : TypeId × Value → H} {W : World} {base : Nat} {v : Value} {d : DataW H} {p : List MemPlace} (hv : Value.okWide Tryz.prog W .any base 157 v) (h : DataW.Trod enc Tryz.prog W 0 (fun _ => true) true 157 v d p) (hb : Rows.uptoBulk d ≤ 1048576) : ∃ ao n cp, v = .slice ao n cp ∧ Ints W ao n := by
  obtain ⟨a1, len, cap, rfl⟩ := okWide_slice Tryz.underlying157 hv
  refine ⟨a1, len, cap, rfl, ?_⟩
  obtain ⟨fuel, hf⟩ := h
  rcases open_ints Tryz.underlying157 Tryz.underlying3 cells_int hf with ⟨hcs, hx⟩ | ⟨a, len', cap', zs, hcs, _, hl, hm, hz, hx, hcell, hws⟩
  · simp [Value.cells] at hcs
    obtain ⟨rfl, rfl, rfl⟩ := hcs
    exact ⟨fun h => absurd h (by omega), by omega⟩
  · simp [Value.cells] at hcs
    obtain ⟨rfl, rfl, rfl⟩ := hcs
    simp only [if_true] at hz
    have hd : d = .slice (lits .i64 (zs.take len)) (lits .i64 (zs.drop len)) := (Prod.mk.inj hx).1
    subst hd
    simp only [Rows.uptoBulk, bulk_lits, List.length_take, List.length_drop] at hb
    refine ⟨fun h0 => ?_, by omega⟩
    obtain ⟨b, off, spot⟩ := a
    have hspot : spot = none := by simpa [Addr.add] using World.cell?_spot (hcell 0 (by omega))
    subst hspot
    refine ⟨b, off, rfl, cell_in (hcell 0 (by omega)), fun i hi => ⟨zs.getD i 0, ?_⟩⟩
    have hi' : i < zs.length := by omega
    have hmem : zs.getD i 0 ∈ zs := by
      rw [List.getD_eq_getElem?_getD, List.getElem?_eq_getElem hi']
      exact List.getElem_mem hi'
    have hw := hws _ hmem
    have hc := hcell i hi'
    rw [add_plain] at hc
    have hmin : IntKind.i64.min = -9223372036854775808 := by decide
    have hmax : IntKind.i64.max = 9223372036854775807 := by decide
    simp only [Lit.wf, Bool.and_eq_true, decide_eq_true_eq, hmin, hmax] at hw
    exact ⟨hw.1, hw.2, hc⟩
theorem open_limits {H : Type} {enc : TypeId × Value → H} {W : World} {base : Nat} {v : Value} {d : DataW H} {p : List MemPlace} (hv : Value.okWide Tryz.prog W .any base 30 v) (h : DataW.Trod enc Tryz.prog W 0 (fun _ => true) true 30 v d p) : ∃ (a b c : Int) (q : Bool), v = .agg #[.int .i64 a, .int .i64 b, .int .i64 c, .bool q] ∧ p = [] := by
  obtain ⟨v0, v1, v2, v3, y0, y1, y2, y3, n, rfl, -, hp, h0, h1, h2, h3⟩ := Joins.open_agg4 Tryz.underlying30 (by kernel_rfl) cells_lim hv h
  obtain ⟨a, e0, rfl, _⟩ := DataW.trod_int Tryz.underlying3 h0
  obtain ⟨b, e1, rfl, _⟩ := DataW.trod_int Tryz.underlying3 h1
  obtain ⟨c, e2, rfl, _⟩ := DataW.trod_int Tryz.underlying3 h2
  obtain ⟨q, e3, rfl⟩ := DataW.trod_bool Tryz.underlying4 h3
  simp at e0 e1 e2 e3
  subst e0 e1 e2 e3
  exact ⟨a, b, c, q, rfl, by simpa using hp⟩
end Ee
end Go.Proofs.YtppjlpihaocdiabGreatDoor
