/- A part of the proof. -/
import Derived.Test.YtppjlpihaocdiabGreatDoorOwnLaidH
import Derived.Test.YtppjlpihaocdiabGreatDoorEhBH
import Derived.SliceStrings
set_option linter.unusedSimpArgs false
set_option linter.unusedVariables false
set_option maxRecDepth 100000
namespace Go.Proofs.YtppjlpihaocdiabGreatDoor
namespace Ee
open Go.ChangeShapes Go.WideShapes Go.ChangeAt Go.RowKit
theorem cells_str : Tryz.prog.cellsOf 9 = 1 := by kernel_rfl
theorem open_texts {H : Type} {enc : TypeId × Value → H} {W : World} {base : Nat} {v : Value} {d : DataW H} {p : List MemPlace} (hv : Value.okWide Tryz.prog W .any base 22 v) (h : DataW.Trod enc Tryz.prog W 0 (fun _ => true) true 22 v d p) : ∃ ao n cp, v = .slice ao n cp ∧ Strs W ao n := by
  obtain ⟨a1, len, cap, rfl⟩ := okWide_slice Tryz.underlying22 hv
  refine ⟨a1, len, cap, rfl, ?_⟩
  obtain ⟨fuel, hf⟩ := h
  rcases open_strings Tryz.underlying22 Tryz.underlying9 cells_str hf with ⟨hcs, hx⟩ | ⟨a, len', cap', ss, hcs, _, hl, hm, hz, hx, hcell, hws⟩
  · simp [Value.cells] at hcs
    obtain ⟨rfl, rfl, rfl⟩ := hcs
    exact ⟨fun h => absurd h (by omega), by omega⟩
  · simp [Value.cells] at hcs
    obtain ⟨rfl, rfl, rfl⟩ := hcs
    simp only [if_true] at hz
    refine ⟨fun h0 => ?_, by omega⟩
    obtain ⟨b, off, spot⟩ := a
    have hspot : spot = none := by simpa [Addr.add] using World.cell?_spot (hcell 0 (by omega))
    subst hspot
    refine ⟨b, off, rfl, cell_in (hcell 0 (by omega)), fun i hi => ⟨ss.getD i ByteArray.empty, ?_, ?_⟩⟩
    · have hi' : i < ss.length := by omega
      rw [List.getD_eq_getElem?_getD, List.getElem?_eq_getElem hi']
      exact hws _ (List.getElem_mem hi')
    · have hc := hcell i (by omega)
      rw [add_plain] at hc
      exact hc
end Ee
end Go.Proofs.YtppjlpihaocdiabGreatDoor
