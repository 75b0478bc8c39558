/- A part of the proof. -/
import Derived.Test.YtppjlpihaocdiaaGreatDoorKnPH
set_option linter.unusedSimpArgs false
set_option linter.unusedVariables false
namespace Go.Proofs.YtppjlpihaocdiaaGreatDoor
namespace Ee
open Go.RowKit
def matSpans (w : World) : World := ((((((((w.alloc (.cells #[.int .i64 1, .int .i64 3] 48)).alloc (.cells #[.int .i64 0, .int .i64 4, .int .i64 0, .int .i64 2, .int .i64 2, .int .i64 3, .int .i64 3, .int .i64 4] 48)).alloc (.cells #[.int .i64 0, .int .i64 2, .int .i64 0, .int .i64 2] 48)).alloc (.cells #[.int .i64 0, .int .i64 0, .int .i64 0, .int .i64 0] 48)).alloc (.cells #[.int .i64 0, .int .i64 1, .int .i64 (-1), .int .i64 (-1)] 48)).alloc (.cells #[.int .i64 0, .int .i64 0] 48)).alloc (.cells #[.int .i64 0, .int .i64 3] 48)).alloc (.cells #[.int .i64 1, .int .i64 2] 48)).alloc (.cells #[.int .i64 0, .int .i64 4, .int .i64 0, .int .i64 1, .int .i64 1, .int .i64 4] 48)
def matCells (w : World) : Array Value := #[.string ⟨#[97, 124, 97, 98]⟩, .string ⟨#[120, 97, 98]⟩, .slice (some ⟨w.heap.size, 0, none⟩) 1 1, .string ⟨#[40, 97, 124, 97, 98, 41, 40, 99, 124, 98, 99, 100, 41, 40, 100, 42, 41]⟩, .string ⟨#[97, 98, 99, 100]⟩, .slice (some ⟨w.heap.size + 1, 0, none⟩) 4 4, .string ⟨#[40, 97, 42, 41, 42]⟩, .string ⟨#[97, 97, 98]⟩, .slice (some ⟨w.heap.size + 2, 0, none⟩) 2 2, .string ⟨#[40, 97, 42, 41, 43]⟩, .string ⟨#[98]⟩, .slice (some ⟨w.heap.size + 3, 0, none⟩) 2 2, .string ⟨#[40, 97, 41, 124, 98]⟩, .string ⟨#[98]⟩, .slice (some ⟨w.heap.size + 4, 0, none⟩) 2 2, .string ⟨#[120, 42]⟩, .string ⟨#[97, 98]⟩, .slice (some ⟨w.heap.size + 5, 0, none⟩) 1 1, .string ⟨#[97, 123, 50, 44, 51, 125]⟩, .string ⟨#[97, 97, 97, 97, 97]⟩, .slice (some ⟨w.heap.size + 6, 0, none⟩) 1 1, .string ⟨#[98, 36]⟩, .string ⟨#[97, 98]⟩, .slice (some ⟨w.heap.size + 7, 0, none⟩) 1 1, .string ⟨#[98]⟩, .string ⟨#[97]⟩, .slice none 0 0, .string ⟨#[40, 97, 124, 97, 98, 41, 40, 99, 124, 98, 99, 100, 41]⟩, .string ⟨#[97, 98, 99, 100]⟩, .slice (some ⟨w.heap.size + 8, 0, none⟩) 3 3]
set_option maxRecDepth 100000 in
set_option maxHeartbeats 4000000 in
theorem mats_k (w : World) :
    Calls Tryz.prog 17 #[] w fun e w' => e = .returned (.slice (some ⟨w.heap.size + 9, 0, none⟩) 10 10) ∧ w' = (matSpans w).alloc (.cells (matCells w) 46) := by
  go_enter Tryz.func17, Tryz.ntmps17
  go_wp2_with fail
  go_ret
  exact ⟨rfl, rfl⟩
end Ee
end Go.Proofs.YtppjlpihaocdiaaGreatDoor
