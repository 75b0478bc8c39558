/- Several texts in one. -/
import Derived.Test.YtppjlpihaocdiaaGreatDoorDecDH
import Derived.Test.YtppjlpihaocdiaaGreatDoorEhEH
import Derived.KernelRfl
/- A part of the proof. -/
set_option linter.unusedVariables false
namespace Go.Proofs.YtppjlpihaocdiaaGreatDoor
namespace Ee
open Rs (readR)
def kpats : List (List UInt8) := [[111], [111, 42], [98, 42], [92, 40, 97, 92, 41], [94, 40, 46, 123, 49, 44, 53, 125, 41, 36]]
theorem kp_fine : ∀ l ∈ kpats, fineP ⟨l.toArray⟩ = true := fun l hl => by
  simp only [kpats, List.mem_cons, List.not_mem_nil, or_false] at hl
  rcases hl with rfl | rfl | rfl | rfl | rfl <;> kernel_rfl
theorem known_0 (mf : Mf) (hm : MfOk mf) : Makes mf ⟨#[115, 47, 111, 47, 48, 47, 103]⟩ false [102, 111, 111, 10] [102, 48, 48, 10] := by
  rw [mf_as hm kpats kp_fine]
  exact ⟨by kernel_rfl, by kernel_rfl, by kernel_rfl⟩
theorem known_1 (mf : Mf) (hm : MfOk mf) : Makes mf ⟨#[115, 47, 111, 42, 47, 120, 47, 103]⟩ false [102, 111, 111, 10] [120, 102, 120, 10] := by
  rw [mf_as hm kpats kp_fine]
  exact ⟨by kernel_rfl, by kernel_rfl, by kernel_rfl⟩
theorem known_2 (mf : Mf) (hm : MfOk mf) : Makes mf ⟨#[115, 47, 111, 42, 47, 120, 47, 103]⟩ false [98, 97, 99, 10] [120, 98, 120, 97, 120, 99, 120, 10] := by
  rw [mf_as hm kpats kp_fine]
  exact ⟨by kernel_rfl, by kernel_rfl, by kernel_rfl⟩
theorem known_3 (mf : Mf) (hm : MfOk mf) : Makes mf ⟨#[115, 47, 98, 42, 47, 120, 47, 50]⟩ false [97, 98, 99, 10] [97, 120, 99, 10] := by
  rw [mf_as hm kpats kp_fine]
  exact ⟨by kernel_rfl, by kernel_rfl, by kernel_rfl⟩
theorem known_4 (mf : Mf) (hm : MfOk mf) : Makes mf ⟨#[115, 47, 92, 40, 97, 92, 41, 47, 60, 38, 62, 47]⟩ false [40, 97, 41, 10] [60, 40, 97, 41, 62, 10] := by
  rw [mf_as hm kpats kp_fine]
  exact ⟨by kernel_rfl, by kernel_rfl, by kernel_rfl⟩
theorem known_5 (mf : Mf) (hm : MfOk mf) : Makes mf ⟨#[36, 33, 100]⟩ false [97, 10, 98, 10, 99] [99, 10] := by
  rw [mf_as hm kpats kp_fine]
  exact ⟨by kernel_rfl, by kernel_rfl, by kernel_rfl⟩
theorem known_6 (mf : Mf) (hm : MfOk mf) : Makes mf ⟨#[49, 33, 71, 59, 104, 59, 36, 33, 100]⟩ false [97, 10, 98, 10, 99, 10] [99, 10, 98, 10, 97, 10] := by
  rw [mf_as hm kpats kp_fine]
  exact ⟨by kernel_rfl, by kernel_rfl, by kernel_rfl⟩
theorem known_7 (mf : Mf) (hm : MfOk mf) : Makes mf ⟨#[78, 59, 80, 59, 68]⟩ false [97, 10, 98, 10, 99, 10] [97, 10, 98, 10, 99, 10] := by
  rw [mf_as hm kpats kp_fine]
  exact ⟨by kernel_rfl, by kernel_rfl, by kernel_rfl⟩
theorem known_8 (mf : Mf) (hm : MfOk mf) : Makes mf ⟨#[58, 97, 10, 115, 47, 94, 40, 46, 123, 49, 44, 53, 125, 41, 36, 47, 32, 92, 49, 47, 59, 116, 97]⟩ false [97, 98, 99, 10, 97, 98, 99, 100, 101, 102, 103, 10] [32, 32, 32, 97, 98, 99, 10, 97, 98, 99, 100, 101, 102, 103, 10] := by
  rw [mf_as hm kpats kp_fine]
  exact ⟨by kernel_rfl, by kernel_rfl, by kernel_rfl⟩
theorem known_9 (mf : Mf) (hm : MfOk mf) : Makes mf ⟨#[50, 44, 51, 33, 100, 59, 97, 32, 120]⟩ false [49, 10, 50, 10, 51, 10, 52, 10] [50, 10, 120, 10, 51, 10, 120, 10] := by
  rw [mf_as hm kpats kp_fine]
  exact ⟨by kernel_rfl, by kernel_rfl, by kernel_rfl⟩
end Ee
end Go.Proofs.YtppjlpihaocdiaaGreatDoor

/- A part of the proof. -/
set_option linter.unusedSimpArgs false
set_option linter.unusedVariables false
namespace Go.Proofs.YtppjlpihaocdiaaGreatDoor
namespace Ee
open Go.RowKit
open Rs (readR)
set_option maxHeartbeats 1000000 in
theorem check_k (s : ByteArray) (w : World) (hs : s.size ≤ maxLen) :
    Calls Tryz.prog 24 #[.string s] w fun e w' => e = .returned (.tuple #[.int .i64 ((readR s).2.1 : Int), .int .i64 (readR s).2.2]) ∧ Below w.heap.size w w' := by
  have HR := Rs.read_any s w hs
  go_enter Tryz.func24, Tryz.ntmps24
  go_wp2_with fail
  refine HR.mono ?_
  rintro e w1 ⟨v, rfl, hb, _⟩
  have HB : Hid (Below w.heap.size w w1) := hb
  clear hb HR
  go_wp2_with fail
  go_ret2
  exact ⟨rfl, HB.out⟩
end Ee
end Go.Proofs.YtppjlpihaocdiaaGreatDoor

/- A part of the proof. -/
set_option linter.unusedSimpArgs false
set_option linter.unusedVariables false
namespace Go.Proofs.YtppjlpihaocdiaaGreatDoor
namespace Ee
open Go.RowKit
open Rs (readR failAt)
def patAns (s : ByteArray) : Int × Int := match failAt s with
  | none => (0, 0)
  | some j => (2, (j : Int))
set_option maxHeartbeats 1000000 in
theorem pattern_k (s : ByteArray) (w : World) (hs : s.size ≤ 40) :
    Calls Tryz.prog 23 #[.string s] w fun e w' => e = .returned (.tuple #[.int .i64 (patAns s).1, .int .i64 (patAns s).2]) ∧ Below w.heap.size w w' := by
  have hp := fun W => Rs.parse_wide s W (by omega)
  go_enter Tryz.func23, Tryz.ntmps23
  go_wp2_with fail
  refine (hp _).mono ?_
  rintro e w1 ⟨ao, l, c, r, g, p, ok, rfl, hP, hB⟩
  have HB : Hid (Below w.heap.size w w1) := hB
  have hsz := hB.size
  rcases hP with ⟨rfl, hW, _⟩ | ⟨rfl, j, rfl, _, hF⟩
  · have HW : Hid (patAns s = (0, 0)) := by rw [Hid, patAns, hW]
    clear hW hB
    go_wp2_with fail
    go_ret2
    exact ⟨by rw [HW.out]; rfl, HB.out.alloc hsz _⟩
  · have HF : Hid (patAns s = (2, (j : Int))) := by rw [Hid, patAns, hF]
    clear hF hB
    go_wp2_with fail
    go_ret2
    exact ⟨by rw [HF.out]; rfl, HB.out.alloc hsz _⟩
end Ee
end Go.Proofs.YtppjlpihaocdiaaGreatDoor

/- A part of the proof. -/
set_option linter.unusedSimpArgs false
set_option linter.unusedVariables false
namespace Go.Proofs.YtppjlpihaocdiaaGreatDoor
namespace Ee
open Go.RowKit
open Rs (readR failAt PatAt)
theorem SpAt.lower {w : World} {r : Option (List (Int × Int))} {u : Value} {lo lo' : Nat} (h : SpAt w r u lo) (hl : lo' ≤ lo) : SpAt w r u lo' := by
  cases r with
  | none => exact h
  | some sp =>
    obtain ⟨ob, h1, h2, h3⟩ := h
    exact ⟨ob, h1, by omega, h3⟩
set_option maxHeartbeats 1000000 in
theorem match_k (mf : Mf) (hm : MfOk mf) (pt s : ByteArray) (w : World) (hp : pt.size ≤ 40) (hs : s.size ≤ 80) (hf : failAt pt = none) :
    Calls Tryz.prog 22 #[.string pt, .string s] w fun e w' => ∃ u, e = .returned (.tuple #[u, .int .i64 0]) ∧ SpAt w' (mf pt s 0) u w.heap.size ∧ Below w.heap.size w w' := by
  have hpw := fun W => Rs.parse_wide pt W (by omega)
  have HM : Hid (MfOk mf) := hm
  clear hm
  go_enter Tryz.func22, Tryz.ntmps22
  go_wp2_with fail
  refine (hpw _).mono ?_
  rintro e w1 ⟨ao, l, c, r, g, p, ok, rfl, hP, hB⟩
  have HB : Hid (Below w.heap.size w w1) := hB
  have hsz := hB.size
  rcases hP with ⟨rfl, _, hA⟩ | ⟨rfl, j, rfl, _, hF⟩
  · have HP1 : Hid (Pt w1 pt (.slice ao l c) (.int .i64 r) (.int .i64 g)) := Ee.PatAt.pt hA hp
    clear hA hB hpw hf
    go_wp2_with fail
    have hB2 : Below w1.heap.size w1 (w1.alloc (.cells #[.slice ao l c, .int .i64 r, .int .i64 g] 88)) := (Below.refl _ _).alloc (Nat.le_refl _) _
    generalize (w1.alloc (.cells #[.slice ao l c, .int .i64 r, .int .i64 g] 88)) = w2 at hB2
    have HB2 : Hid (Below w.heap.size w w2) := HB.out.trans (hB2.mono hsz)
    have HP2 : Hid (Pt w2 pt (.slice ao l c) (.int .i64 r) (.int .i64 g)) := HP1.out.below hB2
    clear hB2
    refine (look_pt pt s _ _ _ w2 HP2.out hs).mono ?_
    rintro e w3 ⟨tb, rfl, hTb, hB3⟩
    have HTb : Hid (Tb w3 pt s tb) := hTb
    have HB3 : Hid (Below w.heap.size w w3) := HB2.out.trans (hB3.mono HB2.out.size)
    clear hTb hB3
    have hfi := first_tb mf HM.out pt s tb 0 w3 HTb.out (by omega)
    go_wp2_with fail
    refine hfi.mono ?_
    rintro e w4 ⟨hB4, u, rfl, hsp⟩
    have HB4 : Hid (Below w.heap.size w w4) := HB3.out.trans (hB4.mono HB3.out.size)
    have HS : Hid (SpAt w4 (mf pt s 0) u w.heap.size) := hsp.lower HB3.out.size
    clear hB4 hsp hfi
    go_wp2_with fail
    go_ret2
    exact ⟨u, rfl, HS.out, HB4.out⟩
  · rw [hf] at hF
    cases hF
end Ee
end Go.Proofs.YtppjlpihaocdiaaGreatDoor

/- A part of the proof. -/
set_option linter.unusedSimpArgs false
set_option linter.unusedVariables false
namespace Go.Proofs.YtppjlpihaocdiaaGreatDoor
namespace Ee
open Go.RowKit
def patCells : Array Value := #[.string ⟨#[97, 42, 42]⟩, .int .i64 2, .int .i64 2, .string ⟨#[40, 97]⟩, .int .i64 2, .int .i64 2, .string ⟨#[97, 124]⟩, .int .i64 2, .int .i64 2, .string ⟨#[91, 98, 45, 97, 93]⟩, .int .i64 2, .int .i64 3, .string ⟨#[97, 123, 51, 44, 50, 125]⟩, .int .i64 2, .int .i64 4, .string ⟨#[92, 100]⟩, .int .i64 2, .int .i64 1, .string ⟨#[]⟩, .int .i64 2, .int .i64 0, .string ⟨#[40, 97, 41, 124, 98, 93, 125]⟩, .int .i64 0, .int .i64 0]
def scrCells : Array Value := #[.string ⟨#[113, 32, 120]⟩, .int .i64 3, .int .i64 2, .string ⟨#[51, 44, 100]⟩, .int .i64 3, .int .i64 2, .string ⟨#[115, 47, 97, 47, 92, 49, 47]⟩, .int .i64 3, .int .i64 5, .string ⟨#[123, 112]⟩, .int .i64 3, .int .i64 2, .string ⟨#[98, 120, 121]⟩, .int .i64 4, .int .i64 1, .string ⟨#[58, 97, 59, 58, 97]⟩, .int .i64 4, .int .i64 4, .string ⟨#[]⟩, .int .i64 0, .int .i64 0, .string ⟨#[48, 48, 48, 49, 44, 36, 33, 123, 112, 125, 59]⟩, .int .i64 0, .int .i64 0]
def edCells : Array Value := #[.string ⟨#[115, 47, 111, 47, 48, 47, 103]⟩, .string ⟨#[102, 111, 111, 10]⟩, .string ⟨#[102, 48, 48, 10]⟩, .string ⟨#[115, 47, 111, 42, 47, 120, 47, 103]⟩, .string ⟨#[102, 111, 111, 10]⟩, .string ⟨#[120, 102, 120, 10]⟩, .string ⟨#[115, 47, 111, 42, 47, 120, 47, 103]⟩, .string ⟨#[98, 97, 99, 10]⟩, .string ⟨#[120, 98, 120, 97, 120, 99, 120, 10]⟩, .string ⟨#[115, 47, 98, 42, 47, 120, 47, 50]⟩, .string ⟨#[97, 98, 99, 10]⟩, .string ⟨#[97, 120, 99, 10]⟩, .string ⟨#[115, 47, 92, 40, 97, 92, 41, 47, 60, 38, 62, 47]⟩, .string ⟨#[40, 97, 41, 10]⟩, .string ⟨#[60, 40, 97, 41, 62, 10]⟩, .string ⟨#[36, 33, 100]⟩, .string ⟨#[97, 10, 98, 10, 99]⟩, .string ⟨#[99, 10]⟩, .string ⟨#[49, 33, 71, 59, 104, 59, 36, 33, 100]⟩, .string ⟨#[97, 10, 98, 10, 99, 10]⟩, .string ⟨#[99, 10, 98, 10, 97, 10]⟩, .string ⟨#[78, 59, 80, 59, 68]⟩, .string ⟨#[97, 10, 98, 10, 99, 10]⟩, .string ⟨#[97, 10, 98, 10, 99, 10]⟩, .string ⟨#[58, 97, 10, 115, 47, 94, 40, 46, 123, 49, 44, 53, 125, 41, 36, 47, 32, 92, 49, 47, 59, 116, 97]⟩, .string ⟨#[97, 98, 99, 10, 97, 98, 99, 100, 101, 102, 103, 10]⟩, .string ⟨#[32, 32, 32, 97, 98, 99, 10, 97, 98, 99, 100, 101, 102, 103, 10]⟩, .string ⟨#[50, 44, 51, 33, 100, 59, 97, 32, 120]⟩, .string ⟨#[49, 10, 50, 10, 51, 10, 52, 10]⟩, .string ⟨#[50, 10, 120, 10, 51, 10, 120, 10]⟩]
set_option maxRecDepth 100000 in
set_option maxHeartbeats 4000000 in
theorem pats_k (w : World) :
    Calls Tryz.prog 18 #[] w fun e w' => e = .returned (.slice (some ⟨w.heap.size, 0, none⟩) 8 8) ∧ w' = w.alloc (.cells #[.string ⟨#[97, 42, 42]⟩, .int .i64 2, .int .i64 2, .string ⟨#[40, 97]⟩, .int .i64 2, .int .i64 2, .string ⟨#[97, 124]⟩, .int .i64 2, .int .i64 2, .string ⟨#[91, 98, 45, 97, 93]⟩, .int .i64 2, .int .i64 3, .string ⟨#[97, 123, 51, 44, 50, 125]⟩, .int .i64 2, .int .i64 4, .string ⟨#[92, 100]⟩, .int .i64 2, .int .i64 1, .string ⟨#[]⟩, .int .i64 2, .int .i64 0, .string ⟨#[40, 97, 41, 124, 98, 93, 125]⟩, .int .i64 0, .int .i64 0] 52) := by
  go_enter Tryz.func18, Tryz.ntmps18
  go_wp2_with fail
  go_ret
  exact ⟨rfl, rfl⟩
set_option maxRecDepth 100000 in
set_option maxHeartbeats 4000000 in
theorem scrs_k (w : World) :
    Calls Tryz.prog 19 #[] w fun e w' => e = .returned (.slice (some ⟨w.heap.size, 0, none⟩) 8 8) ∧ w' = w.alloc (.cells #[.string ⟨#[113, 32, 120]⟩, .int .i64 3, .int .i64 2, .string ⟨#[51, 44, 100]⟩, .int .i64 3, .int .i64 2, .string ⟨#[115, 47, 97, 47, 92, 49, 47]⟩, .int .i64 3, .int .i64 5, .string ⟨#[123, 112]⟩, .int .i64 3, .int .i64 2, .string ⟨#[98, 120, 121]⟩, .int .i64 4, .int .i64 1, .string ⟨#[58, 97, 59, 58, 97]⟩, .int .i64 4, .int .i64 4, .string ⟨#[]⟩, .int .i64 0, .int .i64 0, .string ⟨#[48, 48, 48, 49, 44, 36, 33, 123, 112, 125, 59]⟩, .int .i64 0, .int .i64 0] 52) := by
  go_enter Tryz.func19, Tryz.ntmps19
  go_wp2_with fail
  go_ret
  exact ⟨rfl, rfl⟩
end Ee
end Go.Proofs.YtppjlpihaocdiaaGreatDoor

/- A part of the proof. -/
set_option linter.unusedSimpArgs false
set_option linter.unusedVariables false
namespace Go.Proofs.YtppjlpihaocdiaaGreatDoor
namespace Ee
open Go.RowKit
set_option maxRecDepth 100000 in
set_option maxHeartbeats 4000000 in
theorem eds_k (w : World) :
    Calls Tryz.prog 20 #[] w fun e w' => e = .returned (.slice (some ⟨w.heap.size, 0, none⟩) 10 10) ∧ w' = w.alloc (.cells #[.string ⟨#[115, 47, 111, 47, 48, 47, 103]⟩, .string ⟨#[102, 111, 111, 10]⟩, .string ⟨#[102, 48, 48, 10]⟩, .string ⟨#[115, 47, 111, 42, 47, 120, 47, 103]⟩, .string ⟨#[102, 111, 111, 10]⟩, .string ⟨#[120, 102, 120, 10]⟩, .string ⟨#[115, 47, 111, 42, 47, 120, 47, 103]⟩, .string ⟨#[98, 97, 99, 10]⟩, .string ⟨#[120, 98, 120, 97, 120, 99, 120, 10]⟩, .string ⟨#[115, 47, 98, 42, 47, 120, 47, 50]⟩, .string ⟨#[97, 98, 99, 10]⟩, .string ⟨#[97, 120, 99, 10]⟩, .string ⟨#[115, 47, 92, 40, 97, 92, 41, 47, 60, 38, 62, 47]⟩, .string ⟨#[40, 97, 41, 10]⟩, .string ⟨#[60, 40, 97, 41, 62, 10]⟩, .string ⟨#[36, 33, 100]⟩, .string ⟨#[97, 10, 98, 10, 99]⟩, .string ⟨#[99, 10]⟩, .string ⟨#[49, 33, 71, 59, 104, 59, 36, 33, 100]⟩, .string ⟨#[97, 10, 98, 10, 99, 10]⟩, .string ⟨#[99, 10, 98, 10, 97, 10]⟩, .string ⟨#[78, 59, 80, 59, 68]⟩, .string ⟨#[97, 10, 98, 10, 99, 10]⟩, .string ⟨#[97, 10, 98, 10, 99, 10]⟩, .string ⟨#[58, 97, 10, 115, 47, 94, 40, 46, 123, 49, 44, 53, 125, 41, 36, 47, 32, 92, 49, 47, 59, 116, 97]⟩, .string ⟨#[97, 98, 99, 10, 97, 98, 99, 100, 101, 102, 103, 10]⟩, .string ⟨#[32, 32, 32, 97, 98, 99, 10, 97, 98, 99, 100, 101, 102, 103, 10]⟩, .string ⟨#[50, 44, 51, 33, 100, 59, 97, 32, 120]⟩, .string ⟨#[49, 10, 50, 10, 51, 10, 52, 10]⟩, .string ⟨#[50, 10, 120, 10, 51, 10, 120, 10]⟩] 55) := by
  go_enter Tryz.func20, Tryz.ntmps20
  go_wp2_with fail
  go_ret
  exact ⟨rfl, rfl⟩
end Ee
end Go.Proofs.YtppjlpihaocdiaaGreatDoor

/- A part of the proof. -/
set_option linter.unusedVariables false
namespace Go.Proofs.YtppjlpihaocdiaaGreatDoor
namespace Ee
open Rs (readR failAt)
def mp : Nat → ByteArray
  | 0 => ⟨#[97, 124, 97, 98]⟩
  | 1 => ⟨#[40, 97, 124, 97, 98, 41, 40, 99, 124, 98, 99, 100, 41, 40, 100, 42, 41]⟩
  | 2 => ⟨#[40, 97, 42, 41, 42]⟩
  | 3 => ⟨#[40, 97, 42, 41, 43]⟩
  | 4 => ⟨#[40, 97, 41, 124, 98]⟩
  | 5 => ⟨#[120, 42]⟩
  | 6 => ⟨#[97, 123, 50, 44, 51, 125]⟩
  | 7 => ⟨#[98, 36]⟩
  | 8 => ⟨#[98]⟩
  | 9 => ⟨#[40, 97, 124, 97, 98, 41, 40, 99, 124, 98, 99, 100, 41]⟩
  | _ => ⟨#[]⟩
def mt : Nat → ByteArray
  | 0 => ⟨#[120, 97, 98]⟩
  | 1 => ⟨#[97, 98, 99, 100]⟩
  | 2 => ⟨#[97, 97, 98]⟩
  | 3 => ⟨#[98]⟩
  | 4 => ⟨#[98]⟩
  | 5 => ⟨#[97, 98]⟩
  | 6 => ⟨#[97, 97, 97, 97, 97]⟩
  | 7 => ⟨#[97, 98]⟩
  | 8 => ⟨#[97]⟩
  | 9 => ⟨#[97, 98, 99, 100]⟩
  | _ => ⟨#[]⟩
def mw : Nat → Option (List (Int × Int))
  | 0 => some [(1, 3)]
  | 1 => some [(0, 4), (0, 2), (2, 3), (3, 4)]
  | 2 => some [(0, 2), (0, 2)]
  | 3 => some [(0, 0), (0, 0)]
  | 4 => some [(0, 1), (-1, -1)]
  | 5 => some [(0, 0)]
  | 6 => some [(0, 3)]
  | 7 => some [(1, 2)]
  | 8 => none
  | 9 => some [(0, 4), (0, 1), (1, 4)]
  | _ => none
def mo : Nat → Nat
  | 0 => 0
  | 1 => 1
  | 2 => 2
  | 3 => 3
  | 4 => 4
  | 5 => 5
  | 6 => 6
  | 7 => 7
  | 8 => 8
  | 9 => 8
  | _ => 0
def pq : Nat → ByteArray
  | 0 => ⟨#[97, 42, 42]⟩
  | 1 => ⟨#[40, 97]⟩
  | 2 => ⟨#[97, 124]⟩
  | 3 => ⟨#[91, 98, 45, 97, 93]⟩
  | 4 => ⟨#[97, 123, 51, 44, 50, 125]⟩
  | 5 => ⟨#[92, 100]⟩
  | 6 => ⟨#[]⟩
  | 7 => ⟨#[40, 97, 41, 124, 98, 93, 125]⟩
  | _ => ⟨#[]⟩
def pe : Nat → Int × Int
  | 0 => (2, 2)
  | 1 => (2, 2)
  | 2 => (2, 2)
  | 3 => (2, 3)
  | 4 => (2, 4)
  | 5 => (2, 1)
  | 6 => (2, 0)
  | 7 => (0, 0)
  | _ => (0, 0)
def sq : Nat → ByteArray
  | 0 => ⟨#[113, 32, 120]⟩
  | 1 => ⟨#[51, 44, 100]⟩
  | 2 => ⟨#[115, 47, 97, 47, 92, 49, 47]⟩
  | 3 => ⟨#[123, 112]⟩
  | 4 => ⟨#[98, 120, 121]⟩
  | 5 => ⟨#[58, 97, 59, 58, 97]⟩
  | 6 => ⟨#[]⟩
  | 7 => ⟨#[48, 48, 48, 49, 44, 36, 33, 123, 112, 125, 59]⟩
  | _ => ⟨#[]⟩
def se : Nat → Int × Int
  | 0 => (3, 2)
  | 1 => (3, 2)
  | 2 => (3, 5)
  | 3 => (3, 2)
  | 4 => (4, 1)
  | 5 => (4, 4)
  | 6 => (0, 0)
  | 7 => (0, 0)
  | _ => (0, 0)
def dq : Nat → ByteArray
  | 0 => ⟨#[115, 47, 111, 47, 48, 47, 103]⟩
  | 1 => ⟨#[115, 47, 111, 42, 47, 120, 47, 103]⟩
  | 2 => ⟨#[115, 47, 111, 42, 47, 120, 47, 103]⟩
  | 3 => ⟨#[115, 47, 98, 42, 47, 120, 47, 50]⟩
  | 4 => ⟨#[115, 47, 92, 40, 97, 92, 41, 47, 60, 38, 62, 47]⟩
  | 5 => ⟨#[36, 33, 100]⟩
  | 6 => ⟨#[49, 33, 71, 59, 104, 59, 36, 33, 100]⟩
  | 7 => ⟨#[78, 59, 80, 59, 68]⟩
  | 8 => ⟨#[58, 97, 10, 115, 47, 94, 40, 46, 123, 49, 44, 53, 125, 41, 36, 47, 32, 92, 49, 47, 59, 116, 97]⟩
  | 9 => ⟨#[50, 44, 51, 33, 100, 59, 97, 32, 120]⟩
  | _ => ⟨#[]⟩
def di : Nat → ByteArray
  | 0 => ⟨#[102, 111, 111, 10]⟩
  | 1 => ⟨#[102, 111, 111, 10]⟩
  | 2 => ⟨#[98, 97, 99, 10]⟩
  | 3 => ⟨#[97, 98, 99, 10]⟩
  | 4 => ⟨#[40, 97, 41, 10]⟩
  | 5 => ⟨#[97, 10, 98, 10, 99]⟩
  | 6 => ⟨#[97, 10, 98, 10, 99, 10]⟩
  | 7 => ⟨#[97, 10, 98, 10, 99, 10]⟩
  | 8 => ⟨#[97, 98, 99, 10, 97, 98, 99, 100, 101, 102, 103, 10]⟩
  | 9 => ⟨#[49, 10, 50, 10, 51, 10, 52, 10]⟩
  | _ => ⟨#[]⟩
def dw : Nat → ByteArray
  | 0 => ⟨#[102, 48, 48, 10]⟩
  | 1 => ⟨#[120, 102, 120, 10]⟩
  | 2 => ⟨#[120, 98, 120, 97, 120, 99, 120, 10]⟩
  | 3 => ⟨#[97, 120, 99, 10]⟩
  | 4 => ⟨#[60, 40, 97, 41, 62, 10]⟩
  | 5 => ⟨#[99, 10]⟩
  | 6 => ⟨#[99, 10, 98, 10, 97, 10]⟩
  | 7 => ⟨#[97, 10, 98, 10, 99, 10]⟩
  | 8 => ⟨#[32, 32, 32, 97, 98, 99, 10, 97, 98, 99, 100, 101, 102, 103, 10]⟩
  | 9 => ⟨#[50, 10, 120, 10, 51, 10, 120, 10]⟩
  | _ => ⟨#[]⟩
theorem mf_k (mf : Mf) (hm : MfOk mf) (k : Nat) (h : k < 10) : mf (mp k) (mt k) 0 = mw k ∧ failAt (mp k) = none ∧ (mp k).size ≤ 40 ∧ (mt k).size ≤ 80 := by
  exact match k, h with
  | 0, _ => ⟨(mf_fine hm (by kernel_rfl) _ 0).trans (by kernel_rfl), by kernel_rfl, by decide, by decide⟩
  | 1, _ => ⟨(mf_fine hm (by kernel_rfl) _ 0).trans (by kernel_rfl), by kernel_rfl, by decide, by decide⟩
  | 2, _ => ⟨(mf_fine hm (by kernel_rfl) _ 0).trans (by kernel_rfl), by kernel_rfl, by decide, by decide⟩
  | 3, _ => ⟨(mf_fine hm (by kernel_rfl) _ 0).trans (by kernel_rfl), by kernel_rfl, by decide, by decide⟩
  | 4, _ => ⟨(mf_fine hm (by kernel_rfl) _ 0).trans (by kernel_rfl), by kernel_rfl, by decide, by decide⟩
  | 5, _ => ⟨(mf_fine hm (by kernel_rfl) _ 0).trans (by kernel_rfl), by kernel_rfl, by decide, by decide⟩
  | 6, _ => ⟨(mf_fine hm (by kernel_rfl) _ 0).trans (by kernel_rfl), by kernel_rfl, by decide, by decide⟩
  | 7, _ => ⟨(mf_fine hm (by kernel_rfl) _ 0).trans (by kernel_rfl), by kernel_rfl, by decide, by decide⟩
  | 8, _ => ⟨(mf_fine hm (by kernel_rfl) _ 0).trans (by kernel_rfl), by kernel_rfl, by decide, by decide⟩
  | 9, _ => ⟨(mf_fine hm (by kernel_rfl) _ 0).trans (by kernel_rfl), by kernel_rfl, by decide, by decide⟩
theorem pf_k (k : Nat) (h : k < 8) : (match failAt (pq k) with | none => ((0 : Int), (0 : Int)) | some j => (2, (j : Int))) = pe k ∧ (pq k).size ≤ 40 := by
  exact match k, h with
  | 0, _ => ⟨by kernel_rfl, by decide⟩
  | 1, _ => ⟨by kernel_rfl, by decide⟩
  | 2, _ => ⟨by kernel_rfl, by decide⟩
  | 3, _ => ⟨by kernel_rfl, by decide⟩
  | 4, _ => ⟨by kernel_rfl, by decide⟩
  | 5, _ => ⟨by kernel_rfl, by decide⟩
  | 6, _ => ⟨by kernel_rfl, by decide⟩
  | 7, _ => ⟨by kernel_rfl, by decide⟩
theorem sf_k (k : Nat) (h : k < 8) : (((readR (sq k)).2.1 : Int), ((readR (sq k)).2.2 : Int)) = se k ∧ (sq k).size ≤ 40 := by
  exact match k, h with
  | 0, _ => ⟨by kernel_rfl, by decide⟩
  | 1, _ => ⟨by kernel_rfl, by decide⟩
  | 2, _ => ⟨by kernel_rfl, by decide⟩
  | 3, _ => ⟨by kernel_rfl, by decide⟩
  | 4, _ => ⟨by kernel_rfl, by decide⟩
  | 5, _ => ⟨by kernel_rfl, by decide⟩
  | 6, _ => ⟨by kernel_rfl, by decide⟩
  | 7, _ => ⟨by kernel_rfl, by decide⟩
theorem df_k (mf : Mf) (hm : MfOk mf) (k : Nat) (h : k < 10) : Makes mf (dq k) false (row (di k)) (row (dw k)) ∧ (dq k).size ≤ 40 ∧ (di k).size ≤ 40 := by
  exact match k, h with
  | 0, _ => ⟨known_0 mf hm, by decide, by decide⟩
  | 1, _ => ⟨known_1 mf hm, by decide, by decide⟩
  | 2, _ => ⟨known_2 mf hm, by decide, by decide⟩
  | 3, _ => ⟨known_3 mf hm, by decide, by decide⟩
  | 4, _ => ⟨known_4 mf hm, by decide, by decide⟩
  | 5, _ => ⟨known_5 mf hm, by decide, by decide⟩
  | 6, _ => ⟨known_6 mf hm, by decide, by decide⟩
  | 7, _ => ⟨known_7 mf hm, by decide, by decide⟩
  | 8, _ => ⟨known_8 mf hm, by decide, by decide⟩
  | 9, _ => ⟨known_9 mf hm, by decide, by decide⟩
end Ee
end Go.Proofs.YtppjlpihaocdiaaGreatDoor

