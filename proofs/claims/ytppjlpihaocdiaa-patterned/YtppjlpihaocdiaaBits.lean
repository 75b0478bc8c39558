/- The sets of bytes themselves: 'with', 'others': they make memory of their own and turn nothing old. -/
import Derived.Test.YtppjlpihaocdiaaLeaf
set_option linter.unusedSimpArgs false
set_option linter.unusedVariables false
namespace Go.Proofs.Ytppjlpihaocdiaa
open Go.RowKit

set_option maxHeartbeats 400000 in
theorem others_any (x0 x1 x2 x3 : Int) (w : World) :
    Calls Try.prog 120 #[.agg #[.int .u64 x0, .int .u64 x1, .int .u64 x2, .int .u64 x3]] w fun e w' => (∃ y0 y1 y2 y3 : Int, e = .returned (.agg #[.int .u64 y0, .int .u64 y1, .int .u64 y2, .int .u64 y3])) ∧ Below w.heap.size w w' := by
  go_enter Try.func120, Try.ntmps120
  go_wp2
  exact bodyPost_ret (v := .agg #[.int .u64 (bits BinOp.xor IntKind.u64 IntKind.u64.max x0), .int .u64 (bits BinOp.xor IntKind.u64 IntKind.u64.max x1), .int .u64 (bits BinOp.xor IntKind.u64 IntKind.u64.max x2), .int .u64 (bits BinOp.xor IntKind.u64 IntKind.u64.max x3)]) (by simp [results, Try.results120, go_sem]) rfl ⟨⟨_, _, _, _, rfl⟩, ((Below.refl _ _).alloc (Nat.le_refl _) _).alloc (by simp) _⟩


/-- Four numbers lie in a block, to be read and written. -/
structure Four (w : World) (b : Nat) (y0 y1 y2 y3 : Int) : Prop where
  c0 : w.cell? ⟨b, 0, none⟩ = some (.int .u64 y0)
  c1 : w.cell? ⟨b, 1, none⟩ = some (.int .u64 y1)
  c2 : w.cell? ⟨b, 2, none⟩ = some (.int .u64 y2)
  c3 : w.cell? ⟨b, 3, none⟩ = some (.int .u64 y3)
  f0 : w.frozen? ⟨b, 0, none⟩ = false
  f1 : w.frozen? ⟨b, 1, none⟩ = false
  f2 : w.frozen? ⟨b, 2, none⟩ = false
  f3 : w.frozen? ⟨b, 3, none⟩ = false

theorem Four.put0 {w : World} {b : Nat} {y0 y1 y2 y3 : Int} (h : Four w b y0 y1 y2 y3) (y : Int) : Four (w.setCell ⟨b, 0, none⟩ (.int .u64 y)).drew b y y1 y2 y3 := by
  obtain ⟨c0, c1, c2, c3, f0, f1, f2, f3⟩ := h
  constructor <;> go_simp
theorem Four.put1 {w : World} {b : Nat} {y0 y1 y2 y3 : Int} (h : Four w b y0 y1 y2 y3) (y : Int) : Four (w.setCell ⟨b, 1, none⟩ (.int .u64 y)).drew b y0 y y2 y3 := by
  obtain ⟨c0, c1, c2, c3, f0, f1, f2, f3⟩ := h
  constructor <;> go_simp
theorem Four.put2 {w : World} {b : Nat} {y0 y1 y2 y3 : Int} (h : Four w b y0 y1 y2 y3) (y : Int) : Four (w.setCell ⟨b, 2, none⟩ (.int .u64 y)).drew b y0 y1 y y3 := by
  obtain ⟨c0, c1, c2, c3, f0, f1, f2, f3⟩ := h
  constructor <;> go_simp
theorem Four.put3 {w : World} {b : Nat} {y0 y1 y2 y3 : Int} (h : Four w b y0 y1 y2 y3) (y : Int) : Four (w.setCell ⟨b, 3, none⟩ (.int .u64 y)).drew b y0 y1 y2 y := by
  obtain ⟨c0, c1, c2, c3, f0, f1, f2, f3⟩ := h
  constructor <;> go_simp
theorem Four.far {w : World} {b a : Nat} {y0 y1 y2 y3 : Int} (h : Four w b y0 y1 y2 y3) (hne : a ≠ b) (o : Nat) (v : Value) : Four (w.setCell ⟨a, o, none⟩ v).drew b y0 y1 y2 y3 := by
  obtain ⟨c0, c1, c2, c3, f0, f1, f2, f3⟩ := h
  have hh : ∀ k, (w.setCell ⟨a, o, none⟩ v).cell? ⟨b, k, none⟩ = w.cell? ⟨b, k, none⟩ := fun k => World.cell?_setCell_other (h := fun e => hne (by injection e)) ..
  refine ⟨?_, ?_, ?_, ?_, ?_, ?_, ?_, ?_⟩
  · exact (hh 0).trans c0
  · exact (hh 1).trans c1
  · exact (hh 2).trans c2
  · exact (hh 3).trans c3
  all_goals go_simp

set_option maxHeartbeats 400000 in
theorem with_any (x0 x1 x2 x3 : Int) (lo hi : Nat) (w : World) (hlo : lo ≤ 255) (hhi : hi ≤ 255) :
    Calls Try.prog 124 #[.agg #[.int .u64 x0, .int .u64 x1, .int .u64 x2, .int .u64 x3], .int .u8 lo, .int .u8 hi] w fun e w' => (∃ y0 y1 y2 y3 : Int, e = .returned (.agg #[.int .u64 y0, .int .u64 y1, .int .u64 y2, .int .u64 y3])) ∧ Below w.heap.size w w' := by
  go_enter Try.func124, Try.ntmps124
  go_wp2
  go_loopw [7] (fun v wr => ∃ (k : Nat) (y0 y1 y2 y3 z0 z1 z2 z3 : Int), k ≤ 256 ∧ v = .int .i64 k ∧ Four wr w.heap.size y0 y1 y2 y3 ∧ Four wr (w.heap.size + 1) z0 z1 z2 z3 ∧ Below w.heap.size w wr) (fun v _ => 256 - (intOf v).toNat)
  case atStart => exact ⟨lo, x0, x1, x2, x3, 0, 0, 0, 0, by omega, rfl, by constructor <;> go_simp, by constructor <;> go_simp, ((Below.refl _ _).alloc (Nat.le_refl _) _).alloc (by simp) _⟩
  case round =>
    obtain ⟨k, y0, y1, y2, y3, z0, z1, z2, z3, hk, rfl, hF, hG, hB⟩ := hrel
    have HB : Hid (Below w.heap.size w wr) := hB
    have HF : Hid (Four wr w.heap.size y0 y1 y2 y3) := hF
    have HG : Hid (Four wr (w.heap.size + 1) z0 z1 z2 z3) := hG
    clear hB
    obtain ⟨c0, c1, c2, c3, f0, f1, f2, f3⟩ := hF
    by_cases hlt : k ≤ hi
    · clear hG
      obtain hq | hq | hq | hq : (k : Int) / 64 = 0 ∨ (k : Int) / 64 = 1 ∨ (k : Int) / 64 = 2 ∨ (k : Int) / 64 = 3 := by omega
      all_goals
        have hr : 0 ≤ (k : Int) % 64 := by omega
        have hr2 : (k : Int) % 64 < 64 := by omega
        go_wp2
        go_region
        go_wp2
        go_roundw
        case rel => exact ⟨k + 1, _, _, _, _, _, _, _, _, by omega, by go_num, by first | exact HF.out.put0 _ | exact HF.out.put1 _ | exact HF.out.put2 _ | exact HF.out.put3 _, HG.out.far (by omega) _ _, (HB.out.setCell (Nat.le_refl _) _).drew⟩
        case measure => simp [intOf]; omega
    · obtain ⟨d0, d1, d2, d3, e0, e1, e2, e3⟩ := hG
      go_wp2
      exact bodyPost_ret (v := .agg #[.int .u64 y0, .int .u64 y1, .int .u64 y2, .int .u64 y3]) (by simp [results, Try.results124, go_sem, *]) rfl ⟨⟨_, _, _, _, rfl⟩, (((HB.out.setCell (by simp) _).setCell (by simp) _).setCell (by simp) _).setCell (by simp) _⟩
end Go.Proofs.Ytppjlpihaocdiaa
