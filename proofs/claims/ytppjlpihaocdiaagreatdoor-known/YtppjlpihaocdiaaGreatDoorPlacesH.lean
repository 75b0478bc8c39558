/- A part of the proof. -/
import Derived.Test.YtppjlpihaocdiaaGreatDoorRefAH
import Derived.Test.YtppjlpihaocdiaaGreatDoorBitsH
import Derived.Laws.BitsLemmas
set_option linter.unusedSimpArgs false
set_option linter.unusedVariables false
namespace Go.Proofs.YtppjlpihaocdiaaGreatDoor
open Go.RowKit
def mem (A B p : Nat) : Bool := if p < 64 then A.testBit p else B.testBit (p - 64)
structure Pl (A B : Nat) (S : Nat → Bool) : Prop where
  a : A < 2 ^ 64
  b : B < 2 ^ 64
  m : ∀ q, q < 128 → mem A B q = S q
theorem wrap_u64 (n : Nat) (h : n < 2 ^ 64) : IntKind.u64.wrap (n : Int) = n := by
  simp [IntKind.wrap, IntKind.min, IntKind.signed, IntKind.bits] <;> omega
theorem and_u64 (a b : Nat) (ha : a < 2 ^ 64) (hb : b < 2 ^ 64) : bits .and .u64 a b = ((a &&& b : Nat) : Int) := 
  (bits_nat .u64 64 (by decide) (fun n h0 h1 => by obtain ⟨m, rfl⟩ := Int.eq_ofNat_of_zero_le h0; exact wrap_u64 m (by exact_mod_cast h1)) a b ha hb).1
theorem or_u64 (a b : Nat) (ha : a < 2 ^ 64) (hb : b < 2 ^ 64) : bits .or .u64 a b = ((a ||| b : Nat) : Int) := 
  (bits_nat .u64 64 (by decide) (fun n h0 h1 => by obtain ⟨m, rfl⟩ := Int.eq_ofNat_of_zero_le h0; exact wrap_u64 m (by exact_mod_cast h1)) a b ha hb).2
theorem wrap_pow (k : Nat) (h : k < 64) : IntKind.u64.wrap (2 ^ k) = ((2 ^ k : Nat) : Int) := by
  have := wrap_u64 (2 ^ k) (Nat.pow_lt_pow_right (by decide) h)
  rw [← this]; push_cast; rfl
theorem bit_and (A k : Nat) (hA : A < 2 ^ 64) : (bits BinOp.and IntKind.u64 ((A : Int) / 2 ^ k) 1 == 1) = A.testBit k := by
  have e : ((A : Int) / 2 ^ k) = ((A / 2 ^ k : Nat) : Int) := by push_cast; rfl
  have hd : A / 2 ^ k < 2 ^ 64 := Nat.lt_of_le_of_lt (Nat.div_le_self _ _) hA
  have := and_u64 (A / 2 ^ k) 1 hd (by decide)
  rw [e]
  replace this : bits BinOp.and IntKind.u64 ((A / 2 ^ k : Nat) : Int) 1 = ((A / 2 ^ k &&& 1 : Nat) : Int) := this
  rw [this, Nat.testBit_eq_decide_div_mod_eq, Nat.and_one_is_mod]
  rw [Bool.eq_iff_iff]; simp only [beq_iff_eq, decide_eq_true_iff]; omega
theorem one_bit (k q : Nat) : (2 ^ k).testBit q = (q == k) := by
  rw [Nat.testBit_two_pow]; rw [Bool.eq_iff_iff]; simp; omega
theorem ret_agg2 {a b : Int} {A B : Nat} (h : a = A) (h' : b = B) : Ending.returned (.agg #[.int .u64 a, .int .u64 b]) = .returned (.agg #[.int .u64 (A : Int), .int .u64 (B : Int)]) := by rw [h, h']
set_option maxHeartbeats 400000 in
theorem only_any (p : Nat) (w : World) (hp : p ≤ 80) :
    Calls Tryz.prog 151 #[.int .i64 p] w fun e w' => ∃ A B : Nat, e = .returned (.agg #[.int .u64 A, .int .u64 B]) ∧ Pl A B (fun q => q == p) ∧ Below w.heap.size w w' := by
  obtain hq | hq : (p : Int) / 64 = 0 ∨ (p : Int) / 64 = 1 := by omega
  all_goals
    have hr : 0 ≤ (p : Int) % 64 := by omega
    have hr2 : (p : Int) % 64 < 64 := by omega
    go_enter Tryz.func151, Tryz.ntmps151
    go_wp2
  · refine bodyPost_ret (v := .agg #[.int .u64 (IntKind.u64.wrap (2 ^ (p % 64))), .int .u64 0]) (by simp [results, Tryz.results151, go_sem]) rfl ⟨2 ^ (p % 64), 0, ret_agg2 (wrap_pow _ (by omega)) rfl, ⟨Nat.pow_lt_pow_right (by decide) (by omega), by decide, fun q hq => ?_⟩, ((Below.refl _ _).alloc (Nat.le_refl _) _).alloc (by simp) _⟩
    unfold mem
    split
    · rw [one_bit]; rw [Bool.eq_iff_iff]; simp; omega
    · rw [Nat.zero_testBit]; rw [Bool.eq_iff_iff]; simp; omega
  · refine bodyPost_ret (v := .agg #[.int .u64 0, .int .u64 (IntKind.u64.wrap (2 ^ (p % 64)))]) (by simp [results, Tryz.results151, go_sem]) rfl ⟨0, 2 ^ (p % 64), ret_agg2 rfl (wrap_pow _ (by omega)), ⟨by decide, Nat.pow_lt_pow_right (by decide) (by omega), fun q hq => ?_⟩, ((Below.refl _ _).alloc (Nat.le_refl _) _).alloc (by simp) _⟩
    unfold mem
    split
    · rw [Nat.zero_testBit]; rw [Bool.eq_iff_iff]; simp; omega
    · rw [one_bit]; rw [Bool.eq_iff_iff]; simp; omega
set_option maxHeartbeats 400000 in
theorem has_any (A B p : Nat) (w : World) (hp : p < 128) (S : Nat → Bool) (hS : Pl A B S) :
    Calls Tryz.prog 193 #[.agg #[.int .u64 A, .int .u64 B], .int .i64 p] w fun e w' => e = .returned (.bool (S p)) ∧ Below w.heap.size w w' := by
  have HS : Hid (Pl A B S) := hS
  clear hS
  obtain hq | hq : (p : Int) / 64 = 0 ∨ (p : Int) / 64 = 1 := by omega
  all_goals
    have hr : 0 ≤ (p : Int) % 64 := by omega
    have hr2 : (p : Int) % 64 < 64 := by omega
    go_enter Tryz.func193, Tryz.ntmps193
    go_wp2
    go_ret
    refine ⟨ret_bool ?_, (Below.refl _ _).alloc (Nat.le_refl _) _⟩
    rw [bit_and _ _ (by first | exact HS.out.a | exact HS.out.b), ← HS.out.m p hp]
    unfold mem
    first | rw [if_pos (by omega), Nat.mod_eq_of_lt (by omega)] | rw [if_neg (by omega), show p % 64 = p - 64 from by omega]
structure Two (w : World) (b : Nat) (y0 y1 : Int) : Prop where
  c0 : w.cell? ⟨b, 0, none⟩ = some (.int .u64 y0)
  c1 : w.cell? ⟨b, 1, none⟩ = some (.int .u64 y1)
  f0 : w.frozen? ⟨b, 0, none⟩ = false
  f1 : w.frozen? ⟨b, 1, none⟩ = false
set_option maxHeartbeats 400000 in
theorem pwith_any (A B A' B' : Nat) (w : World) (S S' : Nat → Bool) (hS : Pl A B S) (hS' : Pl A' B' S') :
    Calls Tryz.prog 190 #[.agg #[.int .u64 A, .int .u64 B], .agg #[.int .u64 A', .int .u64 B']] w fun e w' => ∃ A2 B2 : Nat, e = .returned (.agg #[.int .u64 A2, .int .u64 B2]) ∧ Pl A2 B2 (fun q => S q || S' q) ∧ Below w.heap.size w w' := by
  have HS : Hid (Pl A B S) := hS
  have HS' : Hid (Pl A' B' S') := hS'
  clear hS hS'
  go_enter Tryz.func190, Tryz.ntmps190
  go_wp2
  go_loopw [6] (fun v wr => ∃ (k : Nat) (y0 y1 : Int), k ≤ 2 ∧ v = .int .i64 k ∧ Two wr w.heap.size y0 y1 ∧ Two wr (w.heap.size + 1) A' B' ∧ Two wr (w.heap.size + 2) 0 0 ∧ Below w.heap.size w wr ∧ Hid ((k = 0 → y0 = A) ∧ (0 < k → y0 = bits .or .u64 A A') ∧ (k < 2 → y1 = B) ∧ (1 < k → y1 = bits .or .u64 B B'))) (fun v _ => 2 - (intOf v).toNat)
  case atStart => exact ⟨0, A, B, by omega, rfl, by constructor <;> go_simp, by constructor <;> go_simp, by constructor <;> go_simp, (((Below.refl _ _).alloc (Nat.le_refl _) _).alloc (by simp) _).alloc (by simp; omega) _, fun _ => rfl, fun h => by omega, fun _ => rfl, fun h => by omega⟩
  case round =>
    obtain ⟨k, y0, y1, hk, rfl, ⟨c0, c1, f0, f1⟩, ⟨d0, d1, e0, e1⟩, ⟨g0, g1, j0, j1⟩, hB, HY⟩ := hrel
    have HB : Hid (Below w.heap.size w wr) := hB
    clear hB
    obtain rfl | rfl | rfl : k = 0 ∨ k = 1 ∨ k = 2 := by omega
    · go_wp2
      go_region
      all_goals
        go_wp2
        go_roundw
        case rel => exact ⟨1, bits .or .u64 y0 A', y1, by omega, rfl, by constructor <;> go_simp, by constructor <;> go_simp, by constructor <;> go_simp, (HB.out.setCell (Nat.le_refl _) _).drew, fun h => by omega, fun _ => by rw [HY.out.1 (by simp)], fun _ => HY.out.2.2.1 (by omega), fun h => by omega⟩
        case measure => simp [intOf]
    · go_wp2
      go_region
      all_goals
        go_wp2
        go_roundw
        case rel => exact ⟨2, y0, bits .or .u64 y1 B', by omega, rfl, by constructor <;> go_simp, by constructor <;> go_simp, by constructor <;> go_simp, (HB.out.setCell (Nat.le_refl _) _).drew, fun h => by omega, fun _ => HY.out.2.1 (by omega), fun h => by omega, fun _ => by rw [HY.out.2.2.1 (by omega)]⟩
        case measure => simp [intOf]
    · go_wp2
      refine bodyPost_ret (v := .agg #[.int .u64 y0, .int .u64 y1]) (by simp [results, Tryz.results190, go_sem, *]) rfl ⟨A ||| A', B ||| B', ret_agg2 ?_ ?_, ⟨Nat.or_lt_two_pow HS.out.a HS'.out.a, Nat.or_lt_two_pow HS.out.b HS'.out.b, fun q hq => ?_⟩, (HB.out.setCell (by simp; omega) _).setCell (by simp; omega) _⟩
      · rw [HY.out.2.1 (by omega), or_u64 _ _ HS.out.a HS'.out.a]
      · rw [HY.out.2.2.2 (by omega), or_u64 _ _ HS.out.b HS'.out.b]
      · rw [← HS.out.m q hq, ← HS'.out.m q hq]
        unfold mem
        split <;> rw [Nat.testBit_or]
end Go.Proofs.YtppjlpihaocdiaaGreatDoor
