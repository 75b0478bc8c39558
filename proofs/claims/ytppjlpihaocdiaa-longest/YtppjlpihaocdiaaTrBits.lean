/- Sets of bytes, with what they hold: 'with', 'others'. -/
import Derived.Test.YtppjlpihaocdiaaTab
import Derived.Test.YtppjlpihaocdiaaBits
set_option linter.unusedSimpArgs false
set_option linter.unusedVariables false
namespace Go.Proofs.Ytppjlpihaocdiaa
namespace Tr
open Go.RowKit

theorem xor_u64 (a : Nat) (ha : a < 2 ^ 64) : ∃ r : Nat, bits .xor .u64 IntKind.u64.max a = r ∧ r < 2 ^ 64 ∧ ∀ i, i < 64 → r.testBit i = !a.testBit i := by
  have e : IntKind.u64.max = ((2 ^ 64 - 1 : Nat) : Int) := by decide
  refine ⟨(BitVec.ofNat 64 (2 ^ 64 - 1) ^^^ BitVec.ofNat 64 a).toNat, ?_, BitVec.isLt _, fun i hi => ?_⟩
  · rw [e]
    exact wrap_u64 _ (BitVec.isLt _)
  · rw [BitVec.toNat_xor, BitVec.toNat_ofNat, BitVec.toNat_ofNat, Nat.mod_eq_of_lt ha, Nat.testBit_xor, show ((2 ^ 64 - 1) % 2 ^ 64 : Nat) = 2 ^ 64 - 1 from by decide, Nat.testBit_two_pow_sub_one]
    simp [hi]

theorem ret_agg4 {a b c d : Int} {A B C D : Nat} (h : a = A) (h' : b = B) (h2 : c = C) (h3 : d = D) : Ending.returned (.agg #[.int .u64 a, .int .u64 b, .int .u64 c, .int .u64 d]) = .returned (.agg #[.int .u64 (A : Int), .int .u64 (B : Int), .int .u64 (C : Int), .int .u64 (D : Int)]) := by rw [h, h', h2, h3]

set_option maxHeartbeats 400000 in
theorem others_any (x0 x1 x2 x3 : Nat) (S : Nat → Bool) (w : World) (hS : S4 x0 x1 x2 x3 S) :
    Calls Try.prog 120 #[.agg #[.int .u64 x0, .int .u64 x1, .int .u64 x2, .int .u64 x3]] w fun e w' => (∃ y0 y1 y2 y3 : Nat, e = .returned (.agg #[.int .u64 y0, .int .u64 y1, .int .u64 y2, .int .u64 y3]) ∧ S4 y0 y1 y2 y3 (fun c => !S c)) ∧ Below w.heap.size w w' := by
  obtain ⟨y0, e0, b0, t0⟩ := xor_u64 x0 hS.a0
  obtain ⟨y1, e1, b1, t1⟩ := xor_u64 x1 hS.a1
  obtain ⟨y2, e2, b2, t2⟩ := xor_u64 x2 hS.a2
  obtain ⟨y3, e3, b3, t3⟩ := xor_u64 x3 hS.a3
  have HS : Hid (S4 y0 y1 y2 y3 (fun c => !S c)) := by
    refine ⟨b0, b1, b2, b3, fun c hc => ?_⟩
    rw [← hS.m c hc]
    unfold mem4
    split
    · exact t0 _ (by omega)
    · split
      · exact t1 _ (by omega)
      · split
        · exact t2 _ (by omega)
        · exact t3 _ (by omega)
  have H0 : Hid _ := e0
  have H1 : Hid _ := e1
  have H2 : Hid _ := e2
  have H3 : Hid _ := e3
  clear hS e0 e1 e2 e3
  go_enter Try.func120, Try.ntmps120
  go_wp2
  exact bodyPost_ret (v := .agg #[.int .u64 (bits BinOp.xor IntKind.u64 IntKind.u64.max x0), .int .u64 (bits BinOp.xor IntKind.u64 IntKind.u64.max x1), .int .u64 (bits BinOp.xor IntKind.u64 IntKind.u64.max x2), .int .u64 (bits BinOp.xor IntKind.u64 IntKind.u64.max x3)]) (by simp [results, Try.results120, go_sem]) rfl ⟨⟨y0, y1, y2, y3, ret_agg4 H0.out H1.out H2.out H3.out, HS.out⟩, ((Below.refl _ _).alloc (Nat.le_refl _) _).alloc (by simp) _⟩

/-- One byte more. -/
theorem S4.more {x0 x1 x2 x3 k : Nat} {S : Nat → Bool} (h : S4 x0 x1 x2 x3 S) (hk : k < 256) :
    S4 (if k / 64 = 0 then x0 ||| 2 ^ (k % 64) else x0) (if k / 64 = 1 then x1 ||| 2 ^ (k % 64) else x1) (if k / 64 = 2 then x2 ||| 2 ^ (k % 64) else x2) (if k / 64 = 3 then x3 ||| 2 ^ (k % 64) else x3) (fun c => S c || (c == k)) := by
  have hp : 2 ^ (k % 64) < 2 ^ 64 := Nat.pow_lt_pow_right (by decide) (by omega)
  refine ⟨?_, ?_, ?_, ?_, fun c hc => ?_⟩
  · split
    · exact Nat.or_lt_two_pow h.a0 hp
    · exact h.a0
  · split
    · exact Nat.or_lt_two_pow h.a1 hp
    · exact h.a1
  · split
    · exact Nat.or_lt_two_pow h.a2 hp
    · exact h.a2
  · split
    · exact Nat.or_lt_two_pow h.a3 hp
    · exact h.a3
  · rw [← h.m c hc]
    unfold mem4
    have key : ∀ (y q : Nat), q < 4 → c / 64 = q → (if k / 64 = q then y ||| 2 ^ (k % 64) else y).testBit (c - 64 * q) = (y.testBit (c - 64 * q) || (c == k)) := by
      intro y q hq hcq
      split
      · rename_i hkq
        rw [Nat.testBit_or, one_bit]
        congr 1
        rw [Bool.eq_iff_iff]; simp; omega
      · rename_i hkq
        have : (c == k) = false := by rw [beq_eq_false_iff_ne]; intro e; subst e; exact hkq hcq
        rw [this, Bool.or_false]
    by_cases h0 : c < 64
    · rw [if_pos h0, if_pos h0]
      have := key x0 0 (by omega) (by omega)
      simpa using this
    · rw [if_neg h0, if_neg h0]
      by_cases h1 : c < 128
      · rw [if_pos h1, if_pos h1]
        exact key x1 1 (by omega) (by omega)
      · rw [if_neg h1, if_neg h1]
        by_cases h2 : c < 192
        · rw [if_pos h2, if_pos h2]
          exact key x2 2 (by omega) (by omega)
        · rw [if_neg h2, if_neg h2]
          exact key x3 3 (by omega) (by omega)

theorem S4.congr {x0 x1 x2 x3 : Nat} {S S' : Nat → Bool} (h : S4 x0 x1 x2 x3 S) (e : ∀ c, c < 256 → S c = S' c) : S4 x0 x1 x2 x3 S' := ⟨h.a0, h.a1, h.a2, h.a3, fun c hc => (h.m c hc).trans (e c hc)⟩

theorem S4.zero : S4 0 0 0 0 (fun _ => false) := ⟨by decide, by decide, by decide, by decide, fun c _ => by unfold mem4; (repeat' split) <;> simp⟩

theorem or_pow (x k : Nat) (hx : x < 2 ^ 64) : bits .or .u64 (x : Int) (IntKind.u64.wrap (2 ^ (k % 64))) = ((x ||| 2 ^ (k % 64) : Nat) : Int) := by
  rw [wrap_pow _ (by omega), or_u64 _ _ hx (Nat.pow_lt_pow_right (by decide) (by omega))]

set_option maxHeartbeats 1000000 in
theorem with_any (x0 x1 x2 x3 : Nat) (S : Nat → Bool) (lo hi : Nat) (w : World) (hS : S4 x0 x1 x2 x3 S) (hlo : lo ≤ 255) (hhi : hi ≤ 255) :
    Calls Try.prog 124 #[.agg #[.int .u64 x0, .int .u64 x1, .int .u64 x2, .int .u64 x3], .int .u8 lo, .int .u8 hi] w fun e w' => (∃ y0 y1 y2 y3 : Nat, e = .returned (.agg #[.int .u64 y0, .int .u64 y1, .int .u64 y2, .int .u64 y3]) ∧ S4 y0 y1 y2 y3 (fun c => S c || (decide (lo ≤ c) && decide (c ≤ hi)))) ∧ Below w.heap.size w w' := by
  have HS : Hid (S4 x0 x1 x2 x3 S) := hS
  clear hS
  go_enter Try.func124, Try.ntmps124
  go_wp2
  go_loopw [7] (fun v wr => ∃ (k : Nat) (y0 y1 y2 y3 : Nat) (z0 z1 z2 z3 : Int), lo ≤ k ∧ k ≤ 256 ∧ v = .int .i64 k ∧ Four wr w.heap.size y0 y1 y2 y3 ∧ Four wr (w.heap.size + 1) z0 z1 z2 z3 ∧ Below w.heap.size w wr ∧ Hid (S4 y0 y1 y2 y3 (fun c => S c || (decide (lo ≤ c) && decide (c < k)))) ∧ Hid (k ≤ hi + 1 ∨ k = lo)) (fun v _ => 256 - (intOf v).toNat)
  case atStart => exact ⟨lo, x0, x1, x2, x3, 0, 0, 0, 0, Nat.le_refl _, by omega, rfl, by constructor <;> go_simp, by constructor <;> go_simp, ((Below.refl _ _).alloc (Nat.le_refl _) _).alloc (by simp) _, S4.congr HS.out (fun c hc => by rw [show (decide (lo ≤ c) && decide (c < lo)) = false from by rw [Bool.and_eq_false_iff]; simp; omega, Bool.or_false]), .inr rfl⟩
  case round =>
    obtain ⟨k, y0, y1, y2, y3, z0, z1, z2, z3, hkl, hk, rfl, hF, hG, hB, HS4, HKH⟩ := hrel
    have HB : Hid (Below w.heap.size w wr) := hB
    have HF : Hid (Four wr w.heap.size y0 y1 y2 y3) := hF
    have HG : Hid (Four wr (w.heap.size + 1) z0 z1 z2 z3) := hG
    clear hB
    obtain ⟨c0, c1, c2, c3, f0, f1, f2, f3⟩ := hF
    by_cases hlt : k ≤ hi
    · clear hG
      have HM : Hid _ := S4.more HS4.out (show k < 256 by omega)
      have HSn : Hid (∀ c, c < 256 → ((S c || (decide (lo ≤ c) && decide (c < k))) || (c == k)) = (S c || (decide (lo ≤ c) && decide (c < k + 1)))) := fun c _ => by
        cases S c
        · simp only [Bool.false_or]; rw [Bool.eq_iff_iff]; simp; omega
        · simp
      obtain hq | hq | hq | hq : (k : Int) / 64 = 0 ∨ (k : Int) / 64 = 1 ∨ (k : Int) / 64 = 2 ∨ (k : Int) / 64 = 3 := by omega
      all_goals
        have hr : 0 ≤ (k : Int) % 64 := by omega
        have hr2 : (k : Int) % 64 < 64 := by omega
        go_wp2
        go_region
        go_wp2
        go_roundw
        case rel =>
          have hm := HM.out
          refine ⟨k + 1, _, _, _, _, _, _, _, _, by omega, by omega, by go_num, ?_, HG.out.far (by omega) _ _, (HB.out.setCell (Nat.le_refl _) _).drew, S4.congr hm HSn.out, .inl (by omega)⟩
          first
            | (rw [or_pow _ _ HS4.out.a0, if_pos (by omega), if_neg (by omega), if_neg (by omega), if_neg (by omega)]; exact HF.out.put0 _)
            | (rw [or_pow _ _ HS4.out.a1, if_neg (by omega), if_pos (by omega), if_neg (by omega), if_neg (by omega)]; exact HF.out.put1 _)
            | (rw [or_pow _ _ HS4.out.a2, if_neg (by omega), if_neg (by omega), if_pos (by omega), if_neg (by omega)]; exact HF.out.put2 _)
            | (rw [or_pow _ _ HS4.out.a3, if_neg (by omega), if_neg (by omega), if_neg (by omega), if_pos (by omega)]; exact HF.out.put3 _)
        case measure => simp [intOf]; omega
    · obtain ⟨d0, d1, d2, d3, e0, e1, e2, e3⟩ := hG
      go_wp2
      refine bodyPost_ret (v := .agg #[.int .u64 y0, .int .u64 y1, .int .u64 y2, .int .u64 y3]) (by simp [results, Try.results124, go_sem, *]) rfl ⟨⟨_, _, _, _, rfl, S4.congr HS4.out fun c hc => ?_⟩, (((HB.out.setCell (by simp) _).setCell (by simp) _).setCell (by simp) _).setCell (by simp) _⟩
      have := HKH.out
      congr 1
      rw [Bool.eq_iff_iff]; simp; omega
end Tr
end Go.Proofs.Ytppjlpihaocdiaa
