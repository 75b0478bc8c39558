/- The program's tables of stretches: either, onward, then. -/
import Derived.Test.YtppjlpihaocdiaaStrs
import Derived.Deep.RegionLaw
import Derived.BigRegion
set_option linter.unusedSimpArgs false
set_option linter.unusedVariables false
namespace Go.Proofs.Ytppjlpihaocdiaa
open Go.RowKit
attribute [local go_sem ↓] MP_eq

set_option maxHeartbeats 1000000 in
theorem either_any (L g1 g2 c1 c2 : Nat) (w : World) (M1 M2 : Nat → Nat → Bool) (hL : L ≤ 80) (h1 : Sts w g1 L M1) (h2 : Sts w g2 L M2) :
    Calls Try.prog 98 #[.slice (some ⟨g1, 0, none⟩) (L + 1) c1, .slice (some ⟨g2, 0, none⟩) (L + 1) c2] w fun e w' => ∃ g : Nat, e = .returned (.slice (some ⟨g, 0, none⟩) (L + 1) (L + 1)) ∧ w.heap.size ≤ g ∧ Sts w' g L (fun i j => M1 i j || M2 i j) ∧ Below w.heap.size w w' := by
  obtain ⟨A1, hA1, m1⟩ := run_MP (L + 1) (by omega)
  rw [show ((L + 1 : Nat) : Int) = (L : Int) + 1 by omega] at m1
  have H1 : Hid (Sts w g1 L M1) := h1
  have H2 : Hid (Sts w g2 L M2) := h2
  have l1 := h1.lt
  have l2 := h2.lt
  clear h1 h2
  go_enter Try.func98, Try.ntmps98
  go_wp2_with fail
  go_loopw [12] (fun v wr => ∃ (k : Nat), k ≤ L + 1 ∧ v = .int .i64 k ∧ Hid (Sts wr w.heap.size L (upto k fun i j => M1 i j || M2 i j)) ∧ Hid (Below w.heap.size w wr) ∧ w.heap.size < wr.heap.size) (fun v _ => L + 1 - (intOf v).toNat)
  case atStart => exact ⟨0, by omega, rfl, (Sts.new hA1).cast (fun i hi j => by simp [upto]), (Below.refl _ _).alloc (Nat.le_refl _) _, by simp⟩
  case round =>
    obtain ⟨k, hk, rfl, HS, HB, hsz⟩ := hrel
    by_cases hlt : k ≤ L
    · obtain ⟨A, B, a1, a2, a3, a4, P1⟩ := (H1.out.below HB.out l1).cell k hlt
      obtain ⟨A', B', b1, b2, b3, b4, P2⟩ := (H2.out.below HB.out l2).cell k hlt
      obtain ⟨A0, B0, d1, d2, d3, d4, P0⟩ := HS.out.cell k hlt
      have HP1 : Hid (Pl A B (M1 k)) := P1
      have HP2 : Hid (Pl A' B' (M2 k)) := P2
      clear P1 P2 P0 m1 hA1
      go_wp2_with fail
      go_region_with (first | (go_at_call 115; (refine (pwith_any A B A' B' _ _ _ HP1.out HP2.out).mono ?_; rintro e w1 ⟨A2, B2, rfl, hP, hB1⟩; have HP : Hid (Pl A2 B2 fun q => M1 k q || M2 k q) := hP; have hB2 : Below wr.heap.size wr w1 := (Below.refl wr.heap.size wr).drew.trans hB1; have hS1 := HS.out.below hB2 hsz; have HS1 : Hid (Sts w1 w.heap.size L _) := hS1; obtain ⟨A3, B3, z1, z2, z3, z4, z5⟩ := hS1.cell k hlt; have HBB : Hid (Below wr.heap.size wr w1) := hB2; clear hP hB1 hB2 hS1 z5)))
      all_goals
        go_wp2_with fail
        go_roundw
        case rel => exact ⟨k + 1, by omega, by go_num, HS1.out.next hlt HP.out, ((HB.out.trans (HBB.out.mono (by omega))).setCell (Nat.le_refl _) _).setCell (Nat.le_refl _) _, by have := HBB.out.size; simp [World.setCell]; omega⟩
        case measure => simp [intOf]; omega
    · have hk2 : k = L + 1 := by omega
      subst hk2
      go_wp2_with fail
      go_ret
      exact ⟨_, rfl, Nat.le_refl _, HS.out.cast (fun i hi j => by simp [upto]; omega), HB.out⟩

/-- From i over a place from lo on and below k, by s and then by r, to j. -/
def ow (s r : Nat → Nat → Bool) (i lo k j : Nat) : Bool := (List.range k).any fun m => decide (lo ≤ m) && (s i m && r m j)

theorem ow_succ (s r : Nat → Nat → Bool) (i lo k j : Nat) : ow s r i lo (k + 1) j = (ow s r i lo k j || (decide (lo ≤ k) && (s i k && r k j))) := by
  unfold ow; rw [List.range_succ, List.any_append]; simp

theorem ow_none (s r : Nat → Nat → Bool) (i lo k j : Nat) (h : k ≤ lo) : ow s r i lo k j = false := by
  unfold ow
  rw [List.any_eq_false]
  intro m hm
  have := List.mem_range.1 hm
  simp; omega

theorem ow_iff (s r : Nat → Nat → Bool) (i lo k j : Nat) : ow s r i lo k j = true ↔ ∃ m, lo ≤ m ∧ m < k ∧ s i m = true ∧ r m j = true := by
  unfold ow
  rw [List.any_eq_true]
  constructor
  · rintro ⟨m, hm, h⟩
    simp at h
    exact ⟨m, h.1, List.mem_range.1 hm, h.2.1, h.2.2⟩
  · rintro ⟨m, h1, h2, h3, h4⟩
    exact ⟨m, List.mem_range.2 h2, by simp [*]⟩

theorem ow_congr {s r r' : Nat → Nat → Bool} {i lo k j : Nat} (h : ∀ m, lo ≤ m → m < k → r m j = r' m j) : ow s r i lo k j = ow s r' i lo k j := by
  unfold ow
  rw [Bool.eq_iff_iff, List.any_eq_true, List.any_eq_true]
  constructor
  all_goals
    rintro ⟨m, hm, hh⟩
    refine ⟨m, hm, ?_⟩
    simp only [Bool.and_eq_true, decide_eq_true_eq] at hh ⊢
    have e := h m hh.1 (List.mem_range.1 hm)
    first | (rw [← e]; exact hh) | (rw [e]; exact hh)

theorem Two.of_block {w w' : World} {b : Nat} {x y : Int} (h : Two w b x y) (hb : w'.heap[b]? = w.heap[b]?) : Two w' b x y := by
  obtain ⟨c0, c1, f0, f1⟩ := h
  have hc : ∀ k, w'.cell? ⟨b, k, none⟩ = w.cell? ⟨b, k, none⟩ := fun k => World.cell?_of_block (w := w) (w' := w') (a := ⟨b, k, none⟩) hb
  have hf : ∀ k, w'.frozen? ⟨b, k, none⟩ = w.frozen? ⟨b, k, none⟩ := fun k => World.frozen?_of_block (w := w) (w' := w') (a := ⟨b, k, none⟩) hb
  exact ⟨(hc _).trans c0, (hc _).trans c1, (hf _).trans f0, (hf _).trans f1⟩

theorem Two.put {w : World} {b : Nat} {x y : Int} (h : Two w b x y) (x' y' : Int) : Two ((w.setCell ⟨b, 0, none⟩ (.int .u64 x')).setCell ⟨b, 1, none⟩ (.int .u64 y')) b x' y' := by
  obtain ⟨c0, c1, f0, f1⟩ := h
  constructor <;> go_simp

theorem Two.far {w : World} {b a : Nat} {x y : Int} (h : Two w b x y) (hne : a ≠ b) (o : Nat) (v : Value) : Two (w.setCell ⟨a, o, none⟩ v) b x y :=
  h.of_block (Below.heap_setCell _ _ _ _ (fun e => hne (by simpa using e.symm)))

set_option maxHeartbeats 1000000 in
theorem onward_any (L g1 g2 c1 c2 i lo : Nat) (w : World) (M1 M2 : Nat → Nat → Bool) (hL : L ≤ 80) (hi : i ≤ L) (hlo : lo ≤ L + 1) (h1 : Sts w g1 L M1) (h2 : Sts w g2 L M2) :
    Calls Try.prog 116 #[.slice (some ⟨g1, 0, none⟩) (L + 1) c1, .int .i64 i, .int .i64 lo, .slice (some ⟨g2, 0, none⟩) (L + 1) c2] w fun e w' => ∃ A B : Nat, e = .returned (.agg #[.int .u64 A, .int .u64 B]) ∧ Pl A B (ow M1 M2 i lo (L + 1)) ∧ Below w.heap.size w w' := by
  have H1 : Hid (Sts w g1 L M1) := h1
  have H2 : Hid (Sts w g2 L M2) := h2
  have l1 := h1.lt
  have l2 := h2.lt
  clear h1 h2
  go_enter Try.func116, Try.ntmps116
  go_wp2_with fail
  go_loopw [10] (fun v wr => ∃ (k A B : Nat), lo ≤ k ∧ k ≤ L + 1 ∧ v = .int .i64 k ∧ Hid (Two wr w.heap.size 0 0) ∧ Hid (Two wr (w.heap.size + 1) A B) ∧ Hid (Pl A B (ow M1 M2 i lo k)) ∧ Hid (Below w.heap.size w wr) ∧ w.heap.size + 1 < wr.heap.size) (fun v _ => L + 1 - (intOf v).toNat)
  case atStart => exact ⟨lo, 0, 0, by omega, by omega, rfl, by constructor <;> go_simp, by constructor <;> go_simp, by rw [show ow M1 M2 i lo lo = fun _ => false from funext fun j => ow_none _ _ _ _ _ _ (Nat.le_refl _)]; exact Pl.zero, ((Below.refl _ _).alloc (Nat.le_refl _) _).alloc (by simp) _, by simp⟩
  case round =>
    obtain ⟨k, A, B, hk1, hk2, rfl, HT, HU, HP, HB, hsz⟩ := hrel
    by_cases hlt : k ≤ L
    · obtain ⟨A1, B1, a1, a2, a3, a4, P1⟩ := (H1.out.below HB.out l1).cell i hi
      have HP1 : Hid (Pl A1 B1 (M1 i)) := P1
      clear P1
      go_wp2_with fail
      refine (has_any A1 B1 k _ (by omega) _ HP1.out).mono ?_
      rcases bool_or (M1 i k) with hm | hm
      · have HM : Hid (M1 i k = true) := hm
        rw [hm]
        clear hm
        rintro e w1 ⟨rfl, hB1⟩
        have HB1 : Hid (Below wr.heap.size wr w1) := hB1
        have HB2 : Hid (Below w.heap.size w w1) := HB.out.trans (hB1.mono (by omega))
        have hsz1 : w.heap.size + 1 < w1.heap.size := Nat.lt_of_lt_of_le hsz hB1.size
        have HT1 : Hid (Two w1 w.heap.size 0 0) := HT.out.of_block (hB1.block _ (by omega))
        have HU1 : Hid (Two w1 (w.heap.size + 1) A B) := HU.out.of_block (hB1.block _ (by omega))
        obtain ⟨u1, u2, u3, u4⟩ := HU1.out
        obtain ⟨A2, B2, b1, b2, b3, b4, P2⟩ := (H2.out.below HB2.out l2).cell k hlt
        have HP2 : Hid (Pl A2 B2 (M2 k)) := P2
        clear P2 hB1 a1 a2 a3 a4
        go_wp2_with fail
        go_region_with (first | (go_at_call 115; (refine (pwith_any A B A2 B2 _ _ _ HP.out HP2.out).mono ?_; rintro e w2 ⟨A3, B3, rfl, hP, hB3⟩; have HP3 : Hid (Pl A3 B3 fun q => ow M1 M2 i lo k q || M2 k q) := hP; have hB4 : Below w1.heap.size w1 w2 := (Below.refl w1.heap.size w1).drew.trans hB3; have HT3 : Hid (Two w2 w.heap.size 0 0) := HT1.out.of_block (hB4.block _ (by omega)); have HU3 : Hid (Two w2 (w.heap.size + 1) A B) := HU1.out.of_block (hB4.block _ (by omega)); obtain ⟨z1, z2, z3, z4⟩ := HU3.out; have HBB : Hid (Below w1.heap.size w1 w2) := hB4; clear hP hB3 hB4)))
        all_goals
          go_wp2_with fail
          go_roundw
          case rel => exact ⟨k + 1, A3, B3, by omega, by omega, by go_num, (HT3.out.far (by omega) _ _).far (by omega) _ _, HU3.out.put _ _, by
            rw [show ow M1 M2 i lo (k + 1) = fun q => ow M1 M2 i lo k q || M2 k q from funext fun q => by rw [ow_succ, HM.out]; simp [hk1]]; exact HP3.out, ((HB2.out.trans (HBB.out.mono (by omega))).setCell (by simp) _).setCell (by simp) _, by have := HBB.out.size; simp [World.setCell]; omega⟩
          case measure => simp [intOf]; omega
      · have HM : Hid (M1 i k = false) := hm
        rw [hm]
        clear hm
        rintro e w1 ⟨rfl, hB1⟩
        have HB1 : Hid (Below wr.heap.size wr w1) := hB1
        clear hB1
        go_wp2_with fail
        go_roundw
        case rel => exact ⟨k + 1, A, B, by omega, by omega, by go_num, HT.out.of_block (HB1.out.block _ (by omega)), HU.out.of_block (HB1.out.block _ (by omega)), by
            rw [show ow M1 M2 i lo (k + 1) = ow M1 M2 i lo k from funext fun q => by rw [ow_succ, HM.out]; simp]; exact HP.out, HB.out.trans (HB1.out.mono (by omega)), Nat.lt_of_lt_of_le hsz HB1.out.size⟩
        case measure => simp [intOf]; omega
    · have hk3 : k = L + 1 := by omega
      subst hk3
      obtain ⟨u1, u2, u3, u4⟩ := HU.out
      obtain ⟨t1, t2, t3, t4⟩ := HT.out
      go_wp2_with fail
      exact bodyPost_ret (v := .agg #[.int .u64 (A : Int), .int .u64 (B : Int)]) (by simp [results, Try.results116, go_sem, *]) rfl ⟨A, B, rfl, HP.out, (HB.out.setCell (Nat.le_refl _) _).setCell (Nat.le_refl _) _⟩

set_option maxHeartbeats 1000000 in
theorem then_any (L g1 g2 c1 c2 : Nat) (w : World) (M1 M2 : Nat → Nat → Bool) (hL : L ≤ 80) (h1 : Sts w g1 L M1) (h2 : Sts w g2 L M2) :
    Calls Try.prog 96 #[.slice (some ⟨g1, 0, none⟩) (L + 1) c1, .slice (some ⟨g2, 0, none⟩) (L + 1) c2] w fun e w' => ∃ g : Nat, e = .returned (.slice (some ⟨g, 0, none⟩) (L + 1) (L + 1)) ∧ w.heap.size ≤ g ∧ Sts w' g L (fun i j => ow M1 M2 i i (L + 1) j) ∧ Below w.heap.size w w' := by
  obtain ⟨A1, hA1, m1⟩ := run_MP (L + 1) (by omega)
  rw [show ((L + 1 : Nat) : Int) = (L : Int) + 1 by omega] at m1
  have H1 : Hid (Sts w g1 L M1) := h1
  have H2 : Hid (Sts w g2 L M2) := h2
  have l1 := h1.lt
  have l2 := h2.lt
  clear h1 h2
  go_enter Try.func96, Try.ntmps96
  go_wp2_with fail
  go_loopw [12] (fun v wr => ∃ (k : Nat), k ≤ L + 1 ∧ v = .int .i64 k ∧ Hid (Sts wr w.heap.size L (upto k fun i j => ow M1 M2 i i (L + 1) j)) ∧ Hid (Below w.heap.size w wr) ∧ w.heap.size < wr.heap.size) (fun v _ => L + 1 - (intOf v).toNat)
  case atStart => exact ⟨0, by omega, rfl, (Sts.new hA1).cast (fun i hi j => by simp [upto]), (Below.refl _ _).alloc (Nat.le_refl _) _, by simp⟩
  case round =>
    obtain ⟨k, hk, rfl, HS, HB, hsz⟩ := hrel
    by_cases hlt : k ≤ L
    · go_wp2_with fail
      refine (onward_any L g1 g2 c1 c2 k k _ M1 M2 hL hlt (by omega) (H1.out.below HB.out l1) (H2.out.below HB.out l2)).mono ?_
      rintro e w1 ⟨A, B, rfl, hP, hB1⟩
      have HP : Hid (Pl A B (ow M1 M2 k k (L + 1))) := hP
      have HS1 : Hid (Sts w1 w.heap.size L (upto k fun i j => ow M1 M2 i i (L + 1) j)) := HS.out.below hB1 hsz
      have HB1 : Hid (Below w.heap.size w w1) := HB.out.trans (hB1.mono (by omega))
      have hsz1 : w.heap.size < w1.heap.size := Nat.lt_of_lt_of_le hsz hB1.size
      obtain ⟨A', B', h1, h2, h3, h4, h5⟩ := HS1.out.cell k hlt
      clear hP hB1 h5
      go_wp2_with fail
      go_roundw
      case rel => exact ⟨k + 1, by omega, by go_num, HS1.out.next hlt HP.out, (HB1.out.setCell (Nat.le_refl _) _).setCell (Nat.le_refl _) _, by simp [World.setCell]; omega⟩
      case measure => simp [intOf]; omega
    · have hk2 : k = L + 1 := by omega
      subst hk2
      go_wp2_with fail
      go_ret
      exact ⟨_, rfl, Nat.le_refl _, HS.out.cast (fun i hi j => by simp [upto]; omega), HB.out⟩
end Go.Proofs.Ytppjlpihaocdiaa
