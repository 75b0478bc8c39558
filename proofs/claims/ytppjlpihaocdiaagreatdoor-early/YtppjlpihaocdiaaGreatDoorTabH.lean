/- Several texts in one. -/
import Derived.Test.YtppjlpihaocdiaaGreatDoorStrsH
import Derived.Deep.RegionLaw
import Derived.BigRegion
import Derived.Test.YtppjlpihaocdiaaGreatDoorPrSpecH
/- A part of the proof. -/
set_option linter.unusedSimpArgs false
set_option linter.unusedVariables false
namespace Go.Proofs.YtppjlpihaocdiaaGreatDoor
open Go.RowKit
attribute [local go_sem ↓] MP_eq
set_option maxHeartbeats 1000000 in
theorem either_any (L g1 g2 c1 c2 : Nat) (w : World) (M1 M2 : Nat → Nat → Bool) (hL : L ≤ 80) (h1 : Sts w g1 L M1) (h2 : Sts w g2 L M2) :
    Calls Tryz.prog 157 #[.slice (some ⟨g1, 0, none⟩) (L + 1) c1, .slice (some ⟨g2, 0, none⟩) (L + 1) c2] w fun e w' => ∃ g : Nat, e = .returned (.slice (some ⟨g, 0, none⟩) (L + 1) (L + 1)) ∧ w.heap.size ≤ g ∧ Sts w' g L (fun i j => M1 i j || M2 i j) ∧ Below w.heap.size w w' := by
  obtain ⟨A1, hA1, m1⟩ := run_MP (L + 1) (by omega)
  rw [show ((L + 1 : Nat) : Int) = (L : Int) + 1 by omega] at m1
  have H1 : Hid (Sts w g1 L M1) := h1
  have H2 : Hid (Sts w g2 L M2) := h2
  have l1 := h1.lt
  have l2 := h2.lt
  clear h1 h2
  go_enter Tryz.func157, Tryz.ntmps157
  go_wp2_with fail
  go_loopw [12] (fun v wr => ∃ (k : Nat), k ≤ L + 1 ∧ v = .int .i64 k ∧ Hid (Sts wr w.heap.size L (upto k fun i j => M1 i j || M2 i j)) ∧ Hid (Below w.heap.size w wr) ∧ w.heap.size < wr.heap.size) (fun v _ => L + 1 - (intOf v).toNat)
  case atStart => exact ⟨0, by omega, rfl, (Sts.new hA1).cast (fun i hi j => by simp [upto]), (Below.refl _ _).alloc (Nat.le_refl _) _, by simp⟩
  case round =>
    obtain ⟨k, hk, rfl, HS, HB, hsz⟩ := hrel
    by_cases hlt : k ≤ L
    · obtain ⟨A, B, a1, a2, a3, a4, P1⟩ := (H1.out.below HB.out l1).cell k hlt
      obtain ⟨A', B', b1, b2, b3, b4, P2⟩ := (H2.out.below HB.out l2).cell k hlt
      obtain ⟨A0, B0, d1, d2, d3, d4, P0⟩ := HS.out.cell k hlt
      have HP1 : Hid (Pl A B (M1 k)) := P1
      have HP2 : Hid (Pl A' B' (M2 k)) := P2
      clear P1 P2 P0 m1 hA1
      go_wp2_with fail
      go_region_with (first | (go_at_call 190; (refine (pwith_any A B A' B' _ _ _ HP1.out HP2.out).mono ?_; rintro e w1 ⟨A2, B2, rfl, hP, hB1⟩; have HP : Hid (Pl A2 B2 fun q => M1 k q || M2 k q) := hP; have hB2 : Below wr.heap.size wr w1 := (Below.refl wr.heap.size wr).drew.trans hB1; have hS1 := HS.out.below hB2 hsz; have HS1 : Hid (Sts w1 w.heap.size L _) := hS1; obtain ⟨A3, B3, z1, z2, z3, z4, z5⟩ := hS1.cell k hlt; have HBB : Hid (Below wr.heap.size wr w1) := hB2; clear hP hB1 hB2 hS1 z5)))
      all_goals
        go_wp2_with fail
        go_roundw
        case rel => exact ⟨k + 1, by omega, by go_num, HS1.out.next hlt HP.out, ((HB.out.trans (HBB.out.mono (by omega))).setCell (Nat.le_refl _) _).setCell (Nat.le_refl _) _, by have := HBB.out.size; simp [World.setCell]; omega⟩
        case measure => simp [intOf]; omega
    · have hk2 : k = L + 1 := by omega
      subst hk2
      go_wp2_with fail
      go_ret
      exact ⟨_, rfl, Nat.le_refl _, HS.out.cast (fun i hi j => by simp [upto]; omega), HB.out⟩
def ow (s r : Nat → Nat → Bool) (i lo k j : Nat) : Bool := (List.range k).any fun m => decide (lo ≤ m) && (s i m && r m j)
theorem ow_succ (s r : Nat → Nat → Bool) (i lo k j : Nat) : ow s r i lo (k + 1) j = (ow s r i lo k j || (decide (lo ≤ k) && (s i k && r k j))) := by
  unfold ow; rw [List.range_succ, List.any_append]; simp
theorem ow_none (s r : Nat → Nat → Bool) (i lo k j : Nat) (h : k ≤ lo) : ow s r i lo k j = false := by
  unfold ow
  rw [List.any_eq_false]
  intro m hm
  have := List.mem_range.1 hm
  simp; omega
theorem ow_iff (s r : Nat → Nat → Bool) (i lo k j : Nat) : ow s r i lo k j = true ↔ ∃ m, lo ≤ m ∧ m < k ∧ s i m = true ∧ r m j = true := by
  unfold ow
  rw [List.any_eq_true]
  constructor
  · rintro ⟨m, hm, h⟩
    simp at h
    exact ⟨m, h.1, List.mem_range.1 hm, h.2.1, h.2.2⟩
  · rintro ⟨m, h1, h2, h3, h4⟩
    exact ⟨m, List.mem_range.2 h2, by simp [*]⟩
theorem ow_congr {s r r' : Nat → Nat → Bool} {i lo k j : Nat} (h : ∀ m, lo ≤ m → m < k → r m j = r' m j) : ow s r i lo k j = ow s r' i lo k j := by
  unfold ow
  rw [Bool.eq_iff_iff, List.any_eq_true, List.any_eq_true]
  constructor
  all_goals
    rintro ⟨m, hm, hh⟩
    refine ⟨m, hm, ?_⟩
    simp only [Bool.and_eq_true, decide_eq_true_eq] at hh ⊢
    have e := h m hh.1 (List.mem_range.1 hm)
    first | (rw [← e]; exact hh) | (rw [e]; exact hh)
theorem Two.of_block {w w' : World} {b : Nat} {x y : Int} (h : Two w b x y) (hb : w'.heap[b]? = w.heap[b]?) : Two w' b x y := by
  obtain ⟨c0, c1, f0, f1⟩ := h
  have hc : ∀ k, w'.cell? ⟨b, k, none⟩ = w.cell? ⟨b, k, none⟩ := fun k => World.cell?_of_block (w := w) (w' := w') (a := ⟨b, k, none⟩) hb
  have hf : ∀ k, w'.frozen? ⟨b, k, none⟩ = w.frozen? ⟨b, k, none⟩ := fun k => World.frozen?_of_block (w := w) (w' := w') (a := ⟨b, k, none⟩) hb
  exact ⟨(hc _).trans c0, (hc _).trans c1, (hf _).trans f0, (hf _).trans f1⟩
theorem Two.put {w : World} {b : Nat} {x y : Int} (h : Two w b x y) (x' y' : Int) : Two ((w.setCell ⟨b, 0, none⟩ (.int .u64 x')).setCell ⟨b, 1, none⟩ (.int .u64 y')) b x' y' := by
  obtain ⟨c0, c1, f0, f1⟩ := h
  constructor <;> go_simp
theorem Two.far {w : World} {b a : Nat} {x y : Int} (h : Two w b x y) (hne : a ≠ b) (o : Nat) (v : Value) : Two (w.setCell ⟨a, o, none⟩ v) b x y :=
  h.of_block (Below.heap_setCell _ _ _ _ (fun e => hne (by simpa using e.symm)))
set_option maxHeartbeats 1000000 in
theorem onward_any (L g1 g2 c1 c2 i lo : Nat) (w : World) (M1 M2 : Nat → Nat → Bool) (hL : L ≤ 80) (hi : i ≤ L) (hlo : lo ≤ L + 1) (h1 : Sts w g1 L M1) (h2 : Sts w g2 L M2) :
    Calls Tryz.prog 191 #[.slice (some ⟨g1, 0, none⟩) (L + 1) c1, .int .i64 i, .int .i64 lo, .slice (some ⟨g2, 0, none⟩) (L + 1) c2] w fun e w' => ∃ A B : Nat, e = .returned (.agg #[.int .u64 A, .int .u64 B]) ∧ Pl A B (ow M1 M2 i lo (L + 1)) ∧ Below w.heap.size w w' := by
  have H1 : Hid (Sts w g1 L M1) := h1
  have H2 : Hid (Sts w g2 L M2) := h2
  have l1 := h1.lt
  have l2 := h2.lt
  clear h1 h2
  go_enter Tryz.func191, Tryz.ntmps191
  go_wp2_with fail
  go_loopw [10] (fun v wr => ∃ (k A B : Nat), lo ≤ k ∧ k ≤ L + 1 ∧ v = .int .i64 k ∧ Hid (Two wr w.heap.size 0 0) ∧ Hid (Two wr (w.heap.size + 1) A B) ∧ Hid (Pl A B (ow M1 M2 i lo k)) ∧ Hid (Below w.heap.size w wr) ∧ w.heap.size + 1 < wr.heap.size) (fun v _ => L + 1 - (intOf v).toNat)
  case atStart => exact ⟨lo, 0, 0, by omega, by omega, rfl, by constructor <;> go_simp, by constructor <;> go_simp, by rw [show ow M1 M2 i lo lo = fun _ => false from funext fun j => ow_none _ _ _ _ _ _ (Nat.le_refl _)]; exact Pl.zero, ((Below.refl _ _).alloc (Nat.le_refl _) _).alloc (by simp) _, by simp⟩
  case round =>
    obtain ⟨k, A, B, hk1, hk2, rfl, HT, HU, HP, HB, hsz⟩ := hrel
    by_cases hlt : k ≤ L
    · obtain ⟨A1, B1, a1, a2, a3, a4, P1⟩ := (H1.out.below HB.out l1).cell i hi
      have HP1 : Hid (Pl A1 B1 (M1 i)) := P1
      clear P1
      go_wp2_with fail
      refine (has_any A1 B1 k _ (by omega) _ HP1.out).mono ?_
      rcases bool_or (M1 i k) with hm | hm
      · have HM : Hid (M1 i k = true) := hm
        rw [hm]
        clear hm
        rintro e w1 ⟨rfl, hB1⟩
        have HB1 : Hid (Below wr.heap.size wr w1) := hB1
        have HB2 : Hid (Below w.heap.size w w1) := HB.out.trans (hB1.mono (by omega))
        have hsz1 : w.heap.size + 1 < w1.heap.size := Nat.lt_of_lt_of_le hsz hB1.size
        have HT1 : Hid (Two w1 w.heap.size 0 0) := HT.out.of_block (hB1.block _ (by omega))
        have HU1 : Hid (Two w1 (w.heap.size + 1) A B) := HU.out.of_block (hB1.block _ (by omega))
        obtain ⟨u1, u2, u3, u4⟩ := HU1.out
        obtain ⟨A2, B2, b1, b2, b3, b4, P2⟩ := (H2.out.below HB2.out l2).cell k hlt
        have HP2 : Hid (Pl A2 B2 (M2 k)) := P2
        clear P2 hB1 a1 a2 a3 a4
        go_wp2_with fail
        go_region_with (first | (go_at_call 190; (refine (pwith_any A B A2 B2 _ _ _ HP.out HP2.out).mono ?_; rintro e w2 ⟨A3, B3, rfl, hP, hB3⟩; have HP3 : Hid (Pl A3 B3 fun q => ow M1 M2 i lo k q || M2 k q) := hP; have hB4 : Below w1.heap.size w1 w2 := (Below.refl w1.heap.size w1).drew.trans hB3; have HT3 : Hid (Two w2 w.heap.size 0 0) := HT1.out.of_block (hB4.block _ (by omega)); have HU3 : Hid (Two w2 (w.heap.size + 1) A B) := HU1.out.of_block (hB4.block _ (by omega)); obtain ⟨z1, z2, z3, z4⟩ := HU3.out; have HBB : Hid (Below w1.heap.size w1 w2) := hB4; clear hP hB3 hB4)))
        all_goals
          go_wp2_with fail
          go_roundw
          case rel => exact ⟨k + 1, A3, B3, by omega, by omega, by go_num, (HT3.out.far (by omega) _ _).far (by omega) _ _, HU3.out.put _ _, by
            rw [show ow M1 M2 i lo (k + 1) = fun q => ow M1 M2 i lo k q || M2 k q from funext fun q => by rw [ow_succ, HM.out]; simp [hk1]]; exact HP3.out, ((HB2.out.trans (HBB.out.mono (by omega))).setCell (by simp) _).setCell (by simp) _, by have := HBB.out.size; simp [World.setCell]; omega⟩
          case measure => simp [intOf]; omega
      · have HM : Hid (M1 i k = false) := hm
        rw [hm]
        clear hm
        rintro e w1 ⟨rfl, hB1⟩
        have HB1 : Hid (Below wr.heap.size wr w1) := hB1
        clear hB1
        go_wp2_with fail
        go_roundw
        case rel => exact ⟨k + 1, A, B, by omega, by omega, by go_num, HT.out.of_block (HB1.out.block _ (by omega)), HU.out.of_block (HB1.out.block _ (by omega)), by
            rw [show ow M1 M2 i lo (k + 1) = ow M1 M2 i lo k from funext fun q => by rw [ow_succ, HM.out]; simp]; exact HP.out, HB.out.trans (HB1.out.mono (by omega)), Nat.lt_of_lt_of_le hsz HB1.out.size⟩
        case measure => simp [intOf]; omega
    · have hk3 : k = L + 1 := by omega
      subst hk3
      obtain ⟨u1, u2, u3, u4⟩ := HU.out
      obtain ⟨t1, t2, t3, t4⟩ := HT.out
      go_wp2_with fail
      exact bodyPost_ret (v := .agg #[.int .u64 (A : Int), .int .u64 (B : Int)]) (by simp [results, Tryz.results191, go_sem, *]) rfl ⟨A, B, rfl, HP.out, (HB.out.setCell (Nat.le_refl _) _).setCell (Nat.le_refl _) _⟩
set_option maxHeartbeats 1000000 in
theorem then_any (L g1 g2 c1 c2 : Nat) (w : World) (M1 M2 : Nat → Nat → Bool) (hL : L ≤ 80) (h1 : Sts w g1 L M1) (h2 : Sts w g2 L M2) :
    Calls Tryz.prog 155 #[.slice (some ⟨g1, 0, none⟩) (L + 1) c1, .slice (some ⟨g2, 0, none⟩) (L + 1) c2] w fun e w' => ∃ g : Nat, e = .returned (.slice (some ⟨g, 0, none⟩) (L + 1) (L + 1)) ∧ w.heap.size ≤ g ∧ Sts w' g L (fun i j => ow M1 M2 i i (L + 1) j) ∧ Below w.heap.size w w' := by
  obtain ⟨A1, hA1, m1⟩ := run_MP (L + 1) (by omega)
  rw [show ((L + 1 : Nat) : Int) = (L : Int) + 1 by omega] at m1
  have H1 : Hid (Sts w g1 L M1) := h1
  have H2 : Hid (Sts w g2 L M2) := h2
  have l1 := h1.lt
  have l2 := h2.lt
  clear h1 h2
  go_enter Tryz.func155, Tryz.ntmps155
  go_wp2_with fail
  go_loopw [12] (fun v wr => ∃ (k : Nat), k ≤ L + 1 ∧ v = .int .i64 k ∧ Hid (Sts wr w.heap.size L (upto k fun i j => ow M1 M2 i i (L + 1) j)) ∧ Hid (Below w.heap.size w wr) ∧ w.heap.size < wr.heap.size) (fun v _ => L + 1 - (intOf v).toNat)
  case atStart => exact ⟨0, by omega, rfl, (Sts.new hA1).cast (fun i hi j => by simp [upto]), (Below.refl _ _).alloc (Nat.le_refl _) _, by simp⟩
  case round =>
    obtain ⟨k, hk, rfl, HS, HB, hsz⟩ := hrel
    by_cases hlt : k ≤ L
    · go_wp2_with fail
      refine (onward_any L g1 g2 c1 c2 k k _ M1 M2 hL hlt (by omega) (H1.out.below HB.out l1) (H2.out.below HB.out l2)).mono ?_
      rintro e w1 ⟨A, B, rfl, hP, hB1⟩
      have HP : Hid (Pl A B (ow M1 M2 k k (L + 1))) := hP
      have HS1 : Hid (Sts w1 w.heap.size L (upto k fun i j => ow M1 M2 i i (L + 1) j)) := HS.out.below hB1 hsz
      have HB1 : Hid (Below w.heap.size w w1) := HB.out.trans (hB1.mono (by omega))
      have hsz1 : w.heap.size < w1.heap.size := Nat.lt_of_lt_of_le hsz hB1.size
      obtain ⟨A', B', h1, h2, h3, h4, h5⟩ := HS1.out.cell k hlt
      clear hP hB1 h5
      go_wp2_with fail
      go_roundw
      case rel => exact ⟨k + 1, by omega, by go_num, HS1.out.next hlt HP.out, (HB1.out.setCell (Nat.le_refl _) _).setCell (Nat.le_refl _) _, by simp [World.setCell]; omega⟩
      case measure => simp [intOf]; omega
    · have hk2 : k = L + 1 := by omega
      subst hk2
      go_wp2_with fail
      go_ret
      exact ⟨_, rfl, Nat.le_refl _, HS.out.cast (fun i hi j => by simp [upto]; omega), HB.out⟩
end Go.Proofs.YtppjlpihaocdiaaGreatDoor

/- A part of the proof. -/
set_option linter.unusedSimpArgs false
set_option linter.unusedVariables false
namespace Go.Proofs.YtppjlpihaocdiaaGreatDoor
open Go.RowKit
def half (k : Nat) (M E : Nat → Nat → Bool) (i j : Nat) : Bool := if i < k then M i j else E i j
theorem Sts.step {w : World} {g L k A B : Nat} {M E : Nat → Nat → Bool} (h : Sts w g L (half k M E)) (hk : k ≤ L) (hP : Pl A B (M k)) :
    Sts ((w.setCell ⟨g, k * 2, none⟩ (.int .u64 A)).setCell ⟨g, k * 2 + 1, none⟩ (.int .u64 B)) g L (half (k + 1) M E) := by
  refine (h.put hk hP).cast fun i hi j => ?_
  unfold half
  by_cases e : i = k
  · subst e; simp
  · simp only [e, if_false]
    by_cases h : i < k
    · rw [if_pos h, if_pos (by omega)]
    · rw [if_neg h, if_neg (by omega)]
theorem wrap_one (k n : Nat) (h : n = k + 1) (hk : k ≤ 1000) : IntKind.i64.wrap ((k : Int) + 1) = (n : Int) := by
  subst h
  simp [IntKind.wrap, IntKind.min, IntKind.signed, IntKind.bits] <;> omega
theorem onward_at (L g1 g2 c1 c2 i lo : Nat) (v : Int) (hv : v = (lo : Int)) (w : World) (M1 M2 : Nat → Nat → Bool) (hL : L ≤ 80) (hi : i ≤ L) (hlo : lo ≤ L + 1) (h1 : Sts w g1 L M1) (h2 : Sts w g2 L M2) :
    Calls Tryz.prog 191 #[.slice (some ⟨g1, 0, none⟩) (L + 1) c1, .int .i64 i, .int .i64 v, .slice (some ⟨g2, 0, none⟩) (L + 1) c2] w fun e w' => ∃ A B : Nat, e = .returned (.agg #[.int .u64 A, .int .u64 B]) ∧ Pl A B (ow M1 M2 i lo (L + 1)) ∧ Below w.heap.size w w' := by
  subst hv; exact onward_any L g1 g2 c1 c2 i lo w M1 M2 hL hi hlo h1 h2
set_option maxHeartbeats 2000000 in
theorem maybe_any (L g1 g2 c1 c2 : Nat) (w : World) (M1 M2 : Nat → Nat → Bool) (hL : L ≤ 80) (h1 : Sts w g1 L M1) (h2 : Sts w g2 L M2) :
    Calls Tryz.prog 156 #[.slice (some ⟨g1, 0, none⟩) (L + 1) c1, .slice (some ⟨g2, 0, none⟩) (L + 1) c2] w fun e w' => ∃ g : Nat, e = .returned (.slice (some ⟨g, 0, none⟩) (L + 1) (L + 1)) ∧ w.heap.size ≤ g ∧ Sts w' g L (fun i j => (j == i) || ow M1 M2 i (i + 1) (L + 1) j) ∧ Below w.heap.size w w' := by
  have H1 : Hid (Sts w g1 L M1) := h1
  have H2 : Hid (Sts w g2 L M2) := h2
  have l1 := h1.lt
  have l2 := h2.lt
  clear h1 h2
  go_enter Tryz.func156, Tryz.ntmps156
  go_wp2_with fail
  refine (empties_any L _ hL).mono ?_
  rintro e w0 ⟨g, rfl, hg, hS, hB0⟩
  have hg2 := hS.lt
  have HS0 : Hid (Sts w0 g L (fun i j => j == i)) := hS
  have HB0 : Hid (Below w.heap.size w w0) := hB0
  clear hS hB0
  go_wp2_with fail
  go_loopw [13] (fun v wr => ∃ (k : Nat), k ≤ L + 1 ∧ v = .int .i64 k ∧ Hid (Sts wr g L (half k (fun i j => (j == i) || ow M1 M2 i (i + 1) (L + 1) j) fun i j => j == i)) ∧ Hid (Below w.heap.size w wr) ∧ g < wr.heap.size) (fun v _ => L + 1 - (intOf v).toNat)
  case atStart => exact ⟨0, by omega, rfl, HS0.out.cast (fun i hi j => by simp [half]), HB0.out, hg2⟩
  case round =>
    obtain ⟨k, hk, rfl, HS, HB, hsz⟩ := hrel
    by_cases hlt : k ≤ L
    · obtain ⟨A0, B0, d1, d2, d3, d4, P0⟩ := HS.out.cell k hlt
      have HP0 : Hid (Pl A0 B0 (fun j => j == k)) := by rw [show (fun j => j == k) = half k (fun i j => (j == i) || ow M1 M2 i (i + 1) (L + 1) j) (fun i j => j == i) k from funext fun j => by simp [half]]; exact P0
      have HX1 : Hid (Sts wr.drew g1 L M1) := (H1.out.below HB.out l1).of_block rfl
      have HX2 : Hid (Sts wr.drew g2 L M2) := (H2.out.below HB.out l2).of_block rfl
      clear P0
      go_wp2_with fail
      go_region_with (first | (go_at_call 190; (refine (pwith_any A0 B0 A2 B2 _ _ _ HP0.out HP2.out).mono ?_; rintro e w2 ⟨A3, B3, rfl, hP3, hB3⟩; have HP3 : Hid (Pl A3 B3 fun q => (q == k) || ow M1 M2 k (k + 1) (L + 1) q) := hP3; have hB4 : Below wr.heap.size wr w2 := HBB.out.trans (hB3.mono HBB.out.size); have hS1 := HS.out.below hB4 hsz; have HS1 : Hid (Sts w2 g L _) := hS1; obtain ⟨A4, B4, z1, z2, z3, z4, z5⟩ := hS1.cell k hlt; have HBC : Hid (Below wr.heap.size wr w2) := hB4; clear hP3 hB3 hB4 hS1 z5)) | (go_at_call 191; (refine (onward_at L g1 g2 c1 c2 k (k + 1) _ (by first | omega | exact wrap_one k _ rfl (by omega)) _ M1 M2 hL hlt (by omega) HX1.out HX2.out).mono ?_; rintro e w1 ⟨A2, B2, rfl, hP, hB1⟩; have HP2 : Hid (Pl A2 B2 (ow M1 M2 k (k + 1) (L + 1))) := hP; have hB2 : Below wr.heap.size wr w1 := (Below.refl wr.heap.size wr).drew.trans hB1; have hS1 := HS.out.below hB2 hsz; have HS9 : Hid (Sts w1 g L _) := hS1; have hd1 : w1.cell? ⟨g, k * 2, none⟩ = some (.int .u64 A0) := (World.cell?_of_block (w := wr) (w' := w1) (a := ⟨g, k * 2, none⟩) (hB2.block g hsz)).trans d1; have hd2 : w1.cell? ⟨g, k * 2 + 1, none⟩ = some (.int .u64 B0) := (World.cell?_of_block (w := wr) (w' := w1) (a := ⟨g, k * 2 + 1, none⟩) (hB2.block g hsz)).trans d2; have HBB : Hid (Below wr.heap.size wr w1) := hB2; clear hP hB1 hB2 hS1)))
      all_goals
        go_wp2_with fail
        go_roundw
        case rel => exact ⟨k + 1, by omega, by go_num, HS1.out.step hlt HP3.out, ((HB.out.trans (HBC.out.mono (by omega))).setCell (by omega) _).setCell (by omega) _, by have := HBC.out.size; simp [World.setCell]; omega⟩
        case measure => simp [intOf]; omega
    · have hk2 : k = L + 1 := by omega
      subst hk2
      go_wp2_with fail
      go_ret
      exact ⟨_, rfl, hg, HS.out.cast (fun i hi j => by unfold half; rw [if_pos (by omega)]), HB.out⟩
def Agn (L : Nat) (M1 M : Nat → Nat → Bool) : Prop := ∀ i, i ≤ L → ∀ j, M i j = ((j == i) || ow M1 M i (i + 1) (L + 1) j)
set_option maxHeartbeats 2000000 in
theorem again_any (L g1 c1 : Nat) (w : World) (M1 : Nat → Nat → Bool) (hL : L ≤ 80) (h1 : Sts w g1 L M1) :
    Calls Tryz.prog 153 #[.slice (some ⟨g1, 0, none⟩) (L + 1) c1] w fun e w' => ∃ g : Nat, e = .returned (.slice (some ⟨g, 0, none⟩) (L + 1) (L + 1)) ∧ w.heap.size ≤ g ∧ ∃ M : Nat → Nat → Bool, Sts w' g L M ∧ Agn L M1 M ∧ Below w.heap.size w w' := by
  have H1 : Hid (Sts w g1 L M1) := h1
  have l1 := h1.lt
  clear h1
  go_enter Tryz.func153, Tryz.ntmps153
  go_wp2_with fail
  refine (empties_any L _ hL).mono ?_
  rintro e w0 ⟨g, rfl, hg, hS, hB0⟩
  have hg2 := hS.lt
  have HS0 : Hid (Sts w0 g L (fun i j => j == i)) := hS
  have HB0 : Hid (Below w.heap.size w w0) := hB0
  clear hS hB0
  go_wp2_with fail
  go_loopw [4] (fun v wr => ∃ (k : Int) (M : Nat → Nat → Bool), -1 ≤ k ∧ k ≤ (L : Int) ∧ v = .int .i64 k ∧ Hid (Sts wr g L M) ∧ Hid (∀ i : Nat, (i : Int) ≤ k → ∀ j, M i j = (j == i)) ∧ Hid (∀ i : Nat, k < (i : Int) → i ≤ L → ∀ j, M i j = ((j == i) || ow M1 M i (i + 1) (L + 1) j)) ∧ Hid (Below w.heap.size w wr) ∧ g < wr.heap.size) (fun v _ => (intOf v + 1).toNat)
  case atStart => exact ⟨L, fun i j => j == i, by omega, by omega, rfl, HS0.out, fun _ _ _ => rfl, fun i h1 h2 => by omega, HB0.out, hg2⟩
  case round =>
    obtain ⟨k, M, hk, hk2, rfl, HS, HE, HA, HB, hsz⟩ := hrel
    by_cases hlt : 0 ≤ k
    · obtain ⟨n, rfl⟩ : ∃ n : Nat, k = n := ⟨k.toNat, by omega⟩
      have hn : n ≤ L := by omega
      obtain ⟨A0, B0, d1, d2, d3, d4, P0⟩ := HS.out.cell n hn
      have HP0 : Hid (Pl A0 B0 (fun j => j == n)) := by rw [show (fun j => j == n) = M n from funext fun j => (HE.out n (by omega) j).symm]; exact P0
      have HX1 : Hid (Sts wr.drew g1 L M1) := (H1.out.below HB.out l1).of_block rfl
      have HX2 : Hid (Sts wr.drew g L M) := HS.out.of_block rfl
      clear P0
      go_wp2_with fail
      go_region_with (first | (go_at_call 190; (refine (pwith_any A0 B0 A2 B2 _ _ _ HP0.out HP2.out).mono ?_; rintro e w2 ⟨A3, B3, rfl, hP3, hB3⟩; have HP3 : Hid (Pl A3 B3 fun q => (q == n) || ow M1 M n (n + 1) (L + 1) q) := hP3; have hB4 : Below wr.heap.size wr w2 := HBB.out.trans (hB3.mono HBB.out.size); have hS1 := HS.out.below hB4 hsz; have HS1 : Hid (Sts w2 g L M) := hS1; obtain ⟨A4, B4, z1, z2, z3, z4, z5⟩ := hS1.cell n hn; have HBC : Hid (Below wr.heap.size wr w2) := hB4; clear hP3 hB3 hB4 hS1 z5)) | (go_at_call 191; (refine (onward_at L g1 g c1 (L + 1) n (n + 1) _ (by first | omega | exact wrap_one n _ rfl (by omega)) _ M1 M hL hn (by omega) HX1.out HX2.out).mono ?_; rintro e w1 ⟨A2, B2, rfl, hP, hB1⟩; have HP2 : Hid (Pl A2 B2 (ow M1 M n (n + 1) (L + 1))) := hP; have hB2 : Below wr.heap.size wr w1 := (Below.refl wr.heap.size wr).drew.trans hB1; have hS1 := HS.out.below hB2 hsz; have HS9 : Hid (Sts w1 g L M) := hS1; have hd1 : w1.cell? ⟨g, n * 2, none⟩ = some (.int .u64 A0) := (World.cell?_of_block (w := wr) (w' := w1) (a := ⟨g, n * 2, none⟩) (hB2.block g hsz)).trans d1; have hd2 : w1.cell? ⟨g, n * 2 + 1, none⟩ = some (.int .u64 B0) := (World.cell?_of_block (w := wr) (w' := w1) (a := ⟨g, n * 2 + 1, none⟩) (hB2.block g hsz)).trans d2; have HBB : Hid (Below wr.heap.size wr w1) := hB2; clear hP hB1 hB2 hS1)))
      all_goals
        go_wp2_with fail
        go_roundw
        case rel =>
          refine ⟨(n : Int) - 1, _, by omega, by omega, by go_num, HS1.out.put hn HP3.out, fun i hi j => ?_, fun i hi hi2 j => ?_, ((HB.out.trans (HBC.out.mono (by omega))).setCell (by omega) _).setCell (by omega) _, by have := HBC.out.size; simp [World.setCell]; omega⟩
          · rw [if_neg (by omega)]; exact HE.out i (by omega) j
          · by_cases e : i = n
            · subst e
              rw [if_pos rfl]
              exact congrArg _ (ow_congr fun m h1 h2 => by rw [if_neg (by omega)])
            · rw [if_neg e, HA.out i (by omega) hi2 j]
              exact congrArg _ (ow_congr fun m h1 h2 => by rw [if_neg (by omega)])
        case measure => simp [intOf] <;> omega
    · have hk2 : k = -1 := by omega
      subst hk2
      go_wp2_with fail
      go_ret
      exact ⟨_, rfl, hg, M, HS.out, fun i hi j => HA.out i (by omega) hi j, HB.out⟩
end Go.Proofs.YtppjlpihaocdiaaGreatDoor

/- A part of the proof. -/
set_option linter.unusedSimpArgs false
set_option linter.unusedVariables false
namespace Go.Proofs.YtppjlpihaocdiaaGreatDoor
open Go.RowKit
attribute [local go_sem ↓] MP_eq
def mem4 (y0 y1 y2 y3 c : Nat) : Bool := if c < 64 then y0.testBit c else if c < 128 then y1.testBit (c - 64) else if c < 192 then y2.testBit (c - 128) else y3.testBit (c - 192)
structure S4 (y0 y1 y2 y3 : Nat) (S : Nat → Bool) : Prop where
  a0 : y0 < 2 ^ 64
  a1 : y1 < 2 ^ 64
  a2 : y2 < 2 ^ 64
  a3 : y3 < 2 ^ 64
  m : ∀ c, c < 256 → mem4 y0 y1 y2 y3 c = S c
set_option maxHeartbeats 400000 in
theorem setHas_any (y0 y1 y2 y3 c : Nat) (w : World) (hc : c < 256) (S : Nat → Bool) (hS : S4 y0 y1 y2 y3 S) :
    Calls Tryz.prog 152 #[.agg #[.int .u64 y0, .int .u64 y1, .int .u64 y2, .int .u64 y3], .int .u8 c] w fun e w' => e = .returned (.bool (S c)) ∧ Below w.heap.size w w' := by
  have HS : Hid (S4 y0 y1 y2 y3 S) := hS
  clear hS
  obtain hq | hq | hq | hq : (c : Int) / 64 = 0 ∨ (c : Int) / 64 = 1 ∨ (c : Int) / 64 = 2 ∨ (c : Int) / 64 = 3 := by omega
  all_goals
    have hr : 0 ≤ (c : Int) % 64 := by omega
    have hr2 : (c : Int) % 64 < 64 := by omega
    go_enter Tryz.func152, Tryz.ntmps152
    go_wp2
    go_ret
    refine ⟨ret_bool ?_, (Below.refl _ _).alloc (Nat.le_refl _) _⟩
    rw [bit_and _ _ (by first | exact HS.out.a0 | exact HS.out.a1 | exact HS.out.a2 | exact HS.out.a3), ← HS.out.m c hc]
    unfold mem4
  · rw [if_pos (by omega), Nat.mod_eq_of_lt (by omega)]
  · rw [if_neg (by omega), if_pos (by omega), show c % 64 = c - 64 from by omega]
  · rw [if_neg (by omega), if_neg (by omega), if_pos (by omega), show c % 64 = c - 128 from by omega]
  · rw [if_neg (by omega), if_neg (by omega), if_neg (by omega), show c % 64 = c - 192 from by omega]
structure Rw (w : World) (lo r m L : Nat) (T : Nat → Nat → Nat → Bool) : Prop where
  lr : lo ≤ r
  m1 : 1 ≤ m
  at' : ∀ q, q < m → ∃ g c, w.cell? ⟨r, q, none⟩ = some (.slice (some ⟨g, 0, none⟩) (L + 1) c) ∧ lo ≤ g ∧ Sts w g L (T q)
theorem Rw.lt {w : World} {lo r m L : Nat} {T : Nat → Nat → Nat → Bool} (h : Rw w lo r m L T) : r < w.heap.size := by
  obtain ⟨g, c, h1, _⟩ := h.at' 0 h.m1
  exact World.block_lt_of_cell? w _ h1
theorem Rw.of {w w' : World} {lo r m L : Nat} {T : Nat → Nat → Nat → Bool} (h : Rw w lo r m L T) (hb : ∀ k, lo ≤ k → k < w.heap.size → w'.heap[k]? = w.heap[k]?) : Rw w' lo r m L T := by
  refine ⟨h.lr, h.m1, fun q hq => ?_⟩
  obtain ⟨g, c, h1, h2, h3⟩ := h.at' q hq
  exact ⟨g, c, (World.cell?_of_block (w := w) (w' := w') (a := ⟨r, q, none⟩) (hb r h.lr h.lt)).trans h1, h2, h3.of_block (hb g h2 h3.lt)⟩
theorem Rw.cast {w : World} {lo r m L : Nat} {T T' : Nat → Nat → Nat → Bool} (h : Rw w lo r m L T) (e : ∀ q, q < m → ∀ i, i ≤ L → ∀ j, T q i j = T' q i j) : Rw w lo r m L T' := by
  refine ⟨h.lr, h.m1, fun q hq => ?_⟩
  obtain ⟨g, c, h1, h2, h3⟩ := h.at' q hq
  exact ⟨g, c, h1, h2, h3.cast (e q hq)⟩
def Tl (L : Nat) (M : Nat → Nat → Bool) (R : Nat → Nat → Prop) : Prop := ∀ i, i ≤ L → ∀ j, (M i j = true ↔ R i j)
def pkind (k : Nat) : Int := if k = 0 then 2 else if k = 1 then 0 else if k = 2 then 1 else if k = 3 then 3 else if k = 4 then 6 else if k = 5 then 5 else 4
def pnum (d : Nd) : Int := if d.kind = 3 then (d.num : Int) + 1 else 0
def pnL (d : Nd) (ao : Option Addr) (c y0 y1 y2 y3 : Nat) : List Value :=
  [.int .i64 (pkind d.kind), .slice ao d.subs.length c, .int .u64 y0, .int .u64 y1, .int .u64 y2, .int .u64 y3, .int .i64 (pnum d), .int .i64 d.lo, .int .i64 d.hi]
def Kids (w : World) (x : Nat) (ao : Option Addr) (subs : List Nat) : Prop :=
  subs = [] ∨ ∃ kb, ao = some ⟨kb, 0, none⟩ ∧ kb ≠ x ∧ ∀ (k y : Nat), subs[k]? = some y → w.cell? ⟨kb, k, none⟩ = some (.int .i64 y)
theorem Kids.of {w w' : World} {x : Nat} {ao : Option Addr} {subs : List Nat} (h : Kids w x ao subs) (hb : ∀ k, k < w.heap.size → k ≠ x → w'.heap[k]? = w.heap[k]?) : Kids w' x ao subs := by
  rcases h with h | ⟨kb, h1, h2, h3⟩
  · exact .inl h
  · refine .inr ⟨kb, h1, h2, fun k y hy => ?_⟩
    have := h3 k y hy
    exact (World.cell?_of_block (w := w) (w' := w') (a := ⟨kb, k, none⟩) (hb kb (World.block_lt_of_cell? w _ this) h2)).trans this
structure Pp where
  nodes : List Nd
  s : ByteArray
  root : Nat
  groups : Nat
  tb : Nat
  nb : Nat
  vb : Nat
  cap : Nat
def NodeAt (w : World) (x nb k : Nat) (d : Nd) : Prop :=
  ∃ ao c y0 y1 y2 y3, S4 y0 y1 y2 y3 d.set ∧ Kids w x ao d.subs ∧ d.subs.length ≤ c ∧ ∀ o v, (pnL d ao c y0 y1 y2 y3)[o]? = some v → w.cell? ⟨nb, k * 9 + o, none⟩ = some v
theorem NodeAt.lt {w : World} {x nb k : Nat} {d : Nd} (h : NodeAt w x nb k d) : nb < w.heap.size := by
  obtain ⟨ao, c, y0, y1, y2, y3, _, _, _, h3⟩ := h
  exact World.block_lt_of_cell? w _ (h3 0 _ rfl)
theorem NodeAt.of {w w' : World} {x nb k : Nat} {d : Nd} (h : NodeAt w x nb k d) (hn : nb ≠ x) (hb : ∀ k, k < w.heap.size → k ≠ x → w'.heap[k]? = w.heap[k]?) : NodeAt w' x nb k d := by
  have hl := h.lt
  obtain ⟨ao, c, y0, y1, y2, y3, h1, h2, h4, h3⟩ := h
  exact ⟨ao, c, y0, y1, y2, y3, h1, h2.of hb, h4, fun o v hv => (World.cell?_of_block (w := w) (w' := w') (a := ⟨nb, k * 9 + o, none⟩) (hb nb hl hn)).trans (h3 o v hv)⟩
structure TbAt (w : World) (p : Pp) (k : Nat) (T : Nat → Nat → Nat → Nat → Bool) (m : Nat → Nat) : Prop where
  c0 : w.cell? ⟨p.tb, 0, none⟩ = some (.slice (some ⟨p.nb, 0, none⟩) p.nodes.length p.cap)
  c1 : w.cell? ⟨p.tb, 1, none⟩ = some (.int .i64 p.root)
  c2 : w.cell? ⟨p.tb, 2, none⟩ = some (.int .i64 p.groups)
  c3 : w.cell? ⟨p.tb, 3, none⟩ = some (.string p.s)
  c4 : w.cell? ⟨p.tb, 4, none⟩ = some (.slice (some ⟨p.vb, 0, none⟩) p.nodes.length p.nodes.length)
  vt : p.tb ≠ p.vb
  vn : p.nb ≠ p.vb
  node : ∀ (a : Nat) (d : Nd), p.nodes[a]? = some d → NodeAt w p.vb p.nb a d
  slot : ∀ a, a < p.nodes.length → (∃ v, w.cell? ⟨p.vb, a, none⟩ = some v) ∧ w.frozen? ⟨p.vb, a, none⟩ = false
  row : ∀ a, a < k → ∃ r, w.cell? ⟨p.vb, a, none⟩ = some (.slice (some ⟨r, 0, none⟩) (m a) (m a)) ∧ Rw w (p.vb + 1) r (m a) p.s.size (T a)
  kn : k ≤ p.nodes.length
  s80 : p.s.size ≤ 80
  many : p.nodes.length ≤ 200
theorem TbAt.below {w w' : World} {p : Pp} {k : Nat} {T : Nat → Nat → Nat → Nat → Bool} {m : Nat → Nat} (h : TbAt w p k T m) (hb : Below w.heap.size w w') : TbAt w' p k T m := by
  have hx : ∀ i, i < w.heap.size → w'.heap[i]? = w.heap[i]? := hb.block
  have ht : p.tb < w.heap.size := World.block_lt_of_cell? w _ h.c0
  have hc : ∀ b o, b < w.heap.size → w'.cell? ⟨b, o, none⟩ = w.cell? ⟨b, o, none⟩ := fun b o hl => World.cell?_of_block (w := w) (w' := w') (a := ⟨b, o, none⟩) (hx b hl)
  refine ⟨(hc _ _ ht).trans h.c0, (hc _ _ ht).trans h.c1, (hc _ _ ht).trans h.c2, (hc _ _ ht).trans h.c3, (hc _ _ ht).trans h.c4, h.vt, h.vn, fun a d hd => (h.node a d hd).of h.vn fun k hk _ => hx k hk, fun a ha => ?_, fun a ha => ?_, h.kn, h.s80, h.many⟩
  · obtain ⟨⟨v, hv⟩, hf⟩ := h.slot a ha
    have hl := World.block_lt_of_cell? w _ hv
    exact ⟨⟨v, (hc _ _ hl).trans hv⟩, (World.frozen?_of_block (w := w) (w' := w') (a := ⟨p.vb, a, none⟩) (hx _ hl)).trans hf⟩
  · obtain ⟨r, h1, h2⟩ := h.row a ha
    exact ⟨r, (hc _ _ (World.block_lt_of_cell? w _ h1)).trans h1, h2.of fun k _ hk => hx k hk⟩
theorem TbAt.vlt {w : World} {p : Pp} {k : Nat} {T : Nat → Nat → Nat → Nat → Bool} {m : Nat → Nat} (h : TbAt w p k T m) (hn : 0 < p.nodes.length) : p.vb < w.heap.size := by
  obtain ⟨⟨v, hv⟩, _⟩ := h.slot 0 hn
  exact World.block_lt_of_cell? w _ hv
set_option maxHeartbeats 400000 in
theorem whole_any' (p : Pp) (k a : Nat) (T : Nat → Nat → Nat → Nat → Bool) (m : Nat → Nat) (w : World) (h : TbAt w p k T m) (ha : a < k) :
    Calls Tryz.prog 66 #[.pointer (some ⟨p.tb, 0, none⟩), .int .i64 a] w fun e w' => ∃ g c, e = .returned (.slice (some ⟨g, 0, none⟩) (p.s.size + 1) c) ∧ p.vb + 1 ≤ g ∧ Sts w g p.s.size (T a 0) ∧ w' = w := by
  obtain ⟨r, r1, r2⟩ := h.row a ha
  obtain ⟨g, c, g1, g2, g3⟩ := r2.at' 0 r2.m1
  have hk := h.kn
  have hm := h.many
  have c4 := h.c4
  have hm1 := r2.m1
  have HG : Hid (Sts w g p.s.size (T a 0)) := g3
  clear g3 r2 h
  go_enter Tryz.func66, Tryz.ntmps66
  go_wp2_with fail
  go_ret
  exact ⟨g, c, rfl, g2, HG.out, rfl⟩
end Go.Proofs.YtppjlpihaocdiaaGreatDoor

