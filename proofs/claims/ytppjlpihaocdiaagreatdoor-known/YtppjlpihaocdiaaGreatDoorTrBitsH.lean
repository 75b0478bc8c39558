/- Several texts in one. -/
import Derived.Test.YtppjlpihaocdiaaGreatDoorStrsH
import Derived.Deep.RegionLaw
import Derived.BigRegion
import Derived.Test.YtppjlpihaocdiaaGreatDoorDecAH
import Derived.Test.YtppjlpihaocdiaaGreatDoorBitsH
/- A part of the proof. -/
set_option linter.unusedSimpArgs false
set_option linter.unusedVariables false
namespace Go.Proofs.YtppjlpihaocdiaaGreatDoor
open Go.RowKit
attribute [local go_sem ↓] MP_eq
set_option maxHeartbeats 1000000 in
theorem either_any (L g1 g2 c1 c2 : Nat) (w : World) (M1 M2 : Nat → Nat → Bool) (hL : L ≤ 80) (h1 : Sts w g1 L M1) (h2 : Sts w g2 L M2) :
    Calls Tryz.prog 157 #[.slice (some ⟨g1, 0, none⟩) (L + 1) c1, .slice (some ⟨g2, 0, none⟩) (L + 1) c2] w fun e w' => ∃ g : Nat, e = .returned (.slice (some ⟨g, 0, none⟩) (L + 1) (L + 1)) ∧ w.heap.size ≤ g ∧ Sts w' g L (fun i j => M1 i j || M2 i j) ∧ Below w.heap.size w w' := by
  obtain ⟨A1, hA1, m1⟩ := run_MP (L + 1) (by omega)
  rw [show ((L + 1 : Nat) : Int) = (L : Int) + 1 by omega] at m1
  have H1 : Hid (Sts w g1 L M1) := h1
  have H2 : Hid (Sts w g2 L M2) := h2
  have l1 := h1.lt
  have l2 := h2.lt
  clear h1 h2
  go_enter Tryz.func157, Tryz.ntmps157
  go_wp2_with fail
  go_loopw [12] (fun v wr => ∃ (k : Nat), k ≤ L + 1 ∧ v = .int .i64 k ∧ Hid (Sts wr w.heap.size L (upto k fun i j => M1 i j || M2 i j)) ∧ Hid (Below w.heap.size w wr) ∧ w.heap.size < wr.heap.size) (fun v _ => L + 1 - (intOf v).toNat)
  case atStart => exact ⟨0, by omega, rfl, (Sts.new hA1).cast (fun i hi j => by simp [upto]), (Below.refl _ _).alloc (Nat.le_refl _) _, by simp⟩
  case round =>
    obtain ⟨k, hk, rfl, HS, HB, hsz⟩ := hrel
    by_cases hlt : k ≤ L
    · obtain ⟨A, B, a1, a2, a3, a4, P1⟩ := (H1.out.below HB.out l1).cell k hlt
      obtain ⟨A', B', b1, b2, b3, b4, P2⟩ := (H2.out.below HB.out l2).cell k hlt
      obtain ⟨A0, B0, d1, d2, d3, d4, P0⟩ := HS.out.cell k hlt
      have HP1 : Hid (Pl A B (M1 k)) := P1
      have HP2 : Hid (Pl A' B' (M2 k)) := P2
      clear P1 P2 P0 m1 hA1
      go_wp2_with fail
      go_region_with (first | (go_at_call 190; (refine (pwith_any A B A' B' _ _ _ HP1.out HP2.out).mono ?_; rintro e w1 ⟨A2, B2, rfl, hP, hB1⟩; have HP : Hid (Pl A2 B2 fun q => M1 k q || M2 k q) := hP; have hB2 : Below wr.heap.size wr w1 := (Below.refl wr.heap.size wr).drew.trans hB1; have hS1 := HS.out.below hB2 hsz; have HS1 : Hid (Sts w1 w.heap.size L _) := hS1; obtain ⟨A3, B3, z1, z2, z3, z4, z5⟩ := hS1.cell k hlt; have HBB : Hid (Below wr.heap.size wr w1) := hB2; clear hP hB1 hB2 hS1 z5)))
      all_goals
        go_wp2_with fail
        go_roundw
        case rel => exact ⟨k + 1, by omega, by go_num, HS1.out.next hlt HP.out, ((HB.out.trans (HBB.out.mono (by omega))).setCell (Nat.le_refl _) _).setCell (Nat.le_refl _) _, by have := HBB.out.size; simp [World.setCell]; omega⟩
        case measure => simp [intOf]; omega
    · have hk2 : k = L + 1 := by omega
      subst hk2
      go_wp2_with fail
      go_ret
      exact ⟨_, rfl, Nat.le_refl _, HS.out.cast (fun i hi j => by simp [upto]; omega), HB.out⟩
def ow (s r : Nat → Nat → Bool) (i lo k j : Nat) : Bool := (List.range k).any fun m => decide (lo ≤ m) && (s i m && r m j)
theorem ow_succ (s r : Nat → Nat → Bool) (i lo k j : Nat) : ow s r i lo (k + 1) j = (ow s r i lo k j || (decide (lo ≤ k) && (s i k && r k j))) := by
  unfold ow; rw [List.range_succ, List.any_append]; simp
theorem ow_none (s r : Nat → Nat → Bool) (i lo k j : Nat) (h : k ≤ lo) : ow s r i lo k j = false := by
  unfold ow
  rw [List.any_eq_false]
  intro m hm
  have := List.mem_range.1 hm
  simp; omega
theorem ow_iff (s r : Nat → Nat → Bool) (i lo k j : Nat) : ow s r i lo k j = true ↔ ∃ m, lo ≤ m ∧ m < k ∧ s i m = true ∧ r m j = true := by
  unfold ow
  rw [List.any_eq_true]
  constructor
  · rintro ⟨m, hm, h⟩
    simp at h
    exact ⟨m, h.1, List.mem_range.1 hm, h.2.1, h.2.2⟩
  · rintro ⟨m, h1, h2, h3, h4⟩
    exact ⟨m, List.mem_range.2 h2, by simp [*]⟩
theorem ow_congr {s r r' : Nat → Nat → Bool} {i lo k j : Nat} (h : ∀ m, lo ≤ m → m < k → r m j = r' m j) : ow s r i lo k j = ow s r' i lo k j := by
  unfold ow
  rw [Bool.eq_iff_iff, List.any_eq_true, List.any_eq_true]
  constructor
  all_goals
    rintro ⟨m, hm, hh⟩
    refine ⟨m, hm, ?_⟩
    simp only [Bool.and_eq_true, decide_eq_true_eq] at hh ⊢
    have e := h m hh.1 (List.mem_range.1 hm)
    first | (rw [← e]; exact hh) | (rw [e]; exact hh)
theorem Two.of_block {w w' : World} {b : Nat} {x y : Int} (h : Two w b x y) (hb : w'.heap[b]? = w.heap[b]?) : Two w' b x y := by
  obtain ⟨c0, c1, f0, f1⟩ := h
  have hc : ∀ k, w'.cell? ⟨b, k, none⟩ = w.cell? ⟨b, k, none⟩ := fun k => World.cell?_of_block (w := w) (w' := w') (a := ⟨b, k, none⟩) hb
  have hf : ∀ k, w'.frozen? ⟨b, k, none⟩ = w.frozen? ⟨b, k, none⟩ := fun k => World.frozen?_of_block (w := w) (w' := w') (a := ⟨b, k, none⟩) hb
  exact ⟨(hc _).trans c0, (hc _).trans c1, (hf _).trans f0, (hf _).trans f1⟩
theorem Two.put {w : World} {b : Nat} {x y : Int} (h : Two w b x y) (x' y' : Int) : Two ((w.setCell ⟨b, 0, none⟩ (.int .u64 x')).setCell ⟨b, 1, none⟩ (.int .u64 y')) b x' y' := by
  obtain ⟨c0, c1, f0, f1⟩ := h
  constructor <;> go_simp
theorem Two.far {w : World} {b a : Nat} {x y : Int} (h : Two w b x y) (hne : a ≠ b) (o : Nat) (v : Value) : Two (w.setCell ⟨a, o, none⟩ v) b x y :=
  h.of_block (Below.heap_setCell _ _ _ _ (fun e => hne (by simpa using e.symm)))
set_option maxHeartbeats 1000000 in
theorem onward_any (L g1 g2 c1 c2 i lo : Nat) (w : World) (M1 M2 : Nat → Nat → Bool) (hL : L ≤ 80) (hi : i ≤ L) (hlo : lo ≤ L + 1) (h1 : Sts w g1 L M1) (h2 : Sts w g2 L M2) :
    Calls Tryz.prog 191 #[.slice (some ⟨g1, 0, none⟩) (L + 1) c1, .int .i64 i, .int .i64 lo, .slice (some ⟨g2, 0, none⟩) (L + 1) c2] w fun e w' => ∃ A B : Nat, e = .returned (.agg #[.int .u64 A, .int .u64 B]) ∧ Pl A B (ow M1 M2 i lo (L + 1)) ∧ Below w.heap.size w w' := by
  have H1 : Hid (Sts w g1 L M1) := h1
  have H2 : Hid (Sts w g2 L M2) := h2
  have l1 := h1.lt
  have l2 := h2.lt
  clear h1 h2
  go_enter Tryz.func191, Tryz.ntmps191
  go_wp2_with fail
  go_loopw [10] (fun v wr => ∃ (k A B : Nat), lo ≤ k ∧ k ≤ L + 1 ∧ v = .int .i64 k ∧ Hid (Two wr w.heap.size 0 0) ∧ Hid (Two wr (w.heap.size + 1) A B) ∧ Hid (Pl A B (ow M1 M2 i lo k)) ∧ Hid (Below w.heap.size w wr) ∧ w.heap.size + 1 < wr.heap.size) (fun v _ => L + 1 - (intOf v).toNat)
  case atStart => exact ⟨lo, 0, 0, by omega, by omega, rfl, by constructor <;> go_simp, by constructor <;> go_simp, by rw [show ow M1 M2 i lo lo = fun _ => false from funext fun j => ow_none _ _ _ _ _ _ (Nat.le_refl _)]; exact Pl.zero, ((Below.refl _ _).alloc (Nat.le_refl _) _).alloc (by simp) _, by simp⟩
  case round =>
    obtain ⟨k, A, B, hk1, hk2, rfl, HT, HU, HP, HB, hsz⟩ := hrel
    by_cases hlt : k ≤ L
    · obtain ⟨A1, B1, a1, a2, a3, a4, P1⟩ := (H1.out.below HB.out l1).cell i hi
      have HP1 : Hid (Pl A1 B1 (M1 i)) := P1
      clear P1
      go_wp2_with fail
      refine (has_any A1 B1 k _ (by omega) _ HP1.out).mono ?_
      rcases bool_or (M1 i k) with hm | hm
      · have HM : Hid (M1 i k = true) := hm
        rw [hm]
        clear hm
        rintro e w1 ⟨rfl, hB1⟩
        have HB1 : Hid (Below wr.heap.size wr w1) := hB1
        have HB2 : Hid (Below w.heap.size w w1) := HB.out.trans (hB1.mono (by omega))
        have hsz1 : w.heap.size + 1 < w1.heap.size := Nat.lt_of_lt_of_le hsz hB1.size
        have HT1 : Hid (Two w1 w.heap.size 0 0) := HT.out.of_block (hB1.block _ (by omega))
        have HU1 : Hid (Two w1 (w.heap.size + 1) A B) := HU.out.of_block (hB1.block _ (by omega))
        obtain ⟨u1, u2, u3, u4⟩ := HU1.out
        obtain ⟨A2, B2, b1, b2, b3, b4, P2⟩ := (H2.out.below HB2.out l2).cell k hlt
        have HP2 : Hid (Pl A2 B2 (M2 k)) := P2
        clear P2 hB1 a1 a2 a3 a4
        go_wp2_with fail
        go_region_with (first | (go_at_call 190; (refine (pwith_any A B A2 B2 _ _ _ HP.out HP2.out).mono ?_; rintro e w2 ⟨A3, B3, rfl, hP, hB3⟩; have HP3 : Hid (Pl A3 B3 fun q => ow M1 M2 i lo k q || M2 k q) := hP; have hB4 : Below w1.heap.size w1 w2 := (Below.refl w1.heap.size w1).drew.trans hB3; have HT3 : Hid (Two w2 w.heap.size 0 0) := HT1.out.of_block (hB4.block _ (by omega)); have HU3 : Hid (Two w2 (w.heap.size + 1) A B) := HU1.out.of_block (hB4.block _ (by omega)); obtain ⟨z1, z2, z3, z4⟩ := HU3.out; have HBB : Hid (Below w1.heap.size w1 w2) := hB4; clear hP hB3 hB4)))
        all_goals
          go_wp2_with fail
          go_roundw
          case rel => exact ⟨k + 1, A3, B3, by omega, by omega, by go_num, (HT3.out.far (by omega) _ _).far (by omega) _ _, HU3.out.put _ _, by
            rw [show ow M1 M2 i lo (k + 1) = fun q => ow M1 M2 i lo k q || M2 k q from funext fun q => by rw [ow_succ, HM.out]; simp [hk1]]; exact HP3.out, ((HB2.out.trans (HBB.out.mono (by omega))).setCell (by simp) _).setCell (by simp) _, by have := HBB.out.size; simp [World.setCell]; omega⟩
          case measure => simp [intOf]; omega
      · have HM : Hid (M1 i k = false) := hm
        rw [hm]
        clear hm
        rintro e w1 ⟨rfl, hB1⟩
        have HB1 : Hid (Below wr.heap.size wr w1) := hB1
        clear hB1
        go_wp2_with fail
        go_roundw
        case rel => exact ⟨k + 1, A, B, by omega, by omega, by go_num, HT.out.of_block (HB1.out.block _ (by omega)), HU.out.of_block (HB1.out.block _ (by omega)), by
            rw [show ow M1 M2 i lo (k + 1) = ow M1 M2 i lo k from funext fun q => by rw [ow_succ, HM.out]; simp]; exact HP.out, HB.out.trans (HB1.out.mono (by omega)), Nat.lt_of_lt_of_le hsz HB1.out.size⟩
        case measure => simp [intOf]; omega
    · have hk3 : k = L + 1 := by omega
      subst hk3
      obtain ⟨u1, u2, u3, u4⟩ := HU.out
      obtain ⟨t1, t2, t3, t4⟩ := HT.out
      go_wp2_with fail
      exact bodyPost_ret (v := .agg #[.int .u64 (A : Int), .int .u64 (B : Int)]) (by simp [results, Tryz.results191, go_sem, *]) rfl ⟨A, B, rfl, HP.out, (HB.out.setCell (Nat.le_refl _) _).setCell (Nat.le_refl _) _⟩
set_option maxHeartbeats 1000000 in
theorem then_any (L g1 g2 c1 c2 : Nat) (w : World) (M1 M2 : Nat → Nat → Bool) (hL : L ≤ 80) (h1 : Sts w g1 L M1) (h2 : Sts w g2 L M2) :
    Calls Tryz.prog 155 #[.slice (some ⟨g1, 0, none⟩) (L + 1) c1, .slice (some ⟨g2, 0, none⟩) (L + 1) c2] w fun e w' => ∃ g : Nat, e = .returned (.slice (some ⟨g, 0, none⟩) (L + 1) (L + 1)) ∧ w.heap.size ≤ g ∧ Sts w' g L (fun i j => ow M1 M2 i i (L + 1) j) ∧ Below w.heap.size w w' := by
  obtain ⟨A1, hA1, m1⟩ := run_MP (L + 1) (by omega)
  rw [show ((L + 1 : Nat) : Int) = (L : Int) + 1 by omega] at m1
  have H1 : Hid (Sts w g1 L M1) := h1
  have H2 : Hid (Sts w g2 L M2) := h2
  have l1 := h1.lt
  have l2 := h2.lt
  clear h1 h2
  go_enter Tryz.func155, Tryz.ntmps155
  go_wp2_with fail
  go_loopw [12] (fun v wr => ∃ (k : Nat), k ≤ L + 1 ∧ v = .int .i64 k ∧ Hid (Sts wr w.heap.size L (upto k fun i j => ow M1 M2 i i (L + 1) j)) ∧ Hid (Below w.heap.size w wr) ∧ w.heap.size < wr.heap.size) (fun v _ => L + 1 - (intOf v).toNat)
  case atStart => exact ⟨0, by omega, rfl, (Sts.new hA1).cast (fun i hi j => by simp [upto]), (Below.refl _ _).alloc (Nat.le_refl _) _, by simp⟩
  case round =>
    obtain ⟨k, hk, rfl, HS, HB, hsz⟩ := hrel
    by_cases hlt : k ≤ L
    · go_wp2_with fail
      refine (onward_any L g1 g2 c1 c2 k k _ M1 M2 hL hlt (by omega) (H1.out.below HB.out l1) (H2.out.below HB.out l2)).mono ?_
      rintro e w1 ⟨A, B, rfl, hP, hB1⟩
      have HP : Hid (Pl A B (ow M1 M2 k k (L + 1))) := hP
      have HS1 : Hid (Sts w1 w.heap.size L (upto k fun i j => ow M1 M2 i i (L + 1) j)) := HS.out.below hB1 hsz
      have HB1 : Hid (Below w.heap.size w w1) := HB.out.trans (hB1.mono (by omega))
      have hsz1 : w.heap.size < w1.heap.size := Nat.lt_of_lt_of_le hsz hB1.size
      obtain ⟨A', B', h1, h2, h3, h4, h5⟩ := HS1.out.cell k hlt
      clear hP hB1 h5
      go_wp2_with fail
      go_roundw
      case rel => exact ⟨k + 1, by omega, by go_num, HS1.out.next hlt HP.out, (HB1.out.setCell (Nat.le_refl _) _).setCell (Nat.le_refl _) _, by simp [World.setCell]; omega⟩
      case measure => simp [intOf]; omega
    · have hk2 : k = L + 1 := by omega
      subst hk2
      go_wp2_with fail
      go_ret
      exact ⟨_, rfl, Nat.le_refl _, HS.out.cast (fun i hi j => by simp [upto]; omega), HB.out⟩
end Go.Proofs.YtppjlpihaocdiaaGreatDoor

/- A part of the proof. -/
set_option linter.unusedSimpArgs false
set_option linter.unusedVariables false
namespace Go.Proofs.YtppjlpihaocdiaaGreatDoor
open Go.RowKit
def half (k : Nat) (M E : Nat → Nat → Bool) (i j : Nat) : Bool := if i < k then M i j else E i j
theorem Sts.step {w : World} {g L k A B : Nat} {M E : Nat → Nat → Bool} (h : Sts w g L (half k M E)) (hk : k ≤ L) (hP : Pl A B (M k)) :
    Sts ((w.setCell ⟨g, k * 2, none⟩ (.int .u64 A)).setCell ⟨g, k * 2 + 1, none⟩ (.int .u64 B)) g L (half (k + 1) M E) := by
  refine (h.put hk hP).cast fun i hi j => ?_
  unfold half
  by_cases e : i = k
  · subst e; simp
  · simp only [e, if_false]
    by_cases h : i < k
    · rw [if_pos h, if_pos (by omega)]
    · rw [if_neg h, if_neg (by omega)]
theorem wrap_one (k n : Nat) (h : n = k + 1) (hk : k ≤ 1000) : IntKind.i64.wrap ((k : Int) + 1) = (n : Int) := by
  subst h
  simp [IntKind.wrap, IntKind.min, IntKind.signed, IntKind.bits] <;> omega
theorem onward_at (L g1 g2 c1 c2 i lo : Nat) (v : Int) (hv : v = (lo : Int)) (w : World) (M1 M2 : Nat → Nat → Bool) (hL : L ≤ 80) (hi : i ≤ L) (hlo : lo ≤ L + 1) (h1 : Sts w g1 L M1) (h2 : Sts w g2 L M2) :
    Calls Tryz.prog 191 #[.slice (some ⟨g1, 0, none⟩) (L + 1) c1, .int .i64 i, .int .i64 v, .slice (some ⟨g2, 0, none⟩) (L + 1) c2] w fun e w' => ∃ A B : Nat, e = .returned (.agg #[.int .u64 A, .int .u64 B]) ∧ Pl A B (ow M1 M2 i lo (L + 1)) ∧ Below w.heap.size w w' := by
  subst hv; exact onward_any L g1 g2 c1 c2 i lo w M1 M2 hL hi hlo h1 h2
set_option maxHeartbeats 2000000 in
theorem maybe_any (L g1 g2 c1 c2 : Nat) (w : World) (M1 M2 : Nat → Nat → Bool) (hL : L ≤ 80) (h1 : Sts w g1 L M1) (h2 : Sts w g2 L M2) :
    Calls Tryz.prog 156 #[.slice (some ⟨g1, 0, none⟩) (L + 1) c1, .slice (some ⟨g2, 0, none⟩) (L + 1) c2] w fun e w' => ∃ g : Nat, e = .returned (.slice (some ⟨g, 0, none⟩) (L + 1) (L + 1)) ∧ w.heap.size ≤ g ∧ Sts w' g L (fun i j => (j == i) || ow M1 M2 i (i + 1) (L + 1) j) ∧ Below w.heap.size w w' := by
  have H1 : Hid (Sts w g1 L M1) := h1
  have H2 : Hid (Sts w g2 L M2) := h2
  have l1 := h1.lt
  have l2 := h2.lt
  clear h1 h2
  go_enter Tryz.func156, Tryz.ntmps156
  go_wp2_with fail
  refine (empties_any L _ hL).mono ?_
  rintro e w0 ⟨g, rfl, hg, hS, hB0⟩
  have hg2 := hS.lt
  have HS0 : Hid (Sts w0 g L (fun i j => j == i)) := hS
  have HB0 : Hid (Below w.heap.size w w0) := hB0
  clear hS hB0
  go_wp2_with fail
  go_loopw [13] (fun v wr => ∃ (k : Nat), k ≤ L + 1 ∧ v = .int .i64 k ∧ Hid (Sts wr g L (half k (fun i j => (j == i) || ow M1 M2 i (i + 1) (L + 1) j) fun i j => j == i)) ∧ Hid (Below w.heap.size w wr) ∧ g < wr.heap.size) (fun v _ => L + 1 - (intOf v).toNat)
  case atStart => exact ⟨0, by omega, rfl, HS0.out.cast (fun i hi j => by simp [half]), HB0.out, hg2⟩
  case round =>
    obtain ⟨k, hk, rfl, HS, HB, hsz⟩ := hrel
    by_cases hlt : k ≤ L
    · obtain ⟨A0, B0, d1, d2, d3, d4, P0⟩ := HS.out.cell k hlt
      have HP0 : Hid (Pl A0 B0 (fun j => j == k)) := by rw [show (fun j => j == k) = half k (fun i j => (j == i) || ow M1 M2 i (i + 1) (L + 1) j) (fun i j => j == i) k from funext fun j => by simp [half]]; exact P0
      have HX1 : Hid (Sts wr.drew g1 L M1) := (H1.out.below HB.out l1).of_block rfl
      have HX2 : Hid (Sts wr.drew g2 L M2) := (H2.out.below HB.out l2).of_block rfl
      clear P0
      go_wp2_with fail
      go_region_with (first | (go_at_call 190; (refine (pwith_any A0 B0 A2 B2 _ _ _ HP0.out HP2.out).mono ?_; rintro e w2 ⟨A3, B3, rfl, hP3, hB3⟩; have HP3 : Hid (Pl A3 B3 fun q => (q == k) || ow M1 M2 k (k + 1) (L + 1) q) := hP3; have hB4 : Below wr.heap.size wr w2 := HBB.out.trans (hB3.mono HBB.out.size); have hS1 := HS.out.below hB4 hsz; have HS1 : Hid (Sts w2 g L _) := hS1; obtain ⟨A4, B4, z1, z2, z3, z4, z5⟩ := hS1.cell k hlt; have HBC : Hid (Below wr.heap.size wr w2) := hB4; clear hP3 hB3 hB4 hS1 z5)) | (go_at_call 191; (refine (onward_at L g1 g2 c1 c2 k (k + 1) _ (by first | omega | exact wrap_one k _ rfl (by omega)) _ M1 M2 hL hlt (by omega) HX1.out HX2.out).mono ?_; rintro e w1 ⟨A2, B2, rfl, hP, hB1⟩; have HP2 : Hid (Pl A2 B2 (ow M1 M2 k (k + 1) (L + 1))) := hP; have hB2 : Below wr.heap.size wr w1 := (Below.refl wr.heap.size wr).drew.trans hB1; have hS1 := HS.out.below hB2 hsz; have HS9 : Hid (Sts w1 g L _) := hS1; have hd1 : w1.cell? ⟨g, k * 2, none⟩ = some (.int .u64 A0) := (World.cell?_of_block (w := wr) (w' := w1) (a := ⟨g, k * 2, none⟩) (hB2.block g hsz)).trans d1; have hd2 : w1.cell? ⟨g, k * 2 + 1, none⟩ = some (.int .u64 B0) := (World.cell?_of_block (w := wr) (w' := w1) (a := ⟨g, k * 2 + 1, none⟩) (hB2.block g hsz)).trans d2; have HBB : Hid (Below wr.heap.size wr w1) := hB2; clear hP hB1 hB2 hS1)))
      all_goals
        go_wp2_with fail
        go_roundw
        case rel => exact ⟨k + 1, by omega, by go_num, HS1.out.step hlt HP3.out, ((HB.out.trans (HBC.out.mono (by omega))).setCell (by omega) _).setCell (by omega) _, by have := HBC.out.size; simp [World.setCell]; omega⟩
        case measure => simp [intOf]; omega
    · have hk2 : k = L + 1 := by omega
      subst hk2
      go_wp2_with fail
      go_ret
      exact ⟨_, rfl, hg, HS.out.cast (fun i hi j => by unfold half; rw [if_pos (by omega)]), HB.out⟩
def Agn (L : Nat) (M1 M : Nat → Nat → Bool) : Prop := ∀ i, i ≤ L → ∀ j, M i j = ((j == i) || ow M1 M i (i + 1) (L + 1) j)
set_option maxHeartbeats 2000000 in
theorem again_any (L g1 c1 : Nat) (w : World) (M1 : Nat → Nat → Bool) (hL : L ≤ 80) (h1 : Sts w g1 L M1) :
    Calls Tryz.prog 153 #[.slice (some ⟨g1, 0, none⟩) (L + 1) c1] w fun e w' => ∃ g : Nat, e = .returned (.slice (some ⟨g, 0, none⟩) (L + 1) (L + 1)) ∧ w.heap.size ≤ g ∧ ∃ M : Nat → Nat → Bool, Sts w' g L M ∧ Agn L M1 M ∧ Below w.heap.size w w' := by
  have H1 : Hid (Sts w g1 L M1) := h1
  have l1 := h1.lt
  clear h1
  go_enter Tryz.func153, Tryz.ntmps153
  go_wp2_with fail
  refine (empties_any L _ hL).mono ?_
  rintro e w0 ⟨g, rfl, hg, hS, hB0⟩
  have hg2 := hS.lt
  have HS0 : Hid (Sts w0 g L (fun i j => j == i)) := hS
  have HB0 : Hid (Below w.heap.size w w0) := hB0
  clear hS hB0
  go_wp2_with fail
  go_loopw [4] (fun v wr => ∃ (k : Int) (M : Nat → Nat → Bool), -1 ≤ k ∧ k ≤ (L : Int) ∧ v = .int .i64 k ∧ Hid (Sts wr g L M) ∧ Hid (∀ i : Nat, (i : Int) ≤ k → ∀ j, M i j = (j == i)) ∧ Hid (∀ i : Nat, k < (i : Int) → i ≤ L → ∀ j, M i j = ((j == i) || ow M1 M i (i + 1) (L + 1) j)) ∧ Hid (Below w.heap.size w wr) ∧ g < wr.heap.size) (fun v _ => (intOf v + 1).toNat)
  case atStart => exact ⟨L, fun i j => j == i, by omega, by omega, rfl, HS0.out, fun _ _ _ => rfl, fun i h1 h2 => by omega, HB0.out, hg2⟩
  case round =>
    obtain ⟨k, M, hk, hk2, rfl, HS, HE, HA, HB, hsz⟩ := hrel
    by_cases hlt : 0 ≤ k
    · obtain ⟨n, rfl⟩ : ∃ n : Nat, k = n := ⟨k.toNat, by omega⟩
      have hn : n ≤ L := by omega
      obtain ⟨A0, B0, d1, d2, d3, d4, P0⟩ := HS.out.cell n hn
      have HP0 : Hid (Pl A0 B0 (fun j => j == n)) := by rw [show (fun j => j == n) = M n from funext fun j => (HE.out n (by omega) j).symm]; exact P0
      have HX1 : Hid (Sts wr.drew g1 L M1) := (H1.out.below HB.out l1).of_block rfl
      have HX2 : Hid (Sts wr.drew g L M) := HS.out.of_block rfl
      clear P0
      go_wp2_with fail
      go_region_with (first | (go_at_call 190; (refine (pwith_any A0 B0 A2 B2 _ _ _ HP0.out HP2.out).mono ?_; rintro e w2 ⟨A3, B3, rfl, hP3, hB3⟩; have HP3 : Hid (Pl A3 B3 fun q => (q == n) || ow M1 M n (n + 1) (L + 1) q) := hP3; have hB4 : Below wr.heap.size wr w2 := HBB.out.trans (hB3.mono HBB.out.size); have hS1 := HS.out.below hB4 hsz; have HS1 : Hid (Sts w2 g L M) := hS1; obtain ⟨A4, B4, z1, z2, z3, z4, z5⟩ := hS1.cell n hn; have HBC : Hid (Below wr.heap.size wr w2) := hB4; clear hP3 hB3 hB4 hS1 z5)) | (go_at_call 191; (refine (onward_at L g1 g c1 (L + 1) n (n + 1) _ (by first | omega | exact wrap_one n _ rfl (by omega)) _ M1 M hL hn (by omega) HX1.out HX2.out).mono ?_; rintro e w1 ⟨A2, B2, rfl, hP, hB1⟩; have HP2 : Hid (Pl A2 B2 (ow M1 M n (n + 1) (L + 1))) := hP; have hB2 : Below wr.heap.size wr w1 := (Below.refl wr.heap.size wr).drew.trans hB1; have hS1 := HS.out.below hB2 hsz; have HS9 : Hid (Sts w1 g L M) := hS1; have hd1 : w1.cell? ⟨g, n * 2, none⟩ = some (.int .u64 A0) := (World.cell?_of_block (w := wr) (w' := w1) (a := ⟨g, n * 2, none⟩) (hB2.block g hsz)).trans d1; have hd2 : w1.cell? ⟨g, n * 2 + 1, none⟩ = some (.int .u64 B0) := (World.cell?_of_block (w := wr) (w' := w1) (a := ⟨g, n * 2 + 1, none⟩) (hB2.block g hsz)).trans d2; have HBB : Hid (Below wr.heap.size wr w1) := hB2; clear hP hB1 hB2 hS1)))
      all_goals
        go_wp2_with fail
        go_roundw
        case rel =>
          refine ⟨(n : Int) - 1, _, by omega, by omega, by go_num, HS1.out.put hn HP3.out, fun i hi j => ?_, fun i hi hi2 j => ?_, ((HB.out.trans (HBC.out.mono (by omega))).setCell (by omega) _).setCell (by omega) _, by have := HBC.out.size; simp [World.setCell]; omega⟩
          · rw [if_neg (by omega)]; exact HE.out i (by omega) j
          · by_cases e : i = n
            · subst e
              rw [if_pos rfl]
              exact congrArg _ (ow_congr fun m h1 h2 => by rw [if_neg (by omega)])
            · rw [if_neg e, HA.out i (by omega) hi2 j]
              exact congrArg _ (ow_congr fun m h1 h2 => by rw [if_neg (by omega)])
        case measure => simp [intOf] <;> omega
    · have hk2 : k = -1 := by omega
      subst hk2
      go_wp2_with fail
      go_ret
      exact ⟨_, rfl, hg, M, HS.out, fun i hi j => HA.out i (by omega) hi j, HB.out⟩
end Go.Proofs.YtppjlpihaocdiaaGreatDoor

/- A part of the proof. -/
set_option linter.unusedSimpArgs false
set_option linter.unusedVariables false
namespace Go.Proofs.YtppjlpihaocdiaaGreatDoor
open Go.RowKit
attribute [local go_sem ↓] MP_eq
def mem4 (y0 y1 y2 y3 c : Nat) : Bool := if c < 64 then y0.testBit c else if c < 128 then y1.testBit (c - 64) else if c < 192 then y2.testBit (c - 128) else y3.testBit (c - 192)
structure S4 (y0 y1 y2 y3 : Nat) (S : Nat → Bool) : Prop where
  a0 : y0 < 2 ^ 64
  a1 : y1 < 2 ^ 64
  a2 : y2 < 2 ^ 64
  a3 : y3 < 2 ^ 64
  m : ∀ c, c < 256 → mem4 y0 y1 y2 y3 c = S c
set_option maxHeartbeats 400000 in
theorem setHas_any (y0 y1 y2 y3 c : Nat) (w : World) (hc : c < 256) (S : Nat → Bool) (hS : S4 y0 y1 y2 y3 S) :
    Calls Tryz.prog 152 #[.agg #[.int .u64 y0, .int .u64 y1, .int .u64 y2, .int .u64 y3], .int .u8 c] w fun e w' => e = .returned (.bool (S c)) ∧ Below w.heap.size w w' := by
  have HS : Hid (S4 y0 y1 y2 y3 S) := hS
  clear hS
  obtain hq | hq | hq | hq : (c : Int) / 64 = 0 ∨ (c : Int) / 64 = 1 ∨ (c : Int) / 64 = 2 ∨ (c : Int) / 64 = 3 := by omega
  all_goals
    have hr : 0 ≤ (c : Int) % 64 := by omega
    have hr2 : (c : Int) % 64 < 64 := by omega
    go_enter Tryz.func152, Tryz.ntmps152
    go_wp2
    go_ret
    refine ⟨ret_bool ?_, (Below.refl _ _).alloc (Nat.le_refl _) _⟩
    rw [bit_and _ _ (by first | exact HS.out.a0 | exact HS.out.a1 | exact HS.out.a2 | exact HS.out.a3), ← HS.out.m c hc]
    unfold mem4
  · rw [if_pos (by omega), Nat.mod_eq_of_lt (by omega)]
  · rw [if_neg (by omega), if_pos (by omega), show c % 64 = c - 64 from by omega]
  · rw [if_neg (by omega), if_neg (by omega), if_pos (by omega), show c % 64 = c - 128 from by omega]
  · rw [if_neg (by omega), if_neg (by omega), if_neg (by omega), show c % 64 = c - 192 from by omega]
structure Rw (w : World) (lo r m L : Nat) (T : Nat → Nat → Nat → Bool) : Prop where
  lr : lo ≤ r
  m1 : 1 ≤ m
  at' : ∀ q, q < m → ∃ g c, w.cell? ⟨r, q, none⟩ = some (.slice (some ⟨g, 0, none⟩) (L + 1) c) ∧ lo ≤ g ∧ Sts w g L (T q)
theorem Rw.lt {w : World} {lo r m L : Nat} {T : Nat → Nat → Nat → Bool} (h : Rw w lo r m L T) : r < w.heap.size := by
  obtain ⟨g, c, h1, _⟩ := h.at' 0 h.m1
  exact World.block_lt_of_cell? w _ h1
theorem Rw.of {w w' : World} {lo r m L : Nat} {T : Nat → Nat → Nat → Bool} (h : Rw w lo r m L T) (hb : ∀ k, lo ≤ k → k < w.heap.size → w'.heap[k]? = w.heap[k]?) : Rw w' lo r m L T := by
  refine ⟨h.lr, h.m1, fun q hq => ?_⟩
  obtain ⟨g, c, h1, h2, h3⟩ := h.at' q hq
  exact ⟨g, c, (World.cell?_of_block (w := w) (w' := w') (a := ⟨r, q, none⟩) (hb r h.lr h.lt)).trans h1, h2, h3.of_block (hb g h2 h3.lt)⟩
theorem Rw.cast {w : World} {lo r m L : Nat} {T T' : Nat → Nat → Nat → Bool} (h : Rw w lo r m L T) (e : ∀ q, q < m → ∀ i, i ≤ L → ∀ j, T q i j = T' q i j) : Rw w lo r m L T' := by
  refine ⟨h.lr, h.m1, fun q hq => ?_⟩
  obtain ⟨g, c, h1, h2, h3⟩ := h.at' q hq
  exact ⟨g, c, h1, h2, h3.cast (e q hq)⟩
def Tl (L : Nat) (M : Nat → Nat → Bool) (R : Nat → Nat → Prop) : Prop := ∀ i, i ≤ L → ∀ j, (M i j = true ↔ R i j)
def pkind (k : Nat) : Int := if k = 0 then 2 else if k = 1 then 0 else if k = 2 then 1 else if k = 3 then 3 else if k = 4 then 6 else if k = 5 then 5 else 4
def pnum (d : Nd) : Int := if d.kind = 3 then (d.num : Int) + 1 else 0
def pnL (d : Nd) (ao : Option Addr) (c y0 y1 y2 y3 : Nat) : List Value :=
  [.int .i64 (pkind d.kind), .slice ao d.subs.length c, .int .u64 y0, .int .u64 y1, .int .u64 y2, .int .u64 y3, .int .i64 (pnum d), .int .i64 d.lo, .int .i64 d.hi]
def Kids (w : World) (x : Nat) (ao : Option Addr) (subs : List Nat) : Prop :=
  subs = [] ∨ ∃ kb, ao = some ⟨kb, 0, none⟩ ∧ kb ≠ x ∧ ∀ (k y : Nat), subs[k]? = some y → w.cell? ⟨kb, k, none⟩ = some (.int .i64 y)
theorem Kids.of {w w' : World} {x : Nat} {ao : Option Addr} {subs : List Nat} (h : Kids w x ao subs) (hb : ∀ k, k < w.heap.size → k ≠ x → w'.heap[k]? = w.heap[k]?) : Kids w' x ao subs := by
  rcases h with h | ⟨kb, h1, h2, h3⟩
  · exact .inl h
  · refine .inr ⟨kb, h1, h2, fun k y hy => ?_⟩
    have := h3 k y hy
    exact (World.cell?_of_block (w := w) (w' := w') (a := ⟨kb, k, none⟩) (hb kb (World.block_lt_of_cell? w _ this) h2)).trans this
structure Pp where
  nodes : List Nd
  s : ByteArray
  root : Nat
  groups : Nat
  tb : Nat
  nb : Nat
  vb : Nat
  cap : Nat
def NodeAt (w : World) (x nb k : Nat) (d : Nd) : Prop :=
  ∃ ao c y0 y1 y2 y3, S4 y0 y1 y2 y3 d.set ∧ Kids w x ao d.subs ∧ d.subs.length ≤ c ∧ ∀ o v, (pnL d ao c y0 y1 y2 y3)[o]? = some v → w.cell? ⟨nb, k * 9 + o, none⟩ = some v
theorem NodeAt.lt {w : World} {x nb k : Nat} {d : Nd} (h : NodeAt w x nb k d) : nb < w.heap.size := by
  obtain ⟨ao, c, y0, y1, y2, y3, _, _, _, h3⟩ := h
  exact World.block_lt_of_cell? w _ (h3 0 _ rfl)
theorem NodeAt.of {w w' : World} {x nb k : Nat} {d : Nd} (h : NodeAt w x nb k d) (hn : nb ≠ x) (hb : ∀ k, k < w.heap.size → k ≠ x → w'.heap[k]? = w.heap[k]?) : NodeAt w' x nb k d := by
  have hl := h.lt
  obtain ⟨ao, c, y0, y1, y2, y3, h1, h2, h4, h3⟩ := h
  exact ⟨ao, c, y0, y1, y2, y3, h1, h2.of hb, h4, fun o v hv => (World.cell?_of_block (w := w) (w' := w') (a := ⟨nb, k * 9 + o, none⟩) (hb nb hl hn)).trans (h3 o v hv)⟩
structure TbAt (w : World) (p : Pp) (k : Nat) (T : Nat → Nat → Nat → Nat → Bool) (m : Nat → Nat) : Prop where
  c0 : w.cell? ⟨p.tb, 0, none⟩ = some (.slice (some ⟨p.nb, 0, none⟩) p.nodes.length p.cap)
  c1 : w.cell? ⟨p.tb, 1, none⟩ = some (.int .i64 p.root)
  c2 : w.cell? ⟨p.tb, 2, none⟩ = some (.int .i64 p.groups)
  c3 : w.cell? ⟨p.tb, 3, none⟩ = some (.string p.s)
  c4 : w.cell? ⟨p.tb, 4, none⟩ = some (.slice (some ⟨p.vb, 0, none⟩) p.nodes.length p.nodes.length)
  vt : p.tb ≠ p.vb
  vn : p.nb ≠ p.vb
  node : ∀ (a : Nat) (d : Nd), p.nodes[a]? = some d → NodeAt w p.vb p.nb a d
  slot : ∀ a, a < p.nodes.length → (∃ v, w.cell? ⟨p.vb, a, none⟩ = some v) ∧ w.frozen? ⟨p.vb, a, none⟩ = false
  row : ∀ a, a < k → ∃ r, w.cell? ⟨p.vb, a, none⟩ = some (.slice (some ⟨r, 0, none⟩) (m a) (m a)) ∧ Rw w (p.vb + 1) r (m a) p.s.size (T a)
  kn : k ≤ p.nodes.length
  s80 : p.s.size ≤ 80
  many : p.nodes.length ≤ 200
theorem TbAt.below {w w' : World} {p : Pp} {k : Nat} {T : Nat → Nat → Nat → Nat → Bool} {m : Nat → Nat} (h : TbAt w p k T m) (hb : Below w.heap.size w w') : TbAt w' p k T m := by
  have hx : ∀ i, i < w.heap.size → w'.heap[i]? = w.heap[i]? := hb.block
  have ht : p.tb < w.heap.size := World.block_lt_of_cell? w _ h.c0
  have hc : ∀ b o, b < w.heap.size → w'.cell? ⟨b, o, none⟩ = w.cell? ⟨b, o, none⟩ := fun b o hl => World.cell?_of_block (w := w) (w' := w') (a := ⟨b, o, none⟩) (hx b hl)
  refine ⟨(hc _ _ ht).trans h.c0, (hc _ _ ht).trans h.c1, (hc _ _ ht).trans h.c2, (hc _ _ ht).trans h.c3, (hc _ _ ht).trans h.c4, h.vt, h.vn, fun a d hd => (h.node a d hd).of h.vn fun k hk _ => hx k hk, fun a ha => ?_, fun a ha => ?_, h.kn, h.s80, h.many⟩
  · obtain ⟨⟨v, hv⟩, hf⟩ := h.slot a ha
    have hl := World.block_lt_of_cell? w _ hv
    exact ⟨⟨v, (hc _ _ hl).trans hv⟩, (World.frozen?_of_block (w := w) (w' := w') (a := ⟨p.vb, a, none⟩) (hx _ hl)).trans hf⟩
  · obtain ⟨r, h1, h2⟩ := h.row a ha
    exact ⟨r, (hc _ _ (World.block_lt_of_cell? w _ h1)).trans h1, h2.of fun k _ hk => hx k hk⟩
theorem TbAt.vlt {w : World} {p : Pp} {k : Nat} {T : Nat → Nat → Nat → Nat → Bool} {m : Nat → Nat} (h : TbAt w p k T m) (hn : 0 < p.nodes.length) : p.vb < w.heap.size := by
  obtain ⟨⟨v, hv⟩, _⟩ := h.slot 0 hn
  exact World.block_lt_of_cell? w _ hv
set_option maxHeartbeats 400000 in
theorem whole_any' (p : Pp) (k a : Nat) (T : Nat → Nat → Nat → Nat → Bool) (m : Nat → Nat) (w : World) (h : TbAt w p k T m) (ha : a < k) :
    Calls Tryz.prog 66 #[.pointer (some ⟨p.tb, 0, none⟩), .int .i64 a] w fun e w' => ∃ g c, e = .returned (.slice (some ⟨g, 0, none⟩) (p.s.size + 1) c) ∧ p.vb + 1 ≤ g ∧ Sts w g p.s.size (T a 0) ∧ w' = w := by
  obtain ⟨r, r1, r2⟩ := h.row a ha
  obtain ⟨g, c, g1, g2, g3⟩ := r2.at' 0 r2.m1
  have hk := h.kn
  have hm := h.many
  have c4 := h.c4
  have hm1 := r2.m1
  have HG : Hid (Sts w g p.s.size (T a 0)) := g3
  clear g3 r2 h
  go_enter Tryz.func66, Tryz.ntmps66
  go_wp2_with fail
  go_ret
  exact ⟨g, c, rfl, g2, HG.out, rfl⟩
end Go.Proofs.YtppjlpihaocdiaaGreatDoor

/- A part of the proof. -/
set_option linter.unusedSimpArgs false
set_option linter.unusedVariables false
namespace Go.Proofs.YtppjlpihaocdiaaGreatDoor
open Go.RowKit
attribute [local go_sem ↓] MP_eq
theorem size_set (w : World) (a : Addr) (v : Value) : (w.setCell a v).heap.size = w.heap.size := by simp [World.setCell]
theorem new_second (w : World) (o1 o2 : Obj) : ((w.alloc o1).alloc o2).heap[w.heap.size + 1]? = some o2 := by
  have e : (w.alloc o1).heap.size = w.heap.size + 1 := by simp
  have h := heap_alloc_new (w.alloc o1) o2
  rw [e] at h
  exact h
theorem Rw.one {w : World} {lo g c L r : Nat} {t : TypeId} {M : Nat → Nat → Bool} (h : Sts w g L M) (hlo : lo ≤ w.heap.size) (hg : lo ≤ g) (hr : r = w.heap.size) : Rw (w.alloc (.cells #[.slice (some ⟨g, 0, none⟩) (L + 1) c] t)) lo r 1 L (fun _ => M) := by
  subst hr
  refine ⟨hlo, Nat.le_refl _, fun q hq => ?_⟩
  obtain rfl : q = 0 := by omega
  refine ⟨g, c, ?_, hg, h.below (Below.alloc (Below.refl w.heap.size w) (Nat.le_refl _) _) h.lt⟩
  rw [cell_of_row _ w.heap.size 0 _ _ (0, 0) (heap_alloc_new w _)]
  rfl
set_option maxHeartbeats 400000 in
theorem emptyAt_any (p : Pp) (k a lo : Nat) (T : Nat → Nat → Nat → Nat → Bool) (m : Nat → Nat) (w : World) (h : TbAt w p k T m) (ha : a ≤ p.s.size) (hlo : lo ≤ w.heap.size) :
    Calls Tryz.prog 102 #[.pointer (some ⟨p.tb, 0, none⟩), .int .i64 a] w fun e w' => ∃ r, e = .returned (.slice (some ⟨r, 0, none⟩) 1 1) ∧ Rw w' lo r 1 p.s.size (fun _ i j => (i == a) && (j == a)) ∧ Below w.heap.size w w' := by
  have c3 := h.c3
  have hs := h.s80
  obtain ⟨A1, hA1, m1⟩ := run_MP (p.s.size + 1) (by omega)
  rw [show ((p.s.size + 1 : Nat) : Int) = (p.s.size : Int) + 1 by omega] at m1
  clear h
  go_enter Tryz.func102, Tryz.ntmps102
  go_wp2_with fail
  refine (only_any a _ (by omega)).mono ?_
  rintro e w1 ⟨A, B, rfl, hP, hB1⟩
  have HP : Hid (Pl A B (fun q => q == a)) := hP
  have hS0 : Sts w1 w.heap.size p.s.size (fun _ _ => false) := (Sts.new hA1).below hB1 (by simp)
  have HS0 : Hid (Sts w1 w.heap.size p.s.size (fun _ _ => false)) := hS0
  have HB1 : Hid (Below w.heap.size w w1) := ((Below.refl _ _).alloc (Nat.le_refl _) _).trans (hB1.mono (by simp))
  obtain ⟨A0, B0, d1, d2, d3, d4, _⟩ := hS0.cell a ha
  clear hP hB1 hS0 hA1 m1
  go_wp2_with fail
  go_ret
  have hsz := HB1.out.size
  refine ⟨_, rfl, (Rw.one (HS0.out.put ha HP.out) (by rw [size_set, size_set]; omega) hlo (by rw [size_set, size_set])).cast (fun q _ i hi j => ?_), ((HB1.out.setCell (Nat.le_refl _) _).setCell (Nat.le_refl _) _).alloc (by rw [size_set, size_set]; omega) _⟩
  by_cases e : i = a
  · subst e; simp
  · simp [e]
theorem cells4 {w w' : World} {b : Nat} {v0 v1 v2 v3 : Value} (hb : w'.heap[b]? = w.heap[b]?) (h : w.cell? ⟨b, 0, none⟩ = some v0 ∧ w.cell? ⟨b, 1, none⟩ = some v1 ∧ w.cell? ⟨b, 2, none⟩ = some v2 ∧ w.cell? ⟨b, 3, none⟩ = some v3) : w'.cell? ⟨b, 0, none⟩ = some v0 ∧ w'.cell? ⟨b, 1, none⟩ = some v1 ∧ w'.cell? ⟨b, 2, none⟩ = some v2 ∧ w'.cell? ⟨b, 3, none⟩ = some v3 := by
  have hc : ∀ k, w'.cell? ⟨b, k, none⟩ = w.cell? ⟨b, k, none⟩ := fun k => World.cell?_of_block (w := w) (w' := w') (a := ⟨b, k, none⟩) hb
  exact ⟨(hc 0).trans h.1, (hc 1).trans h.2.1, (hc 2).trans h.2.2.1, (hc 3).trans h.2.2.2⟩
theorem only_at (p : Nat) (v : Int) (hv : v = (p : Int)) (w : World) (hp : p ≤ 80) :
    Calls Tryz.prog 151 #[.int .i64 v] w fun e w' => ∃ A B : Nat, e = .returned (.agg #[.int .u64 A, .int .u64 B]) ∧ Pl A B (fun q => q == p) ∧ Below w.heap.size w w' := by
  subst hv; exact only_any p w hp
set_option maxHeartbeats 4000000 in
theorem oneByte_any (p : Pp) (k lo y0 y1 y2 y3 : Nat) (S : Nat → Bool) (T : Nat → Nat → Nat → Nat → Bool) (m : Nat → Nat) (w : World) (h : TbAt w p k T m) (hS : S4 y0 y1 y2 y3 S) (hlo : lo ≤ w.heap.size) :
    Calls Tryz.prog 103 #[.pointer (some ⟨p.tb, 0, none⟩), .agg #[.int .u64 y0, .int .u64 y1, .int .u64 y2, .int .u64 y3]] w fun e w' => ∃ r, e = .returned (.slice (some ⟨r, 0, none⟩) 1 1) ∧ Rw w' lo r 1 p.s.size (fun _ i j => decide (i < p.s.size) && (S (byt p.s i) && (j == i + 1))) ∧ Below w.heap.size w w' := by
  have c3 := h.c3
  have hs := h.s80
  have ht : p.tb < w.heap.size := World.block_lt_of_cell? w _ h.c0
  obtain ⟨A1, hA1, m1⟩ := run_MP (p.s.size + 1) (by omega)
  rw [show ((p.s.size + 1 : Nat) : Int) = (p.s.size : Int) + 1 by omega] at m1
  have HS4 : Hid (S4 y0 y1 y2 y3 S) := hS
  have HC3 : Hid (w.cell? ⟨p.tb, 3, none⟩ = some (.string p.s)) := c3
  clear h hS
  go_enter Tryz.func103, Tryz.ntmps103
  go_wp2_with fail
  go_loopw [19] (fun v wr => ∃ (n : Nat), n ≤ p.s.size ∧ v = .int .i64 n ∧ Hid (Sts wr (w.heap.size + 1) p.s.size (upto n fun i j => decide (i < p.s.size) && (S (byt p.s i) && (j == i + 1)))) ∧ Hid (Below w.heap.size w wr) ∧ w.heap.size + 1 < wr.heap.size ∧ Hid (wr.cell? ⟨w.heap.size, 0, none⟩ = some (.int .u64 y0) ∧ wr.cell? ⟨w.heap.size, 1, none⟩ = some (.int .u64 y1) ∧ wr.cell? ⟨w.heap.size, 2, none⟩ = some (.int .u64 y2) ∧ wr.cell? ⟨w.heap.size, 3, none⟩ = some (.int .u64 y3))) (fun v _ => p.s.size + 1 - (intOf v).toNat)
  case atStart =>
    refine ⟨0, by omega, rfl, ?_, ((Below.refl _ _).alloc (Nat.le_refl _) _).alloc (by simp) _, by simp, by go_simp, by go_simp, by go_simp, by go_simp⟩
    exact (Sts.made hA1 (new_second w _ _)).cast (fun i hi j => by simp [upto])
  case round =>
    obtain ⟨n, hn, rfl, HS, HB, hsz, HQ⟩ := hrel
    by_cases hlt : n < p.s.size
    · have hc3 : wr.cell? ⟨p.tb, 3, none⟩ = some (.string p.s) := (World.cell?_of_block (w := w) (w' := wr) (a := ⟨p.tb, 3, none⟩) (HB.out.block _ ht)).trans c3
      obtain ⟨q0, q1, q2, q3⟩ := HQ.out
      have i1 : (0 : Int) ≤ (n : Int) := by omega
      have i2 : (n : Int) < (p.s.size : Int) := by omega
      have hbl := byt_lt p.s n
      have HL : Hid (n < p.s.size) := hlt
      clear c3
      go_wp2_with fail
      go_region_with (first | (go_at_call 152; (have eb := byt_int p.s n HL.out; rw [eb]; refine (setHas_any y0 y1 y2 y3 (byt p.s n) _ hbl S HS4.out).mono ?_; rintro e w1 ⟨rfl, hB1⟩; have HB1 : Hid (Below wr.heap.size wr w1) := (Below.refl wr.heap.size wr).drew.trans hB1; clear hB1 eb)))
      all_goals
        have HS1 : Hid (Sts w1 (w.heap.size + 1) p.s.size (upto n fun i j => decide (i < p.s.size) && (S (byt p.s i) && (j == i + 1)))) := HS.out.below HB1.out hsz
        have HB2 : Hid (Below w.heap.size w w1) := HB.out.trans (HB1.out.mono (by omega))
        have hsz1 : w.heap.size + 1 < w1.heap.size := Nat.lt_of_lt_of_le hsz HB1.out.size
        have HQ1 : Hid (w1.cell? ⟨w.heap.size, 0, none⟩ = some (.int .u64 y0) ∧ w1.cell? ⟨w.heap.size, 1, none⟩ = some (.int .u64 y1) ∧ w1.cell? ⟨w.heap.size, 2, none⟩ = some (.int .u64 y2) ∧ w1.cell? ⟨w.heap.size, 3, none⟩ = some (.int .u64 y3)) := cells4 (HB1.out.block _ (by omega)) HQ.out
        clear q0 q1 q2 q3 hc3 m1 hA1
        rcases bool_or (S (byt p.s n)) with hq | hq
        · have HQQ : Hid (S (byt p.s n) = true) := hq
          rw [hq]
          clear hq
          go_wp2_with fail
          refine (only_at (n + 1) _ (by first | omega | exact wrap_one n _ rfl (by omega)) _ (by omega)).mono ?_
          rintro e w2 ⟨A, B, rfl, hP, hB3⟩
          have HP : Hid (Pl A B (fun q => q == n + 1)) := hP
          have hS2 : Sts w2 (w.heap.size + 1) p.s.size (upto n fun i j => decide (i < p.s.size) && (S (byt p.s i) && (j == i + 1))) := HS1.out.below hB3 hsz1
          have HS2 : Hid (Sts w2 (w.heap.size + 1) p.s.size (upto n fun i j => decide (i < p.s.size) && (S (byt p.s i) && (j == i + 1)))) := hS2
          have HB4 : Hid (Below w.heap.size w w2) := HB2.out.trans (hB3.mono (by omega))
          have hsz2 : w.heap.size + 1 < w2.heap.size := Nat.lt_of_lt_of_le hsz1 hB3.size
          have HQ2 : Hid (w2.cell? ⟨w.heap.size, 0, none⟩ = some (.int .u64 y0) ∧ w2.cell? ⟨w.heap.size, 1, none⟩ = some (.int .u64 y1) ∧ w2.cell? ⟨w.heap.size, 2, none⟩ = some (.int .u64 y2) ∧ w2.cell? ⟨w.heap.size, 3, none⟩ = some (.int .u64 y3)) := cells4 (hB3.block _ (by omega)) HQ1.out
          obtain ⟨A0, B0, d1, d2, d3, d4, _⟩ := hS2.cell n hn
          clear hP hB3 hS2
          go_wp2_with fail
          go_roundw
          case rel =>
            refine ⟨n + 1, by omega, by go_num, HS2.out.next hn (by rw [HQQ.out]; simpa [HL.out] using HP.out), (HB4.out.setCell (by simp) _).setCell (by simp) _, by rw [size_set, size_set]; omega, cells4 ?_ HQ2.out⟩
            rw [Below.heap_setCell _ _ _ _ (by simp), Below.heap_setCell _ _ _ _ (by simp)]
          case measure => simp [intOf]; omega
        · have HQQ : Hid (S (byt p.s n) = false) := hq
          rw [hq]
          clear hq
          go_wp2_with fail
          go_roundw
          case rel =>
            refine ⟨n + 1, by omega, by go_num, HS1.out.cast (fun i hi j => ?_), HB2.out, hsz1, HQ1.out⟩
            unfold upto
            by_cases e : i = n
            · subst e; simp [HQQ.out]
            · rw [show decide (i < n) = decide (i < n + 1) from by rw [Bool.eq_iff_iff]; simp; omega]
          case measure => simp [intOf]; omega
    · have hk2 : n = p.s.size := by omega
      subst hk2
      go_wp2_with fail
      go_ret
      have hsz' := HB.out.size
      exact ⟨_, rfl, (Rw.one HS.out (by omega) (by omega) rfl).cast (fun q _ i hi j => by unfold upto; rw [Bool.eq_iff_iff]; simp), HB.out.alloc hsz' _⟩
end Go.Proofs.YtppjlpihaocdiaaGreatDoor

/- A part of the proof. -/
set_option linter.unusedSimpArgs false
set_option linter.unusedVariables false
namespace Go.Proofs.YtppjlpihaocdiaaGreatDoor
open Go.RowKit
attribute [local go_sem ↓] MP_eq
set_option maxHeartbeats 1000000 in
theorem anyOf_any (p : Pp) (k lo kb c : Nat) (subs : List Nat) (R : Nat → Nat → Nat → Prop) (T : Nat → Nat → Nat → Nat → Bool) (m : Nat → Nat) (w : World) (h : TbAt w p k T m) (hlo : lo ≤ w.heap.size) (hlv : lo ≤ p.vb + 1)
    (hR : ∀ x, x < k → Tl p.s.size (T x 0) (R x)) (hne : 2 ≤ subs.length) (hc : subs.length ≤ c) (hl : subs.length ≤ 1000) (hkid : ∀ (q y : Nat), subs[q]? = some y → w.cell? ⟨kb, q, none⟩ = some (.int .i64 y)) (hsub : ∀ y ∈ subs, y < k) :
    Calls Tryz.prog 106 #[.pointer (some ⟨p.tb, 0, none⟩), .slice (some ⟨kb, 0, none⟩) subs.length c] w fun e w' => ∃ r, e = .returned (.slice (some ⟨r, 0, none⟩) 1 1) ∧ ∃ M, Rw w' lo r 1 p.s.size (fun _ => M) ∧ Tl p.s.size M (fun i j => ∃ x ∈ subs, R x i j) ∧ Below w.heap.size w w' := by
  have HT : Hid (TbAt w p k T m) := h
  have HK : Hid (∀ (q y : Nat), subs[q]? = some y → w.cell? ⟨kb, q, none⟩ = some (.int .i64 y)) := hkid
  have HSB : Hid (∀ y ∈ subs, y < k) := hsub
  have HR : Hid (∀ x, x < k → Tl p.s.size (T x 0) (R x)) := hR
  obtain ⟨x0, hx0⟩ : ∃ x, subs[0]? = some x := ⟨_, List.getElem?_eq_getElem (by omega)⟩
  have k0 := hkid 0 x0 hx0
  have hkb : kb < w.heap.size := World.block_lt_of_cell? w _ k0
  have HX0 : Hid (subs[0]? = some x0) := hx0
  have hs80 := h.s80
  have hkn := h.kn
  have hmn := h.many
  have hx0k := hsub x0 (List.mem_of_getElem? hx0)
  clear h hkid hsub hR hx0
  go_enter Tryz.func106, Tryz.ntmps106
  go_wp2_with fail
  refine (whole_any' p k x0 T m _ HT.out hx0k).mono ?_
  rintro e w1 ⟨g, c1, rfl, hg, hS, hw1⟩
  subst w1
  have HS0 : Hid (Sts w g p.s.size (T x0 0)) := hS
  have hc1 : ¬ c = 1 := by omega
  have hlen : ((subs.length - 1 : Nat) : Int) = (subs.length : Int) - 1 := by omega
  clear hS
  go_wp2_with fail
  go_loopw [5, 16] (fun o v wr => ∃ (q g c1 : Nat) (M : Nat → Nat → Bool), q + 1 ≤ subs.length ∧ v = .int .i64 q ∧ o = .slice (some ⟨g, 0, none⟩) (p.s.size + 1) c1 ∧ Hid (lo ≤ g) ∧ Hid (Sts wr g p.s.size M) ∧ Hid (Tl p.s.size M (fun i j => ∃ x ∈ subs.take (q + 1), R x i j)) ∧ Hid (Below w.heap.size w wr)) (fun _ v _ => subs.length - (intOf v).toNat)
  case atStart =>
    refine ⟨0, g, c1, T x0 0, by omega, rfl, rfl, by show lo ≤ g; omega, HS0.out, fun i hi j => ?_, Below.refl _ _⟩
    rw [HR.out x0 hx0k i hi j]
    have : subs.take 1 = [x0] := by
      rw [List.take_succ_eq_append_getElem (by omega)]
      have e := HX0.out
      rw [List.getElem?_eq_getElem (by omega)] at e
      simpa using e
    simp [this]
  case round =>
    obtain ⟨q, g', c1', M, hq, rfl, rfl, hg', HS, HL, HB⟩ := hrel
    by_cases hlt : q + 1 < subs.length
    · obtain ⟨x, hx⟩ : ∃ x, subs[q + 1]? = some x := ⟨_, List.getElem?_eq_getElem hlt⟩
      have HX : Hid (subs[q + 1]? = some x) := hx
      have hxk := HSB.out x (List.mem_of_getElem? hx)
      have k1 : wr.cell? ⟨kb, 1 + q, none⟩ = some (.int .i64 x) := by
        rw [Nat.add_comm]
        exact (World.cell?_of_block (w := w) (w' := wr) (a := ⟨kb, q + 1, none⟩) (HB.out.block _ hkb)).trans (HK.out (q + 1) x hx)
      clear hx
      go_wp2_with fail
      refine (whole_any' p k x T m _ (HT.out.below HB.out) hxk).mono ?_
      rintro e w1 ⟨g2, c2, rfl, hg2, hS, hw1⟩
      subst w1
      have HS2 : Hid (Sts wr g2 p.s.size (T x 0)) := hS
      clear hS
      go_wp2_with fail
      refine (either_any p.s.size g' g2 c1' c2 _ M (T x 0) hs80 HS.out HS2.out).mono ?_
      rintro e w1 ⟨g3, rfl, hg3, hS3, hB3⟩
      have HS3 : Hid (Sts w1 g3 p.s.size (fun i j => M i j || T x 0 i j)) := hS3
      have HB3 : Hid (Below w.heap.size w w1) := HB.out.trans (hB3.mono HB.out.size)
      have hsz := HB.out.size
      clear hS3 hB3
      go_wp2_with fail
      go_roundw
      case rel =>
        refine ⟨q + 1, g3, p.s.size + 1, _, by omega, by go_num, rfl, by show lo ≤ g3; omega, HS3.out, fun i hi j => ?_, HB3.out⟩
        have e := HX.out
        rw [List.getElem?_eq_getElem hlt] at e
        have e2 : subs[q + 1] = x := by simpa using e
        rw [List.take_succ_eq_append_getElem hlt, e2, Bool.or_eq_true, HL.out i hi j, HR.out x hxk i hi j]
        constructor
        · rintro (⟨y, hy, hr⟩ | hr)
          · exact ⟨y, List.mem_append_left _ hy, hr⟩
          · exact ⟨x, by simp, hr⟩
        · rintro ⟨y, hy, hr⟩
          rcases List.mem_append.1 hy with hy | hy
          · exact .inl ⟨y, hy, hr⟩
          · simp at hy; subst hy; exact .inr hr
      case measure => simp [intOf]; omega
    · have hq2 : q + 1 = subs.length := by omega
      go_wp2_with fail
      go_ret
      have hsz := HB.out.size
      exact ⟨_, rfl, M, Rw.one HS.out (by omega) hg'.out rfl, by rw [hq2, List.take_length] at HL; exact HL.out, HB.out.alloc hsz _⟩
end Go.Proofs.YtppjlpihaocdiaaGreatDoor

/- A part of the proof. -/
set_option linter.unusedSimpArgs false
set_option linter.unusedVariables false
namespace Go.Proofs.YtppjlpihaocdiaaGreatDoor
open Go.RowKit
def MR (a b : Value) : Sem Value := Instr.makeSlice 152 a b
theorem MR_eq (a b : Value) : Instr.makeSlice 152 a b = MR a b := rfl
attribute [local go_sem ↓] MR_eq
theorem Tryz.info155 : (Tryz.prog.info? 155).map (fun i => (i.zero, i.size, i.bytes)) = some (some (.slice none 0 0), 1, 24) := by kernel_rfl
theorem run_MR (n : Nat) (hn : n ≤ 100000) : ∃ A : Array Value, (∀ q, q < n → A[q]? = some (.slice none 0 0)) ∧ ∀ w, (MR (.int .i64 n) (.int .i64 n)).run Tryz.prog w = .ok (.slice (some ⟨w.heap.size, 0, none⟩) n n) (w.alloc (.cells A 155)) := by
  obtain ⟨i0, hi0, hz0, hz1, hz2⟩ := info_parts Tryz.info155
  refine ⟨madeCells (Value.slice none 0 0).cells (n * 1), fun q hq => madeCells_zero _ _ ?_ ?_ _ q (by omega), fun w => ?_⟩
  · intro k hk
    have : k = 0 := by simp [Value.cells] at hk; omega
    subst this; rfl
  · simp [Value.cells]
  · have := run_make (P := Tryz.prog) w 152 155 i0 _ Tryz.underlying152 hi0 hz0 .i64 .i64 n n (by omega) (Int.le_refl _) (by rw [hz2]; omega) (by omega)
    rw [hz1] at this
    rw [← MR_eq]
    simpa using this
structure Hf (w : World) (lo r n L k : Nat) (T : Nat → Nat → Nat → Bool) : Prop where
  lr : lo ≤ r
  slot : ∀ q, q < n → (∃ v, w.cell? ⟨r, q, none⟩ = some v) ∧ w.frozen? ⟨r, q, none⟩ = false
  at' : ∀ q, k ≤ q → q < n → ∃ g c, w.cell? ⟨r, q, none⟩ = some (.slice (some ⟨g, 0, none⟩) (L + 1) c) ∧ lo ≤ g ∧ g ≠ r ∧ Sts w g L (T q)
theorem Hf.made {w : World} {lo r n L : Nat} {A : Array Value} {t : TypeId} {T : Nat → Nat → Nat → Bool} (hA : ∀ q, q < n → A[q]? = some (.slice none 0 0)) (hb : w.heap[r]? = some (.cells A t)) (hlo : lo ≤ r) : Hf w lo r n L n T := by
  refine ⟨hlo, fun q hq => ⟨⟨.slice none 0 0, ?_⟩, ?_⟩, fun q h1 h2 => by omega⟩
  · rw [cell_of_row _ r q A t (0, 0) hb]; exact hA _ hq
  · simp [World.frozen?, hb]
theorem Hf.lt {w : World} {lo r n L k : Nat} {T : Nat → Nat → Nat → Bool} (h : Hf w lo r n L k T) (hn : 0 < n) : r < w.heap.size := by
  obtain ⟨⟨v, hv⟩, _⟩ := h.slot 0 hn
  exact World.block_lt_of_cell? w _ hv
theorem Hf.below {w w' : World} {lo r n L k : Nat} {T : Nat → Nat → Nat → Bool} (h : Hf w lo r n L k T) (hb : Below w.heap.size w w') : Hf w' lo r n L k T := by
  have hc : ∀ q v, w.cell? ⟨r, q, none⟩ = some v → w'.cell? ⟨r, q, none⟩ = some v := fun q v hv => (World.cell?_of_block (w := w) (w' := w') (a := ⟨r, q, none⟩) (hb.block _ (World.block_lt_of_cell? w _ hv))).trans hv
  refine ⟨h.lr, fun q hq => ?_, fun q h1 h2 => ?_⟩
  · obtain ⟨⟨v, hv⟩, hf⟩ := h.slot q hq
    exact ⟨⟨v, hc q v hv⟩, (World.frozen?_of_block (w := w) (w' := w') (a := ⟨r, q, none⟩) (hb.block _ (World.block_lt_of_cell? w _ hv))).trans hf⟩
  · obtain ⟨g, c, g1, g2, g3, g4⟩ := h.at' q h1 h2
    exact ⟨g, c, hc q _ g1, g2, g3, g4.below hb g4.lt⟩
theorem Hf.put {w : World} {lo r n L k g c : Nat} {T : Nat → Nat → Nat → Bool} {M : Nat → Nat → Bool} (h : Hf w lo r n L (k + 1) T) (hk : k < n) (hS : Sts w g L M) (hg : lo ≤ g) (hne : g ≠ r) :
    Hf (w.setCell ⟨r, k, none⟩ (.slice (some ⟨g, 0, none⟩) (L + 1) c)) lo r n L k (fun q => if q = k then M else T q) := by
  have hn : ∀ {a b : Nat}, a ≠ b → (⟨r, a, none⟩ : Addr) ≠ ⟨r, b, none⟩ := fun hab e => hab (by injection e)
  have hs : ∀ g M, g ≠ r → Sts w g L M → Sts (w.setCell ⟨r, k, none⟩ (.slice (some ⟨g, 0, none⟩) (L + 1) c)) g L M := fun g M h1 h2 => h2.of_block (Below.heap_setCell _ _ _ _ h1)
  refine ⟨h.lr, fun q hq => ?_, fun q h1 h2 => ?_⟩
  · obtain ⟨⟨v, hv⟩, hf⟩ := h.slot q hq
    refine ⟨?_, by rw [World.frozen?_setCell]; exact hf⟩
    by_cases e : q = k
    · subst e; exact ⟨_, World.cell?_setCell_same _ _ _ hv⟩
    · exact ⟨v, by rw [World.cell?_setCell_other (h := hn (by omega))]; exact hv⟩
  · by_cases e : q = k
    · subst e
      obtain ⟨⟨v, hv⟩, hf⟩ := h.slot q hk
      exact ⟨g, c, World.cell?_setCell_same _ _ _ hv, hg, hne, by rw [if_pos rfl]; exact hS.of_block (Below.heap_setCell _ _ _ _ hne)⟩
    · obtain ⟨g', c', g1, g2, g3, g4⟩ := h.at' q (by omega) h2
      exact ⟨g', c', by rw [World.cell?_setCell_other (h := hn (by omega))]; exact g1, g2, g3, by rw [if_neg e]; exact g4.of_block (Below.heap_setCell _ _ _ _ g3)⟩
theorem Hf.rw {w : World} {lo r n L : Nat} {T : Nat → Nat → Nat → Bool} (h : Hf w lo r n L 0 T) (hn : 0 < n) : Rw w lo r n L T :=
  ⟨h.lr, hn, fun q hq => by obtain ⟨g, c, g1, g2, _, g4⟩ := h.at' q (Nat.zero_le _) hq; exact ⟨g, c, g1, g2, g4⟩⟩
theorem Tl.then {L : Nat} {M1 M2 : Nat → Nat → Bool} {R1 R2 : Nat → Nat → Prop} (h1 : Tl L M1 R1) (h2 : Tl L M2 R2) (hs : Stays L R1) : Tl L (fun i j => ow M1 M2 i i (L + 1) j) (fun i j => ∃ m, R1 i m ∧ R2 m j) := by
  intro i hi j
  simp only
  rw [ow_iff]
  constructor
  · rintro ⟨m, a, b, c, d⟩
    exact ⟨m, (h1 i hi m).1 c, (h2 m (by omega) j).1 d⟩
  · rintro ⟨m, c, d⟩
    have := hs i m hi c
    exact ⟨m, by omega, by omega, (h1 i hi m).2 c, (h2 m (by omega) j).2 d⟩
set_option maxHeartbeats 4000000 in
theorem inOrder_any (p : Pp) (k lo kb c : Nat) (subs : List Nat) (R : Nat → Nat → Nat → Prop) (T : Nat → Nat → Nat → Nat → Bool) (m : Nat → Nat) (w : World) (h : TbAt w p k T m) (hlo : lo ≤ w.heap.size) (hlv : lo ≤ p.vb + 1)
    (hR : ∀ x, x < k → Tl p.s.size (T x 0) (R x)) (hst : ∀ x, x < k → Stays p.s.size (R x)) (hc : subs.length ≤ c) (hl : subs.length ≤ 1000) (hkid : ∀ (q y : Nat), subs[q]? = some y → w.cell? ⟨kb, q, none⟩ = some (.int .i64 y)) (hsub : ∀ y ∈ subs, y < k) :
    Calls Tryz.prog 105 #[.pointer (some ⟨p.tb, 0, none⟩), .slice (some ⟨kb, 0, none⟩) subs.length c] w fun e w' => ∃ r, e = .returned (.slice (some ⟨r, 0, none⟩) (subs.length + 1) (subs.length + 1)) ∧ ∃ U, Rw w' lo r (subs.length + 1) p.s.size U ∧ (∀ q, q ≤ subs.length → Tl p.s.size (U q) (Chain ((subs.map R).drop q))) ∧ Below w.heap.size w w' := by
  have HT : Hid (TbAt w p k T m) := h
  have HK : Hid (∀ (q y : Nat), subs[q]? = some y → w.cell? ⟨kb, q, none⟩ = some (.int .i64 y)) := hkid
  have HSB : Hid (∀ y ∈ subs, y < k) := hsub
  have HR : Hid (∀ x, x < k → Tl p.s.size (T x 0) (R x)) := hR
  have HST : Hid (∀ x, x < k → Stays p.s.size (R x)) := hst
  have hs80 := h.s80
  have hkn := h.kn
  have hmn := h.many
  have c3 := h.c3
  have htb : p.tb < w.heap.size := World.block_lt_of_cell? w _ c3
  obtain ⟨A1, hA1, m1⟩ := run_MR (subs.length + 1) (by omega)
  rw [show ((subs.length + 1 : Nat) : Int) = (subs.length : Int) + 1 by omega] at m1
  have HA : Hid (∀ q, q < subs.length + 1 → A1[q]? = some (.slice none 0 0)) := hA1
  clear h hkid hsub hR hA1 hst
  go_enter Tryz.func105, Tryz.ntmps105
  go_wp2_with fail
  refine (empties_any p.s.size _ hs80).mono ?_
  rintro e w1 ⟨g, rfl, hg, hS, hB0⟩
  replace hg : w.heap.size + 1 ≤ g := by simpa using hg
  have HB1 : Hid (Below w.heap.size w w1) := ((Below.refl _ _).alloc (Nat.le_refl _) _).trans (hB0.mono (by simp))
  have hF : Hf w1 lo w.heap.size (subs.length + 1) p.s.size (subs.length + 1) (fun _ _ _ => false) := (Hf.made HA.out (heap_alloc_new w _) hlo).below hB0
  have HF : Hid (Hf w1 lo w.heap.size (subs.length + 1) p.s.size (subs.length + 1) (fun _ _ _ => false)) := hF
  have HS1 : Hid (Sts w1 g p.s.size (fun i j => j == i)) := hS
  obtain ⟨⟨v0, s1⟩, s2⟩ := hF.slot subs.length (by omega)
  clear hS hB0 m1 hF
  go_wp2_with fail
  go_loopw [6] (fun v wr => ∃ (z : Int) (U : Nat → Nat → Nat → Bool), -1 ≤ z ∧ z < (subs.length : Int) ∧ v = .int .i64 z ∧ Hid (Hf wr lo w.heap.size (subs.length + 1) p.s.size (z + 1).toNat U) ∧ Hid (∀ q : Nat, z < (q : Int) → q ≤ subs.length → Tl p.s.size (U q) (Chain ((subs.map R).drop q))) ∧ Hid (Below w.heap.size w wr)) (fun v _ => (intOf v + 1).toNat)
  case atStart =>
    have hput := HF.out.put (c := p.s.size + 1) (by omega) HS1.out (by omega) (by omega)
    refine ⟨(subs.length : Int) - 1, _, by omega, by omega, rfl, by rw [show ((subs.length : Int) - 1 + 1).toNat = subs.length by omega]; exact hput, fun q h1 h2 => ?_, HB1.out.setCell (Nat.le_refl _) _⟩
    obtain rfl : q = subs.length := by omega
    rw [if_pos rfl, List.drop_of_length_le (by simp)]
    intro i hi j
    simp only [Chain, beq_iff_eq]
    exact eq_comm
  case round =>
    obtain ⟨z, U, hz1, hz2, rfl, HFr, HTl, HB⟩ := hrel
    by_cases hlt : 0 ≤ z
    · obtain ⟨n, rfl⟩ : ∃ n : Nat, z = n := ⟨z.toNat, by omega⟩
      have hn : n < subs.length := by omega
      obtain ⟨x, hx⟩ : ∃ x, subs[n]? = some x := ⟨_, List.getElem?_eq_getElem hn⟩
      have HX : Hid (subs[n]? = some x) := hx
      have hxk := HSB.out x (List.mem_of_getElem? hx)
      have hkw := HK.out n x hx
      have hkb : kb < w.heap.size := World.block_lt_of_cell? w _ hkw
      have k1 : wr.cell? ⟨kb, n, none⟩ = some (.int .i64 x) := (World.cell?_of_block (w := w) (w' := wr) (a := ⟨kb, n, none⟩) (HB.out.block _ hkb)).trans hkw
      have HFq : Hid (Hf wr lo w.heap.size (subs.length + 1) p.s.size (n + 1) U) := by
        have e := HFr.out
        rw [show ((n : Int) + 1).toNat = n + 1 by omega] at e
        exact e
      obtain ⟨g3, c3', e1, e2, e3, e4⟩ := HFq.out.at' (n + 1) (Nat.le_refl _) (by omega)
      have HE4 : Hid (Sts wr g3 p.s.size (U (n + 1))) := e4
      obtain ⟨⟨v1, s3⟩, s4⟩ := HFq.out.slot n (by omega)
      have HTd : Hid (TbAt wr.drew p k T m) := (HT.out.below HB.out).below (Below.refl wr.heap.size wr).drew
      have hw1 : IntKind.i64.wrap ((n : Int) + 1) = (n : Int) + 1 := wrap_one n (n + 1) rfl (by omega)
      have hw2 : (n : Int) + 1 < (subs.length : Int) + 1 := by omega
      have hw3 : (0 : Int) ≤ (n : Int) + 1 := by omega
      clear hx hkw e4 HFr
      go_wp2_with fail
      go_region_with (first
        | (go_at_call 66; (refine (whole_any' p k x T m _ HTd.out hxk).mono ?_; rintro e w2 ⟨g2, c2, rfl, hg2, hS, hw2⟩; subst w2; have HS2 : Hid (Sts wr.drew g2 p.s.size (T x 0)) := hS; clear hS))
        | (go_at_call 155; (refine (then_any p.s.size g2 g3 c2 c3' _ (T x 0) (U (n + 1)) hs80 HS2.out (HE4.out.of_block rfl)).mono ?_; rintro e w3 ⟨g4, rfl, hg4, hS4, hB4⟩; have hB5 : Below wr.heap.size wr w3 := (Below.refl wr.heap.size wr).drew.trans hB4; have HS4 : Hid (Sts w3 g4 p.s.size (fun i j => ow (T x 0) (U (n + 1)) i i (p.s.size + 1) j)) := hS4; have hF5 := HFq.out.below hB5; have HF5 : Hid (Hf w3 lo w.heap.size (subs.length + 1) p.s.size (n + 1) U) := hF5; obtain ⟨⟨v2, s5⟩, s6⟩ := hF5.slot n (by omega); have HB5 : Hid (Below wr.heap.size wr w3) := hB5; replace hg4 : wr.heap.size ≤ g4 := hg4; clear hS4 hB4 hB5 hF5)))
      all_goals
        go_wp2_with fail
        go_roundw
        case rel =>
          have hsz := HB.out.size
          have hrl : w.heap.size < wr.heap.size := HFq.out.lt (by omega)
          refine ⟨(n : Int) - 1, _, by omega, by omega, by go_num, by rw [show ((n : Int) - 1 + 1).toNat = n by omega]; exact HF5.out.put (by omega) HS4.out (by omega) (by omega), fun q h1 h2 => ?_, (HB.out.trans (HB5.out.mono hsz)).setCell (Nat.le_refl _) _⟩
          by_cases e : q = n
          · subst e
            rw [if_pos rfl]
            have hd : (subs.map R).drop q = R x :: (subs.map R).drop (q + 1) := by
              have e := HX.out
              rw [List.getElem?_eq_getElem hn] at e
              have e2 : subs[q] = x := by simpa using e
              rw [List.drop_eq_getElem_cons (by simpa using hn)]
              simp [e2]
            rw [hd]
            exact (HR.out x hxk).then (HTl.out (q + 1) (by omega) (by omega)) (HST.out x hxk)
          · rw [if_neg e]; exact HTl.out q (by omega) h2
        case measure => simp [intOf] <;> omega
    · have hz3 : z = -1 := by omega
      subst hz3
      go_wp2_with fail
      go_ret
      exact ⟨_, rfl, U, HFr.out.rw (by omega), fun q hq => HTl.out q (by omega) hq, HB.out⟩
end Go.Proofs.YtppjlpihaocdiaaGreatDoor

/- A part of the proof. -/
set_option linter.unusedVariables false
namespace Go.Proofs.YtppjlpihaocdiaaGreatDoor
def Zt (R : Nat → Nat → Prop) (lo : Nat) (hi : Int) (q i j : Nat) : Prop := TimesR R lo hi q (fun k => k = i) j
theorem Zt_iff {R : Nat → Nat → Prop} {lo : Nat} {hi : Int} {q i j : Nat} : Zt R lo hi q i j ↔ ∃ m r : Nat, Pow R (lo - q) i m ∧ (r = 0 ∨ hi < 0 ∨ ((max q lo : Nat) : Int) + r ≤ hi) ∧ Pow (Full R) r m j := by
  unfold Zt TimesR
  constructor
  · rintro ⟨i', m, r, rfl, h⟩; exact ⟨m, r, h⟩
  · rintro ⟨m, r, h⟩; exact ⟨i, m, r, rfl, h⟩
theorem Zt_must {R : Nat → Nat → Prop} {lo : Nat} {hi : Int} {q i j : Nat} (h : q < lo) : Zt R lo hi q i j ↔ ∃ m, R i m ∧ Zt R lo hi (q + 1) m j := by
  rw [Zt_iff]
  rw [show lo - q = (lo - (q + 1)) + 1 by omega, show max q lo = lo by omega]
  constructor
  · rintro ⟨m, r, ⟨m', h1, h2⟩, h3, h4⟩
    exact ⟨m', h1, Zt_iff.2 ⟨m, r, h2, by rw [show max (q + 1) lo = lo by omega]; exact h3, h4⟩⟩
  · rintro ⟨m', h1, h2⟩
    obtain ⟨m, r, h2, h3, h4⟩ := Zt_iff.1 h2
    rw [show max (q + 1) lo = lo by omega] at h3
    exact ⟨m, r, ⟨m', h1, h2⟩, h3, h4⟩
theorem Zt_end {R : Nat → Nat → Prop} {lo : Nat} {hi : Int} {q i j : Nat} (h : lo ≤ q) (hh : hi = (q : Int)) : Zt R lo hi q i j ↔ i = j := by
  rw [Zt_iff]
  rw [show lo - q = 0 by omega, show max q lo = q by omega]
  constructor
  · rintro ⟨m, r, rfl, h3, h4⟩
    obtain rfl : r = 0 := by omega
    exact h4
  · rintro rfl
    exact ⟨i, 0, rfl, .inl rfl, rfl⟩
theorem Zt_may {R : Nat → Nat → Prop} {lo : Nat} {hi : Int} {q i j : Nat} (h : lo ≤ q) (hh : (q : Int) < hi) : Zt R lo hi q i j ↔ (i = j ∨ ∃ m, Full R i m ∧ Zt R lo hi (q + 1) m j) := by
  rw [Zt_iff]
  rw [show lo - q = 0 by omega, show max q lo = q by omega]
  constructor
  · rintro ⟨m, r, rfl, h3, h4⟩
    cases r with
    | zero => exact .inl h4
    | succ r =>
      obtain ⟨m', h5, h6⟩ := h4
      refine .inr ⟨m', h5, Zt_iff.2 ⟨m', r, ?_, ?_, h6⟩⟩
      · rw [show lo - (q + 1) = 0 by omega]; rfl
      · rw [show max (q + 1) lo = q + 1 by omega]; omega
  · rintro (rfl | ⟨m', h5, h6⟩)
    · exact ⟨i, 0, rfl, .inl rfl, rfl⟩
    · obtain ⟨m, r, h7, h8, h9⟩ := Zt_iff.1 h6
      rw [show lo - (q + 1) = 0 by omega] at h7
      cases h7
      rw [show max (q + 1) lo = q + 1 by omega] at h8
      exact ⟨i, r + 1, rfl, by omega, ⟨m', h5, h9⟩⟩
theorem Zt_any {R : Nat → Nat → Prop} {lo : Nat} {hi : Int} {q i j : Nat} (h : lo ≤ q) (hh : hi < 0) : Zt R lo hi q i j ↔ ∃ r : Nat, Pow (Full R) r i j := by
  rw [Zt_iff]
  rw [show lo - q = 0 by omega]
  constructor
  · rintro ⟨m, r, rfl, h3, h4⟩; exact ⟨r, h4⟩
  · rintro ⟨r, h4⟩; exact ⟨i, r, rfl, .inr (.inl hh), h4⟩
theorem Tl.again {L : Nat} {M1 M : Nat → Nat → Bool} {R : Nat → Nat → Prop} (h1 : Tl L M1 R) (hs : Stays L R) (hA : Agn L M1 M) : Tl L M (fun i j => ∃ r, Pow (Full R) r i j) := by
  have key : ∀ n i, i ≤ L → L - i < n → ∀ j, (M i j = true ↔ ∃ r, Pow (Full R) r i j) := by
    intro n
    induction n with
    | zero => intro i _ h; omega
    | succ n ih =>
      intro i hi hn j
      rw [hA i hi j, Bool.or_eq_true, ow_iff]
      constructor
      · rintro (h | ⟨m, a, b, c, d⟩)
        · have : j = i := by simpa using h
          subst this; exact ⟨0, rfl⟩
        · obtain ⟨r, hr⟩ := (ih m (by omega) (by omega) j).1 d
          exact ⟨r + 1, m, ⟨(h1 i hi m).1 c, by omega⟩, hr⟩
      · rintro ⟨r, hr⟩
        cases r with
        | zero => left; cases hr; simp
        | succ r =>
          obtain ⟨m, ⟨c, d⟩, e⟩ := hr
          have x := hs i m hi c
          exact .inr ⟨m, by omega, by omega, (h1 i hi m).2 c, (ih m (by omega) (by omega) j).2 ⟨r, e⟩⟩
  exact fun i hi j => key (L + 1) i hi (by omega) j
theorem Tl.maybe {L : Nat} {M1 M2 : Nat → Nat → Bool} {R1 R2 : Nat → Nat → Prop} (h1 : Tl L M1 R1) (h2 : Tl L M2 R2) (hs : Stays L R1) : Tl L (fun i j => (j == i) || ow M1 M2 i (i + 1) (L + 1) j) (fun i j => i = j ∨ ∃ m, Full R1 i m ∧ R2 m j) := by
  intro i hi j
  simp only [Bool.or_eq_true]
  rw [ow_iff]
  constructor
  · rintro (h | ⟨m, a, b, c, d⟩)
    · have : j = i := by simpa using h
      exact .inl this.symm
    · exact .inr ⟨m, ⟨(h1 i hi m).1 c, by omega⟩, (h2 m (by omega) j).1 d⟩
  · rintro (h | ⟨m, ⟨c, e⟩, d⟩)
    · left; simp [h]
    · have := hs i m hi c
      exact .inr ⟨m, by omega, by omega, (h1 i hi m).2 c, (h2 m (by omega) j).2 d⟩
theorem Tl.iff {L : Nat} {M : Nat → Nat → Bool} {R R' : Nat → Nat → Prop} (h : Tl L M R) (e : ∀ i j, R i j ↔ R' i j) : Tl L M R' := fun i hi j => (h i hi j).trans (e i j)
theorem Tl.empty {L : Nat} : Tl L (fun i j => j == i) (fun i j => i = j) := fun i hi j => by simp only [beq_iff_eq]; exact eq_comm
end Go.Proofs.YtppjlpihaocdiaaGreatDoor

/- A part of the proof. -/
set_option linter.unusedSimpArgs false
set_option linter.unusedVariables false
namespace Go.Proofs.YtppjlpihaocdiaaGreatDoor
open Go.RowKit
attribute [local go_sem ↓] MR_eq
def Bd (w : World) (b : Nat) (ll hi : Int) : Prop := w.cell? ⟨b, 7, none⟩ = some (.int .i64 ll) ∧ w.cell? ⟨b, 8, none⟩ = some (.int .i64 hi)
theorem Bd.of {w w' : World} {b : Nat} {ll hi : Int} (h : Bd w b ll hi) (hb : w'.heap[b]? = w.heap[b]?) : Bd w' b ll hi := by
  have hc : ∀ k, w'.cell? ⟨b, k, none⟩ = w.cell? ⟨b, k, none⟩ := fun k => World.cell?_of_block (w := w) (w' := w') (a := ⟨b, k, none⟩) hb
  exact ⟨(hc 7).trans h.1, (hc 8).trans h.2⟩
set_option maxHeartbeats 4000000 in
theorem repeated_endless (p : Pp) (k lo kb c x ll  y0 y1 y2 y3 : Nat) (kd nm : Int) (R : Nat → Nat → Nat → Prop) (T : Nat → Nat → Nat → Nat → Bool) (m : Nat → Nat) (w : World) (h : TbAt w p k T m) (hlo : lo ≤ w.heap.size) (hlv : lo ≤ p.vb + 1)
    (hR : ∀ x, x < k → Tl p.s.size (T x 0) (R x)) (hst : ∀ x, x < k → Stays p.s.size (R x)) (hkid : w.cell? ⟨kb, 0, none⟩ = some (.int .i64 x)) (hx : x < k) (hll : ll ≤ ll) (hhi : ll ≤ 9) :
    Calls Tryz.prog 104 #[.pointer (some ⟨p.tb, 0, none⟩), .agg #[.int .i64 kd, .slice (some ⟨kb, 0, none⟩) 1 c, .int .u64 y0, .int .u64 y1, .int .u64 y2, .int .u64 y3, .int .i64 nm, .int .i64 ll, .int .i64 (-1)]] w fun e w' => ∃ r, e = .returned (.slice (some ⟨r, 0, none⟩) (ll + 1) (ll + 1)) ∧ ∃ U, Rw w' lo r (ll + 1) p.s.size U ∧ (∀ q, q ≤ ll → Tl p.s.size (U q) (Zt (R x) ll (-1) q)) ∧ Below w.heap.size w w' := by
  have HT : Hid (TbAt w p k T m) := h
  have HR : Hid (Tl p.s.size (T x 0) (R x)) := hR x hx
  have HST : Hid (Stays p.s.size (R x)) := hst x hx
  have hs80 := h.s80
  have hkn := h.kn
  have hmn := h.many
  have c3 := h.c3
  have HC3 : Hid (w.cell? ⟨p.tb, 3, none⟩ = some (.string p.s)) := c3
  have htb : p.tb < w.heap.size := World.block_lt_of_cell? w _ c3
  have hkb : kb < w.heap.size := World.block_lt_of_cell? w _ hkid
  obtain ⟨A1, hA1, m1⟩ := run_MR (ll + 1) (by omega)
  rw [show ((ll + 1 : Nat) : Int) = (ll : Int) + 1 by omega] at m1
  have HA : Hid (∀ q, q < ll + 1 → A1[q]? = some (.slice none 0 0)) := hA1
  clear h hR hA1 hst
  go_enter Tryz.func104, Tryz.ntmps104
  go_wp2_with fail
  have hBd0 : Bd (w.alloc (.cells #[.int .i64 kd, .slice (some ⟨kb, 0, none⟩) 1 c, .int .u64 y0, .int .u64 y1, .int .u64 y2, .int .u64 y3, .int .i64 nm, .int .i64 ll, .int .i64 (-1)] 151)) w.heap.size ll (-1) := ⟨by go_simp, by go_simp⟩
  have hB0 : Below w.heap.size w (w.alloc (.cells #[.int .i64 kd, .slice (some ⟨kb, 0, none⟩) 1 c, .int .u64 y0, .int .u64 y1, .int .u64 y2, .int .u64 y3, .int .i64 nm, .int .i64 ll, .int .i64 (-1)] 151)) := (Below.refl _ _).alloc (Nat.le_refl _) _
  have hz0 : (w.alloc (.cells #[.int .i64 kd, .slice (some ⟨kb, 0, none⟩) 1 c, .int .u64 y0, .int .u64 y1, .int .u64 y2, .int .u64 y3, .int .i64 nm, .int .i64 ll, .int .i64 (-1)] 151)).heap.size = w.heap.size + 1 := by simp
  generalize (w.alloc (.cells #[.int .i64 kd, .slice (some ⟨kb, 0, none⟩) 1 c, .int .u64 y0, .int .u64 y1, .int .u64 y2, .int .u64 y3, .int .i64 nm, .int .i64 ll, .int .i64 (-1)] 151)) = w0 at hBd0 hB0 hz0
  have HBd0 : Hid (Bd w0 w.heap.size ll (-1)) := hBd0
  have HB0 : Hid (Below w.heap.size w w0) := hB0
  obtain ⟨b7, b8⟩ := hBd0
  clear hB0
  refine (whole_any' p k x T m _ (HT.out.below HB0.out) hx).mono ?_
  rintro e w1 ⟨g2, c2, rfl, hg2, hS, hw1⟩
  subst w1
  have HS2 : Hid (Sts w0 g2 p.s.size (T x 0)) := hS
  have hg2l := hS.lt
  have hc3 : w0.cell? ⟨p.tb, 3, none⟩ = some (.string p.s) := (World.cell?_of_block (w := w) (w' := w0) (a := ⟨p.tb, 3, none⟩) (HB0.out.block _ htb)).trans HC3.out
  clear hS c3
  go_wp2_with fail
  refine (again_any p.s.size g2 c2 _ (T x 0) hs80 (HS2.out.below ((Below.refl w0.heap.size w0).alloc (Nat.le_refl _) _) hg2l)).mono ?_
  rintro e w1 ⟨ge, rfl, hge0, Me, hSe, hAg, hBe⟩
  have HB1 : Hid (Below w0.heap.size w0 w1) := ((Below.refl _ _).alloc (Nat.le_refl _) _).trans (hBe.mono (by simp))
  have hF : Hf w1 lo (w.heap.size + 1) (ll + 1) p.s.size (ll + 1) (fun _ _ _ => false) := (Hf.made HA.out (by have := heap_alloc_new w0 (.cells A1 155); rw [hz0] at this; exact this) (by omega)).below hBe
  have HF : Hid (Hf w1 lo (w.heap.size + 1) (ll + 1) p.s.size (ll + 1) (fun _ _ _ => false)) := hF
  have hge : w0.heap.size + 1 ≤ ge := by simpa using hge0
  have HTe : Hid (Tl p.s.size Me (Zt (R x) ll (-1) ll)) := ((HR.out.again HST.out hAg).iff fun i j => (Zt_any (Nat.le_refl _) (by omega)).symm)
  have HSe : Hid (Sts w1 ge p.s.size Me) := hSe
  obtain ⟨⟨v0, s1⟩, s2⟩ := hF.slot ll (by omega)
  have HBd1 : Hid (Bd w1 w.heap.size ll (-1)) := HBd0.out.of (HB1.out.block _ (by omega))
  obtain ⟨b71, b81⟩ := HBd1.out
  clear hSe hBe m1 hF b7 b8
  go_wp2_with fail
  go_loopw [8] (fun v wr => ∃ (z : Int) (U : Nat → Nat → Nat → Bool), -1 ≤ z ∧ z < (ll : Int) ∧ v = .int .i64 z ∧ Hid (Hf wr lo (w.heap.size + 1) (ll + 1) p.s.size (z + 1).toNat U) ∧ Hid (∀ q : Nat, z < (q : Int) → q ≤ ll → Tl p.s.size (U q) (Zt (R x) ll (-1) q)) ∧ Hid (Below w0.heap.size w0 wr) ∧ Hid (Bd wr w.heap.size ll (-1))) (fun v _ => (intOf v + 1).toNat)
  case atStart =>
    have hput := HF.out.put (c := p.s.size + 1) (by omega) HSe.out (by omega) (by omega)
    refine ⟨(ll : Int) - 1, _, by omega, by omega, rfl, by rw [show ((ll : Int) - 1 + 1).toNat = ll by omega]; exact hput, fun q h1 h2 => ?_, HB1.out.setCell (by simp only; omega) _, HBd1.out.of (Below.heap_setCell _ _ _ _ (by simp only; omega))⟩
    obtain rfl : q = ll := by omega
    rw [if_pos rfl]
    exact HTe.out
  case round =>
    obtain ⟨z, U, hz1, hz2, rfl, HFr, HTl, HB, HBd⟩ := hrel
    by_cases hlt : 0 ≤ z
    · obtain ⟨n, rfl⟩ : ∃ n : Nat, z = n := ⟨z.toNat, by omega⟩
      have hn : n < ll := by omega
      have HFq : Hid (Hf wr lo (w.heap.size + 1) (ll + 1) p.s.size (n + 1) U) := by
        have e := HFr.out
        rw [show ((n : Int) + 1).toNat = n + 1 by omega] at e
        exact e
      obtain ⟨g3, c3', e1, e2, e3, e4⟩ := HFq.out.at' (n + 1) (Nat.le_refl _) (by omega)
      have HE4 : Hid (Sts wr g3 p.s.size (U (n + 1))) := e4
      have HS5 : Hid (Sts wr g2 p.s.size (T x 0)) := HS2.out.below HB.out hg2l
      obtain ⟨⟨v1, s3⟩, s4⟩ := HFq.out.slot n (by omega)
      obtain ⟨b72, b82⟩ := HBd.out
      have hsz := HB.out.size
      have hrl : w.heap.size + 1 < wr.heap.size := HFq.out.lt (by omega)
      clear e4 HFr b71 b81 s1 s2
      go_wp2_with fail
      refine (then_any p.s.size g2 g3 c2 c3' _ (T x 0) (U (n + 1)) hs80 HS5.out HE4.out).mono ?_
      rintro e w3 ⟨g4, rfl, hg4, hS4, hB4⟩
      have HS4 : Hid (Sts w3 g4 p.s.size (fun i j => ow (T x 0) (U (n + 1)) i i (p.s.size + 1) j)) := hS4
      have hF5 := HFq.out.below hB4
      have HF5 : Hid (Hf w3 lo (w.heap.size + 1) (ll + 1) p.s.size (n + 1) U) := hF5
      obtain ⟨⟨v2, s5⟩, s6⟩ := hF5.slot n (by omega)
      have HB5 : Hid (Below wr.heap.size wr w3) := hB4
      clear hS4 hB4 hF5
      go_wp2_with fail
      go_roundw
      case rel =>
        refine ⟨(n : Int) - 1, _, by omega, by omega, by go_num, by rw [show ((n : Int) - 1 + 1).toNat = n by omega]; exact HF5.out.put (by omega) HS4.out (by omega) (by omega), fun q h1 h2 => ?_, (HB.out.trans (HB5.out.mono hsz)).setCell (by simp only; omega) _, (HBd.out.of (HB5.out.block _ (by omega))).of (Below.heap_setCell _ _ _ _ (by simp only; omega))⟩
        by_cases e : q = n
        · subst e
          rw [if_pos rfl]
          exact (HR.out.then (HTl.out (q + 1) (by omega) (by omega)) HST.out).iff fun i j => (Zt_must (by omega)).symm
        · rw [if_neg e]; exact HTl.out q (by omega) h2
      case measure => simp [intOf] <;> omega
    · have hz3 : z = -1 := by omega
      subst hz3
      go_wp2_with fail
      go_ret
      exact ⟨_, rfl, U, HFr.out.rw (by omega), fun q hq => HTl.out q (by omega) hq, HB0.out.trans (HB.out.mono (by omega))⟩
set_option maxHeartbeats 4000000 in
theorem repeated_upto (p : Pp) (k lo kb c x ll hh y0 y1 y2 y3 : Nat) (kd nm : Int) (R : Nat → Nat → Nat → Prop) (T : Nat → Nat → Nat → Nat → Bool) (m : Nat → Nat) (w : World) (h : TbAt w p k T m) (hlo : lo ≤ w.heap.size) (hlv : lo ≤ p.vb + 1)
    (hR : ∀ x, x < k → Tl p.s.size (T x 0) (R x)) (hst : ∀ x, x < k → Stays p.s.size (R x)) (hkid : w.cell? ⟨kb, 0, none⟩ = some (.int .i64 x)) (hx : x < k) (hll : ll ≤ hh) (hhi : hh ≤ 9) :
    Calls Tryz.prog 104 #[.pointer (some ⟨p.tb, 0, none⟩), .agg #[.int .i64 kd, .slice (some ⟨kb, 0, none⟩) 1 c, .int .u64 y0, .int .u64 y1, .int .u64 y2, .int .u64 y3, .int .i64 nm, .int .i64 ll, .int .i64 (hh : Int)]] w fun e w' => ∃ r, e = .returned (.slice (some ⟨r, 0, none⟩) (hh + 1) (hh + 1)) ∧ ∃ U, Rw w' lo r (hh + 1) p.s.size U ∧ (∀ q, q ≤ hh → Tl p.s.size (U q) (Zt (R x) ll (hh : Int) q)) ∧ Below w.heap.size w w' := by
  have HT : Hid (TbAt w p k T m) := h
  have HR : Hid (Tl p.s.size (T x 0) (R x)) := hR x hx
  have HST : Hid (Stays p.s.size (R x)) := hst x hx
  have hs80 := h.s80
  have hkn := h.kn
  have hmn := h.many
  have c3 := h.c3
  have HC3 : Hid (w.cell? ⟨p.tb, 3, none⟩ = some (.string p.s)) := c3
  have htb : p.tb < w.heap.size := World.block_lt_of_cell? w _ c3
  have hkb : kb < w.heap.size := World.block_lt_of_cell? w _ hkid
  obtain ⟨A1, hA1, m1⟩ := run_MR (hh + 1) (by omega)
  rw [show ((hh + 1 : Nat) : Int) = (hh : Int) + 1 by omega] at m1
  have HA : Hid (∀ q, q < hh + 1 → A1[q]? = some (.slice none 0 0)) := hA1
  clear h hR hA1 hst
  go_enter Tryz.func104, Tryz.ntmps104
  go_wp2_with fail
  have hBd0 : Bd (w.alloc (.cells #[.int .i64 kd, .slice (some ⟨kb, 0, none⟩) 1 c, .int .u64 y0, .int .u64 y1, .int .u64 y2, .int .u64 y3, .int .i64 nm, .int .i64 ll, .int .i64 (hh : Int)] 151)) w.heap.size ll (hh : Int) := ⟨by go_simp, by go_simp⟩
  have hB0 : Below w.heap.size w (w.alloc (.cells #[.int .i64 kd, .slice (some ⟨kb, 0, none⟩) 1 c, .int .u64 y0, .int .u64 y1, .int .u64 y2, .int .u64 y3, .int .i64 nm, .int .i64 ll, .int .i64 (hh : Int)] 151)) := (Below.refl _ _).alloc (Nat.le_refl _) _
  have hz0 : (w.alloc (.cells #[.int .i64 kd, .slice (some ⟨kb, 0, none⟩) 1 c, .int .u64 y0, .int .u64 y1, .int .u64 y2, .int .u64 y3, .int .i64 nm, .int .i64 ll, .int .i64 (hh : Int)] 151)).heap.size = w.heap.size + 1 := by simp
  generalize (w.alloc (.cells #[.int .i64 kd, .slice (some ⟨kb, 0, none⟩) 1 c, .int .u64 y0, .int .u64 y1, .int .u64 y2, .int .u64 y3, .int .i64 nm, .int .i64 ll, .int .i64 (hh : Int)] 151)) = w0 at hBd0 hB0 hz0
  have HBd0 : Hid (Bd w0 w.heap.size ll (hh : Int)) := hBd0
  have HB0 : Hid (Below w.heap.size w w0) := hB0
  obtain ⟨b7, b8⟩ := hBd0
  clear hB0
  refine (whole_any' p k x T m _ (HT.out.below HB0.out) hx).mono ?_
  rintro e w1 ⟨g2, c2, rfl, hg2, hS, hw1⟩
  subst w1
  have HS2 : Hid (Sts w0 g2 p.s.size (T x 0)) := hS
  have hg2l := hS.lt
  have hc3 : w0.cell? ⟨p.tb, 3, none⟩ = some (.string p.s) := (World.cell?_of_block (w := w) (w' := w0) (a := ⟨p.tb, 3, none⟩) (HB0.out.block _ htb)).trans HC3.out
  clear hS c3
  go_wp2_with fail
  refine (empties_any p.s.size _ hs80).mono ?_
  rintro e w1 ⟨ge, rfl, hge0, hSe, hBe⟩
  obtain ⟨Me, hMe⟩ : ∃ Me : Nat → Nat → Bool, Me = fun i j => j == i := ⟨_, rfl⟩
  rw [← hMe] at hSe
  have HB1 : Hid (Below w0.heap.size w0 w1) := ((Below.refl _ _).alloc (Nat.le_refl _) _).trans (hBe.mono (by simp))
  have hF : Hf w1 lo (w.heap.size + 1) (hh + 1) p.s.size (hh + 1) (fun _ _ _ => false) := (Hf.made HA.out (by have := heap_alloc_new w0 (.cells A1 155); rw [hz0] at this; exact this) (by omega)).below hBe
  have HF : Hid (Hf w1 lo (w.heap.size + 1) (hh + 1) p.s.size (hh + 1) (fun _ _ _ => false)) := hF
  have hge : w0.heap.size + 1 ≤ ge := by simpa using hge0
  have HTe : Hid (Tl p.s.size Me (Zt (R x) ll (hh : Int) hh)) := (by rw [hMe]; exact Tl.empty.iff fun i j => (Zt_end hll rfl).symm)
  have HSe : Hid (Sts w1 ge p.s.size Me) := hSe
  obtain ⟨⟨v0, s1⟩, s2⟩ := hF.slot hh (by omega)
  have HBd1 : Hid (Bd w1 w.heap.size ll (hh : Int)) := HBd0.out.of (HB1.out.block _ (by omega))
  obtain ⟨b71, b81⟩ := HBd1.out
  clear hSe hBe m1 hF b7 b8
  go_wp2_with fail
  go_loopw [8] (fun v wr => ∃ (z : Int) (U : Nat → Nat → Nat → Bool), -1 ≤ z ∧ z < (hh : Int) ∧ v = .int .i64 z ∧ Hid (Hf wr lo (w.heap.size + 1) (hh + 1) p.s.size (z + 1).toNat U) ∧ Hid (∀ q : Nat, z < (q : Int) → q ≤ hh → Tl p.s.size (U q) (Zt (R x) ll (hh : Int) q)) ∧ Hid (Below w0.heap.size w0 wr) ∧ Hid (Bd wr w.heap.size ll (hh : Int))) (fun v _ => (intOf v + 1).toNat)
  case atStart =>
    have hput := HF.out.put (c := p.s.size + 1) (by omega) HSe.out (by omega) (by omega)
    refine ⟨(hh : Int) - 1, _, by omega, by omega, rfl, by rw [show ((hh : Int) - 1 + 1).toNat = hh by omega]; exact hput, fun q h1 h2 => ?_, HB1.out.setCell (by simp only; omega) _, HBd1.out.of (Below.heap_setCell _ _ _ _ (by simp only; omega))⟩
    obtain rfl : q = hh := by omega
    rw [if_pos rfl]
    exact HTe.out
  case round =>
    obtain ⟨z, U, hz1, hz2, rfl, HFr, HTl, HB, HBd⟩ := hrel
    by_cases hlt : 0 ≤ z
    · obtain ⟨n, rfl⟩ : ∃ n : Nat, z = n := ⟨z.toNat, by omega⟩
      have hn : n < hh := by omega
      have HFq : Hid (Hf wr lo (w.heap.size + 1) (hh + 1) p.s.size (n + 1) U) := by
        have e := HFr.out
        rw [show ((n : Int) + 1).toNat = n + 1 by omega] at e
        exact e
      obtain ⟨g3, c3', e1, e2, e3, e4⟩ := HFq.out.at' (n + 1) (Nat.le_refl _) (by omega)
      have HE4 : Hid (Sts wr g3 p.s.size (U (n + 1))) := e4
      have HS5 : Hid (Sts wr g2 p.s.size (T x 0)) := HS2.out.below HB.out hg2l
      obtain ⟨⟨v1, s3⟩, s4⟩ := HFq.out.slot n (by omega)
      obtain ⟨b72, b82⟩ := HBd.out
      have hsz := HB.out.size
      have hrl : w.heap.size + 1 < wr.heap.size := HFq.out.lt (by omega)
      clear e4 HFr b71 b81 s1 s2
      by_cases hq : n < ll
      · skip
        go_wp2_with fail
        refine (then_any p.s.size g2 g3 c2 c3' _ (T x 0) (U (n + 1)) hs80 HS5.out HE4.out).mono ?_
        rintro e w3 ⟨g4, rfl, hg4, hS4, hB4⟩
        have HS4 : Hid (Sts w3 g4 p.s.size (fun i j => ow (T x 0) (U (n + 1)) i i (p.s.size + 1) j)) := hS4
        have hF5 := HFq.out.below hB4
        have HF5 : Hid (Hf w3 lo (w.heap.size + 1) (hh + 1) p.s.size (n + 1) U) := hF5
        obtain ⟨⟨v2, s5⟩, s6⟩ := hF5.slot n (by omega)
        have HB5 : Hid (Below wr.heap.size wr w3) := hB4
        clear hS4 hB4 hF5
        go_wp2_with fail
        go_roundw
        case rel =>
          refine ⟨(n : Int) - 1, _, by omega, by omega, by go_num, by rw [show ((n : Int) - 1 + 1).toNat = n by omega]; exact HF5.out.put (by omega) HS4.out (by omega) (by omega), fun q h1 h2 => ?_, (HB.out.trans (HB5.out.mono hsz)).setCell (by simp only; omega) _, (HBd.out.of (HB5.out.block _ (by omega))).of (Below.heap_setCell _ _ _ _ (by simp only; omega))⟩
          by_cases e : q = n
          · subst e
            rw [if_pos rfl]
            exact (HR.out.then (HTl.out (q + 1) (by omega) (by omega)) HST.out).iff fun i j => (Zt_must (by omega)).symm
          · rw [if_neg e]; exact HTl.out q (by omega) h2
        case measure => simp [intOf] <;> omega
      · skip
        go_wp2_with fail
        refine (maybe_any p.s.size g2 g3 c2 c3' _ (T x 0) (U (n + 1)) hs80 HS5.out HE4.out).mono ?_
        rintro e w3 ⟨g4, rfl, hg4, hS4, hB4⟩
        have HS4 : Hid (Sts w3 g4 p.s.size (fun i j => (j == i) || ow (T x 0) (U (n + 1)) i (i + 1) (p.s.size + 1) j)) := hS4
        have hF5 := HFq.out.below hB4
        have HF5 : Hid (Hf w3 lo (w.heap.size + 1) (hh + 1) p.s.size (n + 1) U) := hF5
        obtain ⟨⟨v2, s5⟩, s6⟩ := hF5.slot n (by omega)
        have HB5 : Hid (Below wr.heap.size wr w3) := hB4
        clear hS4 hB4 hF5
        go_wp2_with fail
        go_roundw
        case rel =>
          refine ⟨(n : Int) - 1, _, by omega, by omega, by go_num, by rw [show ((n : Int) - 1 + 1).toNat = n by omega]; exact HF5.out.put (by omega) HS4.out (by omega) (by omega), fun q h1 h2 => ?_, (HB.out.trans (HB5.out.mono hsz)).setCell (by simp only; omega) _, (HBd.out.of (HB5.out.block _ (by omega))).of (Below.heap_setCell _ _ _ _ (by simp only; omega))⟩
          by_cases e : q = n
          · subst e
            rw [if_pos rfl]
            exact (HR.out.maybe (HTl.out (q + 1) (by omega) (by omega)) HST.out).iff fun i j => (Zt_may (by omega) (by omega)).symm
          · rw [if_neg e]; exact HTl.out q (by omega) h2
        case measure => simp [intOf] <;> omega
    · have hz3 : z = -1 := by omega
      subst hz3
      go_wp2_with fail
      go_ret
      exact ⟨_, rfl, U, HFr.out.rw (by omega), fun q hq => HTl.out q (by omega) hq, HB0.out.trans (HB.out.mono (by omega))⟩
end Go.Proofs.YtppjlpihaocdiaaGreatDoor

/- A part of the proof. -/
set_option linter.unusedSimpArgs false
set_option linter.unusedVariables false
namespace Go.Proofs.YtppjlpihaocdiaaGreatDoor
namespace Tr
open Go.RowKit
theorem xor_u64 (a : Nat) (ha : a < 2 ^ 64) : ∃ r : Nat, bits .xor .u64 IntKind.u64.max a = r ∧ r < 2 ^ 64 ∧ ∀ i, i < 64 → r.testBit i = !a.testBit i := by
  have e : IntKind.u64.max = ((2 ^ 64 - 1 : Nat) : Int) := by decide
  refine ⟨(BitVec.ofNat 64 (2 ^ 64 - 1) ^^^ BitVec.ofNat 64 a).toNat, ?_, BitVec.isLt _, fun i hi => ?_⟩
  · rw [e]
    exact wrap_u64 _ (BitVec.isLt _)
  · rw [BitVec.toNat_xor, BitVec.toNat_ofNat, BitVec.toNat_ofNat, Nat.mod_eq_of_lt ha, Nat.testBit_xor, show ((2 ^ 64 - 1) % 2 ^ 64 : Nat) = 2 ^ 64 - 1 from by decide, Nat.testBit_two_pow_sub_one]
    simp [hi]
theorem ret_agg4 {a b c d : Int} {A B C D : Nat} (h : a = A) (h' : b = B) (h2 : c = C) (h3 : d = D) : Ending.returned (.agg #[.int .u64 a, .int .u64 b, .int .u64 c, .int .u64 d]) = .returned (.agg #[.int .u64 (A : Int), .int .u64 (B : Int), .int .u64 (C : Int), .int .u64 (D : Int)]) := by rw [h, h', h2, h3]
set_option maxHeartbeats 400000 in
theorem others_any (x0 x1 x2 x3 : Nat) (S : Nat → Bool) (w : World) (hS : S4 x0 x1 x2 x3 S) :
    Calls Tryz.prog 219 #[.agg #[.int .u64 x0, .int .u64 x1, .int .u64 x2, .int .u64 x3]] w fun e w' => (∃ y0 y1 y2 y3 : Nat, e = .returned (.agg #[.int .u64 y0, .int .u64 y1, .int .u64 y2, .int .u64 y3]) ∧ S4 y0 y1 y2 y3 (fun c => !S c)) ∧ Below w.heap.size w w' := by
  obtain ⟨y0, e0, b0, t0⟩ := xor_u64 x0 hS.a0
  obtain ⟨y1, e1, b1, t1⟩ := xor_u64 x1 hS.a1
  obtain ⟨y2, e2, b2, t2⟩ := xor_u64 x2 hS.a2
  obtain ⟨y3, e3, b3, t3⟩ := xor_u64 x3 hS.a3
  have HS : Hid (S4 y0 y1 y2 y3 (fun c => !S c)) := by
    refine ⟨b0, b1, b2, b3, fun c hc => ?_⟩
    rw [← hS.m c hc]
    unfold mem4
    split
    · exact t0 _ (by omega)
    · split
      · exact t1 _ (by omega)
      · split
        · exact t2 _ (by omega)
        · exact t3 _ (by omega)
  have H0 : Hid _ := e0
  have H1 : Hid _ := e1
  have H2 : Hid _ := e2
  have H3 : Hid _ := e3
  clear hS e0 e1 e2 e3
  go_enter Tryz.func219, Tryz.ntmps219
  go_wp2
  exact bodyPost_ret (v := .agg #[.int .u64 (bits BinOp.xor IntKind.u64 IntKind.u64.max x0), .int .u64 (bits BinOp.xor IntKind.u64 IntKind.u64.max x1), .int .u64 (bits BinOp.xor IntKind.u64 IntKind.u64.max x2), .int .u64 (bits BinOp.xor IntKind.u64 IntKind.u64.max x3)]) (by simp [results, Tryz.results219, go_sem]) rfl ⟨⟨y0, y1, y2, y3, ret_agg4 H0.out H1.out H2.out H3.out, HS.out⟩, ((Below.refl _ _).alloc (Nat.le_refl _) _).alloc (by simp) _⟩
theorem S4.more {x0 x1 x2 x3 k : Nat} {S : Nat → Bool} (h : S4 x0 x1 x2 x3 S) (hk : k < 256) :
    S4 (if k / 64 = 0 then x0 ||| 2 ^ (k % 64) else x0) (if k / 64 = 1 then x1 ||| 2 ^ (k % 64) else x1) (if k / 64 = 2 then x2 ||| 2 ^ (k % 64) else x2) (if k / 64 = 3 then x3 ||| 2 ^ (k % 64) else x3) (fun c => S c || (c == k)) := by
  have hp : 2 ^ (k % 64) < 2 ^ 64 := Nat.pow_lt_pow_right (by decide) (by omega)
  refine ⟨?_, ?_, ?_, ?_, fun c hc => ?_⟩
  · split
    · exact Nat.or_lt_two_pow h.a0 hp
    · exact h.a0
  · split
    · exact Nat.or_lt_two_pow h.a1 hp
    · exact h.a1
  · split
    · exact Nat.or_lt_two_pow h.a2 hp
    · exact h.a2
  · split
    · exact Nat.or_lt_two_pow h.a3 hp
    · exact h.a3
  · rw [← h.m c hc]
    unfold mem4
    have key : ∀ (y q : Nat), q < 4 → c / 64 = q → (if k / 64 = q then y ||| 2 ^ (k % 64) else y).testBit (c - 64 * q) = (y.testBit (c - 64 * q) || (c == k)) := by
      intro y q hq hcq
      split
      · rename_i hkq
        rw [Nat.testBit_or, one_bit]
        congr 1
        rw [Bool.eq_iff_iff]; simp; omega
      · rename_i hkq
        have : (c == k) = false := by rw [beq_eq_false_iff_ne]; intro e; subst e; exact hkq hcq
        rw [this, Bool.or_false]
    by_cases h0 : c < 64
    · rw [if_pos h0, if_pos h0]
      have := key x0 0 (by omega) (by omega)
      simpa using this
    · rw [if_neg h0, if_neg h0]
      by_cases h1 : c < 128
      · rw [if_pos h1, if_pos h1]
        exact key x1 1 (by omega) (by omega)
      · rw [if_neg h1, if_neg h1]
        by_cases h2 : c < 192
        · rw [if_pos h2, if_pos h2]
          exact key x2 2 (by omega) (by omega)
        · rw [if_neg h2, if_neg h2]
          exact key x3 3 (by omega) (by omega)
theorem S4.congr {x0 x1 x2 x3 : Nat} {S S' : Nat → Bool} (h : S4 x0 x1 x2 x3 S) (e : ∀ c, c < 256 → S c = S' c) : S4 x0 x1 x2 x3 S' := ⟨h.a0, h.a1, h.a2, h.a3, fun c hc => (h.m c hc).trans (e c hc)⟩
theorem S4.zero : S4 0 0 0 0 (fun _ => false) := ⟨by decide, by decide, by decide, by decide, fun c _ => by unfold mem4; (repeat' split) <;> simp⟩
theorem or_pow (x k : Nat) (hx : x < 2 ^ 64) : bits .or .u64 (x : Int) (IntKind.u64.wrap (2 ^ (k % 64))) = ((x ||| 2 ^ (k % 64) : Nat) : Int) := by
  rw [wrap_pow _ (by omega), or_u64 _ _ hx (Nat.pow_lt_pow_right (by decide) (by omega))]
set_option maxHeartbeats 1000000 in
theorem with_any (x0 x1 x2 x3 : Nat) (S : Nat → Bool) (lo hi : Nat) (w : World) (hS : S4 x0 x1 x2 x3 S) (hlo : lo ≤ 255) (hhi : hi ≤ 255) :
    Calls Tryz.prog 223 #[.agg #[.int .u64 x0, .int .u64 x1, .int .u64 x2, .int .u64 x3], .int .u8 lo, .int .u8 hi] w fun e w' => (∃ y0 y1 y2 y3 : Nat, e = .returned (.agg #[.int .u64 y0, .int .u64 y1, .int .u64 y2, .int .u64 y3]) ∧ S4 y0 y1 y2 y3 (fun c => S c || (decide (lo ≤ c) && decide (c ≤ hi)))) ∧ Below w.heap.size w w' := by
  have HS : Hid (S4 x0 x1 x2 x3 S) := hS
  clear hS
  go_enter Tryz.func223, Tryz.ntmps223
  go_wp2
  go_loopw [7] (fun v wr => ∃ (k : Nat) (y0 y1 y2 y3 : Nat) (z0 z1 z2 z3 : Int), lo ≤ k ∧ k ≤ 256 ∧ v = .int .i64 k ∧ Four wr w.heap.size y0 y1 y2 y3 ∧ Four wr (w.heap.size + 1) z0 z1 z2 z3 ∧ Below w.heap.size w wr ∧ Hid (S4 y0 y1 y2 y3 (fun c => S c || (decide (lo ≤ c) && decide (c < k)))) ∧ Hid (k ≤ hi + 1 ∨ k = lo)) (fun v _ => 256 - (intOf v).toNat)
  case atStart => exact ⟨lo, x0, x1, x2, x3, 0, 0, 0, 0, Nat.le_refl _, by omega, rfl, by constructor <;> go_simp, by constructor <;> go_simp, ((Below.refl _ _).alloc (Nat.le_refl _) _).alloc (by simp) _, S4.congr HS.out (fun c hc => by rw [show (decide (lo ≤ c) && decide (c < lo)) = false from by rw [Bool.and_eq_false_iff]; simp; omega, Bool.or_false]), .inr rfl⟩
  case round =>
    obtain ⟨k, y0, y1, y2, y3, z0, z1, z2, z3, hkl, hk, rfl, hF, hG, hB, HS4, HKH⟩ := hrel
    have HB : Hid (Below w.heap.size w wr) := hB
    have HF : Hid (Four wr w.heap.size y0 y1 y2 y3) := hF
    have HG : Hid (Four wr (w.heap.size + 1) z0 z1 z2 z3) := hG
    clear hB
    obtain ⟨c0, c1, c2, c3, f0, f1, f2, f3⟩ := hF
    by_cases hlt : k ≤ hi
    · clear hG
      have HM : Hid _ := S4.more HS4.out (show k < 256 by omega)
      have HSn : Hid (∀ c, c < 256 → ((S c || (decide (lo ≤ c) && decide (c < k))) || (c == k)) = (S c || (decide (lo ≤ c) && decide (c < k + 1)))) := fun c _ => by
        cases S c
        · simp only [Bool.false_or]; rw [Bool.eq_iff_iff]; simp; omega
        · simp
      obtain hq | hq | hq | hq : (k : Int) / 64 = 0 ∨ (k : Int) / 64 = 1 ∨ (k : Int) / 64 = 2 ∨ (k : Int) / 64 = 3 := by omega
      all_goals
        have hr : 0 ≤ (k : Int) % 64 := by omega
        have hr2 : (k : Int) % 64 < 64 := by omega
        go_wp2
        go_region
        go_wp2
        go_roundw
        case rel =>
          have hm := HM.out
          refine ⟨k + 1, _, _, _, _, _, _, _, _, by omega, by omega, by go_num, ?_, HG.out.far (by omega) _ _, (HB.out.setCell (Nat.le_refl _) _).drew, S4.congr hm HSn.out, .inl (by omega)⟩
          first
            | (rw [or_pow _ _ HS4.out.a0, if_pos (by omega), if_neg (by omega), if_neg (by omega), if_neg (by omega)]; exact HF.out.put0 _)
            | (rw [or_pow _ _ HS4.out.a1, if_neg (by omega), if_pos (by omega), if_neg (by omega), if_neg (by omega)]; exact HF.out.put1 _)
            | (rw [or_pow _ _ HS4.out.a2, if_neg (by omega), if_neg (by omega), if_pos (by omega), if_neg (by omega)]; exact HF.out.put2 _)
            | (rw [or_pow _ _ HS4.out.a3, if_neg (by omega), if_neg (by omega), if_neg (by omega), if_pos (by omega)]; exact HF.out.put3 _)
        case measure => simp [intOf]; omega
    · obtain ⟨d0, d1, d2, d3, e0, e1, e2, e3⟩ := hG
      go_wp2
      refine bodyPost_ret (v := .agg #[.int .u64 y0, .int .u64 y1, .int .u64 y2, .int .u64 y3]) (by simp [results, Tryz.results223, go_sem, *]) rfl ⟨⟨_, _, _, _, rfl, S4.congr HS4.out fun c hc => ?_⟩, (((HB.out.setCell (by simp) _).setCell (by simp) _).setCell (by simp) _).setCell (by simp) _⟩
      have := HKH.out
      congr 1
      rw [Bool.eq_iff_iff]; simp; omega
end Tr
end Go.Proofs.YtppjlpihaocdiaaGreatDoor

