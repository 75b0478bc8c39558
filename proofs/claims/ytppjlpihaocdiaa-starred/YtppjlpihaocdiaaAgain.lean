/- The program's tables of stretches: maybe, again. -/
import Derived.Test.YtppjlpihaocdiaaThens
set_option linter.unusedSimpArgs false
set_option linter.unusedVariables false
namespace Go.Proofs.Ytppjlpihaocdiaa
open Go.RowKit

/-- A table where the rows below k are as M says, and the others as E. -/
def half (k : Nat) (M E : Nat → Nat → Bool) (i j : Nat) : Bool := if i < k then M i j else E i j

theorem Sts.step {w : World} {g L k A B : Nat} {M E : Nat → Nat → Bool} (h : Sts w g L (half k M E)) (hk : k ≤ L) (hP : Pl A B (M k)) :
    Sts ((w.setCell ⟨g, k * 2, none⟩ (.int .u64 A)).setCell ⟨g, k * 2 + 1, none⟩ (.int .u64 B)) g L (half (k + 1) M E) := by
  refine (h.put hk hP).cast fun i hi j => ?_
  unfold half
  by_cases e : i = k
  · subst e; simp
  · simp only [e, if_false]
    by_cases h : i < k
    · rw [if_pos h, if_pos (by omega)]
    · rw [if_neg h, if_neg (by omega)]

theorem wrap_one (k n : Nat) (h : n = k + 1) (hk : k ≤ 1000) : IntKind.i64.wrap ((k : Int) + 1) = (n : Int) := by
  subst h
  simp [IntKind.wrap, IntKind.min, IntKind.signed, IntKind.bits] <;> omega

theorem onward_at (L g1 g2 c1 c2 i lo : Nat) (v : Int) (hv : v = (lo : Int)) (w : World) (M1 M2 : Nat → Nat → Bool) (hL : L ≤ 80) (hi : i ≤ L) (hlo : lo ≤ L + 1) (h1 : Sts w g1 L M1) (h2 : Sts w g2 L M2) :
    Calls Try.prog 116 #[.slice (some ⟨g1, 0, none⟩) (L + 1) c1, .int .i64 i, .int .i64 v, .slice (some ⟨g2, 0, none⟩) (L + 1) c2] w fun e w' => ∃ A B : Nat, e = .returned (.agg #[.int .u64 A, .int .u64 B]) ∧ Pl A B (ow M1 M2 i lo (L + 1)) ∧ Below w.heap.size w w' := by
  subst hv; exact onward_any L g1 g2 c1 c2 i lo w M1 M2 hL hi hlo h1 h2

set_option maxHeartbeats 2000000 in
theorem maybe_any (L g1 g2 c1 c2 : Nat) (w : World) (M1 M2 : Nat → Nat → Bool) (hL : L ≤ 80) (h1 : Sts w g1 L M1) (h2 : Sts w g2 L M2) :
    Calls Try.prog 97 #[.slice (some ⟨g1, 0, none⟩) (L + 1) c1, .slice (some ⟨g2, 0, none⟩) (L + 1) c2] w fun e w' => ∃ g : Nat, e = .returned (.slice (some ⟨g, 0, none⟩) (L + 1) (L + 1)) ∧ w.heap.size ≤ g ∧ Sts w' g L (fun i j => (j == i) || ow M1 M2 i (i + 1) (L + 1) j) ∧ Below w.heap.size w w' := by
  have H1 : Hid (Sts w g1 L M1) := h1
  have H2 : Hid (Sts w g2 L M2) := h2
  have l1 := h1.lt
  have l2 := h2.lt
  clear h1 h2
  go_enter Try.func97, Try.ntmps97
  go_wp2_with fail
  refine (empties_any L _ hL).mono ?_
  rintro e w0 ⟨g, rfl, hg, hS, hB0⟩
  have hg2 := hS.lt
  have HS0 : Hid (Sts w0 g L (fun i j => j == i)) := hS
  have HB0 : Hid (Below w.heap.size w w0) := hB0
  clear hS hB0
  go_wp2_with fail
  go_loopw [13] (fun v wr => ∃ (k : Nat), k ≤ L + 1 ∧ v = .int .i64 k ∧ Hid (Sts wr g L (half k (fun i j => (j == i) || ow M1 M2 i (i + 1) (L + 1) j) fun i j => j == i)) ∧ Hid (Below w.heap.size w wr) ∧ g < wr.heap.size) (fun v _ => L + 1 - (intOf v).toNat)
  case atStart => exact ⟨0, by omega, rfl, HS0.out.cast (fun i hi j => by simp [half]), HB0.out, hg2⟩
  case round =>
    obtain ⟨k, hk, rfl, HS, HB, hsz⟩ := hrel
    by_cases hlt : k ≤ L
    · obtain ⟨A0, B0, d1, d2, d3, d4, P0⟩ := HS.out.cell k hlt
      have HP0 : Hid (Pl A0 B0 (fun j => j == k)) := by rw [show (fun j => j == k) = half k (fun i j => (j == i) || ow M1 M2 i (i + 1) (L + 1) j) (fun i j => j == i) k from funext fun j => by simp [half]]; exact P0
      have HX1 : Hid (Sts wr.drew g1 L M1) := (H1.out.below HB.out l1).of_block rfl
      have HX2 : Hid (Sts wr.drew g2 L M2) := (H2.out.below HB.out l2).of_block rfl
      clear P0
      go_wp2_with fail
      go_region_with (first | (go_at_call 115; (refine (pwith_any A0 B0 A2 B2 _ _ _ HP0.out HP2.out).mono ?_; rintro e w2 ⟨A3, B3, rfl, hP3, hB3⟩; have HP3 : Hid (Pl A3 B3 fun q => (q == k) || ow M1 M2 k (k + 1) (L + 1) q) := hP3; have hB4 : Below wr.heap.size wr w2 := HBB.out.trans (hB3.mono HBB.out.size); have hS1 := HS.out.below hB4 hsz; have HS1 : Hid (Sts w2 g L _) := hS1; obtain ⟨A4, B4, z1, z2, z3, z4, z5⟩ := hS1.cell k hlt; have HBC : Hid (Below wr.heap.size wr w2) := hB4; clear hP3 hB3 hB4 hS1 z5)) | (go_at_call 116; (refine (onward_at L g1 g2 c1 c2 k (k + 1) _ (by first | omega | exact wrap_one k _ rfl (by omega)) _ M1 M2 hL hlt (by omega) HX1.out HX2.out).mono ?_; rintro e w1 ⟨A2, B2, rfl, hP, hB1⟩; have HP2 : Hid (Pl A2 B2 (ow M1 M2 k (k + 1) (L + 1))) := hP; have hB2 : Below wr.heap.size wr w1 := (Below.refl wr.heap.size wr).drew.trans hB1; have hS1 := HS.out.below hB2 hsz; have HS9 : Hid (Sts w1 g L _) := hS1; have hd1 : w1.cell? ⟨g, k * 2, none⟩ = some (.int .u64 A0) := (World.cell?_of_block (w := wr) (w' := w1) (a := ⟨g, k * 2, none⟩) (hB2.block g hsz)).trans d1; have hd2 : w1.cell? ⟨g, k * 2 + 1, none⟩ = some (.int .u64 B0) := (World.cell?_of_block (w := wr) (w' := w1) (a := ⟨g, k * 2 + 1, none⟩) (hB2.block g hsz)).trans d2; have HBB : Hid (Below wr.heap.size wr w1) := hB2; clear hP hB1 hB2 hS1)))
      all_goals
        go_wp2_with fail
        go_roundw
        case rel => exact ⟨k + 1, by omega, by go_num, HS1.out.step hlt HP3.out, ((HB.out.trans (HBC.out.mono (by omega))).setCell (by omega) _).setCell (by omega) _, by have := HBC.out.size; simp [World.setCell]; omega⟩
        case measure => simp [intOf]; omega
    · have hk2 : k = L + 1 := by omega
      subst hk2
      go_wp2_with fail
      go_ret
      exact ⟨_, rfl, hg, HS.out.cast (fun i hi j => by unfold half; rw [if_pos (by omega)]), HB.out⟩

/-- Rows of stretches, none of them empty, of any number: what the table says of itself. -/
def Agn (L : Nat) (M1 M : Nat → Nat → Bool) : Prop := ∀ i, i ≤ L → ∀ j, M i j = ((j == i) || ow M1 M i (i + 1) (L + 1) j)

set_option maxHeartbeats 2000000 in
theorem again_any (L g1 c1 : Nat) (w : World) (M1 : Nat → Nat → Bool) (hL : L ≤ 80) (h1 : Sts w g1 L M1) :
    Calls Try.prog 94 #[.slice (some ⟨g1, 0, none⟩) (L + 1) c1] w fun e w' => ∃ g : Nat, e = .returned (.slice (some ⟨g, 0, none⟩) (L + 1) (L + 1)) ∧ w.heap.size ≤ g ∧ ∃ M : Nat → Nat → Bool, Sts w' g L M ∧ Agn L M1 M ∧ Below w.heap.size w w' := by
  have H1 : Hid (Sts w g1 L M1) := h1
  have l1 := h1.lt
  clear h1
  go_enter Try.func94, Try.ntmps94
  go_wp2_with fail
  refine (empties_any L _ hL).mono ?_
  rintro e w0 ⟨g, rfl, hg, hS, hB0⟩
  have hg2 := hS.lt
  have HS0 : Hid (Sts w0 g L (fun i j => j == i)) := hS
  have HB0 : Hid (Below w.heap.size w w0) := hB0
  clear hS hB0
  go_wp2_with fail
  go_loopw [4] (fun v wr => ∃ (k : Int) (M : Nat → Nat → Bool), -1 ≤ k ∧ k ≤ (L : Int) ∧ v = .int .i64 k ∧ Hid (Sts wr g L M) ∧ Hid (∀ i : Nat, (i : Int) ≤ k → ∀ j, M i j = (j == i)) ∧ Hid (∀ i : Nat, k < (i : Int) → i ≤ L → ∀ j, M i j = ((j == i) || ow M1 M i (i + 1) (L + 1) j)) ∧ Hid (Below w.heap.size w wr) ∧ g < wr.heap.size) (fun v _ => (intOf v + 1).toNat)
  case atStart => exact ⟨L, fun i j => j == i, by omega, by omega, rfl, HS0.out, fun _ _ _ => rfl, fun i h1 h2 => by omega, HB0.out, hg2⟩
  case round =>
    obtain ⟨k, M, hk, hk2, rfl, HS, HE, HA, HB, hsz⟩ := hrel
    by_cases hlt : 0 ≤ k
    · obtain ⟨n, rfl⟩ : ∃ n : Nat, k = n := ⟨k.toNat, by omega⟩
      have hn : n ≤ L := by omega
      obtain ⟨A0, B0, d1, d2, d3, d4, P0⟩ := HS.out.cell n hn
      have HP0 : Hid (Pl A0 B0 (fun j => j == n)) := by rw [show (fun j => j == n) = M n from funext fun j => (HE.out n (by omega) j).symm]; exact P0
      have HX1 : Hid (Sts wr.drew g1 L M1) := (H1.out.below HB.out l1).of_block rfl
      have HX2 : Hid (Sts wr.drew g L M) := HS.out.of_block rfl
      clear P0
      go_wp2_with fail
      go_region_with (first | (go_at_call 115; (refine (pwith_any A0 B0 A2 B2 _ _ _ HP0.out HP2.out).mono ?_; rintro e w2 ⟨A3, B3, rfl, hP3, hB3⟩; have HP3 : Hid (Pl A3 B3 fun q => (q == n) || ow M1 M n (n + 1) (L + 1) q) := hP3; have hB4 : Below wr.heap.size wr w2 := HBB.out.trans (hB3.mono HBB.out.size); have hS1 := HS.out.below hB4 hsz; have HS1 : Hid (Sts w2 g L M) := hS1; obtain ⟨A4, B4, z1, z2, z3, z4, z5⟩ := hS1.cell n hn; have HBC : Hid (Below wr.heap.size wr w2) := hB4; clear hP3 hB3 hB4 hS1 z5)) | (go_at_call 116; (refine (onward_at L g1 g c1 (L + 1) n (n + 1) _ (by first | omega | exact wrap_one n _ rfl (by omega)) _ M1 M hL hn (by omega) HX1.out HX2.out).mono ?_; rintro e w1 ⟨A2, B2, rfl, hP, hB1⟩; have HP2 : Hid (Pl A2 B2 (ow M1 M n (n + 1) (L + 1))) := hP; have hB2 : Below wr.heap.size wr w1 := (Below.refl wr.heap.size wr).drew.trans hB1; have hS1 := HS.out.below hB2 hsz; have HS9 : Hid (Sts w1 g L M) := hS1; have hd1 : w1.cell? ⟨g, n * 2, none⟩ = some (.int .u64 A0) := (World.cell?_of_block (w := wr) (w' := w1) (a := ⟨g, n * 2, none⟩) (hB2.block g hsz)).trans d1; have hd2 : w1.cell? ⟨g, n * 2 + 1, none⟩ = some (.int .u64 B0) := (World.cell?_of_block (w := wr) (w' := w1) (a := ⟨g, n * 2 + 1, none⟩) (hB2.block g hsz)).trans d2; have HBB : Hid (Below wr.heap.size wr w1) := hB2; clear hP hB1 hB2 hS1)))
      all_goals
        go_wp2_with fail
        go_roundw
        case rel =>
          refine ⟨(n : Int) - 1, _, by omega, by omega, by go_num, HS1.out.put hn HP3.out, fun i hi j => ?_, fun i hi hi2 j => ?_, ((HB.out.trans (HBC.out.mono (by omega))).setCell (by omega) _).setCell (by omega) _, by have := HBC.out.size; simp [World.setCell]; omega⟩
          · rw [if_neg (by omega)]; exact HE.out i (by omega) j
          · by_cases e : i = n
            · subst e
              rw [if_pos rfl]
              exact congrArg _ (ow_congr fun m h1 h2 => by rw [if_neg (by omega)])
            · rw [if_neg e, HA.out i (by omega) hi2 j]
              exact congrArg _ (ow_congr fun m h1 h2 => by rw [if_neg (by omega)])
        case measure => simp [intOf] <;> omega
    · have hk2 : k = -1 := by omega
      subst hk2
      go_wp2_with fail
      go_ret
      exact ⟨_, rfl, hg, M, HS.out, fun i hi j => HA.out i (by omega) hi j, HB.out⟩
end Go.Proofs.Ytppjlpihaocdiaa
