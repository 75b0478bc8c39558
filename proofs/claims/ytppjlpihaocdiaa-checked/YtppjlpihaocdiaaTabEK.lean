/- The program's table: repetitions, 'repeated'. -/
import Derived.Test.YtppjlpihaocdiaaReptK
set_option linter.unusedSimpArgs false
set_option linter.unusedVariables false
namespace Go.Proofs.Ytppjlpihaocdiaa
open Go.RowKit
attribute [local go_sem ↓] MR_eq

/-- The boxed node's bounds. -/
def Bd (w : World) (b : Nat) (ll hi : Int) : Prop := w.cell? ⟨b, 7, none⟩ = some (.int .i64 ll) ∧ w.cell? ⟨b, 8, none⟩ = some (.int .i64 hi)

theorem Bd.of {w w' : World} {b : Nat} {ll hi : Int} (h : Bd w b ll hi) (hb : w'.heap[b]? = w.heap[b]?) : Bd w' b ll hi := by
  have hc : ∀ k, w'.cell? ⟨b, k, none⟩ = w.cell? ⟨b, k, none⟩ := fun k => World.cell?_of_block (w := w) (w' := w') (a := ⟨b, k, none⟩) hb
  exact ⟨(hc 7).trans h.1, (hc 8).trans h.2⟩

set_option maxHeartbeats 4000000 in
theorem repeated_endless (p : Pp) (k lo kb c x ll  y0 y1 y2 y3 : Nat) (kd nm : Int) (R : Nat → Nat → Nat → Prop) (T : Nat → Nat → Nat → Nat → Bool) (m : Nat → Nat) (w : World) (h : TbAt w p k T m) (hlo : lo ≤ w.heap.size) (hlv : lo ≤ p.vb + 1)
    (hR : ∀ x, x < k → Tl p.s.size (T x 0) (R x)) (hst : ∀ x, x < k → Stays p.s.size (R x)) (hkid : w.cell? ⟨kb, 0, none⟩ = some (.int .i64 x)) (hx : x < k) (hll : ll ≤ ll) (hhi : ll ≤ 9) :
    Calls Try.prog 73 #[.pointer (some ⟨p.tb, 0, none⟩), .agg #[.int .i64 kd, .slice (some ⟨kb, 0, none⟩) 1 c, .int .u64 y0, .int .u64 y1, .int .u64 y2, .int .u64 y3, .int .i64 nm, .int .i64 ll, .int .i64 (-1)]] w fun e w' => ∃ r, e = .returned (.slice (some ⟨r, 0, none⟩) (ll + 1) (ll + 1)) ∧ ∃ U, Rw w' lo r (ll + 1) p.s.size U ∧ (∀ q, q ≤ ll → Tl p.s.size (U q) (Zt (R x) ll (-1) q)) ∧ Below w.heap.size w w' := by
  have HT : Hid (TbAt w p k T m) := h
  have HR : Hid (Tl p.s.size (T x 0) (R x)) := hR x hx
  have HST : Hid (Stays p.s.size (R x)) := hst x hx
  have hs80 := h.s80
  have hkn := h.kn
  have hmn := h.many
  have c3 := h.c3
  have HC3 : Hid (w.cell? ⟨p.tb, 3, none⟩ = some (.string p.s)) := c3
  have htb : p.tb < w.heap.size := World.block_lt_of_cell? w _ c3
  have hkb : kb < w.heap.size := World.block_lt_of_cell? w _ hkid
  obtain ⟨A1, hA1, m1⟩ := run_MR (ll + 1) (by omega)
  rw [show ((ll + 1 : Nat) : Int) = (ll : Int) + 1 by omega] at m1
  have HA : Hid (∀ q, q < ll + 1 → A1[q]? = some (.slice none 0 0)) := hA1
  clear h hR hA1 hst
  go_enter Try.func73, Try.ntmps73
  go_wp2_with fail
  have hBd0 : Bd (w.alloc (.cells #[.int .i64 kd, .slice (some ⟨kb, 0, none⟩) 1 c, .int .u64 y0, .int .u64 y1, .int .u64 y2, .int .u64 y3, .int .i64 nm, .int .i64 ll, .int .i64 (-1)] 92)) w.heap.size ll (-1) := ⟨by go_simp, by go_simp⟩
  have hB0 : Below w.heap.size w (w.alloc (.cells #[.int .i64 kd, .slice (some ⟨kb, 0, none⟩) 1 c, .int .u64 y0, .int .u64 y1, .int .u64 y2, .int .u64 y3, .int .i64 nm, .int .i64 ll, .int .i64 (-1)] 92)) := (Below.refl _ _).alloc (Nat.le_refl _) _
  have hz0 : (w.alloc (.cells #[.int .i64 kd, .slice (some ⟨kb, 0, none⟩) 1 c, .int .u64 y0, .int .u64 y1, .int .u64 y2, .int .u64 y3, .int .i64 nm, .int .i64 ll, .int .i64 (-1)] 92)).heap.size = w.heap.size + 1 := by simp
  generalize (w.alloc (.cells #[.int .i64 kd, .slice (some ⟨kb, 0, none⟩) 1 c, .int .u64 y0, .int .u64 y1, .int .u64 y2, .int .u64 y3, .int .i64 nm, .int .i64 ll, .int .i64 (-1)] 92)) = w0 at hBd0 hB0 hz0
  have HBd0 : Hid (Bd w0 w.heap.size ll (-1)) := hBd0
  have HB0 : Hid (Below w.heap.size w w0) := hB0
  obtain ⟨b7, b8⟩ := hBd0
  clear hB0
  refine (whole_any' p k x T m _ (HT.out.below HB0.out) hx).mono ?_
  rintro e w1 ⟨g2, c2, rfl, hg2, hS, hw1⟩
  subst w1
  have HS2 : Hid (Sts w0 g2 p.s.size (T x 0)) := hS
  have hg2l := hS.lt
  have hc3 : w0.cell? ⟨p.tb, 3, none⟩ = some (.string p.s) := (World.cell?_of_block (w := w) (w' := w0) (a := ⟨p.tb, 3, none⟩) (HB0.out.block _ htb)).trans HC3.out
  clear hS c3
  go_wp2_with fail
  refine (again_any p.s.size g2 c2 _ (T x 0) hs80 (HS2.out.below ((Below.refl w0.heap.size w0).alloc (Nat.le_refl _) _) hg2l)).mono ?_
  rintro e w1 ⟨ge, rfl, hge0, Me, hSe, hAg, hBe⟩
  have HB1 : Hid (Below w0.heap.size w0 w1) := ((Below.refl _ _).alloc (Nat.le_refl _) _).trans (hBe.mono (by simp))
  have hF : Hf w1 lo (w.heap.size + 1) (ll + 1) p.s.size (ll + 1) (fun _ _ _ => false) := (Hf.made HA.out (by have := heap_alloc_new w0 (.cells A1 96); rw [hz0] at this; exact this) (by omega)).below hBe
  have HF : Hid (Hf w1 lo (w.heap.size + 1) (ll + 1) p.s.size (ll + 1) (fun _ _ _ => false)) := hF
  have hge : w0.heap.size + 1 ≤ ge := by simpa using hge0
  have HTe : Hid (Tl p.s.size Me (Zt (R x) ll (-1) ll)) := ((HR.out.again HST.out hAg).iff fun i j => (Zt_any (Nat.le_refl _) (by omega)).symm)
  have HSe : Hid (Sts w1 ge p.s.size Me) := hSe
  obtain ⟨⟨v0, s1⟩, s2⟩ := hF.slot ll (by omega)
  have HBd1 : Hid (Bd w1 w.heap.size ll (-1)) := HBd0.out.of (HB1.out.block _ (by omega))
  obtain ⟨b71, b81⟩ := HBd1.out
  clear hSe hBe m1 hF b7 b8
  go_wp2_with fail
  go_loopw [8] (fun v wr => ∃ (z : Int) (U : Nat → Nat → Nat → Bool), -1 ≤ z ∧ z < (ll : Int) ∧ v = .int .i64 z ∧ Hid (Hf wr lo (w.heap.size + 1) (ll + 1) p.s.size (z + 1).toNat U) ∧ Hid (∀ q : Nat, z < (q : Int) → q ≤ ll → Tl p.s.size (U q) (Zt (R x) ll (-1) q)) ∧ Hid (Below w0.heap.size w0 wr) ∧ Hid (Bd wr w.heap.size ll (-1))) (fun v _ => (intOf v + 1).toNat)
  case atStart =>
    have hput := HF.out.put (c := p.s.size + 1) (by omega) HSe.out (by omega) (by omega)
    refine ⟨(ll : Int) - 1, _, by omega, by omega, rfl, by rw [show ((ll : Int) - 1 + 1).toNat = ll by omega]; exact hput, fun q h1 h2 => ?_, HB1.out.setCell (by simp only; omega) _, HBd1.out.of (Below.heap_setCell _ _ _ _ (by simp only; omega))⟩
    obtain rfl : q = ll := by omega
    rw [if_pos rfl]
    exact HTe.out
  case round =>
    obtain ⟨z, U, hz1, hz2, rfl, HFr, HTl, HB, HBd⟩ := hrel
    by_cases hlt : 0 ≤ z
    · obtain ⟨n, rfl⟩ : ∃ n : Nat, z = n := ⟨z.toNat, by omega⟩
      have hn : n < ll := by omega
      have HFq : Hid (Hf wr lo (w.heap.size + 1) (ll + 1) p.s.size (n + 1) U) := by
        have e := HFr.out
        rw [show ((n : Int) + 1).toNat = n + 1 by omega] at e
        exact e
      obtain ⟨g3, c3', e1, e2, e3, e4⟩ := HFq.out.at' (n + 1) (Nat.le_refl _) (by omega)
      have HE4 : Hid (Sts wr g3 p.s.size (U (n + 1))) := e4
      have HS5 : Hid (Sts wr g2 p.s.size (T x 0)) := HS2.out.below HB.out hg2l
      obtain ⟨⟨v1, s3⟩, s4⟩ := HFq.out.slot n (by omega)
      obtain ⟨b72, b82⟩ := HBd.out
      have hsz := HB.out.size
      have hrl : w.heap.size + 1 < wr.heap.size := HFq.out.lt (by omega)
      clear e4 HFr b71 b81 s1 s2
      go_wp2_with fail
      refine (then_any p.s.size g2 g3 c2 c3' _ (T x 0) (U (n + 1)) hs80 HS5.out HE4.out).mono ?_
      rintro e w3 ⟨g4, rfl, hg4, hS4, hB4⟩
      have HS4 : Hid (Sts w3 g4 p.s.size (fun i j => ow (T x 0) (U (n + 1)) i i (p.s.size + 1) j)) := hS4
      have hF5 := HFq.out.below hB4
      have HF5 : Hid (Hf w3 lo (w.heap.size + 1) (ll + 1) p.s.size (n + 1) U) := hF5
      obtain ⟨⟨v2, s5⟩, s6⟩ := hF5.slot n (by omega)
      have HB5 : Hid (Below wr.heap.size wr w3) := hB4
      clear hS4 hB4 hF5
      go_wp2_with fail
      go_roundw
      case rel =>
        refine ⟨(n : Int) - 1, _, by omega, by omega, by go_num, by rw [show ((n : Int) - 1 + 1).toNat = n by omega]; exact HF5.out.put (by omega) HS4.out (by omega) (by omega), fun q h1 h2 => ?_, (HB.out.trans (HB5.out.mono hsz)).setCell (by simp only; omega) _, (HBd.out.of (HB5.out.block _ (by omega))).of (Below.heap_setCell _ _ _ _ (by simp only; omega))⟩
        by_cases e : q = n
        · subst e
          rw [if_pos rfl]
          exact (HR.out.then (HTl.out (q + 1) (by omega) (by omega)) HST.out).iff fun i j => (Zt_must (by omega)).symm
        · rw [if_neg e]; exact HTl.out q (by omega) h2
      case measure => simp [intOf] <;> omega
    · have hz3 : z = -1 := by omega
      subst hz3
      go_wp2_with fail
      go_ret
      exact ⟨_, rfl, U, HFr.out.rw (by omega), fun q hq => HTl.out q (by omega) hq, HB0.out.trans (HB.out.mono (by omega))⟩

set_option maxHeartbeats 4000000 in
theorem repeated_upto (p : Pp) (k lo kb c x ll hh y0 y1 y2 y3 : Nat) (kd nm : Int) (R : Nat → Nat → Nat → Prop) (T : Nat → Nat → Nat → Nat → Bool) (m : Nat → Nat) (w : World) (h : TbAt w p k T m) (hlo : lo ≤ w.heap.size) (hlv : lo ≤ p.vb + 1)
    (hR : ∀ x, x < k → Tl p.s.size (T x 0) (R x)) (hst : ∀ x, x < k → Stays p.s.size (R x)) (hkid : w.cell? ⟨kb, 0, none⟩ = some (.int .i64 x)) (hx : x < k) (hll : ll ≤ hh) (hhi : hh ≤ 9) :
    Calls Try.prog 73 #[.pointer (some ⟨p.tb, 0, none⟩), .agg #[.int .i64 kd, .slice (some ⟨kb, 0, none⟩) 1 c, .int .u64 y0, .int .u64 y1, .int .u64 y2, .int .u64 y3, .int .i64 nm, .int .i64 ll, .int .i64 (hh : Int)]] w fun e w' => ∃ r, e = .returned (.slice (some ⟨r, 0, none⟩) (hh + 1) (hh + 1)) ∧ ∃ U, Rw w' lo r (hh + 1) p.s.size U ∧ (∀ q, q ≤ hh → Tl p.s.size (U q) (Zt (R x) ll (hh : Int) q)) ∧ Below w.heap.size w w' := by
  have HT : Hid (TbAt w p k T m) := h
  have HR : Hid (Tl p.s.size (T x 0) (R x)) := hR x hx
  have HST : Hid (Stays p.s.size (R x)) := hst x hx
  have hs80 := h.s80
  have hkn := h.kn
  have hmn := h.many
  have c3 := h.c3
  have HC3 : Hid (w.cell? ⟨p.tb, 3, none⟩ = some (.string p.s)) := c3
  have htb : p.tb < w.heap.size := World.block_lt_of_cell? w _ c3
  have hkb : kb < w.heap.size := World.block_lt_of_cell? w _ hkid
  obtain ⟨A1, hA1, m1⟩ := run_MR (hh + 1) (by omega)
  rw [show ((hh + 1 : Nat) : Int) = (hh : Int) + 1 by omega] at m1
  have HA : Hid (∀ q, q < hh + 1 → A1[q]? = some (.slice none 0 0)) := hA1
  clear h hR hA1 hst
  go_enter Try.func73, Try.ntmps73
  go_wp2_with fail
  have hBd0 : Bd (w.alloc (.cells #[.int .i64 kd, .slice (some ⟨kb, 0, none⟩) 1 c, .int .u64 y0, .int .u64 y1, .int .u64 y2, .int .u64 y3, .int .i64 nm, .int .i64 ll, .int .i64 (hh : Int)] 92)) w.heap.size ll (hh : Int) := ⟨by go_simp, by go_simp⟩
  have hB0 : Below w.heap.size w (w.alloc (.cells #[.int .i64 kd, .slice (some ⟨kb, 0, none⟩) 1 c, .int .u64 y0, .int .u64 y1, .int .u64 y2, .int .u64 y3, .int .i64 nm, .int .i64 ll, .int .i64 (hh : Int)] 92)) := (Below.refl _ _).alloc (Nat.le_refl _) _
  have hz0 : (w.alloc (.cells #[.int .i64 kd, .slice (some ⟨kb, 0, none⟩) 1 c, .int .u64 y0, .int .u64 y1, .int .u64 y2, .int .u64 y3, .int .i64 nm, .int .i64 ll, .int .i64 (hh : Int)] 92)).heap.size = w.heap.size + 1 := by simp
  generalize (w.alloc (.cells #[.int .i64 kd, .slice (some ⟨kb, 0, none⟩) 1 c, .int .u64 y0, .int .u64 y1, .int .u64 y2, .int .u64 y3, .int .i64 nm, .int .i64 ll, .int .i64 (hh : Int)] 92)) = w0 at hBd0 hB0 hz0
  have HBd0 : Hid (Bd w0 w.heap.size ll (hh : Int)) := hBd0
  have HB0 : Hid (Below w.heap.size w w0) := hB0
  obtain ⟨b7, b8⟩ := hBd0
  clear hB0
  refine (whole_any' p k x T m _ (HT.out.below HB0.out) hx).mono ?_
  rintro e w1 ⟨g2, c2, rfl, hg2, hS, hw1⟩
  subst w1
  have HS2 : Hid (Sts w0 g2 p.s.size (T x 0)) := hS
  have hg2l := hS.lt
  have hc3 : w0.cell? ⟨p.tb, 3, none⟩ = some (.string p.s) := (World.cell?_of_block (w := w) (w' := w0) (a := ⟨p.tb, 3, none⟩) (HB0.out.block _ htb)).trans HC3.out
  clear hS c3
  go_wp2_with fail
  refine (empties_any p.s.size _ hs80).mono ?_
  rintro e w1 ⟨ge, rfl, hge0, hSe, hBe⟩
  obtain ⟨Me, hMe⟩ : ∃ Me : Nat → Nat → Bool, Me = fun i j => j == i := ⟨_, rfl⟩
  rw [← hMe] at hSe
  have HB1 : Hid (Below w0.heap.size w0 w1) := ((Below.refl _ _).alloc (Nat.le_refl _) _).trans (hBe.mono (by simp))
  have hF : Hf w1 lo (w.heap.size + 1) (hh + 1) p.s.size (hh + 1) (fun _ _ _ => false) := (Hf.made HA.out (by have := heap_alloc_new w0 (.cells A1 96); rw [hz0] at this; exact this) (by omega)).below hBe
  have HF : Hid (Hf w1 lo (w.heap.size + 1) (hh + 1) p.s.size (hh + 1) (fun _ _ _ => false)) := hF
  have hge : w0.heap.size + 1 ≤ ge := by simpa using hge0
  have HTe : Hid (Tl p.s.size Me (Zt (R x) ll (hh : Int) hh)) := (by rw [hMe]; exact Tl.empty.iff fun i j => (Zt_end hll rfl).symm)
  have HSe : Hid (Sts w1 ge p.s.size Me) := hSe
  obtain ⟨⟨v0, s1⟩, s2⟩ := hF.slot hh (by omega)
  have HBd1 : Hid (Bd w1 w.heap.size ll (hh : Int)) := HBd0.out.of (HB1.out.block _ (by omega))
  obtain ⟨b71, b81⟩ := HBd1.out
  clear hSe hBe m1 hF b7 b8
  go_wp2_with fail
  go_loopw [8] (fun v wr => ∃ (z : Int) (U : Nat → Nat → Nat → Bool), -1 ≤ z ∧ z < (hh : Int) ∧ v = .int .i64 z ∧ Hid (Hf wr lo (w.heap.size + 1) (hh + 1) p.s.size (z + 1).toNat U) ∧ Hid (∀ q : Nat, z < (q : Int) → q ≤ hh → Tl p.s.size (U q) (Zt (R x) ll (hh : Int) q)) ∧ Hid (Below w0.heap.size w0 wr) ∧ Hid (Bd wr w.heap.size ll (hh : Int))) (fun v _ => (intOf v + 1).toNat)
  case atStart =>
    have hput := HF.out.put (c := p.s.size + 1) (by omega) HSe.out (by omega) (by omega)
    refine ⟨(hh : Int) - 1, _, by omega, by omega, rfl, by rw [show ((hh : Int) - 1 + 1).toNat = hh by omega]; exact hput, fun q h1 h2 => ?_, HB1.out.setCell (by simp only; omega) _, HBd1.out.of (Below.heap_setCell _ _ _ _ (by simp only; omega))⟩
    obtain rfl : q = hh := by omega
    rw [if_pos rfl]
    exact HTe.out
  case round =>
    obtain ⟨z, U, hz1, hz2, rfl, HFr, HTl, HB, HBd⟩ := hrel
    by_cases hlt : 0 ≤ z
    · obtain ⟨n, rfl⟩ : ∃ n : Nat, z = n := ⟨z.toNat, by omega⟩
      have hn : n < hh := by omega
      have HFq : Hid (Hf wr lo (w.heap.size + 1) (hh + 1) p.s.size (n + 1) U) := by
        have e := HFr.out
        rw [show ((n : Int) + 1).toNat = n + 1 by omega] at e
        exact e
      obtain ⟨g3, c3', e1, e2, e3, e4⟩ := HFq.out.at' (n + 1) (Nat.le_refl _) (by omega)
      have HE4 : Hid (Sts wr g3 p.s.size (U (n + 1))) := e4
      have HS5 : Hid (Sts wr g2 p.s.size (T x 0)) := HS2.out.below HB.out hg2l
      obtain ⟨⟨v1, s3⟩, s4⟩ := HFq.out.slot n (by omega)
      obtain ⟨b72, b82⟩ := HBd.out
      have hsz := HB.out.size
      have hrl : w.heap.size + 1 < wr.heap.size := HFq.out.lt (by omega)
      clear e4 HFr b71 b81 s1 s2
      by_cases hq : n < ll
      · skip
        go_wp2_with fail
        refine (then_any p.s.size g2 g3 c2 c3' _ (T x 0) (U (n + 1)) hs80 HS5.out HE4.out).mono ?_
        rintro e w3 ⟨g4, rfl, hg4, hS4, hB4⟩
        have HS4 : Hid (Sts w3 g4 p.s.size (fun i j => ow (T x 0) (U (n + 1)) i i (p.s.size + 1) j)) := hS4
        have hF5 := HFq.out.below hB4
        have HF5 : Hid (Hf w3 lo (w.heap.size + 1) (hh + 1) p.s.size (n + 1) U) := hF5
        obtain ⟨⟨v2, s5⟩, s6⟩ := hF5.slot n (by omega)
        have HB5 : Hid (Below wr.heap.size wr w3) := hB4
        clear hS4 hB4 hF5
        go_wp2_with fail
        go_roundw
        case rel =>
          refine ⟨(n : Int) - 1, _, by omega, by omega, by go_num, by rw [show ((n : Int) - 1 + 1).toNat = n by omega]; exact HF5.out.put (by omega) HS4.out (by omega) (by omega), fun q h1 h2 => ?_, (HB.out.trans (HB5.out.mono hsz)).setCell (by simp only; omega) _, (HBd.out.of (HB5.out.block _ (by omega))).of (Below.heap_setCell _ _ _ _ (by simp only; omega))⟩
          by_cases e : q = n
          · subst e
            rw [if_pos rfl]
            exact (HR.out.then (HTl.out (q + 1) (by omega) (by omega)) HST.out).iff fun i j => (Zt_must (by omega)).symm
          · rw [if_neg e]; exact HTl.out q (by omega) h2
        case measure => simp [intOf] <;> omega
      · skip
        go_wp2_with fail
        refine (maybe_any p.s.size g2 g3 c2 c3' _ (T x 0) (U (n + 1)) hs80 HS5.out HE4.out).mono ?_
        rintro e w3 ⟨g4, rfl, hg4, hS4, hB4⟩
        have HS4 : Hid (Sts w3 g4 p.s.size (fun i j => (j == i) || ow (T x 0) (U (n + 1)) i (i + 1) (p.s.size + 1) j)) := hS4
        have hF5 := HFq.out.below hB4
        have HF5 : Hid (Hf w3 lo (w.heap.size + 1) (hh + 1) p.s.size (n + 1) U) := hF5
        obtain ⟨⟨v2, s5⟩, s6⟩ := hF5.slot n (by omega)
        have HB5 : Hid (Below wr.heap.size wr w3) := hB4
        clear hS4 hB4 hF5
        go_wp2_with fail
        go_roundw
        case rel =>
          refine ⟨(n : Int) - 1, _, by omega, by omega, by go_num, by rw [show ((n : Int) - 1 + 1).toNat = n by omega]; exact HF5.out.put (by omega) HS4.out (by omega) (by omega), fun q h1 h2 => ?_, (HB.out.trans (HB5.out.mono hsz)).setCell (by simp only; omega) _, (HBd.out.of (HB5.out.block _ (by omega))).of (Below.heap_setCell _ _ _ _ (by simp only; omega))⟩
          by_cases e : q = n
          · subst e
            rw [if_pos rfl]
            exact (HR.out.maybe (HTl.out (q + 1) (by omega) (by omega)) HST.out).iff fun i j => (Zt_may (by omega) (by omega)).symm
          · rw [if_neg e]; exact HTl.out q (by omega) h2
        case measure => simp [intOf] <;> omega
    · have hz3 : z = -1 := by omega
      subst hz3
      go_wp2_with fail
      go_ret
      exact ⟨_, rfl, U, HFr.out.rw (by omega), fun q hq => HTl.out q (by omega) hq, HB0.out.trans (HB.out.mono (by omega))⟩

end Go.Proofs.Ytppjlpihaocdiaa
