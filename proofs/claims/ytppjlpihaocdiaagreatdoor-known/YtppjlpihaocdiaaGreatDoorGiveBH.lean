/- A part of the proof. -/
import Derived.Test.YtppjlpihaocdiaaGreatDoorGiveAH
import Derived.Deep.DeepCutAuto
set_option linter.unusedSimpArgs false
set_option linter.unusedVariables false
namespace Go.Proofs.YtppjlpihaocdiaaGreatDoor
open Go.RowKit
set_option maxHeartbeats 4000000 in
theorem giveStep_any (p : Pp) (T : Nat → Nat → Nat → Nat → Bool) (m : Nat → Nat) (w0 : World) (ob N : Nat) (hC : Ctx p T m w0 ob) (ih : GiveAt p T m w0 ob N)
    (x i j g3 c3 : Nat) (mt : Int × Int) (c : Caps) (w : World) (Qm : Nat → Nat → Bool) (Q : Nat → Nat → Prop) (hx : x < N) (hxl : x < p.nodes.length) (hW : Now p w0 ob mt c w) (hij : i ≤ j) (hj : j ≤ p.s.size)
    (hg3 : Sts w0 g3 p.s.size Qm) (hQ : Tl p.s.size Qm Q) (hpre : ∀ t, Top (fun t => Mat p.s p.nodes x i t ∧ Q t j) i j t → Mat p.s p.nodes x i t) :
    Calls Tryz.prog 192 #[.pointer (some ⟨p.tb, 0, none⟩), .int .i64 x, .agg #[.int .i64 i, .int .i64 j], .slice (some ⟨g3, 0, none⟩) (p.s.size + 1) c3, .slice (some ⟨ob, 0, none⟩) (p.groups + 1) (p.groups + 1)] w
      fun e w' => ∃ t : Nat, e = .returned (.int .i64 t) ∧ Top (fun t => Mat p.s p.nodes x i t ∧ Q t j) i j t ∧ ∃ c', Now p w0 ob mt c' w' ∧ PGv p.s p.nodes x i t c c' ∧ Fo ob w w' := by
  have HC : Hid (Ctx p T m w0 ob) := hC
  have IH : Hid (GiveAt p T m w0 ob N) := ih
  have HW : Hid (Now p w0 ob mt c w) := hW
  have HQ : Hid (Tl p.s.size Qm Q) := hQ
  have HP : Hid (∀ t, Top (fun t => Mat p.s p.nodes x i t ∧ Q t j) i j t → Mat p.s p.nodes x i t) := hpre
  have HG3 : Hid (Sts w0 g3 p.s.size Qm) := hg3
  have hs80 := hC.tb.s80
  have hobl := hW.lt
  have hmany := hC.tb.many
  have hsz := hW.b.size
  have hB0 : Below w.heap.size w (w.alloc (.cells #[.int .i64 i, .int .i64 j] 48)) := (Below.refl _ _).alloc (Nat.le_refl _) _
  have hz0 : (w.alloc (.cells #[.int .i64 i, .int .i64 j] 48)).heap.size = w.heap.size + 1 := by simp
  have hh0 := heap_alloc_new w (.cells #[.int .i64 i, .int .i64 j] 48)
  clear hC ih hW hQ hpre hg3
  go_enter Tryz.func192, Tryz.ntmps192
  go_wp2_with fail
  generalize (w.alloc (.cells #[.int .i64 i, .int .i64 j] 48)) = w1 at hB0 hz0 hh0
  have l0 : w1.cell? ⟨w.heap.size, 0, none⟩ = some (.int .i64 i) := by rw [cell_of_row w1 _ 0 _ 48 (0, 0) hh0]; rfl
  have l1 : w1.cell? ⟨w.heap.size, 1, none⟩ = some (.int .i64 j) := by rw [cell_of_row w1 _ 1 _ 48 (0, 0) hh0]; rfl
  have HB0 : Hid (Below w.heap.size w w1) := hB0
  obtain ⟨g2, c2, hWI, hS2⟩ := (HC.out.tb.below (HW.out.b.trans (hB0.mono hsz))).wholeIs hxl
  have HWd : Hid (WholeIs w1.drew p x g2 c2) := hWI.below (Below.refl w1.heap.size w1).drew
  have HWe : Hid (WholeIs (w1.alloc (.cells #[.int .u64 0, .int .u64 0] 158)).drew p x g2 c2) := hWI.below ((Below.refl w1.heap.size w1).alloc (Nat.le_refl _) _).drew
  have HS2 : Hid (Sts w1 g2 p.s.size (T x 0)) := hS2
  have hg2l : g2 < w.heap.size + 1 := Nat.lt_of_lt_of_eq hS2.lt hz0
  obtain ⟨A2, B2, z1, z2, z3, z4, z5⟩ := hS2.cell i (by omega)
  have HP2 : Hid (Pl A2 B2 (T x 0 i)) := z5
  clear hS2 z5 hWI
  have HW1 : Hid (Now p w0 ob mt c w1) := HW.out.below hB0
  clear hB0 hh0
  have hi : i ≤ p.s.size := by omega
  have hi1 : (i : Int) < (p.s.size : Int) + 1 := by omega
  have hi0 : (0 : Int) ≤ (i : Int) := by omega
  go_cut [11] (fun s11 wx => s11 = .pointer (some ⟨w.heap.size + 1, 0, none⟩) ∧ wx = (w1.alloc (.cells #[.int .u64 A2, .int .u64 B2] 158)).drew)
  case first =>
    go_region_with (first
        | (go_at_call 66; (refine (whole_is p x g2 c2 _ HWd.out).mono ?_; rintro e w2 ⟨rfl, hw2⟩; subst w2))
        | (go_at_call 66; (refine (whole_is p x g2 c2 _ HWe.out).mono ?_; rintro e w2 ⟨rfl, hw2⟩; subst w2)))
    all_goals (go_wp2_with fail; go_meet; exact ⟨rfl, rfl⟩)
  case rest =>
  obtain ⟨rfl, rfl⟩ := hcut
  have hB2 : Below w1.heap.size w1 (w1.alloc (.cells #[.int .u64 A2, .int .u64 B2] 158)).drew := ((Below.refl _ _).alloc (Nat.le_refl _) _).drew
  have hh2 : (w1.alloc (.cells #[.int .u64 A2, .int .u64 B2] 158)).drew.heap[w.heap.size + 1]? = some (.cells #[.int .u64 A2, .int .u64 B2] 158) := by
    have := heap_alloc_new w1 (.cells #[.int .u64 A2, .int .u64 B2] 158)
    rw [hz0] at this
    exact this
  have hz2 : (w1.alloc (.cells #[.int .u64 A2, .int .u64 B2] 158)).drew.heap.size = w.heap.size + 2 := by simp [hz0]
  generalize (w1.alloc (.cells #[.int .u64 A2, .int .u64 B2] 158)).drew = w2 at hB2 hh2 hz2
  have HW2 : Hid (Now p w0 ob mt c w2) := HW1.out.below hB2
  have HB2 : Hid (Below w.heap.size w w2) := HB0.out.trans (hB2.mono (by omega))
  have HL2 : Hid (w2.cell? ⟨w.heap.size, 0, none⟩ = some (.int .i64 i) ∧ w2.cell? ⟨w.heap.size, 1, none⟩ = some (.int .i64 j)) := ⟨(World.cell?_of_block (w := w1) (w' := w2) (a := ⟨w.heap.size, 0, none⟩) (hB2.block w.heap.size (by omega))).trans l0, (World.cell?_of_block (w := w1) (w' := w2) (a := ⟨w.heap.size, 1, none⟩) (hB2.block w.heap.size (by omega))).trans l1⟩
  have HE2 : Hid (w2.cell? ⟨w.heap.size + 1, 0, none⟩ = some (.int .u64 A2) ∧ w2.cell? ⟨w.heap.size + 1, 1, none⟩ = some (.int .u64 B2)) := ⟨by rw [cell_of_row w2 _ 0 _ 158 (0, 0) hh2]; rfl, by rw [cell_of_row w2 _ 1 _ 158 (0, 0) hh2]; rfl⟩
  clear z1 z2 z3 z4 l0 l1 hB2 hh2 hz0 HWd HWe HS2 HW1 HB0
  obtain ⟨l20, l21⟩ := HL2.out
  go_wp2_with fail
  go_loopw [12] (fun v wr => ∃ t : Nat, i ≤ t ∧ t ≤ j ∧ v = .int .i64 t ∧ Hid (∀ u, t < u → u ≤ j → ¬ (Mat p.s p.nodes x i u ∧ Q u j)) ∧ Hid (Below w2.heap.size w2 wr)) (fun v _ => (intOf v).toNat)
  case atStart => exact ⟨j, hij, Nat.le_refl _, rfl, fun u h1 h2 => by omega, Below.refl _ _⟩
  case round =>
    obtain ⟨t, ht1, ht2, rfl, HN, HB⟩ := hrel
    have HE3 : Hid (wr.cell? ⟨w.heap.size + 1, 0, none⟩ = some (.int .u64 A2) ∧ wr.cell? ⟨w.heap.size + 1, 1, none⟩ = some (.int .u64 B2)) := ⟨(World.cell?_of_block (w := w2) (w' := wr) (a := ⟨w.heap.size + 1, 0, none⟩) (HB.out.block (w.heap.size + 1) (by omega))).trans HE2.out.1, (World.cell?_of_block (w := w2) (w' := wr) (a := ⟨w.heap.size + 1, 1, none⟩) (HB.out.block (w.heap.size + 1) (by omega))).trans HE2.out.2⟩
    have HL3 : Hid (wr.cell? ⟨w.heap.size, 0, none⟩ = some (.int .i64 i) ∧ wr.cell? ⟨w.heap.size, 1, none⟩ = some (.int .i64 j)) := ⟨(World.cell?_of_block (w := w2) (w' := wr) (a := ⟨w.heap.size, 0, none⟩) (HB.out.block w.heap.size (by omega))).trans HL2.out.1, (World.cell?_of_block (w := w2) (w' := wr) (a := ⟨w.heap.size, 1, none⟩) (HB.out.block w.heap.size (by omega))).trans HL2.out.2⟩
    have hszr := HB.out.size
    have HWr : Hid (Now p w0 ob mt c wr) := HW2.out.below HB.out
    clear l20 l21
    obtain ⟨e30, e31⟩ := HE3.out
    obtain ⟨l30, l31⟩ := HL3.out
    have HS3 : Hid (Sts wr g3 p.s.size Qm) := HG3.out.below HWr.out.b HG3.out.lt
    obtain ⟨A3, B3, y1, y2, y3, y4, y5⟩ := HS3.out.cell t (by omega)
    have HP3 : Hid (Pl A3 B3 (Qm t)) := y5
    have hg3l : g3 < wr.heap.size := HS3.out.lt
    clear y5
    have ht3 : (t : Int) < (p.s.size : Int) + 1 := by omega
    have ht0 : (0 : Int) ≤ (t : Int) := by omega
    have ht4 : t ≤ p.s.size := by omega
    go_upto_region 3 with fail
    go_cut [40] (fun s40 wx => s40 = .bool (decide (i < t) && !(T x 0 i t && Qm t j)) ∧ Below wr.heap.size wr wx)
    case first =>
      by_cases hit : i < t
      · have hd : decide ((i : Int) < (t : Int)) = true := by simp; omega
        rcases bool_or (T x 0 i t) with hb1 | hb1
        · have HB1 : Hid (T x 0 i t = true) := hb1
          rcases bool_or (Qm t j) with hb2 | hb2
          · have HBQ : Hid (Qm t j = true) := hb2
            clear hb1 hb2
            go_region_with (first
              | (go_at_call 193; (have h44 := HB4.out; clear h44; refine (has_any A3 B3 j _ (by omega) _ HP3.out).mono ?_; rw [HBQ.out]; rintro e w4 ⟨rfl, hB5⟩; have HB5 : Hid (Below wr.heap.size wr w4) := HB4.out.trans (hB5.mono HB4.out.size); clear hB5))
              | (go_at_call 193; (refine (has_any A2 B2 t _ (by omega) _ HP2.out).mono ?_; rw [HB1.out]; rintro e w3 ⟨rfl, hB3⟩; have hB4 : Below wr.heap.size wr w3 := (Below.refl wr.heap.size wr).drew.trans hB3; have HB4 : Hid (Below wr.heap.size wr w3) := hB4; have y1' : w3.cell? ⟨g3, t * 2, none⟩ = some (.int .u64 A3) := (World.cell?_of_block (w := wr) (w' := w3) (a := ⟨g3, t * 2, none⟩) (hB4.block g3 hg3l)).trans y1; have y2' : w3.cell? ⟨g3, t * 2 + 1, none⟩ = some (.int .u64 B3) := (World.cell?_of_block (w := wr) (w' := w3) (a := ⟨g3, t * 2 + 1, none⟩) (hB4.block g3 hg3l)).trans y2; have l31' : w3.cell? ⟨w.heap.size, 1, none⟩ = some (.int .i64 j) := (World.cell?_of_block (w := wr) (w' := w3) (a := ⟨w.heap.size, 1, none⟩) (hB4.block w.heap.size (by omega))).trans l31; clear hB3 hB4)))
            all_goals (go_wp2_with fail; go_meet; exact ⟨by rw [HB1.out, HBQ.out]; simp, HB5.out⟩)
          · have HBQ : Hid (Qm t j = false) := hb2
            clear hb1 hb2
            go_region_with (first
              | (go_at_call 193; (have h44 := HB4.out; clear h44; refine (has_any A3 B3 j _ (by omega) _ HP3.out).mono ?_; rw [HBQ.out]; rintro e w4 ⟨rfl, hB5⟩; have HB5 : Hid (Below wr.heap.size wr w4) := HB4.out.trans (hB5.mono HB4.out.size); clear hB5))
              | (go_at_call 193; (refine (has_any A2 B2 t _ (by omega) _ HP2.out).mono ?_; rw [HB1.out]; rintro e w3 ⟨rfl, hB3⟩; have hB4 : Below wr.heap.size wr w3 := (Below.refl wr.heap.size wr).drew.trans hB3; have HB4 : Hid (Below wr.heap.size wr w3) := hB4; have y1' : w3.cell? ⟨g3, t * 2, none⟩ = some (.int .u64 A3) := (World.cell?_of_block (w := wr) (w' := w3) (a := ⟨g3, t * 2, none⟩) (hB4.block g3 hg3l)).trans y1; have y2' : w3.cell? ⟨g3, t * 2 + 1, none⟩ = some (.int .u64 B3) := (World.cell?_of_block (w := wr) (w' := w3) (a := ⟨g3, t * 2 + 1, none⟩) (hB4.block g3 hg3l)).trans y2; have l31' : w3.cell? ⟨w.heap.size, 1, none⟩ = some (.int .i64 j) := (World.cell?_of_block (w := wr) (w' := w3) (a := ⟨w.heap.size, 1, none⟩) (hB4.block w.heap.size (by omega))).trans l31; clear hB3 hB4)))
            all_goals (go_wp2_with fail; go_meet; exact ⟨by rw [HB1.out, HBQ.out]; simp [hit], HB5.out⟩)
        · have HB1 : Hid (T x 0 i t = false) := hb1
          clear hb1
          first
            | go_region_with (first
              | (go_at_call 193; (refine (has_any A2 B2 t _ (by omega) _ HP2.out).mono ?_; rw [HB1.out]; rintro e w3 ⟨rfl, hB3⟩; have hB4 : Below wr.heap.size wr w3 := (Below.refl wr.heap.size wr).drew.trans hB3; have HB4 : Hid (Below wr.heap.size wr w3) := hB4; clear hB3 hB4)))
            | fail
          all_goals (go_wp2_with fail; go_meet; exact ⟨by rw [HB1.out]; simp [hit], HB4.out⟩)
      · have hd : decide ((i : Int) < (t : Int)) = false := by simp; omega
        go_region
        all_goals (go_wp2_with fail; go_meet; exact ⟨by simp [hit], (Below.refl _ _).drew⟩)
    case rest =>
      obtain ⟨rfl, hBc⟩ := hcut
      have HBc : Hid (Below w2.heap.size w2 wc) := HB.out.trans (hBc.mono hszr)
      clear hBc y1 y2 y3 y4 e30 e31 l30 l31
      by_cases hq : (decide (i < t) && !(T x 0 i t && Qm t j)) = true
      · have HQ1 : Hid ((decide (i < t) && !(T x 0 i t && Qm t j)) = true) := hq
        rw [hq]
        have hit : i < t := by
          have := hq
          simp only [Bool.and_eq_true, decide_eq_true_eq] at this
          exact this.1
        clear hq
        go_wp2_with fail
        go_roundw
        case rel =>
          refine ⟨t - 1, by omega, by omega, by go_num, fun u h1 h2 => ?_, HBc.out⟩
          by_cases e : u = t
          · subst e
            rintro ⟨k1, k2⟩
            have a1 := (HC.out.tl hxl i (by omega) u).2 k1
            have a2 := (HQ.out u (by omega) j).2 k2
            have := HQ1.out
            rw [a1, a2] at this
            simp at this
          · exact HN.out u (by omega) h2
        case measure => simp [intOf]; omega
      · have hq' : (decide (i < t) && !(T x 0 i t && Qm t j)) = false := by simpa using hq
        have HTop : Hid (Top (fun t => Mat p.s p.nodes x i t ∧ Q t j) i j t) := by
          refine ⟨ht1, ht2, HN.out, ?_⟩
          by_cases e : t = i
          · exact .inl e
          · right
            have hd : decide (i < t) = true := by simp; omega
            rw [hd] at hq'
            simp only [Bool.true_and, Bool.not_eq_false', Bool.and_eq_true] at hq'
            exact ⟨(HC.out.tl hxl i (by omega) t).1 hq'.1, (HQ.out t (by omega) j).1 hq'.2⟩
        have HL4 : Hid (wc.cell? ⟨w.heap.size, 0, none⟩ = some (.int .i64 i)) := (World.cell?_of_block (w := w2) (w' := wc) (a := ⟨w.heap.size, 0, none⟩) (HBc.out.block w.heap.size (by omega))).trans HL2.out.1
        have l40 := HL4.out
        rw [hq']
        clear hq hq'
        go_wp2_with fail
        refine (IH.out x i t mt c _ hx hxl (HW2.out.below HBc.out) (HP.out t HTop.out) ht1 (by omega)).mono ?_
        rintro e w5 ⟨rfl, c', hN5, hG5, hF5⟩
        have HN5 : Hid (Now p w0 ob mt c' w5) := hN5
        have HG5 : Hid (PGv p.s p.nodes x i t c c') := hG5
        have HF5 : Hid (Fo ob w w5) := ((Fo.of_below HB2.out).trans (Fo.of_below HBc.out)).trans hF5
        clear hN5 hG5 hF5
        go_wp2_with fail
        go_ret
        exact ⟨t, rfl, HTop.out, c', HN5.out, HG5.out, HF5.out⟩
end Go.Proofs.YtppjlpihaocdiaaGreatDoor
