/- The program's table: ways, 'anyOf'. -/
import Derived.Test.YtppjlpihaocdiaaTabB
set_option linter.unusedSimpArgs false
set_option linter.unusedVariables false
namespace Go.Proofs.Ytppjlpihaocdiaa
open Go.RowKit
attribute [local go_sem ↓] MP_eq

set_option maxHeartbeats 1000000 in
theorem anyOf_any (p : Pp) (k lo kb c : Nat) (subs : List Nat) (R : Nat → Nat → Nat → Prop) (T : Nat → Nat → Nat → Nat → Bool) (m : Nat → Nat) (w : World) (h : TbAt w p k T m) (hlo : lo ≤ w.heap.size) (hlv : lo ≤ p.vb + 1)
    (hR : ∀ x, x < k → Tl p.s.size (T x 0) (R x)) (hne : 2 ≤ subs.length) (hc : subs.length ≤ c) (hl : subs.length ≤ 1000) (hkid : ∀ (q y : Nat), subs[q]? = some y → w.cell? ⟨kb, q, none⟩ = some (.int .i64 y)) (hsub : ∀ y ∈ subs, y < k) :
    Calls Try.prog 75 #[.pointer (some ⟨p.tb, 0, none⟩), .slice (some ⟨kb, 0, none⟩) subs.length c] w fun e w' => ∃ r, e = .returned (.slice (some ⟨r, 0, none⟩) 1 1) ∧ ∃ M, Rw w' lo r 1 p.s.size (fun _ => M) ∧ Tl p.s.size M (fun i j => ∃ x ∈ subs, R x i j) ∧ Below w.heap.size w w' := by
  have HT : Hid (TbAt w p k T m) := h
  have HK : Hid (∀ (q y : Nat), subs[q]? = some y → w.cell? ⟨kb, q, none⟩ = some (.int .i64 y)) := hkid
  have HSB : Hid (∀ y ∈ subs, y < k) := hsub
  have HR : Hid (∀ x, x < k → Tl p.s.size (T x 0) (R x)) := hR
  obtain ⟨x0, hx0⟩ : ∃ x, subs[0]? = some x := ⟨_, List.getElem?_eq_getElem (by omega)⟩
  have k0 := hkid 0 x0 hx0
  have hkb : kb < w.heap.size := World.block_lt_of_cell? w _ k0
  have HX0 : Hid (subs[0]? = some x0) := hx0
  have hs80 := h.s80
  have hkn := h.kn
  have hmn := h.many
  have hx0k := hsub x0 (List.mem_of_getElem? hx0)
  clear h hkid hsub hR hx0
  go_enter Try.func75, Try.ntmps75
  go_wp2_with fail
  refine (whole_any' p k x0 T m _ HT.out hx0k).mono ?_
  rintro e w1 ⟨g, c1, rfl, hg, hS, hw1⟩
  subst w1
  have HS0 : Hid (Sts w g p.s.size (T x0 0)) := hS
  have hc1 : ¬ c = 1 := by omega
  have hlen : ((subs.length - 1 : Nat) : Int) = (subs.length : Int) - 1 := by omega
  clear hS
  go_wp2_with fail
  go_loopw [5, 16] (fun o v wr => ∃ (q g c1 : Nat) (M : Nat → Nat → Bool), q + 1 ≤ subs.length ∧ v = .int .i64 q ∧ o = .slice (some ⟨g, 0, none⟩) (p.s.size + 1) c1 ∧ Hid (lo ≤ g) ∧ Hid (Sts wr g p.s.size M) ∧ Hid (Tl p.s.size M (fun i j => ∃ x ∈ subs.take (q + 1), R x i j)) ∧ Hid (Below w.heap.size w wr)) (fun _ v _ => subs.length - (intOf v).toNat)
  case atStart =>
    refine ⟨0, g, c1, T x0 0, by omega, rfl, rfl, by show lo ≤ g; omega, HS0.out, fun i hi j => ?_, Below.refl _ _⟩
    rw [HR.out x0 hx0k i hi j]
    have : subs.take 1 = [x0] := by
      rw [List.take_succ_eq_append_getElem (by omega)]
      have e := HX0.out
      rw [List.getElem?_eq_getElem (by omega)] at e
      simpa using e
    simp [this]
  case round =>
    obtain ⟨q, g', c1', M, hq, rfl, rfl, hg', HS, HL, HB⟩ := hrel
    by_cases hlt : q + 1 < subs.length
    · obtain ⟨x, hx⟩ : ∃ x, subs[q + 1]? = some x := ⟨_, List.getElem?_eq_getElem hlt⟩
      have HX : Hid (subs[q + 1]? = some x) := hx
      have hxk := HSB.out x (List.mem_of_getElem? hx)
      have k1 : wr.cell? ⟨kb, 1 + q, none⟩ = some (.int .i64 x) := by
        rw [Nat.add_comm]
        exact (World.cell?_of_block (w := w) (w' := wr) (a := ⟨kb, q + 1, none⟩) (HB.out.block _ hkb)).trans (HK.out (q + 1) x hx)
      clear hx
      go_wp2_with fail
      refine (whole_any' p k x T m _ (HT.out.below HB.out) hxk).mono ?_
      rintro e w1 ⟨g2, c2, rfl, hg2, hS, hw1⟩
      subst w1
      have HS2 : Hid (Sts wr g2 p.s.size (T x 0)) := hS
      clear hS
      go_wp2_with fail
      refine (either_any p.s.size g' g2 c1' c2 _ M (T x 0) hs80 HS.out HS2.out).mono ?_
      rintro e w1 ⟨g3, rfl, hg3, hS3, hB3⟩
      have HS3 : Hid (Sts w1 g3 p.s.size (fun i j => M i j || T x 0 i j)) := hS3
      have HB3 : Hid (Below w.heap.size w w1) := HB.out.trans (hB3.mono HB.out.size)
      have hsz := HB.out.size
      clear hS3 hB3
      go_wp2_with fail
      go_roundw
      case rel =>
        refine ⟨q + 1, g3, p.s.size + 1, _, by omega, by go_num, rfl, by show lo ≤ g3; omega, HS3.out, fun i hi j => ?_, HB3.out⟩
        have e := HX.out
        rw [List.getElem?_eq_getElem hlt] at e
        have e2 : subs[q + 1] = x := by simpa using e
        rw [List.take_succ_eq_append_getElem hlt, e2, Bool.or_eq_true, HL.out i hi j, HR.out x hxk i hi j]
        constructor
        · rintro (⟨y, hy, hr⟩ | hr)
          · exact ⟨y, List.mem_append_left _ hy, hr⟩
          · exact ⟨x, by simp, hr⟩
        · rintro ⟨y, hy, hr⟩
          rcases List.mem_append.1 hy with hy | hy
          · exact .inl ⟨y, hy, hr⟩
          · simp at hy; subst hy; exact .inr hr
      case measure => simp [intOf]; omega
    · have hq2 : q + 1 = subs.length := by omega
      go_wp2_with fail
      go_ret
      have hsz := HB.out.size
      exact ⟨_, rfl, M, Rw.one HS.out (by omega) hg'.out rfl, by rw [hq2, List.take_length] at HL; exact HL.out, HB.out.alloc hsz _⟩
end Go.Proofs.Ytppjlpihaocdiaa
