/- Handing out: ways, 'giveChoice'. -/
import Derived.Test.YtppjlpihaocdiaaGiveA
import Derived.Deep.DeepCutAuto
set_option linter.unusedSimpArgs false
set_option linter.unusedVariables false
namespace Go.Proofs.Ytppjlpihaocdiaa
open Go.RowKit

/-- Two numbers lie in a block: where a stretch begins and where it ends. -/
def Lf (w : World) (b : Nat) (i j : Int) : Prop := w.cell? ⟨b, 0, none⟩ = some (.int .i64 i) ∧ w.cell? ⟨b, 1, none⟩ = some (.int .i64 j) ∧ w.frozen? ⟨b, 0, none⟩ = false

theorem Lf.of {w w' : World} {b : Nat} {i j : Int} (h : Lf w b i j) (hb : w'.heap[b]? = w.heap[b]?) : Lf w' b i j := by
  have hc : ∀ k, w'.cell? ⟨b, k, none⟩ = w.cell? ⟨b, k, none⟩ := fun k => World.cell?_of_block (w := w) (w' := w') (a := ⟨b, k, none⟩) hb
  exact ⟨(hc 0).trans h.1, (hc 1).trans h.2.1, (World.frozen?_of_block (w := w) (w' := w') (a := ⟨b, 0, none⟩) hb).trans h.2.2⟩

theorem Lf.new (w : World) (i j : Int) (t : TypeId) : Lf (w.alloc (.cells #[.int .i64 i, .int .i64 j] t)) w.heap.size i j := by
  have hh0 := heap_alloc_new w (.cells #[.int .i64 i, .int .i64 j] t)
  generalize (w.alloc (.cells #[.int .i64 i, .int .i64 j] t)) = w1 at hh0
  exact ⟨by rw [cell_of_row w1 _ 0 _ t (0, 0) hh0]; rfl, by rw [cell_of_row w1 _ 1 _ t (0, 0) hh0]; rfl, by simp [World.frozen?, hh0]⟩

set_option maxHeartbeats 4000000 in
theorem giveChoice_any (p : Pp) (T : Nat → Nat → Nat → Nat → Bool) (m : Nat → Nat) (w0 : World) (ob N : Nat) (hC : Ctx p T m w0 ob) (ih : GiveAt p T m w0 ob N)
    (subs : List Nat) (kb kc i j : Nat) (mt : Int × Int) (c : Caps) (w : World) (hsub : ∀ y ∈ subs, y < N ∧ y < p.nodes.length) (hl : subs.length ≤ 1000) (hkb : kb < w0.heap.size) (hkid : ∀ (q y : Nat), subs[q]? = some y → w0.cell? ⟨kb, q, none⟩ = some (.int .i64 y))
    (hW : Now p w0 ob mt c w) (hij : i ≤ j) (hj : j ≤ p.s.size) :
    Calls Try.prog 101 #[.pointer (some ⟨p.tb, 0, none⟩), .slice (some ⟨kb, 0, none⟩) subs.length kc, .agg #[.int .i64 i, .int .i64 j], .slice (some ⟨ob, 0, none⟩) (p.groups + 1) (p.groups + 1)] w
      fun e w' => e = .returned (.tuple #[]) ∧ ∃ c', Now p w0 ob mt c' w' ∧ altG (Mat p.s p.nodes) (PGv p.s p.nodes) subs i j c c' ∧ Fo ob w w' := by
  have HC : Hid (Ctx p T m w0 ob) := hC
  have IH : Hid (GiveAt p T m w0 ob N) := ih
  have HW : Hid (Now p w0 ob mt c w) := hW
  have HSB : Hid (∀ y ∈ subs, y < N ∧ y < p.nodes.length) := hsub
  have HK : Hid (∀ (q y : Nat), subs[q]? = some y → w0.cell? ⟨kb, q, none⟩ = some (.int .i64 y)) := hkid
  have hs80 := hC.tb.s80
  have hobl := hW.lt
  have hmany := hC.tb.many
  have hsz := hW.b.size
  have hB0 : Below w.heap.size w (w.alloc (.cells #[.int .i64 i, .int .i64 j] 36)) := (Below.refl _ _).alloc (Nat.le_refl _) _
  have hz0 : (w.alloc (.cells #[.int .i64 i, .int .i64 j] 36)).heap.size = w.heap.size + 1 := by simp
  have hL0 := Lf.new w i j 36
  clear hC ih hW hsub hkid
  go_enter Try.func101, Try.ntmps101
  go_wp2_with fail
  generalize (w.alloc (.cells #[.int .i64 i, .int .i64 j] 36)) = w1 at hB0 hz0 hL0
  have HB0 : Hid (Below w.heap.size w w1) := hB0
  have HL0 : Hid (Lf w1 w.heap.size i j) := hL0
  have HW1 : Hid (Now p w0 ob mt c w1) := HW.out.below hB0
  clear hB0 hL0
  go_loopw [12] (fun v wr => ∃ q : Nat, q ≤ subs.length ∧ v = .int .i64 q ∧ Hid (∀ c', altG (Mat p.s p.nodes) (PGv p.s p.nodes) (subs.drop q) i j c c' → altG (Mat p.s p.nodes) (PGv p.s p.nodes) subs i j c c') ∧ Hid (Below w1.heap.size w1 wr)) (fun v _ => subs.length + 1 - (intOf v).toNat)
  case atStart => exact ⟨0, Nat.zero_le _, rfl, fun c' h => h, Below.refl _ _⟩
  case round =>
    obtain ⟨q, hq, rfl, HA, HB⟩ := hrel
    by_cases hlt : q < subs.length
    · obtain ⟨x, hx⟩ : ∃ x, subs[q]? = some x := ⟨_, List.getElem?_eq_getElem hlt⟩
      have HX : Hid (subs[q]? = some x) := hx
      obtain ⟨hxN, hxl⟩ := HSB.out x (List.mem_of_getElem? hx)
      have HWr : Hid (Now p w0 ob mt c wr) := HW1.out.below HB.out
      have hszr := HB.out.size
      have k1 : wr.cell? ⟨kb, q, none⟩ = some (.int .i64 x) := (World.cell?_of_block (w := w0) (w' := wr) (a := ⟨kb, q, none⟩) (HWr.out.b.block kb hkb)).trans (HK.out q x hx)
      obtain ⟨g2, c2, hWI, hS2⟩ := (HC.out.tb.below HWr.out.b).wholeIs hxl
      have HWd : Hid (WholeIs wr.drew p x g2 c2) := hWI.below (Below.refl wr.heap.size wr).drew
      obtain ⟨A2, B2, z1, z2, z3, z4, z5⟩ := hS2.cell i (by omega)
      have HP2 : Hid (Pl A2 B2 (T x 0 i)) := z5
      have hg2l := hS2.lt
      have HLr : Hid (Lf wr w.heap.size i j) := HL0.out.of (HB.out.block w.heap.size (by omega))
      obtain ⟨l0, l1, l2⟩ := HLr.out
      have hi1 : (i : Int) < (p.s.size : Int) + 1 := by omega
      have hi0 : (0 : Int) ≤ (i : Int) := by omega
      clear hx hWI hS2 z5
      go_upto_region 4 with fail
      go_cut [25] (fun s25 wx => s25 = .bool (T x 0 i j) ∧ Below wr.heap.size wr wx)
      case first =>
        go_region_with (first
          | (go_at_call 52; (refine (whole_is p x g2 c2 _ HWd.out).mono ?_; rintro e w2 ⟨rfl, hw2⟩; subst w2))
          | (go_at_call 118; (refine (has_any A2 B2 j _ (by omega) _ HP2.out).mono ?_; rintro e w3 ⟨rfl, hB3⟩; have HB4 : Hid (Below wr.heap.size wr w3) := (Below.refl wr.heap.size wr).drew.trans hB3; clear hB3)))
        all_goals (go_wp2_with fail; go_meet; exact ⟨rfl, HB4.out⟩)
      case rest =>
        obtain ⟨rfl, hBc⟩ := hcut
        have HBc : Hid (Below w1.heap.size w1 wc) := HB.out.trans (hBc.mono hszr)
        clear hBc z1 z2 z3 z4 l0 l1 l2 k1
        have hdr : subs.drop q = x :: subs.drop (q + 1) := by
          have e := HX.out
          rw [List.getElem?_eq_getElem hlt] at e
          have e2 : subs[q] = x := by simpa using e
          rw [List.drop_eq_getElem_cons hlt, e2]
        have HDR : Hid (subs.drop q = x :: subs.drop (q + 1)) := hdr
        clear hdr
        rcases bool_or (T x 0 i j) with hb | hb
        · have HM : Hid (Mat p.s p.nodes x i j) := (HC.out.tl hxl i (by omega) j).1 hb
          rw [hb]
          clear hb
          have HLc : Hid (Lf wc w.heap.size i j) := HL0.out.of (HBc.out.block w.heap.size (by omega))
          obtain ⟨l0, l1, l2⟩ := HLc.out
          go_wp2_with fail
          refine (IH.out x i j mt c _ hxN hxl (HW1.out.below HBc.out) HM.out hij hj).mono ?_
          rintro e w5 ⟨rfl, c', hN5, hG5, hF5⟩
          have HN5 : Hid (Now p w0 ob mt c' w5) := hN5
          have HG5 : Hid (PGv p.s p.nodes x i j c c') := hG5
          have HF5 : Hid (Fo ob w w5) := ((Fo.of_below HB0.out).trans (Fo.of_below HBc.out)).trans hF5
          clear hN5 hG5 hF5
          go_wp2_with fail
          exact bodyPost_ret (v := .tuple #[]) (by simp [results, Try.results101, go_sem]) rfl ⟨rfl, c', HN5.out, HA.out c' (by rw [HDR.out]; exact .inl ⟨HM.out, HG5.out⟩), HF5.out⟩
        · have HM : Hid (¬ Mat p.s p.nodes x i j) := fun h => by
            have := (HC.out.tl hxl i (by omega) j).2 h
            rw [hb] at this
            cases this
          rw [hb]
          clear hb
          go_wp2_with fail
          go_roundw
          case rel => exact ⟨q + 1, by omega, by go_num, fun c' h => HA.out c' (by rw [HDR.out]; exact .inr ⟨HM.out, h⟩), HBc.out⟩
          case measure => simp [intOf]; omega
    · have hq2 : q = subs.length := by omega
      subst hq2
      go_wp2_with fail
      have HWr : Hid (Now p w0 ob mt c wr) := HW1.out.below HB.out
      exact bodyPost_end (v := .tuple #[]) (by simp [results, Try.results101, go_sem]) rfl ⟨rfl, c, HWr.out, HA.out c (by rw [List.drop_length]; rfl), (Fo.of_below HB0.out).trans (Fo.of_below HB.out)⟩
end Go.Proofs.Ytppjlpihaocdiaa
