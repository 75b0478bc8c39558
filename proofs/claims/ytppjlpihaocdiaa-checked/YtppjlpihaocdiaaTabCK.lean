/- Several texts in one. -/
import Derived.Test.YtppjlpihaocdiaaTabK
/- The program's table: leaves, 'emptyAt' and 'oneByte'. -/
set_option linter.unusedSimpArgs false
set_option linter.unusedVariables false
namespace Go.Proofs.Ytppjlpihaocdiaa
open Go.RowKit
attribute [local go_sem ↓] MP_eq

theorem size_set (w : World) (a : Addr) (v : Value) : (w.setCell a v).heap.size = w.heap.size := by simp [World.setCell]

theorem new_second (w : World) (o1 o2 : Obj) : ((w.alloc o1).alloc o2).heap[w.heap.size + 1]? = some o2 := by
  have e : (w.alloc o1).heap.size = w.heap.size + 1 := by simp
  have h := heap_alloc_new (w.alloc o1) o2
  rw [e] at h
  exact h

/-- A row of one table, just built. -/
theorem Rw.one {w : World} {lo g c L r : Nat} {t : TypeId} {M : Nat → Nat → Bool} (h : Sts w g L M) (hlo : lo ≤ w.heap.size) (hg : lo ≤ g) (hr : r = w.heap.size) : Rw (w.alloc (.cells #[.slice (some ⟨g, 0, none⟩) (L + 1) c] t)) lo r 1 L (fun _ => M) := by
  subst hr
  refine ⟨hlo, Nat.le_refl _, fun q hq => ?_⟩
  obtain rfl : q = 0 := by omega
  refine ⟨g, c, ?_, hg, h.below (Below.alloc (Below.refl w.heap.size w) (Nat.le_refl _) _) h.lt⟩
  rw [cell_of_row _ w.heap.size 0 _ _ (0, 0) (heap_alloc_new w _)]
  rfl

set_option maxHeartbeats 400000 in
theorem emptyAt_any (p : Pp) (k a lo : Nat) (T : Nat → Nat → Nat → Nat → Bool) (m : Nat → Nat) (w : World) (h : TbAt w p k T m) (ha : a ≤ p.s.size) (hlo : lo ≤ w.heap.size) :
    Calls Try.prog 71 #[.pointer (some ⟨p.tb, 0, none⟩), .int .i64 a] w fun e w' => ∃ r, e = .returned (.slice (some ⟨r, 0, none⟩) 1 1) ∧ Rw w' lo r 1 p.s.size (fun _ i j => (i == a) && (j == a)) ∧ Below w.heap.size w w' := by
  have c3 := h.c3
  have hs := h.s80
  obtain ⟨A1, hA1, m1⟩ := run_MP (p.s.size + 1) (by omega)
  rw [show ((p.s.size + 1 : Nat) : Int) = (p.s.size : Int) + 1 by omega] at m1
  clear h
  go_enter Try.func71, Try.ntmps71
  go_wp2_with fail
  refine (only_any a _ (by omega)).mono ?_
  rintro e w1 ⟨A, B, rfl, hP, hB1⟩
  have HP : Hid (Pl A B (fun q => q == a)) := hP
  have hS0 : Sts w1 w.heap.size p.s.size (fun _ _ => false) := (Sts.new hA1).below hB1 (by simp)
  have HS0 : Hid (Sts w1 w.heap.size p.s.size (fun _ _ => false)) := hS0
  have HB1 : Hid (Below w.heap.size w w1) := ((Below.refl _ _).alloc (Nat.le_refl _) _).trans (hB1.mono (by simp))
  obtain ⟨A0, B0, d1, d2, d3, d4, _⟩ := hS0.cell a ha
  clear hP hB1 hS0 hA1 m1
  go_wp2_with fail
  go_ret
  have hsz := HB1.out.size
  refine ⟨_, rfl, (Rw.one (HS0.out.put ha HP.out) (by rw [size_set, size_set]; omega) hlo (by rw [size_set, size_set])).cast (fun q _ i hi j => ?_), ((HB1.out.setCell (Nat.le_refl _) _).setCell (Nat.le_refl _) _).alloc (by rw [size_set, size_set]; omega) _⟩
  by_cases e : i = a
  · subst e; simp
  · simp [e]

theorem cells4 {w w' : World} {b : Nat} {v0 v1 v2 v3 : Value} (hb : w'.heap[b]? = w.heap[b]?) (h : w.cell? ⟨b, 0, none⟩ = some v0 ∧ w.cell? ⟨b, 1, none⟩ = some v1 ∧ w.cell? ⟨b, 2, none⟩ = some v2 ∧ w.cell? ⟨b, 3, none⟩ = some v3) : w'.cell? ⟨b, 0, none⟩ = some v0 ∧ w'.cell? ⟨b, 1, none⟩ = some v1 ∧ w'.cell? ⟨b, 2, none⟩ = some v2 ∧ w'.cell? ⟨b, 3, none⟩ = some v3 := by
  have hc : ∀ k, w'.cell? ⟨b, k, none⟩ = w.cell? ⟨b, k, none⟩ := fun k => World.cell?_of_block (w := w) (w' := w') (a := ⟨b, k, none⟩) hb
  exact ⟨(hc 0).trans h.1, (hc 1).trans h.2.1, (hc 2).trans h.2.2.1, (hc 3).trans h.2.2.2⟩

theorem only_at (p : Nat) (v : Int) (hv : v = (p : Int)) (w : World) (hp : p ≤ 80) :
    Calls Try.prog 92 #[.int .i64 v] w fun e w' => ∃ A B : Nat, e = .returned (.agg #[.int .u64 A, .int .u64 B]) ∧ Pl A B (fun q => q == p) ∧ Below w.heap.size w w' := by
  subst hv; exact only_any p w hp

set_option maxHeartbeats 4000000 in
theorem oneByte_any (p : Pp) (k lo y0 y1 y2 y3 : Nat) (S : Nat → Bool) (T : Nat → Nat → Nat → Nat → Bool) (m : Nat → Nat) (w : World) (h : TbAt w p k T m) (hS : S4 y0 y1 y2 y3 S) (hlo : lo ≤ w.heap.size) :
    Calls Try.prog 72 #[.pointer (some ⟨p.tb, 0, none⟩), .agg #[.int .u64 y0, .int .u64 y1, .int .u64 y2, .int .u64 y3]] w fun e w' => ∃ r, e = .returned (.slice (some ⟨r, 0, none⟩) 1 1) ∧ Rw w' lo r 1 p.s.size (fun _ i j => decide (i < p.s.size) && (S (byt p.s i) && (j == i + 1))) ∧ Below w.heap.size w w' := by
  have c3 := h.c3
  have hs := h.s80
  have ht : p.tb < w.heap.size := World.block_lt_of_cell? w _ h.c0
  obtain ⟨A1, hA1, m1⟩ := run_MP (p.s.size + 1) (by omega)
  rw [show ((p.s.size + 1 : Nat) : Int) = (p.s.size : Int) + 1 by omega] at m1
  have HS4 : Hid (S4 y0 y1 y2 y3 S) := hS
  have HC3 : Hid (w.cell? ⟨p.tb, 3, none⟩ = some (.string p.s)) := c3
  clear h hS
  go_enter Try.func72, Try.ntmps72
  go_wp2_with fail
  go_loopw [19] (fun v wr => ∃ (n : Nat), n ≤ p.s.size ∧ v = .int .i64 n ∧ Hid (Sts wr (w.heap.size + 1) p.s.size (upto n fun i j => decide (i < p.s.size) && (S (byt p.s i) && (j == i + 1)))) ∧ Hid (Below w.heap.size w wr) ∧ w.heap.size + 1 < wr.heap.size ∧ Hid (wr.cell? ⟨w.heap.size, 0, none⟩ = some (.int .u64 y0) ∧ wr.cell? ⟨w.heap.size, 1, none⟩ = some (.int .u64 y1) ∧ wr.cell? ⟨w.heap.size, 2, none⟩ = some (.int .u64 y2) ∧ wr.cell? ⟨w.heap.size, 3, none⟩ = some (.int .u64 y3))) (fun v _ => p.s.size + 1 - (intOf v).toNat)
  case atStart =>
    refine ⟨0, by omega, rfl, ?_, ((Below.refl _ _).alloc (Nat.le_refl _) _).alloc (by simp) _, by simp, by go_simp, by go_simp, by go_simp, by go_simp⟩
    exact (Sts.made hA1 (new_second w _ _)).cast (fun i hi j => by simp [upto])
  case round =>
    obtain ⟨n, hn, rfl, HS, HB, hsz, HQ⟩ := hrel
    by_cases hlt : n < p.s.size
    · have hc3 : wr.cell? ⟨p.tb, 3, none⟩ = some (.string p.s) := (World.cell?_of_block (w := w) (w' := wr) (a := ⟨p.tb, 3, none⟩) (HB.out.block _ ht)).trans c3
      obtain ⟨q0, q1, q2, q3⟩ := HQ.out
      have i1 : (0 : Int) ≤ (n : Int) := by omega
      have i2 : (n : Int) < (p.s.size : Int) := by omega
      have hbl := byt_lt p.s n
      have HL : Hid (n < p.s.size) := hlt
      clear c3
      go_wp2_with fail
      go_region_with (first | (go_at_call 93; (have eb := byt_int p.s n HL.out; rw [eb]; refine (setHas_any y0 y1 y2 y3 (byt p.s n) _ hbl S HS4.out).mono ?_; rintro e w1 ⟨rfl, hB1⟩; have HB1 : Hid (Below wr.heap.size wr w1) := (Below.refl wr.heap.size wr).drew.trans hB1; clear hB1 eb)))
      all_goals
        have HS1 : Hid (Sts w1 (w.heap.size + 1) p.s.size (upto n fun i j => decide (i < p.s.size) && (S (byt p.s i) && (j == i + 1)))) := HS.out.below HB1.out hsz
        have HB2 : Hid (Below w.heap.size w w1) := HB.out.trans (HB1.out.mono (by omega))
        have hsz1 : w.heap.size + 1 < w1.heap.size := Nat.lt_of_lt_of_le hsz HB1.out.size
        have HQ1 : Hid (w1.cell? ⟨w.heap.size, 0, none⟩ = some (.int .u64 y0) ∧ w1.cell? ⟨w.heap.size, 1, none⟩ = some (.int .u64 y1) ∧ w1.cell? ⟨w.heap.size, 2, none⟩ = some (.int .u64 y2) ∧ w1.cell? ⟨w.heap.size, 3, none⟩ = some (.int .u64 y3)) := cells4 (HB1.out.block _ (by omega)) HQ.out
        clear q0 q1 q2 q3 hc3 m1 hA1
        rcases bool_or (S (byt p.s n)) with hq | hq
        · have HQQ : Hid (S (byt p.s n) = true) := hq
          rw [hq]
          clear hq
          go_wp2_with fail
          refine (only_at (n + 1) _ (by first | omega | exact wrap_one n _ rfl (by omega)) _ (by omega)).mono ?_
          rintro e w2 ⟨A, B, rfl, hP, hB3⟩
          have HP : Hid (Pl A B (fun q => q == n + 1)) := hP
          have hS2 : Sts w2 (w.heap.size + 1) p.s.size (upto n fun i j => decide (i < p.s.size) && (S (byt p.s i) && (j == i + 1))) := HS1.out.below hB3 hsz1
          have HS2 : Hid (Sts w2 (w.heap.size + 1) p.s.size (upto n fun i j => decide (i < p.s.size) && (S (byt p.s i) && (j == i + 1)))) := hS2
          have HB4 : Hid (Below w.heap.size w w2) := HB2.out.trans (hB3.mono (by omega))
          have hsz2 : w.heap.size + 1 < w2.heap.size := Nat.lt_of_lt_of_le hsz1 hB3.size
          have HQ2 : Hid (w2.cell? ⟨w.heap.size, 0, none⟩ = some (.int .u64 y0) ∧ w2.cell? ⟨w.heap.size, 1, none⟩ = some (.int .u64 y1) ∧ w2.cell? ⟨w.heap.size, 2, none⟩ = some (.int .u64 y2) ∧ w2.cell? ⟨w.heap.size, 3, none⟩ = some (.int .u64 y3)) := cells4 (hB3.block _ (by omega)) HQ1.out
          obtain ⟨A0, B0, d1, d2, d3, d4, _⟩ := hS2.cell n hn
          clear hP hB3 hS2
          go_wp2_with fail
          go_roundw
          case rel =>
            refine ⟨n + 1, by omega, by go_num, HS2.out.next hn (by rw [HQQ.out]; simpa [HL.out] using HP.out), (HB4.out.setCell (by simp) _).setCell (by simp) _, by rw [size_set, size_set]; omega, cells4 ?_ HQ2.out⟩
            rw [Below.heap_setCell _ _ _ _ (by simp), Below.heap_setCell _ _ _ _ (by simp)]
          case measure => simp [intOf]; omega
        · have HQQ : Hid (S (byt p.s n) = false) := hq
          rw [hq]
          clear hq
          go_wp2_with fail
          go_roundw
          case rel =>
            refine ⟨n + 1, by omega, by go_num, HS1.out.cast (fun i hi j => ?_), HB2.out, hsz1, HQ1.out⟩
            unfold upto
            by_cases e : i = n
            · subst e; simp [HQQ.out]
            · rw [show decide (i < n) = decide (i < n + 1) from by rw [Bool.eq_iff_iff]; simp; omega]
          case measure => simp [intOf]; omega
    · have hk2 : n = p.s.size := by omega
      subst hk2
      go_wp2_with fail
      go_ret
      have hsz' := HB.out.size
      exact ⟨_, rfl, (Rw.one HS.out (by omega) (by omega) rfl).cast (fun q _ i hi j => by unfold upto; rw [Bool.eq_iff_iff]; simp), HB.out.alloc hsz' _⟩
end Go.Proofs.Ytppjlpihaocdiaa

/- The program's table: ways, 'anyOf'. -/
set_option linter.unusedSimpArgs false
set_option linter.unusedVariables false
namespace Go.Proofs.Ytppjlpihaocdiaa
open Go.RowKit
attribute [local go_sem ↓] MP_eq

set_option maxHeartbeats 1000000 in
theorem anyOf_any (p : Pp) (k lo kb c : Nat) (subs : List Nat) (R : Nat → Nat → Nat → Prop) (T : Nat → Nat → Nat → Nat → Bool) (m : Nat → Nat) (w : World) (h : TbAt w p k T m) (hlo : lo ≤ w.heap.size) (hlv : lo ≤ p.vb + 1)
    (hR : ∀ x, x < k → Tl p.s.size (T x 0) (R x)) (hne : 2 ≤ subs.length) (hc : subs.length ≤ c) (hl : subs.length ≤ 1000) (hkid : ∀ (q y : Nat), subs[q]? = some y → w.cell? ⟨kb, q, none⟩ = some (.int .i64 y)) (hsub : ∀ y ∈ subs, y < k) :
    Calls Try.prog 75 #[.pointer (some ⟨p.tb, 0, none⟩), .slice (some ⟨kb, 0, none⟩) subs.length c] w fun e w' => ∃ r, e = .returned (.slice (some ⟨r, 0, none⟩) 1 1) ∧ ∃ M, Rw w' lo r 1 p.s.size (fun _ => M) ∧ Tl p.s.size M (fun i j => ∃ x ∈ subs, R x i j) ∧ Below w.heap.size w w' := by
  have HT : Hid (TbAt w p k T m) := h
  have HK : Hid (∀ (q y : Nat), subs[q]? = some y → w.cell? ⟨kb, q, none⟩ = some (.int .i64 y)) := hkid
  have HSB : Hid (∀ y ∈ subs, y < k) := hsub
  have HR : Hid (∀ x, x < k → Tl p.s.size (T x 0) (R x)) := hR
  obtain ⟨x0, hx0⟩ : ∃ x, subs[0]? = some x := ⟨_, List.getElem?_eq_getElem (by omega)⟩
  have k0 := hkid 0 x0 hx0
  have hkb : kb < w.heap.size := World.block_lt_of_cell? w _ k0
  have HX0 : Hid (subs[0]? = some x0) := hx0
  have hs80 := h.s80
  have hkn := h.kn
  have hmn := h.many
  have hx0k := hsub x0 (List.mem_of_getElem? hx0)
  clear h hkid hsub hR hx0
  go_enter Try.func75, Try.ntmps75
  go_wp2_with fail
  refine (whole_any' p k x0 T m _ HT.out hx0k).mono ?_
  rintro e w1 ⟨g, c1, rfl, hg, hS, hw1⟩
  subst w1
  have HS0 : Hid (Sts w g p.s.size (T x0 0)) := hS
  have hc1 : ¬ c = 1 := by omega
  have hlen : ((subs.length - 1 : Nat) : Int) = (subs.length : Int) - 1 := by omega
  clear hS
  go_wp2_with fail
  go_loopw [5, 16] (fun o v wr => ∃ (q g c1 : Nat) (M : Nat → Nat → Bool), q + 1 ≤ subs.length ∧ v = .int .i64 q ∧ o = .slice (some ⟨g, 0, none⟩) (p.s.size + 1) c1 ∧ Hid (lo ≤ g) ∧ Hid (Sts wr g p.s.size M) ∧ Hid (Tl p.s.size M (fun i j => ∃ x ∈ subs.take (q + 1), R x i j)) ∧ Hid (Below w.heap.size w wr)) (fun _ v _ => subs.length - (intOf v).toNat)
  case atStart =>
    refine ⟨0, g, c1, T x0 0, by omega, rfl, rfl, by show lo ≤ g; omega, HS0.out, fun i hi j => ?_, Below.refl _ _⟩
    rw [HR.out x0 hx0k i hi j]
    have : subs.take 1 = [x0] := by
      rw [List.take_succ_eq_append_getElem (by omega)]
      have e := HX0.out
      rw [List.getElem?_eq_getElem (by omega)] at e
      simpa using e
    simp [this]
  case round =>
    obtain ⟨q, g', c1', M, hq, rfl, rfl, hg', HS, HL, HB⟩ := hrel
    by_cases hlt : q + 1 < subs.length
    · obtain ⟨x, hx⟩ : ∃ x, subs[q + 1]? = some x := ⟨_, List.getElem?_eq_getElem hlt⟩
      have HX : Hid (subs[q + 1]? = some x) := hx
      have hxk := HSB.out x (List.mem_of_getElem? hx)
      have k1 : wr.cell? ⟨kb, 1 + q, none⟩ = some (.int .i64 x) := by
        rw [Nat.add_comm]
        exact (World.cell?_of_block (w := w) (w' := wr) (a := ⟨kb, q + 1, none⟩) (HB.out.block _ hkb)).trans (HK.out (q + 1) x hx)
      clear hx
      go_wp2_with fail
      refine (whole_any' p k x T m _ (HT.out.below HB.out) hxk).mono ?_
      rintro e w1 ⟨g2, c2, rfl, hg2, hS, hw1⟩
      subst w1
      have HS2 : Hid (Sts wr g2 p.s.size (T x 0)) := hS
      clear hS
      go_wp2_with fail
      refine (either_any p.s.size g' g2 c1' c2 _ M (T x 0) hs80 HS.out HS2.out).mono ?_
      rintro e w1 ⟨g3, rfl, hg3, hS3, hB3⟩
      have HS3 : Hid (Sts w1 g3 p.s.size (fun i j => M i j || T x 0 i j)) := hS3
      have HB3 : Hid (Below w.heap.size w w1) := HB.out.trans (hB3.mono HB.out.size)
      have hsz := HB.out.size
      clear hS3 hB3
      go_wp2_with fail
      go_roundw
      case rel =>
        refine ⟨q + 1, g3, p.s.size + 1, _, by omega, by go_num, rfl, by show lo ≤ g3; omega, HS3.out, fun i hi j => ?_, HB3.out⟩
        have e := HX.out
        rw [List.getElem?_eq_getElem hlt] at e
        have e2 : subs[q + 1] = x := by simpa using e
        rw [List.take_succ_eq_append_getElem hlt, e2, Bool.or_eq_true, HL.out i hi j, HR.out x hxk i hi j]
        constructor
        · rintro (⟨y, hy, hr⟩ | hr)
          · exact ⟨y, List.mem_append_left _ hy, hr⟩
          · exact ⟨x, by simp, hr⟩
        · rintro ⟨y, hy, hr⟩
          rcases List.mem_append.1 hy with hy | hy
          · exact .inl ⟨y, hy, hr⟩
          · simp at hy; subst hy; exact .inr hr
      case measure => simp [intOf]; omega
    · have hq2 : q + 1 = subs.length := by omega
      go_wp2_with fail
      go_ret
      have hsz := HB.out.size
      exact ⟨_, rfl, M, Rw.one HS.out (by omega) hg'.out rfl, by rw [hq2, List.take_length] at HL; exact HL.out, HB.out.alloc hsz _⟩
end Go.Proofs.Ytppjlpihaocdiaa

