/- Handing out: repetitions, 'giveRepeat'. -/
import Derived.Test.YtppjlpihaocdiaaGiveD
set_option linter.unusedSimpArgs false
set_option linter.unusedVariables false
namespace Go.Proofs.Ytppjlpihaocdiaa
open Go.RowKit

theorem Zt_stays {L : Nat} {R : Nat → Nat → Prop} (hs : Stays L R) {lo : Nat} {hi : Int} {q i j : Nat} (hi' : i ≤ L) (h : Zt R lo hi q i j) : i ≤ j ∧ j ≤ L := by
  obtain ⟨m, r, h1, _, h3⟩ := Zt_iff.1 h
  have a := Pow.le hs hi' h1
  have b := Pow.le hs.full a.2 h3
  omega

theorem Zt_step {R : Nat → Nat → Prop} {lo : Nat} {hi : Int} {q i j : Nat} (hb : hi = -1 ∨ (lo : Int) ≤ hi) (h : Zt R lo hi q i j) (hij : i < j) : (q < lo ∨ hi < 0 ∨ (q : Int) < hi) ∧ ∃ m, R i m ∧ (q < lo ∨ i ≠ m) ∧ Zt R lo hi (q + 1) m j := by
  by_cases hq : q < lo
  · obtain ⟨m, h1, h2⟩ := (Zt_must hq).1 h
    exact ⟨.inl hq, m, h1, .inl hq, h2⟩
  · by_cases hh : hi < 0
    · obtain ⟨r, hr⟩ := (Zt_any (by omega) hh).1 h
      cases r with
      | zero => cases hr; omega
      | succ r =>
        obtain ⟨m, ⟨h1, h2⟩, h3⟩ := hr
        exact ⟨.inr (.inl hh), m, h1, .inr h2, (Zt_any (by omega) hh).2 ⟨r, h3⟩⟩
    · by_cases hqh : (q : Int) < hi
      · rcases (Zt_may (by omega) hqh).1 h with h | ⟨m, ⟨h1, h2⟩, h3⟩
        · omega
        · exact ⟨.inr (.inr hqh), m, h1, .inr h2, h3⟩
      · exfalso
        obtain ⟨m, r, h1, h2, h3⟩ := Zt_iff.1 h
        rw [show lo - q = 0 by omega] at h1
        cases h1
        obtain rfl : r = 0 := by omega
        cases h3
        omega

/-- The boxed node: its kid and its bound. -/
def Bx (w : World) (b kb kc : Nat) (ll : Int) : Prop := w.cell? ⟨b, 1, none⟩ = some (.slice (some ⟨kb, 0, none⟩) 1 kc) ∧ w.cell? ⟨b, 7, none⟩ = some (.int .i64 ll)

theorem Bx.of {w w' : World} {b kb kc : Nat} {ll : Int} (h : Bx w b kb kc ll) (hb : w'.heap[b]? = w.heap[b]?) : Bx w' b kb kc ll := by
  have hc : ∀ k, w'.cell? ⟨b, k, none⟩ = w.cell? ⟨b, k, none⟩ := fun k => World.cell?_of_block (w := w) (w' := w') (a := ⟨b, k, none⟩) hb
  exact ⟨(hc 1).trans h.1, (hc 7).trans h.2⟩

set_option maxHeartbeats 4000000 in
theorem giveRepeat_any (p : Pp) (T : Nat → Nat → Nat → Nat → Bool) (m : Nat → Nat) (w0 : World) (ob N : Nat) (hC : Ctx p T m w0 ob) (ih : GiveAt p T m w0 ob N)
    (a x : Nat) (d : Nd) (hd : p.nodes[a]? = some d) (hk6 : d.kind = 6) (hsx : d.subs = [x]) (haN : a ≤ N) (i j : Nat) (mt : Int × Int) (c : Caps) (w : World) (hW : Now p w0 ob mt c w) (hij : i ≤ j) (hj : j ≤ p.s.size) (hM : Mat p.s p.nodes a i j) :
    Calls Try.prog 99 #[.pointer (some ⟨p.tb, 0, none⟩), .int .i64 a, .agg #[.int .i64 i, .int .i64 j], .slice (some ⟨ob, 0, none⟩) (p.groups + 1) (p.groups + 1)] w
      fun e w' => e = .returned (.tuple #[]) ∧ ∃ c', Now p w0 ob mt c' w' ∧ repP (Mat p.s p.nodes) (PGv p.s p.nodes) x d.lo d.hi (d.lo + p.s.size + 1) 0 i j c c' ∧ Fo ob w w' := by
  have HC : Hid (Ctx p T m w0 ob) := hC
  have IH : Hid (GiveAt p T m w0 ob N) := ih
  have HW : Hid (Now p w0 ob mt c w) := hW
  have hal : a < p.nodes.length := (List.getElem?_eq_some_iff.1 hd).1
  have hxa : x < a := (hC.pn a d hd).sub x (by rw [hsx]; simp)
  have hxN : x < N := by omega
  have hxl : x < p.nodes.length := by omega
  obtain ⟨b1, b2, b3⟩ := (hC.pn a d hd).rep hk6
  have HZ : Hid (Zt (Mat p.s p.nodes x) d.lo d.hi 0 i j) := by
    have := (Mat_eq hC.wf hd i j).1 hM
    rw [if_neg (by omega), if_neg (by omega), if_neg (by omega), if_neg (by omega), if_pos hk6, hsx] at this
    exact (Times_Zt (by omega) i j).2 this
  obtain ⟨hmm, hTl⟩ := (hC.ri a d hd).rep hk6
  have HTl : Hid (∀ q, q ≤ lastOf d → Tl p.s.size (T a q) (Zt (Mat p.s p.nodes x) d.lo d.hi q)) := by rw [hsx] at hTl; exact hTl
  have hlast : lastOf d ≤ 9 := by unfold lastOf; split <;> omega
  have HLD : Hid ((d.hi < 0 → lastOf d = d.lo) ∧ (¬ d.hi < 0 → (lastOf d : Int) = d.hi)) := ⟨fun h => by unfold lastOf; rw [if_pos h], fun h => by unfold lastOf; rw [if_neg h]; omega⟩
  obtain ⟨ao, kc, y0, y1, y2, y3, n1, n2, n3, n4⟩ := hC.tb.node a d hd
  rcases n2 with n2 | ⟨kb, rfl, hkb, hkid⟩
  · rw [n2] at hsx; cases hsx
  have HKD : Hid (w0.cell? ⟨kb, 0, none⟩ = some (.int .i64 x)) := hkid 0 x (by rw [hsx]; rfl)
  have hl1 : d.subs.length = 1 := by rw [hsx]; rfl
  obtain ⟨r, r1, r2⟩ := hC.tb.row a hal
  rw [hmm] at r1 r2
  have HRw : Hid (Rw w0 (p.vb + 1) r (lastOf d + 1) p.s.size (T a)) := r2
  have hs80 := hC.tb.s80
  have hobl := hW.lt
  have hmany := hC.tb.many
  have hsz := hW.b.size
  have hob := hC.ob
  have HR1 : Hid (w0.cell? ⟨p.vb, a, none⟩ = some (.slice (some ⟨r, 0, none⟩) (lastOf d + 1) (lastOf d + 1))) := r1
  have HX : Hid (∀ (wx : World), Below w0.heap.size w0 wx → ∀ b o v, w0.cell? ⟨b, o, none⟩ = some v → wx.cell? ⟨b, o, none⟩ = some v) := fun wx hb b o v hv => (World.cell?_of_block (w := w0) (w' := wx) (a := ⟨b, o, none⟩) (hb.block b (World.block_lt_of_cell? w0 _ hv))).trans hv
  have hB0 : Below w.heap.size w (w.alloc (.cells #[.int .i64 i, .int .i64 j] 36)) := (Below.refl _ _).alloc (Nat.le_refl _) _
  have hz0 : (w.alloc (.cells #[.int .i64 i, .int .i64 j] 36)).heap.size = w.heap.size + 1 := by simp
  have hL0 := Lf.new w i j 36
  have hb1 := (HW.out.below hB0).b
  have e0 := HX.out _ hb1 _ _ _ hC.tb.c0
  have e4 := HX.out _ hb1 _ _ _ hC.tb.c4
  have er := HX.out _ hb1 _ _ _ HR1.out
  have q0 := HX.out _ hb1 _ _ _ (n4 0 _ rfl)
  have q1 := HX.out _ hb1 _ _ _ (n4 1 _ rfl)
  have q2 := HX.out _ hb1 _ _ _ (n4 2 _ rfl)
  have q3 := HX.out _ hb1 _ _ _ (n4 3 _ rfl)
  have q4 := HX.out _ hb1 _ _ _ (n4 4 _ rfl)
  have q5 := HX.out _ hb1 _ _ _ (n4 5 _ rfl)
  have q6 := HX.out _ hb1 _ _ _ (n4 6 _ rfl)
  have q7 := HX.out _ hb1 _ _ _ (n4 7 _ rfl)
  have q8 := HX.out _ hb1 _ _ _ (n4 8 _ rfl)
  simp only [Nat.add_zero] at q0 q1 q2 q3 q4 q5 q6 q7 q8
  rw [hl1] at q1
  have htbl : p.tb < w.heap.size := Nat.lt_of_lt_of_le (World.block_lt_of_cell? w0 _ hC.tb.c0) hsz
  have hnbl : p.nb < w.heap.size := Nat.lt_of_lt_of_le (World.block_lt_of_cell? w0 _ (n4 0 _ rfl)) hsz
  have hvbl : p.vb < w.heap.size := Nat.lt_of_lt_of_le (World.block_lt_of_cell? w0 _ r1) hsz
  clear hC ih hW hkid n4 hTl hM r1 r2 n1 hb1 hk6 hmm hsx hl1 hd
  go_enter Try.func99, Try.ntmps99
  go_wp2_with fail
  generalize (w.alloc (.cells #[.int .i64 i, .int .i64 j] 36)) = w1 at hB0 hz0 hL0 e0 e4 er q0 q1 q2 q3 q4 q5 q6 q7 q8
  go_cut [8, 9] (fun s8 s9 wx => s8 = .pointer (some ⟨w.heap.size + 1, 0, none⟩) ∧ s9 = .slice (some ⟨r, 0, none⟩) (lastOf d + 1) (lastOf d + 1) ∧ wx = (w1.alloc (.cells #[.int .i64 (pkind d.kind), .slice (some ⟨kb, 0, none⟩) 1 kc, .int .u64 y0, .int .u64 y1, .int .u64 y2, .int .u64 y3, .int .i64 (pnum d), .int .i64 d.lo, .int .i64 d.hi] 92)).drew)
  case first =>
    go_region
    all_goals (go_wp2_with fail; go_meet; exact ⟨rfl, rfl, rfl⟩)
  case rest =>
  obtain ⟨rfl, rfl, rfl⟩ := hcut
  have hB2 : Below w1.heap.size w1 (w1.alloc (.cells #[.int .i64 (pkind d.kind), .slice (some ⟨kb, 0, none⟩) 1 kc, .int .u64 y0, .int .u64 y1, .int .u64 y2, .int .u64 y3, .int .i64 (pnum d), .int .i64 d.lo, .int .i64 d.hi] 92)).drew := ((Below.refl _ _).alloc (Nat.le_refl _) _).drew
  have hh2 : (w1.alloc (.cells #[.int .i64 (pkind d.kind), .slice (some ⟨kb, 0, none⟩) 1 kc, .int .u64 y0, .int .u64 y1, .int .u64 y2, .int .u64 y3, .int .i64 (pnum d), .int .i64 d.lo, .int .i64 d.hi] 92)).drew.heap[w.heap.size + 1]? = some (.cells #[.int .i64 (pkind d.kind), .slice (some ⟨kb, 0, none⟩) 1 kc, .int .u64 y0, .int .u64 y1, .int .u64 y2, .int .u64 y3, .int .i64 (pnum d), .int .i64 d.lo, .int .i64 d.hi] 92) := by
    have := heap_alloc_new w1 (.cells #[.int .i64 (pkind d.kind), .slice (some ⟨kb, 0, none⟩) 1 kc, .int .u64 y0, .int .u64 y1, .int .u64 y2, .int .u64 y3, .int .i64 (pnum d), .int .i64 d.lo, .int .i64 d.hi] 92)
    rw [hz0] at this
    exact this
  have hz2 : (w1.alloc (.cells #[.int .i64 (pkind d.kind), .slice (some ⟨kb, 0, none⟩) 1 kc, .int .u64 y0, .int .u64 y1, .int .u64 y2, .int .u64 y3, .int .i64 (pnum d), .int .i64 d.lo, .int .i64 d.hi] 92)).drew.heap.size = w.heap.size + 2 := by simp [hz0]
  generalize (w1.alloc (.cells #[.int .i64 (pkind d.kind), .slice (some ⟨kb, 0, none⟩) 1 kc, .int .u64 y0, .int .u64 y1, .int .u64 y2, .int .u64 y3, .int .i64 (pnum d), .int .i64 d.lo, .int .i64 d.hi] 92)).drew = w2 at hB2 hh2 hz2
  have HB2 : Hid (Below w.heap.size w w2) := hB0.trans (hB2.mono (by omega))
  have HW2 : Hid (Now p w0 ob mt c w2) := HW.out.below HB2.out
  have HL2 : Hid (Lf w2 w.heap.size i j) := hL0.of (hB2.block w.heap.size (by omega))
  have HBx : Hid (Bx w2 (w.heap.size + 1) kb kc d.lo) := ⟨by rw [cell_of_row w2 _ 1 _ 92 (0, 0) hh2]; rfl, by rw [cell_of_row w2 _ 7 _ 92 (0, 0) hh2]; rfl⟩
  clear e0 e4 er q0 q1 q2 q3 q4 q5 q6 q7 q8 hB0 hL0 hB2 hh2
  go_wp2_with fail
  go_loopw [10] (fun v wr => ∃ (n i' : Nat) (c1 : Caps), n ≤ d.lo + p.s.size ∧ i' ≤ j ∧ (d.lo - n) + (j - i') + n ≤ d.lo + p.s.size ∧ v = .int .i64 n ∧ Hid (Lf wr w.heap.size i' j) ∧ Hid (Bx wr (w.heap.size + 1) kb kc d.lo) ∧ Hid (Now p w0 ob mt c1 wr) ∧ Hid (Fo ob w wr) ∧ Hid (Zt (Mat p.s p.nodes x) d.lo d.hi n i' j) ∧ Hid (∀ c', repP (Mat p.s p.nodes) (PGv p.s p.nodes) x d.lo d.hi (d.lo + p.s.size + 1 - n) n i' j c1 c' → repP (Mat p.s p.nodes) (PGv p.s p.nodes) x d.lo d.hi (d.lo + p.s.size + 1) 0 i j c c')) (fun v _ => d.lo + p.s.size + 2 - (intOf v).toNat)
  case atStart => exact ⟨0, i, c, Nat.zero_le _, hij, by omega, rfl, HL2.out, HBx.out, HW2.out, Fo.of_below HB2.out, HZ.out, fun c' h => h⟩
  case round =>
    obtain ⟨n, i', c1, hn, hi', hmu, rfl, HL, HBr, HN, HF, HZr, HA⟩ := hrel
    obtain ⟨l0, l1, l2⟩ := HL.out
    obtain ⟨x1, x7⟩ := HBr.out
    have hobr := HN.out.lt
    have hwr : w.heap.size + 1 < wr.heap.size := World.block_lt_of_cell? wr _ x1
    have k0 := HX.out wr HN.out.b _ _ _ HKD.out
    by_cases hlt : i' < j
    · obtain ⟨hzz, mm, z1, z2, z3⟩ := Zt_step (by omega) HZr.out hlt
      have hst := HC.out.st x i' mm (by omega) z1
      have hst2 := Zt_stays (HC.out.st x) hst.2 z3
      have HSat : Hid (∃ t, i' ≤ t ∧ t ≤ j ∧ (Mat p.s p.nodes x i' t ∧ Zt (Mat p.s p.nodes x) d.lo d.hi (n + 1) t j)) := ⟨mm, hst.1, hst2.1, z1, z3⟩
      have HPro : Hid (∀ t, Top (fun t => Mat p.s p.nodes x i' t ∧ Zt (Mat p.s p.nodes x) d.lo d.hi (n + 1) t j) i' j t → n < d.lo ∨ i' < t) := fun t ht => by
        by_cases hnl : n < d.lo
        · exact .inl hnl
        · right
          obtain ⟨t1, t2, t3, t4⟩ := ht
          rcases Nat.lt_or_ge t mm with h | h
          · exact absurd ⟨z1, z3⟩ (t3 mm h hst2.1)
          · omega
      obtain ⟨ix, hix, hixl, HTx⟩ : ∃ ix : Nat, min ((n : Int) + 1) (lastOf d : Int) = (ix : Int) ∧ ix ≤ lastOf d ∧ Hid (Tl p.s.size (T a ix) (Zt (Mat p.s p.nodes x) d.lo d.hi (n + 1))) := by
        by_cases hle : n + 1 ≤ lastOf d
        · exact ⟨n + 1, by omega, hle, HTl.out (n + 1) hle⟩
        · refine ⟨lastOf d, by omega, Nat.le_refl _, ?_⟩
          have h1 := HLD.out.1
          have h2 := HLD.out.2
          by_cases hneg : d.hi < 0
          · exact (HTl.out (lastOf d) (Nat.le_refl _)).iff fun u v => by rw [Zt_any (by rw [h1 hneg]; exact Nat.le_refl _) hneg, Zt_any (by rw [h1 hneg] at hle; omega) hneg]
          · exfalso
            have := h2 (by omega)
            omega
      obtain ⟨g3, c3, hg31, hg32, hg33⟩ := HRw.out.at' ix (by omega)
      have HG3 : Hid (Sts w0 g3 p.s.size (T a ix)) := hg33
      have k4 := HX.out wr HN.out.b _ _ _ hg31
      have HNd : Hid (Now p w0 ob mt c1 wr.drew) := HN.out.below (Below.refl wr.heap.size wr).drew
      have hi1 : (i' : Int) < (j : Int) := by omega
      have hm0 : ((lastOf d : Int) + 1 - 1) = (lastOf d : Int) := by omega
      have hm1 : (ix : Int) < (lastOf d : Int) + 1 := by omega
      clear z1 z2 z3 hst hst2 hg33 hg31 hzz
      go_wp2_with fail
      go_region_with (first
          | (go_at_call 117; (refine (giveStep_any p T m w0 ob N HC.out IH.out x i' j g3 c3 mt c1 _ (T a ix) (Zt (Mat p.s p.nodes x) d.lo d.hi (n + 1)) hxN hxl HNd.out hi' hj HG3.out HTx.out (fun t ht => (ht.sat HSat.out).1)).mono ?_; rintro e w5 ⟨t, rfl, hTop, c2, hN5, hG5, hF5⟩; have HTop : Hid (Top (fun t => Mat p.s p.nodes x i' t ∧ Zt (Mat p.s p.nodes x) d.lo d.hi (n + 1) t j) i' j t) := hTop; have HN5 : Hid (Now p w0 ob mt c2 w5) := hN5; have HG5 : Hid (PGv p.s p.nodes x i' t c1 c2) := hG5; have hF6 : Fo ob wr w5 := (Fo.of_below (Below.refl wr.heap.size wr).drew).trans hF5; have HF6 : Hid (Fo ob wr w5) := hF6; have hL5 : Lf w5 w.heap.size i' j := HL.out.of (hF6.block w.heap.size (by omega) (by omega)); have HL5 : Hid (Lf w5 w.heap.size i' j) := hL5; obtain ⟨l50, l51, l52⟩ := hL5; have HB5 : Hid (Bx w5 (w.heap.size + 1) kb kc d.lo) := HBr.out.of (hF6.block (w.heap.size + 1) (by omega) (by omega)); clear hTop hN5 hG5 hF5 hF6)))
      all_goals
        have htj := HTop.out.2.1
        have hti := HTop.out.1
        have hpro := HPro.out t HTop.out
        go_wp2_with fail
        go_roundw
        case rel =>
          refine ⟨n + 1, t, c2, by omega, htj, by omega, by go_num, HL5.out.set _, HB5.out.of (Below.heap_setCell _ _ _ _ (by simp only; omega)), ?_, (HF.out.trans HF6.out).setNew (Nat.le_refl _) _ _, (HTop.out.sat HSat.out).2, fun c' h => HA.out c' ?_⟩
          · exact ⟨HN5.out.b.setCell (by simp only; omega) _, HN5.out.o.of_block (Below.heap_setCell _ _ _ _ (by simp only; omega)), HN5.out.l⟩
          · rw [show d.lo + p.s.size + 1 - n = (d.lo + p.s.size + 1 - (n + 1)) + 1 by omega]
            exact .inr ⟨hlt, t, c2, HTop.out, HG5.out, h⟩
        case measure => simp [intOf]; omega
    · have hi2 : i' = j := by omega
      subst hi2
      have HEnd : Hid (∀ c', ((n < d.lo ∧ PGv p.s p.nodes x i' i' c1 c') ∨ (¬ n < d.lo ∧ c' = c1)) → repP (Mat p.s p.nodes) (PGv p.s p.nodes) x d.lo d.hi (d.lo + p.s.size + 1) 0 i i' c c') := fun c' h => HA.out c' (by
        rw [show d.lo + p.s.size + 1 - n = (d.lo + p.s.size - n) + 1 by omega]
        exact .inl ⟨hlt, h⟩)
      by_cases hnl : n < d.lo
      · have HM : Hid (Mat p.s p.nodes x i' i') := by
          obtain ⟨mm, z1, z3⟩ := (Zt_must hnl).1 HZr.out
          have hst := HC.out.st x i' mm (by omega) z1
          have hst2 := Zt_stays (HC.out.st x) hst.2 z3
          obtain rfl : mm = i' := by omega
          exact z1
        have HNd : Hid (Now p w0 ob mt c1 wr.drew) := HN.out.below (Below.refl wr.heap.size wr).drew
        go_wp2_with fail
        go_region_with (first
          | (go_at_call 77; (refine (IH.out x i' i' mt c1 _ hxN hxl HNd.out HM.out (Nat.le_refl _) hj).mono ?_; rintro e w5 ⟨rfl, c2, hN5, hG5, hF5⟩; have HN5 : Hid (Now p w0 ob mt c2 w5) := hN5; have HG5 : Hid (PGv p.s p.nodes x i' i' c1 c2) := hG5; have HF6 : Hid (Fo ob wr w5) := (Fo.of_below (Below.refl wr.heap.size wr).drew).trans hF5; clear hN5 hG5 hF5)))
        all_goals
          go_wp2_with fail
          exact bodyPost_end (v := .tuple #[]) (by simp [results, Try.results99, go_sem]) rfl ⟨rfl, c2, HN5.out, HEnd.out c2 (.inl ⟨hnl, HG5.out⟩), HF.out.trans HF6.out⟩
      · go_wp2_with fail
        exact bodyPost_end (v := .tuple #[]) (by simp [results, Try.results99, go_sem]) rfl ⟨rfl, c1, HN.out, HEnd.out c1 (.inr ⟨hnl, rfl⟩), HF.out⟩
end Go.Proofs.Ytppjlpihaocdiaa
