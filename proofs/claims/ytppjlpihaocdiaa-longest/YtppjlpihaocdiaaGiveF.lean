/- Handing out: 'give', whole. -/
import Derived.Test.YtppjlpihaocdiaaGiveE
set_option linter.unusedSimpArgs false
set_option linter.unusedVariables false
namespace Go.Proofs.Ytppjlpihaocdiaa
open Go.RowKit

set_option maxHeartbeats 4000000 in
theorem give_any (p : Pp) (T : Nat → Nat → Nat → Nat → Bool) (m : Nat → Nat) (w0 : World) (ob N : Nat) (hC : Ctx p T m w0 ob) (ih : GiveAt p T m w0 ob N) : GiveAt p T m w0 ob (N + 1) := by
  intro a i j mt c w haN hal hW hM hij hj
  obtain ⟨d, hd⟩ : ∃ d, p.nodes[a]? = some d := ⟨_, List.getElem?_eq_getElem hal⟩
  have HC : Hid (Ctx p T m w0 ob) := hC
  have IH : Hid (GiveAt p T m w0 ob N) := ih
  have HW : Hid (Now p w0 ob mt c w) := hW
  have HM : Hid (Mat p.s p.nodes a i j) := hM
  have HPN : Hid (PNd a p.groups d) := hC.pn a d hd
  have HD : Hid (p.nodes[a]? = some d) := hd
  have HEQ : Hid (∀ c', PGv p.s p.nodes a i j c c' ↔ _) := fun c' => PGv_eq hC.wf hC.h3 hd i j c c'
  have HMQ : Hid (Mat p.s p.nodes a i j ↔ _) := Mat_eq hC.wf hd i j
  obtain ⟨ao, kc, y0, y1, y2, y3, n1, n2, n3, n4⟩ := hC.tb.node a d hd
  have HK : Hid (Kids w0 p.vb ao d.subs) := n2
  have hs80 := hC.tb.s80
  have hg9 := hC.g9
  have hobl := hW.lt
  have hmany := hC.tb.many
  have hsz := hW.b.size
  have hob := hC.ob
  have hk6 := HPN.out.k6
  have HX : Hid (∀ (wx : World), Below w0.heap.size w0 wx → ∀ b o v, w0.cell? ⟨b, o, none⟩ = some v → wx.cell? ⟨b, o, none⟩ = some v) := fun wx hb b o v hv => (World.cell?_of_block (w := w0) (w' := wx) (a := ⟨b, o, none⟩) (hb.block b (World.block_lt_of_cell? w0 _ hv))).trans hv
  have hB0 : Below w.heap.size w (w.alloc (.cells #[.int .i64 i, .int .i64 j] 36)) := (Below.refl _ _).alloc (Nat.le_refl _) _
  have hz0 : (w.alloc (.cells #[.int .i64 i, .int .i64 j] 36)).heap.size = w.heap.size + 1 := by simp
  have hL0 := Lf.new w i j 36
  have hb1 := (HW.out.below hB0).b
  have e0 := HX.out _ hb1 _ _ _ hC.tb.c0
  have q0 := HX.out _ hb1 _ _ _ (n4 0 _ rfl)
  have q1 := HX.out _ hb1 _ _ _ (n4 1 _ rfl)
  have q2 := HX.out _ hb1 _ _ _ (n4 2 _ rfl)
  have q3 := HX.out _ hb1 _ _ _ (n4 3 _ rfl)
  have q4 := HX.out _ hb1 _ _ _ (n4 4 _ rfl)
  have q5 := HX.out _ hb1 _ _ _ (n4 5 _ rfl)
  have q6 := HX.out _ hb1 _ _ _ (n4 6 _ rfl)
  have q7 := HX.out _ hb1 _ _ _ (n4 7 _ rfl)
  have q8 := HX.out _ hb1 _ _ _ (n4 8 _ rfl)
  simp only [Nat.add_zero] at q0 q1 q2 q3 q4 q5 q6 q7 q8
  clear hC ih hW hM hd n1 n2 n4 hb1
  go_enter Try.func77, Try.ntmps77
  go_upto_region 2 with fail
  have hB2 : Below w.heap.size w ((w.alloc (.cells #[.int .i64 i, .int .i64 j] 36)).alloc (.cells #[.int .i64 (pkind d.kind), .slice ao d.subs.length kc, .int .u64 y0, .int .u64 y1, .int .u64 y2, .int .u64 y3, .int .i64 (pnum d), .int .i64 d.lo, .int .i64 d.hi] 92)) := hB0.alloc (by omega) _
  have hh2 : ((w.alloc (.cells #[.int .i64 i, .int .i64 j] 36)).alloc (.cells #[.int .i64 (pkind d.kind), .slice ao d.subs.length kc, .int .u64 y0, .int .u64 y1, .int .u64 y2, .int .u64 y3, .int .i64 (pnum d), .int .i64 d.lo, .int .i64 d.hi] 92)).heap[w.heap.size + 1]? = some (.cells #[.int .i64 (pkind d.kind), .slice ao d.subs.length kc, .int .u64 y0, .int .u64 y1, .int .u64 y2, .int .u64 y3, .int .i64 (pnum d), .int .i64 d.lo, .int .i64 d.hi] 92) := new_second w _ _
  have hL2 : Lf ((w.alloc (.cells #[.int .i64 i, .int .i64 j] 36)).alloc (.cells #[.int .i64 (pkind d.kind), .slice ao d.subs.length kc, .int .u64 y0, .int .u64 y1, .int .u64 y2, .int .u64 y3, .int .i64 (pnum d), .int .i64 d.lo, .int .i64 d.hi] 92)) w.heap.size i j := hL0.of (Below.heap_alloc _ _ _ (by omega))
  have hz2 : ((w.alloc (.cells #[.int .i64 i, .int .i64 j] 36)).alloc (.cells #[.int .i64 (pkind d.kind), .slice ao d.subs.length kc, .int .u64 y0, .int .u64 y1, .int .u64 y2, .int .u64 y3, .int .i64 (pnum d), .int .i64 d.lo, .int .i64 d.hi] 92)).heap.size = w.heap.size + 2 := by simp
  clear e0 q0 q1 q2 q3 q4 q5 q6 q7 q8 hB0 hL0 hz0
  generalize ((w.alloc (.cells #[.int .i64 i, .int .i64 j] 36)).alloc (.cells #[.int .i64 (pkind d.kind), .slice ao d.subs.length kc, .int .u64 y0, .int .u64 y1, .int .u64 y2, .int .u64 y3, .int .i64 (pnum d), .int .i64 d.lo, .int .i64 d.hi] 92)) = w2 at hB2 hh2 hL2 hz2
  have HB2 : Hid (Below w.heap.size w w2) := hB2
  have HW2 : Hid (Now p w0 ob mt c w2) := HW.out.below hB2
  have HL2 : Hid (Lf w2 w.heap.size i j) := hL2
  have x0 : w2.cell? ⟨w.heap.size + 1, 0, none⟩ = some (.int .i64 (pkind d.kind)) := by rw [cell_of_row w2 _ 0 _ 92 (0, 0) hh2]; rfl
  have x1 : w2.cell? ⟨w.heap.size + 1, 1, none⟩ = some (.slice ao d.subs.length kc) := by rw [cell_of_row w2 _ 1 _ 92 (0, 0) hh2]; rfl
  have x6 : w2.cell? ⟨w.heap.size + 1, 6, none⟩ = some (.int .i64 (pnum d)) := by rw [cell_of_row w2 _ 6 _ 92 (0, 0) hh2]; rfl
  obtain ⟨l0, l1, l2⟩ := hL2
  clear hB2 hh2
  obtain hkd | hkd | hkd | hkd | hkd : d.kind ≤ 2 ∨ d.kind = 3 ∨ d.kind = 4 ∨ d.kind = 5 ∨ d.kind = 6 := by omega
  · -- a leaf
    have HE : Hid (PGv p.s p.nodes a i j c c) := by
      rw [Hid, HEQ.out]
      rw [if_neg (by omega), if_neg (by omega), if_neg (by omega), if_neg (by omega)]
    obtain hp | hp | hp : pkind d.kind = 2 ∨ pkind d.kind = 0 ∨ pkind d.kind = 1 := by
      unfold pkind
      obtain h | h | h : d.kind = 0 ∨ d.kind = 1 ∨ d.kind = 2 := by omega
      all_goals rw [h]; decide
    all_goals
      rw [hp] at x0
      clear hp hkd
      go_wp2_with fail
      exact bodyPost_end (v := .tuple #[]) (by simp [results, Try.results77, go_sem]) rfl ⟨rfl, c, HW2.out, HE.out, Fo.of_below HB2.out⟩
  · -- a bracket
    rw [show pkind d.kind = 3 from by rw [hkd]; rfl] at x0
    rw [show pnum d = (d.num : Int) + 1 from by unfold pnum; rw [if_pos hkd]] at x6
    obtain ⟨x, hsx⟩ := HPN.out.one (.inl hkd)
    have hng := HPN.out.num hkd
    have hxa : x < a := HPN.out.sub x (by rw [hsx]; simp)
    have HSX : Hid (d.subs = [x]) := hsx
    rcases HK.out with hk0 | ⟨kb, rfl, hkb, hkid⟩
    · rw [hk0] at hsx; cases hsx
    have HKD : Hid (w0.cell? ⟨kb, 0, none⟩ = some (.int .i64 x)) := hkid 0 x (by rw [hsx]; rfl)
    have hl1 : d.subs.length = 1 := by rw [hsx]; rfl
    rw [hl1] at x1
    have HMx : Hid (Mat p.s p.nodes x i j) := by
      have := HMQ.out.1 HM.out
      rw [if_neg (by omega), if_neg (by omega), if_neg (by omega), if_neg (by omega), if_neg (by omega), hsx] at this
      obtain ⟨y, hy, hr⟩ := this
      obtain rfl : y = x := by simpa using hy
      exact hr
    have HE : Hid (∀ c', PGv p.s p.nodes x i j (c.set d.num ((i : Int), (j : Int))) c' → PGv p.s p.nodes a i j c c') := fun c' h => by
      rw [HEQ.out, if_pos hkd, HSX.out]
      exact h
    have hlen : c.length = p.groups := HW.out.l
    obtain ⟨v1, v2, hv⟩ : ∃ v1 v2, (mt :: c)[d.num + 1]? = some (v1, v2) := by
      rw [List.getElem?_cons_succ, List.getElem?_eq_getElem (by omega)]
      exact ⟨_, _, rfl⟩
    obtain ⟨o1, o2, o3, o4⟩ := HW2.out.o (d.num + 1) v1 v2 hv
    have hkbl : kb < w.heap.size := Nat.lt_of_lt_of_le (World.block_lt_of_cell? w0 _ HKD.out) hsz
    have hkbo : kb ≠ ob := by have := World.block_lt_of_cell? w0 _ HKD.out; simp only at this; omega
    have k0 := HX.out w2 HW2.out.b _ _ _ HKD.out
    clear hkd hkid hsx hl1 hv
    go_wp2_with fail
    have hF3 : Fo ob w ((w2.setCell ⟨ob, (d.num + 1) * 2, none⟩ (.int .i64 i)).setCell ⟨ob, (d.num + 1) * 2 + 1, none⟩ (.int .i64 j)) := ((Fo.of_below HB2.out).set _ _).set _ _
    have hN3 : Now p w0 ob mt (c.set d.num ((i : Int), (j : Int))) ((w2.setCell ⟨ob, (d.num + 1) * 2, none⟩ (.int .i64 i)).setCell ⟨ob, (d.num + 1) * 2 + 1, none⟩ (.int .i64 j)) := by
      refine ⟨(HW2.out.b.setCell (by simp only; omega) _).setCell (by simp only; omega) _, ?_, by rw [List.length_set]; exact hlen⟩
      have := HW2.out.o.put (q := d.num + 1) i j (by simp; omega)
      rw [List.set_cons_succ] at this
      exact this
    have hL3 : Lf ((w2.setCell ⟨ob, (d.num + 1) * 2, none⟩ (.int .i64 i)).setCell ⟨ob, (d.num + 1) * 2 + 1, none⟩ (.int .i64 j)) w.heap.size i j := (HL2.out.of (Below.heap_setCell _ _ _ _ (by simp only; omega))).of (Below.heap_setCell _ _ _ _ (by simp only; omega))
    have hx3 : ((w2.setCell ⟨ob, (d.num + 1) * 2, none⟩ (.int .i64 i)).setCell ⟨ob, (d.num + 1) * 2 + 1, none⟩ (.int .i64 j)).cell? ⟨w.heap.size + 1, 1, none⟩ = some (.slice (some ⟨kb, 0, none⟩) 1 kc) := by go_simp
    generalize ((w2.setCell ⟨ob, (d.num + 1) * 2, none⟩ (.int .i64 i)).setCell ⟨ob, (d.num + 1) * 2 + 1, none⟩ (.int .i64 j)) = w3 at hF3 hN3 hL3 hx3
    have HF3 : Hid (Fo ob w w3) := hF3
    have HNd : Hid (Now p w0 ob mt (c.set d.num ((i : Int), (j : Int))) w3.drew) := hN3.below (Below.refl w3.heap.size w3).drew
    obtain ⟨l30, l31, l32⟩ := hL3
    have k3 := HX.out w3 hN3.b _ _ _ HKD.out
    clear hF3 hN3 o1 o2 o3 o4 x0 x1 x6 l0 l1 l2 k0
    go_region_with (first
      | (go_at_call 77; (refine (IH.out x i j mt (c.set d.num ((i : Int), (j : Int))) _ (by omega) (by omega) HNd.out HMx.out hij hj).mono ?_; rintro e w5 ⟨rfl, c2, hN5, hG5, hF5⟩; have HN5 : Hid (Now p w0 ob mt c2 w5) := hN5; have HG5 : Hid (PGv p.s p.nodes x i j (c.set d.num ((i : Int), (j : Int))) c2) := hG5; have HF6 : Hid (Fo ob w3 w5) := (Fo.of_below (Below.refl w3.heap.size w3).drew).trans hF5; clear hN5 hG5 hF5)))
    all_goals
      go_wp2_with fail
      exact bodyPost_end (v := .tuple #[]) (by simp [results, Try.results77, go_sem]) rfl ⟨rfl, c2, HN5.out, HE.out c2 HG5.out, HF3.out.trans HF6.out⟩
  · -- ways
    rw [show pkind d.kind = 6 from by rw [hkd]; rfl] at x0
    obtain ⟨hl2, hl3⟩ := HPN.out.two (.inl hkd)
    rcases HK.out with hk0 | ⟨kb, rfl, hkb, hkid⟩
    · rw [hk0] at hl2; simp at hl2
    have HKD : Hid (∀ (q y : Nat), d.subs[q]? = some y → w0.cell? ⟨kb, q, none⟩ = some (.int .i64 y)) := hkid
    have HSB : Hid (∀ y ∈ d.subs, y < N ∧ y < p.nodes.length) := fun y hy => by have := HPN.out.sub y hy; omega
    have hkb0 : kb < w0.heap.size := by
      obtain ⟨y, hy⟩ : ∃ y, d.subs[0]? = some y := ⟨_, List.getElem?_eq_getElem (by omega)⟩
      exact World.block_lt_of_cell? w0 _ (hkid 0 y hy)
    have HE : Hid (∀ c', altG (Mat p.s p.nodes) (PGv p.s p.nodes) d.subs i j c c' → PGv p.s p.nodes a i j c c') := fun c' h => by
      rw [HEQ.out, if_neg (by omega), if_pos hkd]
      exact h
    clear hkd hkid
    go_wp2_with fail
    refine (giveChoice_any p T m w0 ob N HC.out IH.out d.subs kb kc i j mt c _ HSB.out hl3 hkb0 HKD.out HW2.out hij hj).mono ?_
    rintro e w5 ⟨rfl, c2, hN5, hG5, hF5⟩
    have HN5 : Hid (Now p w0 ob mt c2 w5) := hN5
    have HG5 : Hid (PGv p.s p.nodes a i j c c2) := HE.out c2 hG5
    have HF6 : Hid (Fo ob w w5) := (Fo.of_below HB2.out).trans hF5
    clear hN5 hG5 hF5
    go_wp2_with fail
    exact bodyPost_end (v := .tuple #[]) (by simp [results, Try.results77, go_sem]) rfl ⟨rfl, c2, HN5.out, HG5.out, HF6.out⟩
  · -- a row
    rw [show pkind d.kind = 5 from by rw [hkd]; rfl] at x0
    have HE : Hid (∀ c', rowG (Mat p.s p.nodes) (PGv p.s p.nodes) d.subs i j c c' → PGv p.s p.nodes a i j c c') := fun c' h => by
      rw [HEQ.out, if_neg (by omega), if_neg (by omega), if_pos hkd]
      exact h
    have HKK : Hid (d.kind = 5) := hkd
    clear hkd
    go_wp2_with fail
    refine (giveWay_any p T m w0 ob N HC.out IH.out a d HD.out HKK.out (by omega) i j mt c _ HW2.out hij hj HM.out).mono ?_
    rintro e w5 ⟨rfl, c2, hN5, hG5, hF5⟩
    have HN5 : Hid (Now p w0 ob mt c2 w5) := hN5
    have HG5 : Hid (PGv p.s p.nodes a i j c c2) := HE.out c2 hG5
    have HF6 : Hid (Fo ob w w5) := (Fo.of_below HB2.out).trans hF5
    clear hN5 hG5 hF5
    go_wp2_with fail
    exact bodyPost_end (v := .tuple #[]) (by simp [results, Try.results77, go_sem]) rfl ⟨rfl, c2, HN5.out, HG5.out, HF6.out⟩
  · -- a repetition
    rw [show pkind d.kind = 4 from by rw [hkd]; rfl] at x0
    obtain ⟨x, hsx⟩ := HPN.out.one (.inr hkd)
    have HE : Hid (∀ c', repP (Mat p.s p.nodes) (PGv p.s p.nodes) x d.lo d.hi (d.lo + p.s.size + 1) 0 i j c c' → PGv p.s p.nodes a i j c c') := fun c' h => by
      rw [HEQ.out, if_neg (by omega), if_neg (by omega), if_neg (by omega), if_pos hkd, hsx]
      exact h
    have HKK : Hid (d.kind = 6) := hkd
    have HSX : Hid (d.subs = [x]) := hsx
    clear hkd hsx
    go_wp2_with fail
    refine (giveRepeat_any p T m w0 ob N HC.out IH.out a x d HD.out HKK.out HSX.out (by omega) i j mt c _ HW2.out hij hj HM.out).mono ?_
    rintro e w5 ⟨rfl, c2, hN5, hG5, hF5⟩
    have HN5 : Hid (Now p w0 ob mt c2 w5) := hN5
    have HG5 : Hid (PGv p.s p.nodes a i j c c2) := HE.out c2 hG5
    have HF6 : Hid (Fo ob w w5) := (Fo.of_below HB2.out).trans hF5
    clear hN5 hG5 hF5
    go_wp2_with fail
    exact bodyPost_end (v := .tuple #[]) (by simp [results, Try.results77, go_sem]) rfl ⟨rfl, c2, HN5.out, HG5.out, HF6.out⟩

theorem give_all (p : Pp) (T : Nat → Nat → Nat → Nat → Bool) (m : Nat → Nat) (w0 : World) (ob : Nat) (hC : Ctx p T m w0 ob) : ∀ N, GiveAt p T m w0 ob N
  | 0 => fun a i j mt c w h => by omega
  | N + 1 => give_any p T m w0 ob N hC (give_all p T m w0 ob hC N)
end Go.Proofs.Ytppjlpihaocdiaa
