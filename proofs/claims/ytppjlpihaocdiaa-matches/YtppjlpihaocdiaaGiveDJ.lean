/- Several texts in one. -/
import Derived.Test.YtppjlpihaocdiaaGiveAJ
import Derived.Deep.DeepCutAuto
import Derived.Test.YtppjlpihaocdiaaGiveBJ
/- Handing out: ways, 'giveChoice'. -/
set_option linter.unusedSimpArgs false
set_option linter.unusedVariables false
namespace Go.Proofs.Ytppjlpihaocdiaa
open Go.RowKit

/-- Two numbers lie in a block: where a stretch begins and where it ends. -/
def Lf (w : World) (b : Nat) (i j : Int) : Prop := w.cell? ⟨b, 0, none⟩ = some (.int .i64 i) ∧ w.cell? ⟨b, 1, none⟩ = some (.int .i64 j) ∧ w.frozen? ⟨b, 0, none⟩ = false

theorem Lf.of {w w' : World} {b : Nat} {i j : Int} (h : Lf w b i j) (hb : w'.heap[b]? = w.heap[b]?) : Lf w' b i j := by
  have hc : ∀ k, w'.cell? ⟨b, k, none⟩ = w.cell? ⟨b, k, none⟩ := fun k => World.cell?_of_block (w := w) (w' := w') (a := ⟨b, k, none⟩) hb
  exact ⟨(hc 0).trans h.1, (hc 1).trans h.2.1, (World.frozen?_of_block (w := w) (w' := w') (a := ⟨b, 0, none⟩) hb).trans h.2.2⟩

theorem Lf.new (w : World) (i j : Int) (t : TypeId) : Lf (w.alloc (.cells #[.int .i64 i, .int .i64 j] t)) w.heap.size i j := by
  have hh0 := heap_alloc_new w (.cells #[.int .i64 i, .int .i64 j] t)
  generalize (w.alloc (.cells #[.int .i64 i, .int .i64 j] t)) = w1 at hh0
  exact ⟨by rw [cell_of_row w1 _ 0 _ t (0, 0) hh0]; rfl, by rw [cell_of_row w1 _ 1 _ t (0, 0) hh0]; rfl, by simp [World.frozen?, hh0]⟩

set_option maxHeartbeats 4000000 in
theorem giveChoice_any (p : Pp) (T : Nat → Nat → Nat → Nat → Bool) (m : Nat → Nat) (w0 : World) (ob N : Nat) (hC : Ctx p T m w0 ob) (ih : GiveAt p T m w0 ob N)
    (subs : List Nat) (kb kc i j : Nat) (mt : Int × Int) (c : Caps) (w : World) (hsub : ∀ y ∈ subs, y < N ∧ y < p.nodes.length) (hl : subs.length ≤ 1000) (hkb : kb < w0.heap.size) (hkid : ∀ (q y : Nat), subs[q]? = some y → w0.cell? ⟨kb, q, none⟩ = some (.int .i64 y))
    (hW : Now p w0 ob mt c w) (hij : i ≤ j) (hj : j ≤ p.s.size) :
    Calls Try.prog 101 #[.pointer (some ⟨p.tb, 0, none⟩), .slice (some ⟨kb, 0, none⟩) subs.length kc, .agg #[.int .i64 i, .int .i64 j], .slice (some ⟨ob, 0, none⟩) (p.groups + 1) (p.groups + 1)] w
      fun e w' => e = .returned (.tuple #[]) ∧ ∃ c', Now p w0 ob mt c' w' ∧ altG (Mat p.s p.nodes) (PGv p.s p.nodes) subs i j c c' ∧ Fo ob w w' := by
  have HC : Hid (Ctx p T m w0 ob) := hC
  have IH : Hid (GiveAt p T m w0 ob N) := ih
  have HW : Hid (Now p w0 ob mt c w) := hW
  have HSB : Hid (∀ y ∈ subs, y < N ∧ y < p.nodes.length) := hsub
  have HK : Hid (∀ (q y : Nat), subs[q]? = some y → w0.cell? ⟨kb, q, none⟩ = some (.int .i64 y)) := hkid
  have hs80 := hC.tb.s80
  have hobl := hW.lt
  have hmany := hC.tb.many
  have hsz := hW.b.size
  have hB0 : Below w.heap.size w (w.alloc (.cells #[.int .i64 i, .int .i64 j] 36)) := (Below.refl _ _).alloc (Nat.le_refl _) _
  have hz0 : (w.alloc (.cells #[.int .i64 i, .int .i64 j] 36)).heap.size = w.heap.size + 1 := by simp
  have hL0 := Lf.new w i j 36
  clear hC ih hW hsub hkid
  go_enter Try.func101, Try.ntmps101
  go_wp2_with fail
  generalize (w.alloc (.cells #[.int .i64 i, .int .i64 j] 36)) = w1 at hB0 hz0 hL0
  have HB0 : Hid (Below w.heap.size w w1) := hB0
  have HL0 : Hid (Lf w1 w.heap.size i j) := hL0
  have HW1 : Hid (Now p w0 ob mt c w1) := HW.out.below hB0
  clear hB0 hL0
  go_loopw [12] (fun v wr => ∃ q : Nat, q ≤ subs.length ∧ v = .int .i64 q ∧ Hid (∀ c', altG (Mat p.s p.nodes) (PGv p.s p.nodes) (subs.drop q) i j c c' → altG (Mat p.s p.nodes) (PGv p.s p.nodes) subs i j c c') ∧ Hid (Below w1.heap.size w1 wr)) (fun v _ => subs.length + 1 - (intOf v).toNat)
  case atStart => exact ⟨0, Nat.zero_le _, rfl, fun c' h => h, Below.refl _ _⟩
  case round =>
    obtain ⟨q, hq, rfl, HA, HB⟩ := hrel
    by_cases hlt : q < subs.length
    · obtain ⟨x, hx⟩ : ∃ x, subs[q]? = some x := ⟨_, List.getElem?_eq_getElem hlt⟩
      have HX : Hid (subs[q]? = some x) := hx
      obtain ⟨hxN, hxl⟩ := HSB.out x (List.mem_of_getElem? hx)
      have HWr : Hid (Now p w0 ob mt c wr) := HW1.out.below HB.out
      have hszr := HB.out.size
      have k1 : wr.cell? ⟨kb, q, none⟩ = some (.int .i64 x) := (World.cell?_of_block (w := w0) (w' := wr) (a := ⟨kb, q, none⟩) (HWr.out.b.block kb hkb)).trans (HK.out q x hx)
      obtain ⟨g2, c2, hWI, hS2⟩ := (HC.out.tb.below HWr.out.b).wholeIs hxl
      have HWd : Hid (WholeIs wr.drew p x g2 c2) := hWI.below (Below.refl wr.heap.size wr).drew
      obtain ⟨A2, B2, z1, z2, z3, z4, z5⟩ := hS2.cell i (by omega)
      have HP2 : Hid (Pl A2 B2 (T x 0 i)) := z5
      have hg2l := hS2.lt
      have HLr : Hid (Lf wr w.heap.size i j) := HL0.out.of (HB.out.block w.heap.size (by omega))
      obtain ⟨l0, l1, l2⟩ := HLr.out
      have hi1 : (i : Int) < (p.s.size : Int) + 1 := by omega
      have hi0 : (0 : Int) ≤ (i : Int) := by omega
      clear hx hWI hS2 z5
      go_upto_region 4 with fail
      go_cut [25] (fun s25 wx => s25 = .bool (T x 0 i j) ∧ Below wr.heap.size wr wx)
      case first =>
        go_region_with (first
          | (go_at_call 52; (refine (whole_is p x g2 c2 _ HWd.out).mono ?_; rintro e w2 ⟨rfl, hw2⟩; subst w2))
          | (go_at_call 118; (refine (has_any A2 B2 j _ (by omega) _ HP2.out).mono ?_; rintro e w3 ⟨rfl, hB3⟩; have HB4 : Hid (Below wr.heap.size wr w3) := (Below.refl wr.heap.size wr).drew.trans hB3; clear hB3)))
        all_goals (go_wp2_with fail; go_meet; exact ⟨rfl, HB4.out⟩)
      case rest =>
        obtain ⟨rfl, hBc⟩ := hcut
        have HBc : Hid (Below w1.heap.size w1 wc) := HB.out.trans (hBc.mono hszr)
        clear hBc z1 z2 z3 z4 l0 l1 l2 k1
        have hdr : subs.drop q = x :: subs.drop (q + 1) := by
          have e := HX.out
          rw [List.getElem?_eq_getElem hlt] at e
          have e2 : subs[q] = x := by simpa using e
          rw [List.drop_eq_getElem_cons hlt, e2]
        have HDR : Hid (subs.drop q = x :: subs.drop (q + 1)) := hdr
        clear hdr
        rcases bool_or (T x 0 i j) with hb | hb
        · have HM : Hid (Mat p.s p.nodes x i j) := (HC.out.tl hxl i (by omega) j).1 hb
          rw [hb]
          clear hb
          have HLc : Hid (Lf wc w.heap.size i j) := HL0.out.of (HBc.out.block w.heap.size (by omega))
          obtain ⟨l0, l1, l2⟩ := HLc.out
          go_wp2_with fail
          refine (IH.out x i j mt c _ hxN hxl (HW1.out.below HBc.out) HM.out hij hj).mono ?_
          rintro e w5 ⟨rfl, c', hN5, hG5, hF5⟩
          have HN5 : Hid (Now p w0 ob mt c' w5) := hN5
          have HG5 : Hid (PGv p.s p.nodes x i j c c') := hG5
          have HF5 : Hid (Fo ob w w5) := ((Fo.of_below HB0.out).trans (Fo.of_below HBc.out)).trans hF5
          clear hN5 hG5 hF5
          go_wp2_with fail
          exact bodyPost_ret (v := .tuple #[]) (by simp [results, Try.results101, go_sem]) rfl ⟨rfl, c', HN5.out, HA.out c' (by rw [HDR.out]; exact .inl ⟨HM.out, HG5.out⟩), HF5.out⟩
        · have HM : Hid (¬ Mat p.s p.nodes x i j) := fun h => by
            have := (HC.out.tl hxl i (by omega) j).2 h
            rw [hb] at this
            cases this
          rw [hb]
          clear hb
          go_wp2_with fail
          go_roundw
          case rel => exact ⟨q + 1, by omega, by go_num, fun c' h => HA.out c' (by rw [HDR.out]; exact .inr ⟨HM.out, h⟩), HBc.out⟩
          case measure => simp [intOf]; omega
    · have hq2 : q = subs.length := by omega
      subst hq2
      go_wp2_with fail
      have HWr : Hid (Now p w0 ob mt c wr) := HW1.out.below HB.out
      exact bodyPost_end (v := .tuple #[]) (by simp [results, Try.results101, go_sem]) rfl ⟨rfl, c, HWr.out, HA.out c (by rw [List.drop_length]; rfl), (Fo.of_below HB0.out).trans (Fo.of_below HB.out)⟩
end Go.Proofs.Ytppjlpihaocdiaa

/- Handing out: rows, 'giveWay'. -/
set_option linter.unusedSimpArgs false
set_option linter.unusedVariables false
namespace Go.Proofs.Ytppjlpihaocdiaa
open Go.RowKit

theorem Top.sat {P : Nat → Prop} {i j t : Nat} (h : Top P i j t) (he : ∃ m, i ≤ m ∧ m ≤ j ∧ P m) : P t := by
  obtain ⟨h1, h2, h3, h4⟩ := h
  rcases h4 with h4 | h4
  · obtain ⟨m, m1, m2, m3⟩ := he
    by_cases e : m = t
    · subst e; exact m3
    · exact absurd m3 (h3 m (by omega) m2)
  · exact h4

theorem Lf.set {w : World} {b : Nat} {i j : Int} (h : Lf w b i j) (v : Int) : Lf (w.setCell ⟨b, 0, none⟩ (.int .i64 v)) b v j := by
  obtain ⟨c0, c1, f0⟩ := h
  refine ⟨?_, ?_, ?_⟩ <;> go_simp

/-- A tail of a node's row, in memory. -/
structure TailIs (w : World) (p : Pp) (a mm q g c : Nat) : Prop where
  c4 : w.cell? ⟨p.tb, 4, none⟩ = some (.slice (some ⟨p.vb, 0, none⟩) p.nodes.length p.nodes.length)
  row : ∃ r, w.cell? ⟨p.vb, a, none⟩ = some (.slice (some ⟨r, 0, none⟩) mm mm) ∧ w.cell? ⟨r, q, none⟩ = some (.slice (some ⟨g, 0, none⟩) (p.s.size + 1) c)

set_option maxHeartbeats 4000000 in
theorem giveWay_any (p : Pp) (T : Nat → Nat → Nat → Nat → Bool) (m : Nat → Nat) (w0 : World) (ob N : Nat) (hC : Ctx p T m w0 ob) (ih : GiveAt p T m w0 ob N)
    (a : Nat) (d : Nd) (hd : p.nodes[a]? = some d) (hk5 : d.kind = 5) (haN : a ≤ N) (i j : Nat) (mt : Int × Int) (c : Caps) (w : World) (hW : Now p w0 ob mt c w) (hij : i ≤ j) (hj : j ≤ p.s.size) (hM : Mat p.s p.nodes a i j) :
    Calls Try.prog 100 #[.pointer (some ⟨p.tb, 0, none⟩), .int .i64 a, .agg #[.int .i64 i, .int .i64 j], .slice (some ⟨ob, 0, none⟩) (p.groups + 1) (p.groups + 1)] w
      fun e w' => e = .returned (.tuple #[]) ∧ ∃ c', Now p w0 ob mt c' w' ∧ rowG (Mat p.s p.nodes) (PGv p.s p.nodes) d.subs i j c c' ∧ Fo ob w w' := by
  have HC : Hid (Ctx p T m w0 ob) := hC
  have IH : Hid (GiveAt p T m w0 ob N) := ih
  have HW : Hid (Now p w0 ob mt c w) := hW
  have hal : a < p.nodes.length := (List.getElem?_eq_some_iff.1 hd).1
  have HSB : Hid (∀ y ∈ d.subs, y < N ∧ y < p.nodes.length) := fun y hy => by have := (hC.pn a d hd).sub y hy; omega
  obtain ⟨hl2, hl3⟩ := (hC.pn a d hd).two (.inr hk5)
  have HCh : Hid (Chain (d.subs.map (Mat p.s p.nodes)) i j) := by
    have := (Mat_eq hC.wf hd i j).1 hM
    rw [if_neg (by omega), if_neg (by omega), if_neg (by omega), if_pos hk5] at this
    exact this
  obtain ⟨hmm, hTl⟩ := (hC.ri a d hd).row hk5
  have HTl : Hid (∀ q, q ≤ d.subs.length → Tl p.s.size (T a q) (Chain ((d.subs.map (Mat p.s p.nodes)).drop q))) := hTl
  obtain ⟨ao, kc, y0, y1, y2, y3, n1, n2, n3, n4⟩ := hC.tb.node a d hd
  have q1 := n4 1 _ rfl
  rcases n2 with n2 | ⟨kb, rfl, hkb, hkid⟩
  · rw [n2] at hl2; simp at hl2
  have HK : Hid (∀ (q y : Nat), d.subs[q]? = some y → w0.cell? ⟨kb, q, none⟩ = some (.int .i64 y)) := hkid
  obtain ⟨r, r1, r2⟩ := hC.tb.row a hal
  have HRw : Hid (Rw w0 (p.vb + 1) r (m a) p.s.size (T a)) := r2
  have hs80 := hC.tb.s80
  have hobl := hW.lt
  have hmany := hC.tb.many
  have hsz := hW.b.size
  have hob := hC.ob
  -- what the walk reads of the table, in whatever world
  have HQ1 : Hid (w0.cell? ⟨p.nb, a * 9 + 1, none⟩ = some (.slice (some ⟨kb, 0, none⟩) d.subs.length kc)) := q1
  have HR1 : Hid (w0.cell? ⟨p.vb, a, none⟩ = some (.slice (some ⟨r, 0, none⟩) (m a) (m a))) := r1
  have HC0 : Hid (w0.cell? ⟨p.tb, 0, none⟩ = some (.slice (some ⟨p.nb, 0, none⟩) p.nodes.length p.cap)) := hC.tb.c0
  have HC4 : Hid (w0.cell? ⟨p.tb, 4, none⟩ = some (.slice (some ⟨p.vb, 0, none⟩) p.nodes.length p.nodes.length)) := hC.tb.c4
  have HX : Hid (∀ (wx : World), Below w0.heap.size w0 wx → ∀ b o v, w0.cell? ⟨b, o, none⟩ = some v → wx.cell? ⟨b, o, none⟩ = some v) := fun wx hb b o v hv => (World.cell?_of_block (w := w0) (w' := wx) (a := ⟨b, o, none⟩) (hb.block b (World.block_lt_of_cell? w0 _ hv))).trans hv
  have hB0 : Below w.heap.size w (w.alloc (.cells #[.int .i64 i, .int .i64 j] 36)) := (Below.refl _ _).alloc (Nat.le_refl _) _
  have hz0 : (w.alloc (.cells #[.int .i64 i, .int .i64 j] 36)).heap.size = w.heap.size + 1 := by simp
  have hL0 := Lf.new w i j 36
  have e1 := HX.out _ (HW.out.below hB0).b _ _ _ HC0.out
  have e2 := HX.out _ (HW.out.below hB0).b _ _ _ HQ1.out
  clear hC ih hW hkid n4 q1 hTl hM r1 r2 n1
  go_enter Try.func100, Try.ntmps100
  go_wp2_with fail
  generalize (w.alloc (.cells #[.int .i64 i, .int .i64 j] 36)) = w1 at hB0 hz0 hL0 e1 e2
  have HB0 : Hid (Below w.heap.size w w1) := hB0
  have HL0 : Hid (Lf w1 w.heap.size i j) := hL0
  have HW1 : Hid (Now p w0 ob mt c w1) := HW.out.below hB0
  clear hB0 hL0 e1 e2
  go_loopw [20] (fun v wr => ∃ (q i' : Nat) (c1 : Caps), q ≤ d.subs.length ∧ i' ≤ j ∧ v = .int .i64 q ∧ Hid (Lf wr w.heap.size i' j) ∧ Hid (Now p w0 ob mt c1 wr) ∧ Hid (Fo ob w wr) ∧ Hid (Chain ((d.subs.map (Mat p.s p.nodes)).drop q) i' j) ∧ Hid (∀ c', rowG (Mat p.s p.nodes) (PGv p.s p.nodes) (d.subs.drop q) i' j c1 c' → rowG (Mat p.s p.nodes) (PGv p.s p.nodes) d.subs i j c c')) (fun v _ => d.subs.length + 1 - (intOf v).toNat)
  case atStart => exact ⟨0, i, c, Nat.zero_le _, hij, rfl, HL0.out, HW1.out, Fo.of_below HB0.out, HCh.out, fun c' h => h⟩
  case round =>
    obtain ⟨q, i', c1, hq, hi', rfl, HL, HN, HF, HCh', HA⟩ := hrel
    by_cases hlt : q < d.subs.length
    · obtain ⟨x, hx⟩ : ∃ x, d.subs[q]? = some x := ⟨_, List.getElem?_eq_getElem hlt⟩
      obtain ⟨hxN, hxl⟩ := HSB.out x (List.mem_of_getElem? hx)
      have hdr : d.subs.drop q = x :: d.subs.drop (q + 1) := by
        have e := hx
        rw [List.getElem?_eq_getElem hlt] at e
        have e2 : d.subs[q] = x := by simpa using e
        rw [List.drop_eq_getElem_cons hlt, e2]
      have HDR : Hid (d.subs.drop q = x :: d.subs.drop (q + 1)) := hdr
      have hsat : ∃ t, i' ≤ t ∧ t ≤ j ∧ (Mat p.s p.nodes x i' t ∧ Chain ((d.subs.map (Mat p.s p.nodes)).drop (q + 1)) t j) := by
        have h1 := HCh'.out
        rw [← List.map_drop, hdr] at h1
        obtain ⟨t, t1, t2⟩ := h1
        rw [List.map_drop] at t2
        have s1 := HC.out.st x i' t (by omega) t1
        have s2 := Stays.chain (L := p.s.size) (l := (d.subs.map (Mat p.s p.nodes)).drop (q + 1)) (fun r hr => by
          obtain ⟨y, _, rfl⟩ := List.mem_map.1 (List.mem_of_mem_drop hr)
          exact HC.out.st y) t j s1.2 t2
        exact ⟨t, s1.1, s2.1, t1, t2⟩
      have HSat : Hid _ := hsat
      have hszw := HF.out.size
      have hmq : q + 1 < m a := by omega
      obtain ⟨g3, c3, hg31, hg32, hg33⟩ := HRw.out.at' (q + 1) hmq
      have HG3 : Hid (Sts w0 g3 p.s.size (T a (q + 1))) := hg33
      have k1 := HX.out wr HN.out.b _ _ _ (HK.out q x hx)
      have k2 := HX.out wr HN.out.b _ _ _ HR1.out
      have k3 := HX.out wr HN.out.b _ _ _ HC4.out
      have k4 := HX.out wr HN.out.b _ _ _ hg31
      obtain ⟨l0, l1, l2⟩ := HL.out
      have hw1 : IntKind.i64.wrap ((q : Int) + 1) = (q : Int) + 1 := wrap_one q (q + 1) rfl (by omega)
      have hq1 : (q : Int) + 1 < (m a : Int) := by omega
      have hq0 : (0 : Int) ≤ (q : Int) + 1 := by omega
      have HNd : Hid (Now p w0 ob mt c1 wr.drew) := HN.out.below (Below.refl wr.heap.size wr).drew
      have hobr := HN.out.lt
      have hwr : w.heap.size < wr.heap.size := World.block_lt_of_cell? wr _ l0
      clear hx hdr hsat hg33 hg31
      go_wp2_with fail
      go_region_with (first
          | (go_at_call 117; (refine (giveStep_any p T m w0 ob N HC.out IH.out x i' j g3 c3 mt c1 _ (T a (q + 1)) (Chain ((d.subs.map (Mat p.s p.nodes)).drop (q + 1))) hxN hxl HNd.out hi' hj HG3.out (HTl.out (q + 1) hlt) (fun t ht => (ht.sat HSat.out).1)).mono ?_; rintro e w5 ⟨t, rfl, hTop, c2, hN5, hG5, hF5⟩; have HTop : Hid (Top (fun t => Mat p.s p.nodes x i' t ∧ Chain ((d.subs.map (Mat p.s p.nodes)).drop (q + 1)) t j) i' j t) := hTop; have HN5 : Hid (Now p w0 ob mt c2 w5) := hN5; have HG5 : Hid (PGv p.s p.nodes x i' t c1 c2) := hG5; have hF6 : Fo ob wr w5 := (Fo.of_below (Below.refl wr.heap.size wr).drew).trans hF5; have HF6 : Hid (Fo ob wr w5) := hF6; have hL5 : Lf w5 w.heap.size i' j := HL.out.of (hF6.block w.heap.size hwr (by omega)); have HL5 : Hid (Lf w5 w.heap.size i' j) := hL5; obtain ⟨l50, l51, l52⟩ := hL5; clear hTop hN5 hG5 hF5 hF6)))
      all_goals
        go_wp2_with fail
        go_roundw
        case rel =>
          have htj := HTop.out.2.1
          refine ⟨q + 1, t, c2, hlt, htj, by go_num, HL5.out.set _, ?_, (HF.out.trans HF6.out).setNew (Nat.le_refl _) _ _, (HTop.out.sat HSat.out).2, fun c' h => HA.out c' (by rw [HDR.out]; exact ⟨t, c2, by rw [List.map_drop]; exact HTop.out, HG5.out, h⟩)⟩
          exact ⟨HN5.out.b.setCell (by simp only; omega) _, HN5.out.o.of_block (Below.heap_setCell _ _ _ _ (by simp only; omega)), HN5.out.l⟩
        case measure => simp [intOf]; omega
    · have hq2 : q = d.subs.length := by omega
      subst hq2
      go_wp2_with fail
      exact bodyPost_end (v := .tuple #[]) (by simp [results, Try.results100, go_sem]) rfl ⟨rfl, c1, HN.out, HA.out c1 (by rw [List.drop_length]; rfl), HF.out⟩
end Go.Proofs.Ytppjlpihaocdiaa

