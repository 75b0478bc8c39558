/- Several texts in one. -/
import Derived.Test.YtppjlpihaocdiaaGreatDoorGiveAH
import Derived.Deep.DeepCutAuto
import Derived.Test.YtppjlpihaocdiaaGreatDoorGiveBH
/- A part of the proof. -/
set_option linter.unusedSimpArgs false
set_option linter.unusedVariables false
namespace Go.Proofs.YtppjlpihaocdiaaGreatDoor
open Go.RowKit
def Lf (w : World) (b : Nat) (i j : Int) : Prop := w.cell? ⟨b, 0, none⟩ = some (.int .i64 i) ∧ w.cell? ⟨b, 1, none⟩ = some (.int .i64 j) ∧ w.frozen? ⟨b, 0, none⟩ = false
theorem Lf.of {w w' : World} {b : Nat} {i j : Int} (h : Lf w b i j) (hb : w'.heap[b]? = w.heap[b]?) : Lf w' b i j := by
  have hc : ∀ k, w'.cell? ⟨b, k, none⟩ = w.cell? ⟨b, k, none⟩ := fun k => World.cell?_of_block (w := w) (w' := w') (a := ⟨b, k, none⟩) hb
  exact ⟨(hc 0).trans h.1, (hc 1).trans h.2.1, (World.frozen?_of_block (w := w) (w' := w') (a := ⟨b, 0, none⟩) hb).trans h.2.2⟩
theorem Lf.new (w : World) (i j : Int) (t : TypeId) : Lf (w.alloc (.cells #[.int .i64 i, .int .i64 j] t)) w.heap.size i j := by
  have hh0 := heap_alloc_new w (.cells #[.int .i64 i, .int .i64 j] t)
  generalize (w.alloc (.cells #[.int .i64 i, .int .i64 j] t)) = w1 at hh0
  exact ⟨by rw [cell_of_row w1 _ 0 _ t (0, 0) hh0]; rfl, by rw [cell_of_row w1 _ 1 _ t (0, 0) hh0]; rfl, by simp [World.frozen?, hh0]⟩
set_option maxHeartbeats 4000000 in
theorem giveChoice_any (p : Pp) (T : Nat → Nat → Nat → Nat → Bool) (m : Nat → Nat) (w0 : World) (ob N : Nat) (hC : Ctx p T m w0 ob) (ih : GiveAt p T m w0 ob N)
    (subs : List Nat) (kb kc i j : Nat) (mt : Int × Int) (c : Caps) (w : World) (hsub : ∀ y ∈ subs, y < N ∧ y < p.nodes.length) (hl : subs.length ≤ 1000) (hkb : kb < w0.heap.size) (hkid : ∀ (q y : Nat), subs[q]? = some y → w0.cell? ⟨kb, q, none⟩ = some (.int .i64 y))
    (hW : Now p w0 ob mt c w) (hij : i ≤ j) (hj : j ≤ p.s.size) :
    Calls Tryz.prog 160 #[.pointer (some ⟨p.tb, 0, none⟩), .slice (some ⟨kb, 0, none⟩) subs.length kc, .agg #[.int .i64 i, .int .i64 j], .slice (some ⟨ob, 0, none⟩) (p.groups + 1) (p.groups + 1)] w
      fun e w' => e = .returned (.tuple #[]) ∧ ∃ c', Now p w0 ob mt c' w' ∧ altG (Mat p.s p.nodes) (PGv p.s p.nodes) subs i j c c' ∧ Fo ob w w' := by
  have HC : Hid (Ctx p T m w0 ob) := hC
  have IH : Hid (GiveAt p T m w0 ob N) := ih
  have HW : Hid (Now p w0 ob mt c w) := hW
  have HSB : Hid (∀ y ∈ subs, y < N ∧ y < p.nodes.length) := hsub
  have HK : Hid (∀ (q y : Nat), subs[q]? = some y → w0.cell? ⟨kb, q, none⟩ = some (.int .i64 y)) := hkid
  have hs80 := hC.tb.s80
  have hobl := hW.lt
  have hmany := hC.tb.many
  have hsz := hW.b.size
  have hB0 : Below w.heap.size w (w.alloc (.cells #[.int .i64 i, .int .i64 j] 48)) := (Below.refl _ _).alloc (Nat.le_refl _) _
  have hz0 : (w.alloc (.cells #[.int .i64 i, .int .i64 j] 48)).heap.size = w.heap.size + 1 := by simp
  have hL0 := Lf.new w i j 48
  clear hC ih hW hsub hkid
  go_enter Tryz.func160, Tryz.ntmps160
  go_wp2_with fail
  generalize (w.alloc (.cells #[.int .i64 i, .int .i64 j] 48)) = w1 at hB0 hz0 hL0
  have HB0 : Hid (Below w.heap.size w w1) := hB0
  have HL0 : Hid (Lf w1 w.heap.size i j) := hL0
  have HW1 : Hid (Now p w0 ob mt c w1) := HW.out.below hB0
  clear hB0 hL0
  go_loopw [12] (fun v wr => ∃ q : Nat, q ≤ subs.length ∧ v = .int .i64 q ∧ Hid (∀ c', altG (Mat p.s p.nodes) (PGv p.s p.nodes) (subs.drop q) i j c c' → altG (Mat p.s p.nodes) (PGv p.s p.nodes) subs i j c c') ∧ Hid (Below w1.heap.size w1 wr)) (fun v _ => subs.length + 1 - (intOf v).toNat)
  case atStart => exact ⟨0, Nat.zero_le _, rfl, fun c' h => h, Below.refl _ _⟩
  case round =>
    obtain ⟨q, hq, rfl, HA, HB⟩ := hrel
    by_cases hlt : q < subs.length
    · obtain ⟨x, hx⟩ : ∃ x, subs[q]? = some x := ⟨_, List.getElem?_eq_getElem hlt⟩
      have HX : Hid (subs[q]? = some x) := hx
      obtain ⟨hxN, hxl⟩ := HSB.out x (List.mem_of_getElem? hx)
      have HWr : Hid (Now p w0 ob mt c wr) := HW1.out.below HB.out
      have hszr := HB.out.size
      have k1 : wr.cell? ⟨kb, q, none⟩ = some (.int .i64 x) := (World.cell?_of_block (w := w0) (w' := wr) (a := ⟨kb, q, none⟩) (HWr.out.b.block kb hkb)).trans (HK.out q x hx)
      obtain ⟨g2, c2, hWI, hS2⟩ := (HC.out.tb.below HWr.out.b).wholeIs hxl
      have HWd : Hid (WholeIs wr.drew p x g2 c2) := hWI.below (Below.refl wr.heap.size wr).drew
      obtain ⟨A2, B2, z1, z2, z3, z4, z5⟩ := hS2.cell i (by omega)
      have HP2 : Hid (Pl A2 B2 (T x 0 i)) := z5
      have hg2l := hS2.lt
      have HLr : Hid (Lf wr w.heap.size i j) := HL0.out.of (HB.out.block w.heap.size (by omega))
      obtain ⟨l0, l1, l2⟩ := HLr.out
      have hi1 : (i : Int) < (p.s.size : Int) + 1 := by omega
      have hi0 : (0 : Int) ≤ (i : Int) := by omega
      clear hx hWI hS2 z5
      go_upto_region 4 with fail
      go_cut [25] (fun s25 wx => s25 = .bool (T x 0 i j) ∧ Below wr.heap.size wr wx)
      case first =>
        go_region_with (first
          | (go_at_call 66; (refine (whole_is p x g2 c2 _ HWd.out).mono ?_; rintro e w2 ⟨rfl, hw2⟩; subst w2))
          | (go_at_call 193; (refine (has_any A2 B2 j _ (by omega) _ HP2.out).mono ?_; rintro e w3 ⟨rfl, hB3⟩; have HB4 : Hid (Below wr.heap.size wr w3) := (Below.refl wr.heap.size wr).drew.trans hB3; clear hB3)))
        all_goals (go_wp2_with fail; go_meet; exact ⟨rfl, HB4.out⟩)
      case rest =>
        obtain ⟨rfl, hBc⟩ := hcut
        have HBc : Hid (Below w1.heap.size w1 wc) := HB.out.trans (hBc.mono hszr)
        clear hBc z1 z2 z3 z4 l0 l1 l2 k1
        have hdr : subs.drop q = x :: subs.drop (q + 1) := by
          have e := HX.out
          rw [List.getElem?_eq_getElem hlt] at e
          have e2 : subs[q] = x := by simpa using e
          rw [List.drop_eq_getElem_cons hlt, e2]
        have HDR : Hid (subs.drop q = x :: subs.drop (q + 1)) := hdr
        clear hdr
        rcases bool_or (T x 0 i j) with hb | hb
        · have HM : Hid (Mat p.s p.nodes x i j) := (HC.out.tl hxl i (by omega) j).1 hb
          rw [hb]
          clear hb
          have HLc : Hid (Lf wc w.heap.size i j) := HL0.out.of (HBc.out.block w.heap.size (by omega))
          obtain ⟨l0, l1, l2⟩ := HLc.out
          go_wp2_with fail
          refine (IH.out x i j mt c _ hxN hxl (HW1.out.below HBc.out) HM.out hij hj).mono ?_
          rintro e w5 ⟨rfl, c', hN5, hG5, hF5⟩
          have HN5 : Hid (Now p w0 ob mt c' w5) := hN5
          have HG5 : Hid (PGv p.s p.nodes x i j c c') := hG5
          have HF5 : Hid (Fo ob w w5) := ((Fo.of_below HB0.out).trans (Fo.of_below HBc.out)).trans hF5
          clear hN5 hG5 hF5
          go_wp2_with fail
          exact bodyPost_ret (v := .tuple #[]) (by simp [results, Tryz.results160, go_sem]) rfl ⟨rfl, c', HN5.out, HA.out c' (by rw [HDR.out]; exact .inl ⟨HM.out, HG5.out⟩), HF5.out⟩
        · have HM : Hid (¬ Mat p.s p.nodes x i j) := fun h => by
            have := (HC.out.tl hxl i (by omega) j).2 h
            rw [hb] at this
            cases this
          rw [hb]
          clear hb
          go_wp2_with fail
          go_roundw
          case rel => exact ⟨q + 1, by omega, by go_num, fun c' h => HA.out c' (by rw [HDR.out]; exact .inr ⟨HM.out, h⟩), HBc.out⟩
          case measure => simp [intOf]; omega
    · have hq2 : q = subs.length := by omega
      subst hq2
      go_wp2_with fail
      have HWr : Hid (Now p w0 ob mt c wr) := HW1.out.below HB.out
      exact bodyPost_end (v := .tuple #[]) (by simp [results, Tryz.results160, go_sem]) rfl ⟨rfl, c, HWr.out, HA.out c (by rw [List.drop_length]; rfl), (Fo.of_below HB0.out).trans (Fo.of_below HB.out)⟩
end Go.Proofs.YtppjlpihaocdiaaGreatDoor

/- A part of the proof. -/
set_option linter.unusedSimpArgs false
set_option linter.unusedVariables false
namespace Go.Proofs.YtppjlpihaocdiaaGreatDoor
open Go.RowKit
theorem Top.sat {P : Nat → Prop} {i j t : Nat} (h : Top P i j t) (he : ∃ m, i ≤ m ∧ m ≤ j ∧ P m) : P t := by
  obtain ⟨h1, h2, h3, h4⟩ := h
  rcases h4 with h4 | h4
  · obtain ⟨m, m1, m2, m3⟩ := he
    by_cases e : m = t
    · subst e; exact m3
    · exact absurd m3 (h3 m (by omega) m2)
  · exact h4
theorem Lf.set {w : World} {b : Nat} {i j : Int} (h : Lf w b i j) (v : Int) : Lf (w.setCell ⟨b, 0, none⟩ (.int .i64 v)) b v j := by
  obtain ⟨c0, c1, f0⟩ := h
  refine ⟨?_, ?_, ?_⟩ <;> go_simp
structure TailIs (w : World) (p : Pp) (a mm q g c : Nat) : Prop where
  c4 : w.cell? ⟨p.tb, 4, none⟩ = some (.slice (some ⟨p.vb, 0, none⟩) p.nodes.length p.nodes.length)
  row : ∃ r, w.cell? ⟨p.vb, a, none⟩ = some (.slice (some ⟨r, 0, none⟩) mm mm) ∧ w.cell? ⟨r, q, none⟩ = some (.slice (some ⟨g, 0, none⟩) (p.s.size + 1) c)
set_option maxHeartbeats 4000000 in
theorem giveWay_any (p : Pp) (T : Nat → Nat → Nat → Nat → Bool) (m : Nat → Nat) (w0 : World) (ob N : Nat) (hC : Ctx p T m w0 ob) (ih : GiveAt p T m w0 ob N)
    (a : Nat) (d : Nd) (hd : p.nodes[a]? = some d) (hk5 : d.kind = 5) (haN : a ≤ N) (i j : Nat) (mt : Int × Int) (c : Caps) (w : World) (hW : Now p w0 ob mt c w) (hij : i ≤ j) (hj : j ≤ p.s.size) (hM : Mat p.s p.nodes a i j) :
    Calls Tryz.prog 159 #[.pointer (some ⟨p.tb, 0, none⟩), .int .i64 a, .agg #[.int .i64 i, .int .i64 j], .slice (some ⟨ob, 0, none⟩) (p.groups + 1) (p.groups + 1)] w
      fun e w' => e = .returned (.tuple #[]) ∧ ∃ c', Now p w0 ob mt c' w' ∧ rowG (Mat p.s p.nodes) (PGv p.s p.nodes) d.subs i j c c' ∧ Fo ob w w' := by
  have HC : Hid (Ctx p T m w0 ob) := hC
  have IH : Hid (GiveAt p T m w0 ob N) := ih
  have HW : Hid (Now p w0 ob mt c w) := hW
  have hal : a < p.nodes.length := (List.getElem?_eq_some_iff.1 hd).1
  have HSB : Hid (∀ y ∈ d.subs, y < N ∧ y < p.nodes.length) := fun y hy => by have := (hC.pn a d hd).sub y hy; omega
  obtain ⟨hl2, hl3⟩ := (hC.pn a d hd).two (.inr hk5)
  have HCh : Hid (Chain (d.subs.map (Mat p.s p.nodes)) i j) := by
    have := (Mat_eq hC.wf hd i j).1 hM
    rw [if_neg (by omega), if_neg (by omega), if_neg (by omega), if_pos hk5] at this
    exact this
  obtain ⟨hmm, hTl⟩ := (hC.ri a d hd).row hk5
  have HTl : Hid (∀ q, q ≤ d.subs.length → Tl p.s.size (T a q) (Chain ((d.subs.map (Mat p.s p.nodes)).drop q))) := hTl
  obtain ⟨ao, kc, y0, y1, y2, y3, n1, n2, n3, n4⟩ := hC.tb.node a d hd
  have q1 := n4 1 _ rfl
  rcases n2 with n2 | ⟨kb, rfl, hkb, hkid⟩
  · rw [n2] at hl2; simp at hl2
  have HK : Hid (∀ (q y : Nat), d.subs[q]? = some y → w0.cell? ⟨kb, q, none⟩ = some (.int .i64 y)) := hkid
  obtain ⟨r, r1, r2⟩ := hC.tb.row a hal
  have HRw : Hid (Rw w0 (p.vb + 1) r (m a) p.s.size (T a)) := r2
  have hs80 := hC.tb.s80
  have hobl := hW.lt
  have hmany := hC.tb.many
  have hsz := hW.b.size
  have hob := hC.ob
  -- what the walk reads of the table, in whatever world
  have HQ1 : Hid (w0.cell? ⟨p.nb, a * 9 + 1, none⟩ = some (.slice (some ⟨kb, 0, none⟩) d.subs.length kc)) := q1
  have HR1 : Hid (w0.cell? ⟨p.vb, a, none⟩ = some (.slice (some ⟨r, 0, none⟩) (m a) (m a))) := r1
  have HC0 : Hid (w0.cell? ⟨p.tb, 0, none⟩ = some (.slice (some ⟨p.nb, 0, none⟩) p.nodes.length p.cap)) := hC.tb.c0
  have HC4 : Hid (w0.cell? ⟨p.tb, 4, none⟩ = some (.slice (some ⟨p.vb, 0, none⟩) p.nodes.length p.nodes.length)) := hC.tb.c4
  have HX : Hid (∀ (wx : World), Below w0.heap.size w0 wx → ∀ b o v, w0.cell? ⟨b, o, none⟩ = some v → wx.cell? ⟨b, o, none⟩ = some v) := fun wx hb b o v hv => (World.cell?_of_block (w := w0) (w' := wx) (a := ⟨b, o, none⟩) (hb.block b (World.block_lt_of_cell? w0 _ hv))).trans hv
  have hB0 : Below w.heap.size w (w.alloc (.cells #[.int .i64 i, .int .i64 j] 48)) := (Below.refl _ _).alloc (Nat.le_refl _) _
  have hz0 : (w.alloc (.cells #[.int .i64 i, .int .i64 j] 48)).heap.size = w.heap.size + 1 := by simp
  have hL0 := Lf.new w i j 48
  have e1 := HX.out _ (HW.out.below hB0).b _ _ _ HC0.out
  have e2 := HX.out _ (HW.out.below hB0).b _ _ _ HQ1.out
  clear hC ih hW hkid n4 q1 hTl hM r1 r2 n1
  go_enter Tryz.func159, Tryz.ntmps159
  go_wp2_with fail
  generalize (w.alloc (.cells #[.int .i64 i, .int .i64 j] 48)) = w1 at hB0 hz0 hL0 e1 e2
  have HB0 : Hid (Below w.heap.size w w1) := hB0
  have HL0 : Hid (Lf w1 w.heap.size i j) := hL0
  have HW1 : Hid (Now p w0 ob mt c w1) := HW.out.below hB0
  clear hB0 hL0 e1 e2
  go_loopw [20] (fun v wr => ∃ (q i' : Nat) (c1 : Caps), q ≤ d.subs.length ∧ i' ≤ j ∧ v = .int .i64 q ∧ Hid (Lf wr w.heap.size i' j) ∧ Hid (Now p w0 ob mt c1 wr) ∧ Hid (Fo ob w wr) ∧ Hid (Chain ((d.subs.map (Mat p.s p.nodes)).drop q) i' j) ∧ Hid (∀ c', rowG (Mat p.s p.nodes) (PGv p.s p.nodes) (d.subs.drop q) i' j c1 c' → rowG (Mat p.s p.nodes) (PGv p.s p.nodes) d.subs i j c c')) (fun v _ => d.subs.length + 1 - (intOf v).toNat)
  case atStart => exact ⟨0, i, c, Nat.zero_le _, hij, rfl, HL0.out, HW1.out, Fo.of_below HB0.out, HCh.out, fun c' h => h⟩
  case round =>
    obtain ⟨q, i', c1, hq, hi', rfl, HL, HN, HF, HCh', HA⟩ := hrel
    by_cases hlt : q < d.subs.length
    · obtain ⟨x, hx⟩ : ∃ x, d.subs[q]? = some x := ⟨_, List.getElem?_eq_getElem hlt⟩
      obtain ⟨hxN, hxl⟩ := HSB.out x (List.mem_of_getElem? hx)
      have hdr : d.subs.drop q = x :: d.subs.drop (q + 1) := by
        have e := hx
        rw [List.getElem?_eq_getElem hlt] at e
        have e2 : d.subs[q] = x := by simpa using e
        rw [List.drop_eq_getElem_cons hlt, e2]
      have HDR : Hid (d.subs.drop q = x :: d.subs.drop (q + 1)) := hdr
      have hsat : ∃ t, i' ≤ t ∧ t ≤ j ∧ (Mat p.s p.nodes x i' t ∧ Chain ((d.subs.map (Mat p.s p.nodes)).drop (q + 1)) t j) := by
        have h1 := HCh'.out
        rw [← List.map_drop, hdr] at h1
        obtain ⟨t, t1, t2⟩ := h1
        rw [List.map_drop] at t2
        have s1 := HC.out.st x i' t (by omega) t1
        have s2 := Stays.chain (L := p.s.size) (l := (d.subs.map (Mat p.s p.nodes)).drop (q + 1)) (fun r hr => by
          obtain ⟨y, _, rfl⟩ := List.mem_map.1 (List.mem_of_mem_drop hr)
          exact HC.out.st y) t j s1.2 t2
        exact ⟨t, s1.1, s2.1, t1, t2⟩
      have HSat : Hid _ := hsat
      have hszw := HF.out.size
      have hmq : q + 1 < m a := by omega
      obtain ⟨g3, c3, hg31, hg32, hg33⟩ := HRw.out.at' (q + 1) hmq
      have HG3 : Hid (Sts w0 g3 p.s.size (T a (q + 1))) := hg33
      have k1 := HX.out wr HN.out.b _ _ _ (HK.out q x hx)
      have k2 := HX.out wr HN.out.b _ _ _ HR1.out
      have k3 := HX.out wr HN.out.b _ _ _ HC4.out
      have k4 := HX.out wr HN.out.b _ _ _ hg31
      obtain ⟨l0, l1, l2⟩ := HL.out
      have hw1 : IntKind.i64.wrap ((q : Int) + 1) = (q : Int) + 1 := wrap_one q (q + 1) rfl (by omega)
      have hq1 : (q : Int) + 1 < (m a : Int) := by omega
      have hq0 : (0 : Int) ≤ (q : Int) + 1 := by omega
      have HNd : Hid (Now p w0 ob mt c1 wr.drew) := HN.out.below (Below.refl wr.heap.size wr).drew
      have hobr := HN.out.lt
      have hwr : w.heap.size < wr.heap.size := World.block_lt_of_cell? wr _ l0
      clear hx hdr hsat hg33 hg31
      go_wp2_with fail
      go_region_with (first
          | (go_at_call 192; (refine (giveStep_any p T m w0 ob N HC.out IH.out x i' j g3 c3 mt c1 _ (T a (q + 1)) (Chain ((d.subs.map (Mat p.s p.nodes)).drop (q + 1))) hxN hxl HNd.out hi' hj HG3.out (HTl.out (q + 1) hlt) (fun t ht => (ht.sat HSat.out).1)).mono ?_; rintro e w5 ⟨t, rfl, hTop, c2, hN5, hG5, hF5⟩; have HTop : Hid (Top (fun t => Mat p.s p.nodes x i' t ∧ Chain ((d.subs.map (Mat p.s p.nodes)).drop (q + 1)) t j) i' j t) := hTop; have HN5 : Hid (Now p w0 ob mt c2 w5) := hN5; have HG5 : Hid (PGv p.s p.nodes x i' t c1 c2) := hG5; have hF6 : Fo ob wr w5 := (Fo.of_below (Below.refl wr.heap.size wr).drew).trans hF5; have HF6 : Hid (Fo ob wr w5) := hF6; have hL5 : Lf w5 w.heap.size i' j := HL.out.of (hF6.block w.heap.size hwr (by omega)); have HL5 : Hid (Lf w5 w.heap.size i' j) := hL5; obtain ⟨l50, l51, l52⟩ := hL5; clear hTop hN5 hG5 hF5 hF6)))
      all_goals
        go_wp2_with fail
        go_roundw
        case rel =>
          have htj := HTop.out.2.1
          refine ⟨q + 1, t, c2, hlt, htj, by go_num, HL5.out.set _, ?_, (HF.out.trans HF6.out).setNew (Nat.le_refl _) _ _, (HTop.out.sat HSat.out).2, fun c' h => HA.out c' (by rw [HDR.out]; exact ⟨t, c2, by rw [List.map_drop]; exact HTop.out, HG5.out, h⟩)⟩
          exact ⟨HN5.out.b.setCell (by simp only; omega) _, HN5.out.o.of_block (Below.heap_setCell _ _ _ _ (by simp only; omega)), HN5.out.l⟩
        case measure => simp [intOf]; omega
    · have hq2 : q = d.subs.length := by omega
      subst hq2
      go_wp2_with fail
      exact bodyPost_end (v := .tuple #[]) (by simp [results, Tryz.results159, go_sem]) rfl ⟨rfl, c1, HN.out, HA.out c1 (by rw [List.drop_length]; rfl), HF.out⟩
end Go.Proofs.YtppjlpihaocdiaaGreatDoor

/- A part of the proof. -/
set_option linter.unusedSimpArgs false
set_option linter.unusedVariables false
namespace Go.Proofs.YtppjlpihaocdiaaGreatDoor
open Go.RowKit
theorem Zt_stays {L : Nat} {R : Nat → Nat → Prop} (hs : Stays L R) {lo : Nat} {hi : Int} {q i j : Nat} (hi' : i ≤ L) (h : Zt R lo hi q i j) : i ≤ j ∧ j ≤ L := by
  obtain ⟨m, r, h1, _, h3⟩ := Zt_iff.1 h
  have a := Pow.le hs hi' h1
  have b := Pow.le hs.full a.2 h3
  omega
theorem Zt_step {R : Nat → Nat → Prop} {lo : Nat} {hi : Int} {q i j : Nat} (hb : hi = -1 ∨ (lo : Int) ≤ hi) (h : Zt R lo hi q i j) (hij : i < j) : (q < lo ∨ hi < 0 ∨ (q : Int) < hi) ∧ ∃ m, R i m ∧ (q < lo ∨ i ≠ m) ∧ Zt R lo hi (q + 1) m j := by
  by_cases hq : q < lo
  · obtain ⟨m, h1, h2⟩ := (Zt_must hq).1 h
    exact ⟨.inl hq, m, h1, .inl hq, h2⟩
  · by_cases hh : hi < 0
    · obtain ⟨r, hr⟩ := (Zt_any (by omega) hh).1 h
      cases r with
      | zero => cases hr; omega
      | succ r =>
        obtain ⟨m, ⟨h1, h2⟩, h3⟩ := hr
        exact ⟨.inr (.inl hh), m, h1, .inr h2, (Zt_any (by omega) hh).2 ⟨r, h3⟩⟩
    · by_cases hqh : (q : Int) < hi
      · rcases (Zt_may (by omega) hqh).1 h with h | ⟨m, ⟨h1, h2⟩, h3⟩
        · omega
        · exact ⟨.inr (.inr hqh), m, h1, .inr h2, h3⟩
      · exfalso
        obtain ⟨m, r, h1, h2, h3⟩ := Zt_iff.1 h
        rw [show lo - q = 0 by omega] at h1
        cases h1
        obtain rfl : r = 0 := by omega
        cases h3
        omega
def Bx (w : World) (b kb kc : Nat) (ll : Int) : Prop := w.cell? ⟨b, 1, none⟩ = some (.slice (some ⟨kb, 0, none⟩) 1 kc) ∧ w.cell? ⟨b, 7, none⟩ = some (.int .i64 ll)
theorem Bx.of {w w' : World} {b kb kc : Nat} {ll : Int} (h : Bx w b kb kc ll) (hb : w'.heap[b]? = w.heap[b]?) : Bx w' b kb kc ll := by
  have hc : ∀ k, w'.cell? ⟨b, k, none⟩ = w.cell? ⟨b, k, none⟩ := fun k => World.cell?_of_block (w := w) (w' := w') (a := ⟨b, k, none⟩) hb
  exact ⟨(hc 1).trans h.1, (hc 7).trans h.2⟩
set_option maxHeartbeats 4000000 in
theorem giveRepeat_any (p : Pp) (T : Nat → Nat → Nat → Nat → Bool) (m : Nat → Nat) (w0 : World) (ob N : Nat) (hC : Ctx p T m w0 ob) (ih : GiveAt p T m w0 ob N)
    (a x : Nat) (d : Nd) (hd : p.nodes[a]? = some d) (hk6 : d.kind = 6) (hsx : d.subs = [x]) (haN : a ≤ N) (i j : Nat) (mt : Int × Int) (c : Caps) (w : World) (hW : Now p w0 ob mt c w) (hij : i ≤ j) (hj : j ≤ p.s.size) (hM : Mat p.s p.nodes a i j) :
    Calls Tryz.prog 158 #[.pointer (some ⟨p.tb, 0, none⟩), .int .i64 a, .agg #[.int .i64 i, .int .i64 j], .slice (some ⟨ob, 0, none⟩) (p.groups + 1) (p.groups + 1)] w
      fun e w' => e = .returned (.tuple #[]) ∧ ∃ c', Now p w0 ob mt c' w' ∧ repP (Mat p.s p.nodes) (PGv p.s p.nodes) x d.lo d.hi (d.lo + p.s.size + 1) 0 i j c c' ∧ Fo ob w w' := by
  have HC : Hid (Ctx p T m w0 ob) := hC
  have IH : Hid (GiveAt p T m w0 ob N) := ih
  have HW : Hid (Now p w0 ob mt c w) := hW
  have hal : a < p.nodes.length := (List.getElem?_eq_some_iff.1 hd).1
  have hxa : x < a := (hC.pn a d hd).sub x (by rw [hsx]; simp)
  have hxN : x < N := by omega
  have hxl : x < p.nodes.length := by omega
  obtain ⟨b1, b2, b3⟩ := (hC.pn a d hd).rep hk6
  have HZ : Hid (Zt (Mat p.s p.nodes x) d.lo d.hi 0 i j) := by
    have := (Mat_eq hC.wf hd i j).1 hM
    rw [if_neg (by omega), if_neg (by omega), if_neg (by omega), if_neg (by omega), if_pos hk6, hsx] at this
    exact (Times_Zt (by omega) i j).2 this
  obtain ⟨hmm, hTl⟩ := (hC.ri a d hd).rep hk6
  have HTl : Hid (∀ q, q ≤ lastOf d → Tl p.s.size (T a q) (Zt (Mat p.s p.nodes x) d.lo d.hi q)) := by rw [hsx] at hTl; exact hTl
  have hlast : lastOf d ≤ 9 := by unfold lastOf; split <;> omega
  have HLD : Hid ((d.hi < 0 → lastOf d = d.lo) ∧ (¬ d.hi < 0 → (lastOf d : Int) = d.hi)) := ⟨fun h => by unfold lastOf; rw [if_pos h], fun h => by unfold lastOf; rw [if_neg h]; omega⟩
  obtain ⟨ao, kc, y0, y1, y2, y3, n1, n2, n3, n4⟩ := hC.tb.node a d hd
  rcases n2 with n2 | ⟨kb, rfl, hkb, hkid⟩
  · rw [n2] at hsx; cases hsx
  have HKD : Hid (w0.cell? ⟨kb, 0, none⟩ = some (.int .i64 x)) := hkid 0 x (by rw [hsx]; rfl)
  have hl1 : d.subs.length = 1 := by rw [hsx]; rfl
  obtain ⟨r, r1, r2⟩ := hC.tb.row a hal
  rw [hmm] at r1 r2
  have HRw : Hid (Rw w0 (p.vb + 1) r (lastOf d + 1) p.s.size (T a)) := r2
  have hs80 := hC.tb.s80
  have hobl := hW.lt
  have hmany := hC.tb.many
  have hsz := hW.b.size
  have hob := hC.ob
  have HR1 : Hid (w0.cell? ⟨p.vb, a, none⟩ = some (.slice (some ⟨r, 0, none⟩) (lastOf d + 1) (lastOf d + 1))) := r1
  have HX : Hid (∀ (wx : World), Below w0.heap.size w0 wx → ∀ b o v, w0.cell? ⟨b, o, none⟩ = some v → wx.cell? ⟨b, o, none⟩ = some v) := fun wx hb b o v hv => (World.cell?_of_block (w := w0) (w' := wx) (a := ⟨b, o, none⟩) (hb.block b (World.block_lt_of_cell? w0 _ hv))).trans hv
  have hB0 : Below w.heap.size w (w.alloc (.cells #[.int .i64 i, .int .i64 j] 48)) := (Below.refl _ _).alloc (Nat.le_refl _) _
  have hz0 : (w.alloc (.cells #[.int .i64 i, .int .i64 j] 48)).heap.size = w.heap.size + 1 := by simp
  have hL0 := Lf.new w i j 48
  have hb1 := (HW.out.below hB0).b
  have e0 := HX.out _ hb1 _ _ _ hC.tb.c0
  have e4 := HX.out _ hb1 _ _ _ hC.tb.c4
  have er := HX.out _ hb1 _ _ _ HR1.out
  have q0 := HX.out _ hb1 _ _ _ (n4 0 _ rfl)
  have q1 := HX.out _ hb1 _ _ _ (n4 1 _ rfl)
  have q2 := HX.out _ hb1 _ _ _ (n4 2 _ rfl)
  have q3 := HX.out _ hb1 _ _ _ (n4 3 _ rfl)
  have q4 := HX.out _ hb1 _ _ _ (n4 4 _ rfl)
  have q5 := HX.out _ hb1 _ _ _ (n4 5 _ rfl)
  have q6 := HX.out _ hb1 _ _ _ (n4 6 _ rfl)
  have q7 := HX.out _ hb1 _ _ _ (n4 7 _ rfl)
  have q8 := HX.out _ hb1 _ _ _ (n4 8 _ rfl)
  simp only [Nat.add_zero] at q0 q1 q2 q3 q4 q5 q6 q7 q8
  rw [hl1] at q1
  have htbl : p.tb < w.heap.size := Nat.lt_of_lt_of_le (World.block_lt_of_cell? w0 _ hC.tb.c0) hsz
  have hnbl : p.nb < w.heap.size := Nat.lt_of_lt_of_le (World.block_lt_of_cell? w0 _ (n4 0 _ rfl)) hsz
  have hvbl : p.vb < w.heap.size := Nat.lt_of_lt_of_le (World.block_lt_of_cell? w0 _ r1) hsz
  clear hC ih hW hkid n4 hTl hM r1 r2 n1 hb1 hk6 hmm hsx hl1 hd
  go_enter Tryz.func158, Tryz.ntmps158
  go_wp2_with fail
  generalize (w.alloc (.cells #[.int .i64 i, .int .i64 j] 48)) = w1 at hB0 hz0 hL0 e0 e4 er q0 q1 q2 q3 q4 q5 q6 q7 q8
  go_cut [8, 9] (fun s8 s9 wx => s8 = .pointer (some ⟨w.heap.size + 1, 0, none⟩) ∧ s9 = .slice (some ⟨r, 0, none⟩) (lastOf d + 1) (lastOf d + 1) ∧ wx = (w1.alloc (.cells #[.int .i64 (pkind d.kind), .slice (some ⟨kb, 0, none⟩) 1 kc, .int .u64 y0, .int .u64 y1, .int .u64 y2, .int .u64 y3, .int .i64 (pnum d), .int .i64 d.lo, .int .i64 d.hi] 151)).drew)
  case first =>
    go_region
    all_goals (go_wp2_with fail; go_meet; exact ⟨rfl, rfl, rfl⟩)
  case rest =>
  obtain ⟨rfl, rfl, rfl⟩ := hcut
  have hB2 : Below w1.heap.size w1 (w1.alloc (.cells #[.int .i64 (pkind d.kind), .slice (some ⟨kb, 0, none⟩) 1 kc, .int .u64 y0, .int .u64 y1, .int .u64 y2, .int .u64 y3, .int .i64 (pnum d), .int .i64 d.lo, .int .i64 d.hi] 151)).drew := ((Below.refl _ _).alloc (Nat.le_refl _) _).drew
  have hh2 : (w1.alloc (.cells #[.int .i64 (pkind d.kind), .slice (some ⟨kb, 0, none⟩) 1 kc, .int .u64 y0, .int .u64 y1, .int .u64 y2, .int .u64 y3, .int .i64 (pnum d), .int .i64 d.lo, .int .i64 d.hi] 151)).drew.heap[w.heap.size + 1]? = some (.cells #[.int .i64 (pkind d.kind), .slice (some ⟨kb, 0, none⟩) 1 kc, .int .u64 y0, .int .u64 y1, .int .u64 y2, .int .u64 y3, .int .i64 (pnum d), .int .i64 d.lo, .int .i64 d.hi] 151) := by
    have := heap_alloc_new w1 (.cells #[.int .i64 (pkind d.kind), .slice (some ⟨kb, 0, none⟩) 1 kc, .int .u64 y0, .int .u64 y1, .int .u64 y2, .int .u64 y3, .int .i64 (pnum d), .int .i64 d.lo, .int .i64 d.hi] 151)
    rw [hz0] at this
    exact this
  have hz2 : (w1.alloc (.cells #[.int .i64 (pkind d.kind), .slice (some ⟨kb, 0, none⟩) 1 kc, .int .u64 y0, .int .u64 y1, .int .u64 y2, .int .u64 y3, .int .i64 (pnum d), .int .i64 d.lo, .int .i64 d.hi] 151)).drew.heap.size = w.heap.size + 2 := by simp [hz0]
  generalize (w1.alloc (.cells #[.int .i64 (pkind d.kind), .slice (some ⟨kb, 0, none⟩) 1 kc, .int .u64 y0, .int .u64 y1, .int .u64 y2, .int .u64 y3, .int .i64 (pnum d), .int .i64 d.lo, .int .i64 d.hi] 151)).drew = w2 at hB2 hh2 hz2
  have HB2 : Hid (Below w.heap.size w w2) := hB0.trans (hB2.mono (by omega))
  have HW2 : Hid (Now p w0 ob mt c w2) := HW.out.below HB2.out
  have HL2 : Hid (Lf w2 w.heap.size i j) := hL0.of (hB2.block w.heap.size (by omega))
  have HBx : Hid (Bx w2 (w.heap.size + 1) kb kc d.lo) := ⟨by rw [cell_of_row w2 _ 1 _ 151 (0, 0) hh2]; rfl, by rw [cell_of_row w2 _ 7 _ 151 (0, 0) hh2]; rfl⟩
  clear e0 e4 er q0 q1 q2 q3 q4 q5 q6 q7 q8 hB0 hL0 hB2 hh2
  go_wp2_with fail
  go_loopw [10] (fun v wr => ∃ (n i' : Nat) (c1 : Caps), n ≤ d.lo + p.s.size ∧ i' ≤ j ∧ (d.lo - n) + (j - i') + n ≤ d.lo + p.s.size ∧ v = .int .i64 n ∧ Hid (Lf wr w.heap.size i' j) ∧ Hid (Bx wr (w.heap.size + 1) kb kc d.lo) ∧ Hid (Now p w0 ob mt c1 wr) ∧ Hid (Fo ob w wr) ∧ Hid (Zt (Mat p.s p.nodes x) d.lo d.hi n i' j) ∧ Hid (∀ c', repP (Mat p.s p.nodes) (PGv p.s p.nodes) x d.lo d.hi (d.lo + p.s.size + 1 - n) n i' j c1 c' → repP (Mat p.s p.nodes) (PGv p.s p.nodes) x d.lo d.hi (d.lo + p.s.size + 1) 0 i j c c')) (fun v _ => d.lo + p.s.size + 2 - (intOf v).toNat)
  case atStart => exact ⟨0, i, c, Nat.zero_le _, hij, by omega, rfl, HL2.out, HBx.out, HW2.out, Fo.of_below HB2.out, HZ.out, fun c' h => h⟩
  case round =>
    obtain ⟨n, i', c1, hn, hi', hmu, rfl, HL, HBr, HN, HF, HZr, HA⟩ := hrel
    obtain ⟨l0, l1, l2⟩ := HL.out
    obtain ⟨x1, x7⟩ := HBr.out
    have hobr := HN.out.lt
    have hwr : w.heap.size + 1 < wr.heap.size := World.block_lt_of_cell? wr _ x1
    have k0 := HX.out wr HN.out.b _ _ _ HKD.out
    by_cases hlt : i' < j
    · obtain ⟨hzz, mm, z1, z2, z3⟩ := Zt_step (by omega) HZr.out hlt
      have hst := HC.out.st x i' mm (by omega) z1
      have hst2 := Zt_stays (HC.out.st x) hst.2 z3
      have HSat : Hid (∃ t, i' ≤ t ∧ t ≤ j ∧ (Mat p.s p.nodes x i' t ∧ Zt (Mat p.s p.nodes x) d.lo d.hi (n + 1) t j)) := ⟨mm, hst.1, hst2.1, z1, z3⟩
      have HPro : Hid (∀ t, Top (fun t => Mat p.s p.nodes x i' t ∧ Zt (Mat p.s p.nodes x) d.lo d.hi (n + 1) t j) i' j t → n < d.lo ∨ i' < t) := fun t ht => by
        by_cases hnl : n < d.lo
        · exact .inl hnl
        · right
          obtain ⟨t1, t2, t3, t4⟩ := ht
          rcases Nat.lt_or_ge t mm with h | h
          · exact absurd ⟨z1, z3⟩ (t3 mm h hst2.1)
          · omega
      obtain ⟨ix, hix, hixl, HTx⟩ : ∃ ix : Nat, min ((n : Int) + 1) (lastOf d : Int) = (ix : Int) ∧ ix ≤ lastOf d ∧ Hid (Tl p.s.size (T a ix) (Zt (Mat p.s p.nodes x) d.lo d.hi (n + 1))) := by
        by_cases hle : n + 1 ≤ lastOf d
        · exact ⟨n + 1, by omega, hle, HTl.out (n + 1) hle⟩
        · refine ⟨lastOf d, by omega, Nat.le_refl _, ?_⟩
          have h1 := HLD.out.1
          have h2 := HLD.out.2
          by_cases hneg : d.hi < 0
          · exact (HTl.out (lastOf d) (Nat.le_refl _)).iff fun u v => by rw [Zt_any (by rw [h1 hneg]; exact Nat.le_refl _) hneg, Zt_any (by rw [h1 hneg] at hle; omega) hneg]
          · exfalso
            have := h2 (by omega)
            omega
      obtain ⟨g3, c3, hg31, hg32, hg33⟩ := HRw.out.at' ix (by omega)
      have HG3 : Hid (Sts w0 g3 p.s.size (T a ix)) := hg33
      have k4 := HX.out wr HN.out.b _ _ _ hg31
      have HNd : Hid (Now p w0 ob mt c1 wr.drew) := HN.out.below (Below.refl wr.heap.size wr).drew
      have hi1 : (i' : Int) < (j : Int) := by omega
      have hm0 : ((lastOf d : Int) + 1 - 1) = (lastOf d : Int) := by omega
      have hm1 : (ix : Int) < (lastOf d : Int) + 1 := by omega
      clear z1 z2 z3 hst hst2 hg33 hg31 hzz
      go_wp2_with fail
      go_region_with (first
          | (go_at_call 192; (refine (giveStep_any p T m w0 ob N HC.out IH.out x i' j g3 c3 mt c1 _ (T a ix) (Zt (Mat p.s p.nodes x) d.lo d.hi (n + 1)) hxN hxl HNd.out hi' hj HG3.out HTx.out (fun t ht => (ht.sat HSat.out).1)).mono ?_; rintro e w5 ⟨t, rfl, hTop, c2, hN5, hG5, hF5⟩; have HTop : Hid (Top (fun t => Mat p.s p.nodes x i' t ∧ Zt (Mat p.s p.nodes x) d.lo d.hi (n + 1) t j) i' j t) := hTop; have HN5 : Hid (Now p w0 ob mt c2 w5) := hN5; have HG5 : Hid (PGv p.s p.nodes x i' t c1 c2) := hG5; have hF6 : Fo ob wr w5 := (Fo.of_below (Below.refl wr.heap.size wr).drew).trans hF5; have HF6 : Hid (Fo ob wr w5) := hF6; have hL5 : Lf w5 w.heap.size i' j := HL.out.of (hF6.block w.heap.size (by omega) (by omega)); have HL5 : Hid (Lf w5 w.heap.size i' j) := hL5; obtain ⟨l50, l51, l52⟩ := hL5; have HB5 : Hid (Bx w5 (w.heap.size + 1) kb kc d.lo) := HBr.out.of (hF6.block (w.heap.size + 1) (by omega) (by omega)); clear hTop hN5 hG5 hF5 hF6)))
      all_goals
        have htj := HTop.out.2.1
        have hti := HTop.out.1
        have hpro := HPro.out t HTop.out
        go_wp2_with fail
        go_roundw
        case rel =>
          refine ⟨n + 1, t, c2, by omega, htj, by omega, by go_num, HL5.out.set _, HB5.out.of (Below.heap_setCell _ _ _ _ (by simp only; omega)), ?_, (HF.out.trans HF6.out).setNew (Nat.le_refl _) _ _, (HTop.out.sat HSat.out).2, fun c' h => HA.out c' ?_⟩
          · exact ⟨HN5.out.b.setCell (by simp only; omega) _, HN5.out.o.of_block (Below.heap_setCell _ _ _ _ (by simp only; omega)), HN5.out.l⟩
          · rw [show d.lo + p.s.size + 1 - n = (d.lo + p.s.size + 1 - (n + 1)) + 1 by omega]
            exact .inr ⟨hlt, t, c2, HTop.out, HG5.out, h⟩
        case measure => simp [intOf]; omega
    · have hi2 : i' = j := by omega
      subst hi2
      have HEnd : Hid (∀ c', ((n < d.lo ∧ PGv p.s p.nodes x i' i' c1 c') ∨ (¬ n < d.lo ∧ c' = c1)) → repP (Mat p.s p.nodes) (PGv p.s p.nodes) x d.lo d.hi (d.lo + p.s.size + 1) 0 i i' c c') := fun c' h => HA.out c' (by
        rw [show d.lo + p.s.size + 1 - n = (d.lo + p.s.size - n) + 1 by omega]
        exact .inl ⟨hlt, h⟩)
      by_cases hnl : n < d.lo
      · have HM : Hid (Mat p.s p.nodes x i' i') := by
          obtain ⟨mm, z1, z3⟩ := (Zt_must hnl).1 HZr.out
          have hst := HC.out.st x i' mm (by omega) z1
          have hst2 := Zt_stays (HC.out.st x) hst.2 z3
          obtain rfl : mm = i' := by omega
          exact z1
        have HNd : Hid (Now p w0 ob mt c1 wr.drew) := HN.out.below (Below.refl wr.heap.size wr).drew
        go_wp2_with fail
        go_region_with (first
          | (go_at_call 108; (refine (IH.out x i' i' mt c1 _ hxN hxl HNd.out HM.out (Nat.le_refl _) hj).mono ?_; rintro e w5 ⟨rfl, c2, hN5, hG5, hF5⟩; have HN5 : Hid (Now p w0 ob mt c2 w5) := hN5; have HG5 : Hid (PGv p.s p.nodes x i' i' c1 c2) := hG5; have HF6 : Hid (Fo ob wr w5) := (Fo.of_below (Below.refl wr.heap.size wr).drew).trans hF5; clear hN5 hG5 hF5)))
        all_goals
          go_wp2_with fail
          exact bodyPost_end (v := .tuple #[]) (by simp [results, Tryz.results158, go_sem]) rfl ⟨rfl, c2, HN5.out, HEnd.out c2 (.inl ⟨hnl, HG5.out⟩), HF.out.trans HF6.out⟩
      · go_wp2_with fail
        exact bodyPost_end (v := .tuple #[]) (by simp [results, Tryz.results158, go_sem]) rfl ⟨rfl, c1, HN.out, HEnd.out c1 (.inr ⟨hnl, rfl⟩), HF.out⟩
end Go.Proofs.YtppjlpihaocdiaaGreatDoor

/- A part of the proof. -/
set_option linter.unusedSimpArgs false
set_option linter.unusedVariables false
namespace Go.Proofs.YtppjlpihaocdiaaGreatDoor
open Go.RowKit
set_option maxHeartbeats 4000000 in
theorem give_any (p : Pp) (T : Nat → Nat → Nat → Nat → Bool) (m : Nat → Nat) (w0 : World) (ob N : Nat) (hC : Ctx p T m w0 ob) (ih : GiveAt p T m w0 ob N) : GiveAt p T m w0 ob (N + 1) := by
  intro a i j mt c w haN hal hW hM hij hj
  obtain ⟨d, hd⟩ : ∃ d, p.nodes[a]? = some d := ⟨_, List.getElem?_eq_getElem hal⟩
  have HC : Hid (Ctx p T m w0 ob) := hC
  have IH : Hid (GiveAt p T m w0 ob N) := ih
  have HW : Hid (Now p w0 ob mt c w) := hW
  have HM : Hid (Mat p.s p.nodes a i j) := hM
  have HPN : Hid (PNd a p.groups d) := hC.pn a d hd
  have HD : Hid (p.nodes[a]? = some d) := hd
  have HEQ : Hid (∀ c', PGv p.s p.nodes a i j c c' ↔ _) := fun c' => PGv_eq hC.wf hC.h3 hd i j c c'
  have HMQ : Hid (Mat p.s p.nodes a i j ↔ _) := Mat_eq hC.wf hd i j
  obtain ⟨ao, kc, y0, y1, y2, y3, n1, n2, n3, n4⟩ := hC.tb.node a d hd
  have HK : Hid (Kids w0 p.vb ao d.subs) := n2
  have hs80 := hC.tb.s80
  have hg9 := hC.g9
  have hobl := hW.lt
  have hmany := hC.tb.many
  have hsz := hW.b.size
  have hob := hC.ob
  have hk6 := HPN.out.k6
  have HX : Hid (∀ (wx : World), Below w0.heap.size w0 wx → ∀ b o v, w0.cell? ⟨b, o, none⟩ = some v → wx.cell? ⟨b, o, none⟩ = some v) := fun wx hb b o v hv => (World.cell?_of_block (w := w0) (w' := wx) (a := ⟨b, o, none⟩) (hb.block b (World.block_lt_of_cell? w0 _ hv))).trans hv
  have hB0 : Below w.heap.size w (w.alloc (.cells #[.int .i64 i, .int .i64 j] 48)) := (Below.refl _ _).alloc (Nat.le_refl _) _
  have hz0 : (w.alloc (.cells #[.int .i64 i, .int .i64 j] 48)).heap.size = w.heap.size + 1 := by simp
  have hL0 := Lf.new w i j 48
  have hb1 := (HW.out.below hB0).b
  have e0 := HX.out _ hb1 _ _ _ hC.tb.c0
  have q0 := HX.out _ hb1 _ _ _ (n4 0 _ rfl)
  have q1 := HX.out _ hb1 _ _ _ (n4 1 _ rfl)
  have q2 := HX.out _ hb1 _ _ _ (n4 2 _ rfl)
  have q3 := HX.out _ hb1 _ _ _ (n4 3 _ rfl)
  have q4 := HX.out _ hb1 _ _ _ (n4 4 _ rfl)
  have q5 := HX.out _ hb1 _ _ _ (n4 5 _ rfl)
  have q6 := HX.out _ hb1 _ _ _ (n4 6 _ rfl)
  have q7 := HX.out _ hb1 _ _ _ (n4 7 _ rfl)
  have q8 := HX.out _ hb1 _ _ _ (n4 8 _ rfl)
  simp only [Nat.add_zero] at q0 q1 q2 q3 q4 q5 q6 q7 q8
  clear hC ih hW hM hd n1 n2 n4 hb1
  go_enter Tryz.func108, Tryz.ntmps108
  go_upto_region 2 with fail
  have hB2 : Below w.heap.size w ((w.alloc (.cells #[.int .i64 i, .int .i64 j] 48)).alloc (.cells #[.int .i64 (pkind d.kind), .slice ao d.subs.length kc, .int .u64 y0, .int .u64 y1, .int .u64 y2, .int .u64 y3, .int .i64 (pnum d), .int .i64 d.lo, .int .i64 d.hi] 151)) := hB0.alloc (by omega) _
  have hh2 : ((w.alloc (.cells #[.int .i64 i, .int .i64 j] 48)).alloc (.cells #[.int .i64 (pkind d.kind), .slice ao d.subs.length kc, .int .u64 y0, .int .u64 y1, .int .u64 y2, .int .u64 y3, .int .i64 (pnum d), .int .i64 d.lo, .int .i64 d.hi] 151)).heap[w.heap.size + 1]? = some (.cells #[.int .i64 (pkind d.kind), .slice ao d.subs.length kc, .int .u64 y0, .int .u64 y1, .int .u64 y2, .int .u64 y3, .int .i64 (pnum d), .int .i64 d.lo, .int .i64 d.hi] 151) := new_second w _ _
  have hL2 : Lf ((w.alloc (.cells #[.int .i64 i, .int .i64 j] 48)).alloc (.cells #[.int .i64 (pkind d.kind), .slice ao d.subs.length kc, .int .u64 y0, .int .u64 y1, .int .u64 y2, .int .u64 y3, .int .i64 (pnum d), .int .i64 d.lo, .int .i64 d.hi] 151)) w.heap.size i j := hL0.of (Below.heap_alloc _ _ _ (by omega))
  have hz2 : ((w.alloc (.cells #[.int .i64 i, .int .i64 j] 48)).alloc (.cells #[.int .i64 (pkind d.kind), .slice ao d.subs.length kc, .int .u64 y0, .int .u64 y1, .int .u64 y2, .int .u64 y3, .int .i64 (pnum d), .int .i64 d.lo, .int .i64 d.hi] 151)).heap.size = w.heap.size + 2 := by simp
  clear e0 q0 q1 q2 q3 q4 q5 q6 q7 q8 hB0 hL0 hz0
  generalize ((w.alloc (.cells #[.int .i64 i, .int .i64 j] 48)).alloc (.cells #[.int .i64 (pkind d.kind), .slice ao d.subs.length kc, .int .u64 y0, .int .u64 y1, .int .u64 y2, .int .u64 y3, .int .i64 (pnum d), .int .i64 d.lo, .int .i64 d.hi] 151)) = w2 at hB2 hh2 hL2 hz2
  have HB2 : Hid (Below w.heap.size w w2) := hB2
  have HW2 : Hid (Now p w0 ob mt c w2) := HW.out.below hB2
  have HL2 : Hid (Lf w2 w.heap.size i j) := hL2
  have x0 : w2.cell? ⟨w.heap.size + 1, 0, none⟩ = some (.int .i64 (pkind d.kind)) := by rw [cell_of_row w2 _ 0 _ 151 (0, 0) hh2]; rfl
  have x1 : w2.cell? ⟨w.heap.size + 1, 1, none⟩ = some (.slice ao d.subs.length kc) := by rw [cell_of_row w2 _ 1 _ 151 (0, 0) hh2]; rfl
  have x6 : w2.cell? ⟨w.heap.size + 1, 6, none⟩ = some (.int .i64 (pnum d)) := by rw [cell_of_row w2 _ 6 _ 151 (0, 0) hh2]; rfl
  obtain ⟨l0, l1, l2⟩ := hL2
  clear hB2 hh2
  obtain hkd | hkd | hkd | hkd | hkd : d.kind ≤ 2 ∨ d.kind = 3 ∨ d.kind = 4 ∨ d.kind = 5 ∨ d.kind = 6 := by omega
  · -- a leaf
    have HE : Hid (PGv p.s p.nodes a i j c c) := by
      rw [Hid, HEQ.out]
      rw [if_neg (by omega), if_neg (by omega), if_neg (by omega), if_neg (by omega)]
    obtain hp | hp | hp : pkind d.kind = 2 ∨ pkind d.kind = 0 ∨ pkind d.kind = 1 := by
      unfold pkind
      obtain h | h | h : d.kind = 0 ∨ d.kind = 1 ∨ d.kind = 2 := by omega
      all_goals rw [h]; decide
    all_goals
      rw [hp] at x0
      clear hp hkd
      go_wp2_with fail
      exact bodyPost_end (v := .tuple #[]) (by simp [results, Tryz.results108, go_sem]) rfl ⟨rfl, c, HW2.out, HE.out, Fo.of_below HB2.out⟩
  · -- a bracket
    rw [show pkind d.kind = 3 from by rw [hkd]; rfl] at x0
    rw [show pnum d = (d.num : Int) + 1 from by unfold pnum; rw [if_pos hkd]] at x6
    obtain ⟨x, hsx⟩ := HPN.out.one (.inl hkd)
    have hng := HPN.out.num hkd
    have hxa : x < a := HPN.out.sub x (by rw [hsx]; simp)
    have HSX : Hid (d.subs = [x]) := hsx
    rcases HK.out with hk0 | ⟨kb, rfl, hkb, hkid⟩
    · rw [hk0] at hsx; cases hsx
    have HKD : Hid (w0.cell? ⟨kb, 0, none⟩ = some (.int .i64 x)) := hkid 0 x (by rw [hsx]; rfl)
    have hl1 : d.subs.length = 1 := by rw [hsx]; rfl
    rw [hl1] at x1
    have HMx : Hid (Mat p.s p.nodes x i j) := by
      have := HMQ.out.1 HM.out
      rw [if_neg (by omega), if_neg (by omega), if_neg (by omega), if_neg (by omega), if_neg (by omega), hsx] at this
      obtain ⟨y, hy, hr⟩ := this
      obtain rfl : y = x := by simpa using hy
      exact hr
    have HE : Hid (∀ c', PGv p.s p.nodes x i j (c.set d.num ((i : Int), (j : Int))) c' → PGv p.s p.nodes a i j c c') := fun c' h => by
      rw [HEQ.out, if_pos hkd, HSX.out]
      exact h
    have hlen : c.length = p.groups := HW.out.l
    obtain ⟨v1, v2, hv⟩ : ∃ v1 v2, (mt :: c)[d.num + 1]? = some (v1, v2) := by
      rw [List.getElem?_cons_succ, List.getElem?_eq_getElem (by omega)]
      exact ⟨_, _, rfl⟩
    obtain ⟨o1, o2, o3, o4⟩ := HW2.out.o (d.num + 1) v1 v2 hv
    have hkbl : kb < w.heap.size := Nat.lt_of_lt_of_le (World.block_lt_of_cell? w0 _ HKD.out) hsz
    have hkbo : kb ≠ ob := by have := World.block_lt_of_cell? w0 _ HKD.out; simp only at this; omega
    have k0 := HX.out w2 HW2.out.b _ _ _ HKD.out
    clear hkd hkid hsx hl1 hv
    go_wp2_with fail
    have hF3 : Fo ob w ((w2.setCell ⟨ob, (d.num + 1) * 2, none⟩ (.int .i64 i)).setCell ⟨ob, (d.num + 1) * 2 + 1, none⟩ (.int .i64 j)) := ((Fo.of_below HB2.out).set _ _).set _ _
    have hN3 : Now p w0 ob mt (c.set d.num ((i : Int), (j : Int))) ((w2.setCell ⟨ob, (d.num + 1) * 2, none⟩ (.int .i64 i)).setCell ⟨ob, (d.num + 1) * 2 + 1, none⟩ (.int .i64 j)) := by
      refine ⟨(HW2.out.b.setCell (by simp only; omega) _).setCell (by simp only; omega) _, ?_, by rw [List.length_set]; exact hlen⟩
      have := HW2.out.o.put (q := d.num + 1) i j (by simp; omega)
      rw [List.set_cons_succ] at this
      exact this
    have hL3 : Lf ((w2.setCell ⟨ob, (d.num + 1) * 2, none⟩ (.int .i64 i)).setCell ⟨ob, (d.num + 1) * 2 + 1, none⟩ (.int .i64 j)) w.heap.size i j := (HL2.out.of (Below.heap_setCell _ _ _ _ (by simp only; omega))).of (Below.heap_setCell _ _ _ _ (by simp only; omega))
    have hx3 : ((w2.setCell ⟨ob, (d.num + 1) * 2, none⟩ (.int .i64 i)).setCell ⟨ob, (d.num + 1) * 2 + 1, none⟩ (.int .i64 j)).cell? ⟨w.heap.size + 1, 1, none⟩ = some (.slice (some ⟨kb, 0, none⟩) 1 kc) := by go_simp
    generalize ((w2.setCell ⟨ob, (d.num + 1) * 2, none⟩ (.int .i64 i)).setCell ⟨ob, (d.num + 1) * 2 + 1, none⟩ (.int .i64 j)) = w3 at hF3 hN3 hL3 hx3
    have HF3 : Hid (Fo ob w w3) := hF3
    have HNd : Hid (Now p w0 ob mt (c.set d.num ((i : Int), (j : Int))) w3.drew) := hN3.below (Below.refl w3.heap.size w3).drew
    obtain ⟨l30, l31, l32⟩ := hL3
    have k3 := HX.out w3 hN3.b _ _ _ HKD.out
    clear hF3 hN3 o1 o2 o3 o4 x0 x1 x6 l0 l1 l2 k0
    go_region_with (first
      | (go_at_call 108; (refine (IH.out x i j mt (c.set d.num ((i : Int), (j : Int))) _ (by omega) (by omega) HNd.out HMx.out hij hj).mono ?_; rintro e w5 ⟨rfl, c2, hN5, hG5, hF5⟩; have HN5 : Hid (Now p w0 ob mt c2 w5) := hN5; have HG5 : Hid (PGv p.s p.nodes x i j (c.set d.num ((i : Int), (j : Int))) c2) := hG5; have HF6 : Hid (Fo ob w3 w5) := (Fo.of_below (Below.refl w3.heap.size w3).drew).trans hF5; clear hN5 hG5 hF5)))
    all_goals
      go_wp2_with fail
      exact bodyPost_end (v := .tuple #[]) (by simp [results, Tryz.results108, go_sem]) rfl ⟨rfl, c2, HN5.out, HE.out c2 HG5.out, HF3.out.trans HF6.out⟩
  · -- ways
    rw [show pkind d.kind = 6 from by rw [hkd]; rfl] at x0
    obtain ⟨hl2, hl3⟩ := HPN.out.two (.inl hkd)
    rcases HK.out with hk0 | ⟨kb, rfl, hkb, hkid⟩
    · rw [hk0] at hl2; simp at hl2
    have HKD : Hid (∀ (q y : Nat), d.subs[q]? = some y → w0.cell? ⟨kb, q, none⟩ = some (.int .i64 y)) := hkid
    have HSB : Hid (∀ y ∈ d.subs, y < N ∧ y < p.nodes.length) := fun y hy => by have := HPN.out.sub y hy; omega
    have hkb0 : kb < w0.heap.size := by
      obtain ⟨y, hy⟩ : ∃ y, d.subs[0]? = some y := ⟨_, List.getElem?_eq_getElem (by omega)⟩
      exact World.block_lt_of_cell? w0 _ (hkid 0 y hy)
    have HE : Hid (∀ c', altG (Mat p.s p.nodes) (PGv p.s p.nodes) d.subs i j c c' → PGv p.s p.nodes a i j c c') := fun c' h => by
      rw [HEQ.out, if_neg (by omega), if_pos hkd]
      exact h
    clear hkd hkid
    go_wp2_with fail
    refine (giveChoice_any p T m w0 ob N HC.out IH.out d.subs kb kc i j mt c _ HSB.out hl3 hkb0 HKD.out HW2.out hij hj).mono ?_
    rintro e w5 ⟨rfl, c2, hN5, hG5, hF5⟩
    have HN5 : Hid (Now p w0 ob mt c2 w5) := hN5
    have HG5 : Hid (PGv p.s p.nodes a i j c c2) := HE.out c2 hG5
    have HF6 : Hid (Fo ob w w5) := (Fo.of_below HB2.out).trans hF5
    clear hN5 hG5 hF5
    go_wp2_with fail
    exact bodyPost_end (v := .tuple #[]) (by simp [results, Tryz.results108, go_sem]) rfl ⟨rfl, c2, HN5.out, HG5.out, HF6.out⟩
  · -- a row
    rw [show pkind d.kind = 5 from by rw [hkd]; rfl] at x0
    have HE : Hid (∀ c', rowG (Mat p.s p.nodes) (PGv p.s p.nodes) d.subs i j c c' → PGv p.s p.nodes a i j c c') := fun c' h => by
      rw [HEQ.out, if_neg (by omega), if_neg (by omega), if_pos hkd]
      exact h
    have HKK : Hid (d.kind = 5) := hkd
    clear hkd
    go_wp2_with fail
    refine (giveWay_any p T m w0 ob N HC.out IH.out a d HD.out HKK.out (by omega) i j mt c _ HW2.out hij hj HM.out).mono ?_
    rintro e w5 ⟨rfl, c2, hN5, hG5, hF5⟩
    have HN5 : Hid (Now p w0 ob mt c2 w5) := hN5
    have HG5 : Hid (PGv p.s p.nodes a i j c c2) := HE.out c2 hG5
    have HF6 : Hid (Fo ob w w5) := (Fo.of_below HB2.out).trans hF5
    clear hN5 hG5 hF5
    go_wp2_with fail
    exact bodyPost_end (v := .tuple #[]) (by simp [results, Tryz.results108, go_sem]) rfl ⟨rfl, c2, HN5.out, HG5.out, HF6.out⟩
  · -- a repetition
    rw [show pkind d.kind = 4 from by rw [hkd]; rfl] at x0
    obtain ⟨x, hsx⟩ := HPN.out.one (.inr hkd)
    have HE : Hid (∀ c', repP (Mat p.s p.nodes) (PGv p.s p.nodes) x d.lo d.hi (d.lo + p.s.size + 1) 0 i j c c' → PGv p.s p.nodes a i j c c') := fun c' h => by
      rw [HEQ.out, if_neg (by omega), if_neg (by omega), if_neg (by omega), if_pos hkd, hsx]
      exact h
    have HKK : Hid (d.kind = 6) := hkd
    have HSX : Hid (d.subs = [x]) := hsx
    clear hkd hsx
    go_wp2_with fail
    refine (giveRepeat_any p T m w0 ob N HC.out IH.out a x d HD.out HKK.out HSX.out (by omega) i j mt c _ HW2.out hij hj HM.out).mono ?_
    rintro e w5 ⟨rfl, c2, hN5, hG5, hF5⟩
    have HN5 : Hid (Now p w0 ob mt c2 w5) := hN5
    have HG5 : Hid (PGv p.s p.nodes a i j c c2) := HE.out c2 hG5
    have HF6 : Hid (Fo ob w w5) := (Fo.of_below HB2.out).trans hF5
    clear hN5 hG5 hF5
    go_wp2_with fail
    exact bodyPost_end (v := .tuple #[]) (by simp [results, Tryz.results108, go_sem]) rfl ⟨rfl, c2, HN5.out, HG5.out, HF6.out⟩
theorem give_all (p : Pp) (T : Nat → Nat → Nat → Nat → Bool) (m : Nat → Nat) (w0 : World) (ob : Nat) (hC : Ctx p T m w0 ob) : ∀ N, GiveAt p T m w0 ob N
  | 0 => fun a i j mt c w h => by omega
  | N + 1 => give_any p T m w0 ob N hC (give_all p T m w0 ob hC N)
end Go.Proofs.YtppjlpihaocdiaaGreatDoor

/- A part of the proof. -/
set_option linter.unusedSimpArgs false
set_option linter.unusedVariables false
namespace Go.Proofs.YtppjlpihaocdiaaGreatDoor
open Go.RowKit
def MO (a b : Value) : Sem Value := Instr.makeSlice 41 a b
theorem MO_eq (a b : Value) : Instr.makeSlice 41 a b = MO a b := rfl
attribute [local go_sem ↓] MO_eq
theorem Tryz.info48 : (Tryz.prog.info? 48).map (fun i => (i.zero, i.size, i.bytes)) = some (some (.agg #[.int .i64 0, .int .i64 0]), 2, 16) := by kernel_rfl
theorem run_MO (n : Nat) (hn : n ≤ 100000) : ∃ A : Array Value, (∀ q, q < n * 2 → A[q]? = some (.int .i64 0)) ∧ ∀ w, (MO (.int .i64 n) (.int .i64 n)).run Tryz.prog w = .ok (.slice (some ⟨w.heap.size, 0, none⟩) n n) (w.alloc (.cells A 48)) := by
  obtain ⟨i0, hi0, hz0, hz1, hz2⟩ := info_parts Tryz.info48
  refine ⟨madeCells (Value.agg #[.int .i64 0, .int .i64 0]).cells (n * 2), fun q hq => madeCells_zero _ _ ?_ ?_ _ q hq, fun w => ?_⟩
  · intro k hk
    have hk' : k < 2 := by simpa [Value.cells] using hk
    obtain rfl | rfl : k = 0 ∨ k = 1 := by omega
    · rfl
    · rfl
  · simp [Value.cells]
  · have := run_make (P := Tryz.prog) w 41 48 i0 _ Tryz.underlying41 hi0 hz0 .i64 .i64 n n (by omega) (Int.le_refl _) (by rw [hz2]; omega) (by omega)
    rw [hz1] at this
    rw [← MO_eq]
    simpa using this
def noCaps (n : Nat) : Caps := List.replicate n ((-1 : Int), (-1 : Int))
set_option maxHeartbeats 4000000 in
theorem spans_any (p : Pp) (T : Nat → Nat → Nat → Nat → Bool) (m : Nat → Nat) (w : World) (hT : TbAt w p p.nodes.length T m) (hRI : ∀ (a : Nat) (d : Nd), p.nodes[a]? = some d → RowIs p.s (Mat p.s p.nodes) d (m a) (T a)) (hPN : ∀ (a : Nat) (d : Nd), p.nodes[a]? = some d → PNd a p.groups d)
    (hg9 : p.groups ≤ 9) (hrt : p.root < p.nodes.length) (i j : Nat) (hM : Mat p.s p.nodes p.root i j) (hij : i ≤ j) (hj : j ≤ p.s.size) :
    Calls Tryz.prog 68 #[.pointer (some ⟨p.tb, 0, none⟩), .agg #[.int .i64 i, .int .i64 j]] w
      fun e w' => ∃ ob, e = .returned (.slice (some ⟨ob, 0, none⟩) (p.groups + 1) (p.groups + 1)) ∧ w.heap.size ≤ ob ∧ ∃ c', OutAt w' ob (((i : Int), (j : Int)) :: c') ∧ c'.length = p.groups ∧ PGv p.s p.nodes p.root i j (noCaps p.groups) c' ∧ Below w.heap.size w w' := by
  have HC : Hid (Ctx p T m w (w.heap.size + 1)) := ⟨hT, hRI, hPN, by omega, hg9⟩
  have HM : Hid (Mat p.s p.nodes p.root i j) := hM
  have hs80 := hT.s80
  have hmany := hT.many
  have c1 := hT.c1
  have c2 := hT.c2
  have HC1 : Hid (w.cell? ⟨p.tb, 1, none⟩ = some (.int .i64 p.root)) := c1
  have HC2 : Hid (w.cell? ⟨p.tb, 2, none⟩ = some (.int .i64 p.groups)) := c2
  have htb : p.tb < w.heap.size := World.block_lt_of_cell? w _ c1
  obtain ⟨A1, hA1, m1⟩ := run_MO (p.groups + 1) (by omega)
  rw [show ((p.groups + 1 : Nat) : Int) = 1 + (p.groups : Int) by omega] at m1
  have HA : Hid (∀ q, q < (p.groups + 1) * 2 → A1[q]? = some (.int .i64 0)) := hA1
  clear hT hRI hPN hM hA1
  go_enter Tryz.func68, Tryz.ntmps68
  go_upto_region 2 with fail
  have hB2 : Below w.heap.size w ((w.alloc (.cells #[.int .i64 i, .int .i64 j] 48)).alloc (.cells A1 48)) := ((Below.refl _ _).alloc (Nat.le_refl _) _).alloc (by simp) _
  have hh2 : ((w.alloc (.cells #[.int .i64 i, .int .i64 j] 48)).alloc (.cells A1 48)).heap[w.heap.size + 1]? = some (.cells A1 48) := new_second w _ _
  have hL2 : Lf ((w.alloc (.cells #[.int .i64 i, .int .i64 j] 48)).alloc (.cells A1 48)) w.heap.size i j := (Lf.new w i j 48).of (Below.heap_alloc _ _ _ (by simp))
  have hz2 : ((w.alloc (.cells #[.int .i64 i, .int .i64 j] 48)).alloc (.cells A1 48)).heap.size = w.heap.size + 2 := by simp
  generalize ((w.alloc (.cells #[.int .i64 i, .int .i64 j] 48)).alloc (.cells A1 48)) = w2 at hB2 hh2 hL2 hz2
  have hO2 : OutAt w2 (w.heap.size + 1) (List.replicate (p.groups + 1) ((0 : Int), (0 : Int))) := by
    intro q x y hq
    have hql : q < p.groups + 1 := by
      have := (List.getElem?_eq_some_iff.1 hq).1
      simpa using this
    rw [List.getElem?_replicate_of_lt hql] at hq
    cases hq
    refine ⟨?_, ?_, ?_, ?_⟩
    · rw [cell_of_row w2 _ _ A1 48 (0, 0) hh2]; exact HA.out _ (by omega)
    · rw [cell_of_row w2 _ _ A1 48 (0, 0) hh2]; exact HA.out _ (by omega)
    · simp [World.frozen?, hh2]
    · simp [World.frozen?, hh2]
  have HO2 : Hid (OutAt w2 (w.heap.size + 1) (List.replicate (p.groups + 1) ((0 : Int), (0 : Int)))) := hO2
  have HB2 : Hid (Below w.heap.size w w2) := hB2
  have HL2 : Hid (Lf w2 w.heap.size i j) := hL2
  obtain ⟨l0, l1, l2⟩ := hL2
  obtain ⟨o1, o2, o3, o4⟩ := hO2 0 0 0 (by rw [List.getElem?_replicate_of_lt (by omega)])
  have d2 : w2.cell? ⟨p.tb, 2, none⟩ = some (.int .i64 p.groups) := (World.cell?_of_block (w := w) (w' := w2) (a := ⟨p.tb, 2, none⟩) (hB2.block p.tb htb)).trans c2
  have htb1 : p.tb ≠ w.heap.size + 1 := by omega
  simp only [Nat.zero_mul, Nat.zero_add] at o1 o2 o3 o4
  clear hB2 hh2 hO2 c1 c2 m1
  go_wp2_with fail
  go_loopw [22] (fun v wr => ∃ (k : Nat) (l : List (Int × Int)), k ≤ p.groups ∧ v = .int .i64 k ∧ l.length = p.groups ∧ Hid (OutAt wr (w.heap.size + 1) (((i : Int), (j : Int)) :: l)) ∧ Hid (∀ q, q < k → l[q]? = some ((-1 : Int), (-1 : Int))) ∧ Hid (Below w.heap.size w wr) ∧ Hid (Lf wr w.heap.size i j)) (fun v _ => p.groups + 1 - (intOf v).toNat)
  case atStart =>
    refine ⟨0, List.replicate p.groups ((0 : Int), (0 : Int)), Nat.zero_le _, rfl, by simp, ?_, fun q h => by omega, (HB2.out.setCell (by simp only; omega) _).setCell (by simp only; omega) _, (HL2.out.of (Below.heap_setCell _ _ _ _ (by simp only; omega))).of (Below.heap_setCell _ _ _ _ (by simp only; omega))⟩
    have := HO2.out.put (q := 0) i j (by simp)
    rw [List.replicate_succ, List.set_cons_zero] at this
    simp only [Nat.zero_mul, Nat.zero_add] at this
    exact this
  case round =>
    obtain ⟨k, l, hk, rfl, hll, HO, HQ, HB, HL⟩ := hrel
    by_cases hlt : k < p.groups
    · obtain ⟨v1, v2, hv⟩ : ∃ v1 v2, (((i : Int), (j : Int)) :: l)[1 + k]? = some (v1, v2) := by
        rw [List.getElem?_eq_getElem (by simp; omega)]
        exact ⟨_, _, rfl⟩
      obtain ⟨u1, u2, u3, u4⟩ := HO.out (1 + k) v1 v2 hv
      clear hv o1 o2 o3 o4
      go_wp2_with fail
      go_roundw
      case rel =>
        refine ⟨k + 1, l.set k ((-1 : Int), (-1 : Int)), hlt, by go_num, by rw [List.length_set]; exact hll, ?_, fun q hq => ?_, (HB.out.setCell (by simp only; omega) _).setCell (by simp only; omega) _, (HL.out.of (Below.heap_setCell _ _ _ _ (by simp only; omega))).of (Below.heap_setCell _ _ _ _ (by simp only; omega))⟩
        · have := HO.out.put (q := 1 + k) (-1) (-1) (by simp; omega)
          rw [Nat.add_comm 1 k, List.set_cons_succ] at this
          rw [Nat.add_comm 1 k]
          exact this
        · by_cases e : q = k
          · subst e; rw [List.getElem?_set_self (by omega)]
          · rw [List.getElem?_set_ne (by omega)]; exact HQ.out q (by omega)
      case measure => simp [intOf]; omega
    · have hk2 : k = p.groups := by omega
      subst hk2
      have hle : l = noCaps p.groups := by
        unfold noCaps
        refine List.ext_getElem? fun q => ?_
        by_cases hq : q < p.groups
        · rw [HQ.out q hq, List.getElem?_replicate_of_lt hq]
        · rw [List.getElem?_eq_none (by omega), List.getElem?_eq_none (by simp; omega)]
      subst hle
      have HN : Hid (Now p w (w.heap.size + 1) ((i : Int), (j : Int)) (noCaps p.groups) wr) := ⟨HB.out, HO.out, hll⟩
      have HNd : Hid (Now p w (w.heap.size + 1) ((i : Int), (j : Int)) (noCaps p.groups) wr.drew) := HN.out.below (Below.refl wr.heap.size wr).drew
      obtain ⟨l0, l1, l2⟩ := HL.out
      have d1 : wr.cell? ⟨p.tb, 1, none⟩ = some (.int .i64 p.root) := (World.cell?_of_block (w := w) (w' := wr) (a := ⟨p.tb, 1, none⟩) (HB.out.block p.tb htb)).trans HC1.out
      clear o1 o2 o3 o4
      go_wp2_with fail
      go_region_with (first
        | (go_at_call 108; (refine (give_all p T m w (w.heap.size + 1) HC.out (p.root + 1) p.root i j ((i : Int), (j : Int)) (noCaps p.groups) _ (by omega) hrt HNd.out HM.out hij hj).mono ?_; rintro e w5 ⟨rfl, c2, hN5, hG5, hF5⟩; have HN5 : Hid (Now p w (w.heap.size + 1) ((i : Int), (j : Int)) c2 w5) := hN5; have HG5 : Hid (PGv p.s p.nodes p.root i j (noCaps p.groups) c2) := hG5; clear hN5 hG5 hF5)))
      all_goals
        go_wp2_with fail
        go_ret
        exact ⟨_, rfl, by omega, c2, HN5.out.o, HN5.out.l, HG5.out, HN5.out.b⟩
def Best (L : Nat) (R : Nat → Nat → Prop) (pl i j : Nat) : Prop := pl ≤ i ∧ i ≤ j ∧ j ≤ L ∧ R i j ∧ (∀ i' j', pl ≤ i' → i' < i → ¬ R i' j') ∧ ∀ j', j < j' → ¬ R i j'
theorem Best.one {L : Nat} {R : Nat → Nat → Prop} {pl i j i' j' : Nat} (h : Best L R pl i j) (h' : Best L R pl i' j') : i = i' ∧ j = j' := by
  obtain ⟨a1, a2, a3, a4, a5, a6⟩ := h
  obtain ⟨b1, b2, b3, b4, b5, b6⟩ := h'
  have e : i = i' := by
    rcases Nat.lt_trichotomy i i' with e | e | e
    · exact absurd a4 (b5 i j a1 e)
    · exact e
    · exact absurd b4 (a5 i' j' b1 e)
  subst e
  refine ⟨rfl, ?_⟩
  rcases Nat.lt_trichotomy j j' with e | e | e
  · exact absurd b4 (a6 j' e)
  · exact e
  · exact absurd a4 (b6 j e)
set_option maxHeartbeats 4000000 in
theorem first_any (p : Pp) (T : Nat → Nat → Nat → Nat → Bool) (m : Nat → Nat) (w : World) (hT : TbAt w p p.nodes.length T m) (hRI : ∀ (a : Nat) (d : Nd), p.nodes[a]? = some d → RowIs p.s (Mat p.s p.nodes) d (m a) (T a)) (hPN : ∀ (a : Nat) (d : Nd), p.nodes[a]? = some d → PNd a p.groups d)
    (hg9 : p.groups ≤ 9) (hrt : p.root < p.nodes.length) (pl : Nat) (hpl : pl ≤ p.s.size + 1) :
    Calls Tryz.prog 44 #[.pointer (some ⟨p.tb, 0, none⟩), .int .i64 pl] w
      fun e w' => Below w.heap.size w w' ∧ ((e = .returned (.slice none 0 0) ∧ ∀ i j, pl ≤ i → i ≤ p.s.size → ¬ Mat p.s p.nodes p.root i j) ∨
        ∃ ob i j c', e = .returned (.slice (some ⟨ob, 0, none⟩) (p.groups + 1) (p.groups + 1)) ∧ w.heap.size ≤ ob ∧ Best p.s.size (Mat p.s p.nodes p.root) pl i j ∧ OutAt w' ob (((i : Int), (j : Int)) :: c') ∧ c'.length = p.groups ∧ PGv p.s p.nodes p.root i j (noCaps p.groups) c') := by
  have HT : Hid (TbAt w p p.nodes.length T m) := hT
  have HRI : Hid (∀ (a : Nat) (d : Nd), p.nodes[a]? = some d → RowIs p.s (Mat p.s p.nodes) d (m a) (T a)) := hRI
  have HPN : Hid (∀ (a : Nat) (d : Nd), p.nodes[a]? = some d → PNd a p.groups d) := hPN
  have HCx : Hid (Ctx p T m w w.heap.size) := ⟨hT, hRI, hPN, by omega, hg9⟩
  have hs80 := hT.s80
  have hmany := hT.many
  have c1 := hT.c1
  obtain ⟨g2, c2, hWI, hS2⟩ := hT.wholeIs hrt
  have HWI : Hid (WholeIs w p p.root g2 c2) := hWI
  have HS2 : Hid (Sts w g2 p.s.size (T p.root 0)) := hS2
  have hg2l := hS2.lt
  clear hT hRI hPN hWI hS2
  go_enter Tryz.func44, Tryz.ntmps44
  go_wp2_with fail
  refine (whole_is p p.root g2 c2 _ HWI.out).mono ?_
  rintro e w1 ⟨rfl, hw1⟩
  subst w1
  go_wp2_with fail
  go_loopw [6] (fun v wr => ∃ (i : Nat), pl ≤ i ∧ i ≤ p.s.size + 1 ∧ v = .int .i64 i ∧ Hid (∀ i' j', pl ≤ i' → i' < i → ¬ Mat p.s p.nodes p.root i' j') ∧ Hid (Below w.heap.size w wr)) (fun v _ => p.s.size + 2 - (intOf v).toNat)
  case atStart => exact ⟨pl, Nat.le_refl _, hpl, rfl, fun i' j' h1 h2 => by omega, Below.refl _ _⟩
  case round =>
    obtain ⟨i, hi1, hi2, rfl, HN, HB⟩ := hrel
    by_cases hlt : i ≤ p.s.size
    · have HS3 : Hid (Sts wr g2 p.s.size (T p.root 0)) := HS2.out.below HB.out hg2l
      obtain ⟨A2, B2, z1, z2, z3, z4, z5⟩ := HS3.out.cell i hlt
      have HP2 : Hid (Pl A2 B2 (T p.root 0 i)) := z5
      clear z5
      go_wp2_with fail
      refine (greatest_any A2 B2 _ _ HP2.out).mono ?_
      rintro e w1 ⟨j, ok, rfl, hB1, hG⟩
      have HB1 : Hid (Below w.heap.size w w1) := HB.out.trans (hB1.mono HB.out.size)
      have hsz1 := HB1.out.size
      rcases hG with ⟨rfl, hj1, hj2, hj3⟩ | ⟨rfl, hj3⟩
      · have HM : Hid (Mat p.s p.nodes p.root i j) := (HCx.out.tl hrt i hlt j).1 hj2
        have hst := HCx.out.st p.root i j hlt HM.out
        have HBest : Hid (Best p.s.size (Mat p.s p.nodes p.root) pl i j) := by
          refine ⟨hi1, hst.1, hst.2, HM.out, HN.out, fun j' h1 h2 => ?_⟩
          have hst' := HCx.out.st p.root i j' hlt h2
          have := (HCx.out.tl hrt i hlt j').2 h2
          rw [hj3 j' h1 (by omega)] at this
          cases this
        clear hB1 hj2 hj3 z1 z2 z3 z4
        go_wp2_with fail
        refine (spans_any p T m _ (HT.out.below HB1.out) HRI.out HPN.out hg9 hrt i j HM.out hst.1 hst.2).mono ?_
        rintro e w2 ⟨ob, rfl, hob, c', h1, h2, h3, h4⟩
        have H1 : Hid (OutAt w2 ob (((i : Int), (j : Int)) :: c')) := h1
        have H3 : Hid (PGv p.s p.nodes p.root i j (noCaps p.groups) c') := h3
        have H4 : Hid (Below w.heap.size w w2) := HB1.out.trans (h4.mono hsz1)
        clear h1 h3 h4
        go_wp2_with fail
        go_ret
        exact ⟨H4.out, .inr ⟨ob, i, j, c', rfl, by omega, HBest.out, H1.out, h2, H3.out⟩⟩
      · have HN2 : Hid (∀ j', ¬ Mat p.s p.nodes p.root i j') := fun j' h2 => by
          have hst' := HCx.out.st p.root i j' hlt h2
          have := (HCx.out.tl hrt i hlt j').2 h2
          rw [hj3 j' (by omega)] at this
          cases this
        clear hB1 hj3 z1 z2 z3 z4
        go_wp2_with fail
        go_roundw
        case rel => exact ⟨i + 1, by omega, by omega, by go_num, fun i' j' h1 h2 => by
                      by_cases e : i' = i
                      · subst e; exact HN2.out j'
                      · exact HN.out i' j' h1 (by omega), HB1.out⟩
        case measure => simp [intOf]; omega
    · go_wp2_with fail
      go_ret
      exact ⟨HB.out, .inl ⟨rfl, fun i' j' h1 h2 => HN.out i' j' h1 (by omega)⟩⟩
end Go.Proofs.YtppjlpihaocdiaaGreatDoor

