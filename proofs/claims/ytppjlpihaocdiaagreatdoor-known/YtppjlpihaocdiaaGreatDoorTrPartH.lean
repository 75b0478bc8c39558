/- Several texts in one. -/
import Derived.Test.YtppjlpihaocdiaaGreatDoorTrCountH
/- A part of the proof. -/
set_option linter.unusedSimpArgs false
set_option linter.unusedVariables false
namespace Go.Proofs.YtppjlpihaocdiaaGreatDoor
namespace Tr
open Go.RowKit
theorem accept_any (b : Nat) (s : ByteArray) (i c : Nat) (w : World) (hr : Rc w b s i) (hc : c < 256) :
    Calls Tryz.prog 100 #[.pointer (some ⟨b, 0, none⟩), .int .u8 c] w fun e w' => ∃ (q : Bool) (j : Nat), e = .returned (.bool q) ∧ Mv b w w' j ∧ ((q = true ∧ pk s i = c ∧ j = i + 1) ∨ (q = false ∧ pk s i ≠ c ∧ j = i)) := by
  by_cases h : pk s i = c
  · refine (acceptY b s i c w hr hc h).mono ?_
    rintro e w' ⟨rfl, hm⟩
    exact ⟨true, _, rfl, hm, .inl ⟨rfl, h, rfl⟩⟩
  · refine (acceptN b s i c w hr hc h).mono ?_
    rintro e w' ⟨rfl, hm⟩
    exact ⟨false, _, rfl, hm, .inr ⟨rfl, h, rfl⟩⟩
def atOf (w : World) (b : Nat) : Nat := match w.cell? ⟨b, 1, none⟩ with | some (.int _ q) => q.toNat | _ => 0
theorem atOf_is {w : World} {b j : Nat} (h : w.cell? ⟨b, 1, none⟩ = some (.int .i64 j)) : atOf w b = j := by simp [atOf, h]
theorem Only.rd {N b i o g : Nat} {n : NX} {s : ByteArray} {nv : Value} {w w' : World} (h : Only N w w') (hr : Rd w b s i o g nv n) (hN : N ≠ b) (hn : nv.ownBlock ≠ some N) (hu : ∃ z, w.cell? ⟨N, 0, none⟩ = some (.int .u64 z)) : Rd w' b s i o g nv n := by
  obtain ⟨⟨r0, r1, rf, rle, r40⟩, c2, c3, c4, f2, f3, f4, ⟨xs, hown, hce⟩, hwf⟩ := hr
  have hx := h.block b (fun e => hN e.symm)
  have hc : ∀ k, w'.cell? ⟨b, k, none⟩ = w.cell? ⟨b, k, none⟩ := fun k => World.cell?_of_block (w := w) (w' := w') (a := ⟨b, k, none⟩) hx
  have hf : ∀ k, w'.frozen? ⟨b, k, none⟩ = w.frozen? ⟨b, k, none⟩ := fun k => World.frozen?_of_block (w := w) (w' := w') (a := ⟨b, k, none⟩) hx
  refine ⟨⟨(hc 0).trans r0, (hc 1).trans r1, (hf 1).trans rf, rle, r40⟩, (hc 2).trans c2, (hc 3).trans c3, (hc 4).trans c4, (hf 2).trans f2, (hf 3).trans f3, (hf 4).trans f4, ⟨xs,
    ownsRow_of_block hown fun k hk => h.block k (fun e => hn (by rw [hk, e])), fun k d hd => ?_⟩, hwf⟩
  obtain ⟨ao, c, y0, y1, y2, y3, h1, h2, h3, h4⟩ := hce k d hd
  refine ⟨ao, c, y0, y1, y2, y3, h1, ?_, h3, h4⟩
  rcases h2 with h2 | ⟨kb, e1, e2, e3, e4, e5⟩
  · exact .inl h2
  · by_cases hs : d.subs = []
    · exact .inl hs
    · obtain ⟨y, hy⟩ : ∃ y, d.subs[0]? = some y := by
        cases hd : d.subs with
        | nil => exact absurd hd hs
        | cons a l => exact ⟨a, rfl⟩
      have hne : kb ≠ N := fun e => by
        obtain ⟨z, hz⟩ := hu
        have := e5 0 y hy
        rw [e, hz] at this
        cases this
      exact .inr ⟨kb, e1, e2, e3, e4, fun k y hy => (World.cell?_of_block (w := w) (w' := w') (a := ⟨kb, k, none⟩) (h.block kb hne)).trans (e5 k y hy)⟩
theorem Fr.only {b N : Nat} {nv nv' : Value} {w0 w w' : World} (h : Fr b nv nv' w0 w) (ho : Only N w w') (hN : w0.heap.size ≤ N) : Fr b nv nv' w0 w' :=
  ⟨ho.os.trans h.os, ho.tape.trans h.tape, ho.output.trans h.output, by rw [ho.size]; exact h.size, fun k hk hb hn => (ho.block k (by omega)).trans (h.block k hk hb hn), h.lies⟩
theorem Four.only {N b : Nat} {y0 y1 y2 y3 : Int} {w w' : World} (h : Four w N y0 y1 y2 y3) (ho : Only b w w') (hne : N ≠ b) : Four w' N y0 y1 y2 y3 := by
  have hx := ho.block N hne
  have hc : ∀ k, w'.cell? ⟨N, k, none⟩ = w.cell? ⟨N, k, none⟩ := fun k => World.cell?_of_block (w := w) (w' := w') (a := ⟨N, k, none⟩) hx
  have hf : ∀ k, w'.frozen? ⟨N, k, none⟩ = w.frozen? ⟨N, k, none⟩ := fun k => World.frozen?_of_block (w := w) (w' := w') (a := ⟨N, k, none⟩) hx
  exact ⟨(hc 0).trans h.c0, (hc 1).trans h.c1, (hc 2).trans h.c2, (hc 3).trans h.c3, (hf 0).trans h.f0, (hf 1).trans h.f1, (hf 2).trans h.f2, (hf 3).trans h.f3⟩
theorem Four.below {N : Nat} {y0 y1 y2 y3 : Int} {w w' : World} (h : Four w N y0 y1 y2 y3) (ho : Below w.heap.size w w') : Four w' N y0 y1 y2 y3 := by
  have hx := ho.block N (World.block_lt_of_cell? w _ h.c0)
  have hc : ∀ k, w'.cell? ⟨N, k, none⟩ = w.cell? ⟨N, k, none⟩ := fun k => World.cell?_of_block (w := w) (w' := w') (a := ⟨N, k, none⟩) hx
  have hf : ∀ k, w'.frozen? ⟨N, k, none⟩ = w.frozen? ⟨N, k, none⟩ := fun k => World.frozen?_of_block (w := w) (w' := w') (a := ⟨N, k, none⟩) hx
  exact ⟨(hc 0).trans h.c0, (hc 1).trans h.c1, (hc 2).trans h.c2, (hc 3).trans h.c3, (hf 0).trans h.f0, (hf 1).trans h.f1, (hf 2).trans h.f2, (hf 3).trans h.f3⟩
theorem Four.store {N : Nat} {y0 y1 y2 y3 z0 z1 z2 z3 : Int} {w : World} (h : Four w N y0 y1 y2 y3) :
    Four ((((w.setCell ⟨N, 0, none⟩ (.int .u64 z0)).setCell ⟨N, 1, none⟩ (.int .u64 z1)).setCell ⟨N, 2, none⟩ (.int .u64 z2)).setCell ⟨N, 3, none⟩ (.int .u64 z3)) N z0 z1 z2 z3 ∧
    Only N w ((((w.setCell ⟨N, 0, none⟩ (.int .u64 z0)).setCell ⟨N, 1, none⟩ (.int .u64 z1)).setCell ⟨N, 2, none⟩ (.int .u64 z2)).setCell ⟨N, 3, none⟩ (.int .u64 z3)) := by
  obtain ⟨c0, c1, c2, c3, f0, f1, f2, f3⟩ := h
  exact ⟨by constructor <;> go_simp, ((((Only.refl _ _).setCell _ _).setCell _ _).setCell _ _).setCell _ _⟩
structure SetIn (w0 wr : World) (b N : Nat) (s : ByteArray) (i o g : Nat) (nv : Value) (n : NX) (j : Nat) (j0 : Nat) : Prop where
  rd : Rd wr b s j o g nv n
  fr : Fr b nv nv w0 wr
  four : ∃ (y0 y1 y2 y3 f : Nat) (S : Nat → Bool), Four wr N y0 y1 y2 y3 ∧ S4 y0 y1 y2 y3 S ∧ s.size ≤ f + j ∧ setL s s.size j0 noSet = setL s f j S
  st : ∃ st, run s j = some st ∧ st.o = o ∧ st.a = g ∧ InPre s j 0 st ∧ st.m ≠ 8
  lt : i < j
set_option maxHeartbeats 1000000 in
theorem set_any (b i o g l : Nat) (n : NX) (s : ByteArray) (nv : Value) (w : World) (hr : Rd w b s i o g nv n) (hn : n.l.length ≤ 1000) (hi : i < s.size) (h : run s (i + 1) = some ⟨4, o, g, l⟩) :
    Calls Tryz.prog 221 #[.pointer (some ⟨b, 0, none⟩)] w fun e w' => ∃ (z : Int) (ok : Bool), e = .returned (.tuple #[.int .i64 z, .bool ok]) ∧ Post b s i o n nv w (fun _ st => st.m = 1) (addN ⟨i, g, n.l⟩ (setV s i).1 (leaf 0 (setV s i).2)) z ok w' := by
  have HR : Hid (Rd w b s i o g nv n) := hr
  have HG : Hid (run s (i + 1) = some ⟨4, o, g, l⟩) := h
  obtain ⟨⟨r0, r1, rf, rle, r40⟩, c2, c3, c4, f2, f3, f4, own, hwf⟩ := hr
  have hb : b < w.heap.size := World.block_lt_of_cell? w _ r0
  have HN : Hid (∀ k, nv.ownBlock = some k → k < w.heap.size) := by
    obtain ⟨xs, ho, _⟩ := own
    exact fun k hk => (ho.lt k hk).2
  have HM : Hid (Mv b w (w.setCell ⟨b, 1, none⟩ (.int .i64 ((i : Int) + 1))) (i + 1)) := (Mv.stay r1).set (i + 1) (by omega)
  clear own h hwf
  go_enter Tryz.func221, Tryz.ntmps221
  go_wp2_with fail
  refine (accept_any b s (i + 1) 94 _ (HM.out.rc HR.out.rc (by omega)) (by omega)).mono ?_
  rintro e w1 ⟨q, j, rfl, hm1, hq⟩
  have HJ : Hid (∃ st, run s j = some st ∧ st.o = o ∧ st.a = g ∧ InPre s j 0 st ∧ st.m ≠ 8) := by
    rcases hq with ⟨rfl, h1, rfl⟩ | ⟨rfl, h1, rfl⟩
    · obtain ⟨h2, h3⟩ := pk_is (c := 94) h1
      exact ⟨⟨5, o, g, l⟩, by rw [run_succ HG.out, step_set (by omega) (by omega), inSet4, h3]; rfl, rfl, rfl, .inr ⟨rfl, .inr (.inl rfl)⟩, by simp⟩
    · exact ⟨⟨4, o, g, l⟩, HG.out, rfl, rfl, .inr ⟨rfl, .inl ⟨rfl, h1⟩⟩, by simp⟩
  have hj : i < j ∧ j ≤ s.size := by
    rcases hq with ⟨rfl, h1, rfl⟩ | ⟨rfl, h1, rfl⟩
    · obtain ⟨h2, h3⟩ := pk_is (c := 94) h1
      omega
    · omega
  have HSV : Hid (setV s i = if q = true then ((setL s s.size j noSet).1, fun c => !(setL s s.size j noSet).2 c) else setL s s.size j noSet) := by
    unfold setV
    rcases hq with ⟨rfl, h1, rfl⟩ | ⟨rfl, h1, rfl⟩
    · rw [Hid, if_pos (show pk s (i + 1) = 94 from h1), if_pos rfl]
    · rw [Hid, if_neg (show ¬ pk s (i + 1) = 94 from h1), if_neg (by simp)]
  have HM1 : Hid (Mv b w w1 j) := HM.out.trans hm1
  have HR1 : Hid (Rd w1 b s j o g nv n) := Mv.rd HM1.out HR.out hj.2
  have hz : w1.heap.size = w.heap.size := HM1.out.only.size
  have HZ : Hid (w1.heap.size = w.heap.size) := hz
  clear hq hm1 hz
  go_wp2_with fail
  go_loopw [] (fun wr => ∃ j', SetIn w wr b w1.heap.size s i o g nv n j' j) (fun wr => s.size - atOf wr b)
  case atStart =>
    have hB : Below w1.heap.size w1 (w1.alloc (.cells #[.int .u64 0, .int .u64 0, .int .u64 0, .int .u64 0] 149)) := (Below.refl _ _).alloc (Nat.le_refl _) _
    exact ⟨j, Below.rd hB HR1.out, (Mv.fr HM1.out nv).trans (Below.fr hB nv), ⟨0, 0, 0, 0, s.size, noSet, by constructor <;> go_simp, S4.zero, by omega, rfl⟩, HJ.out, hj.1⟩
  case round =>
    obtain ⟨jr, hS⟩ := hrel
    obtain ⟨rd, fr, ⟨y0, y1, y2, y3, fu, SS, four, hs4, hfu, hsl⟩, ⟨st, hst, hso, hsa, hI, h8⟩, hlt⟩ := hS
    have HS4 : Hid (S4 y0 y1 y2 y3 SS) := hs4
    have HSL : Hid (setL s s.size j noSet = setL s fu jr SS) := hsl
    clear hs4 hsl
    have HRr : Hid (Rd wr b s jr o g nv n) := rd
    have HFr : Hid (Fr b nv nv w wr) := fr
    have H4 : Hid (Four wr w1.heap.size y0 y1 y2 y3) := four
    have hN : b < w1.heap.size := by rw [HZ.out]; exact hb
    have hne : w1.heap.size ≠ b := by omega
    have HNN : Hid (nv.ownBlock ≠ some w1.heap.size) := fun e => by have := HN.out _ e; have := HZ.out; omega
    have hat := atOf_is rd.rc.c1
    have HAT : Hid (atOf wr b = jr) := hat
    clear hat fr
    go_wp2_with fail
    refine (between_any b s jr st _ rd.rc hst hI h8).mono ?_
    rintro e w2 ⟨lo, hi', ok, j2, rfl, hm2, hbd, hB⟩
    have HM2 : Hid (Mv b wr w2 j2) := hm2
    clear rd hst hI h8 four
    rcases hB with ⟨rfl, k1, k2, l', k3⟩ | ⟨rfl, hF⟩
    · obtain ⟨hlo, hhi, hbv⟩ := hbd rfl
      have HBV : Hid (betV s jr = (lo, hi', j2)) := hbv
      clear hbv
      rw [hso, hsa] at k3
      have HK : Hid ((run s j2 = some ⟨6, o, g, l'⟩ ∧ pk s j2 ≠ 45) ∨ run s j2 = some ⟨7, o, g, l'⟩) := k3
      have HR2 : Hid (Rd w2 b s j2 o g nv n) := Mv.rd HM2.out HRr.out k2
      have four2 := Four.only H4.out HM2.out.only hne
      have H42 : Hid (Four w2 w1.heap.size y0 y1 y2 y3) := four2
      obtain ⟨d0, d1, d2, d3, e0, e1, e2, e3⟩ := four2
      clear hbd hm2 k3
      go_wp2_with fail
      refine (with_any y0 y1 y2 y3 SS lo hi' _ HS4.out hlo hhi).mono ?_
      rintro e w3 ⟨⟨z0, z1, z2, z3, rfl, hz4⟩, hB3⟩
      have HZ4 : Hid (S4 z0 z1 z2 z3 (addR SS lo hi')) := hz4
      clear hz4
      have HB3 : Hid (Below w2.heap.size w2 w3) := hB3
      have four3 := Four.below H42.out hB3
      have H43 : Hid (Four w3 w1.heap.size y0 y1 y2 y3) := four3
      clear hB3 d0 d1 d2 d3 e0 e1 e2 e3
      obtain ⟨d0, d1, d2, d3, e0, e1, e2, e3⟩ := four3
      have HSS := Four.store (z0 := z0) (z1 := z1) (z2 := z2) (z3 := z3) H43.out
      have H44 := HSS.1
      have H4O := HSS.2
      clear HSS
      go_wp2_with fail
      generalize ((((w3.setCell ⟨w1.heap.size, 0, none⟩ (.int .u64 z0)).setCell ⟨w1.heap.size, 1, none⟩ (.int .u64 z1)).setCell ⟨w1.heap.size, 2, none⟩ (.int .u64 z2)).setCell ⟨w1.heap.size, 3, none⟩ (.int .u64 z3)) = w4 at H44 H4O
      clear d0 d1 d2 d3 e0 e1 e2 e3
      have HR4 : Hid (Rd w4 b s j2 o g nv n) := Only.rd H4O (Below.rd HB3.out HR2.out) hne HNN.out ⟨_, H43.out.c0⟩
      have HF4 : Hid (Fr b nv nv w w4) := ((HFr.out.trans (Mv.fr HM2.out nv)).trans (Below.fr HB3.out nv)).only H4O (by rw [HZ.out]; exact Nat.le_refl _)
      have HH4 : Hid (Four w4 w1.heap.size z0 z1 z2 z3) := H44
      clear H44 H4O
      refine (accept_any b s j2 93 _ HR4.out.rc (by omega)).mono ?_
      rintro e w5 ⟨q5, j5, rfl, hm5, hq5⟩
      have HM5 : Hid (Mv b w4 w5 j5) := hm5
      clear hm5
      rcases hq5 with ⟨rfl, m1, m2⟩ | ⟨rfl, m1, m2⟩
      · obtain ⟨m3, m4⟩ := pk_is (c := 93) m1
        have HG5 : Hid (run s j5 = some ⟨1, o, g, l'⟩) := by
          rw [m2]
          rcases HK.out with ⟨x, _⟩ | x
          · rw [Hid, run_succ x, step_set (by omega) (by omega), inSet6, m4]; rfl
          · rw [Hid, run_succ x, step_set (by omega) (by omega), inSet7, m4]; rfl
        have hj5 : j5 ≤ s.size := by omega
        have HSE : Hid (setL s s.size j noSet = (j5, addR SS lo hi')) := by
          rw [Hid, HSL.out, show fu = (fu - 1) + 1 by omega, setL, HBV.out, if_pos (show pk s j2 = 93 from m1), m2]
        have HR5 : Hid (Rd w5 b s j5 o g nv n) := Mv.rd HM5.out HR4.out hj5
        have HF5 : Hid (Fr b nv nv w w5) := HF4.out.trans (Mv.fr HM5.out nv)
        have four5 := Four.only HH4.out HM5.out.only hne
        have H45 : Hid (Four w5 w1.heap.size z0 z1 z2 z3) := four5
        obtain ⟨d0, d1, d2, d3, e0, e1, e2, e3⟩ := four5
        rcases bool_or q with hqq | hqq
        · subst hqq
          go_wp2_with fail
          refine (others_any z0 z1 z2 z3 _ _ HZ4.out).mono ?_
          rintro e w6 ⟨⟨x0, x1, x2, x3, rfl, hx4⟩, hB6⟩
          have HX4 : Hid (S4 x0 x1 x2 x3 fun c => !addR SS lo hi' c) := hx4
          clear hx4
          have HB6 : Hid (Below w5.heap.size w5 w6) := hB6
          have four6 := Four.below H45.out hB6
          have H46 : Hid (Four w6 w1.heap.size z0 z1 z2 z3) := four6
          clear hB6 d0 d1 d2 d3 e0 e1 e2 e3
          obtain ⟨d0, d1, d2, d3, e0, e1, e2, e3⟩ := four6
          have HSS := Four.store (z0 := x0) (z1 := x1) (z2 := x2) (z3 := x3) H46.out
          have H44 : Hid _ := HSS.1
          have H4O : Hid _ := HSS.2
          clear HSS
          go_wp2_with fail
          have HR7 := Only.rd H4O.out (Below.rd HB6.out HR5.out) hne HNN.out ⟨_, H46.out.c0⟩
          have HF7 := (HF5.out.trans (Below.fr HB6.out nv)).only H4O.out (by rw [HZ.out]; exact Nat.le_refl _)
          refine (add_any b j5 o g n s nv _ HR7 hn (leaf 0 fun c => !addR SS lo hi' c) 2 0 0 0 0 none 0 x0 x1 x2 x3 rfl rfl rfl rfl rfl HX4.out (.inl rfl) (Nat.le_refl _) (PNd_leaf (by omega))).mono ?_
          rintro e w8 ⟨nv', rfl, p1, p2⟩
          go_wp2_with fail
          go_ret2
          exact ⟨_, true, rfl, .inl ⟨rfl, _, _, _, nv', _, n.l.length, p1, HF7.trans p2, HG5.out, rfl, rfl, by omega, by rw [len_add]; omega, rfl, rfl, rfl, by rw [len_add]; omega, by rw [HSV.out, if_pos (by simp), HSE.out]; rfl⟩⟩
        · subst hqq
          go_wp2_with fail
          refine (add_any b j5 o g n s nv _ HR5.out hn (leaf 0 (addR SS lo hi')) 2 0 0 0 0 none 0 z0 z1 z2 z3 rfl rfl rfl rfl rfl HZ4.out (.inl rfl) (Nat.le_refl _) (PNd_leaf (by omega))).mono ?_
          rintro e w8 ⟨nv', rfl, p1, p2⟩
          go_wp2_with fail
          go_ret2
          exact ⟨_, true, rfl, .inl ⟨rfl, _, _, _, nv', _, n.l.length, p1, HF5.out.trans p2, HG5.out, rfl, rfl, by omega, by rw [len_add]; omega, rfl, rfl, rfl, by rw [len_add]; omega, by rw [HSV.out, if_neg (by simp), HSE.out]; rfl⟩⟩
      · have HJ5 : Hid (∃ st, run s j5 = some st ∧ st.o = o ∧ st.a = g ∧ InPre s j5 0 st ∧ st.m ≠ 8) := by
          rw [m2]
          rcases HK.out with ⟨x, x'⟩ | x
          · exact ⟨_, x, rfl, rfl, .inr ⟨rfl, .inr (.inr (.inl ⟨rfl, m1, x'⟩))⟩, by simp⟩
          · exact ⟨_, x, rfl, rfl, .inr ⟨rfl, .inr (.inr (.inr ⟨rfl, m1⟩))⟩, by simp⟩
        have HR5 : Hid (Rd w5 b s j5 o g nv n) := Mv.rd HM5.out HR4.out (by omega)
        go_wp2_with fail
        go_roundw
        case rel => exact ⟨j5, HR5.out, HF4.out.trans (Mv.fr HM5.out nv), ⟨z0, z1, z2, z3, fu - 1, addR SS lo hi', Four.only HH4.out HM5.out.only hne, HZ4.out, by omega, by rw [HSL.out, show fu = (fu - 1) + 1 by omega, setL, HBV.out, if_neg (show ¬ pk s j2 = 93 from m1), m2]; rfl⟩, HJ5.out, by omega⟩
        case measure =>
          have a1 := atOf_is HR5.out.rc.c1
          have a2 := HAT.out
          rw [a1, a2]
          omega
    · have HF : Hid (Fails s j2) := hF
      have hF2 := Mv.fr HM2.out nv
      have HBW : Hid (Below b w w2) := (HFr.out.trans hF2).below HR.out
      have HC1 : Hid (w2.cell? ⟨b, 1, none⟩ = some (.int .i64 j2)) := hm2.c1
      clear hF hbd hm2 hF2
      go_wp2_with fail
      go_ret2
      exact ⟨0, false, rfl, .inr ⟨rfl, j2, HF.out, HC1.out, HBW.out⟩⟩
end Tr
end Go.Proofs.YtppjlpihaocdiaaGreatDoor

/- A part of the proof. -/
set_option linter.unusedSimpArgs false
set_option linter.unusedVariables false
namespace Go.Proofs.YtppjlpihaocdiaaGreatDoor
namespace Tr
open Go.RowKit
def PartQ (s : ByteArray) (j : Nat) (st : St) : Prop := (st.m = 1 ∧ pk s j ≠ (42 : Nat) ∧ pk s j ≠ (43 : Nat) ∧ pk s j ≠ (63 : Nat) ∧ pk s j ≠ (123 : Nat)) ∨ st.m = 2
def WayQ (s : ByteArray) (j : Nat) (st : St) : Prop := PartQ s j st ∧ starts s j = false
def ChQ (s : ByteArray) (j : Nat) (st : St) : Prop := WayQ s j st ∧ pk s j ≠ (124 : Nat)
def ChoiceAt (N : Nat) : Prop := ∀ (b i o g : Nat) (n : NX) (s : ByteArray) (nv : Value) (st : St) (w : World), Rd w b s i o g nv n → n.l.length ≤ 2 * i → (∀ q, n.X q → q < w.heap.size) → run s i = some st → st.m = 0 → st.o = o → st.a = g → s.size - i < N →
    Calls Tryz.prog 64 #[.pointer (some ⟨b, 0, none⟩)] w fun e w' => ∃ (z : Int) (ok : Bool), e = .returned (.tuple #[.int .i64 z, .bool ok]) ∧ Post b s i o n nv w (ChQ s) (choiceN s N ⟨i, g, n.l⟩) z ok w'
theorem step_low {st : St} {c : Nat} (hm : st.m ≤ 2) (hc : inB noStart c = false) : step st c = begins st c := by
  obtain ⟨m, o, a, l⟩ := st
  have hc' : ¬ (inB noStart c = true) := by rw [hc]; simp
  rw [inB_noStart] at hc'
  have hq : ¬ (inB quants c = true) := by rw [inB_quants]; omega
  unfold step
  simp only at hm ⊢
  by_cases h0 : m = 0
  · rw [if_pos h0]
  · rw [if_neg h0, if_pos (by omega)]
    unfold goesOn
    simp only
    rw [if_neg (fun h => hq h.2), if_neg (by omega), if_neg (by omega), if_neg (by omega)]
theorem step_stuck {s : ByteArray} {j : Nat} {st : St} (h : ChQ s j st) (hj : j < s.size) (hc : pk s j ≠ (41 : Nat) ∨ st.o = 0) : step st (byt s j) = none := by
  obtain ⟨⟨h1, h2⟩, h3⟩ := h
  have hs : inB noStart (byt s j) = true := by simpa [starts, hj] using h2
  have hs' := hs
  rw [inB_noStart] at hs'
  unfold PartQ at h1
  rw [pk_in hj] at h1 h3 hc
  obtain ⟨m, o, a, l⟩ := st
  simp only at h1 hc
  generalize byt s j = c at h1 h3 hc hs hs'
  have hb : begins ⟨m, o, a, l⟩ c = none := by
    unfold begins
    rw [if_neg (by omega), if_neg (by omega), if_neg (by omega), if_pos hs]
  have hq : ¬ (m = 1 ∧ inB quants c = true) := by rw [inB_quants]; omega
  unfold step
  simp only
  rw [if_neg (by omega), if_pos (by omega)]
  unfold goesOn
  simp only
  rw [if_neg hq, if_neg (by omega), if_neg (by omega), if_neg (by omega)]
  exact hb
theorem step_close {s : ByteArray} {st : St} (hm : st.m = 1 ∨ st.m = 2) (ho : 0 < st.o) : step st 41 = some ⟨1, st.o - 1, st.a, st.l⟩ := by
  obtain ⟨m, o, a, l⟩ := st
  simp only at hm ho ⊢
  have hq : ¬ (inB quants 41 = true) := by rw [inB_quants]; omega
  unfold step
  simp only
  rw [if_neg (by omega), if_pos (by omega)]
  unfold goesOn
  simp only
  rw [if_neg (fun h => hq h.2), if_neg (by omega), if_neg (by omega), if_pos (by simp [ho])]
theorem Only.fr {b : Nat} {w w' : World} (h : Only b w w') (nv : Value) : Fr b nv nv w w' :=
  ⟨h.os, h.tape, h.output, by rw [h.size]; exact Nat.le_refl _, fun k _ hb _ => h.block k hb, .inl rfl⟩
theorem mono_begins {st st' : St} {c : Nat} (hs : begins st c = some st') : st.a ≤ st'.a := by
  unfold begins at hs
  (repeat' split at hs) <;> first | (cases hs; simp only; omega) | cases hs
theorem mono_step {st st' : St} {c : Nat} (hs : step st c = some st') : st.a ≤ st'.a := by
  unfold step at hs
  split at hs
  · exact mono_begins hs
  · split at hs
    · unfold goesOn at hs
      (repeat' split at hs) <;> first | (cases hs; exact Nat.le_refl _) | exact mono_begins hs
    · split at hs
      · split at hs
        · cases hs; exact Nat.le_refl _
        · cases hs
      · split at hs
        · unfold braced at hs
          (repeat' split at hs) <;> first | (cases hs; exact Nat.le_refl _) | cases hs
        · unfold inSet at hs
          simp only at hs
          (repeat' split at hs) <;> first | (cases hs; exact Nat.le_refl _) | cases hs
theorem mono_run {s : ByteArray} {i : Nat} {st : St} (h : run s i = some st) : ∀ {j : Nat} {st' : St}, i ≤ j → run s j = some st' → st.a ≤ st'.a
  | 0, st', hij, h' => by
    obtain rfl : i = 0 := by omega
    rw [h] at h'; cases h'; exact Nat.le_refl _
  | j + 1, st', hij, h' => by
    by_cases e : i = j + 1
    · subst e; rw [h] at h'; cases h'; exact Nat.le_refl _
    · simp only [run, Option.bind_eq_some_iff] at h'
      obtain ⟨x, hx, h'⟩ := h'
      exact Nat.le_trans (mono_run h (by omega) hx) (mono_step h')
theorem PNd.mono {a g g' : Nat} {d : Nd} (h : PNd a g d) (hg : g ≤ g') : PNd a g' d := ⟨h.k6, h.sub, h.one, h.two, h.rep, fun e => Nat.lt_of_lt_of_le (h.num e) hg⟩
theorem Cells.set {w : World} {b k : Nat} {nv v : Value} {xs : List Value} {n : NX} (h : Cells w b nv xs n) : Cells (w.setCell ⟨b, k, none⟩ v) b nv xs n := h.of fun q _ hb _ => Below.heap_setCell _ _ _ _ hb
theorem Rd.put2 {w : World} {b i o g : Nat} {n : NX} {s : ByteArray} {nv : Value} (h : Rd w b s i o g nv n) {v : Int} (o' : Nat) (hv : v = o') : Rd (w.setCell ⟨b, 2, none⟩ (.int .i64 v)) b s i o' g nv n := by
  obtain ⟨⟨r0, r1, rf, rle, r40⟩, c2, c3, c4, f2, f3, f4, ⟨xs, hown, hce⟩, hwf⟩ := h
  subst hv
  have hx : (w.setCell ⟨b, 2, none⟩ (.int .i64 (o' : Int))).ownsRow (b + 1) 151 9 nv n.l.length xs := ownsRow_setCell_below hown (by simp) _
  exact ⟨⟨by go_simp, by go_simp, by go_simp, rle, r40⟩, by go_simp, by go_simp, by go_simp, by go_simp, by go_simp, by go_simp, ⟨xs, hx, hce.set⟩, hwf⟩
theorem Rd.put3 {w : World} {b i o g : Nat} {n : NX} {s : ByteArray} {nv : Value} (h : Rd w b s i o g nv n) {v : Int} (g' : Nat) (hv : v = g') (hg : g ≤ g') : Rd (w.setCell ⟨b, 3, none⟩ (.int .i64 v)) b s i o g' nv n := by
  obtain ⟨⟨r0, r1, rf, rle, r40⟩, c2, c3, c4, f2, f3, f4, ⟨xs, hown, hce⟩, hwf⟩ := h
  subst hv
  have hx : (w.setCell ⟨b, 3, none⟩ (.int .i64 (g' : Int))).ownsRow (b + 1) 151 9 nv n.l.length xs := ownsRow_setCell_below hown (by simp) _
  exact ⟨⟨by go_simp, by go_simp, by go_simp, rle, r40⟩, by go_simp, by go_simp, by go_simp, by go_simp, by go_simp, by go_simp, ⟨xs, hx, hce.set⟩, fun a d hd => PNd.mono (hwf a d hd) hg⟩
theorem Rd.put1 {w : World} {b i o g : Nat} {n : NX} {s : ByteArray} {nv : Value} (h : Rd w b s i o g nv n) {v : Int} (i' : Nat) (hv : v = i') (hi : i' ≤ s.size) : Rd (w.setCell ⟨b, 1, none⟩ (.int .i64 v)) b s i' o g nv n :=
  Mv.rd (h.rc.stay.set i' hv) h hi
set_option maxHeartbeats 1000000 in
theorem group_any (N : Nat) (ih : ChoiceAt N) (b i o g : Nat) (n : NX) (s : ByteArray) (nv : Value) (st : St) (w : World) (hr : Rd w b s i o g nv n) (hn : n.l.length ≤ 2 * i) (hX : ∀ q, n.X q → q < w.heap.size) (hi : i < s.size)
    (h : run s i = some st) (ho : st.o = o) (hg : st.a = g) (hs : step st (byt s i) = begins st 40) (hN : s.size - i < N + 1) :
    Calls Tryz.prog 220 #[.pointer (some ⟨b, 0, none⟩)] w fun e w' => ∃ (z : Int) (ok : Bool), e = .returned (.tuple #[.int .i64 z, .bool ok]) ∧ Post b s i o n nv w (fun _ st => st.m = 1) (addN (choiceN s N ⟨i + 1, g + 1, n.l⟩).1 ((choiceN s N ⟨i + 1, g + 1, n.l⟩).1.at' + 1) (grpN (choiceN s N ⟨i + 1, g + 1, n.l⟩).2 g)) z ok w' := by
  have HXX : Hid (∀ q, n.X q → q < w.heap.size) := hX
  have HR : Hid (Rd w b s i o g nv n) := hr
  have HG : Hid (run s i = some st) := h
  have HS : Hid (step st (byt s i) = begins st 40) := hs
  have hsm := small_run h
  have ho5 : o ≤ 5 := by rw [← ho]; exact hsm.2.1
  have hg9 : g ≤ 9 := by rw [← hg]; exact hsm.2.2.1
  obtain ⟨⟨r0, r1, rf, rle, r40⟩, c2, c3, c4, f2, f3, f4, own, hwf⟩ := hr
  have IH : Hid (ChoiceAt N) := ih
  clear own h hs hsm ih hwf hX
  by_cases h5 : o = 5 ∨ g = 9
  · have HF : Hid (Fails s i) := by
      refine Fails.here HG.out (by omega) (fun _ => ?_) (fun e => by omega)
      rw [HS.out, begins, if_pos rfl, if_pos (by omega)]
    by_cases h55 : o = 5
    · subst h55
      clear h5
      go_enter Tryz.func220, Tryz.ntmps220
      go_wp2_with fail
      go_ret2
      exact ⟨0, false, rfl, .fails HR.out HR.out.rc.stay HF.out⟩
    · have h5' : ((o : Int) == 5) = false := by simp; omega
      have h9 : g = 9 := by omega
      subst h9
      clear h5
      go_enter Tryz.func220, Tryz.ntmps220
      go_wp2_with fail
      go_ret2
      exact ⟨0, false, rfl, .fails HR.out HR.out.rc.stay HF.out⟩
  · have h5' : ((o : Int) == 5) = false := by simp; omega
    have h9' : ((g : Int) == 9) = false := by simp; omega
    have HG1 : Hid (run s (i + 1) = some ⟨0, o + 1, g + 1, st.l⟩) := by
      rw [Hid, run_succ HG.out, HS.out, begins, if_pos rfl, if_neg (by omega), ho, hg]
    clear h5
    have HR1 := ((HR.out.put1 (v := (i : Int) + 1) (i + 1) (by omega) (by omega)).put2 (v := (o : Int) + 1) (o + 1) (by omega)).put3 (v := (g : Int) + 1) (g + 1) (by omega) (by omega)
    have HO1 := (((Only.refl b w).setCell 1 (.int .i64 ((i : Int) + 1))).setCell 2 (.int .i64 ((o : Int) + 1))).setCell 3 (.int .i64 ((g : Int) + 1))
    have HR1' : Hid _ := HR1
    have HO1' : Hid _ := HO1
    clear HR1 HO1
    go_enter Tryz.func220, Tryz.ntmps220
    go_wp2_with fail
    refine (IH.out b (i + 1) (o + 1) (g + 1) n s nv _ _ HR1'.out (by omega) (by rw [HO1'.out.size]; exact HXX.out) HG1.out rfl rfl rfl (by omega)).mono ?_
    rintro e w2 ⟨z, ok, rfl, hP⟩
    rcases hP with ⟨rfl, j, g', n', nv', st2, zn, q1, q2, q3, q4, q5, q6, q7, q8, q9, rfl, q11, q12⟩ | ⟨rfl, j, q1, q2, q3⟩
    · have HR2 : Hid (Rd w2 b s j (o + 1) g' nv' n') := q1
      have HF2 : Hid (Fr b nv nv' w w2) := (Only.fr HO1'.out nv).trans q2
      have HG2 : Hid (run s j = some st2) := q3
      have HCN : Hid (choiceN s N ⟨i + 1, g + 1, n.l⟩ = (⟨j, g', n'.l⟩, zn)) := q12
      have HXN : Hid (n'.X = n.X) := q9
      have HGG : Hid (g < g') := by
        have := mono_run HG1.out (by omega) q3
        rw [q5] at this
        exact this
      have HQ2 : Hid (ChQ s j st2) := q8
      have hjs := q1.rc.le
      have hs2 := small_run q3
      clear q1 q2 q3 q8 q9 q12 HR1' HO1'
      go_wp2_with fail
      refine (accept_any b s j 41 _ HR2.out.rc (by omega)).mono ?_
      rintro e w3 ⟨q, j3, rfl, hm3, hq3⟩
      have HM3 : Hid (Mv b w2 w3 j3) := hm3
      clear hm3
      rcases hq3 with ⟨rfl, m1, m2⟩ | ⟨rfl, m1, m2⟩
      · obtain ⟨m3, m4⟩ := pk_is (c := 41) m1
        have hm12 : st2.m = 1 ∨ st2.m = 2 := by
          rcases HQ2.out.1.1 with x | x
          · exact .inl x.1
          · exact .inr x
        have HG3 : Hid (run s j3 = some ⟨1, o, g', st2.l⟩) := by
          rw [m2, Hid, run_succ HG2.out, m4, step_close (s := s) hm12 (by omega), q4, q5]; rfl
        have HR3 : Hid (Rd w3 b s j3 (o + 1) g' nv' n') := Mv.rd HM3.out HR2.out (by omega)
        have rr := HR3.out
        obtain ⟨⟨a0, a1, af, ale, a40⟩, b2, b3, b4, bf2, bf3, bf4, own3, hwf3⟩ := rr
        have HOB : Hid (nv'.ownBlock ≠ some w3.heap.size) := by
          obtain ⟨xs, ho, _⟩ := own3
          exact fun e => by have := (ho.lt _ e).2; omega
        clear own3 hwf3
        have HR4 : Hid (Rd (w3.setCell ⟨b, 2, none⟩ (.int .i64 (o : Int))) b s j3 o g' nv' n') := HR3.out.put2 (v := (o : Int)) o rfl
        have HO4 : Hid (Only b w3 (w3.setCell ⟨b, 2, none⟩ (.int .i64 (o : Int)))) := (Only.refl b w3).setCell 2 _
        go_wp2_with fail
        have hBb := fun ob => (Below.refl (w3.setCell ⟨b, 2, none⟩ (.int .i64 (o : Int))).heap.size (w3.setCell ⟨b, 2, none⟩ (.int .i64 (o : Int)))).alloc (Nat.le_refl _) ob
        have hbs : b < w3.heap.size := World.block_lt_of_cell? w3 _ a0
        have hz3 : (w3.setCell ⟨b, 2, none⟩ (.int .i64 (o : Int))).heap.size = w3.heap.size := size_set _ _ _
        have hXg : ¬ n'.X w3.heap.size := fun h => by
          rw [HXN.out] at h
          have h1 := HXX.out _ h
          have h2 := (HF2.out.trans (Mv.fr HM3.out nv')).size
          omega
        refine (add_any b j3 o g' n' s nv' _ (Below.rd (hBb _) HR4.out) (by omega) (grpN zn g) 3 _ 0 0 1 _ _ 0 0 0 0 rfl rfl (by unfold pnum grpN; simp) rfl rfl S4.zero (.inr ⟨w3.heap.size, rfl, by omega, HOB.out, hXg, fun k y hy => ?_⟩) (Nat.le_refl 1) ⟨by unfold grpN; simp, fun x hx => by unfold grpN at hx; simp at hx; omega, fun _ => ⟨zn, rfl⟩, fun h => by unfold grpN at h; simp at h, fun h => by unfold grpN at h; simp at h, fun _ => HGG.out⟩).mono ?_
        · have hk0 : k = 0 := by
            have := (List.getElem?_eq_some_iff.1 hy).1
            simp [grpN] at this
            exact this
          subst hk0
          have hyz : y = zn := by simpa [grpN] using hy.symm
          subst hyz
          have := cell_new_one (w3.setCell ⟨b, 2, none⟩ (.int .i64 (o : Int))) (.int .i64 (y : Int)) 3
          rw [hz3] at this
          exact this
        rintro e w8 ⟨nv8, rfl, p1, p2⟩
        go_wp2_with fail
        go_ret2
        exact ⟨_, true, rfl, .inl ⟨rfl, _, _, _, nv8, _, n'.l.length, p1, (((HF2.out.trans (Mv.fr HM3.out nv')).trans (Only.fr HO4.out nv')).trans (Below.fr (hBb _) nv')).trans p2, HG3.out, rfl, rfl, by omega, by rw [len_add]; omega, rfl, HXN.out, rfl, by rw [len_add]; omega, by rw [HCN.out, m2]; rfl⟩⟩
      · have HF : Hid (Fails s j3) := by
          rw [m2]
          refine Fails.here HG2.out hjs (fun hlt => step_stuck HQ2.out hlt (.inl m1)) (fun _ => ?_)
          have : st2.o ≠ 0 := by omega
          simp [whole, this]
        have HB : Hid (Below b w w3) := (HF2.out.trans (Mv.fr HM3.out nv')).below HR.out
        go_wp2_with fail
        go_ret2
        exact ⟨_, false, rfl, .inr ⟨rfl, j3, HF.out, HM3.out.c1, HB.out⟩⟩
    · have HF : Hid (Fails s j) := q1
      have HB : Hid (Below b w w2) := ((Only.fr HO1'.out nv).below HR.out).trans q3
      have HC : Hid (w2.cell? ⟨b, 1, none⟩ = some (.int .i64 j)) := q2
      clear q1 q2 q3 HR1' HO1'
      go_wp2_with fail
      go_ret2
      exact ⟨_, false, rfl, .inr ⟨rfl, j, HF.out, HC.out, HB.out⟩⟩
end Tr
end Go.Proofs.YtppjlpihaocdiaaGreatDoor

/- A part of the proof. -/
set_option linter.unusedSimpArgs false
set_option linter.unusedVariables false
namespace Go.Proofs.YtppjlpihaocdiaaGreatDoor
namespace Tr
open Go.RowKit
theorem starts_any (b : Nat) (s : ByteArray) (i : Nat) (w : World) (hr : Rc w b s i) :
    Calls Tryz.prog 149 #[.pointer (some ⟨b, 0, none⟩)] w fun e w' => e = .returned (.bool (starts s i)) ∧ Mv b w w' i := by
  refine (startsPart_any b s i w hr).mono ?_
  rintro e w' ⟨rfl, n, rfl⟩
  exact ⟨rfl, hr.stay.drewN n⟩
theorem begins_plain {st : St} {c : Nat} (hc : inB noStart c = false) (h1 : c ≠ 40) (h2 : c ≠ 91) (h3 : c ≠ 92) : begins st c = some ⟨1, st.o, st.a, st.l⟩ := by
  unfold begins
  rw [if_neg h1, if_neg h2, if_neg h3, if_neg (by rw [hc]; simp)]
theorem step_esc (o a l c : Nat) : step ⟨3, o, a, l⟩ c = if inB escs c = true then some ⟨1, o, a, l⟩ else none := rfl
section
variable {ch : PSt → PSt × Nat} {s : ByteArray} {p : PSt}
theorem oneF_94 (h : byt s p.at' = 94) : oneF ch s p = addN p (p.at' + 1) (leaf 1 noSet) := by unfold oneF; simp only [h]; rfl
theorem oneF_36 (h : byt s p.at' = 36) : oneF ch s p = addN p (p.at' + 1) (leaf 2 noSet) := by unfold oneF; simp only [h]; rfl
theorem oneF_46 (h : byt s p.at' = 46) : oneF ch s p = addN p (p.at' + 1) (leaf 0 fun _ => true) := by unfold oneF; simp only [h]; rfl
theorem oneF_40 (h : byt s p.at' = 40) : oneF ch s p = addN (ch ⟨p.at' + 1, p.g + 1, p.l⟩).1 ((ch ⟨p.at' + 1, p.g + 1, p.l⟩).1.at' + 1) (grpN (ch ⟨p.at' + 1, p.g + 1, p.l⟩).2 p.g) := by unfold oneF; simp only [h]; rfl
theorem oneF_91 (h : byt s p.at' = 91) : oneF ch s p = addN p (setV s p.at').1 (leaf 0 (setV s p.at').2) := by unfold oneF; simp only [h]; rfl
theorem oneF_92 (h : byt s p.at' = 92) : oneF ch s p = addN p (p.at' + 2) (leaf 0 (addR noSet (val (byt s (p.at' + 1))) (val (byt s (p.at' + 1))))) := by unfold oneF; simp only [h]; rfl
theorem oneF_else {c : Nat} (h : byt s p.at' = c) (h1 : c ≠ 94) (h2 : c ≠ 36) (h3 : c ≠ 46) (h4 : c ≠ 40) (h5 : c ≠ 91) (h6 : c ≠ 92) : oneF ch s p = addN p (p.at' + 1) (leaf 0 (addR noSet c c)) := by
  unfold oneF; simp only [h]; rw [if_neg h1, if_neg h2, if_neg h3, if_neg h4, if_neg h5, if_neg h6]
end
structure OneIn (N : Nat) (w : World) (b i o g : Nat) (n : NX) (s : ByteArray) (nv : Value) (st : St) : Prop where
  rd : Rd w b s i o g nv n
  n2 : n.l.length ≤ 2 * i
  X : ∀ q, n.X q → q < w.heap.size
  run : run s i = some st
  o : st.o = o
  a : st.a = g
  m2 : st.m ≤ 2
  st : st.m = 0 ∨ starts s i = true
  N : s.size - i < N + 1
set_option maxHeartbeats 1000000 in
theorem one_any (N : Nat) (ih : ChoiceAt N) (b i o g : Nat) (n : NX) (s : ByteArray) (nv : Value) (st : St) (w : World) (hI : OneIn N w b i o g n s nv st) :
    Calls Tryz.prog 187 #[.pointer (some ⟨b, 0, none⟩)] w fun e w' => ∃ (z : Int) (ok : Bool), e = .returned (.tuple #[.int .i64 z, .bool ok]) ∧ Post b s i o n nv w (fun _ st => st.m = 1) (oneF (choiceN s N) s ⟨i, g, n.l⟩) z ok w' := by
  obtain ⟨hr, hn, hX, hrun, ho, ha, hm, hst, hN⟩ := hI
  have HXX : Hid (∀ q, n.X q → q < w.heap.size) := hX
  clear hX
  generalize hFF : oneF (choiceN s N) s ⟨i, g, n.l⟩ = FF
  have HFF : Hid (oneF (choiceN s N) s ⟨i, g, n.l⟩ = FF) := hFF
  clear hFF
  have HR : Hid (Rd w b s i o g nv n) := hr
  have HG : Hid (run s i = some st) := hrun
  have IH : Hid (ChoiceAt N) := ih
  have hle := hr.rc.le
  have h40 := hr.rc.s40
  clear hr hrun ih
  rcases bool_or (starts s i) with hq | hq
  · have HQ : Hid (starts s i = true) := hq
    have hi : i < s.size := by simp [starts] at hq; exact hq.1
    have HC : Hid (inB noStart (byt s i) = false) := by simp [starts] at hq; exact hq.2
    have HI : Hid (i < s.size) := hi
    have hy : ((s[i]).toNat : Int) = (byt s i : Int) := byt_int s i hi
    have hyl := byt_lt s i
    obtain ⟨c, hc⟩ : ∃ c, byt s i = c := ⟨_, rfl⟩
    have HB : Hid (byt s i = c) := hc
    rw [hc] at hy hyl HC
    have HST : Hid (run s (i + 1) = begins st c) := by
      rw [Hid, run_succ HG.out, HB.out, step_low hm HC.out]
    have k1 : (0 : Int) ≤ (i : Int) := by omega
    have k2 : (i : Int) < (s.size : Int) := by omega
    clear hq hc hst
    go_enter Tryz.func187, Tryz.ntmps187
    go_wp2_with fail
    refine (starts_any b s i _ HR.out.rc).mono ?_
    rw [HQ.out]
    rintro e w1 ⟨rfl, hm1⟩
    have HR1 : Hid (Rd w1 b s i o g nv n) := Mv.rd hm1 HR.out hle
    have HF1 : Hid (Fr b nv nv w w1) := Mv.fr hm1 nv
    have rr := hm1.rc HR.out.rc hle
    obtain ⟨r0, r1, rf, rle, r40⟩ := rr
    clear hm1 rle
    go_wp2_with fail
    go_quiet (fail)
    have HR2 : Hid (Rd (w1.drewN nq) b s i o g nv n) := Rd.drewN HR1.out nq
    have HF2 : Hid (Fr b nv nv w (w1.drewN nq)) := HF1.out.trans (Mv.fr (HR1.out.rc.stay.drewN nq) nv)
    clear r0 r1 rf
    generalize w1.drewN nq = w2 at HR2 HF2
    by_cases h94 : c = 94
    · subst h94
      have HP : Hid (run s (i + 1) = some ⟨1, st.o, st.a, st.l⟩) := by rw [Hid, HST.out, begins_plain HC.out (by decide) (by decide) (by decide)]
      go_wp2_with fail
      refine (sign_any b i o g n s nv _ HR2.out (by omega) HI.out 0 1 noSet 0 0 0 0 (by omega) rfl S4.zero).mono ?_
      rintro e w8 ⟨nv', rfl, p1, p2⟩
      go_wp2_with fail
      go_ret2
      exact ⟨_, true, rfl, .inl ⟨rfl, _, _, _, nv', _, n.l.length, p1, HF2.out.trans p2, HP.out, ho, ha, by omega, by rw [len_add]; omega, rfl, rfl, rfl, by rw [len_add]; omega, by rw [← HFF.out, oneF_94 HB.out]; rfl⟩⟩
    · by_cases h36 : c = 36
      · subst h36
        have HP : Hid (run s (i + 1) = some ⟨1, st.o, st.a, st.l⟩) := by rw [Hid, HST.out, begins_plain HC.out (by decide) (by decide) (by decide)]
        go_wp2_with fail
        refine (sign_any b i o g n s nv _ HR2.out (by omega) HI.out 1 2 noSet 0 0 0 0 (by omega) rfl S4.zero).mono ?_
        rintro e w8 ⟨nv', rfl, p1, p2⟩
        go_wp2_with fail
        go_ret2
        exact ⟨_, true, rfl, .inl ⟨rfl, _, _, _, nv', _, n.l.length, p1, HF2.out.trans p2, HP.out, ho, ha, by omega, by rw [len_add]; omega, rfl, rfl, rfl, by rw [len_add]; omega, by rw [← HFF.out, oneF_36 HB.out]; rfl⟩⟩
      · by_cases h46 : c = 46
        · subst h46
          have HP : Hid (run s (i + 1) = some ⟨1, st.o, st.a, st.l⟩) := by rw [Hid, HST.out, begins_plain HC.out (by decide) (by decide) (by decide)]
          go_wp2_with fail
          refine (others_any 0 0 0 0 _ _ S4.zero).mono ?_
          rintro e w3 ⟨⟨x0, x1, x2, x3, rfl, hx4⟩, hB3⟩
          have HX4 : Hid (S4 x0 x1 x2 x3 fun _ => true) := hx4
          clear hx4
          have HB3 : Hid (Below w2.heap.size w2 w3) := hB3
          clear hB3
          go_wp2_with fail
          refine (sign_any b i o g n s nv _ (Below.rd HB3.out HR2.out) (by omega) HI.out 2 0 (fun _ => true) x0 x1 x2 x3 (by omega) rfl HX4.out).mono ?_
          rintro e w8 ⟨nv', rfl, p1, p2⟩
          go_wp2_with fail
          go_ret2
          exact ⟨_, true, rfl, .inl ⟨rfl, _, _, _, nv', _, n.l.length, p1, (HF2.out.trans (Below.fr HB3.out nv)).trans p2, HP.out, ho, ha, by omega, by rw [len_add]; omega, rfl, rfl, rfl, by rw [len_add]; omega, by rw [← HFF.out, oneF_46 HB.out]; rfl⟩⟩
        · by_cases h40c : c = 40
          · subst h40c
            go_wp2_with fail
            refine (group_any N IH.out b i o g n s nv st _ HR2.out hn (fun q hq => Nat.lt_of_lt_of_le (HXX.out q hq) HF2.out.size) HI.out HG.out ho ha (by rw [HB.out]; exact step_low hm HC.out) hN).mono ?_
            rintro e w3 ⟨z, ok, rfl, hP⟩
            have HP : Hid (Post b s i o n nv w (fun _ st => st.m = 1) FF z ok w3) := by
              have := Post.after HR.out HF2.out (Nat.le_refl _) (Nat.le_refl _) rfl hP
              rw [← HFF.out, oneF_40 HB.out]
              exact this
            clear hP
            go_wp2_with fail
            go_ret2
            exact ⟨z, ok, rfl, HP.out⟩
          · by_cases h91 : c = 91
            · subst h91
              have HP1 : Hid (run s (i + 1) = some ⟨4, o, g, st.l⟩) := by rw [Hid, HST.out, ← ho, ← ha]; rfl
              go_wp2_with fail
              refine (set_any b i o g st.l n s nv _ HR2.out (by omega) HI.out HP1.out).mono ?_
              rintro e w3 ⟨z, ok, rfl, hP⟩
              have HP : Hid (Post b s i o n nv w (fun _ st => st.m = 1) FF z ok w3) := by
                have := Post.after HR.out HF2.out (Nat.le_refl _) (Nat.le_refl _) rfl hP
                rw [← HFF.out, oneF_91 HB.out]
                exact this
              clear hP
              go_wp2_with fail
              go_ret2
              exact ⟨z, ok, rfl, HP.out⟩
            · by_cases h92 : c = 92
              · subst h92
                have HP1 : Hid (run s (i + 1) = some ⟨3, st.o, st.a, st.l⟩) := by rw [Hid, HST.out]; rfl
                go_wp2_with fail
                refine (escape_any b s i 0 _ HR2.out.rc HI.out (by omega)).mono ?_
                rintro e w3 ⟨v, ok, j, rfl, hm3, hE⟩
                have HM3 : Hid (Mv b w2 w3 j) := hm3
                clear hm3
                rcases hE with ⟨g1, rfl, hj, rfl⟩ | ⟨g1, rfl, hj, rfl, g2⟩ | ⟨g1, rfl, hj, g2, g3, g4, hv⟩
                · omega
                · have HF : Hid (Fails s j) := by
                    rw [hj]
                    refine Fails.here HP1.out (by omega) (fun hlt => ?_) (fun _ => not_whole (by simp) (by simp))
                    have hx : ¬ (inB escs (byt s (i + 1)) = true) := fun hx => g2 ⟨hlt, hx, Nat.zero_le _⟩
                    rw [step_esc, if_neg hx]
                  have HBW : Hid (Below b w w3) := (HF2.out.trans (Mv.fr HM3.out nv)).below HR.out
                  clear g2
                  go_wp2_with fail
                  go_ret2
                  exact ⟨_, false, rfl, .inr ⟨rfl, j, HF.out, HM3.out.c1, HBW.out⟩⟩
                · have HP2 : Hid (run s j = some ⟨1, st.o, st.a, st.l⟩) := by
                    rw [hj, Hid, run_succ HP1.out, step_esc, if_pos g3]
                  have hv255 : v ≤ 255 := by rw [hv]; exact val_le (byt_lt s (i + 1))
                  have hjs : j ≤ s.size := by omega
                  have HR3 : Hid (Rd w3 b s j o g nv n) := Mv.rd HM3.out HR2.out hjs
                  have HF3 : Hid (Fr b nv nv w w3) := HF2.out.trans (Mv.fr HM3.out nv)
                  have HVV : Hid (v = val (byt s (i + 1))) := hv
                  have HJJ : Hid (j = i + 2) := hj
                  clear g2 g3 g4 hv
                  go_wp2_with fail
                  refine (with_any 0 0 0 0 noSet v v _ S4.zero hv255 hv255).mono ?_
                  rintro e w4 ⟨⟨x0, x1, x2, x3, rfl, hx4⟩, hB4⟩
                  have HX4 : Hid (S4 x0 x1 x2 x3 (addR noSet v v)) := hx4
                  clear hx4
                  have HB4 : Hid (Below w3.heap.size w3 w4) := hB4
                  clear hB4
                  go_wp2_with fail
                  refine (add_any b j o g n s nv _ (Below.rd HB4.out HR3.out) (by omega) (leaf 0 (addR noSet v v)) 2 0 0 0 0 none 0 x0 x1 x2 x3 rfl rfl rfl rfl rfl HX4.out (.inl rfl) (Nat.le_refl _) (PNd_leaf (by omega))).mono ?_
                  rintro e w8 ⟨nv', rfl, p1, p2⟩
                  go_wp2_with fail
                  go_ret2
                  exact ⟨_, true, rfl, .inl ⟨rfl, _, _, _, nv', _, n.l.length, p1, (HF3.out.trans (Below.fr HB4.out nv)).trans p2, HP2.out, ho, ha, by omega, by rw [len_add]; omega, rfl, rfl, rfl, by rw [len_add]; omega, by rw [← HFF.out, oneF_92 HB.out, HVV.out, HJJ.out]; rfl⟩⟩
              · have q1 : ((c : Int) == 94) = false := by simp; omega
                have q2 : ((c : Int) == 36) = false := by simp; omega
                have q3 : ((c : Int) == 46) = false := by simp; omega
                have q4 : ((c : Int) == 40) = false := by simp; omega
                have q5 : ((c : Int) == 91) = false := by simp; omega
                have q6 : ((c : Int) == 92) = false := by simp; omega
                have HP : Hid (run s (i + 1) = some ⟨1, st.o, st.a, st.l⟩) := by rw [Hid, HST.out, begins_plain HC.out h40c h91 h92]
                go_wp2_with fail
                refine (with_any 0 0 0 0 noSet (s[i]).toNat (s[i]).toNat _ S4.zero (by omega) (by omega)).mono ?_
                rintro e w3 ⟨⟨x0, x1, x2, x3, rfl, hx4⟩, hB3⟩
                have HX4 : Hid (S4 x0 x1 x2 x3 (addR noSet c c)) := by
                  have e : (s[i]).toNat = c := by omega
                  rw [e] at hx4
                  exact hx4
                clear hx4
                have HB3 : Hid (Below w2.heap.size w2 w3) := hB3
                clear hB3 q1 q2 q3 q4 q5 q6
                go_wp2_with fail
                refine (sign_any b i o g n s nv _ (Below.rd HB3.out HR2.out) (by omega) HI.out 2 0 (addR noSet c c) x0 x1 x2 x3 (by omega) rfl HX4.out).mono ?_
                rintro e w8 ⟨nv', rfl, p1, p2⟩
                go_wp2_with fail
                go_ret2
                exact ⟨_, true, rfl, .inl ⟨rfl, _, _, _, nv', _, n.l.length, p1, (HF2.out.trans (Below.fr HB3.out nv)).trans p2, HP.out, ho, ha, by omega, by rw [len_add]; omega, rfl, rfl, rfl, by rw [len_add]; omega, by rw [← HFF.out, oneF_else HB.out h94 h36 h46 h40c h91 h92]; rfl⟩⟩
  · have HQ : Hid (starts s i = false) := hq
    have HF : Hid (Fails s i) := by
      have h0 : st.m = 0 := by
        rcases hst with h | h
        · exact h
        · rw [hq] at h; cases h
      refine Fails.here HG.out hle (fun hlt => ?_) (fun _ => not_whole (by omega) (by omega))
      have hs : inB noStart (byt s i) = true := by simpa [starts, hlt] using hq
      have hs' := hs
      rw [inB_noStart] at hs'
      unfold step
      rw [if_pos h0]
      unfold begins
      rw [if_neg (by omega), if_neg (by omega), if_neg (by omega), if_pos hs]
    clear hq hst
    go_enter Tryz.func187, Tryz.ntmps187
    go_wp2_with fail
    refine (starts_any b s i _ HR.out.rc).mono ?_
    rw [HQ.out]
    rintro e w1 ⟨rfl, hm1⟩
    go_wp2_with fail
    go_ret2
    exact ⟨0, false, rfl, .fails HR.out hm1 HF.out⟩
end Tr
end Go.Proofs.YtppjlpihaocdiaaGreatDoor

/- A part of the proof. -/
set_option linter.unusedSimpArgs false
set_option linter.unusedVariables false
namespace Go.Proofs.YtppjlpihaocdiaaGreatDoor
namespace Tr
open Go.RowKit
theorem step_quant {o a l c : Nat} (hc : c = 42 ∨ c = 43 ∨ c = 63) : step ⟨1, o, a, l⟩ c = some ⟨2, o, a, l⟩ := by
  have hq : inB quants c = true := by rw [inB_quants]; exact hc
  show goesOn ⟨1, o, a, l⟩ c = _
  unfold goesOn
  rw [if_pos ⟨rfl, hq⟩]
theorem step_brace {o a l : Nat} : step ⟨1, o, a, l⟩ 123 = some ⟨11, o, a, 0⟩ := by
  have hq : ¬ (inB quants 123 = true) := by rw [inB_quants]; omega
  show goesOn ⟨1, o, a, l⟩ 123 = _
  unfold goesOn
  rw [if_neg (fun h => hq h.2), if_pos ⟨rfl, rfl⟩]
theorem partF_eq {ch : PSt → PSt × Nat} {s : ByteArray} {p : PSt} {j g z : Nat} {l : List Nd} (h : oneF ch s p = (⟨j, g, l⟩, z)) : partF ch s p =
    if pk s j = 42 then addN ⟨j, g, l⟩ (j + 1) (repN z 0 (-1))
    else if pk s j = 43 then addN ⟨j, g, l⟩ (j + 1) (repN z 1 (-1))
    else if pk s j = 63 then addN ⟨j, g, l⟩ (j + 1) (repN z 0 1)
    else if pk s j = 123 then (if pk s (j + 2) = 44 then addN ⟨j, g, l⟩ (j + 5) (repN z (byt s (j + 1) - 48) ((byt s (j + 3) - 48 : Nat) : Int)) else addN ⟨j, g, l⟩ (j + 3) (repN z (byt s (j + 1) - 48) ((byt s (j + 1) - 48 : Nat) : Int)))
    else (⟨j, g, l⟩, z) := by
  unfold partF
  rw [h]
set_option maxHeartbeats 1000000 in
theorem part_any (N : Nat) (ih : ChoiceAt N) (b i o g : Nat) (n : NX) (s : ByteArray) (nv : Value) (st : St) (w : World) (hI : OneIn N w b i o g n s nv st) :
    Calls Tryz.prog 148 #[.pointer (some ⟨b, 0, none⟩)] w fun e w' => ∃ (z : Int) (ok : Bool), e = .returned (.tuple #[.int .i64 z, .bool ok]) ∧ Post b s i o n nv w (PartQ s) (partF (choiceN s N) s ⟨i, g, n.l⟩) z ok w' := by
  generalize hFF : partF (choiceN s N) s ⟨i, g, n.l⟩ = FF
  have HFF : Hid (partF (choiceN s N) s ⟨i, g, n.l⟩ = FF) := hFF
  clear hFF
  have HI : Hid (OneIn N w b i o g n s nv st) := hI
  have HR : Hid (Rd w b s i o g nv n) := hI.rd
  have hn := hI.n2
  have h40 := hI.rd.rc.s40
  clear hI
  go_enter Tryz.func148, Tryz.ntmps148
  go_wp2_with fail
  refine (one_any N ih b i o g n s nv st _ HI.out).mono ?_
  rintro e w1 ⟨z, ok, rfl, hP⟩
  rcases hP with ⟨rfl, j, g', n', nv', st2, zn, q1, q2, q3, q4, q5, q6, q7, q8, q9, rfl, q11, q12⟩ | ⟨rfl, j, q1, q2, q3⟩
  · have HR1 : Hid (Rd w1 b s j o g' nv' n') := q1
    have HF1 : Hid (Fr b nv nv' w w1) := q2
    have HG1 : Hid (run s j = some ⟨1, o, g', st2.l⟩) := by
      obtain ⟨m, o2, a2, l2⟩ := st2
      simp only at q4 q5 q8
      rw [Hid, q3, q4, q5, q8]
    have hjs := q1.rc.le
    have HPE : Hid _ := partF_eq q12
    have HXN : Hid (n'.X = n.X) := q9
    have HXX : Hid (∀ q, n'.X q → q < w1.heap.size) := fun q hq => by
      rw [q9] at hq
      exact Nat.lt_of_lt_of_le (HI.out.X q hq) q2.size
    clear q1 q2 q3 q8 q4 q5 ih q9 q12
    by_cases h42 : pk s j = (42 : Nat)
    · obtain ⟨m3, m4⟩ := pk_is h42
      have HG2 : Hid (run s (j + 1) = some ⟨2, o, g', st2.l⟩) := by rw [Hid, run_succ HG1.out, m4, step_quant (.inl rfl)]
      have H42 : Hid (pk s j = (42 : Nat)) := h42
      clear h42 m4
      go_wp2_with fail
      refine (acceptY b s j 42 _ HR1.out.rc (by omega) H42.out).mono ?_
      rintro e w2 ⟨rfl, hm2⟩
      go_wp2_with fail
      refine (repeat_any b (j + 1) o g' n' s nv' zn 0 (-1) _ (Mv.rd hm2 HR1.out (by omega)) (by omega) (by rw [hm2.only.size]; exact HXX.out) q11 (by omega) (by omega) (.inl rfl)).mono ?_
      rintro e w3 ⟨nv3, rfl, p1, p2⟩
      go_wp2_with fail
      go_ret2
      exact ⟨_, true, rfl, .inl ⟨rfl, _, _, _, nv3, _, n'.l.length, p1, (HF1.out.trans (Mv.fr hm2 nv')).trans p2, HG2.out, rfl, rfl, by omega, by rw [len_add]; omega, .inr rfl, HXN.out, rfl, by rw [len_add]; omega, by rw [← HFF.out, HPE.out, if_pos (show pk s j = 42 from H42.out)]; rfl⟩⟩
    · have H42 : Hid (pk s j ≠ (42 : Nat)) := h42
      clear h42
      go_wp2_with fail
      refine (acceptN b s j 42 _ HR1.out.rc (by omega) H42.out).mono ?_
      rintro e w2 ⟨rfl, hm2⟩
      have HR2 : Hid (Rd w2 b s j o g' nv' n') := Mv.rd hm2 HR1.out hjs
      have HX2 : Hid (∀ q, n'.X q → q < w2.heap.size) := fun q hq => by rw [hm2.only.size]; exact HXX.out q hq
      have HF2 : Hid (Fr b nv nv' w w2) := HF1.out.trans (Mv.fr hm2 nv')
      clear hm2
      by_cases h43 : pk s j = (43 : Nat)
      · obtain ⟨m3, m4⟩ := pk_is h43
        have HG2 : Hid (run s (j + 1) = some ⟨2, o, g', st2.l⟩) := by rw [Hid, run_succ HG1.out, m4, step_quant (.inr (.inl rfl))]
        have H43 : Hid (pk s j = (43 : Nat)) := h43
        clear h43 m4
        go_wp2_with fail
        refine (acceptY b s j 43 _ HR2.out.rc (by omega) H43.out).mono ?_
        rintro e w3 ⟨rfl, hm3⟩
        go_wp2_with fail
        refine (repeat_any b (j + 1) o g' n' s nv' zn 1 (-1) _ (Mv.rd hm3 HR2.out (by omega)) (by omega) (by rw [hm3.only.size]; exact HX2.out) q11 (by omega) (by omega) (.inl rfl)).mono ?_
        rintro e w4 ⟨nv3, rfl, p1, p2⟩
        go_wp2_with fail
        go_ret2
        exact ⟨_, true, rfl, .inl ⟨rfl, _, _, _, nv3, _, n'.l.length, p1, (HF2.out.trans (Mv.fr hm3 nv')).trans p2, HG2.out, rfl, rfl, by omega, by rw [len_add]; omega, .inr rfl, HXN.out, rfl, by rw [len_add]; omega, by rw [← HFF.out, HPE.out, if_neg (show ¬ pk s j = 42 from H42.out), if_pos (show pk s j = 43 from H43.out)]; rfl⟩⟩
      · have H43 : Hid (pk s j ≠ (43 : Nat)) := h43
        clear h43
        go_wp2_with fail
        refine (acceptN b s j 43 _ HR2.out.rc (by omega) H43.out).mono ?_
        rintro e w3 ⟨rfl, hm3⟩
        have HR3 : Hid (Rd w3 b s j o g' nv' n') := Mv.rd hm3 HR2.out hjs
        have HX3 : Hid (∀ q, n'.X q → q < w3.heap.size) := fun q hq => by rw [hm3.only.size]; exact HX2.out q hq
        have HF3 : Hid (Fr b nv nv' w w3) := HF2.out.trans (Mv.fr hm3 nv')
        clear hm3
        by_cases h63 : pk s j = (63 : Nat)
        · obtain ⟨m3, m4⟩ := pk_is h63
          have HG2 : Hid (run s (j + 1) = some ⟨2, o, g', st2.l⟩) := by rw [Hid, run_succ HG1.out, m4, step_quant (.inr (.inr rfl))]
          have H63 : Hid (pk s j = (63 : Nat)) := h63
          clear h63 m4
          go_wp2_with fail
          refine (acceptY b s j 63 _ HR3.out.rc (by omega) H63.out).mono ?_
          rintro e w4 ⟨rfl, hm4⟩
          go_wp2_with fail
          refine (repeat_any b (j + 1) o g' n' s nv' zn 0 1 _ (Mv.rd hm4 HR3.out (by omega)) (by omega) (by rw [hm4.only.size]; exact HX3.out) q11 (by omega) (by omega) (.inr (by omega))).mono ?_
          rintro e w5 ⟨nv3, rfl, p1, p2⟩
          go_wp2_with fail
          go_ret2
          exact ⟨_, true, rfl, .inl ⟨rfl, _, _, _, nv3, _, n'.l.length, p1, (HF3.out.trans (Mv.fr hm4 nv')).trans p2, HG2.out, rfl, rfl, by omega, by rw [len_add]; omega, .inr rfl, HXN.out, rfl, by rw [len_add]; omega, by rw [← HFF.out, HPE.out, if_neg (show ¬ pk s j = 42 from H42.out), if_neg (show ¬ pk s j = 43 from H43.out), if_pos (show pk s j = 63 from H63.out)]; rfl⟩⟩
        · have H63 : Hid (pk s j ≠ (63 : Nat)) := h63
          clear h63
          go_wp2_with fail
          refine (acceptN b s j 63 _ HR3.out.rc (by omega) H63.out).mono ?_
          rintro e w4 ⟨rfl, hm4⟩
          have HR4 : Hid (Rd w4 b s j o g' nv' n') := Mv.rd hm4 HR3.out hjs
          have HX4 : Hid (∀ q, n'.X q → q < w4.heap.size) := fun q hq => by rw [hm4.only.size]; exact HX3.out q hq
          have HF4 : Hid (Fr b nv nv' w w4) := HF3.out.trans (Mv.fr hm4 nv')
          clear hm4
          by_cases h123 : pk s j = (123 : Nat)
          · obtain ⟨m3, m4⟩ := pk_is h123
            have HG2 : Hid (run s (j + 1) = some ⟨11, o, g', 0⟩) := by rw [Hid, run_succ HG1.out, m4, step_brace]
            have H123 : Hid (pk s j = (123 : Nat)) := h123
            clear h123 m4
            go_wp2_with fail
            refine (acceptY b s j 123 _ HR4.out.rc (by omega) H123.out).mono ?_
            rintro e w5 ⟨rfl, hm5⟩
            have HR5 : Hid (Rd w5 b s (j + 1) o g' nv' n') := Mv.rd hm5 HR4.out (by omega)
            have HX5 : Hid (∀ q, n'.X q → q < w5.heap.size) := fun q hq => by rw [hm5.only.size]; exact HX4.out q hq
            have HF5 : Hid (Fr b nv nv' w w5) := HF4.out.trans (Mv.fr hm5 nv')
            clear hm5
            go_wp2_with fail
            refine (counted_any b (j + 1) o g' n' s nv' zn _ HR5.out (by omega) HX5.out q11 HG2.out).mono ?_
            rintro e w6 ⟨z6, ok6, rfl, hP6⟩
            have HP6 : Hid (Post b s i o n nv w (PartQ s) FF z6 ok6 w6) := by
              have hx := Post.after HR.out HF5.out (i1 := j + 1) (by omega) (by omega) HXN.out hP6
              rcases hx with ⟨rfl, j', g'', n'', nv'', st'', zz, x1, x2, x3, x4, x5, x6, x7, x8, x9, x10, x11, x12⟩ | x
              · exact .inl ⟨rfl, j', g'', n'', nv'', st'', zz, x1, x2, x3, x4, x5, x6, x7, .inr x8, x9, x10, x11, by rw [← x12, ← HFF.out, HPE.out, if_neg (show ¬ pk s j = 42 from H42.out), if_neg (show ¬ pk s j = 43 from H43.out), if_neg (show ¬ pk s j = 63 from H63.out), if_pos (show pk s j = 123 from H123.out)]; rfl⟩
              · exact .inr x
            clear hP6
            go_wp2_with fail
            go_ret2
            exact ⟨_, _, rfl, HP6.out⟩
          · have H123 : Hid (pk s j ≠ (123 : Nat)) := h123
            clear h123
            go_wp2_with fail
            refine (acceptN b s j 123 _ HR4.out.rc (by omega) H123.out).mono ?_
            rintro e w5 ⟨rfl, hm5⟩
            go_wp2_with fail
            go_ret2
            exact ⟨_, true, rfl, .inl ⟨rfl, _, _, _, nv', _, zn, Mv.rd hm5 HR4.out hjs, HF4.out.trans (Mv.fr hm5 nv'), HG1.out, rfl, rfl, by omega, by omega, .inl ⟨rfl, H42.out, H43.out, H63.out, H123.out⟩, HXN.out, rfl, q11, by rw [← HFF.out, HPE.out, if_neg (show ¬ pk s j = 42 from H42.out), if_neg (show ¬ pk s j = 43 from H43.out), if_neg (show ¬ pk s j = 63 from H63.out), if_neg (show ¬ pk s j = 123 from H123.out)]⟩⟩
  · have HF : Hid (Fails s j) := q1
    have HB : Hid (Below b w w1) := q3
    have HC : Hid (w1.cell? ⟨b, 1, none⟩ = some (.int .i64 j)) := q2
    clear q1 q2 q3
    go_wp2_with fail
    go_ret2
    exact ⟨_, false, rfl, .inr ⟨rfl, j, HF.out, HC.out, HB.out⟩⟩
end Tr
end Go.Proofs.YtppjlpihaocdiaaGreatDoor

