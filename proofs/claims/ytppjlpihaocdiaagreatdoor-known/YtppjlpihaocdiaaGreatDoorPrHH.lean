/- A part of the proof. -/
import Derived.Test.YtppjlpihaocdiaaGreatDoorPrCH
import Derived.Test.YtppjlpihaocdiaaGreatDoorPrGH
set_option linter.unusedSimpArgs false
set_option linter.unusedVariables false
namespace Go.Proofs.YtppjlpihaocdiaaGreatDoor
namespace Rs
open Go.RowKit
theorem Mw.ofMk {b j : Nat} {w w' : World} (h : Mk b w w' j) : Mw b w w' := ⟨h.os, h.tape, h.output, h.size, h.block, fun k h1 _ => h.cell k h1, h.frz⟩
theorem Cu.ofMk {w w' : World} {b : Nat} {s : ByteArray} {i j : Nat} {lg : Int} (h : Cu w b s i lg) (hm : Mk b w w' j) (hj : j ≤ s.size) : Cu w' b s j lg :=
  ⟨hm.rc h.rc hj, (hm.cell 5 (by omega)).trans h.c5, (hm.frz 5).trans h.f5⟩
theorem Th.alloc {w : World} {N : Nat} {v0 v1 v2 : Value} (h : Th w N v0 v1 v2) (o : Obj) : Th (w.alloc o) N v0 v1 v2 := h.of (Below.heap_alloc _ _ _ (World.block_lt_of_cell? w _ h.c0))
theorem Cu.drew {w : World} {b : Nat} {s : ByteArray} {i : Nat} {lg : Int} (h : Cu w b s i lg) : Cu w.drew b s i lg := ⟨⟨h.rc.c0, h.rc.c1, h.rc.f1, h.rc.le, h.rc.s40⟩, h.c5, h.f5⟩
theorem Mw.drew {b : Nat} {u w : World} (h : Mw b u w) : Mw b u w.drew := h.trans ⟨rfl, rfl, rfl, Nat.le_refl _, fun _ _ _ => rfl, fun _ _ _ => rfl, fun _ => rfl⟩
theorem patF_le (s : ByteArray) (i : Nat) (lg : Int) (hi : i ≤ s.size) : (patF s i lg).1 ≤ s.size ∧ i ≤ (patF s i lg).1 := by
  have h4 : i ≤ slash s i := slash_ge s _ i hi
  have h5 : slash s i ≤ s.size := slashF_le s _ _
  have h6 := pat_size s i hi
  unfold patF
  simp only
  cases hf : failAt (s.extract i (slash s i)) with
  | some j =>
    simp only
    obtain ⟨h1, h2⟩ := failF_run (s.extract i (slash s i)).size 0 ⟨0, 0, 0, 0⟩ (t := s.extract i (slash s i)) rfl (by omega)
    obtain ⟨_, _, h3, _⟩ := h1 j hf
    omega
  | none =>
    simp only
    split
    · rename_i h
      obtain ⟨hlt, _⟩ := pk_byte (s := s) (i := i + (s.extract i (slash s i)).size) (by rw [h]; decide)
      simp only; omega
    · simp only; omega
set_option maxHeartbeats 16000000 in
theorem pattern_any (b : Nat) (s : ByteArray) (i : Nat) (lg : Int) (w : World) (hc : Cu w b s i lg) :
    Calls Tryz.prog 226 #[.pointer (some ⟨b, 0, none⟩)] w fun e w' => ∃ (ao : Option Addr) (l c : Nat) (r g : Int), e = .returned (.tuple #[.agg #[.slice ao l c, .int .i64 r, .int .i64 g], .bool (patF s i lg).2.2.2]) ∧ Mw b w w' ∧ Cu w' b s (patF s i lg).1 (patF s i lg).2.2.1 ∧
      ((patF s i lg).2.2.2 = true → PatAt w' w.heap.size w'.heap.size (patF s i lg).2.1 (.slice ao l c) (.int .i64 r) (.int .i64 g)) := by
  have HC : Hid (Cu w b s i lg) := hc
  have hb := hc.lt
  have hple := patF_le s i lg hc.rc.le
  obtain ⟨⟨r0, r1, rf, hle, h400⟩, c5, f5⟩ := hc
  have k1 : (0 : Int) ≤ (i : Int) := by omega
  have k2 : (i : Int) ≤ (s.size : Int) := by omega
  generalize hF : patF s i lg = F at hple
  have HF : Hid (patF s i lg = F) := hF
  clear hF
  have HT : Hid ((s.extract i s.size).extract 0 (slash (s.extract i s.size) 0) = s.extract i (slash s i)) := pat_text s i hle
  have HS : Hid ((s.extract i (slash s i)).size = slash s i - i) := pat_size s i hle
  have h5 : slash s i ≤ s.size := slashF_le s _ _
  have h4 : i ≤ slash s i := slash_ge s _ i hle
  go_enter Tryz.func226, Tryz.ntmps226
  go_wp2_with fail
  refine (upTo_any (s.extract i s.size) _ (by simp [ByteArray.size_extract]; omega)).mono ?_
  rw [HT.out]
  rintro e w1 ⟨rfl, n1, rfl⟩
  obtain ⟨t, htt⟩ : ∃ t, s.extract i (slash s i) = t := ⟨_, rfl⟩
  have HTS : Hid (t.size = slash s i - i) := by rw [Hid, ← htt]; exact HS.out
  have hj3 : i + t.size ≤ s.size := by rw [HTS.out]; omega
  rw [htt]
  go_wp2_with fail
  refine (parse_wide t _ (by omega)).mono ?_
  rintro e w2 ⟨ao, l, c, r, g, p, ok, rfl, hP, hB⟩
  have hB00 : Below w.heap.size w ((w.alloc (.cells #[.slice none 0 0, .int .i64 0, .int .i64 0] 88)).drewN n1) := ⟨rfl, rfl, rfl, by simp, fun k hk => Below.heap_alloc _ _ _ hk⟩
  have hB0 : Below w.heap.size w w2 := hB00.trans (hB.mono (by simp))
  have HMW : Hid (Mw b w w2) := Mw.below hB0 hb
  have HC2 : Hid (Cu w2 b s i lg) := HC.out.below hB0
  have hsz2 : w.heap.size + 1 ≤ w2.heap.size := by have := hB.size; simp at this; omega
  have HTh : Hid (Th w2 w.heap.size (.slice none 0 0) (.int .i64 0) (.int .i64 0)) := by
    refine Th.of (w := w.alloc _) ?_ ((hB.block w.heap.size (by simp)).trans rfl)
    constructor <;> go_simp
  have HSZ0 : Hid (((w.alloc (.cells #[.slice none 0 0, .int .i64 0, .int .i64 0] 88)).drewN n1).heap.size = w.heap.size + 1) := by simp [Hid]
  clear hB hB0 hB00 r0 r1 rf c5 f5
  obtain ⟨⟨r0, r1, rf, _, _⟩, c5, f5⟩ := HC2.out
  obtain ⟨t0, t1, t2, u0, u1, u2⟩ := HTh.out
  have hb2 : b < w2.heap.size := by omega
  have hT2 : w.heap.size < w2.heap.size := by omega
  have hbT : b ≠ w.heap.size := by omega
  rcases hP with ⟨rfl, hfa, hpat⟩ | ⟨rfl, j, rfl, hj, hfa⟩
  · have HPAT : Hid (PatAt w2 w.heap.size w2.heap.size t (.slice ao l c) (.int .i64 r) (.int .i64 g)) := hpat.wide (by simp) (Nat.le_refl _) (Nat.le_refl _)
    have HPE : Hid (patF s i lg = if pk s (i + t.size) = 47 then (i + t.size + 1, t, (if 40 < t.size ∧ lg = -1 then (i : Int) else lg), true) else (i + t.size, t, (if 40 < t.size ∧ lg = -1 then (i : Int) else lg), false)) := by
      rw [Hid, patF]
      simp only [htt, hfa]
    by_cases hlong : 40 < t.size ∧ lg = -1
    · have HLG : Hid ((if 40 < t.size ∧ lg = -1 then (i : Int) else lg) = (i : Int)) := if_pos hlong
      obtain ⟨hlg1, rfl⟩ := hlong
      clear hpat
      by_cases h47 : pk s (i + t.size) = ((47 : Nat) : Int)
      · have HI : Hid (pk s (i + t.size) = ((47 : Nat) : Int)) := h47
        obtain ⟨hlt47, _⟩ := pk_byte (s := s) (i := i + t.size) (by rw [h47]; decide)
        have HF2 : Hid (F = ((i + t.size + 1), t, (i : Int), true)) := by
          rw [Hid, ← HF.out, HPE.out, HLG.out, if_pos (by rw [h47]; rfl)]
        clear h47 HPE HLG
        have HCU : Hid (Cu (((w2.setCell ⟨b, 5, none⟩ (.int .i64 (i : Int))).setCell ⟨b, 1, none⟩ (.int .i64 ((i : Int) + (t.size : Int)))).alloc (.cells #[.slice ao l c, .int .i64 r, .int .i64 g] 88)) b s (i + t.size) (i : Int)) := ((HC2.out.put5 (i : Int)).put (i + t.size) (by omega) hj3).alloc _
        have HMU : Hid (Mw b w (((w2.setCell ⟨b, 5, none⟩ (.int .i64 (i : Int))).setCell ⟨b, 1, none⟩ (.int .i64 ((i : Int) + (t.size : Int)))).alloc (.cells #[.slice ao l c, .int .i64 r, .int .i64 g] 88))) := ((HMW.out.set5 _).set1 _).alloc hb _
        have HPU : Hid (PatAt (((w2.setCell ⟨b, 5, none⟩ (.int .i64 (i : Int))).setCell ⟨b, 1, none⟩ (.int .i64 ((i : Int) + (t.size : Int)))).alloc (.cells #[.slice ao l c, .int .i64 r, .int .i64 g] 88)) w.heap.size w2.heap.size t (.slice ao l c) (.int .i64 r) (.int .i64 g)) := HPAT.out.kept ((((Keep.refl (Nat.le_refl _)).set (by omega)).set (by omega)).alloc)
        have HT6 : Hid (Th (((w2.setCell ⟨b, 5, none⟩ (.int .i64 (i : Int))).setCell ⟨b, 1, none⟩ (.int .i64 ((i : Int) + (t.size : Int)))).alloc (.cells #[.slice ao l c, .int .i64 r, .int .i64 g] 88)) w2.heap.size (.slice ao l c) (.int .i64 r) (.int .i64 g)) := by constructor <;> go_simp
        have HT0 : Hid (Th (((w2.setCell ⟨b, 5, none⟩ (.int .i64 (i : Int))).setCell ⟨b, 1, none⟩ (.int .i64 ((i : Int) + (t.size : Int)))).alloc (.cells #[.slice ao l c, .int .i64 r, .int .i64 g] 88)) w.heap.size (.slice none 0 0) (.int .i64 0) (.int .i64 0)) := by constructor <;> go_simp
        have HSU : Hid (w2.heap.size ≤ (((w2.setCell ⟨b, 5, none⟩ (.int .i64 (i : Int))).setCell ⟨b, 1, none⟩ (.int .i64 ((i : Int) + (t.size : Int)))).alloc (.cells #[.slice ao l c, .int .i64 r, .int .i64 g] 88)).heap.size) := by simp [Hid, World.setCell]
        go_wp2_with fail
        generalize ((w2.setCell ⟨b, 5, none⟩ (.int .i64 (i : Int))).setCell ⟨b, 1, none⟩ (.int .i64 ((i : Int) + (t.size : Int)))).alloc (.cells #[.slice ao l c, .int .i64 r, .int .i64 g] 88) = u at HCU HMU HPU HT6 HT0 HSU ⊢
        clear r0 r1 rf c5 f5 t0 t1 t2 u0 u1 u2
        obtain ⟨x0, x1, x2, _, _, _⟩ := HT6.out
        obtain ⟨t0, t1, t2, u0, u1, u2⟩ := HT0.out
        have hb6 : b ≠ w2.heap.size := by omega
        have h06 : w.heap.size ≠ w2.heap.size := by omega
        go_region_with (go_at_call 100; refine (accept_yes b s (i + t.size) 47 _ (by first | exact HCU.out.rc | exact HCU.out.drew.rc | exact (HCU.out.drewN _).rc | (refine Cu.rc (lg := (i : Int)) ?_; repeat first | exact HCU.out | refine Cu.drewN ?_ _ | refine Cu.drew ?_ | refine Cu.setNew ?_ (by omega) _)) (by omega) HI.out).mono ?_; rintro e w3 ⟨rfl, n3, rfl⟩)
        all_goals go_wp2_with fail
        all_goals rw [HF2.out]
        all_goals refine bodyPost_ret (v := .tuple #[.agg #[.slice ao l c, .int .i64 r, .int .i64 g], .bool true]) (by simp [results, Tryz.results226, go_sem, *]) rfl ⟨ao, l, c, r, g, rfl, ?_, ?_, fun _ => HPU.out.keep ?_ (Nat.le_refl _)⟩
        all_goals first
          | ((repeat first | refine Mw.set1 ?_ _ | refine Mw.setNew ?_ (by omega) hb _ | refine Mw.drewN ?_ _ | refine Mw.drew ?_ | exact HMU.out); done)
          | (show Cu _ b s (i + t.size + 1) (i : Int); (repeat first | refine Cu.setNew ?_ (by omega) _ | refine Cu.drewN ?_ _ | refine Cu.drew ?_ | refine Cu.put (i := i + t.size) ?_ (i + t.size + 1) (by omega) (by omega) | exact HCU.out); done)
          | ((repeat first | refine Keep.set ?_ (by omega) | refine Keep.drewN ?_ _ | refine Keep.drew ?_ | exact Keep.refl HSU.out); done)
      · have HI : Hid (pk s (i + t.size) ≠ ((47 : Nat) : Int)) := h47
        have HF2 : Hid (F = ((i + t.size), t, (i : Int), false)) := by
          rw [Hid, ← HF.out, HPE.out, HLG.out, if_neg (fun e => h47 (by rw [e]; rfl))]
        clear h47 HPE HLG
        have HCU : Hid (Cu (((w2.setCell ⟨b, 5, none⟩ (.int .i64 (i : Int))).setCell ⟨b, 1, none⟩ (.int .i64 ((i : Int) + (t.size : Int)))).alloc (.cells #[.slice ao l c, .int .i64 r, .int .i64 g] 88)) b s (i + t.size) (i : Int)) := ((HC2.out.put5 (i : Int)).put (i + t.size) (by omega) hj3).alloc _
        have HMU : Hid (Mw b w (((w2.setCell ⟨b, 5, none⟩ (.int .i64 (i : Int))).setCell ⟨b, 1, none⟩ (.int .i64 ((i : Int) + (t.size : Int)))).alloc (.cells #[.slice ao l c, .int .i64 r, .int .i64 g] 88))) := ((HMW.out.set5 _).set1 _).alloc hb _
        have HPU : Hid (PatAt (((w2.setCell ⟨b, 5, none⟩ (.int .i64 (i : Int))).setCell ⟨b, 1, none⟩ (.int .i64 ((i : Int) + (t.size : Int)))).alloc (.cells #[.slice ao l c, .int .i64 r, .int .i64 g] 88)) w.heap.size w2.heap.size t (.slice ao l c) (.int .i64 r) (.int .i64 g)) := HPAT.out.kept ((((Keep.refl (Nat.le_refl _)).set (by omega)).set (by omega)).alloc)
        have HT6 : Hid (Th (((w2.setCell ⟨b, 5, none⟩ (.int .i64 (i : Int))).setCell ⟨b, 1, none⟩ (.int .i64 ((i : Int) + (t.size : Int)))).alloc (.cells #[.slice ao l c, .int .i64 r, .int .i64 g] 88)) w2.heap.size (.slice ao l c) (.int .i64 r) (.int .i64 g)) := by constructor <;> go_simp
        have HT0 : Hid (Th (((w2.setCell ⟨b, 5, none⟩ (.int .i64 (i : Int))).setCell ⟨b, 1, none⟩ (.int .i64 ((i : Int) + (t.size : Int)))).alloc (.cells #[.slice ao l c, .int .i64 r, .int .i64 g] 88)) w.heap.size (.slice none 0 0) (.int .i64 0) (.int .i64 0)) := by constructor <;> go_simp
        have HSU : Hid (w2.heap.size ≤ (((w2.setCell ⟨b, 5, none⟩ (.int .i64 (i : Int))).setCell ⟨b, 1, none⟩ (.int .i64 ((i : Int) + (t.size : Int)))).alloc (.cells #[.slice ao l c, .int .i64 r, .int .i64 g] 88)).heap.size) := by simp [Hid, World.setCell]
        go_wp2_with fail
        generalize ((w2.setCell ⟨b, 5, none⟩ (.int .i64 (i : Int))).setCell ⟨b, 1, none⟩ (.int .i64 ((i : Int) + (t.size : Int)))).alloc (.cells #[.slice ao l c, .int .i64 r, .int .i64 g] 88) = u at HCU HMU HPU HT6 HT0 HSU ⊢
        clear r0 r1 rf c5 f5 t0 t1 t2 u0 u1 u2
        obtain ⟨x0, x1, x2, _, _, _⟩ := HT6.out
        obtain ⟨t0, t1, t2, u0, u1, u2⟩ := HT0.out
        have hb6 : b ≠ w2.heap.size := by omega
        have h06 : w.heap.size ≠ w2.heap.size := by omega
        go_region_with (go_at_call 100; refine (accept_no b s (i + t.size) 47 _ (by first | exact HCU.out.rc | exact HCU.out.drew.rc | exact (HCU.out.drewN _).rc | (refine Cu.rc (lg := (i : Int)) ?_; repeat first | exact HCU.out | refine Cu.drewN ?_ _ | refine Cu.drew ?_ | refine Cu.setNew ?_ (by omega) _)) (by omega) HI.out).mono ?_; rintro e w3 ⟨rfl, n3, rfl⟩)
        all_goals go_wp2_with fail
        all_goals rw [HF2.out]
        all_goals refine bodyPost_ret (v := .tuple #[.agg #[.slice ao l c, .int .i64 r, .int .i64 g], .bool false]) (by simp [results, Tryz.results226, go_sem, *]) rfl ⟨ao, l, c, r, g, rfl, ?_, ?_, fun h => (by cases h)⟩
        all_goals first
          | ((repeat first | refine Mw.set1 ?_ _ | refine Mw.setNew ?_ (by omega) hb _ | refine Mw.drewN ?_ _ | refine Mw.drew ?_ | exact HMU.out); done)
          | (show Cu _ b s (i + t.size) (i : Int); (repeat first | refine Cu.setNew ?_ (by omega) _ | refine Cu.drewN ?_ _ | refine Cu.drew ?_ | exact HCU.out); done)
    · have HLG : Hid ((if 40 < t.size ∧ lg = -1 then (i : Int) else lg) = lg) := if_neg hlong
      have hq : t.size ≤ 40 ∨ (40 < t.size ∧ (lg == -1) = false) := by
        by_cases h : t.size ≤ 40
        · exact .inl h
        · exact .inr ⟨by omega, beq_false_of_ne (fun e => hlong ⟨by omega, e⟩)⟩
      clear hlong hpat
      rcases hq with hq | ⟨hq1, hq2⟩
      · by_cases h47 : pk s (i + t.size) = ((47 : Nat) : Int)
        · have HI : Hid (pk s (i + t.size) = ((47 : Nat) : Int)) := h47
          obtain ⟨hlt47, _⟩ := pk_byte (s := s) (i := i + t.size) (by rw [h47]; decide)
          have HF2 : Hid (F = ((i + t.size + 1), t, lg, true)) := by
            rw [Hid, ← HF.out, HPE.out, HLG.out, if_pos (by rw [h47]; rfl)]
          clear h47 HPE HLG
          have HCU : Hid (Cu ((w2.setCell ⟨b, 1, none⟩ (.int .i64 ((i : Int) + (t.size : Int)))).alloc (.cells #[.slice ao l c, .int .i64 r, .int .i64 g] 88)) b s (i + t.size) lg) := (HC2.out.put (i + t.size) (by omega) hj3).alloc _
          have HMU : Hid (Mw b w ((w2.setCell ⟨b, 1, none⟩ (.int .i64 ((i : Int) + (t.size : Int)))).alloc (.cells #[.slice ao l c, .int .i64 r, .int .i64 g] 88))) := (HMW.out.set1 _).alloc hb _
          have HPU : Hid (PatAt ((w2.setCell ⟨b, 1, none⟩ (.int .i64 ((i : Int) + (t.size : Int)))).alloc (.cells #[.slice ao l c, .int .i64 r, .int .i64 g] 88)) w.heap.size w2.heap.size t (.slice ao l c) (.int .i64 r) (.int .i64 g)) := HPAT.out.kept (((Keep.refl (Nat.le_refl _)).set (by omega)).alloc)
          have HT6 : Hid (Th ((w2.setCell ⟨b, 1, none⟩ (.int .i64 ((i : Int) + (t.size : Int)))).alloc (.cells #[.slice ao l c, .int .i64 r, .int .i64 g] 88)) w2.heap.size (.slice ao l c) (.int .i64 r) (.int .i64 g)) := by constructor <;> go_simp
          have HT0 : Hid (Th ((w2.setCell ⟨b, 1, none⟩ (.int .i64 ((i : Int) + (t.size : Int)))).alloc (.cells #[.slice ao l c, .int .i64 r, .int .i64 g] 88)) w.heap.size (.slice none 0 0) (.int .i64 0) (.int .i64 0)) := by constructor <;> go_simp
          have HSU : Hid (w2.heap.size ≤ ((w2.setCell ⟨b, 1, none⟩ (.int .i64 ((i : Int) + (t.size : Int)))).alloc (.cells #[.slice ao l c, .int .i64 r, .int .i64 g] 88)).heap.size) := by simp [Hid, World.setCell]
          go_wp2_with fail
          generalize (w2.setCell ⟨b, 1, none⟩ (.int .i64 ((i : Int) + (t.size : Int)))).alloc (.cells #[.slice ao l c, .int .i64 r, .int .i64 g] 88) = u at HCU HMU HPU HT6 HT0 HSU ⊢
          clear r0 r1 rf c5 f5 t0 t1 t2 u0 u1 u2
          obtain ⟨x0, x1, x2, _, _, _⟩ := HT6.out
          obtain ⟨t0, t1, t2, u0, u1, u2⟩ := HT0.out
          have hb6 : b ≠ w2.heap.size := by omega
          have h06 : w.heap.size ≠ w2.heap.size := by omega
          go_region_with (go_at_call 100; refine (accept_yes b s (i + t.size) 47 _ (by first | exact HCU.out.rc | exact HCU.out.drew.rc | exact (HCU.out.drewN _).rc | (refine Cu.rc (lg := lg) ?_; repeat first | exact HCU.out | refine Cu.drewN ?_ _ | refine Cu.drew ?_ | refine Cu.setNew ?_ (by omega) _)) (by omega) HI.out).mono ?_; rintro e w3 ⟨rfl, n3, rfl⟩)
          all_goals go_wp2_with fail
          all_goals rw [HF2.out]
          all_goals refine bodyPost_ret (v := .tuple #[.agg #[.slice ao l c, .int .i64 r, .int .i64 g], .bool true]) (by simp [results, Tryz.results226, go_sem, *]) rfl ⟨ao, l, c, r, g, rfl, ?_, ?_, fun _ => HPU.out.keep ?_ (Nat.le_refl _)⟩
          all_goals first
            | ((repeat first | refine Mw.set1 ?_ _ | refine Mw.setNew ?_ (by omega) hb _ | refine Mw.drewN ?_ _ | refine Mw.drew ?_ | exact HMU.out); done)
            | (show Cu _ b s (i + t.size + 1) lg; (repeat first | refine Cu.setNew ?_ (by omega) _ | refine Cu.drewN ?_ _ | refine Cu.drew ?_ | refine Cu.put (i := i + t.size) ?_ (i + t.size + 1) (by omega) (by omega) | exact HCU.out); done)
            | ((repeat first | refine Keep.set ?_ (by omega) | refine Keep.drewN ?_ _ | refine Keep.drew ?_ | exact Keep.refl HSU.out); done)
        · have HI : Hid (pk s (i + t.size) ≠ ((47 : Nat) : Int)) := h47
          have HF2 : Hid (F = ((i + t.size), t, lg, false)) := by
            rw [Hid, ← HF.out, HPE.out, HLG.out, if_neg (fun e => h47 (by rw [e]; rfl))]
          clear h47 HPE HLG
          have HCU : Hid (Cu ((w2.setCell ⟨b, 1, none⟩ (.int .i64 ((i : Int) + (t.size : Int)))).alloc (.cells #[.slice ao l c, .int .i64 r, .int .i64 g] 88)) b s (i + t.size) lg) := (HC2.out.put (i + t.size) (by omega) hj3).alloc _
          have HMU : Hid (Mw b w ((w2.setCell ⟨b, 1, none⟩ (.int .i64 ((i : Int) + (t.size : Int)))).alloc (.cells #[.slice ao l c, .int .i64 r, .int .i64 g] 88))) := (HMW.out.set1 _).alloc hb _
          have HPU : Hid (PatAt ((w2.setCell ⟨b, 1, none⟩ (.int .i64 ((i : Int) + (t.size : Int)))).alloc (.cells #[.slice ao l c, .int .i64 r, .int .i64 g] 88)) w.heap.size w2.heap.size t (.slice ao l c) (.int .i64 r) (.int .i64 g)) := HPAT.out.kept (((Keep.refl (Nat.le_refl _)).set (by omega)).alloc)
          have HT6 : Hid (Th ((w2.setCell ⟨b, 1, none⟩ (.int .i64 ((i : Int) + (t.size : Int)))).alloc (.cells #[.slice ao l c, .int .i64 r, .int .i64 g] 88)) w2.heap.size (.slice ao l c) (.int .i64 r) (.int .i64 g)) := by constructor <;> go_simp
          have HT0 : Hid (Th ((w2.setCell ⟨b, 1, none⟩ (.int .i64 ((i : Int) + (t.size : Int)))).alloc (.cells #[.slice ao l c, .int .i64 r, .int .i64 g] 88)) w.heap.size (.slice none 0 0) (.int .i64 0) (.int .i64 0)) := by constructor <;> go_simp
          have HSU : Hid (w2.heap.size ≤ ((w2.setCell ⟨b, 1, none⟩ (.int .i64 ((i : Int) + (t.size : Int)))).alloc (.cells #[.slice ao l c, .int .i64 r, .int .i64 g] 88)).heap.size) := by simp [Hid, World.setCell]
          go_wp2_with fail
          generalize (w2.setCell ⟨b, 1, none⟩ (.int .i64 ((i : Int) + (t.size : Int)))).alloc (.cells #[.slice ao l c, .int .i64 r, .int .i64 g] 88) = u at HCU HMU HPU HT6 HT0 HSU ⊢
          clear r0 r1 rf c5 f5 t0 t1 t2 u0 u1 u2
          obtain ⟨x0, x1, x2, _, _, _⟩ := HT6.out
          obtain ⟨t0, t1, t2, u0, u1, u2⟩ := HT0.out
          have hb6 : b ≠ w2.heap.size := by omega
          have h06 : w.heap.size ≠ w2.heap.size := by omega
          go_region_with (go_at_call 100; refine (accept_no b s (i + t.size) 47 _ (by first | exact HCU.out.rc | exact HCU.out.drew.rc | exact (HCU.out.drewN _).rc | (refine Cu.rc (lg := lg) ?_; repeat first | exact HCU.out | refine Cu.drewN ?_ _ | refine Cu.drew ?_ | refine Cu.setNew ?_ (by omega) _)) (by omega) HI.out).mono ?_; rintro e w3 ⟨rfl, n3, rfl⟩)
          all_goals go_wp2_with fail
          all_goals rw [HF2.out]
          all_goals refine bodyPost_ret (v := .tuple #[.agg #[.slice ao l c, .int .i64 r, .int .i64 g], .bool false]) (by simp [results, Tryz.results226, go_sem, *]) rfl ⟨ao, l, c, r, g, rfl, ?_, ?_, fun h => (by cases h)⟩
          all_goals first
            | ((repeat first | refine Mw.set1 ?_ _ | refine Mw.setNew ?_ (by omega) hb _ | refine Mw.drewN ?_ _ | refine Mw.drew ?_ | exact HMU.out); done)
            | (show Cu _ b s (i + t.size) lg; (repeat first | refine Cu.setNew ?_ (by omega) _ | refine Cu.drewN ?_ _ | refine Cu.drew ?_ | exact HCU.out); done)
      · by_cases h47 : pk s (i + t.size) = ((47 : Nat) : Int)
        · have HI : Hid (pk s (i + t.size) = ((47 : Nat) : Int)) := h47
          obtain ⟨hlt47, _⟩ := pk_byte (s := s) (i := i + t.size) (by rw [h47]; decide)
          have HF2 : Hid (F = ((i + t.size + 1), t, lg, true)) := by
            rw [Hid, ← HF.out, HPE.out, HLG.out, if_pos (by rw [h47]; rfl)]
          clear h47 HPE HLG
          have HCU : Hid (Cu ((w2.setCell ⟨b, 1, none⟩ (.int .i64 ((i : Int) + (t.size : Int)))).alloc (.cells #[.slice ao l c, .int .i64 r, .int .i64 g] 88)) b s (i + t.size) lg) := (HC2.out.put (i + t.size) (by omega) hj3).alloc _
          have HMU : Hid (Mw b w ((w2.setCell ⟨b, 1, none⟩ (.int .i64 ((i : Int) + (t.size : Int)))).alloc (.cells #[.slice ao l c, .int .i64 r, .int .i64 g] 88))) := (HMW.out.set1 _).alloc hb _
          have HPU : Hid (PatAt ((w2.setCell ⟨b, 1, none⟩ (.int .i64 ((i : Int) + (t.size : Int)))).alloc (.cells #[.slice ao l c, .int .i64 r, .int .i64 g] 88)) w.heap.size w2.heap.size t (.slice ao l c) (.int .i64 r) (.int .i64 g)) := HPAT.out.kept (((Keep.refl (Nat.le_refl _)).set (by omega)).alloc)
          have HT6 : Hid (Th ((w2.setCell ⟨b, 1, none⟩ (.int .i64 ((i : Int) + (t.size : Int)))).alloc (.cells #[.slice ao l c, .int .i64 r, .int .i64 g] 88)) w2.heap.size (.slice ao l c) (.int .i64 r) (.int .i64 g)) := by constructor <;> go_simp
          have HT0 : Hid (Th ((w2.setCell ⟨b, 1, none⟩ (.int .i64 ((i : Int) + (t.size : Int)))).alloc (.cells #[.slice ao l c, .int .i64 r, .int .i64 g] 88)) w.heap.size (.slice none 0 0) (.int .i64 0) (.int .i64 0)) := by constructor <;> go_simp
          have HSU : Hid (w2.heap.size ≤ ((w2.setCell ⟨b, 1, none⟩ (.int .i64 ((i : Int) + (t.size : Int)))).alloc (.cells #[.slice ao l c, .int .i64 r, .int .i64 g] 88)).heap.size) := by simp [Hid, World.setCell]
          go_wp2_with fail
          generalize (w2.setCell ⟨b, 1, none⟩ (.int .i64 ((i : Int) + (t.size : Int)))).alloc (.cells #[.slice ao l c, .int .i64 r, .int .i64 g] 88) = u at HCU HMU HPU HT6 HT0 HSU ⊢
          clear r0 r1 rf c5 f5 t0 t1 t2 u0 u1 u2
          obtain ⟨x0, x1, x2, _, _, _⟩ := HT6.out
          obtain ⟨t0, t1, t2, u0, u1, u2⟩ := HT0.out
          have hb6 : b ≠ w2.heap.size := by omega
          have h06 : w.heap.size ≠ w2.heap.size := by omega
          go_region_with (go_at_call 100; refine (accept_yes b s (i + t.size) 47 _ (by first | exact HCU.out.rc | exact HCU.out.drew.rc | exact (HCU.out.drewN _).rc | (refine Cu.rc (lg := lg) ?_; repeat first | exact HCU.out | refine Cu.drewN ?_ _ | refine Cu.drew ?_ | refine Cu.setNew ?_ (by omega) _)) (by omega) HI.out).mono ?_; rintro e w3 ⟨rfl, n3, rfl⟩)
          all_goals go_wp2_with fail
          all_goals rw [HF2.out]
          all_goals refine bodyPost_ret (v := .tuple #[.agg #[.slice ao l c, .int .i64 r, .int .i64 g], .bool true]) (by simp [results, Tryz.results226, go_sem, *]) rfl ⟨ao, l, c, r, g, rfl, ?_, ?_, fun _ => HPU.out.keep ?_ (Nat.le_refl _)⟩
          all_goals first
            | ((repeat first | refine Mw.set1 ?_ _ | refine Mw.setNew ?_ (by omega) hb _ | refine Mw.drewN ?_ _ | refine Mw.drew ?_ | exact HMU.out); done)
            | (show Cu _ b s (i + t.size + 1) lg; (repeat first | refine Cu.setNew ?_ (by omega) _ | refine Cu.drewN ?_ _ | refine Cu.drew ?_ | refine Cu.put (i := i + t.size) ?_ (i + t.size + 1) (by omega) (by omega) | exact HCU.out); done)
            | ((repeat first | refine Keep.set ?_ (by omega) | refine Keep.drewN ?_ _ | refine Keep.drew ?_ | exact Keep.refl HSU.out); done)
        · have HI : Hid (pk s (i + t.size) ≠ ((47 : Nat) : Int)) := h47
          have HF2 : Hid (F = ((i + t.size), t, lg, false)) := by
            rw [Hid, ← HF.out, HPE.out, HLG.out, if_neg (fun e => h47 (by rw [e]; rfl))]
          clear h47 HPE HLG
          have HCU : Hid (Cu ((w2.setCell ⟨b, 1, none⟩ (.int .i64 ((i : Int) + (t.size : Int)))).alloc (.cells #[.slice ao l c, .int .i64 r, .int .i64 g] 88)) b s (i + t.size) lg) := (HC2.out.put (i + t.size) (by omega) hj3).alloc _
          have HMU : Hid (Mw b w ((w2.setCell ⟨b, 1, none⟩ (.int .i64 ((i : Int) + (t.size : Int)))).alloc (.cells #[.slice ao l c, .int .i64 r, .int .i64 g] 88))) := (HMW.out.set1 _).alloc hb _
          have HPU : Hid (PatAt ((w2.setCell ⟨b, 1, none⟩ (.int .i64 ((i : Int) + (t.size : Int)))).alloc (.cells #[.slice ao l c, .int .i64 r, .int .i64 g] 88)) w.heap.size w2.heap.size t (.slice ao l c) (.int .i64 r) (.int .i64 g)) := HPAT.out.kept (((Keep.refl (Nat.le_refl _)).set (by omega)).alloc)
          have HT6 : Hid (Th ((w2.setCell ⟨b, 1, none⟩ (.int .i64 ((i : Int) + (t.size : Int)))).alloc (.cells #[.slice ao l c, .int .i64 r, .int .i64 g] 88)) w2.heap.size (.slice ao l c) (.int .i64 r) (.int .i64 g)) := by constructor <;> go_simp
          have HT0 : Hid (Th ((w2.setCell ⟨b, 1, none⟩ (.int .i64 ((i : Int) + (t.size : Int)))).alloc (.cells #[.slice ao l c, .int .i64 r, .int .i64 g] 88)) w.heap.size (.slice none 0 0) (.int .i64 0) (.int .i64 0)) := by constructor <;> go_simp
          have HSU : Hid (w2.heap.size ≤ ((w2.setCell ⟨b, 1, none⟩ (.int .i64 ((i : Int) + (t.size : Int)))).alloc (.cells #[.slice ao l c, .int .i64 r, .int .i64 g] 88)).heap.size) := by simp [Hid, World.setCell]
          go_wp2_with fail
          generalize (w2.setCell ⟨b, 1, none⟩ (.int .i64 ((i : Int) + (t.size : Int)))).alloc (.cells #[.slice ao l c, .int .i64 r, .int .i64 g] 88) = u at HCU HMU HPU HT6 HT0 HSU ⊢
          clear r0 r1 rf c5 f5 t0 t1 t2 u0 u1 u2
          obtain ⟨x0, x1, x2, _, _, _⟩ := HT6.out
          obtain ⟨t0, t1, t2, u0, u1, u2⟩ := HT0.out
          have hb6 : b ≠ w2.heap.size := by omega
          have h06 : w.heap.size ≠ w2.heap.size := by omega
          go_region_with (go_at_call 100; refine (accept_no b s (i + t.size) 47 _ (by first | exact HCU.out.rc | exact HCU.out.drew.rc | exact (HCU.out.drewN _).rc | (refine Cu.rc (lg := lg) ?_; repeat first | exact HCU.out | refine Cu.drewN ?_ _ | refine Cu.drew ?_ | refine Cu.setNew ?_ (by omega) _)) (by omega) HI.out).mono ?_; rintro e w3 ⟨rfl, n3, rfl⟩)
          all_goals go_wp2_with fail
          all_goals rw [HF2.out]
          all_goals refine bodyPost_ret (v := .tuple #[.agg #[.slice ao l c, .int .i64 r, .int .i64 g], .bool false]) (by simp [results, Tryz.results226, go_sem, *]) rfl ⟨ao, l, c, r, g, rfl, ?_, ?_, fun h => (by cases h)⟩
          all_goals first
            | ((repeat first | refine Mw.set1 ?_ _ | refine Mw.setNew ?_ (by omega) hb _ | refine Mw.drewN ?_ _ | refine Mw.drew ?_ | exact HMU.out); done)
            | (show Cu _ b s (i + t.size) lg; (repeat first | refine Cu.setNew ?_ (by omega) _ | refine Cu.drewN ?_ _ | refine Cu.drew ?_ | exact HCU.out); done)
  · have HF2 : Hid (F = (i + j, noBytes, lg, false)) := by
      rw [Hid, ← HF.out, patF]
      simp only [htt, hfa]
    have HC3 : Hid (Cu w2 b s i lg) := HC2.out
    go_wp2_with fail
    rw [HF2.out]
    refine bodyPost_ret (v := .tuple #[.agg #[.slice ao l c, .int .i64 r, .int .i64 g], .bool false]) (by simp [results, Tryz.results226, go_sem, *]) rfl ⟨ao, l, c, r, g, rfl, ?_, ?_, fun h => (by cases h)⟩
    · (repeat first | refine Mw.set1 ?_ _ | refine Mw.set5 ?_ _ | refine Mw.setNew ?_ (by omega) hb _ | refine Mw.drewN ?_ _ | refine Mw.alloc ?_ hb _ | exact HMW.out)
    · show Cu _ b s (i + j) lg
      (repeat first | refine Cu.setNew ?_ (by omega) _ | refine Cu.alloc ?_ _ | refine Cu.drewN ?_ _ | refine Cu.put (i := i) ?_ (i + j) (by omega) (by omega) | exact HC2.out)
end Rs
end Go.Proofs.YtppjlpihaocdiaaGreatDoor
