/- A part of the proof. -/
import Derived.Test.YtppjlpihaocdiaaGreatDoorPrHH
set_option linter.unusedSimpArgs false
set_option linter.unusedVariables false
namespace Go.Proofs.YtppjlpihaocdiaaGreatDoor
namespace Rs
open Go.RowKit
def WhAt (w : World) (lo hi : Nat) (x : Wh) (ao : Option Addr) (l c : Nat) (r g : Int) : Prop := x.sort = 3 → PatAt w lo hi x.pat (.slice ao l c) (.int .i64 r) (.int .i64 g)
theorem whereF_le (s : ByteArray) (i : Nat) (lg : Int) (h : i ≤ s.size) : (whereF s i lg).1 ≤ s.size ∧ i ≤ (whereF s i lg).1 := by
  unfold whereF
  split
  · rename_i h1
    obtain ⟨h2, _⟩ := pk_byte (s := s) (i := i) (by rw [h1]; decide)
    simp only; omega
  · split
    · rename_i h1
      obtain ⟨h2, _⟩ := pk_byte (s := s) (i := i) (by rw [h1]; decide)
      have := patF_le s (i + 1) lg (by omega)
      simp only; omega
    · have := numF_le s 4 i 0 h
      simp only; omega
structure Fv (w : World) (N : Nat) (v0 v1 v2 v3 v4 : Value) : Prop where
  c0 : w.cell? ⟨N, 0, none⟩ = some v0
  c1 : w.cell? ⟨N, 1, none⟩ = some v1
  c2 : w.cell? ⟨N, 2, none⟩ = some v2
  c3 : w.cell? ⟨N, 3, none⟩ = some v3
  c4 : w.cell? ⟨N, 4, none⟩ = some v4
  f0 : w.frozen? ⟨N, 0, none⟩ = false
  f1 : w.frozen? ⟨N, 1, none⟩ = false
  f2 : w.frozen? ⟨N, 2, none⟩ = false
  f3 : w.frozen? ⟨N, 3, none⟩ = false
  f4 : w.frozen? ⟨N, 4, none⟩ = false
theorem Fv.new {w1 : World} {N : Nat} {v0 v1 v2 v3 v4 : Value} {T : TypeId} (h : w1.heap[N]? = some (.cells #[v0, v1, v2, v3, v4] T (0, 0))) : Fv w1 N v0 v1 v2 v3 v4 := by
  have hc := fun k => cell_of_row w1 N k _ T (0, 0) h
  have hf : ∀ k, w1.frozen? ⟨N, k, none⟩ = false := fun k => by simp [World.frozen?, h]
  exact ⟨hc 0, hc 1, hc 2, hc 3, hc 4, hf 0, hf 1, hf 2, hf 3, hf 4⟩
theorem Cu.rcA {w : World} {b : Nat} {s : ByteArray} {i : Nat} {lg : Int} (h : Cu w b s i lg) (o : Obj) : Rc (w.alloc o) b s i := (h.alloc o).rc
set_option maxHeartbeats 4000000 in
theorem where_any (b : Nat) (s : ByteArray) (i : Nat) (lg : Int) (w : World) (hc : Cu w b s i lg) :
    Calls Tryz.prog 195 #[.pointer (some ⟨b, 0, none⟩)] w fun e w' => ∃ (ao : Option Addr) (l c : Nat) (r g : Int), e = .returned (.tuple #[.agg #[.int .i64 ((whereF s i lg).2.1.sort : Int), .int .i64 ((whereF s i lg).2.1.num : Int), .slice ao l c, .int .i64 r, .int .i64 g], .bool (whereF s i lg).2.2.2]) ∧ Mw b w w' ∧ Cu w' b s (whereF s i lg).1 (whereF s i lg).2.2.1 ∧
      ((whereF s i lg).2.2.2 = true → WhAt w' w.heap.size w'.heap.size (whereF s i lg).2.1 ao l c r g) := by
  have HC : Hid (Cu w b s i lg) := hc
  have hb := hc.lt
  have hle := hc.rc.le
  have h400 := hc.rc.s40
  clear hc
  have HZ : Hid (w.heap.size < (w.alloc (.cells #[.int .i64 0, .int .i64 0, .slice none 0 0, .int .i64 0, .int .i64 0] 195)).heap.size) := by simp [Hid]
  by_cases h36 : pk s i = ((36 : Nat) : Int)
  · have HI : Hid (pk s i = ((36 : Nat) : Int)) := h36
    obtain ⟨hlt, _⟩ := pk_byte (s := s) (i := i) (by rw [h36]; decide)
    have HF : Hid (whereF s i lg = (i + 1, ⟨2, 0, noBytes⟩, lg, true)) := by rw [Hid, whereF, if_pos (by rw [h36]; rfl)]
    clear h36
    rw [HF.out]
    go_enter Tryz.func195, Tryz.ntmps195
    go_wp2_with fail
    refine (acceptY b s i 36 _ (HC.out.rcA _) (by omega) HI.out).mono ?_
    rintro e w1 ⟨rfl, hm⟩
    have HM1 : Hid (Mw b w w1) := ((Mw.refl b w).alloc hb _).trans (.mv hm)
    have HC1 : Hid (Cu w1 b s (i + 1) lg) := (HC.out.alloc _).mv hm (by omega)
    obtain ⟨t0, t1, t2, t3, t4, u0, u1, u2, u3, u4⟩ := Fv.new ((hm.only.block w.heap.size (by omega)).trans (heap_alloc_new w _))
    clear hm
    go_wp2_with fail
    refine bodyPost_ret (v := .tuple #[.agg #[.int .i64 2, .int .i64 0, .slice none 0 0, .int .i64 0, .int .i64 0], .bool true]) (by simp [results, Tryz.results195, go_sem, *]) rfl ⟨none, 0, 0, 0, 0, rfl, ?_, ?_, fun _ h => absurd h (by simp)⟩
    · (repeat first | refine Mw.setNew ?_ (by omega) hb _ | exact HM1.out)
    · (repeat first | refine Cu.setNew ?_ (by omega) _ | exact HC1.out)
  · by_cases h47 : pk s i = ((47 : Nat) : Int)
    · have HI : Hid (pk s i ≠ ((36 : Nat) : Int)) := h36
      have HJ : Hid (pk s i = ((47 : Nat) : Int)) := h47
      obtain ⟨hlt, _⟩ := pk_byte (s := s) (i := i) (by rw [h47]; decide)
      have hple := patF_le s (i + 1) lg (by omega)
      have HF : Hid (whereF s i lg = ((patF s (i + 1) lg).1, ⟨3, 0, (patF s (i + 1) lg).2.1⟩, (patF s (i + 1) lg).2.2.1, (patF s (i + 1) lg).2.2.2)) := by rw [Hid, whereF, if_neg (fun e => h36 (by rw [e]; rfl)), if_pos (by rw [h47]; rfl)]
      clear h36 h47
      rw [HF.out]
      generalize hG : patF s (i + 1) lg = G at hple
      have HG : Hid (patF s (i + 1) lg = G) := hG
      clear hG HF
      obtain ⟨jj, pt, lg2, ok⟩ := G
      simp only at hple ⊢
      go_enter Tryz.func195, Tryz.ntmps195
      go_wp2_with fail
      refine (acceptN b s i 36 _ (HC.out.rcA _) (by omega) HI.out).mono ?_
      rintro e w1 ⟨rfl, hm⟩
      have HM1 : Hid (Mw b w w1) := ((Mw.refl b w).alloc hb _).trans (.mv hm)
      have HC1 : Hid (Cu w1 b s i lg) := (HC.out.alloc _).mv hm (by omega)
      have HX1 : Hid (w1.heap[w.heap.size]? = some (.cells #[.int .i64 0, .int .i64 0, .slice none 0 0, .int .i64 0, .int .i64 0] 195)) := (hm.only.block w.heap.size (by omega)).trans (heap_alloc_new w _)
      have hz1 : w.heap.size < w1.heap.size := by have := hm.only.size; have := HZ.out; omega
      clear hm
      go_wp2_with fail
      refine (acceptY b s i 47 _ HC1.out.rc (by omega) HJ.out).mono ?_
      rintro e w2 ⟨rfl, hm⟩
      have HM2 : Hid (Mw b w w2) := HM1.out.trans (.mv hm)
      have HC2 : Hid (Cu w2 b s (i + 1) lg) := HC1.out.mv hm (by omega)
      have HX2 : Hid (w2.heap[w.heap.size]? = w1.heap[w.heap.size]?) := hm.only.block w.heap.size (by omega)
      have hz2 : w.heap.size < w2.heap.size := by have := hm.only.size; omega
      clear hm
      go_wp2_with fail
      refine (pattern_any b s (i + 1) lg _ HC2.out).mono ?_
      rw [HG.out]
      rintro e w3 ⟨ao, l, c, r, g, rfl, hm, hc3, hp3⟩
      have HM3 : Hid (Mw b w w3) := HM2.out.trans hm
      have HC3 : Hid (Cu w3 b s jj lg2) := hc3
      have HP3 : Hid (ok = true → PatAt w3 w2.heap.size w3.heap.size pt (.slice ao l c) (.int .i64 r) (.int .i64 g)) := hp3
      obtain ⟨t0, t1, t2, t3, t4, u0, u1, u2, u3, u4⟩ := Fv.new ((hm.block w.heap.size hz2 (by omega)).trans (HX2.out.trans HX1.out))
      have hz3 : w.heap.size < w3.heap.size := by have := hm.size; omega
      have hz23 : w2.heap.size ≤ w3.heap.size := hm.size
      clear hm hc3 hp3
      simp only
      go_wp2_with fail
      refine bodyPost_ret (v := .tuple #[.agg #[.int .i64 3, .int .i64 0, .slice ao l c, .int .i64 r, .int .i64 g], .bool ok]) (by simp [results, Tryz.results195, go_sem, *]) rfl ⟨ao, l, c, r, g, rfl, ?_, ?_, fun h _ => (HP3.out h).keep ?_ (by omega)⟩
      · (repeat first | refine Mw.setNew ?_ (by omega) hb _ | refine Mw.alloc ?_ hb _ | exact HM3.out)
      · (repeat first | refine Cu.setNew ?_ (by omega) _ | refine Cu.alloc ?_ _ | exact HC3.out)
      · (repeat first | refine Keep.set ?_ (by omega) | refine Keep.alloc ?_ | exact Keep.refl (Nat.le_refl _))
    · have HI : Hid (pk s i ≠ ((36 : Nat) : Int)) := h36
      have HJ : Hid (pk s i ≠ ((47 : Nat) : Int)) := h47
      have HF : Hid (whereF s i lg = ((numF s 4 i 0).1, ⟨1, (numF s 4 i 0).2.1, noBytes⟩, lg, (numF s 4 i 0).2.2)) := by rw [Hid, whereF, if_neg (fun e => h36 (by rw [e]; rfl)), if_neg (fun e => h47 (by rw [e]; rfl))]
      have hnle := numF_le s 4 i 0 hle
      clear h36 h47
      rw [HF.out]
      generalize hG : numF s 4 i 0 = G at hnle
      have HG : Hid (numF s 4 i 0 = G) := hG
      clear hG HF
      obtain ⟨jj, nn, ok⟩ := G
      simp only at hnle ⊢
      go_enter Tryz.func195, Tryz.ntmps195
      go_wp2_with fail
      refine (acceptN b s i 36 _ (HC.out.rcA _) (by omega) HI.out).mono ?_
      rintro e w1 ⟨rfl, hm⟩
      have HM1 : Hid (Mw b w w1) := ((Mw.refl b w).alloc hb _).trans (.mv hm)
      have HC1 : Hid (Cu w1 b s i lg) := (HC.out.alloc _).mv hm (by omega)
      have HX1 : Hid (w1.heap[w.heap.size]? = some (.cells #[.int .i64 0, .int .i64 0, .slice none 0 0, .int .i64 0, .int .i64 0] 195)) := (hm.only.block w.heap.size (by omega)).trans (heap_alloc_new w _)
      clear hm
      go_wp2_with fail
      refine (acceptN b s i 47 _ HC1.out.rc (by omega) HJ.out).mono ?_
      rintro e w2 ⟨rfl, hm⟩
      have HM2 : Hid (Mw b w w2) := HM1.out.trans (.mv hm)
      have HC2 : Hid (Cu w2 b s i lg) := HC1.out.mv hm (by omega)
      have HX2 : Hid (w2.heap[w.heap.size]? = w1.heap[w.heap.size]?) := hm.only.block w.heap.size (by omega)
      clear hm
      go_wp2_with fail
      refine (number_any b s i _ HC2.out.rc).mono ?_
      rw [HG.out]
      rintro e w3 ⟨rfl, hm⟩
      have HM3 : Hid (Mw b w w3) := HM2.out.trans (.mv hm)
      have HC3 : Hid (Cu w3 b s jj lg) := HC2.out.mv hm (by omega)
      obtain ⟨t0, t1, t2, t3, t4, u0, u1, u2, u3, u4⟩ := Fv.new ((hm.only.block w.heap.size (by omega)).trans (HX2.out.trans HX1.out))
      clear hm
      simp only
      go_wp2_with fail
      refine bodyPost_ret (v := .tuple #[.agg #[.int .i64 1, .int .i64 (nn : Int), .slice none 0 0, .int .i64 0, .int .i64 0], .bool ok]) (by simp [results, Tryz.results195, go_sem, *]) rfl ⟨none, 0, 0, 0, 0, rfl, ?_, ?_, fun _ h => absurd h (by simp)⟩
      · (repeat first | refine Mw.setNew ?_ (by omega) hb _ | exact HM3.out)
      · (repeat first | refine Cu.setNew ?_ (by omega) _ | exact HC3.out)
end Rs
end Go.Proofs.YtppjlpihaocdiaaGreatDoor
