/- The program's reader of scripts: what stands behind an s. -/
import Derived.Test.YtppjlpihaocdiaaPrTK
set_option linter.unusedSimpArgs false
set_option linter.unusedVariables false
namespace Go.Proofs.Ytppjlpihaocdiaa
namespace Rs
open Go.RowKit

def putL (ao : Option Addr) (l c : Nat) (r g : Int) (tv : Value) (num : Nat) (all prt : Bool) : List Value := [.slice ao l c, .int .i64 r, .int .i64 g, tv, .int .i64 (num : Int), .bool all, .bool prt]

theorem Try.zero129 : (Try.prog.info? 129).map (fun i => (i.zero, i.size)) = some (some (.agg (putL none 0 0 0 0 (.slice none 0 0) 0 false false).toArray), (putL none 0 0 0 0 (.slice none 0 0) 0 false false).length) := by kernel_rfl
theorem Try.size129 : (Try.prog.info? 129).map (·.size) = some 7 := by kernel_rfl
theorem Try.size43 : (Try.prog.info? 43).map (·.size) = some 3 := by kernel_rfl
theorem putL_one (ao : Option Addr) (l c : Nat) (r g : Int) (num : Nat) (all prt : Bool) {tv : Value} (h : tv.oneCell' = true) : ∀ v ∈ putL ao l c r g tv num all prt, v.oneCell' = true := by
  intro v hv
  simp only [putL, List.mem_cons, List.not_mem_nil, or_false] at hv
  rcases hv with rfl | rfl | rfl | rfl | rfl | rfl | rfl <;> first | rfl | exact h

/-- The flags are set. -/
theorem Row.flags {w w' : World} {b P j : Nat} {ao : Option Addr} {l c : Nat} {r g : Int} {tv : Value} {a p : Bool} {n : Nat} (h : Row w P (putL ao l c r g tv 0 false false)) (hf : Fl b P w w' j a p n) : Row w' P (putL ao l c r g tv n a p) := by
  have hc : ∀ k v, (putL ao l c r g tv n a p)[k]? = some v → w'.cell? ⟨P, k, none⟩ = some v := by
    intro k v hv
    have hk : k < 7 := (List.getElem?_eq_some_iff.1 hv).1
    by_cases h4 : k < 4
    · rw [hf.pc k h4]
      apply h.cell
      have h3 : k = 0 ∨ k = 1 ∨ k = 2 ∨ k = 3 := by omega
      rcases h3 with rfl | rfl | rfl | rfl <;> exact hv
    · have h3 : k = 4 ∨ k = 5 ∨ k = 6 := by omega
      rcases h3 with rfl | rfl | rfl
      · rw [hf.p4]; exact hv
      · rw [hf.p5]; exact hv
      · rw [hf.p6]; exact hv
  refine ⟨fun k v hv => by rw [Nat.zero_add]; exact hc k v hv, fun k hk => ?_⟩
  have hk7 : k < 7 := hk
  obtain ⟨v, hv⟩ : ∃ v, (putL ao l c r g tv n a p)[k]? = some v := ⟨_, List.getElem?_eq_getElem hk⟩
  rw [Nat.zero_add]
  exact ⟨by rw [hc k v hv]; rfl, by rw [hf.pf k]; exact h.frozen (by exact hk7)⟩

theorem Mw.fl {b P j n : Nat} {a p : Bool} {u w w' : World} (h : Mw b u w) (hf : Fl b P w w' j a p n) (hP : u.heap.size ≤ P) : Mw b u w' :=
  ⟨hf.os.trans h.os, hf.tape.trans h.tape, hf.output.trans h.output, by rw [hf.size]; exact h.size, fun k hk hb => (hf.block k hb (by omega)).trans (h.block k hk hb), fun k h1 h2 => (hf.cell k h1).trans (h.cell k h1 h2), fun k => (hf.frz k).trans (h.frz k)⟩
theorem Cu.fl {b P i j n : Nat} {a p : Bool} {w w' : World} {s : ByteArray} {lg : Int} (h : Cu w b s i lg) (hf : Fl b P w w' j a p n) (hj : j ≤ s.size) : Cu w' b s j lg :=
  ⟨hf.rc h.rc hj, (hf.cell 5 (by omega)).trans h.c5, (hf.frz 5).trans h.f5⟩
theorem Keep.fl {b P j n lo hi : Nat} {a p : Bool} {u w w' : World} (h : Keep lo hi u w) (hf : Fl b P w w' j a p n) (hb : b ≤ lo) (hP : P ≤ lo) : Keep lo hi u w' :=
  ⟨fun k h1 h2 => (hf.block k (by omega) (by omega)).trans (h.same k h1 h2), by rw [hf.size]; exact h.size⟩

/-- What 'put' leaves. -/
def PutPost (b : Nat) (s : ByteArray) (w : World) (x : Cm) (r : Nat × Cm × Int × Bool) : Ending → World → Prop := fun e w' => ∃ (ao : Option Addr) (l c : Nat) (r3 g : Int) (tv : Value) (num : Nat) (all prt : Bool),
      e = .returned (.tuple #[.agg (putL ao l c r3 g tv num all prt).toArray, .bool r.2.2.2]) ∧ tv.oneCell' = true ∧ Mw b w w' ∧ Cu w' b s r.1 r.2.2.1 ∧
      (r.2.2.2 = true → ∃ pt tp, r.2.1 = { x with pat := pt, temp := tp, num := num, all := all, prt := prt } ∧ PatAt w' w.heap.size w'.heap.size pt (.slice ao l c) (.int .i64 r3) (.int .i64 g) ∧ TempIn w' w.heap.size w'.heap.size tp tv)

set_option maxRecDepth 100000 in
set_option maxHeartbeats 4000000 in
theorem put_any (b : Nat) (s : ByteArray) (i : Nat) (lg : Int) (x : Cm) (w : World) (hc : Cu w b s i lg) :
    Calls Try.prog 113 #[.pointer (some ⟨b, 0, none⟩)] w (PutPost b s w x (putF s i lg x)) := by
  have HC : Hid (Cu w b s i lg) := hc
  have hb := hc.lt
  have hle := hc.rc.le
  have h400 := hc.rc.s40
  clear hc
  by_cases h47 : pk s i = ((47 : Nat) : Int)
  · have HI : Hid (pk s i = ((47 : Nat) : Int)) := h47
    obtain ⟨hlt, _⟩ := pk_byte (s := s) (i := i) (by rw [h47]; decide)
    have HF : Hid (putF s i lg x = if (patF s (i + 1) lg).2.2.2 = true then (if (tempF s (grps (patF s (i + 1) lg).2.1) (patF s (i + 1) lg).1).2.2 = true then ((flagF s 4 (tempF s (grps (patF s (i + 1) lg).2.1) (patF s (i + 1) lg).1).1 false false 0).1, { x with pat := (patF s (i + 1) lg).2.1, temp := (tempF s (grps (patF s (i + 1) lg).2.1) (patF s (i + 1) lg).1).2.1, num := (flagF s 4 (tempF s (grps (patF s (i + 1) lg).2.1) (patF s (i + 1) lg).1).1 false false 0).2.2.2, all := (flagF s 4 (tempF s (grps (patF s (i + 1) lg).2.1) (patF s (i + 1) lg).1).1 false false 0).2.1, prt := (flagF s 4 (tempF s (grps (patF s (i + 1) lg).2.1) (patF s (i + 1) lg).1).1 false false 0).2.2.1 }, (patF s (i + 1) lg).2.2.1, true) else ((tempF s (grps (patF s (i + 1) lg).2.1) (patF s (i + 1) lg).1).1, x, (patF s (i + 1) lg).2.2.1, false)) else ((patF s (i + 1) lg).1, x, (patF s (i + 1) lg).2.2.1, false)) := by rw [Hid, putF, if_pos (by rw [h47]; rfl)]
    clear h47
    generalize hA : putF s i lg x = A at HF
    clear hA
    have hple := patF_le s (i + 1) lg (by omega)
    generalize hG : patF s (i + 1) lg = G at HF hple
    have HG : Hid (patF s (i + 1) lg = G) := hG
    clear hG
    obtain ⟨j1, pt, lg1, ok⟩ := G
    simp only at HF hple
    go_enter Try.func113, Try.ntmps113
    go_wp2_with (first
      | (refine wpList_alloc_row 2 rfl rfl 129 rfl _ Try.zero129 ?_; intro w1 h1 hR1 hB1; have HR1 : Hid (Row w1 w.heap.size (putL none 0 0 0 0 (.slice none 0 0) 0 false false)) := hR1; have HB1 : Hid (Below w.heap.size w w1) := hB1; clear hR1 hB1)
      | (go_at_call 56; refine (acceptY b s i 47 _ (HC.out.below HB1.out).rc (by omega) HI.out).mono ?_; rintro e w2 ⟨rfl, hm2⟩; have HM2 : Hid (Mw b w w2) := (Mw.below HB1.out hb).trans (.mv hm2); have HC2 : Hid (Cu w2 b s (i + 1) lg) := (HC.out.below HB1.out).mv hm2 (by omega); have HR2 : Hid (Row w2 w.heap.size (putL none 0 0 0 0 (.slice none 0 0) 0 false false)) := HR1.out.of_block (hm2.only.block _ (by omega)); have hz2 : w.heap.size < w2.heap.size := (by have := hm2.only.size; omega); clear hm2))
    refine (pattern_any b s (i + 1) lg _ HC2.out).mono ?_
    rw [HG.out]
    rintro e w3 ⟨ao, l, c, r, g, rfl, hm3, hc3, hp3⟩
    have HM3 : Hid (Mw b w w3) := HM2.out.trans hm3
    have HC3 : Hid (Cu w3 b s j1 lg1) := hc3
    have HR3 : Hid (Row w3 w.heap.size (putL none 0 0 0 0 (.slice none 0 0) 0 false false)) := HR2.out.of_block (hm3.block w.heap.size hz2 (by omega))
    have HP3 : Hid (ok = true → PatAt w3 w2.heap.size w3.heap.size pt (.slice ao l c) (.int .i64 r) (.int .i64 g)) := hp3
    have hz3 : w2.heap.size ≤ w3.heap.size := hm3.size
    clear hm3 hc3 hp3
    simp only
    cases ok with
    | false =>
      have HF2 : Hid (A = (j1, x, lg1, false)) := by rw [Hid, HF.out]; rfl
      go_wp2_with (first
        | (refine wpList_store_part rfl 43 (.tmp 15) (.tmp 13) rfl w.heap.size 0 rfl [.slice ao l c, .int .i64 r, .int .i64 g] rfl (putL none 0 0 0 0 (.slice none 0 0) 0 false false) (putL ao l c r g (.slice none 0 0) 0 false false) HR3.out (by show 0 + 3 ≤ 7; omega) rfl Try.size43 (by intro v hv; simp only [List.mem_cons, List.not_mem_nil, or_false] at hv; rcases hv with rfl | rfl | rfl <;> rfl) ?_; intro w5 hR5 hS5; have HR5 : Hid (Row w5 w.heap.size (putL ao l c r g (.slice none 0 0) 0 false false)) := hR5; have HS5 : Hid (Sole w.heap.size w3 w5) := hS5; clear hR5 hS5)
        | (first
      | (refine wpList_load_row 18 rfl rfl 129 (.tmp 2) rfl _ rfl _ _ (HR5.out) Try.underlying129 rfl Try.size129 ?_)
      | (refine wpList_store_row rfl 129 (.tmp 2) (.tmp 18) rfl _ rfl _ rfl _ (HR5.out) rfl Try.size129 (putL_one _ _ _ _ _ _ _ _ (by first | rfl | exact hone)) ?_; intro w6 hR4 hS4; have HRL : Hid (Row w6 w.heap.size (putL ao l c r g (.slice none 0 0) 0 false false)) := hR4; have HSL : Hid (Sole w.heap.size _ w6) := hS4; clear hR4 hS4)))
      rw [HF2.out]
      refine bodyPost_row2 2 3 129 rfl rfl w.heap.size rfl _ _ _ rfl HRL.out Try.underlying129 rfl Try.size129 (show PutPost _ _ _ _ _ _ _ by unfold PutPost; exact ⟨ao, l, c, r, g, _, 0, false, false, rfl, rfl, (HM3.out.sole HS5.out (Nat.le_refl _) hb).sole HSL.out (Nat.le_refl _) hb, (HC3.out.sole HS5.out (by omega)).sole HSL.out (by omega), fun h => (by cases h)⟩)
    | true =>
      have HP3' : Hid (PatAt w3 w2.heap.size w3.heap.size pt (.slice ao l c) (.int .i64 r) (.int .i64 g)) := HP3.out rfl
      obtain ⟨gr, hgr⟩ : ∃ gr, grps pt = gr := ⟨_, rfl⟩
      have hg9 : gr ≤ 9 := by rw [← hgr]; exact HP3'.out.2.1
      have HGI : Hid (g = (gr : Int)) := by
        have := HP3'.out.1
        rw [hgr] at this
        injection this
      have HF1 : Hid (A = if (tempF s gr j1).2.2 = true then ((flagF s 4 (tempF s gr j1).1 false false 0).1, { x with pat := pt, temp := (tempF s gr j1).2.1, num := (flagF s 4 (tempF s gr j1).1 false false 0).2.2.2, all := (flagF s 4 (tempF s gr j1).1 false false 0).2.1, prt := (flagF s 4 (tempF s gr j1).1 false false 0).2.2.1 }, lg1, true) else ((tempF s gr j1).1, x, lg1, false)) := by rw [Hid, HF.out, if_pos rfl, hgr]
      clear HF hgr
      generalize hG2 : tempF s gr j1 = G2 at HF1
      have HG2 : Hid (tempF s gr j1 = G2) := hG2
      clear hG2
      obtain ⟨j2, tp, ok2⟩ := G2
      simp only at HF1
      go_wp2_with (first
        | (refine wpList_store_part rfl 43 (.tmp 15) (.tmp 13) rfl w.heap.size 0 rfl [.slice ao l c, .int .i64 r, .int .i64 g] rfl (putL none 0 0 0 0 (.slice none 0 0) 0 false false) (putL ao l c r g (.slice none 0 0) 0 false false) HR3.out (by show 0 + 3 ≤ 7; omega) rfl Try.size43 (by intro v hv; simp only [List.mem_cons, List.not_mem_nil, or_false] at hv; rcases hv with rfl | rfl | rfl <;> rfl) ?_; intro w5 hR5 hS5; have m2 := hR5.cell (k := 2) rfl; have HR5 : Hid (Row w5 w.heap.size (putL ao l c r g (.slice none 0 0) 0 false false)) := hR5; have HS5 : Hid (Sole w.heap.size w3 w5) := hS5; clear hR5 hS5))
      have HM5 : Hid (Mw b w w5) := HM3.out.sole HS5.out (Nat.le_refl _) hb
      have HC5 : Hid (Cu w5 b s j1 lg1) := HC3.out.sole HS5.out (by omega)
      have hz5 : w5.heap.size = w3.heap.size := HS5.out.size
      have HK5 : Hid (Keep w2.heap.size w3.heap.size w3 w5) := (Keep.refl (Nat.le_refl _)).sole HS5.out (by omega)
      rw [HGI.out]
      refine (template_any b s gr j1 _ HC5.out.rc hg9).mono ?_
      rw [HG2.out]
      rintro e w6 ⟨pa, pl, pc, rfl, hm6, hj2, ht6⟩
      have hone : (Value.slice pa pl pc).oneCell' = true := rfl
      have HM6 : Hid (Mw b w w6) := HM5.out.trans (Mw.ofMk hm6)
      have HC6 : Hid (Cu w6 b s j2 lg1) := HC5.out.ofMk hm6 hj2
      have HR6 : Hid (Row w6 w.heap.size (putL ao l c r g (.slice none 0 0) 0 false false)) := HR5.out.of_block (hm6.block w.heap.size (by omega) (by omega))
      have HK6 : Hid (Keep w2.heap.size w3.heap.size w3 w6) := HK5.out.mw (Mw.ofMk hm6) (by omega)
      have HT6 : Hid (ok2 = true → TempAt w6 w5.heap.size w6.heap.size tp (.slice pa pl pc)) := ht6
      have hz6 : w5.heap.size ≤ w6.heap.size := hm6.size
      have m3 := HR6.out.cell (k := 3) rfl
      have f3 := HR6.out.frozen (k := 3) (by show 3 < 7; omega)
      have HR7 : Hid (Row (w6.setCell ⟨w.heap.size, 3, none⟩ (.slice pa pl pc)) w.heap.size (putL ao l c r g (.slice pa pl pc) 0 false false)) := HR6.out.put 3 (by show 3 < 7; omega) (.slice pa pl pc)
      have HS7 : Hid (Sole w.heap.size w6 (w6.setCell ⟨w.heap.size, 3, none⟩ (.slice pa pl pc))) := (Sole.refl _ _).setCell _ _
      clear hm6 ht6
      simp only
      cases ok2 with
      | false =>
        have HF2 : Hid (A = (j2, x, lg1, false)) := by rw [Hid, HF1.out]; rfl
        go_wp2_with (first
      | (refine wpList_load_row 30 rfl rfl 129 (.tmp 2) rfl _ rfl _ _ (HR7.out) Try.underlying129 rfl Try.size129 ?_)
      | (refine wpList_store_row rfl 129 (.tmp 2) (.tmp 30) rfl _ rfl _ rfl _ (HR7.out) rfl Try.size129 (putL_one _ _ _ _ _ _ _ _ (by first | rfl | exact hone)) ?_; intro w8 hR4 hS4; have HRL : Hid (Row w8 w.heap.size (putL ao l c r g (.slice pa pl pc) 0 false false)) := hR4; have HSL : Hid (Sole w.heap.size _ w8) := hS4; clear hR4 hS4))
        rw [HF2.out]
        refine bodyPost_row2 2 3 129 rfl rfl w.heap.size rfl _ _ _ rfl HRL.out Try.underlying129 rfl Try.size129 (show PutPost _ _ _ _ _ _ _ by unfold PutPost; exact ⟨ao, l, c, _, _, _, 0, false, false, rfl, hone, (HM6.out.sole HS7.out (Nat.le_refl _) hb).sole HSL.out (Nat.le_refl _) hb, (HC6.out.sole HS7.out (by omega)).sole HSL.out (by omega), fun h => (by cases h)⟩)
      | true =>
        have HT6' : Hid (TempAt w6 w5.heap.size w6.heap.size tp (.slice pa pl pc)) := HT6.out rfl
        have HF2 : Hid (A = ((flagF s 4 j2 false false 0).1, { x with pat := pt, temp := tp, num := (flagF s 4 j2 false false 0).2.2.2, all := (flagF s 4 j2 false false 0).2.1, prt := (flagF s 4 j2 false false 0).2.2.1 }, lg1, true)) := by rw [Hid, HF1.out]; rfl
        clear HF1
        generalize hG3 : flagF s 4 j2 false false 0 = G3 at HF2
        have HG3 : Hid (flagF s 4 j2 false false 0 = G3) := hG3
        clear hG3
        obtain ⟨j3, fa, fp, fn⟩ := G3
        simp only at HF2
        have HC7 : Hid (Cu (w6.setCell ⟨w.heap.size, 3, none⟩ (.slice pa pl pc)) b s j2 lg1) := HC6.out.sole HS7.out (by omega)
        have HM7 : Hid (Mw b w (w6.setCell ⟨w.heap.size, 3, none⟩ (.slice pa pl pc))) := HM6.out.sole HS7.out (Nat.le_refl _) hb
        have HK7 : Hid (Keep w2.heap.size w3.heap.size w3 (w6.setCell ⟨w.heap.size, 3, none⟩ (.slice pa pl pc))) := HK6.out.sole HS7.out (by omega)
        have HL7 : Hid (Keep w.heap.size w6.heap.size w6 (w6.setCell ⟨w.heap.size, 3, none⟩ (.slice pa pl pc))) := (Keep.refl (Nat.le_refl _)).sole HS7.out (by omega)
        go_wp2_with fail
        generalize w6.setCell ⟨w.heap.size, 3, none⟩ (.slice pa pl pc) = w7 at HR7 HC7 HM7 HK7 HL7 ⊢
        clear m3 f3 m2 HS7
        refine (flags_any b w.heap.size s j2 _ HC7.out.rc (by omega) (HR7.out.cell (k := 4) rfl) (HR7.out.cell (k := 5) rfl) (HR7.out.cell (k := 6) rfl) (fun k hk => HR7.out.frozen (by show k < 7; omega))).mono ?_
        rw [HG3.out]
        rintro e w8 ⟨rfl, hf8, hj3⟩
        have HR8 : Hid (Row w8 w.heap.size (putL ao l c r g (.slice pa pl pc) fn fa fp)) := Row.flags HR7.out hf8
        have HM8 : Hid (Mw b w w8) := HM7.out.fl hf8 (Nat.le_refl _)
        have HC8 : Hid (Cu w8 b s j3 lg1) := HC7.out.fl hf8 hj3
        have HK8 : Hid (Keep w2.heap.size w3.heap.size w3 w8) := HK7.out.fl hf8 (by omega) (by omega)
        have HL8 : Hid (Keep w.heap.size w6.heap.size w6 w8) := HL7.out.fl hf8 (by omega) (by omega)
        clear hf8
        simp only
        go_wp2_with (first
      | (refine wpList_load_row 33 rfl rfl 129 (.tmp 2) rfl _ rfl _ _ (HR8.out) Try.underlying129 rfl Try.size129 ?_)
      | (refine wpList_store_row rfl 129 (.tmp 2) (.tmp 33) rfl _ rfl _ rfl _ (HR8.out) rfl Try.size129 (putL_one _ _ _ _ _ _ _ _ (by first | rfl | exact hone)) ?_; intro w9 hR4 hS4; have HRL : Hid (Row w9 w.heap.size (putL ao l c r g (.slice pa pl pc) fn fa fp)) := hR4; have HSL : Hid (Sole w.heap.size _ w9) := hS4; clear hR4 hS4))
        rw [HF2.out]
        refine bodyPost_row2 2 3 129 rfl rfl w.heap.size rfl _ _ _ rfl HRL.out Try.underlying129 rfl Try.size129 (show PutPost _ _ _ _ _ _ _ by unfold PutPost; exact ⟨ao, l, c, _, _, _, fn, fa, fp, rfl, hone, HM8.out.sole HSL.out (Nat.le_refl _) hb, HC8.out.sole HSL.out (by omega), fun _ => ⟨pt, tp, rfl, HP3'.out.keep (HK8.out.sole HSL.out (by omega)) (by omega), HT6'.out.tempIn (by omega) (HL8.out.sole HSL.out (by omega))⟩⟩)
  · have HI : Hid (pk s i ≠ ((47 : Nat) : Int)) := h47
    have HF : Hid (putF s i lg x = (i, x, lg, false)) := by rw [Hid, putF, if_neg (fun e => h47 (by rw [e]; rfl))]
    clear h47
    go_enter Try.func113, Try.ntmps113
    go_wp2_with (first
      | (refine wpList_alloc_row 2 rfl rfl 129 rfl _ Try.zero129 ?_; intro w1 h1 hR1 hB1; have HR1 : Hid (Row w1 w.heap.size (putL none 0 0 0 0 (.slice none 0 0) 0 false false)) := hR1; have HB1 : Hid (Below w.heap.size w w1) := hB1; clear hR1 hB1)
      | (go_at_call 56; refine (acceptN b s i 47 _ (HC.out.below HB1.out).rc (by omega) HI.out).mono ?_; rintro e w2 ⟨rfl, hm2⟩; have HM2 : Hid (Mw b w w2) := (Mw.below HB1.out hb).trans (.mv hm2); have HC2 : Hid (Cu w2 b s i lg) := (HC.out.below HB1.out).mv hm2 (by omega); have HR2 : Hid (Row w2 w.heap.size (putL none 0 0 0 0 (.slice none 0 0) 0 false false)) := HR1.out.of_block (hm2.only.block _ (by omega)); clear hm2)
      | (first
      | (refine wpList_load_row 9 rfl rfl 129 (.tmp 2) rfl _ rfl _ _ (HR2.out) Try.underlying129 rfl Try.size129 ?_)
      | (refine wpList_store_row rfl 129 (.tmp 2) (.tmp 9) rfl _ rfl _ rfl _ (HR2.out) rfl Try.size129 (putL_one _ _ _ _ _ _ _ _ (by first | rfl | exact hone)) ?_; intro w4 hR4 hS4; have HRL : Hid (Row w4 w.heap.size (putL none 0 0 0 0 (.slice none 0 0) 0 false false)) := hR4; have HSL : Hid (Sole w.heap.size _ w4) := hS4; clear hR4 hS4)))
    rw [HF.out]
    refine bodyPost_row2 2 3 129 rfl rfl w.heap.size rfl _ _ _ rfl HRL.out Try.underlying129 rfl Try.size129 (show PutPost _ _ _ _ _ _ _ by unfold PutPost; exact ⟨none, 0, 0, 0, 0, _, 0, false, false, rfl, rfl, HM2.out.sole HSL.out (Nat.le_refl _) hb, HC2.out.sole HSL.out (by omega), fun h => (by cases h)⟩)

end Rs
end Go.Proofs.Ytppjlpihaocdiaa
