/- The document's reader: a single part. -/
import Derived.Test.YtppjlpihaocdiaaDtNodeJ
import Derived.Test.YtppjlpihaocdiaaMatchJ
set_option linter.unusedSimpArgs false
set_option linter.unusedVariables false
namespace Go.Proofs.Ytppjlpihaocdiaa
namespace Dt
open Go.RowKit

/-- 'pattern' does what it should where fewer than N bytes are left. -/
def PatAt (N : Nat) : Prop := ∀ (b : Nat) (p : PSt) (X : Nat → Prop) (s : ByteArray) (nv : Value) (st : St) (w : World), Dr w b s p nv X → Wholly s → Gd p.l → p.l.length ≤ 300 + 2 * p.at' → p.g ≤ p.at' → (∀ q, X q → q < w.heap.size) → run s p.at' = some st → st.m = 0 → s.size - p.at' < N →
    Calls Try.prog 60 #[.pointer (some ⟨b, 0, none⟩)] w fun e w' => ∃ nv', e = .returned (.int .i64 ((dChoiceN s N p).2 : Nat)) ∧ Dr w' b s (dChoiceN s N p).1 nv' X ∧ Tr.Fr b nv nv' w w'

/-- Ahead of a single part. -/
structure OneIn (N : Nat) (w : World) (b : Nat) (p : PSt) (X : Nat → Prop) (s : ByteArray) (nv : Value) (st : St) : Prop where
  dr : Dr w b s p nv X
  W : Wholly s
  gd : Gd p.l
  cnt : p.l.length ≤ 300 + 2 * p.at'
  gc : p.g ≤ p.at'
  X : ∀ q, X q → q < w.heap.size
  rn : run s p.at' = some st
  m2 : st.m ≤ 2
  lt : p.at' < s.size
  N : s.size - p.at' ≤ N
  st : inB noStart (byt s p.at') = false

/-- A node is being made in block M, beside the tree. -/
structure Mk (w wr : World) (b : Nat) (s : ByteArray) (p : PSt) (nv nv' : Value) (X : Nat → Prop) (M : Nat) (d : Nd) (sv : Value) : Prop where
  row : Row wr M (ndL d sv)
  dr : Dr wr b s p nv' (fun k => X k ∨ k = M)
  fr : Tr.Fr b nv nv' w wr
  new : w.heap.size ≤ M
  bM : b < M
  nM : nv'.ownBlock ≠ some M

section
variable {w wr w' : World} {b : Nat} {s : ByteArray} {p : PSt} {nv nv' : Value} {X : Nat → Prop} {M : Nat} {d : Nd} {sv : Value}

theorem Mk.lt (h : Mk w wr b s p nv nv' X M d sv) : M < wr.heap.size := h.row.lt (by rw [ndL_length]; omega)

theorem Mk.put (h : Mk w wr b s p nv nv' X M d sv) {d' : Nd} {sv' : Value} (hs : Sole M wr w') (hr : Row w' M (ndL d' sv')) : Mk w w' b s p nv nv' X M d' sv' :=
  ⟨hr, h.dr.sole hs (by have := h.bM; omega) h.nM (.inr rfl), Fr.sole h.fr hs h.new, h.new, h.bM, h.nM⟩

theorem Mk.only (h : Mk w wr b s p nv nv' X M d sv) {p' : PSt} (ho : Only b wr w') (hd : Dr w' b s p' nv' (fun k => X k ∨ k = M)) : Mk w w' b s p' nv nv' X M d sv :=
  ⟨Row.only h.row ho (by have := h.bM; omega), hd, h.fr.trans (Tr.Only.fr ho nv'), h.new, h.bM, h.nM⟩

theorem Mk.grow (h : Mk w wr b s p nv nv' X M d sv) (hB : Below wr.heap.size wr w') : Mk w w' b s p nv nv' X M d sv :=
  ⟨h.row.below hB h.lt, h.dr.grow hB, h.fr.trans (Tr.Below.fr hB nv'), h.new, h.bM, h.nM⟩

theorem Mk.call (h : Mk w wr b s p nv nv' X M d sv) {p' : PSt} {nv'' : Value} (hf : Tr.Fr b nv' nv'' wr w') (hd : Dr w' b s p' nv'' (fun k => X k ∨ k = M)) : Mk w w' b s p' nv nv'' X M d sv := by
  refine ⟨h.row.of_block (hf.block M h.lt (by have := h.bM; omega) (fun e => h.nM e.symm)), hd, h.fr.trans hf, h.new, h.bM, fun e => ?_⟩
  rcases hf.lies with l | l
  · rw [l] at e; exact h.nM e
  · have := l M e
    have := h.lt
    omega

/-- A cell of the node is written. -/
theorem Mk.cell (h : Mk w wr b s p nv nv' X M d sv) (k : Nat) (hk : k < 261) (v : Value) {d' : Nd} {sv' : Value} (he : (ndL d sv).set k v = ndL d' sv') : Mk w (wr.setCell ⟨M, k, none⟩ v) b s p nv nv' X M d' sv' := by
  refine h.put ((Sole.refl _ _).setCell _ _) ?_
  have := h.row.put k (by rw [ndL_length]; exact hk) v
  rw [he] at this
  exact this

theorem Mk.subs (h : Mk w wr b s p nv nv' X M d sv) (zs : List Nat) : Mk w wr b s p nv nv' X M { d with subs := zs } sv := ⟨h.row, h.dr, h.fr, h.new, h.bM, h.nM⟩

theorem Mk.drew (h : Mk w wr b s p nv nv' X M d sv) : Mk w wr.drew b s p nv nv' X M d sv := h.grow (Below.refl _ _).drew

theorem Mk.set (h : Mk w wr b s p nv nv' X M d sv) {f : Nat → Bool} (hf : ∀ k, k < 256 → d.set k = f k) : Mk w wr b s p nv nv' X M { d with set := f } sv := by
  have e : ndL d sv = ndL { d with set := f } sv := by
    rw [ndL_b256, ndL_b256]
    simp only
    rw [b256_congr hf]
  exact ⟨by rw [← e]; exact h.row, h.dr, h.fr, h.new, h.bM, h.nM⟩

theorem Mk.done {ao : Option Addr} {c : Nat} (h : Mk w wr b s p nv nv' X M d (.slice ao d.subs.length c)) (hn : p.l.length ≤ 1000) (hK : Tr.KidsC wr b nv' (fun k => X k ∨ k = M) ao d.subs) :
    Calls Try.prog 83 #[.pointer (some ⟨b, 0, none⟩), .agg (ndL d (.slice ao d.subs.length c)).toArray] wr fun e w' => ∃ nv'', e = .returned (.int .i64 p.l.length) ∧ Dr w' b s ⟨p.at', p.g, p.l ++ [d]⟩ nv'' X ∧ Tr.Fr b nv nv'' w w' := by
  refine (add_any b p _ s nv' wr h.dr hn d ao c hK).mono ?_
  rintro e w8 ⟨nv8, rfl, p1, p2⟩
  exact ⟨nv8, rfl, p1.bar _ (fun k _ hk => .inl hk), h.fr.trans p2⟩
end

section
variable {ch : PSt → PSt × Nat} {s : ByteArray} {p : PSt}
theorem dOneF_94 (h : byt s p.at' = 94) : dOneF ch s p = addN p (p.at' + 1) (leaf 1 noSet) := by unfold dOneF; simp only [h]; rfl
theorem dOneF_36 (h : byt s p.at' = 36) : dOneF ch s p = addN p (p.at' + 1) (leaf 2 noSet) := by unfold dOneF; simp only [h]; rfl
theorem dOneF_46 (h : byt s p.at' = 46) : dOneF ch s p = addN p (p.at' + 1) (leaf 0 fun _ => true) := by unfold dOneF; simp only [h]; rfl
theorem dOneF_40 (h : byt s p.at' = 40) : dOneF ch s p = addN (ch ⟨p.at' + 1, p.g + 1, p.l⟩).1 ((ch ⟨p.at' + 1, p.g + 1, p.l⟩).1.at' + 1) (grpN (ch ⟨p.at' + 1, p.g + 1, p.l⟩).2 p.g) := by unfold dOneF; simp only [h]; rfl
theorem dOneF_91 (h : byt s p.at' = 91) : dOneF ch s p = addN p (dSetV s p.at').1 (leaf 0 (dSetV s p.at').2) := by unfold dOneF; simp only [h]; rfl
theorem dOneF_92 (h : byt s p.at' = 92) : dOneF ch s p = addN p (p.at' + 2) (leaf 0 (addR noSet (val (byt s (p.at' + 1))) (val (byt s (p.at' + 1))))) := by unfold dOneF; simp only [h]; rfl
theorem dOneF_else {c : Nat} (h : byt s p.at' = c) (h1 : c ≠ 94) (h2 : c ≠ 36) (h3 : c ≠ 46) (h4 : c ≠ 40) (h5 : c ≠ 91) (h6 : c ≠ 92) : dOneF ch s p = addN p (p.at' + 1) (leaf 0 (addR noSet c c)) := by
  unfold dOneF; simp only [h]; rw [if_neg h1, if_neg h2, if_neg h3, if_neg h4, if_neg h5, if_neg h6]
end

theorem one_set (c : Nat) : ∀ k, k < 256 → (fun j => if j = c then true else noSet j) k = addR noSet c c k := by
  intro k _
  unfold addR noSet
  by_cases h : k = c
  · subst h; simp
  · have : ¬ (c ≤ k ∧ k ≤ c) := by omega
    simp [h]
    omega

attribute [local go_sem ↓] Go.wp_at_zero Go.wp_at_succ

set_option maxRecDepth 100000 in
set_option maxHeartbeats 4000000 in
theorem one_any (N : Nat) (ih : PatAt N) (b : Nat) (p : PSt) (X : Nat → Prop) (s : ByteArray) (nv : Value) (st : St) (w : World) (hI : OneIn N w b p X s nv st) :
    Calls Try.prog 126 #[.pointer (some ⟨b, 0, none⟩)] w fun e w' => ∃ nv', e = .returned (.int .i64 ((dOneF (dChoiceN s N) s p).2 : Nat)) ∧ Dr w' b s (dOneF (dChoiceN s N) s p).1 nv' X ∧ Tr.Fr b nv nv' w w' := by
  obtain ⟨i, g, l⟩ := p
  have HI : Hid (OneIn N w b ⟨i, g, l⟩ X s nv st) := hI
  obtain ⟨hr, hW, hgd, hcnt, hgc, hX, hrun, hm2, hi, hN, hst⟩ := hI
  simp only at hcnt hgc hrun hi hN hst
  generalize hFF : dOneF (dChoiceN s N) s ⟨i, g, l⟩ = FF
  have HFF : Hid (dOneF (dChoiceN s N) s ⟨i, g, l⟩ = FF) := hFF
  have HR : Hid (Dr w b s ⟨i, g, l⟩ nv X) := hr
  have IH : Hid (PatAt N) := ih
  have HXX : Hid (∀ q, X q → q < w.heap.size) := hX
  have hb := hr.lt
  have h40 := hr.s40
  have HNO : Hid (∀ k, nv.ownBlock = some k → k < w.heap.size) := by
    obtain ⟨xs, ho, _⟩ := hr.own
    exact fun k hk => (ho.lt k hk).2
  have c3 := hr.c3
  have c4 := hr.c4
  have f4 := hr.f4
  have hy : ((s[i]).toNat : Int) = (byt s i : Int) := byt_int s i hi
  have hyl := byt_lt s i
  obtain ⟨c, hc⟩ : ∃ c, byt s i = c := ⟨_, rfl⟩
  have HB : Hid (byt s i = c) := hc
  have HST : Hid (inB noStart c = false) := by rw [Hid, ← hc]; exact hst
  have HRN : Hid (run s (i + 1) = begins st c) := by
    rw [Hid, run_succ hrun, hc, Tr.step_low hm2 HST.out]
  rw [hc] at hy hyl
  have k1 : (0 : Int) ≤ (i : Int) := by omega
  have k2 : (i : Int) < (s.size : Int) := by omega
  clear hr hW hgd hX hrun hst ih hFF hc
  simp only at c4
  go_enter Try.func126, Try.ntmps126
  go_wp2_with fail
  go_quiet (fail)
  have HR1 : Hid (Dr ((w.drewN nq).setCell ⟨b, 4, none⟩ (.int .i64 ((i : Int) + 1))) b s ⟨i + 1, g, l⟩ nv X) := (HR.out.drewN nq).put4 (v := (i : Int) + 1) (i + 1) (by omega) (by omega)
  have HO1 : Hid (Only b w ((w.drewN nq).setCell ⟨b, 4, none⟩ (.int .i64 ((i : Int) + 1)))) := (Only.drewN (Only.refl b w) nq).setCell 4 _
  go_upto_region 3 with fail
  generalize (w.drewN nq).setCell ⟨b, 4, none⟩ (.int .i64 ((i : Int) + 1)) = w1 at HR1 HO1 ⊢
  clear c3 c4 f4
  have HZ1 : Hid (w1.heap.size = w.heap.size) := HO1.out.size
  go_upto_region 4 with (first
    | (refine wpList_build_row 23 rfl rfl 140 _ rfl _ built0 ?_)
    | (refine wpList_alloc_row 4 rfl rfl 140 rfl _ Try.zero140 ?_; intro w3 h3 hR3 hB3; have HR3 : Hid (Row w3 w1.heap.size (ndL ⟨0, noSet, [], 0, 0, 0⟩ (.slice none 0 0))) := hR3; have HB3 : Hid (Below w1.heap.size w1 w3) := hB3; clear hR3 hB3)
    | (refine wpList_store_row rfl 140 (.tmp 4) (.tmp 23) rfl _ rfl _ rfl _ HR3.out rfl (Try.size140 _ _) (ndL_one _ _ _ _) ?_; intro w4 hR4 hS4; have HR4 : Hid (Row w4 w1.heap.size (ndL ⟨0, noSet, [], 0, 0, 0⟩ (.slice none 0 0))) := hR4; have HS4 : Hid (Sole w1.heap.size w3 w4) := hS4; clear hR4 hS4))
  have hz1 := HZ1.out
  have HM : Hid (Mk w w4 b s ⟨i + 1, g, l⟩ nv nv X w1.heap.size ⟨0, noSet, [], 0, 0, 0⟩ (.slice none 0 0)) :=
    ⟨HR4.out, ((HR1.out.bar (fun k => X k ∨ k = w1.heap.size) (fun k hk h => h.elim id (fun e => by omega))).grow HB3.out).sole HS4.out (by omega) (fun e => by have := HNO.out _ e; omega) (.inr rfl), Fr.sole ((Tr.Only.fr HO1.out nv).trans (Tr.Below.fr HB3.out nv)) HS4.out (by omega), by omega, by omega, fun e => by have := HNO.out _ e; omega⟩
  have hbM : b < w1.heap.size := by omega
  clear HR3 HB3 HR4 HS4 HR1 HO1 hz1
  generalize w1.heap.size = M at HM hbM HZ1 h3 ⊢
  have hne1 : M ≠ b := by omega
  have hne2 : b ≠ M := by omega
  have hll : l.length ≤ 1000 := by omega
  by_cases h94 : c = 94
  · subst h94
    have m0 := HM.out.row.cell (ndL_kind _ _)
    have mf := HM.out.row.frozen (k := 0) (by rw [ndL_length]; omega)
    have HM2 : Hid (Mk w (w4.setCell ⟨M, 0, none⟩ (.int .i64 1)) b s ⟨i + 1, g, l⟩ nv nv X M ⟨1, noSet, [], 0, 0, 0⟩ (.slice none 0 0)) := HM.out.cell 0 (by omega) _ (ndL_put_kind _ _ 1)
    simp only at m0
    go_wp2_with (first | (refine wpList_load_row 97 rfl rfl 140 (.tmp 4) rfl _ rfl _ _ HM2.out.row Try.underlying140 rfl (Try.size140 _ _) ?_))
    refine (Mk.done (d := leaf 1 noSet) (ao := none) (c := 0) HM2.out hll (.inl rfl)).mono ?_
    rintro e w8 ⟨nv8, rfl, p1, p2⟩
    go_wp2_with fail
    go_ret
    exact ⟨nv8, by rw [← HFF.out, dOneF_94 HB.out]; rfl, by rw [← HFF.out, dOneF_94 HB.out]; exact p1, p2⟩
  by_cases h36 : c = 36
  · subst h36
    have m0 := HM.out.row.cell (ndL_kind _ _)
    have mf := HM.out.row.frozen (k := 0) (by rw [ndL_length]; omega)
    have HM2 : Hid (Mk w (w4.setCell ⟨M, 0, none⟩ (.int .i64 2)) b s ⟨i + 1, g, l⟩ nv nv X M ⟨2, noSet, [], 0, 0, 0⟩ (.slice none 0 0)) := HM.out.cell 0 (by omega) _ (ndL_put_kind _ _ 2)
    simp only at m0
    go_wp2_with (first | (refine wpList_load_row 97 rfl rfl 140 (.tmp 4) rfl _ rfl _ _ HM2.out.row Try.underlying140 rfl (Try.size140 _ _) ?_))
    refine (Mk.done (d := leaf 2 noSet) (ao := none) (c := 0) HM2.out hll (.inl rfl)).mono ?_
    rintro e w8 ⟨nv8, rfl, p1, p2⟩
    go_wp2_with fail
    go_ret
    exact ⟨nv8, by rw [← HFF.out, dOneF_36 HB.out]; rfl, by rw [← HFF.out, dOneF_36 HB.out]; exact p1, p2⟩
  by_cases h46 : c = 46
  · subst h46
    go_wp2_with fail
    go_loopw [5] (fun v wx => ∃ k : Nat, k ≤ 256 ∧ v = .int .i64 k ∧ Mk w wx b s ⟨i + 1, g, l⟩ nv nv X M ⟨0, fun c => decide (c < k), [], 0, 0, 0⟩ (.slice none 0 0)) (fun v _ => 256 - (intOf v).toNat)
    case atStart => exact ⟨0, by omega, rfl, HM.out.set (fun k _ => by simp [noSet])⟩
    case round =>
      obtain ⟨k, hk, rfl, hx⟩ := hrel
      have HX : Hid (Mk w wr b s ⟨i + 1, g, l⟩ nv nv X M ⟨0, fun c => decide (c < k), [], 0, 0, 0⟩ (.slice none 0 0)) := hx
      by_cases hlt : k < 256
      · have ca := hx.row.cell (ndL_set _ _ hlt)
        have fa := hx.row.frozen (k := k + 1) (by rw [ndL_length]; omega)
        have HP : Hid (Mk w (wr.setCell ⟨M, k + 1, none⟩ (.bool true)) b s ⟨i + 1, g, l⟩ nv nv X M ⟨0, fun c => decide (c < k + 1), [], 0, 0, 0⟩ (.slice none 0 0)) := by
          refine (hx.cell (k + 1) (by omega) _ (ndL_put_set _ _ hlt true)).set (fun j _ => ?_)
          simp only
          by_cases e : j = k
          · subst e; simp
          · have : (j < k) ↔ (j < k + 1) := by omega
            simp [e, this]
        have k3 : (0 : Int) ≤ (k : Int) := by omega
        have k4 : (k : Int) < 256 := by omega
        clear hx
        simp only at ca
        rw [show k + 1 = 1 + k by omega] at ca fa HP
        generalize hgen : decide (k < k) = bb at ca
        clear hgen
        go_wp2_with fail
        go_roundw
        case rel => exact ⟨k + 1, by omega, by go_num, by rw [show k + 1 = 1 + k by omega] at *; exact HP.out⟩
        case measure => simp [intOf]; omega
      · have hk256 : k = 256 := by omega
        subst hk256
        have HX2 : Hid (Mk w wr b s ⟨i + 1, g, l⟩ nv nv X M ⟨0, fun _ => true, [], 0, 0, 0⟩ (.slice none 0 0)) := hx.set (fun j hj => by simp [hj])
        clear hx
        go_wp2_with (first | (refine wpList_load_row 97 rfl rfl 140 (.tmp 4) rfl _ rfl _ _ HX2.out.row Try.underlying140 rfl (Try.size140 _ _) ?_))
        refine (Mk.done (d := leaf 0 fun _ => true) (ao := none) (c := 0) HX2.out hll (.inl rfl)).mono ?_
        rintro e w8 ⟨nv8, rfl, p1, p2⟩
        go_wp2_with fail
        go_ret
        exact ⟨nv8, by rw [← HFF.out, dOneF_46 HB.out]; rfl, by rw [← HFF.out, dOneF_46 HB.out]; exact p1, p2⟩
  by_cases h91 : c = 91
  · subst h91
    have HRN2 : Hid (run s (i + 1) = some ⟨4, st.o, st.a, st.l⟩) := by rw [Hid, HRN.out]; rfl
    go_wp2_with fail
    refine (set_any b i g l _ s nv _ HM.out.dr HI.out.W st.o st.a st.l HRN2.out hi).mono ?_
    rintro e w5 ⟨rfl, hd5, hf5⟩
    have HM5 : Hid (Mk w w5 b s ⟨(dSetV s i).1, g, l⟩ nv nv X M ⟨0, noSet, [], 0, 0, 0⟩ (.slice none 0 0)) := HM.out.call hf5 hd5
    clear hd5 hf5
    go_wp2_with (first
      | (refine wpList_store_set rfl 56 (.tmp 74) (.tmp 73) rfl _ rfl _ rfl _ _ HM5.out.row (Try.size56 _) ?_; intro w6 hR6 hS6; have HM6 : Hid (Mk w w6 b s ⟨(dSetV s i).1, g, l⟩ nv nv X M ⟨0, (dSetV s i).2, [], 0, 0, 0⟩ (.slice none 0 0)) := HM5.out.put hS6 hR6; clear hR6 hS6)
      | (refine wpList_load_row 97 rfl rfl 140 (.tmp 4) rfl _ rfl _ _ HM6.out.row Try.underlying140 rfl (Try.size140 _ _) ?_))
    refine (Mk.done (d := leaf 0 (dSetV s i).2) (ao := none) (c := 0) HM6.out hll (.inl rfl)).mono ?_
    rintro e w8 ⟨nv8, rfl, p1, p2⟩
    go_wp2_with fail
    go_ret
    exact ⟨nv8, by rw [← HFF.out, dOneF_91 HB.out]; rfl, by rw [← HFF.out, dOneF_91 HB.out]; exact p1, p2⟩
  by_cases h40c : c = 40
  · subst h40c
    have hb40 : begins st 40 = if st.o = 5 ∨ st.a = 9 then none else some ⟨0, st.o + 1, st.a + 1, st.l⟩ := rfl
    obtain ⟨st1, hs1⟩ := HI.out.W.all (show i + 1 ≤ s.size by omega)
    have hs2 : st1 = ⟨0, st.o + 1, st.a + 1, st.l⟩ := by
      have e := HRN.out
      rw [hs1, hb40] at e
      split at e
      · cases e
      · cases e; rfl
    have HS1 : Hid (run s (i + 1) = some ⟨0, st.o + 1, st.a + 1, st.l⟩) := by rw [Hid, hs1, hs2]
    obtain ⟨RR, hEnd⟩ := choices_read HI.out.W N ⟨i + 1, g + 1, l⟩ ⟨i + 1, g + 1, l⟩ ⟨0, st.o + 1, st.a + 1, st.l⟩ rfl rfl HI.out.gd HI.out.gd HS1.out rfl (by show i + 1 ≤ s.size; omega) (by show s.size - (i + 1) < N; omega)
    have hcn := cnt_choiceN s N ⟨i + 1, g + 1, l⟩
    have hat : (dChoiceN s N ⟨i + 1, g + 1, l⟩).1.at' < s.size := by
      rw [← RR.at']
      rcases Nat.lt_or_ge (choiceN s N ⟨i + 1, g + 1, l⟩).1.at' s.size with h | h
      · exact h
      · exfalso
        have he : (choiceN s N ⟨i + 1, g + 1, l⟩).1.at' = s.size := Nat.le_antisymm RR.le h
        obtain ⟨st3, r1, r2, r3⟩ := RR.rn
        rw [he] at r1
        obtain ⟨st4, r4, r5⟩ := HI.out.W
        rw [r1] at r4
        cases r4
        simp only at r2
        simp [whole, r2] at r5
    clear hb40 hs1 hs2 RR hEnd
    have m0 := HM.out.row.cell (ndL_kind _ _)
    have mf := HM.out.row.frozen (k := 0) (by rw [ndL_length]; omega)
    have m1 := HM.out.row.cell (ndL_tail _ _ 1)
    have mf1 := HM.out.row.frozen (k := 258) (by rw [ndL_length]; omega)
    have b1 := HM.out.dr.c1
    have bf1 := HM.out.dr.f1
    simp only at m0 m1 b1
    have HM2 : Hid (Mk w ((w4.setCell ⟨M, 0, none⟩ (.int .i64 3)).setCell ⟨M, 258, none⟩ (.int .i64 (g : Int))) b s ⟨i + 1, g, l⟩ nv nv X M ⟨3, noSet, [], g, 0, 0⟩ (.slice none 0 0)) := (HM.out.cell 0 (by omega) (.int .i64 3) (ndL_put_kind _ _ 3)).cell 258 (by omega) _ (ndL_put_num _ _ g)
    have HM3 : Hid (Mk w (((w4.setCell ⟨M, 0, none⟩ (.int .i64 3)).setCell ⟨M, 258, none⟩ (.int .i64 (g : Int))).setCell ⟨b, 1, none⟩ (.int .i64 ((g : Int) + 1))) b s ⟨i + 1, g + 1, l⟩ nv nv X M ⟨3, noSet, [], g, 0, 0⟩ (.slice none 0 0)) := HM2.out.only ((Only.refl b _).setCell 1 _) (HM2.out.dr.put1 (v := (g : Int) + 1) (g + 1) (by omega))
    go_wp2_with fail
    refine (IH.out b ⟨i + 1, g + 1, l⟩ _ s nv _ _ HM3.out.dr HI.out.W HI.out.gd (by show l.length ≤ 300 + 2 * (i + 1); omega) (by show g + 1 ≤ i + 1; omega) (fun q hq => ?_) HS1.out rfl (by show s.size - (i + 1) < N; omega)).mono ?_
    · have hlt := HM3.out.lt
      rcases hq with hq | hq
      · have := HXX.out q hq
        have := HM3.out.new
        omega
      · rw [hq]; exact hlt
    rintro e w5 ⟨nv5, rfl, hd5, hf5⟩
    have HM5 : Hid (Mk w w5 b s (dChoiceN s N ⟨i + 1, g + 1, l⟩).1 nv nv5 X M ⟨3, noSet, [], g, 0, 0⟩ (.slice none 0 0)) := HM3.out.call hf5 hd5
    clear hd5 hf5 m0 mf m1 mf1 b1 bf1
    generalize hrr : dChoiceN s N ⟨i + 1, g + 1, l⟩ = rr at HM5 hat hcn ⊢
    have HRR : Hid (dChoiceN s N ⟨i + 1, g + 1, l⟩ = rr) := hrr
    clear hrr
    obtain ⟨⟨j, gj, lj⟩, z⟩ := rr
    simp only at hat hcn ⊢
    have m2 := HM5.out.row.cell (ndL_tail _ _ 0)
    have mf2 := HM5.out.row.frozen (k := 257) (by rw [ndL_length]; omega)
    have b4 := HM5.out.dr.c4
    have bf4 := HM5.out.dr.f4
    simp only at m2 b4
    have hMl := HM5.out.lt
    have hBb := fun ob => (Below.refl w5.heap.size w5).alloc (Nat.le_refl _) ob
    have HBB : Hid (∀ ob, Below w5.heap.size w5 (w5.alloc ob)) := hBb
    have hbl := HM5.out.dr.lt
    clear hBb
    have hsz6 : ((w5.setCell ⟨M, 257, none⟩ (.slice (some ⟨w5.heap.size, 0, none⟩) 1 1)).setCell ⟨b, 4, none⟩ (.int .i64 ((j : Int) + 1))).heap.size = w5.heap.size := by simp [World.setCell]
    have HM6 : Hid (Mk w (((w5.setCell ⟨M, 257, none⟩ (.slice (some ⟨w5.heap.size, 0, none⟩) 1 1)).setCell ⟨b, 4, none⟩ (.int .i64 ((j : Int) + 1))).alloc (.cells #[.int .i64 (z : Int)] 3)) b s ⟨j + 1, gj, lj⟩ nv nv5 X M ⟨3, noSet, [z], g, 0, 0⟩ (.slice (some ⟨w5.heap.size, 0, none⟩) 1 1)) := by
      have h1 := HM5.out.cell 257 (by omega) (.slice (some ⟨w5.heap.size, 0, none⟩) 1 1) (ndL_put_subs _ _ _)
      have h2 := h1.only ((Only.refl b _).setCell 4 _) (h1.dr.put4 (v := (j : Int) + 1) (j + 1) (by omega) (by show j + 1 ≤ s.size; omega))
      exact (h2.grow ((Below.refl _ _).alloc (Nat.le_refl _) _)).subs [z]
    have HK : Hid (Tr.KidsC (((w5.setCell ⟨M, 257, none⟩ (.slice (some ⟨w5.heap.size, 0, none⟩) 1 1)).setCell ⟨b, 4, none⟩ (.int .i64 ((j : Int) + 1))).alloc (.cells #[.int .i64 (z : Int)] 3)) b nv5 (fun k => X k ∨ k = M) (some ⟨w5.heap.size, 0, none⟩) [z]) := by
      refine .inr ⟨w5.heap.size, rfl, by omega, fun e => ?_, fun h => ?_, fun k y hy => ?_⟩
      · obtain ⟨xs, ho, _⟩ := HM5.out.dr.own
        have := (ho.lt _ e).2
        omega
      · rcases h with h | h
        · have := HXX.out _ h
          have := HM5.out.fr.size
          omega
        · omega
      · have hk0 : k = 0 := by
          have := (List.getElem?_eq_some_iff.1 hy).1
          simpa using this
        subst hk0
        have hyz : y = z := by simpa using hy.symm
        subst hyz
        have hl := heap_alloc_last ((w5.setCell ⟨M, 257, none⟩ (.slice (some ⟨w5.heap.size, 0, none⟩) 1 1)).setCell ⟨b, 4, none⟩ (.int .i64 ((j : Int) + 1))) (.cells #[.int .i64 (y : Int)] 3)
        rw [hsz6] at hl
        rw [cell_of_row _ w5.heap.size 0 #[.int .i64 (y : Int)] 3 (0, 0) hl]
        rfl
    clear hsz6
    go_wp2_with (first
      | (refine wpList_load_row 97 rfl rfl 140 (.tmp 4) rfl _ rfl _ _ HM6.out.row Try.underlying140 rfl (Try.size140 _ _) ?_))
    refine (Mk.done (d := grpN z g) (ao := some ⟨w5.heap.size, 0, none⟩) (c := 1) HM6.out (by show lj.length ≤ 1000; omega) HK.out).mono ?_
    rintro e w8 ⟨nv8, rfl, p1, p2⟩
    go_wp2_with fail
    go_ret
    exact ⟨nv8, by rw [← HFF.out, dOneF_40 HB.out, HRR.out]; rfl, by rw [← HFF.out, dOneF_40 HB.out, HRR.out]; exact p1, p2⟩
  by_cases h92 : c = 92
  · subst h92
    have HRN2 : Hid (run s (i + 1) = some ⟨3, st.o, st.a, st.l⟩) := by rw [Hid, HRN.out]; rfl
    have hi1 : i + 1 < s.size := HI.out.W.inside HRN2.out (by omega) (by simp) (by simp)
    have hy1 : ((s[i + 1]).toNat : Int) = (byt s (i + 1) : Int) := byt_int s (i + 1) hi1
    have hyl1 := byt_lt s (i + 1)
    have hv := val_le hyl1
    generalize hgy : byt s (i + 1) = y at hy1 hyl1 hv
    have HGY : Hid (byt s (i + 1) = y) := hgy
    clear hgy
    have b3 := HM.out.dr.c3
    have b4 := HM.out.dr.c4
    have bf4 := HM.out.dr.f4
    simp only at b4
    have mc := HM.out.row.cell (ndL_set _ _ (k := val y) (by omega))
    have mf := HM.out.row.frozen (k := val y + 1) (by rw [ndL_length]; omega)
    rw [show val y + 1 = 1 + val y by omega] at mc mf
    have k5 : (0 : Int) ≤ (i : Int) + 1 := by omega
    have k6 : (i : Int) + 1 < (s.size : Int) := by omega
    have k7 : (0 : Int) ≤ (val y : Int) := by omega
    have k8 : (val y : Int) < 256 := by omega
    have HVL : Hid (∀ (y' : Nat) (w' : World), (y' : Int) = y → Calls Try.prog 59 #[.int .u8 y'] w' fun e w'' => e = .returned (.int .i64 (val y : Nat)) ∧ w'' = w') := by
      intro y' w' h
      have : y' = y := by omega
      subst this
      exact value_any y' w' hyl1
    go_upto_region 25 with fail
    go_region_with (go_at_call 59; refine (HVL.out _ _ (by first | exact hy1 | omega)).mono ?_; rintro e w9 ⟨rfl, rfl⟩)
    all_goals
      have HM2 : Hid (Mk w (((w4.setCell ⟨M, 1 + val y, none⟩ (.bool true)).setCell ⟨b, 4, none⟩ (.int .i64 ((i : Int) + 1 + 1))).drew) b s ⟨i + 2, g, l⟩ nv nv X M ⟨0, addR noSet (val y) (val y), [], 0, 0, 0⟩ (.slice none 0 0)) := by
        have h1 := (HM.out.cell (val y + 1) (by omega) (.bool true) (ndL_put_set _ _ (by omega) true)).set (one_set (val y))
        rw [show val y + 1 = 1 + val y by omega] at h1
        exact (h1.only ((Only.refl b _).setCell 4 _) (h1.dr.put4 (v := (i : Int) + 1 + 1) (i + 2) (by omega) (by omega))).drew
      go_wp2_with (first | (refine wpList_load_row 97 rfl rfl 140 (.tmp 4) rfl _ rfl _ _ HM2.out.row Try.underlying140 rfl (Try.size140 _ _) ?_))
      refine (Mk.done (d := leaf 0 (addR noSet (val y) (val y))) (ao := none) (c := 0) HM2.out hll (.inl rfl)).mono ?_
      rintro e w8 ⟨nv8, rfl, p1, p2⟩
      go_wp2_with fail
      go_ret
      exact ⟨nv8, by rw [← HFF.out, dOneF_92 HB.out]; rfl, by rw [← HFF.out, dOneF_92 HB.out, show byt s (PSt.at' ⟨i, g, l⟩ + 1) = y from HGY.out]; exact p1, p2⟩
  · have q1 : ((c : Int) == 94) = false := by simp; omega
    have q2 : ((c : Int) == 36) = false := by simp; omega
    have q3 : ((c : Int) == 46) = false := by simp; omega
    have q4 : ((c : Int) == 40) = false := by simp; omega
    have q5 : ((c : Int) == 91) = false := by simp; omega
    have q6 : ((c : Int) == 92) = false := by simp; omega
    have mc := HM.out.row.cell (ndL_set _ _ (k := c) hyl)
    have mf := HM.out.row.frozen (k := c + 1) (by rw [ndL_length]; omega)
    rw [show c + 1 = 1 + c by omega] at mc mf
    have k7 : (0 : Int) ≤ (c : Int) := by omega
    have k8 : (c : Int) < 256 := by omega
    have HM2 : Hid (Mk w (w4.setCell ⟨M, 1 + c, none⟩ (.bool true)) b s ⟨i + 1, g, l⟩ nv nv X M ⟨0, addR noSet c c, [], 0, 0, 0⟩ (.slice none 0 0)) := by
      have h1 := (HM.out.cell (c + 1) (by omega) (.bool true) (ndL_put_set _ _ hyl true)).set (one_set c)
      rw [show c + 1 = 1 + c by omega] at h1
      exact h1
    go_wp2_with (first | (refine wpList_load_row 97 rfl rfl 140 (.tmp 4) rfl _ rfl _ _ HM2.out.row Try.underlying140 rfl (Try.size140 _ _) ?_))
    refine (Mk.done (d := leaf 0 (addR noSet c c)) (ao := none) (c := 0) HM2.out hll (.inl rfl)).mono ?_
    rintro e w8 ⟨nv8, rfl, p1, p2⟩
    go_wp2_with fail
    go_ret
    exact ⟨nv8, by rw [← HFF.out, dOneF_else HB.out h94 h36 h46 h40c h91 h92]; rfl, by rw [← HFF.out, dOneF_else HB.out h94 h36 h46 h40c h91 h92]; exact p1, p2⟩
end Dt
end Go.Proofs.Ytppjlpihaocdiaa
