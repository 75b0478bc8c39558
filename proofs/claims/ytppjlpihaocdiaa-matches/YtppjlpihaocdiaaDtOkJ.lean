/- Several texts in one. -/
import Derived.Test.YtppjlpihaocdiaaDtWayJ
import Derived.Test.YtppjlpihaocdiaaRefToldJ
/- The document's reader: a whole pattern; its tree. -/
set_option linter.unusedSimpArgs false
set_option linter.unusedVariables false
namespace Go.Proofs.Ytppjlpihaocdiaa
namespace Dt
open Go.RowKit

/-- Ahead of a way. -/
structure CIn (N : Nat) (s : ByteArray) (p : PSt) (st : St) (zs : List Nat) : Prop where
  rn : run s p.at' = some st
  m0 : st.m = 0
  gd : Gd p.l
  cnt : p.l.length ≤ 300 + 2 * p.at'
  gc : p.g ≤ p.at'
  zl : zs.length ≤ p.at'
  N : s.size - p.at' ≤ N
  le : p.at' ≤ s.size

theorem CIn.starts {N : Nat} {s : ByteArray} {p : PSt} {st : St} {zs : List Nat} (h : CIn N s p st zs) (hW : Wholly s) : p.at' < s.size ∧ inB noStart (byt s p.at') = false ∧ startsP s p.at' = true := by
  have hi2 := hW.inside h.rn h.le (by have := h.m0; omega) (by have := h.m0; omega)
  have hc : inB noStart (byt s p.at') = false := by
    obtain ⟨st1, h1, _⟩ := hW.next h.rn hi2
    have hb : step st (byt s p.at') = begins st (byt s p.at') := by unfold step; rw [if_pos h.m0]
    rw [hb] at h1
    cases hn : inB noStart (byt s p.at') with
    | false => rfl
    | true =>
      have hn' := (inB_noStart _).1 hn
      unfold begins at h1
      rw [if_neg (by omega), if_neg (by omega), if_neg (by omega), if_pos hn] at h1
      cases h1
  exact ⟨hi2, hc, by unfold startsP; simp [hi2, hc]⟩

theorem CIn.win {N : Nat} {s : ByteArray} {p : PSt} {st : St} {zs : List Nat} (h : CIn N s p st zs) (hW : Wholly s) : WIn N s p st [] := by
  obtain ⟨h1, h2, h3⟩ := h.starts hW
  exact ⟨h.rn, (by have := h.m0; omega), (fun e => by rw [h3] at e; cases e), fun _ => h3, h.gd, h.cnt, h.gc, by simp, h.N, h.le⟩

/-- Behind a way. -/
structure CEnd (s : ByteArray) (p r : PSt) : Prop where
  lo : p.at' < r.at'
  le : r.at' ≤ s.size
  gd : Gd r.l
  cnt : r.l.length ≤ 301 + 2 * r.at'
  gc : r.g ≤ r.at'
  rn : ∃ st, run s r.at' = some st ∧ (st.m = 1 ∨ st.m = 2)

theorem CIn.way {N : Nat} {s : ByteArray} {p : PSt} {st : St} {zs : List Nat} (h : CIn N s p st zs) (hW : Wholly s) : CEnd s p (dWayF (dChoiceN s N) s p).1 := by
  obtain ⟨h1, h2, h3⟩ := h.starts hW
  obtain ⟨R, hE, hst⟩ := way_reads hW (choices_read hW N) s.size p p st [] [] rfl rfl h.gd h.gd h.rn (by have := h.m0; omega) h1 h.N h2 (sofar_nil _ _) (by omega)
  have hat := R.at'
  have hlo := R.lo
  have hle := R.le
  rw [hat] at hlo hle
  have hc := cnt_wayL (s := s) (cnt_choiceN s N) (s.size + 1) p []
  have hg := gcnt_wayL (s := s) (gcnt_choiceN s N) (s.size + 1) p []
  have hcn := h.cnt
  have hgc := h.gc
  obtain ⟨st', r1, r2, r3⟩ := R.rn
  rw [hat] at r1
  have e : dWayF (dChoiceN s N) s p = dWayL (dChoiceN s N) s (s.size + 1) p [] := rfl
  rw [e]
  exact ⟨hlo, hle, R.gd', by omega, by omega, st', r1, r3⟩

theorem CEnd.next {N : Nat} {s : ByteArray} {p r : PSt} {zs : List Nat} {z : Nat} (h : CEnd s p r) (hz : zs.length ≤ p.at') (hN : s.size - p.at' ≤ N) (h124 : pk s r.at' = 124) : ∃ st, CIn N s ⟨r.at' + 1, r.g, r.l⟩ st (zs ++ [z]) := by
  have hlo := h.lo
  have hle := h.le
  have hj : r.at' < s.size := by
    rcases Nat.lt_or_ge r.at' s.size with hh | hh
    · exact hh
    · rw [pk_out (by omega)] at h124; omega
  obtain ⟨st2, k1, k3⟩ := h.rn
  have hrun : run s (r.at' + 1) = some ⟨0, st2.o, st2.a, st2.l⟩ := by
    rw [run_succ k1, show byt s r.at' = 124 by rw [pk_in hj] at h124; omega]
    exact Tr.step_bar k3
  have h1 := h.cnt
  have h2 := h.gc
  exact ⟨_, hrun, rfl, h.gd, by show r.l.length ≤ 300 + 2 * (r.at' + 1); omega, by show r.g ≤ r.at' + 1; omega, by show (zs ++ [z]).length ≤ r.at' + 1; simp; omega, by show s.size - (r.at' + 1) ≤ N; omega, hj⟩

attribute [local go_sem ↓] Go.wp_at_zero Go.wp_at_succ

set_option maxRecDepth 100000 in
set_option maxHeartbeats 4000000 in
theorem pattern_any (N : Nat) (ih : PatAt N) (b : Nat) (p : PSt) (X : Nat → Prop) (s : ByteArray) (nv : Value) (st : St) (w : World) (hr : Dr w b s p nv X) (hW : Wholly s) (hX : ∀ q, X q → q < w.heap.size) (hin : CIn N s p st []) :
    Calls Try.prog 60 #[.pointer (some ⟨b, 0, none⟩)] w fun e w' => ∃ nv', e = .returned (.int .i64 ((dChoiceF (dChoiceN s N) s p).2 : Nat)) ∧ Dr w' b s (dChoiceF (dChoiceN s N) s p).1 nv' X ∧ Tr.Fr b nv nv' w w' := by
  generalize hFF : dChoiceF (dChoiceN s N) s p = FF
  have HFF : Hid (dChoiceL (dChoiceN s N) s (s.size + 1) p [] = FF) := hFF
  have HR : Hid (Dr w b s p nv X) := hr
  have IH : Hid (PatAt N) := ih
  have HW : Hid (Wholly s) := hW
  have HXX : Hid (∀ q, X q → q < w.heap.size) := hX
  have HIN : Hid (CIn N s p st []) := hin
  have hb := hr.lt
  have h40 := hr.s40
  have HNO : Hid (∀ k, nv.ownBlock = some k → k < w.heap.size) := by
    obtain ⟨xs, ho, _⟩ := hr.own
    exact fun k hk => (ho.lt k hk).2
  obtain ⟨i0, hi0, hz0, hz1, hz2⟩ := info_parts Try.infoi3
  clear hr ih hX hin hFF hW
  go_enter Try.func60, Try.ntmps60
  go_wp2_with (first
    | (refine wpList_build_row 6 rfl rfl 140 _ rfl _ built4 ?_)
    | (refine wpList_alloc_row 3 rfl rfl 140 rfl _ Try.zero140 ?_; intro w3 h3 hR3 hB3; have HR3 : Hid (Row w3 w.heap.size (ndL ⟨0, noSet, [], 0, 0, 0⟩ (.slice none 0 0))) := hR3; have HB3 : Hid (Below w.heap.size w w3) := hB3; clear hR3 hB3)
    | (refine wpList_store_row rfl 140 (.tmp 3) (.tmp 6) rfl _ rfl _ rfl _ HR3.out (by rw [ndL_length, ndL_length]) (Try.size140 _ _) (ndL_one _ _ _ _) ?_; intro w4 hR4 hS4; have HR4 : Hid (Row w4 w.heap.size (ndL ⟨4, noSet, [], 0, 0, 0⟩ (.slice none 0 0))) := hR4; have HS4 : Hid (Sole w.heap.size w3 w4) := hS4; clear hR4 hS4))
  have HG : Hid (Ga w w4 b s p nv nv (.slice none 0 0) X w.heap.size 4 []) :=
    ⟨HR4.out, ((HR.out.bar (fun k => (X k ∨ k = w.heap.size) ∨ (Value.slice none 0 0).ownBlock = some k) (fun k hk h => by
      rcases h with (h | h) | h
      · exact h
      · omega
      · cases h)).grow HB3.out).sole HS4.out (by omega) (fun e => by have := HNO.out _ e; omega) (.inl (.inr rfl)), Fr.sole (Tr.Below.fr HB3.out nv) HS4.out (Nat.le_refl _), ⟨World.ownsRow_nil _ _ _ _, fun k hk => by cases hk⟩, Nat.le_refl _, hb, fun e => by have := HNO.out _ e; omega⟩
  clear HR3 HB3 HR4 HS4
  go_simp
  go_loopw [] (fun wr => ∃ p' nv' kv zs st f, Ga w wr b s p' nv nv' kv X w.heap.size 4 zs ∧ CIn N s p' st zs ∧ s.size < f + p'.at' ∧ Hid (FF = dChoiceL (dChoiceN s N) s f p' zs)) (fun wr => s.size - at4 wr b)
  case atStart => exact ⟨p, nv, _, [], st, s.size + 1, HG.out, HIN.out, by omega, HFF.out.symm⟩
  case round =>
    obtain ⟨⟨j, gj, lj⟩, nv1, kv, zs, st1, f, hG, hI, hf, HF⟩ := hrel
    have HGr : Hid (Ga w wr b s ⟨j, gj, lj⟩ nv nv1 kv X w.heap.size 4 zs) := hG
    have HI : Hid (CIn N s ⟨j, gj, lj⟩ st1 zs) := hI
    have HAT : Hid (at4 wr b = j) := at4_is hG.dr.c4
    have hle := hI.le
    have hzl := hI.zl
    have HCE : Hid (CEnd s ⟨j, gj, lj⟩ (dWayF (dChoiceN s N) s ⟨j, gj, lj⟩).1) := hI.way HW.out
    have hbne : b ≠ w.heap.size := by omega
    simp only at hle hzl hf
    have HF2 : Hid (FF = if pk s (dWayF (dChoiceN s N) s ⟨j, gj, lj⟩).1.at' = 124 then dChoiceL (dChoiceN s N) s (f - 1) ⟨(dWayF (dChoiceN s N) s ⟨j, gj, lj⟩).1.at' + 1, (dWayF (dChoiceN s N) s ⟨j, gj, lj⟩).1.g, (dWayF (dChoiceN s N) s ⟨j, gj, lj⟩).1.l⟩ (zs ++ [(dWayF (dChoiceN s N) s ⟨j, gj, lj⟩).2]) else addN (dWayF (dChoiceN s N) s ⟨j, gj, lj⟩).1 (dWayF (dChoiceN s N) s ⟨j, gj, lj⟩).1.at' (rowN 4 (zs ++ [(dWayF (dChoiceN s N) s ⟨j, gj, lj⟩).2]))) := by
      rw [Hid, HF.out, show f = (f - 1) + 1 by omega, dChoiceL]
      rfl
    clear hG hI HG HIN
    go_wp2_with fail
    refine (way_any N IH.out b ⟨j, gj, lj⟩ _ s nv1 st1 _ HGr.out.dr HW.out (fun q hq => ?_) (HI.out.win HW.out)).mono ?_
    · have := HGr.out.lt
      rcases hq with (hq | hq) | hq
      · have := HXX.out q hq
        omega
      · omega
      · exact (HGr.out.kd.own.lt q hq).2
    rintro e w6 ⟨nv6, rfl, hd6, hf6⟩
    have HG6 : Hid (Ga w w6 b s (dWayF (dChoiceN s N) s ⟨j, gj, lj⟩).1 nv nv6 kv X w.heap.size 4 zs) := HGr.out.call hf6 hd6
    clear hd6 hf6
    generalize hrr : dWayF (dChoiceN s N) s ⟨j, gj, lj⟩ = rr at HG6 HF2 HCE ⊢
    obtain ⟨⟨j6, g6, l6⟩, z6⟩ := rr
    clear hrr
    have hlo6 := HCE.out.lo
    have hle6 := HCE.out.le
    have hcn6 := HCE.out.cnt
    simp only at hlo6 hle6 hcn6 ⊢
    have m257 := HG6.out.row.cell (ndL_tail _ _ 0)
    have f257 := HG6.out.row.frozen (k := 257) (by rw [ndL_length]; omega)
    have hMl6 := HG6.out.lt
    have HMF : Hid (∀ {w2 : World}, (w6.alloc (.cells #[.int .i64 (z6 : Int)] 3)).grownBy w2 kv.ownBlock → w2.cell? ⟨w.heap.size, 257, none⟩ = some kv ∧ w2.frozen? ⟨w.heap.size, 257, none⟩ = false) := by
      intro w2 hg
      have hx : w2.heap[w.heap.size]? = w6.heap[w.heap.size]? := by
        rw [hg.block w.heap.size (by simp; omega) (fun e => by have := (HG6.out.kd.own.lt _ e.symm).1; omega), Below.heap_alloc _ _ _ hMl6]
      exact ⟨(World.cell?_of_block (w := w6) (w' := w2) (a := ⟨w.heap.size, 257, none⟩) hx).trans m257, (World.frozen?_of_block (w := w6) (w' := w2) (a := ⟨w.heap.size, 257, none⟩) hx).trans f257⟩
    have hzl6 : zs.length ≤ 40 := by omega
    go_wp2_with (at_builtin; refine wpList_append_lies _ rfl _ _ 57 rfl (w.heap.size + 1) 3 i0 (.int .i64 0) 1 8 Try.underlying57 hi0 hz0 hz1 hz2 rfl (by omega) kv zs.length (zs.map fun z : Nat => Value.int .i64 (z : Int)) rfl (HG6.out.kd.own.alloc _) ⟨w6.heap.size, 0, none⟩ 1 1 [.int .i64 (z6 : Int)] rfl rfl (cell_one_new _ _ _) (fun x hx => by simp at hx; subst hx; rfl) (by omega) (by unfold maxLen; omega) (by omega) (by simp; omega) (w6.heap.size + 1) (by simp) ?_; intro gg cap w7 hown7 hgrow hat hlt7; have HM7 : Hid (Ga w (w7.setCell ⟨w.heap.size, 257, none⟩ (.slice (some ⟨gg, 0, none⟩) (zs.length + 1) cap)) b s ⟨j6, g6, l6⟩ nv nv6 (.slice (some ⟨gg, 0, none⟩) (zs.length + 1) cap) X w.heap.size 4 (zs ++ [z6])) := HG6.out.more hown7 hgrow hat; obtain ⟨m7, f7⟩ := HMF.out hgrow; clear hown7 hgrow hat hlt7)
    refine (is_any b ⟨j6, g6, l6⟩ _ s nv6 124 _ HM7.out.dr).mono ?_
    rintro e w8 ⟨rfl, n8, rfl⟩
    have HM8 : Hid _ := HM7.out.drewN n8
    clear m7 f7 m257 f257 HMF HG6
    generalize (w7.setCell ⟨w.heap.size, 257, none⟩ (.slice (some ⟨gg, 0, none⟩) (zs.length + 1) cap)).drewN n8 = w8 at HM8 ⊢
    simp only
    by_cases h124 : pk s j6 = ((124 : Nat) : Int)
    · have hd : decide (pk s j6 = ((124 : Nat) : Int)) = true := by simpa using h124
      rw [hd]
      obtain ⟨st2, hC⟩ := HCE.out.next (z := z6) HI.out.zl HI.out.N h124
      have HC : Hid (CIn N s ⟨j6 + 1, g6, l6⟩ st2 (zs ++ [z6])) := hC
      have hj6 := hC.le
      simp only at hj6
      have HF3 : Hid (FF = dChoiceL (dChoiceN s N) s (f - 1) ⟨j6 + 1, g6, l6⟩ (zs ++ [z6])) := by
        rw [Hid, HF2.out, if_pos (show pk s j6 = 124 from h124)]
      have HM9 : Hid (Ga w (w8.setCell ⟨b, 4, none⟩ (.int .i64 ((j6 : Int) + 1))) b s ⟨j6 + 1, g6, l6⟩ nv nv6 (.slice (some ⟨gg, 0, none⟩) (zs.length + 1) cap) X w.heap.size 4 (zs ++ [z6])) := HM8.out.put4 (v := (j6 : Int) + 1) (j6 + 1) (by omega) hj6
      have c4 := HM8.out.dr.c4
      have f4 := HM8.out.dr.f4
      simp only at c4
      clear hd h124 hC
      go_wp2_with fail
      refine ⟨⟨⟨j6 + 1, g6, l6⟩, nv6, _, zs ++ [z6], st2, f - 1, HM9.out, HC.out, by show s.size < f - 1 + (j6 + 1); omega, HF3.out⟩, ?_⟩
      rw [at4_is HM9.out.dr.c4, HAT.out]
      show s.size - (j6 + 1) < s.size - j
      omega
    · have hd : decide (pk s j6 = ((124 : Nat) : Int)) = false := by simpa using h124
      rw [hd]
      have HE : Hid (FF = addN ⟨j6, g6, l6⟩ j6 (rowN 4 (zs ++ [z6]))) := by
        rw [Hid, HF2.out, if_neg (show ¬ pk s j6 = 124 from h124)]
      clear hd h124
      go_wp2_with (first | (refine wpList_load_row 20 rfl rfl 140 (.tmp 3) rfl _ rfl _ _ HM8.out.row Try.underlying140 rfl (Try.size140 _ _) ?_))
      refine (HM8.out.done (by show l6.length ≤ 1000; omega) HXX.out (by simp)).mono ?_
      rintro e w9 ⟨nv9, rfl, p1, p2⟩
      go_wp2_with fail
      go_ret
      rw [HE.out]
      exact ⟨nv9, rfl, p1, p2⟩

theorem patterns_all : ∀ N, PatAt N
  | 0 => by
    intro b p X s nv st w _ _ _ _ _ _ _ _ h
    omega
  | N + 1 => by
    intro b p X s nv st w hr hW hgd hcnt hgc hX hrun hm hN
    exact pattern_any N (patterns_all N) b p X s nv st w hr hW hX ⟨hrun, hm, hgd, hcnt, hgc, by simp, by omega, hr.le⟩
end Dt
end Go.Proofs.Ytppjlpihaocdiaa

/- The document's tree: its nodes are in order. Plain mathematics. -/
set_option linter.unusedSimpArgs false
set_option linter.unusedVariables false
namespace Go.Proofs.Ytppjlpihaocdiaa
namespace Dt

/-- Each node is in order, and a bracket's number is one of those given out. -/
def Ok (p : PSt) : Prop := ∀ (n : Nat) (d : Nd), p.l[n]? = some d → NdOk d ∧ (d.kind = 3 → d.num < p.g ∧ ∃ z, d.subs = [z]) ∧ d.lo ≤ 900

theorem Ok.add {p : PSt} (h : Ok p) {j : Nat} {d : Nd} (hd : NdOk d) (hn : d.kind = 3 → d.num < p.g ∧ ∃ z, d.subs = [z]) (hlo : d.lo ≤ 900) : Ok (addN p j d).1 := by
  intro n e he
  have he' : (p.l ++ [d])[n]? = some e := he
  rcases Nat.lt_or_ge n p.l.length with hlt | hge
  · rw [List.getElem?_append_left hlt] at he'
    exact h n e he'
  · rw [List.getElem?_append_right hge] at he'
    cases hk : n - p.l.length with
    | zero => rw [hk] at he'; cases he'; exact ⟨hd, hn, hlo⟩
    | succ k => rw [hk] at he'; cases he'

theorem Ok.of {p q : PSt} (h : Ok p) (hl : q.l = p.l) (hg : p.g ≤ q.g) : Ok q := by
  intro n d hd
  rw [hl] at hd
  obtain ⟨h1, h2, h3⟩ := h n d hd
  exact ⟨h1, fun e => ⟨Nat.lt_of_lt_of_le (h2 e).1 hg, (h2 e).2⟩, h3⟩

theorem ok_leaf {k : Nat} (hk : k ≤ 2) (S : Nat → Bool) : NdOk (leaf k S) := ⟨by show k ≤ 6; omega, by show 0 ≤ 1000; omega, by show 0 ≤ 1000; omega, by show -1 ≤ (0 : Int) ∧ (0 : Int) ≤ 1000; omega, by show (0 : Int) < 0 ∨ ((0 : Nat) : Int) ≤ 0; omega⟩

/-- A choice, where fewer than N bytes are left. -/
def ChOk (s : ByteArray) (N : Nat) (ch : PSt → PSt × Nat) : Prop := ∀ (p : PSt) (st : St), CIn (N - 1) s p st [] → 0 < N → s.size - p.at' < N → Ok p → Ok (ch p).1 ∧ p.g ≤ (ch p).1.g

theorem one_ok {s : ByteArray} (hW : Wholly s) {N : Nat} (hc : ChOk s N (dChoiceN s N)) {p : PSt} {st : St} {zs : List Nat} (h : WIn N s p st zs) (hs : startsP s p.at' = true) (hp : Ok p) : Ok (dOneF (dChoiceN s N) s p).1 ∧ p.g ≤ (dOneF (dChoiceN s N) s p).1.g := by
  have hst : p.at' < s.size ∧ inB noStart (byt s p.at') = false := by
    unfold startsP at hs
    simpa using hs
  by_cases e40 : byt s p.at' = 40
  · rw [dOneF_40 e40]
    have hr := h.rn
    have hRN : run s (p.at' + 1) = begins st 40 := by
      rw [run_succ hr, e40, Tr.step_low h.m2 (by rw [← e40]; exact hst.2)]
    have hb40 : begins st 40 = if st.o = 5 ∨ st.a = 9 then none else some ⟨0, st.o + 1, st.a + 1, st.l⟩ := rfl
    obtain ⟨st1, hs1⟩ := hW.all (show p.at' + 1 ≤ s.size by omega)
    have hs2 : st1 = ⟨0, st.o + 1, st.a + 1, st.l⟩ := by
      rw [hs1, hb40] at hRN
      split at hRN
      · cases hRN
      · cases hRN; rfl
    have hN := h.N
    have hcn := h.cnt
    have hgc := h.gc
    obtain ⟨o1, o2⟩ := hc ⟨p.at' + 1, p.g + 1, p.l⟩ ⟨0, st.o + 1, st.a + 1, st.l⟩ ⟨by rw [← hs2]; exact hs1, rfl, h.gd, by show p.l.length ≤ 300 + 2 * (p.at' + 1); omega, by show p.g + 1 ≤ p.at' + 1; omega, by simp, by show s.size - (p.at' + 1) ≤ N - 1; omega, by show p.at' + 1 ≤ s.size; omega⟩ (by omega) (by show s.size - (p.at' + 1) < N; omega) (hp.of rfl (by show p.g ≤ p.g + 1; omega))
    have o2' : p.g + 1 ≤ (dChoiceN s N ⟨p.at' + 1, p.g + 1, p.l⟩).1.g := o2
    refine ⟨o1.add ⟨by show 3 ≤ 6; omega, by show 1 ≤ 1000; omega, by show 0 ≤ 1000; omega, by show -1 ≤ (0 : Int) ∧ (0 : Int) ≤ 1000; omega, by show (0 : Int) < 0 ∨ ((0 : Nat) : Int) ≤ 0; omega⟩ (fun _ => ⟨by show p.g < _; omega, _, rfl⟩) (by show 0 ≤ 900; omega), by show p.g ≤ (dChoiceN s N ⟨p.at' + 1, p.g + 1, p.l⟩).1.g; omega⟩
  · unfold dOneF
    simp only
    rw [if_neg e40]
    (repeat' split) <;> exact ⟨hp.add (ok_leaf (by omega) _) (fun e => by have e' : (_ : Nat) = 3 := e; simp [leaf] at e') (by show 0 ≤ 900; omega), Nat.le_refl _⟩

theorem ok_rep {z lo : Nat} {hi : Int} (hlo : lo ≤ 1000) (hhi : -1 ≤ hi ∧ hi ≤ 1000) (hl : hi < 0 ∨ (lo : Int) ≤ hi) : NdOk (repN z lo hi) := ⟨by show 6 ≤ 6; omega, by show 1 ≤ 1000; omega, hlo, hhi, hl⟩

theorem ok_row {k : Nat} (hk : k ≤ 6) {zs : List Nat} (hz : zs.length ≤ 1000) : NdOk (rowN k zs) := ⟨hk, hz, by show 0 ≤ 1000; omega, by show -1 ≤ (0 : Int) ∧ (0 : Int) ≤ 1000; omega, by show (0 : Int) < 0 ∨ ((0 : Nat) : Int) ≤ 0; omega⟩

/-- Braces: the first number is at most the second. -/
theorem brace_le {s : ByteArray} (h : Wholly s) {j : Nat} {st : St} (hr : run s j = some st) (hm : st.m = 1) (hj : j < s.size) (hc : byt s j = 123) (h44 : pk s (j + 2) = 44) : byt s (j + 1) - 48 ≤ byt s (j + 3) - 48 := by
  obtain ⟨m1, o1, a1, l1⟩ := st
  simp only at hm
  subst hm
  have h3 : run s (j + 1) = some ⟨11, o1, a1, 0⟩ := by
    rw [run_succ hr, hc]
    exact Tr.step_brace
  have h4 := h.inside h3 (by omega) (by simp) (by simp)
  obtain ⟨st2, b1, b2⟩ := h.next h3 h4
  rw [Tr.digit_step (.inl rfl)] at b1
  split at b1
  · rename_i hd
    cases b1
    have h5 := h.inside b2 (by omega) (by simp) (by simp)
    obtain ⟨st3, c1, c2⟩ := h.next b2 h5
    rw [if_pos rfl, Tr.brace_step (.inl rfl)] at c1
    have e44' : byt s (j + 1 + 1) = 44 := by
      have := pk_in h5
      rw [show j + 1 + 1 = j + 2 from rfl] at this ⊢
      omega
    rw [if_neg (by omega), if_pos ⟨e44', rfl⟩] at c1
    cases c1
    have h6 := h.inside c2 (by omega) (by simp) (by simp)
    obtain ⟨st4, d1, d2⟩ := h.next c2 h6
    rw [Tr.digit_step (.inr rfl)] at d1
    split at d1
    · rename_i hd2
      exact hd2.2.2
    · cases d1
  · cases b1

theorem part_ok {s : ByteArray} (hW : Wholly s) {N : Nat} (hc : ChOk s N (dChoiceN s N)) {p : PSt} {st : St} {zs : List Nat} (h : WIn N s p st zs) (hs : startsP s p.at' = true) (hp : Ok p) : Ok (dPartF (dChoiceN s N) s p).1 ∧ p.g ≤ (dPartF (dChoiceN s N) s p).1.g := by
  have hst : p.at' < s.size ∧ inB noStart (byt s p.at') = false := by
    unfold startsP at hs
    simpa using hs
  obtain ⟨o1, o2⟩ := one_ok hW hc h hs hp
  obtain ⟨RR, st1, hq1, hq2⟩ := one_reads hW (choices_read hW N) rfl rfl h.gd h.gd h.rn h.m2 hst.1 h.N hst.2
  rw [RR.at'] at hq1
  have hk6 : ∀ (z lo : Nat) (hi : Int), (repN z lo hi).kind = 3 → (repN z lo hi).num < (dOneF (dChoiceN s N) s p).1.g ∧ ∃ y, (repN z lo hi).subs = [y] := fun z lo hi e => by simp [repN] at e
  by_cases e42 : pk s (dOneF (dChoiceN s N) s p).1.at' = 42
  · rw [dPartF_42 e42]
    exact ⟨o1.add (ok_rep (by omega) (by omega) (.inl (by omega))) (hk6 _ _ _) (by show (_ : Nat) ≤ 900; simp only [repN]; omega), o2⟩
  by_cases e43 : pk s (dOneF (dChoiceN s N) s p).1.at' = 43
  · rw [dPartF_43 e43]
    exact ⟨o1.add (ok_rep (by omega) (by omega) (.inl (by omega))) (hk6 _ _ _) (by show (_ : Nat) ≤ 900; simp only [repN]; omega), o2⟩
  by_cases e63 : pk s (dOneF (dChoiceN s N) s p).1.at' = 63
  · rw [dPartF_63 e63]
    exact ⟨o1.add (ok_rep (by omega) (by omega) (.inr (by omega))) (hk6 _ _ _) (by show (_ : Nat) ≤ 900; simp only [repN]; omega), o2⟩
  by_cases e123 : pk s (dOneF (dChoiceN s N) s p).1.at' = 123
  · have hjs : (dOneF (dChoiceN s N) s p).1.at' < s.size := by
      rcases Nat.lt_or_ge (dOneF (dChoiceN s N) s p).1.at' s.size with hh | hh
      · exact hh
      · rw [pk_out (by omega)] at e123; omega
    have hb : byt s (dOneF (dChoiceN s N) s p).1.at' = 123 := by rw [pk_in hjs] at e123; omega
    obtain ⟨b1, b2, b3, b4⟩ := brace_run hW hq1 hq2 hjs hb
    by_cases e44 : pk s ((dOneF (dChoiceN s N) s p).1.at' + 2) = 44
    · rw [dPartF_two e123 e44]
      obtain ⟨c1, c2, c3⟩ := b4 e44
      have hle := brace_le hW hq1 hq2 hjs hb e44
      exact ⟨o1.add (ok_rep (by omega) (by omega) (.inr (by omega))) (hk6 _ _ _) (by show (_ : Nat) ≤ 900; simp only [repN]; omega), o2⟩
    · rw [dPartF_one e123 e44]
      exact ⟨o1.add (ok_rep (by omega) (by omega) (.inr (by omega))) (hk6 _ _ _) (by show (_ : Nat) ≤ 900; simp only [repN]; omega), o2⟩
  · rw [dPartF_no (fun c hc => by rcases hc with rfl | rfl | rfl | rfl <;> assumption)]
    exact ⟨o1, o2⟩

theorem way_ok {s : ByteArray} (hW : Wholly s) (h40 : s.size ≤ 40) {N : Nat} (hc : ChOk s N (dChoiceN s N)) : ∀ (f : Nat) (p : PSt) (st : St) (zs : List Nat), WIn N s p st zs → Ok p → Ok (dWayL (dChoiceN s N) s f p zs).1 ∧ p.g ≤ (dWayL (dChoiceN s N) s f p zs).1.g
  | 0, p, st, zs, _, hp => ⟨hp, Nat.le_refl _⟩
  | f + 1, p, st, zs, h, hp => by
    rw [dWayL]
    rcases bool_or (startsP s p.at') with hs | hs
    · rw [if_neg (starts_no hs)]
      obtain ⟨o1, o2⟩ := part_ok hW hc h hs hp
      obtain ⟨st', h', hlt⟩ := h.next hW hs
      obtain ⟨q1, q2⟩ := way_ok hW h40 hc f _ st' _ h' o1
      exact ⟨q1, Nat.le_trans o2 q2⟩
    · rw [if_pos (h.ov hs)]
      have := h.zl
      have := h.le
      exact ⟨hp.add (ok_row (by omega) (by omega)) (fun e => by simp [rowN] at e) (by show 0 ≤ 900; omega), Nat.le_refl _⟩

theorem choice_ok {s : ByteArray} (hW : Wholly s) (h40 : s.size ≤ 40) {N : Nat} (hc : ChOk s N (dChoiceN s N)) : ∀ (f : Nat) (p : PSt) (st : St) (zs : List Nat), CIn N s p st zs → Ok p → Ok (dChoiceL (dChoiceN s N) s f p zs).1 ∧ p.g ≤ (dChoiceL (dChoiceN s N) s f p zs).1.g
  | 0, p, st, zs, _, hp => ⟨hp, Nat.le_refl _⟩
  | f + 1, p, st, zs, h, hp => by
    obtain ⟨o1, o2⟩ := way_ok hW h40 hc (s.size + 1) p st [] (h.win hW) hp
    have hE := h.way hW
    have e1 : dChoiceL (dChoiceN s N) s (f + 1) p zs = if pk s (dWayF (dChoiceN s N) s p).1.at' = 124 then dChoiceL (dChoiceN s N) s f ⟨(dWayF (dChoiceN s N) s p).1.at' + 1, (dWayF (dChoiceN s N) s p).1.g, (dWayF (dChoiceN s N) s p).1.l⟩ (zs ++ [(dWayF (dChoiceN s N) s p).2]) else addN (dWayF (dChoiceN s N) s p).1 (dWayF (dChoiceN s N) s p).1.at' (rowN 4 (zs ++ [(dWayF (dChoiceN s N) s p).2])) := rfl
    rw [e1]
    have o1' : Ok (dWayF (dChoiceN s N) s p).1 := o1
    have o2' : p.g ≤ (dWayF (dChoiceN s N) s p).1.g := o2
    by_cases e : pk s (dWayF (dChoiceN s N) s p).1.at' = 124
    · rw [if_pos e]
      obtain ⟨st2, hC⟩ := hE.next (z := (dWayF (dChoiceN s N) s p).2) h.zl h.N e
      obtain ⟨q1, q2⟩ := choice_ok hW h40 hc f _ st2 _ hC (o1'.of rfl (Nat.le_refl _))
      exact ⟨q1, Nat.le_trans o2' q2⟩
    · rw [if_neg e]
      have := h.zl
      have := h.le
      exact ⟨o1'.add (ok_row (by omega) (by simp; omega)) (fun e => by simp [rowN] at e) (by show 0 ≤ 900; omega), o2'⟩

theorem choices_ok {s : ByteArray} (hW : Wholly s) (h40 : s.size ≤ 40) : ∀ N, ChOk s N (dChoiceN s N)
  | 0 => fun p st _ h _ _ => by omega
  | N + 1 => fun p st h _ hN hp => choice_ok hW h40 (choices_ok hW h40 N) (s.size + 1) p st [] h hp

theorem doc_ok {s : ByteArray} (hW : Wholly s) (h40 : s.size ≤ 40) : Ok (docOf s).1 :=
  (choices_ok hW h40 41 ⟨0, 0, []⟩ ⟨0, 0, 0, 0⟩ ⟨rfl, rfl, ⟨fun n d hd => by simp at hd, fun n d hd => by simp at hd⟩, by simp, by simp, by simp, by show s.size - 0 ≤ 41 - 1; omega, Nat.zero_le _⟩ (by omega) (by show s.size - 0 < 41; omega) (fun n d hd => by simp at hd)).1
end Dt
end Go.Proofs.Ytppjlpihaocdiaa

