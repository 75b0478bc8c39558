/- The document's reader: a row of parts, and ways between bars. -/
import Derived.Test.YtppjlpihaocdiaaDtPartJ
set_option linter.unusedSimpArgs false
set_option linter.unusedVariables false
namespace Go.Proofs.Ytppjlpihaocdiaa
namespace Dt
open Go.RowKit

theorem Dr.of2 {w w' : World} {b : Nat} {s : ByteArray} {p : PSt} {nv : Value} {X : Nat → Prop} (h : Dr w b s p nv X) (hb : w'.heap[b]? = w.heap[b]?) (ho : ∀ k, nv.ownBlock = some k → w'.heap[k]? = w.heap[k]?) (hk : ∀ k, k < w.heap.size → k ≠ b → some k ≠ nv.ownBlock → ¬ X k → w'.heap[k]? = w.heap[k]?) : Dr w' b s p nv X := by
  obtain ⟨c0, c1, c2, c3, c4, f0, f1, f2, f4, le, s40, xs, hown, hce⟩ := h
  have hc : ∀ k, w'.cell? ⟨b, k, none⟩ = w.cell? ⟨b, k, none⟩ := fun k => World.cell?_of_block (w := w) (w' := w') (a := ⟨b, k, none⟩) hb
  have hf : ∀ k, w'.frozen? ⟨b, k, none⟩ = w.frozen? ⟨b, k, none⟩ := fun k => World.frozen?_of_block (w := w) (w' := w') (a := ⟨b, k, none⟩) hb
  exact ⟨(hc 0).trans c0, (hc 1).trans c1, (hc 2).trans c2, (hc 3).trans c3, (hc 4).trans c4, (hf 0).trans f0, (hf 1).trans f1, (hf 2).trans f2, (hf 4).trans f4, le, s40, xs, Tr.ownsRow_of_block hown ho, hce.of hk⟩

/-- Parts are gathered: in block M a node, whose row of parts kv grows. -/
structure Ga (w wr : World) (b : Nat) (s : ByteArray) (p : PSt) (nv nv' kv : Value) (X : Nat → Prop) (M kk : Nat) (zs : List Nat) : Prop where
  row : Row wr M (ndL ⟨kk, noSet, [], 0, 0, 0⟩ kv)
  dr : Dr wr b s p nv' (fun k => (X k ∨ k = M) ∨ kv.ownBlock = some k)
  fr : Tr.Fr b nv nv' w wr
  kd : Tr.Kd wr (M + 1) nv' kv zs
  new : w.heap.size ≤ M
  bM : b < M
  nM : nv'.ownBlock ≠ some M

section
variable {w wr w' : World} {b : Nat} {s : ByteArray} {p : PSt} {nv nv' kv : Value} {X : Nat → Prop} {M kk : Nat} {zs : List Nat}
theorem Ga.lt (h : Ga w wr b s p nv nv' kv X M kk zs) : M < wr.heap.size := h.row.lt (by rw [ndL_length]; omega)

theorem Ga.call (h : Ga w wr b s p nv nv' kv X M kk zs) {p' : PSt} {nv'' : Value} (hf : Tr.Fr b nv' nv'' wr w') (hd : Dr w' b s p' nv'' (fun k => (X k ∨ k = M) ∨ kv.ownBlock = some k)) : Ga w w' b s p' nv nv'' kv X M kk zs := by
  refine ⟨h.row.of_block (hf.block M h.lt (by have := h.bM; omega) (fun e => h.nM e.symm)), hd, h.fr.trans hf, h.kd.fr hf (by have := h.bM; omega), h.new, h.bM, fun e => ?_⟩
  rcases hf.lies with l | l
  · rw [l] at e; exact h.nM e
  · have := l M e
    have := h.lt
    omega

theorem Ga.only (h : Ga w wr b s p nv nv' kv X M kk zs) {p' : PSt} (ho : Only b wr w') (hd : Dr w' b s p' nv' (fun k => (X k ∨ k = M) ∨ kv.ownBlock = some k)) : Ga w w' b s p' nv nv' kv X M kk zs := h.call (Tr.Only.fr ho nv') hd
theorem Ga.drewN (h : Ga w wr b s p nv nv' kv X M kk zs) (n : Nat) : Ga w (wr.drewN n) b s p nv nv' kv X M kk zs := h.only (Only.drewN (Only.refl b wr) n) (h.dr.drewN n)
theorem Ga.put4 (h : Ga w wr b s p nv nv' kv X M kk zs) {v : Int} (j : Nat) (hv : v = j) (hj : j ≤ s.size) : Ga w (wr.setCell ⟨b, 4, none⟩ (.int .i64 v)) b s ⟨j, p.g, p.l⟩ nv nv' kv X M kk zs :=
  h.only ((Only.refl b wr).setCell 4 _) (h.dr.put4 j hv hj)

theorem Ga.more (h : Ga w wr b s p nv nv' kv X M kk zs) {w2 : World} {gg cap z : Nat}
    (hown : w2.ownsRow (M + 1) 3 1 (.slice (some ⟨gg, 0, none⟩) (zs.length + 1) cap) (zs.length + 1) ((zs.map fun z : Nat => Value.int .i64 (z : Int)) ++ [.int .i64 (z : Int)]))
    (hg : (wr.alloc (.cells #[.int .i64 (z : Int)] 3)).grownBy w2 kv.ownBlock) (hat : kv.ownBlock = some gg ∨ gg = wr.heap.size + 1) :
    Ga w (w2.setCell ⟨M, 257, none⟩ (.slice (some ⟨gg, 0, none⟩) (zs.length + 1) cap)) b s p nv nv' (.slice (some ⟨gg, 0, none⟩) (zs.length + 1) cap) X M kk (zs ++ [z]) := by
  have hMl := h.lt
  have hbM := h.bM
  have hsz : (wr.alloc (.cells #[.int .i64 (z : Int)] 3)).heap.size = wr.heap.size + 1 := by simp
  have hx : ∀ k, k < wr.heap.size → some k ≠ kv.ownBlock → w2.heap[k]? = wr.heap[k]? := fun k hk hne => by
    rw [hg.block k (by omega) hne, Below.heap_alloc _ _ _ hk]
  have hkb : ∀ k, kv.ownBlock = some k → M + 1 ≤ k ∧ k < wr.heap.size := fun k hk => h.kd.own.lt k hk
  have hgM : M + 1 ≤ gg := (hown.lt gg rfl).1
  have hsize := hg.size
  have hMx : w2.heap[M]? = wr.heap[M]? := hx M hMl (fun e => by have := (hkb M e.symm).1; omega)
  have hown' : ∀ k, nv'.ownBlock = some k → k < wr.heap.size := by
    obtain ⟨xs, ho, _⟩ := h.dr.own
    exact fun k hk => (ho.lt k hk).2
  have hbl := h.dr.lt
  have hd1 : Dr wr b s p nv' (fun k => ((X k ∨ k = M) ∨ kv.ownBlock = some k) ∨ gg = k) := h.dr.bar _ (fun k hk hh => by
    rcases hh with hh | hh
    · exact hh
    · subst hh
      rcases hat with e | e
      · exact .inr e
      · omega)
  have hd2 : Dr w2 b s p nv' (fun k => ((X k ∨ k = M) ∨ kv.ownBlock = some k) ∨ gg = k) := hd1.of2 (hx b hbl (fun e => by have := (hkb b e.symm).1; omega)) (fun k hk => hx k (hown' k hk) (fun e => h.kd.ne k e.symm hk)) (fun k hk _ _ hn => hx k hk (fun e => hn (.inl (.inr e.symm))))
  have hS : Sole M w2 (w2.setCell ⟨M, 257, none⟩ (.slice (some ⟨gg, 0, none⟩) (zs.length + 1) cap)) := (Sole.refl _ _).setCell _ _
  have hrow2 : Row w2 M (ndL ⟨kk, noSet, [], 0, 0, 0⟩ kv) := h.row.of_block hMx
  refine ⟨?_, ?_, ?_, ?_, h.new, h.bM, h.nM⟩
  · have := hrow2.put 257 (by rw [ndL_length]; omega) (.slice (some ⟨gg, 0, none⟩) (zs.length + 1) cap)
    rw [ndL_put_subs] at this
    exact this
  · refine (hd2.sole hS (by omega) h.nM (.inl (.inl (.inr rfl)))).bar _ (fun k _ hh => ?_)
    rcases hh with hh | hh
    · exact .inl (.inl hh)
    · exact .inr (by simpa [Value.ownBlock] using hh)
  · refine Fr.sole ⟨hg.os.trans h.fr.os, hg.tape.trans h.fr.tape, hg.output.trans h.fr.output, by have := h.fr.size; omega, fun k hk hkb' hkn => ?_, h.fr.lies⟩ hS h.new
    have hfs := h.fr.size
    have hnew := h.new
    rw [hx k (by omega) (fun e => by have := (hkb k e.symm).1; omega)]
    exact h.fr.block k hk hkb' hkn
  · refine ⟨?_, fun k hk => ?_⟩
    · rw [List.map_append, List.length_append]
      exact Tr.ownsRow_of_block hown fun k hk => hS.block k (by
        have : gg = k := by simpa [Value.ownBlock] using hk
        omega)
    · have hgk : gg = k := by simpa [Value.ownBlock] using hk
      subst hgk
      rcases hat with e | e
      · exact h.kd.ne gg e
      · intro hh
        have := hown' gg hh
        omega

theorem Ga.done (h : Ga w wr b s p nv nv' kv X M kk zs) (hn : p.l.length ≤ 1000) (hX : ∀ q, X q → q < w.heap.size) (hz : zs ≠ []) :
    Calls Try.prog 83 #[.pointer (some ⟨b, 0, none⟩), .agg (ndL ⟨kk, noSet, [], 0, 0, 0⟩ kv).toArray] wr fun e w' => ∃ nv'', e = .returned (.int .i64 p.l.length) ∧ Dr w' b s ⟨p.at', p.g, p.l ++ [rowN kk zs]⟩ nv'' X ∧ Tr.Fr b nv nv'' w w' := by
  have hl : 0 < zs.length := List.length_pos_iff.2 hz
  obtain ⟨g0, cap, hkv, hg, hlt⟩ := h.kd.own.form hl
  have hK : Tr.KidsC wr b nv' (fun k => X k ∨ k = M) (some ⟨g0, 0, none⟩) (rowN kk zs).subs := .inr ⟨g0, rfl, by have := h.bM; omega, h.kd.ne g0 (by rw [hkv]; rfl), fun e => by
    rcases e with e | e
    · have := hX g0 e
      have := h.new
      omega
    · omega, Tr.own_cells (by rw [← hkv]; exact h.kd.own)⟩
  have hd : Dr wr b s p nv' (fun k => X k ∨ k = M) := h.dr.bar _ (fun k _ e => .inl e)
  have := add_any b p _ s nv' wr hd hn (rowN kk zs) (some ⟨g0, 0, none⟩) cap hK
  rw [hkv]
  refine this.mono ?_
  rintro e w8 ⟨nv8, rfl, p1, p2⟩
  exact ⟨nv8, rfl, p1.bar _ (fun k _ hk => .inl hk), h.fr.trans p2⟩
end

/-- Between two parts of a way. -/
structure WIn (N : Nat) (s : ByteArray) (p : PSt) (st : St) (zs : List Nat) : Prop where
  rn : run s p.at' = some st
  m2 : st.m ≤ 2
  ov : startsP s p.at' = false → pk s p.at' = 124 ∨ pk s p.at' = 41 ∨ p.at' = s.size
  ne : zs = [] → startsP s p.at' = true
  gd : Gd p.l
  cnt : p.l.length ≤ 300 + 2 * p.at'
  gc : p.g ≤ p.at'
  zl : zs.length ≤ p.at'
  N : s.size - p.at' ≤ N
  le : p.at' ≤ s.size

theorem starts_no {s : ByteArray} {j : Nat} (h : startsP s j = true) : ¬ (pk s j = 124 ∨ pk s j = 41 ∨ j = s.size) := by
  unfold startsP at h
  simp at h
  obtain ⟨h1, h2⟩ := h
  have : ¬ (inB noStart (byt s j) = true) := by rw [h2]; simp
  rw [inB_noStart] at this
  rw [pk_in h1]
  omega

theorem WIn.next {N : Nat} {s : ByteArray} {p : PSt} {st : St} {zs : List Nat} (h : WIn N s p st zs) (hW : Wholly s) (hs : startsP s p.at' = true) :
    ∃ st', WIn N s (dPartF (dChoiceN s N) s p).1 st' (zs ++ [(dPartF (dChoiceN s N) s p).2]) ∧ p.at' < (dPartF (dChoiceN s N) s p).1.at' := by
  have hst : p.at' < s.size ∧ inB noStart (byt s p.at') = false := by
    unfold startsP at hs
    simpa using hs
  obtain ⟨R, hE⟩ := part_reads hW (choices_read hW N) rfl rfl h.gd h.gd h.rn h.m2 hst.1 h.N hst.2
  have hat := R.at'
  have hlo := R.lo
  have hle := R.le
  rw [hat] at hlo hle hE
  have h1 := cnt_part (s := s) (cnt_choiceN s N) p
  have h2 := gcnt_part (s := s) (gcnt_choiceN s N) p
  obtain ⟨st', r1, r2, r3⟩ := R.rn
  rw [hat] at r1
  have a1 := h.cnt
  have a2 := h.gc
  have a3 := h.zl
  have a4 := h.N
  refine ⟨st', ⟨r1, by omega, fun e => hE.over hW hle e, fun e => by simp at e, R.gd', by omega, by omega, by simp; omega, by omega, hle⟩, hlo⟩

attribute [local go_sem ↓] Go.wp_at_zero Go.wp_at_succ

theorem Try.infoi3 : (Try.prog.info? 3).map (fun i => (i.zero, i.size, i.bytes)) = some (some (.int .i64 0), 1, 8) := by kernel_rfl

set_option maxRecDepth 100000 in
set_option maxHeartbeats 4000000 in
theorem way_any (N : Nat) (ih : PatAt N) (b : Nat) (p : PSt) (X : Nat → Prop) (s : ByteArray) (nv : Value) (st : St) (w : World) (hr : Dr w b s p nv X) (hW : Wholly s) (hX : ∀ q, X q → q < w.heap.size) (hin : WIn N s p st []) :
    Calls Try.prog 81 #[.pointer (some ⟨b, 0, none⟩)] w fun e w' => ∃ nv', e = .returned (.int .i64 ((dWayF (dChoiceN s N) s p).2 : Nat)) ∧ Dr w' b s (dWayF (dChoiceN s N) s p).1 nv' X ∧ Tr.Fr b nv nv' w w' := by
  generalize hFF : dWayF (dChoiceN s N) s p = FF
  have HFF : Hid (dWayL (dChoiceN s N) s (s.size + 1) p [] = FF) := hFF
  have HR : Hid (Dr w b s p nv X) := hr
  have IH : Hid (PatAt N) := ih
  have HW : Hid (Wholly s) := hW
  have HXX : Hid (∀ q, X q → q < w.heap.size) := hX
  have HIN : Hid (WIn N s p st []) := hin
  have hb := hr.lt
  have h40 := hr.s40
  have HNO : Hid (∀ k, nv.ownBlock = some k → k < w.heap.size) := by
    obtain ⟨xs, ho, _⟩ := hr.own
    exact fun k hk => (ho.lt k hk).2
  obtain ⟨i0, hi0, hz0, hz1, hz2⟩ := info_parts Try.infoi3
  clear hr ih hX hin hFF hW
  go_enter Try.func81, Try.ntmps81
  go_wp2_with (first
    | (refine wpList_build_row 6 rfl rfl 140 _ rfl _ built5 ?_)
    | (refine wpList_alloc_row 3 rfl rfl 140 rfl _ Try.zero140 ?_; intro w3 h3 hR3 hB3; have HR3 : Hid (Row w3 w.heap.size (ndL ⟨0, noSet, [], 0, 0, 0⟩ (.slice none 0 0))) := hR3; have HB3 : Hid (Below w.heap.size w w3) := hB3; clear hR3 hB3)
    | (refine wpList_store_row rfl 140 (.tmp 3) (.tmp 6) rfl _ rfl _ rfl _ HR3.out (by rw [ndL_length, ndL_length]) (Try.size140 _ _) (ndL_one _ _ _ _) ?_; intro w4 hR4 hS4; have HR4 : Hid (Row w4 w.heap.size (ndL ⟨5, noSet, [], 0, 0, 0⟩ (.slice none 0 0))) := hR4; have HS4 : Hid (Sole w.heap.size w3 w4) := hS4; clear hR4 hS4))
  have HG : Hid (Ga w w4 b s p nv nv (.slice none 0 0) X w.heap.size 5 []) :=
    ⟨HR4.out, ((HR.out.bar (fun k => (X k ∨ k = w.heap.size) ∨ (Value.slice none 0 0).ownBlock = some k) (fun k hk h => by
      rcases h with (h | h) | h
      · exact h
      · omega
      · cases h)).grow HB3.out).sole HS4.out (by omega) (fun e => by have := HNO.out _ e; omega) (.inl (.inr rfl)), Fr.sole (Tr.Below.fr HB3.out nv) HS4.out (Nat.le_refl _), ⟨World.ownsRow_nil _ _ _ _, fun k hk => by cases hk⟩, Nat.le_refl _, hb, fun e => by have := HNO.out _ e; omega⟩
  clear HR3 HB3 HR4 HS4
  go_simp
  go_loopw [] (fun wr => ∃ p' nv' kv zs st f, Ga w wr b s p' nv nv' kv X w.heap.size 5 zs ∧ WIn N s p' st zs ∧ s.size < f + p'.at' ∧ Hid (FF = dWayL (dChoiceN s N) s f p' zs)) (fun wr => s.size - at4 wr b)
  case atStart => exact ⟨p, nv, _, [], st, s.size + 1, HG.out, HIN.out, by omega, HFF.out.symm⟩
  case round =>
    obtain ⟨⟨j, gj, lj⟩, nv1, kv, zs, st1, f, hG, hI, hf, HF⟩ := hrel
    have HGr : Hid (Ga w wr b s ⟨j, gj, lj⟩ nv nv1 kv X w.heap.size 5 zs) := hG
    have HI : Hid (WIn N s ⟨j, gj, lj⟩ st1 zs) := hI
    have HAT : Hid (at4 wr b = j) := at4_is hG.dr.c4
    have hle := hI.le
    have hcn := hI.cnt
    have hzl := hI.zl
    have c3 := hG.dr.c3
    have c4 := hG.dr.c4
    have hlj : lj.length ≤ 1000 := by simp only at hcn hle; omega
    have hbne : b ≠ w.heap.size := by omega
    simp only at c4 hle hcn hzl hf
    have HIS : Hid (∀ (n c : Nat), Calls Try.prog 82 #[.pointer (some ⟨b, 0, none⟩), .int .u8 c] (wr.drewN n) fun e w' => e = .returned (.bool (decide (pk s j = (c : Int)))) ∧ ∃ m, w' = (wr.drewN n).drewN m) := fun n c => is_any b ⟨j, gj, lj⟩ _ s nv1 c _ (HGr.out.dr.drewN n)
    clear hG hI HG HIN
    rcases bool_or (startsP s j) with hs | hs
    · have HS : Hid (startsP s j = true) := hs
      have hno := starts_no hs
      have h1 : Hid (∀ (n : Nat) (c : Int), (c = 124 ∨ c = 41) → Calls Try.prog 82 #[.pointer (some ⟨b, 0, none⟩), .int .u8 c] (wr.drewN n) fun e w' => e = .returned (.bool false) ∧ ∃ m, w' = (wr.drewN n).drewN m) := fun n c hc => by
        have := HIS.out n c.toNat
        rw [show ((c.toNat : Nat) : Int) = c by omega, show decide (pk s j = c) = false by simp; omega] at this
        exact this
      have he : ((j : Int) == (s.size : Int)) = false := by simp; omega
      have hj : j < s.size := by omega
      obtain ⟨st2, hN2, hlt2⟩ := HI.out.next HW.out hs
      have HN2 : Hid (WIn N s (dPartF (dChoiceN s N) s ⟨j, gj, lj⟩).1 st2 (zs ++ [(dPartF (dChoiceN s N) s ⟨j, gj, lj⟩).2])) := hN2
      have HOI : Hid (inB noStart (byt s j) = false) := by
        have := hs
        unfold startsP at this
        simp at this
        exact this.2
      have HF2 : Hid (FF = dWayL (dChoiceN s N) s (f - 1) (dPartF (dChoiceN s N) s ⟨j, gj, lj⟩).1 (zs ++ [(dPartF (dChoiceN s N) s ⟨j, gj, lj⟩).2])) := by
        rw [Hid, HF.out, show f = (f - 1) + 1 by omega, dWayL, if_neg (starts_no hs)]
        rfl
      clear hs hno hN2 HIS
      go_wp2_with fail
      go_quiet ((go_at_call 82; exact Calls.quiet_of (h1.out _ _ (by first | exact .inl rfl | exact .inr rfl))))
      have HG2 : Hid (Ga w (wr.drewN nq) b s ⟨j, gj, lj⟩ nv nv1 kv X w.heap.size 5 zs) := HGr.out.drewN nq
      generalize wr.drewN nq = w5 at HG2 ⊢
      clear c3 c4 h1 he
      go_wp2_with fail
      refine (part_any N IH.out b ⟨j, gj, lj⟩ _ s nv1 st1 _ ⟨HG2.out.dr, HW.out, HI.out.gd, HI.out.cnt, HI.out.gc, fun q hq => ?_, HI.out.rn, HI.out.m2, hj, HI.out.N, HOI.out⟩).mono ?_
      · have := HG2.out.lt
        rcases hq with (hq | hq) | hq
        · have := HXX.out q hq
          omega
        · omega
        · exact (HG2.out.kd.own.lt q hq).2
      rintro e w6 ⟨nv6, rfl, hd6, hf6⟩
      have HG6 : Hid (Ga w w6 b s (dPartF (dChoiceN s N) s ⟨j, gj, lj⟩).1 nv nv6 kv X w.heap.size 5 zs) := HG2.out.call hf6 hd6
      clear hd6 hf6
      generalize hrr : dPartF (dChoiceN s N) s ⟨j, gj, lj⟩ = rr at HG6 HF2 HN2 hlt2 ⊢
      obtain ⟨p6, z6⟩ := rr
      clear hrr
      try simp only at HG6 HF2 HN2 hlt2 ⊢
      have m257 := HG6.out.row.cell (ndL_tail _ _ 0)
      have f257 := HG6.out.row.frozen (k := 257) (by rw [ndL_length]; omega)
      try simp only at m257
      have hMl6 := HG6.out.lt
      have HMF : Hid (∀ {w2 : World}, (w6.alloc (.cells #[.int .i64 (z6 : Int)] 3)).grownBy w2 kv.ownBlock → w2.cell? ⟨w.heap.size, 257, none⟩ = some kv ∧ w2.frozen? ⟨w.heap.size, 257, none⟩ = false) := by
        intro w2 hg
        have hx : w2.heap[w.heap.size]? = w6.heap[w.heap.size]? := by
          rw [hg.block w.heap.size (by simp; omega) (fun e => by have := (HG6.out.kd.own.lt _ e.symm).1; omega), Below.heap_alloc _ _ _ hMl6]
        exact ⟨(World.cell?_of_block (w := w6) (w' := w2) (a := ⟨w.heap.size, 257, none⟩) hx).trans m257, (World.frozen?_of_block (w := w6) (w' := w2) (a := ⟨w.heap.size, 257, none⟩) hx).trans f257⟩
      have hzl6 : zs.length ≤ 40 := by omega
      go_wp2_with (at_builtin; refine wpList_append_lies _ rfl _ _ 57 rfl (w.heap.size + 1) 3 i0 (.int .i64 0) 1 8 Try.underlying57 hi0 hz0 hz1 hz2 rfl (by omega) kv zs.length (zs.map fun z : Nat => Value.int .i64 (z : Int)) rfl (HG6.out.kd.own.alloc _) ⟨w6.heap.size, 0, none⟩ 1 1 [.int .i64 (z6 : Int)] rfl rfl (cell_one_new _ _ _) (fun x hx => by simp at hx; subst hx; rfl) (by omega) (by unfold maxLen; omega) (by omega) (by simp; omega) (w6.heap.size + 1) (by simp) ?_; intro gg cap w7 hown7 hgrow hat hlt7; have HM7 : Hid _ := HG6.out.more hown7 hgrow hat; obtain ⟨m7, f7⟩ := HMF.out hgrow; clear hown7 hgrow hat hlt7)
      refine ⟨⟨p6, nv6, _, zs ++ [z6], st2, f - 1, HM7.out, HN2.out, by omega, HF2.out⟩, ?_⟩
      rw [at4_is HM7.out.dr.c4, HAT.out]
      have := HN2.out.le
      omega
    · have hov := HI.out.ov hs
      simp only at hov
      have hzne : zs ≠ [] := fun e => by
        have h := HI.out.ne e
        have h' : startsP s j = true := h
        rw [hs] at h'
        cases h'
      have HZ : Hid (zs ≠ []) := hzne
      have HE : Hid (FF = addN ⟨j, gj, lj⟩ j (rowN 5 zs)) := by
        rw [Hid, HF.out, show f = (f - 1) + 1 by omega, dWayL, if_pos hov]
      have HIS2 : Hid (∀ (n : Nat) (c : Int) (v : Bool), (0 ≤ c ∧ decide (pk s j = c) = v) → Calls Try.prog 82 #[.pointer (some ⟨b, 0, none⟩), .int .u8 c] (wr.drewN n) fun e w' => e = .returned (.bool v) ∧ ∃ m, w' = (wr.drewN n).drewN m) := fun n c v hc => by
        have := HIS.out n c.toNat
        rw [show ((c.toNat : Nat) : Int) = c by omega, hc.2] at this
        exact this
      clear hs hzne HIS
      by_cases e1 : pk s j = 124
      · have h1 : Hid (∀ (n : Nat) (c : Int) (v : Bool), (c = 124 ∧ v = true) → Calls Try.prog 82 #[.pointer (some ⟨b, 0, none⟩), .int .u8 c] (wr.drewN n) fun e w' => e = .returned (.bool v) ∧ ∃ m, w' = (wr.drewN n).drewN m) := fun n c v hc => HIS2.out n c v (by obtain ⟨rfl, rfl⟩ := hc; simp [e1])
        clear hov e1
        go_wp2_with fail
        go_quiet ((go_at_call 82; exact Calls.quiet_of (h1.out _ _ _ ⟨rfl, rfl⟩)))
        have HG2 : Hid (Ga w (wr.drewN nq) b s ⟨j, gj, lj⟩ nv nv1 kv X w.heap.size 5 zs) := HGr.out.drewN nq
        generalize wr.drewN nq = w5 at HG2 ⊢
        clear c3 c4 h1
        go_wp2_with (first | (refine wpList_load_row 27 rfl rfl 140 (.tmp 3) rfl _ rfl _ _ HG2.out.row Try.underlying140 rfl (Try.size140 _ _) ?_))
        refine (HG2.out.done hlj HXX.out HZ.out).mono ?_
        rintro e w8 ⟨nv8, rfl, p1, p2⟩
        go_wp2_with fail
        go_ret
        rw [HE.out]
        exact ⟨nv8, rfl, p1, p2⟩
      by_cases e2 : pk s j = 41
      · have h1 : Hid (∀ (n : Nat) (c : Int) (v : Bool), ((c = 124 ∧ v = false) ∨ (c = 41 ∧ v = true)) → Calls Try.prog 82 #[.pointer (some ⟨b, 0, none⟩), .int .u8 c] (wr.drewN n) fun e w' => e = .returned (.bool v) ∧ ∃ m, w' = (wr.drewN n).drewN m) := fun n c v hc => HIS2.out n c v (by rcases hc with ⟨rfl, rfl⟩ | ⟨rfl, rfl⟩ <;> simp [e2])
        clear hov e1 e2
        go_wp2_with fail
        go_quiet ((go_at_call 82; exact Calls.quiet_of (h1.out _ _ _ (by first | exact .inl ⟨rfl, rfl⟩ | exact .inr ⟨rfl, rfl⟩))))
        have HG2 : Hid (Ga w (wr.drewN nq) b s ⟨j, gj, lj⟩ nv nv1 kv X w.heap.size 5 zs) := HGr.out.drewN nq
        generalize wr.drewN nq = w5 at HG2 ⊢
        clear c3 c4 h1
        go_wp2_with (first | (refine wpList_load_row 27 rfl rfl 140 (.tmp 3) rfl _ rfl _ _ HG2.out.row Try.underlying140 rfl (Try.size140 _ _) ?_))
        refine (HG2.out.done hlj HXX.out HZ.out).mono ?_
        rintro e w8 ⟨nv8, rfl, p1, p2⟩
        go_wp2_with fail
        go_ret
        rw [HE.out]
        exact ⟨nv8, rfl, p1, p2⟩
      · have hend : j = s.size := by omega
        have h1 : Hid (∀ (n : Nat) (c : Int) (v : Bool), ((c = 124 ∧ v = false) ∨ (c = 41 ∧ v = false)) → Calls Try.prog 82 #[.pointer (some ⟨b, 0, none⟩), .int .u8 c] (wr.drewN n) fun e w' => e = .returned (.bool v) ∧ ∃ m, w' = (wr.drewN n).drewN m) := fun n c v hc => HIS2.out n c v (by rcases hc with ⟨rfl, rfl⟩ | ⟨rfl, rfl⟩ <;> simp [e1, e2])
        have he : ((j : Int) == (s.size : Int)) = true := by simp; omega
        clear hov e1 e2 hend
        go_wp2_with fail
        go_quiet ((go_at_call 82; exact Calls.quiet_of (h1.out _ _ _ (by first | exact .inl ⟨rfl, rfl⟩ | exact .inr ⟨rfl, rfl⟩))))
        have HG2 : Hid (Ga w (wr.drewN nq) b s ⟨j, gj, lj⟩ nv nv1 kv X w.heap.size 5 zs) := HGr.out.drewN nq
        generalize wr.drewN nq = w5 at HG2 ⊢
        clear c3 c4 h1 he
        go_wp2_with (first | (refine wpList_load_row 27 rfl rfl 140 (.tmp 3) rfl _ rfl _ _ HG2.out.row Try.underlying140 rfl (Try.size140 _ _) ?_))
        refine (HG2.out.done hlj HXX.out HZ.out).mono ?_
        rintro e w8 ⟨nv8, rfl, p1, p2⟩
        go_wp2_with fail
        go_ret
        rw [HE.out]
        exact ⟨nv8, rfl, p1, p2⟩
end Dt
end Go.Proofs.Ytppjlpihaocdiaa
