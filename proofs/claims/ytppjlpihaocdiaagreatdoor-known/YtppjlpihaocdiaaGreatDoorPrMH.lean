/- Several texts in one. -/
import Derived.Test.YtppjlpihaocdiaaGreatDoorPrKH
import Derived.Laws.IdiomStrings
/- A part of the proof. -/
set_option linter.unusedSimpArgs false
set_option linter.unusedVariables false
namespace Go.Proofs.YtppjlpihaocdiaaGreatDoor
namespace Rs
open Go.RowKit
set_option maxHeartbeats 1600000 in
theorem rowByte_any (b : Nat) (s : ByteArray) (i base : Nat) (v : Value) (l : List Nat) (w : World) (hr : Rc w b s i) (hbb : b < base) (hown : w.ownsRow base 5 1 v l.length (u8L l)) (hl : ∀ x ∈ l, x < 256) :
    Calls Tryz.prog 232 #[.pointer (some ⟨b, 0, none⟩), v] w fun e w' => e = .returned (.tuple #[.int .u8 ((rowByteF s l i).2.1 : Int), .bool (rowByteF s l i).2.2]) ∧ Mk b w w' (rowByteF s l i).1 := by
  have HR : Hid (Rc w b s i) := hr
  have hb : b < w.heap.size := Rc.lt hr
  have hle := hr.le
  have hs := hr.s40
  have HO : Hid (w.ownsRow base 5 1 v l.length (u8L l)) := hown
  have HL : Hid (∀ x ∈ l, x < 256) := hl
  clear hr hown hl
  by_cases h92 : pk s i = 92
  · have HI : Hid (pk s i = 92) := h92
    clear h92
    generalize hG : rowByteF s l i = G
    have HG : Hid (rowByteF s l i = G) := hG
    clear hG
    obtain ⟨j, c, ok⟩ := G
    go_enter Tryz.func232, Tryz.ntmps232
    go_wp2_with fail
    refine (peek_any b s i _ HR.out).mono ?_
    rw [HI.out]
    rintro e w1 ⟨rfl, n1, rfl⟩
    go_wp2_with fail
    refine (escRow_any b s i base v l _ (HR.out.drewN n1) HI.out hbb HO.out HL.out).mono ?_
    rw [HG.out]
    rintro e w2 ⟨rfl, hm⟩
    have HM : Hid (Mk b w w2 j) := ((Mk.stay HR.out).drewN n1).trans hm
    clear hm
    simp only
    go_wp2_with fail
    go_ret2
    exact ⟨rfl, HM.out⟩
  · have HF : Hid (rowByteF s l i = if pk s i = -1 ∨ nxt s rowEnds i = true ∨ l.contains (byt s i) = true then (i, 0, false) else (i + 1, byt s i, true)) := by rw [Hid, rowByteF, if_neg h92]
    generalize hG : rowByteF s l i = G at HF
    clear hG
    by_cases h1 : pk s i = -1
    · have HI : Hid (pk s i = -1) := h1
      have HG : Hid (G = (i, 0, false)) := by rw [Hid, HF.out, if_pos (.inl h1)]
      clear h1 h92 HF
      go_enter Tryz.func232, Tryz.ntmps232
      go_wp2_with fail
      refine (peek_any b s i _ HR.out).mono ?_
      rw [HI.out]
      rintro e w1 ⟨rfl, n1, rfl⟩
      go_wp2_with fail
      go_ret2
      rw [HG.out]
      exact ⟨rfl, (Mk.stay HR.out).drewN n1⟩
    · obtain ⟨hlt, hp⟩ := pk_byte h1
      have hy := byt_lt s i
      generalize byt s i = y at hp hy HF
      have HI : Hid (pk s i = (y : Int)) := hp
      have q1 : ((y : Int) == -1) = false := beq_false_of_ne (by omega)
      have q2 : ((y : Int) == 92) = false := beq_false_of_ne (by rw [← hp]; exact h92)
      have k255 : (y : Int) ≤ 255 := by omega
      obtain ⟨r0, r1, rf, _, _⟩ := HR.out
      rcases bool_or (nxt s rowEnds i) with hn | hn
      · have HN : Hid (nxt s rowEnds i = true) := hn
        have HG : Hid (G = (i, 0, false)) := by rw [Hid, HF.out, if_pos (.inr (.inl hn))]
        clear h1 h92 HF hn hp
        go_enter Tryz.func232, Tryz.ntmps232
        go_wp2_with fail
        refine (peek_any b s i _ HR.out).mono ?_
        rw [HI.out]
        rintro e w1 ⟨rfl, n1, rfl⟩
        go_wp2_with fail
        refine (nextIsIn_any b s rowEnds i _ (HR.out.drewN n1)).mono ?_
        rw [HN.out]
        rintro e w2 ⟨rfl, n2, rfl⟩
        go_wp2_with fail
        go_ret2
        rw [HG.out]
        exact ⟨rfl, (Mk.stay HR.out).drewN _⟩
      · have HN : Hid (nxt s rowEnds i = false) := hn
        go_enter Tryz.func232, Tryz.ntmps232
        go_wp2_with fail
        refine (peek_any b s i _ HR.out).mono ?_
        rw [HI.out]
        rintro e w1 ⟨rfl, n1, rfl⟩
        go_wp2_with fail
        refine (nextIsIn_any b s rowEnds i _ (HR.out.drewN n1)).mono ?_
        rw [HN.out]
        rintro e w2 ⟨rfl, n2, rfl⟩
        go_wp2_with fail
        refine (bIndex_any base v l y (w.drewN (n1 + n2)) HO.out HL.out hy).mono ?_
        rintro e w4 ⟨x, rfl, hx, hw4⟩
        subst hw4
        rcases hx with ⟨hx1, hx2⟩ | ⟨hx1, hx2⟩
        · have HG : Hid (G = (i, 0, false)) := by rw [Hid, HF.out, if_pos (.inr (.inr hx1))]
          clear HF
          go_wp2_with fail
          go_ret2
          rw [HG.out]
          exact ⟨rfl, (Mk.stay HR.out).drewN _⟩
        · have HG : Hid (G = (i + 1, y, true)) := by rw [Hid, HF.out, if_neg (by rw [hn, hx1]; simp; exact h1)]
          clear HF
          go_wp2_with fail
          go_ret2
          rw [HG.out]
          exact ⟨rfl, ((Mk.stay HR.out).drewN _).set (i + 1) (by omega)⟩
theorem rowByteF_le (s : ByteArray) (l : List Nat) (i : Nat) (h : i ≤ s.size) : (rowByteF s l i).1 ≤ s.size ∧ i ≤ (rowByteF s l i).1 ∧ (rowByteF s l i).2.1 < 256 ∧ ((rowByteF s l i).2.2 = true → i < (rowByteF s l i).1) := by
  unfold rowByteF
  split
  · rename_i h1
    obtain ⟨h2, _⟩ := pk_byte (s := s) (i := i) (by rw [h1]; decide)
    split
    · simp; omega
    · split
      · rename_i h3
        obtain ⟨h4, h5⟩ := resc_nxt h3
        split
        · simp; omega
        · have : val (byt s (i + 1)) < 256 := by unfold val; split <;> omega
          simp; omega
      · simp; omega
  · split
    · simp; omega
    · rename_i h1
      obtain ⟨h2, _⟩ := pk_byte (s := s) (i := i) (fun e => h1 (.inl e))
      have := byt_lt s i
      simp; omega
end Rs
end Go.Proofs.YtppjlpihaocdiaaGreatDoor

/- A part of the proof. -/
set_option linter.unusedSimpArgs false
set_option linter.unusedVariables false
namespace Go.Proofs.YtppjlpihaocdiaaGreatDoor
namespace Rs
open Go.RowKit
theorem bytes_str (base : Nat) (v : Value) (l : List Nat) (w : World) (hown : w.ownsRow base 5 1 v l.length (u8L l)) (hl : ∀ x ∈ l, x < 256) : (convert 99 9 v).run Tryz.prog w = .ok (.string (ofNats l)) w := by
  obtain ⟨h1, h2⟩ := hown
  rcases h2 with ⟨rfl, h0⟩ | ⟨g, cap, cur, rfl, _, hh, hcap, _, hcs, htk⟩
  · have : l = [] := List.length_eq_zero_iff.1 h0
    subst this
    rw [run_convert_bytes_string (P := Tryz.prog) w 99 9 5 none 0 0 Tryz.underlying99 Tryz.underlying5 Tryz.underlying9]
    rfl
  · have := run_convert_bytes_back (P := Tryz.prog) w 99 9 5 ⟨g, 0, none⟩ cap (l.map Nat.toUInt8) Tryz.underlying99 Tryz.underlying5 Tryz.underlying9 (fun j hj => by
      have hj' : j < l.length := by simpa using hj
      have e : (⟨g, 0, none⟩ : Addr).add j = ⟨g, j, none⟩ := by unfold Addr.add; split <;> simp_all
      rw [e, cell_of_row w g j cur 5 (0, 0) hh]
      have hx : (u8L l)[j]? = some (.int .u8 ((l.map Nat.toUInt8)[j].toNat : Int)) := by
        have hm := hl l[j] (List.getElem_mem hj')
        simp [u8L, List.getElem?_eq_getElem hj']
        omega
      rw [← htk, List.getElem?_take] at hx
      split at hx
      · simpa using hx
      · cases hx)
    rw [List.length_map] at this
    exact this
theorem u8L_snoc (l : List Nat) (c : Nat) : u8L (l ++ [c]) = u8L l ++ [Value.int .u8 (c : Int)] := by simp [u8L]
structure Ri (w wr : World) (b j : Nat) (v : Value) (l : List Nat) : Prop where
  mv : Mk b w wr j
  own : wr.ownsRow w.heap.size 5 1 v l.length (u8L l)
theorem Ri.move {w wr w1 : World} {b j j1 : Nat} {v : Value} {l : List Nat} (h : Ri w wr b j v l) (hb : b < w.heap.size) (hm : Mk b wr w1 j1) : Ri w w1 b j1 v l :=
  ⟨h.mv.trans hm, own_of h.own fun k hk => hm.block k (h.own.lt k hk).2 (by have := (h.own.lt k hk).1; omega)⟩
theorem Ri.below {w wr w1 : World} {b j : Nat} {v : Value} {l : List Nat} (h : Ri w wr b j v l) (hB : Below wr.heap.size wr w1) : Ri w w1 b j v l :=
  ⟨h.mv.below hB, own_of h.own fun k hk => hB.block k (h.own.lt k hk).2⟩
theorem Ri.grown {w u w2 : World} {b j gg cap c : Nat} {v : Value} {l : List Nat} (h : Ri w u b j v l) (hb : b < w.heap.size)
    (hown : w2.ownsRow w.heap.size 5 1 (.slice (some ⟨gg, 0, none⟩) (l.length + 1) cap) (l.length + 1) (u8L l ++ [Value.int .u8 (c : Int)])) (hg : u.grownBy w2 v.ownBlock) :
    Ri w w2 b j (.slice (some ⟨gg, 0, none⟩) (l.length + 1) cap) (l ++ [c]) := by
  have hbl : b < u.heap.size := World.block_lt_of_cell? u _ h.mv.c1
  have hne : some b ≠ v.ownBlock := fun e => by have := (h.own.lt b e.symm).1; omega
  have hx := hg.block b hbl hne
  have hc : ∀ k, w2.cell? ⟨b, k, none⟩ = u.cell? ⟨b, k, none⟩ := fun k => World.cell?_of_block (w := u) (w' := w2) (a := ⟨b, k, none⟩) hx
  have hf : ∀ k, w2.frozen? ⟨b, k, none⟩ = u.frozen? ⟨b, k, none⟩ := fun k => World.frozen?_of_block (w := u) (w' := w2) (a := ⟨b, k, none⟩) hx
  refine ⟨⟨hg.os.trans h.mv.os, hg.tape.trans h.mv.tape, hg.output.trans h.mv.output, Nat.le_trans h.mv.size hg.size, fun k hk hkb => ?_, (hc 1).trans h.mv.c1, fun k hk => (hc k).trans (h.mv.cell k hk), fun k => (hf k).trans (h.mv.frz k)⟩, ?_⟩
  · rw [hg.block k (Nat.lt_of_lt_of_le hk h.mv.size) (fun e => by have := (h.own.lt k e.symm).1; omega)]
    exact h.mv.block k hk hkb
  · rw [u8L_snoc, List.length_append]
    exact hown
theorem Tryz.info5 : (Tryz.prog.info? 5).map (fun i => (i.zero, i.size, i.bytes)) = some (some (.int .u8 0), 1, 1) := by kernel_rfl
theorem rowL_len (s : ByteArray) : ∀ (f i : Nat) (l : List Nat), i ≤ s.size → l.length ≤ i → (∀ x ∈ l, x < 256) → (rowL s f i l).1 ≤ s.size ∧ (rowL s f i l).2.1.length ≤ s.size ∧ ∀ x ∈ (rowL s f i l).2.1, x < 256
  | 0, i, l, h, hl, h2 => by simp [rowL]; exact ⟨h, by omega, h2⟩
  | f + 1, i, l, h, hl, h2 => by
    unfold rowL
    split
    · rename_i h1
      obtain ⟨h3, _⟩ := pk_byte (s := s) (i := i) (by rw [h1]; decide)
      exact ⟨by simp only; omega, by simp only; omega, h2⟩
    · obtain ⟨a1, a2, a3, a4⟩ := rowByteF_le s l i h
      split
      · rename_i h4
        refine rowL_len s f _ _ a1 (by have := a4 h4; simp; omega) (fun x hx => ?_)
        rcases List.mem_append.1 hx with hx | hx
        · exact h2 x hx
        · simp at hx; omega
      · exact ⟨a1, by simp, fun x hx => by simp at hx⟩
set_option maxRecDepth 100000 in
set_option maxHeartbeats 6000000 in
theorem rows_any (b : Nat) (s : ByteArray) (i : Nat) (w : World) (hr : Rc w b s i) :
    Calls Tryz.prog 200 #[.pointer (some ⟨b, 0, none⟩)] w fun e w' => ∃ x y, e = .returned (.tuple #[.string x, .string y, .bool (rowsF s i).2.2.2]) ∧ Mk b w w' (rowsF s i).1 ∧ (rowsF s i).1 ≤ s.size ∧ ((rowsF s i).2.2.2 = true → x = (rowsF s i).2.1 ∧ y = (rowsF s i).2.2.1) := by
  have HR : Hid (Rc w b s i) := hr
  have hb : b < w.heap.size := Rc.lt hr
  have hle := hr.le
  have hs := hr.s40
  obtain ⟨i0, hi0, hz0, hz1, hz2⟩ := info_parts Tryz.info5
  clear hr
  generalize hG : rowsF s i = G
  have HG : Hid (rowsF s i = G) := hG
  clear hG
  by_cases h47 : pk s i = ((47 : Nat) : Int)
  · have HI : Hid (pk s i = ((47 : Nat) : Int)) := h47
    obtain ⟨hlt, _⟩ := pk_byte (s := s) (i := i) (by rw [h47]; decide)
    have HG1 : Hid (G = if (rowL s (s.size + 1) (i + 1) []).2.2 = true then (if (rowM s (rowL s (s.size + 1) (i + 1) []).2.1.length (rowL s (s.size + 1) (i + 1) []).1 []).2.2 = true then (if pk s (rowM s (rowL s (s.size + 1) (i + 1) []).2.1.length (rowL s (s.size + 1) (i + 1) []).1 []).1 = 47 then ((rowM s (rowL s (s.size + 1) (i + 1) []).2.1.length (rowL s (s.size + 1) (i + 1) []).1 []).1 + 1, ofNats (rowL s (s.size + 1) (i + 1) []).2.1, ofNats (rowM s (rowL s (s.size + 1) (i + 1) []).2.1.length (rowL s (s.size + 1) (i + 1) []).1 []).2.1, true) else ((rowM s (rowL s (s.size + 1) (i + 1) []).2.1.length (rowL s (s.size + 1) (i + 1) []).1 []).1, ofNats (rowL s (s.size + 1) (i + 1) []).2.1, ofNats (rowM s (rowL s (s.size + 1) (i + 1) []).2.1.length (rowL s (s.size + 1) (i + 1) []).1 []).2.1, false)) else ((rowM s (rowL s (s.size + 1) (i + 1) []).2.1.length (rowL s (s.size + 1) (i + 1) []).1 []).1, noBytes, noBytes, false)) else ((rowL s (s.size + 1) (i + 1) []).1, noBytes, noBytes, false)) := by
      rw [Hid, ← HG.out, rowsF, if_pos (by rw [h47]; rfl)]
    clear h47 HG
    generalize hF : rowL s (s.size + 1) (i + 1) [] = F at HG1
    have HF0 : Hid (rowL s (s.size + 1) (i + 1) [] = F) := hF
    have hFl : F.1 ≤ s.size ∧ F.2.1.length ≤ s.size ∧ ∀ x ∈ F.2.1, x < 256 := by rw [← hF]; exact rowL_len s _ _ _ (by omega) (by simp) (by simp)
    have HFL : Hid (F.1 ≤ s.size ∧ F.2.1.length ≤ s.size ∧ ∀ x ∈ F.2.1, x < 256) := hFl
    clear hF hFl
    go_enter Tryz.func200, Tryz.ntmps200
    go_wp2_with fail
    refine (acceptY b s i 47 _ HR.out (by omega) HI.out).mono ?_
    rintro e w1 ⟨rfl, hm⟩
    have HR1 : Hid (Rc w1 b s (i + 1)) := hm.rc HR.out (by omega)
    have HM1 : Hid (Mk b w w1 (i + 1)) := .mv hm
    have hs1 : w1.heap.size = w.heap.size := hm.only.size
    clear hm
    go_wp2_with fail
    go_loopw [5] (fun v wr => ∃ (j f : Nat) (l : List Nat), Ri w1 wr b j v l ∧ j ≤ s.size ∧ l.length + i + 1 ≤ j ∧ s.size + 1 ≤ f + j ∧ Hid (∀ x ∈ l, x < 256) ∧ Hid (F = rowL s f j l)) (fun _ wr => s.size - atOf wr b)
    case atStart => exact ⟨i + 1, s.size + 1, [], ⟨Mk.stay HR1.out, World.ownsRow_nil _ _ _ _⟩, by omega, by simp, by omega, fun x hx => by simp at hx, HF0.out.symm⟩
    case round =>
      obtain ⟨j, f, l, hT, hj, hps, hf, HL, HF⟩ := hrel
      have HT : Hid (Ri w1 wr b j u5 l) := hT
      have HRj : Hid (Rc wr b s j) := hT.mv.rc HR1.out hj
      have HAT : Hid (atOf wr b = j) := atOf_is hT.mv.c1
      clear hT
      have HF1 : Hid (F = if pk s j = 47 then (j + 1, l, true) else if (rowByteF s l j).2.2 = true then rowL s (f - 1) (rowByteF s l j).1 (l ++ [(rowByteF s l j).2.1]) else ((rowByteF s l j).1, [], false)) := by
        rw [Hid, HF.out]
        conv => lhs; rw [show f = (f - 1) + 1 by omega, rowL]
      by_cases h47 : pk s j = ((47 : Nat) : Int)
      · have HJ : Hid (pk s j = ((47 : Nat) : Int)) := h47
        obtain ⟨hlt2, _⟩ := pk_byte (s := s) (i := j) (by rw [h47]; decide)
        have HF2 : Hid (F = (j + 1, l, true)) := by rw [Hid, HF1.out, if_pos (by rw [h47]; rfl)]
        clear h47 HF1
        go_wp2_with fail
        refine (acceptY b s j 47 _ HRj.out (by omega) HJ.out).mono ?_
        rintro e w2 ⟨rfl, hm⟩
        have HT2 : Hid (Ri w1 w2 b (j + 1) u5 l) := HT.out.move (by omega) (.mv hm)
        clear hm
        obtain ⟨ao, cap0, rfl⟩ : ∃ ao cap0, u5 = .slice ao l.length cap0 := by
          rcases HT2.out.own.2 with ⟨e, e2⟩ | ⟨g, c, _, e, _⟩
          · exact ⟨none, 0, by rw [e, e2]⟩
          · exact ⟨_, _, e⟩
        have hb2 : b < w2.heap.size := World.block_lt_of_cell? w2 _ HT2.out.mv.c1
        have hl400 : l.length ≤ 400 := by omega
        have HR2 : Hid (Rc w2 b s (j + 1)) := HT2.out.mv.rc HR1.out (by omega)
        generalize hM : rowM s l.length (j + 1) [] = M
        have HM0 : Hid (rowM s l.length (j + 1) [] = M) := hM
        have HG1b : Hid (G = if M.2.2 = true then (if pk s M.1 = 47 then (M.1 + 1, ofNats l, ofNats M.2.1, true) else (M.1, ofNats l, ofNats M.2.1, false)) else (M.1, noBytes, noBytes, false)) := by
          rw [Hid, HG1.out, HF2.out]
          simp only [hM]
          rfl
        clear hM
        go_wp2_with fail
        go_loopw [6, 35] (fun v6 v35 wx => ∃ (j2 k : Nat) (l2 : List Nat), Ri w2 wx b j2 v6 l2 ∧ v35 = .int .i64 (k : Int) ∧ k ≤ l.length ∧ Hid (l2.length = k) ∧ j2 ≤ s.size ∧ Hid (∀ x ∈ l2, x < 256) ∧ Hid (M = rowM s (l.length - k) j2 l2)) (fun _ v _ => l.length - (intOf v).toNat)
        case atStart => exact ⟨j + 1, 0, [], ⟨Mk.stay HR2.out, World.ownsRow_nil _ _ _ _⟩, rfl, by omega, rfl, by omega, fun x hx => by simp at hx, HM0.out.symm⟩
        case round =>
          obtain ⟨j2, k, l2, hTx, rfl, hk, HK2, hj2, HL2, HM⟩ := hrel
          have hl2b : l2.length ≤ 400 := by rw [HK2.out]; omega
          have HTx : Hid (Ri w2 wr b j2 u6 l2) := hTx
          have HRx : Hid (Rc wr b s j2) := hTx.mv.rc HR2.out hj2
          have HO5 : Hid (wr.ownsRow w1.heap.size 5 1 (.slice ao l.length cap0) l.length (u8L l)) := own_of HT2.out.own fun k hk => hTx.mv.block k (HT2.out.own.lt k hk).2 (by have := (HT2.out.own.lt k hk).1; omega)
          clear hTx
          by_cases hkl : k = l.length
          · subst hkl
            have HM2 : Hid (M = (j2, l2, true)) := by rw [Hid, HM.out, Nat.sub_self]; rfl
            have HG2 : Hid (G = if pk s j2 = 47 then (j2 + 1, ofNats l, ofNats l2, true) else (j2, ofNats l, ofNats l2, false)) := by rw [Hid, HG1b.out, HM2.out]; rfl
            have cv5 : ∀ n, (convert 99 9 (.slice ao l.length cap0)).run Tryz.prog (wr.drewN n) = .ok (.string (ofNats l)) (wr.drewN n) := fun n => bytes_str w1.heap.size _ l _ HO5.out HL.out
            have cv6 : ∀ n, (convert 99 9 u6).run Tryz.prog (wr.drewN n) = .ok (.string (ofNats l2)) (wr.drewN n) := fun n => bytes_str w2.heap.size _ l2 _ HTx.out.own HL2.out
            have cv5d : (convert 99 9 (.slice ao l.length cap0)).run Tryz.prog wr.drew = .ok (.string (ofNats l)) wr.drew := bytes_str w1.heap.size _ l _ HO5.out HL.out
            have cv6d : (convert 99 9 u6).run Tryz.prog wr.drew = .ok (.string (ofNats l2)) wr.drew := bytes_str w2.heap.size _ l2 _ HTx.out.own HL2.out
            by_cases h48 : pk s j2 = ((47 : Nat) : Int)
            · have HK : Hid (pk s j2 = ((47 : Nat) : Int)) := h48
              obtain ⟨hlt3, _⟩ := pk_byte (s := s) (i := j2) (by rw [h48]; decide)
              have HG3 : Hid (G = (j2 + 1, ofNats l, ofNats l2, true)) := by rw [Hid, HG2.out, if_pos (by rw [h48]; rfl)]
              clear h48
              have cv5s : ∀ n q, (convert 99 9 (.slice ao l.length cap0)).run Tryz.prog ((wr.setCell ⟨b, 1, none⟩ q).drewN n) = .ok (.string (ofNats l)) ((wr.setCell ⟨b, 1, none⟩ q).drewN n) := fun n q => bytes_str w1.heap.size _ l _ (own_of HO5.out fun k hk => Below.heap_setCell _ _ _ _ (by have := (HO5.out.lt k hk).1; simp only; omega)) HL.out
              have cv6s : ∀ n q, (convert 99 9 u6).run Tryz.prog ((wr.setCell ⟨b, 1, none⟩ q).drewN n) = .ok (.string (ofNats l2)) ((wr.setCell ⟨b, 1, none⟩ q).drewN n) := fun n q => bytes_str w2.heap.size _ l2 _ (own_of HTx.out.own fun k hk => Below.heap_setCell _ _ _ _ (by have := (HTx.out.own.lt k hk).1; simp only; omega)) HL2.out
              go_wp2_with fail
              go_region_with (go_at_call 100; refine (accept_yes b s j2 47 _ (by first | exact HRx.out | exact HRx.out.drewN _ | exact HRx.out.drewN 1) (by omega) HK.out).mono ?_; rintro e w3 ⟨rfl, n3, rfl⟩)
              all_goals go_wp2_with fail
              all_goals rw [HG3.out]
              all_goals exact bodyPost_ret (v := .tuple #[.string (ofNats l), .string (ofNats l2), .bool true]) (by simp [results, Tryz.results200, go_sem]) rfl ⟨_, _, rfl, (HM1.out.trans HT2.out.mv).trans ((HTx.out.mv.set (j2 + 1) (by omega)).drewN _), (by simp only; omega), fun _ => ⟨rfl, rfl⟩⟩
            · have HK : Hid (pk s j2 ≠ ((47 : Nat) : Int)) := h48
              have HG3 : Hid (G = (j2, ofNats l, ofNats l2, false)) := by rw [Hid, HG2.out, if_neg (fun e => h48 (by rw [e]; rfl))]
              clear h48
              go_wp2_with fail
              go_region_with (go_at_call 100; refine (accept_no b s j2 47 _ (by first | exact HRx.out | exact HRx.out.drewN _ | exact HRx.out.drewN 1) (by omega) HK.out).mono ?_; rintro e w3 ⟨rfl, n3, rfl⟩)
              all_goals go_wp2_with fail
              all_goals rw [HG3.out]
              all_goals exact bodyPost_ret (v := .tuple #[.string (ofNats l), .string (ofNats l2), .bool false]) (by simp [results, Tryz.results200, go_sem]) rfl ⟨_, _, rfl, (HM1.out.trans HT2.out.mv).trans (HTx.out.mv.drewN _), (by simp only; omega), fun _ => ⟨rfl, rfl⟩⟩
          · have hkl2 : k < l.length := by omega
            have hkl3 : (k : Int) < (l.length : Int) := by omega
            have HMb : Hid (M = if (rowByteF s [] j2).2.2 = true then rowM s (l.length - (k + 1)) (rowByteF s [] j2).1 (l2 ++ [(rowByteF s [] j2).2.1]) else ((rowByteF s [] j2).1, [], false)) := by
              rw [Hid, HM.out]
              conv => lhs; rw [show l.length - k = (l.length - (k + 1)) + 1 by omega, rowM]
            have hpl2 := rowByteF_le s [] j2 hj2
            go_wp2_with fail
            refine (rowByte_any b s j2 w2.heap.size (.slice none 0 0) [] _ HRx.out hb2 (World.ownsRow_nil _ _ _ _) (fun x hx => by simp at hx)).mono ?_
            generalize rowByteF s [] j2 = r at HMb hpl2 ⊢
            obtain ⟨j3, c, ok⟩ := r
            simp only at hpl2 HMb ⊢
            rintro e w3 ⟨rfl, hm⟩
            have HT3 : Hid (Ri w2 w3 b j3 u6 l2) := HTx.out.move hb2 hm
            have hsz3 := HT3.out.mv.size
            clear hm
            cases ok with
            | false =>
              have HM3 : Hid (M = (j3, [], false)) := by rw [Hid, HMb.out]; rfl
              have HG2 : Hid (G = (j3, noBytes, noBytes, false)) := by rw [Hid, HG1b.out, HM3.out]; rfl
              clear HMb
              go_wp2_with fail
              rw [HG2.out]
              exact bodyPost_ret (v := .tuple #[.string noBytes, .string noBytes, .bool false]) (by simp [results, Tryz.results200, go_sem]; rfl) rfl ⟨_, _, rfl, (HM1.out.trans HT2.out.mv).trans HT3.out.mv, hpl2.1, fun h => (by cases h)⟩
            | true =>
              have HM3 : Hid (M = rowM s (l.length - (k + 1)) j3 (l2 ++ [c])) := by rw [Hid, HMb.out]; rfl
              have hc256 := hpl2.2.2.1
              have HOW : Hid (∀ u, Below w3.heap.size w3 u → Ri w2 u b j3 u6 l2) := fun u h => HT3.out.below h
              clear HMb
              go_wp2_with (at_builtin; refine wpList_append_lies _ rfl _ _ 99 rfl w2.heap.size 5 i0 (.int .u8 0) 1 1 Tryz.underlying99 hi0 hz0 hz1 hz2 rfl (by omega) u6 l2.length (u8L l2) rfl (HOW.out _ ((Below.refl _ _).alloc (Nat.le_refl _) _)).own ⟨w3.heap.size, 0, none⟩ 1 1 [Value.int .u8 (c : Int)] rfl rfl (cell_one_new _ _ _) (fun x hx => by simp at hx; subst hx; rfl) (by omega) (by unfold maxLen; omega) (by omega) (by simp; omega) (w3.heap.size + 1) (by simp) ?_; intro gg cap w4 hown4 hgrow hat hlt4; have HT4 : Hid (Ri w2 w4 b j3 (.slice (some ⟨gg, 0, none⟩) (l2.length + 1) cap) (l2 ++ [c])) := (HOW.out _ ((Below.refl _ _).alloc (Nat.le_refl _) _)).grown hb2 hown4 hgrow; clear hown4 hgrow hat hlt4)
              go_roundw
              case rel => exact ⟨j3, k + 1, l2 ++ [c], HT4.out, rfl, by omega, (by rw [Hid, List.length_append, HK2.out]; rfl), hpl2.1, fun x hx => by rcases List.mem_append.1 hx with h | h; exact HL2.out x h; simp at h; omega, HM3⟩
              case measure => simp [intOf]; omega
      · have HJ : Hid (pk s j ≠ ((47 : Nat) : Int)) := h47
        have HF2 : Hid (F = if (rowByteF s l j).2.2 = true then rowL s (f - 1) (rowByteF s l j).1 (l ++ [(rowByteF s l j).2.1]) else ((rowByteF s l j).1, [], false)) := by rw [Hid, HF1.out, if_neg (fun e => h47 (by rw [e]; rfl))]
        clear h47 HF1
        have hpl := rowByteF_le s l j hj
        go_wp2_with fail
        refine (acceptN b s j 47 _ HRj.out (by omega) HJ.out).mono ?_
        rintro e w2 ⟨rfl, hm⟩
        have HT2 : Hid (Ri w1 w2 b j u5 l) := HT.out.move (by omega) (.mv hm)
        clear hm
        go_wp2_with fail
        refine (rowByte_any b s j w1.heap.size u5 l _ (HT2.out.mv.rc HR1.out hj) (by omega) HT2.out.own HL.out).mono ?_
        generalize rowByteF s l j = r at HF2 hpl ⊢
        obtain ⟨j2, c, ok⟩ := r
        simp only at hpl HF2 ⊢
        rintro e w3 ⟨rfl, hm⟩
        have HT3 : Hid (Ri w1 w3 b j2 u5 l) := HT2.out.move (by omega) hm
        have hsz3 := HT3.out.mv.size
        clear hm
        cases ok with
        | false =>
          have HF3 : Hid (F = (j2, [], false)) := by rw [Hid, HF2.out]; rfl
          have HG2 : Hid (G = (j2, noBytes, noBytes, false)) := by rw [Hid, HG1.out, HF3.out]; rfl
          clear HF2
          go_wp2_with fail
          rw [HG2.out]
          exact bodyPost_ret (v := .tuple #[.string noBytes, .string noBytes, .bool false]) (by simp [results, Tryz.results200, go_sem]; rfl) rfl ⟨_, _, rfl, HM1.out.trans HT3.out.mv, hpl.1, fun h => (by cases h)⟩
        | true =>
          have HF3 : Hid (F = rowL s (f - 1) j2 (l ++ [c])) := by rw [Hid, HF2.out]; rfl
          have hj2 := hpl.2.2.2 rfl
          have hc256 := hpl.2.2.1
          have HOW : Hid (∀ u, Below w3.heap.size w3 u → Ri w1 u b j2 u5 l) := fun u h => HT3.out.below h
          clear HF2
          go_wp2_with (at_builtin; refine wpList_append_lies _ rfl _ _ 99 rfl w1.heap.size 5 i0 (.int .u8 0) 1 1 Tryz.underlying99 hi0 hz0 hz1 hz2 rfl (by omega) u5 l.length (u8L l) rfl (HOW.out _ ((Below.refl _ _).alloc (Nat.le_refl _) _)).own ⟨w3.heap.size, 0, none⟩ 1 1 [Value.int .u8 (c : Int)] rfl rfl (cell_one_new _ _ _) (fun x hx => by simp at hx; subst hx; rfl) (by omega) (by unfold maxLen; omega) (by omega) (by simp; omega) (w3.heap.size + 1) (by simp) ?_; intro gg cap w4 hown4 hgrow hat hlt4; have HT4 : Hid (Ri w1 w4 b j2 (.slice (some ⟨gg, 0, none⟩) (l.length + 1) cap) (l ++ [c])) := (HOW.out _ ((Below.refl _ _).alloc (Nat.le_refl _) _)).grown (by omega) hown4 hgrow; clear hown4 hgrow hat hlt4)
          go_roundw
          case rel => exact ⟨j2, f - 1, l ++ [c], HT4.out, hpl.1, by simp; omega, by omega, fun x hx => by rcases List.mem_append.1 hx with h | h; exact HL.out x h; simp at h; omega, HF3⟩
          case measure =>
            have a1 := atOf_is HT4.out.mv.c1
            have a2 := HAT.out
            rw [a1, a2]
            omega
  · have HI : Hid (pk s i ≠ ((47 : Nat) : Int)) := h47
    have HG2 : Hid (G = (i, noBytes, noBytes, false)) := by rw [Hid, ← HG.out, rowsF, if_neg (fun e => h47 (by rw [e]; rfl))]
    clear h47
    go_enter Tryz.func200, Tryz.ntmps200
    go_wp2_with fail
    refine (acceptN b s i 47 _ HR.out (by omega) HI.out).mono ?_
    rintro e w1 ⟨rfl, hm⟩
    have HM1 : Hid (Mk b w w1 i) := .mv hm
    clear hm
    go_wp2_with fail
    rw [HG2.out]
    exact bodyPost_ret (v := .tuple #[.string noBytes, .string noBytes, .bool false]) (by simp [results, Tryz.results200, go_sem]; rfl) rfl ⟨_, _, rfl, HM1.out, hle, fun h => (by cases h)⟩
end Rs
end Go.Proofs.YtppjlpihaocdiaaGreatDoor

