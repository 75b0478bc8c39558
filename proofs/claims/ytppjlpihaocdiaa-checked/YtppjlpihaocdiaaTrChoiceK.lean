/- 'way', 'choice': a row of parts; ways between bars; with what they read. -/
import Derived.Test.YtppjlpihaocdiaaTrPartK
set_option linter.unusedSimpArgs false
set_option linter.unusedVariables false
namespace Go.Proofs.Ytppjlpihaocdiaa
namespace Tr
open Go.RowKit

theorem Try.info3 : (Try.prog.info? 3).map (fun i => (i.zero, i.size, i.bytes)) = some (some (.int .i64 0), 1, 8) := by kernel_rfl

section
variable {ch : PSt → PSt × Nat} {s : ByteArray}
theorem grow_add (p : PSt) (j : Nat) (d : Nd) : p.l.length ≤ (addN p j d).1.l.length := by simp [addN]
theorem grow_one (hc : ∀ p, p.l.length ≤ (ch p).1.l.length) (p : PSt) : p.l.length ≤ (oneF ch s p).1.l.length := by
  unfold oneF
  simp only
  (repeat' split) <;> first | exact grow_add _ _ _ | exact Nat.le_trans (hc ⟨p.at' + 1, p.g + 1, p.l⟩) (grow_add _ _ _)
theorem grow_part (hc : ∀ p, p.l.length ≤ (ch p).1.l.length) (p : PSt) : p.l.length ≤ (partF ch s p).1.l.length := by
  have h := grow_one (s := s) hc p
  unfold partF
  simp only
  (repeat' split) <;> first | exact Nat.le_trans h (grow_add _ _ _) | exact h
theorem grow_join (k : Nat) (zs : List Nat) (p : PSt) : p.l.length ≤ (joinF k zs p).1.l.length := by
  unfold joinF
  split
  · exact Nat.le_refl _
  · exact grow_add _ _ _
theorem grow_wayL (hc : ∀ p, p.l.length ≤ (ch p).1.l.length) : ∀ (f : Nat) (p : PSt) (zs : List Nat), p.l.length ≤ (wayL ch s f p zs).1.l.length
  | 0, p, zs => Nat.le_refl _
  | f + 1, p, zs => by
    have h := grow_part (s := s) hc p
    unfold wayL
    simp only
    split
    · exact Nat.le_trans h (grow_wayL hc f _ _)
    · exact Nat.le_trans h (grow_join _ _ _)
theorem grow_choiceL (hc : ∀ p, p.l.length ≤ (ch p).1.l.length) : ∀ (f : Nat) (p : PSt) (zs : List Nat), p.l.length ≤ (choiceL ch s f p zs).1.l.length
  | 0, p, zs => Nat.le_refl _
  | f + 1, p, zs => by
    have h : p.l.length ≤ (wayF ch s p).1.l.length := grow_wayL hc _ _ _
    unfold choiceL
    simp only
    split
    · exact Nat.le_trans h (grow_choiceL hc f ⟨(wayF ch s p).1.at' + 1, (wayF ch s p).1.g, (wayF ch s p).1.l⟩ _)
    · exact Nat.le_trans h (grow_join _ _ _)
end
theorem grow_choiceN (s : ByteArray) : ∀ (n : Nat) (p : PSt), p.l.length ≤ (choiceN s n p).1.l.length
  | 0, p => Nat.le_refl _
  | n + 1, p => grow_choiceL (grow_choiceN s n) _ _ _

/-- What holds from round to round while a call gathers kids. -/
structure Gath (w wr : World) (b i o : Nat) (n : NX) (s : ByteArray) (nv kv : Value) (j g' : Nat) (n' : NX) (nv' : Value) (zs : List Nat) (st : St) : Prop where
  rd : Rd wr b s j o g' nv' n'
  fr : Fr b nv nv' w wr
  kd : Kd wr w.heap.size nv' kv zs
  run : run s j = some st
  o : st.o = o
  a : st.a = g'
  ij : i + zs.length ≤ j
  nn : n'.l.length + zs.length + 2 * i ≤ n.l.length + 2 * j
  X : n'.X = fun k => n.X k ∨ kv.ownBlock = some k
  zn : ∀ z ∈ zs, z < n'.l.length

theorem Cells.ofX {w w' : World} {b : Nat} {nv : Value} {xs : List Value} {n : NX} (h : Cells w b nv xs n) (hb : ∀ k, k < w.heap.size → k ≠ b → some k ≠ nv.ownBlock → ¬ n.X k → w'.heap[k]? = w.heap[k]?) : Cells w' b nv xs n := fun k d hd => by
  obtain ⟨ao, c, y0, y1, y2, y3, h1, h2, h3, h4⟩ := h k d hd
  refine ⟨ao, c, y0, y1, y2, y3, h1, ?_, h3, h4⟩
  rcases h2 with h2 | ⟨kb, e1, e2, e3, e4, e5⟩
  · exact .inl h2
  · refine .inr ⟨kb, e1, e2, e3, e4, fun k y hy => ?_⟩
    have := e5 k y hy
    exact (World.cell?_of_block (w := w) (w' := w') (a := ⟨kb, k, none⟩) (hb kb (World.block_lt_of_cell? w _ this) e2 (fun e => e3 e.symm) e4)).trans this

theorem kids_more {w wr w1 : World} {b o : Nat} {s : ByteArray} {nv kv : Value} {j g' : Nat} {n n' : NX} {nv' : Value} {zs : List Nat} {z : Nat} {gg cap : Nat}
    (hb : b < w.heap.size) (hrd : Rd wr b s j o g' nv' n') (hX : n'.X = fun k => n.X k ∨ kv.ownBlock = some k) (hfr : Fr b nv nv' w wr) (hkd : Kd wr w.heap.size nv' kv zs)
    (hown : w1.ownsRow w.heap.size 3 1 (.slice (some ⟨gg, 0, none⟩) (zs.length + 1) cap) (zs.length + 1) ((zs.map fun z : Nat => Value.int .i64 (z : Int)) ++ [.int .i64 (z : Int)]))
    (hg : (wr.alloc (.cells #[.int .i64 (z : Int)] 3)).grownBy w1 kv.ownBlock) (hat : kv.ownBlock = some gg ∨ gg = wr.heap.size + 1) :
    Rd w1 b s j o g' nv' ⟨n'.l, fun k => n.X k ∨ (Value.slice (some ⟨gg, 0, none⟩) (zs.length + 1) cap).ownBlock = some k⟩ ∧ Fr b nv nv' w w1 ∧ Kd w1 w.heap.size nv' (.slice (some ⟨gg, 0, none⟩) (zs.length + 1) cap) (zs ++ [z]) := by
  have hsz : (wr.alloc (.cells #[.int .i64 (z : Int)] 3)).heap.size = wr.heap.size + 1 := by simp
  have hx : ∀ k, k < wr.heap.size → some k ≠ kv.ownBlock → w1.heap[k]? = wr.heap[k]? := fun k hk hne => by
    rw [hg.block k (by omega) hne, Below.heap_alloc _ _ _ hk]
  have hkb : ∀ k, kv.ownBlock = some k → w.heap.size ≤ k ∧ k < wr.heap.size := fun k hk => hkd.own.lt k hk
  have hsize := hg.size
  refine ⟨?_, ?_, ?_⟩
  · have hrd2 : Rd wr b s j o g' nv' ⟨n'.l, fun k => (n.X k ∨ kv.ownBlock = some k) ∨ gg = k⟩ := Rd.bar hrd _ (fun k hk hh => by
      rw [hX]
      rcases hh with hh | hh
      · exact hh
      · subst hh
        rcases hat with e | e
        · exact .inr e
        · omega)
    obtain ⟨⟨r0, r1, rf, rle, r40⟩, c2, c3, c4, f2, f3, f4, ⟨xs, ho, hce⟩, hwf⟩ := hrd2
    have hbb : b < wr.heap.size := World.block_lt_of_cell? wr _ r0
    have hbx := hx b hbb (fun e => by have := (hkb b e.symm).1; omega)
    have hc : ∀ k, w1.cell? ⟨b, k, none⟩ = wr.cell? ⟨b, k, none⟩ := fun k => World.cell?_of_block (w := wr) (w' := w1) (a := ⟨b, k, none⟩) hbx
    have hf : ∀ k, w1.frozen? ⟨b, k, none⟩ = wr.frozen? ⟨b, k, none⟩ := fun k => World.frozen?_of_block (w := wr) (w' := w1) (a := ⟨b, k, none⟩) hbx
    have hrd3 : Rd w1 b s j o g' nv' ⟨n'.l, fun k => (n.X k ∨ kv.ownBlock = some k) ∨ gg = k⟩ := ⟨⟨(hc 0).trans r0, (hc 1).trans r1, (hf 1).trans rf, rle, r40⟩, (hc 2).trans c2, (hc 3).trans c3, (hc 4).trans c4, (hf 2).trans f2, (hf 3).trans f3, (hf 4).trans f4, ⟨xs,
      ownsRow_of_block ho fun k hk => hx k (ho.lt k hk).2 (fun e => hkd.ne k e.symm hk), hce.ofX fun k hk _ _ hnx => hx k hk (fun e => hnx (.inl (.inr e.symm)))⟩, hwf⟩
    exact Rd.bar hrd3 _ (fun k _ hh => by
      rcases hh with hh | hh
      · exact .inl (.inl hh)
      · exact .inr (by simpa [Value.ownBlock] using hh))
  · refine ⟨hg.os.trans hfr.os, hg.tape.trans hfr.tape, hg.output.trans hfr.output, by have := hfr.size; omega, fun k hk hkb' hkn => ?_, hfr.lies⟩
    rw [hx k (by have := hfr.size; omega) (fun e => by have := (hkb k e.symm).1; omega)]
    exact hfr.block k hk hkb' hkn
  · refine ⟨?_, fun k hk => ?_⟩
    · rw [List.map_append, List.length_append]
      exact hown
    · have hgk : gg = k := by simpa [Value.ownBlock] using hk
      subst hgk
      rcases hat with e | e
      · exact hkd.ne gg e
      · intro hh
        obtain ⟨xs, ho, _⟩ := hrd.own
        have := (ho.lt gg hh).2
        omega

theorem joinF_more {k : Nat} {zs : List Nat} {p : PSt} (h : 2 ≤ zs.length) : joinF k zs p = addN p p.at' (rowN k zs) := by
  match zs, h with
  | a :: b :: l, _ => rfl

set_option maxHeartbeats 1000000 in
theorem way_any (N : Nat) (ih : ChoiceAt N) (b i o g : Nat) (n : NX) (s : ByteArray) (nv : Value) (st : St) (w : World) (hI : OneIn N w b i o g n s nv st) :
    Calls Try.prog 55 #[.pointer (some ⟨b, 0, none⟩)] w fun e w' => ∃ (z : Int) (ok : Bool), e = .returned (.tuple #[.int .i64 z, .bool ok]) ∧ Post b s i o n nv w (WayQ s) (wayF (choiceN s N) s ⟨i, g, n.l⟩) z ok w' := by
  generalize hFF : wayF (choiceN s N) s ⟨i, g, n.l⟩ = FF
  have HFF : Hid (wayF (choiceN s N) s ⟨i, g, n.l⟩ = FF) := hFF
  clear hFF
  have HI : Hid (OneIn N w b i o g n s nv st) := hI
  have HR : Hid (Rd w b s i o g nv n) := hI.rd
  have hn := hI.n2
  have h40 := hI.rd.rc.s40
  have hN := hI.N
  have hb : b < w.heap.size := World.block_lt_of_cell? w _ hI.rd.rc.c0
  have IH : Hid (ChoiceAt N) := ih
  obtain ⟨i0, hi0, hz0, hz1, hz2⟩ := info_parts Try.info3
  clear hI ih
  go_enter Try.func55, Try.ntmps55
  go_wp2_with fail
  go_loopw [4] (fun kv wr => ∃ j g' n' nv' zs st f, Gath w wr b i o n s nv kv j g' n' nv' zs st ∧ s.size ≤ f + j ∧ Hid (wayL (choiceN s N) s s.size ⟨i, g, n.l⟩ [] = wayL (choiceN s N) s f ⟨j, g', n'.l⟩ zs) ∧ st.m ≤ 2 ∧ (st.m = 0 ∨ starts s j = true)) (fun _ wr => s.size - atOf wr b)
  case atStart => exact ⟨i, g, ⟨n.l, fun k => n.X k ∨ (Value.slice none 0 0).ownBlock = some k⟩, nv, [], st, s.size, ⟨Rd.bar HR.out _ (fun k _ h => h.elim id fun h => by cases h), Fr.refl _ _ _, ⟨World.ownsRow_nil _ _ _ _, fun k hk => by cases hk⟩, HI.out.run, HI.out.o, HI.out.a, by simp, by simp, rfl, fun z hz => by cases hz⟩, by omega, rfl, HI.out.m2, HI.out.st⟩
  case round =>
    obtain ⟨j, g', n', nv', zs, st2, fu, hG, hfu, HWL, hm2, hst2⟩ := hrel
    have HGa : Hid (Gath w wr b i o n s nv u4 j g' n' nv' zs st2) := hG
    have HXr : Hid (∀ q, n'.X q → q < wr.heap.size) := fun q hq => by
      rw [hG.X] at hq
      rcases hq with hq | hq
      · exact Nat.lt_of_lt_of_le (HI.out.X q hq) hG.fr.size
      · exact (hG.kd.own.lt q hq).2
    have hij := hG.ij
    have hnn := hG.nn
    have hjs := hG.rd.rc.le
    have HAT : Hid (atOf wr b = j) := atOf_is hG.rd.rc.c1
    have HO : Hid (OneIn N wr b j o g' n' s nv' st2) := ⟨hG.rd, by omega, HXr.out, hG.run, hG.o, hG.a, hm2, hst2, by omega⟩
    clear hG hm2 hst2
    go_wp2_with fail
    refine (part_any N IH.out b j o g' n' s nv' st2 _ HO.out).mono ?_
    rintro e w1 ⟨z, ok, rfl, hP⟩
    rcases hP with ⟨rfl, j2, g2, n2, nv2, st3, zn, q1, q2, q3, q4, q5, q6, q7, q8, q9, rfl, q11, q12⟩ | ⟨rfl, j2, q1, q2, q3⟩
    · have HK1 : Hid (Kd w1 w.heap.size nv2 u4 zs) := HGa.out.kd.fr q2 hb
      have HR1 : Hid (Rd w1 b s j2 o g2 nv2 n2) := q1
      have HF1 : Hid (Fr b nv nv2 w w1) := HGa.out.fr.trans q2
      have HG1 : Hid (run s j2 = some st3) := q3
      have HQ1 : Hid (PartQ s j2 st3) := q8
      have hj2 := q1.rc.le
      have hsz := HF1.out.size
      have hz : zs.length ≤ 400 := by omega
      have HX1 : Hid (n2.X = fun k => n.X k ∨ u4.ownBlock = some k) := by rw [Hid, q9]; exact HGa.out.X
      have HGW : Hid (n'.l.length ≤ n2.l.length) := by
        have := grow_part (s := s) (grow_choiceN s N) ⟨j, g', n'.l⟩
        rw [q12] at this
        exact this
      have HPF : Hid _ := q12
      clear q1 q2 q3 q8 q9 q12
      go_wp2_with (at_builtin; refine wpList_append_lies _ rfl _ _ 57 rfl w.heap.size 3 i0 (.int .i64 0) 1 8 Try.underlying57 hi0 hz0 hz1 hz2 rfl (by omega) u4 zs.length (zs.map fun z : Nat => Value.int .i64 (z : Int)) rfl (HK1.out.own.alloc _) ⟨w1.heap.size, 0, none⟩ 1 1 [.int .i64 (zn : Int)] rfl rfl (cell_one_new _ _ _) (fun x hx => by simp at hx; subst hx; rfl) (by omega) (by unfold maxLen; omega) (by omega) (by simp; omega) (w1.heap.size + 1) (by simp) ?_; intro gg cap w2 hown2 hgrow hat hlt)
      have hM := kids_more hb HR1.out HX1.out HF1.out HK1.out hown2 hgrow hat
      have HZN : Hid (∀ y ∈ zs ++ [zn], y < n2.l.length) := fun y hy => by
        rcases List.mem_append.1 hy with hy | hy
        · exact Nat.lt_of_lt_of_le (HGa.out.zn y hy) HGW.out
        · have : y = zn := by simpa using hy
          rw [this]; exact q11
      have HR2 : Hid (Rd w2 b s j2 o g2 nv2 ⟨n2.l, fun k => n.X k ∨ (Value.slice (some ⟨gg, 0, none⟩) (zs.length + 1) cap).ownBlock = some k⟩) := hM.1
      have HF2 : Hid (Fr b nv nv2 w w2) := hM.2.1
      have HK2 : Hid (Kd w2 w.heap.size nv2 (.slice (some ⟨gg, 0, none⟩) (zs.length + 1) cap) (zs ++ [zn])) := hM.2.2
      clear hM hown2 hgrow hat hlt
      refine (starts_any b s j2 _ HR2.out.rc).mono ?_
      rcases bool_or (starts s j2) with hs | hs
      · have HS : Hid (starts s j2 = true) := hs
        rw [hs]
        clear hs
        rintro e w3 ⟨rfl, hm3⟩
        have HR3 : Hid (Rd w3 b s j2 o g2 nv2 ⟨n2.l, fun k => n.X k ∨ (Value.slice (some ⟨gg, 0, none⟩) (zs.length + 1) cap).ownBlock = some k⟩) := Mv.rd hm3 HR2.out hj2
        have HF3 : Hid (Fr b nv nv2 w w3) := HF2.out.trans (Mv.fr hm3 nv2)
        have HK3 : Hid (Kd w3 w.heap.size nv2 (.slice (some ⟨gg, 0, none⟩) (zs.length + 1) cap) (zs ++ [zn])) := HK2.out.fr (Mv.fr hm3 nv2) hb
        clear hm3
        go_wp2_with fail
        go_roundw
        case rel => exact ⟨j2, g2, ⟨n2.l, fun k => n.X k ∨ (Value.slice (some ⟨gg, 0, none⟩) (zs.length + 1) cap).ownBlock = some k⟩, nv2, zs ++ [zn], st3, fu - 1, ⟨HR3.out, HF3.out, HK3.out, HG1.out, q4, q5, by simp; omega, by simp; omega, rfl, HZN.out⟩, by omega, by rw [HWL.out, show fu = (fu - 1) + 1 by omega, wayL]; (try simp only); rw [HPF.out]; (try simp only); rw [if_pos (show startsP s j2 = true from HS.out)]; rfl, by rcases HQ1.out with x | x <;> omega, .inr HS.out⟩
        case measure =>
          have a1 := atOf_is HR3.out.rc.c1
          have a2 := HAT.out
          rw [a1, a2]
          omega
      · have HS : Hid (starts s j2 = false) := hs
        rw [hs]
        clear hs
        rintro e w3 ⟨rfl, hm3⟩
        have HR3 : Hid (Rd w3 b s j2 o g2 nv2 ⟨n2.l, fun k => n.X k ∨ (Value.slice (some ⟨gg, 0, none⟩) (zs.length + 1) cap).ownBlock = some k⟩) := Mv.rd hm3 HR2.out hj2
        have HF3 : Hid (Fr b nv nv2 w w3) := HF2.out.trans (Mv.fr hm3 nv2)
        have HK3 : Hid (Kd w3 w.heap.size nv2 (.slice (some ⟨gg, 0, none⟩) (zs.length + 1) cap) (zs ++ [zn])) := HK2.out.fr (Mv.fr hm3 nv2) hb
        clear hm3
        go_wp2_with fail
        by_cases hzs : zs = []
        · subst hzs
          refine (join_one b nv2 _ w.heap.size _ zn _ HK3.out).mono ?_
          rintro e w4 ⟨rfl, hw4⟩
          subst hw4
          go_wp2_with fail
          go_ret2
          simp only [List.length_nil] at hnn
          exact ⟨_, true, rfl, .inl ⟨rfl, _, _, _, nv2, _, zn, (Rd.bar HR3.out n.X (fun k _ h => .inl h)), HF3.out, HG1.out, q4, q5, by omega, by show n2.l.length + 1 + 2 * i ≤ n.l.length + 2 * j2; omega, ⟨HQ1.out, HS.out⟩, rfl, rfl, q11, by rw [← HFF.out]; show wayL (choiceN s N) s s.size ⟨i, g, n.l⟩ [] = _; rw [HWL.out, show fu = (fu - 1) + 1 by omega, wayL]; (try simp only); rw [HPF.out]; (try simp only); rw [if_neg (show ¬ startsP s j2 = true from by rw [show startsP s j2 = starts s j2 from rfl, HS.out]; simp)]; rfl⟩⟩
        · have hl : 1 ≤ zs.length := by cases zs with | nil => exact absurd rfl hzs | cons a l => simp
          refine (join_more b j2 o g2 ⟨n2.l, n.X⟩ s nv2 _ w.heap.size _ 5 (zs ++ [zn]) _ (Rd.bar HR3.out n.X (fun k _ h => .inl h)) (by show n2.l.length ≤ 1000; omega) HK3.out (by simp; omega) (by simp; omega) (by omega) rfl HI.out.X hb HZN.out).mono ?_
          rintro e w4 ⟨nv4, rfl, p1, p2⟩
          go_wp2_with fail
          go_ret2
          exact ⟨_, true, rfl, .inl ⟨rfl, _, _, _, nv4, _, n2.l.length, p1, HF3.out.trans p2, HG1.out, q4, q5, by omega, by rw [len_add]; show n2.l.length + 1 + 1 + 2 * i ≤ _; omega, ⟨HQ1.out, HS.out⟩, rfl, rfl, by rw [len_add]; show n2.l.length < n2.l.length + 1; omega, by rw [← HFF.out]; show wayL (choiceN s N) s s.size ⟨i, g, n.l⟩ [] = _; rw [HWL.out, show fu = (fu - 1) + 1 by omega, wayL]; (try simp only); rw [HPF.out]; (try simp only); rw [if_neg (show ¬ startsP s j2 = true from by rw [show startsP s j2 = starts s j2 from rfl, HS.out]; simp)]; rw [joinF_more (by simp; omega)]; rfl⟩⟩
    · have HF : Hid (Fails s j2) := q1
      have HB : Hid (Below b w w1) := (HGa.out.fr.below HR.out).trans q3
      have HC : Hid (w1.cell? ⟨b, 1, none⟩ = some (.int .i64 j2)) := q2
      clear q1 q2 q3
      go_wp2_with fail
      go_ret2
      exact ⟨_, false, rfl, .inr ⟨rfl, j2, HF.out, HC.out, HB.out⟩⟩
theorem step_bar {st : St} (hm : st.m = 1 ∨ st.m = 2) : step st 124 = some ⟨0, st.o, st.a, st.l⟩ := by
  obtain ⟨m, o, a, l⟩ := st
  have hq : ¬ (inB quants 124 = true) := by rw [inB_quants]; omega
  simp only at hm
  have hs : step ⟨m, o, a, l⟩ 124 = goesOn ⟨m, o, a, l⟩ 124 := by
    unfold step
    rw [if_neg (by simp only; omega), if_pos hm]
  rw [hs]
  unfold goesOn
  rw [if_neg (fun h => hq h.2), if_neg (fun h => by have := h.2; omega), if_pos rfl]

set_option maxHeartbeats 1000000 in
theorem choice_any (N : Nat) (ih : ChoiceAt N) (b i o g : Nat) (n : NX) (s : ByteArray) (nv : Value) (st : St) (w : World) (hI : OneIn N w b i o g n s nv st) (h0 : st.m = 0) :
    Calls Try.prog 27 #[.pointer (some ⟨b, 0, none⟩)] w fun e w' => ∃ (z : Int) (ok : Bool), e = .returned (.tuple #[.int .i64 z, .bool ok]) ∧ Post b s i o n nv w (ChQ s) (choiceF (choiceN s N) s ⟨i, g, n.l⟩) z ok w' := by
  generalize hFF : choiceF (choiceN s N) s ⟨i, g, n.l⟩ = FF
  have HFF : Hid (choiceF (choiceN s N) s ⟨i, g, n.l⟩ = FF) := hFF
  clear hFF
  have HI : Hid (OneIn N w b i o g n s nv st) := hI
  have HR : Hid (Rd w b s i o g nv n) := hI.rd
  have hn := hI.n2
  have h40 := hI.rd.rc.s40
  have hN := hI.N
  have hb : b < w.heap.size := World.block_lt_of_cell? w _ hI.rd.rc.c0
  have IH : Hid (ChoiceAt N) := ih
  obtain ⟨i0, hi0, hz0, hz1, hz2⟩ := info_parts Try.info3
  clear hI ih
  go_enter Try.func27, Try.ntmps27
  go_wp2_with fail
  go_loopw [4] (fun kv wr => ∃ j g' n' nv' zs st f, Gath w wr b i o n s nv kv j g' n' nv' zs st ∧ s.size ≤ f + j ∧ Hid (choiceL (choiceN s N) s s.size ⟨i, g, n.l⟩ [] = choiceL (choiceN s N) s f ⟨j, g', n'.l⟩ zs) ∧ st.m = 0) (fun _ wr => s.size - atOf wr b)
  case atStart => exact ⟨i, g, ⟨n.l, fun k => n.X k ∨ (Value.slice none 0 0).ownBlock = some k⟩, nv, [], st, s.size, ⟨Rd.bar HR.out _ (fun k _ h => h.elim id fun h => by cases h), Fr.refl _ _ _, ⟨World.ownsRow_nil _ _ _ _, fun k hk => by cases hk⟩, HI.out.run, HI.out.o, HI.out.a, by simp, by simp, rfl, fun z hz => by cases hz⟩, by omega, rfl, h0⟩
  case round =>
    obtain ⟨j, g', n', nv', zs, st2, fu, hG, hfu, HWL, hm2⟩ := hrel
    have HGa : Hid (Gath w wr b i o n s nv u4 j g' n' nv' zs st2) := hG
    have HXr : Hid (∀ q, n'.X q → q < wr.heap.size) := fun q hq => by
      rw [hG.X] at hq
      rcases hq with hq | hq
      · exact Nat.lt_of_lt_of_le (HI.out.X q hq) hG.fr.size
      · exact (hG.kd.own.lt q hq).2
    have hij := hG.ij
    have hnn := hG.nn
    have hjs := hG.rd.rc.le
    have HAT : Hid (atOf wr b = j) := atOf_is hG.rd.rc.c1
    have HO : Hid (OneIn N wr b j o g' n' s nv' st2) := ⟨hG.rd, by omega, HXr.out, hG.run, hG.o, hG.a, by omega, .inl hm2, by omega⟩
    clear hG hm2
    go_wp2_with fail
    refine (way_any N IH.out b j o g' n' s nv' st2 _ HO.out).mono ?_
    rintro e w1 ⟨z, ok, rfl, hP⟩
    rcases hP with ⟨rfl, j2, g2, n2, nv2, st3, zn, q1, q2, q3, q4, q5, q6, q7, q8, q9, rfl, q11, q12⟩ | ⟨rfl, j2, q1, q2, q3⟩
    · have HK1 : Hid (Kd w1 w.heap.size nv2 u4 zs) := HGa.out.kd.fr q2 hb
      have HR1 : Hid (Rd w1 b s j2 o g2 nv2 n2) := q1
      have HF1 : Hid (Fr b nv nv2 w w1) := HGa.out.fr.trans q2
      have HG1 : Hid (run s j2 = some st3) := q3
      have HQ1 : Hid (WayQ s j2 st3) := q8
      have hj2 := q1.rc.le
      have hsz := HF1.out.size
      have hz : zs.length ≤ 400 := by omega
      have HX1 : Hid (n2.X = fun k => n.X k ∨ u4.ownBlock = some k) := by rw [Hid, q9]; exact HGa.out.X
      have HGW : Hid (n'.l.length ≤ n2.l.length) := by
        have := grow_wayL (s := s) (grow_choiceN s N) s.size ⟨j, g', n'.l⟩ []
        rw [show wayL (choiceN s N) s s.size ⟨j, g', n'.l⟩ [] = wayF (choiceN s N) s ⟨j, g', n'.l⟩ from rfl, q12] at this
        exact this
      have HPF : Hid _ := q12
      clear q1 q2 q3 q8 q9 q12
      go_wp2_with (at_builtin; refine wpList_append_lies _ rfl _ _ 57 rfl w.heap.size 3 i0 (.int .i64 0) 1 8 Try.underlying57 hi0 hz0 hz1 hz2 rfl (by omega) u4 zs.length (zs.map fun z : Nat => Value.int .i64 (z : Int)) rfl (HK1.out.own.alloc _) ⟨w1.heap.size, 0, none⟩ 1 1 [.int .i64 (zn : Int)] rfl rfl (cell_one_new _ _ _) (fun x hx => by simp at hx; subst hx; rfl) (by omega) (by unfold maxLen; omega) (by omega) (by simp; omega) (w1.heap.size + 1) (by simp) ?_; intro gg cap w2 hown2 hgrow hat hlt)
      have hM := kids_more hb HR1.out HX1.out HF1.out HK1.out hown2 hgrow hat
      have HZN : Hid (∀ y ∈ zs ++ [zn], y < n2.l.length) := fun y hy => by
        rcases List.mem_append.1 hy with hy | hy
        · exact Nat.lt_of_lt_of_le (HGa.out.zn y hy) HGW.out
        · have : y = zn := by simpa using hy
          rw [this]; exact q11
      have HR2 : Hid (Rd w2 b s j2 o g2 nv2 ⟨n2.l, fun k => n.X k ∨ (Value.slice (some ⟨gg, 0, none⟩) (zs.length + 1) cap).ownBlock = some k⟩) := hM.1
      have HF2 : Hid (Fr b nv nv2 w w2) := hM.2.1
      have HK2 : Hid (Kd w2 w.heap.size nv2 (.slice (some ⟨gg, 0, none⟩) (zs.length + 1) cap) (zs ++ [zn])) := hM.2.2
      clear hM hown2 hgrow hat hlt
      refine (accept_any b s j2 124 _ HR2.out.rc (by omega)).mono ?_
      rintro e w3 ⟨q, j3, rfl, hm3, hq3⟩
      have HM3 : Hid (Mv b w2 w3 j3) := hm3
      clear hm3
      rcases hq3 with ⟨rfl, m1, m2⟩ | ⟨rfl, m1, m2⟩
      · obtain ⟨m3, m4⟩ := pk_is (c := 124) m1
        have HG3 : Hid (run s j3 = some ⟨0, st3.o, st3.a, st3.l⟩) := by
          rw [m2, Hid, run_succ HG1.out, m4]
          exact step_bar (by
            rcases HQ1.out.1 with x | x
            · exact .inl x.1
            · exact .inr x)
        have HR3 : Hid (Rd w3 b s j3 o g2 nv2 ⟨n2.l, fun k => n.X k ∨ (Value.slice (some ⟨gg, 0, none⟩) (zs.length + 1) cap).ownBlock = some k⟩) := Mv.rd HM3.out HR2.out (by omega)
        have HF3 : Hid (Fr b nv nv2 w w3) := HF2.out.trans (Mv.fr HM3.out nv2)
        have HK3 : Hid (Kd w3 w.heap.size nv2 (.slice (some ⟨gg, 0, none⟩) (zs.length + 1) cap) (zs ++ [zn])) := HK2.out.fr (Mv.fr HM3.out nv2) hb
        go_wp2_with fail
        go_roundw
        case rel => exact ⟨j3, g2, ⟨n2.l, fun k => n.X k ∨ (Value.slice (some ⟨gg, 0, none⟩) (zs.length + 1) cap).ownBlock = some k⟩, nv2, zs ++ [zn], _, fu - 1, ⟨HR3.out, HF3.out, HK3.out, HG3.out, q4, q5, by simp; omega, by simp; omega, rfl, HZN.out⟩, by omega, by rw [HWL.out, show fu = (fu - 1) + 1 by omega, choiceL]; (try simp only); rw [HPF.out]; (try simp only); rw [if_pos (show pk s j2 = 124 from m1), m2]; rfl, rfl⟩
        case measure =>
          have a1 := atOf_is HR3.out.rc.c1
          have a2 := HAT.out
          rw [a1, a2]
          omega
      · have HS : Hid (pk s j2 ≠ (124 : Nat)) := m1
        subst m2
        have HR3 : Hid (Rd w3 b s j3 o g2 nv2 ⟨n2.l, fun k => n.X k ∨ (Value.slice (some ⟨gg, 0, none⟩) (zs.length + 1) cap).ownBlock = some k⟩) := Mv.rd HM3.out HR2.out hj2
        have HF3 : Hid (Fr b nv nv2 w w3) := HF2.out.trans (Mv.fr HM3.out nv2)
        have HK3 : Hid (Kd w3 w.heap.size nv2 (.slice (some ⟨gg, 0, none⟩) (zs.length + 1) cap) (zs ++ [zn])) := HK2.out.fr (Mv.fr HM3.out nv2) hb
        clear m1
        go_wp2_with fail
        by_cases hzs : zs = []
        · subst hzs
          refine (join_one b nv2 _ w.heap.size _ zn _ HK3.out).mono ?_
          rintro e w4 ⟨rfl, hw4⟩
          subst hw4
          go_wp2_with fail
          go_ret2
          simp only [List.length_nil] at hnn
          exact ⟨_, true, rfl, .inl ⟨rfl, _, _, _, nv2, _, zn, (Rd.bar HR3.out n.X (fun k _ h => .inl h)), HF3.out, HG1.out, q4, q5, by omega, by show n2.l.length + 1 + 2 * i ≤ n.l.length + 2 * j3; omega, ⟨HQ1.out, HS.out⟩, rfl, rfl, q11, by rw [← HFF.out]; show choiceL (choiceN s N) s s.size ⟨i, g, n.l⟩ [] = _; rw [HWL.out, show fu = (fu - 1) + 1 by omega, choiceL]; (try simp only); rw [HPF.out]; (try simp only); rw [if_neg (show ¬ pk s j3 = 124 from HS.out)]; rfl⟩⟩
        · have hl : 1 ≤ zs.length := by cases zs with | nil => exact absurd rfl hzs | cons a l => simp
          refine (join_more b j3 o g2 ⟨n2.l, n.X⟩ s nv2 _ w.heap.size _ 4 (zs ++ [zn]) _ (Rd.bar HR3.out n.X (fun k _ h => .inl h)) (by show n2.l.length ≤ 1000; omega) HK3.out (by simp; omega) (by simp; omega) (by omega) rfl HI.out.X hb HZN.out).mono ?_
          rintro e w4 ⟨nv4, rfl, p1, p2⟩
          go_wp2_with fail
          go_ret2
          exact ⟨_, true, rfl, .inl ⟨rfl, _, _, _, nv4, _, n2.l.length, p1, HF3.out.trans p2, HG1.out, q4, q5, by omega, by rw [len_add]; show n2.l.length + 1 + 1 + 2 * i ≤ _; omega, ⟨HQ1.out, HS.out⟩, rfl, rfl, by rw [len_add]; show n2.l.length < n2.l.length + 1; omega, by rw [← HFF.out]; show choiceL (choiceN s N) s s.size ⟨i, g, n.l⟩ [] = _; rw [HWL.out, show fu = (fu - 1) + 1 by omega, choiceL]; (try simp only); rw [HPF.out]; (try simp only); rw [if_neg (show ¬ pk s j3 = 124 from HS.out)]; rw [joinF_more (by simp; omega)]; rfl⟩⟩
    · have HF : Hid (Fails s j2) := q1
      have HB : Hid (Below b w w1) := (HGa.out.fr.below HR.out).trans q3
      have HC : Hid (w1.cell? ⟨b, 1, none⟩ = some (.int .i64 j2)) := q2
      clear q1 q2 q3
      go_wp2_with fail
      go_ret2
      exact ⟨_, false, rfl, .inr ⟨rfl, j2, HF.out, HC.out, HB.out⟩⟩

/-- 'choice' does what it should, however many bytes are left. -/
theorem choice_all : ∀ N, ChoiceAt N
  | 0 => by
    intro b i o g n s nv st w _ _ _ _ _ _ _ h
    omega
  | N + 1 => by
    intro b i o g n s nv st w hr hn hX hrun hm ho ha hN
    exact choice_any N (choice_all N) b i o g n s nv st w ⟨hr, hn, hX, hrun, ho, ha, by omega, .inl hm, hN⟩ hm

end Tr
end Go.Proofs.Ytppjlpihaocdiaa
