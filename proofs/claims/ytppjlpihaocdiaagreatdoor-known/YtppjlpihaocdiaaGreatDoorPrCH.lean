/- Several texts in one. -/
import Derived.Test.YtppjlpihaocdiaaGreatDoorTrPartH
import Derived.Test.YtppjlpihaocdiaaGreatDoorGiveAH
import Derived.Test.YtppjlpihaocdiaaGreatDoorPrBH
import Derived.Test.YtppjlpihaocdiaaGreatDoorTrBitsH
/- A part of the proof. -/
set_option linter.unusedSimpArgs false
set_option linter.unusedVariables false
namespace Go.Proofs.YtppjlpihaocdiaaGreatDoor
namespace Tr
open Go.RowKit
theorem Tryz.info3 : (Tryz.prog.info? 3).map (fun i => (i.zero, i.size, i.bytes)) = some (some (.int .i64 0), 1, 8) := by kernel_rfl
section
variable {ch : PSt → PSt × Nat} {s : ByteArray}
theorem grow_add (p : PSt) (j : Nat) (d : Nd) : p.l.length ≤ (addN p j d).1.l.length := by simp [addN]
theorem grow_one (hc : ∀ p, p.l.length ≤ (ch p).1.l.length) (p : PSt) : p.l.length ≤ (oneF ch s p).1.l.length := by
  unfold oneF
  simp only
  (repeat' split) <;> first | exact grow_add _ _ _ | exact Nat.le_trans (hc ⟨p.at' + 1, p.g + 1, p.l⟩) (grow_add _ _ _)
theorem grow_part (hc : ∀ p, p.l.length ≤ (ch p).1.l.length) (p : PSt) : p.l.length ≤ (partF ch s p).1.l.length := by
  have h := grow_one (s := s) hc p
  unfold partF
  simp only
  (repeat' split) <;> first | exact Nat.le_trans h (grow_add _ _ _) | exact h
theorem grow_join (k : Nat) (zs : List Nat) (p : PSt) : p.l.length ≤ (joinF k zs p).1.l.length := by
  unfold joinF
  split
  · exact Nat.le_refl _
  · exact grow_add _ _ _
theorem grow_wayL (hc : ∀ p, p.l.length ≤ (ch p).1.l.length) : ∀ (f : Nat) (p : PSt) (zs : List Nat), p.l.length ≤ (wayL ch s f p zs).1.l.length
  | 0, p, zs => Nat.le_refl _
  | f + 1, p, zs => by
    have h := grow_part (s := s) hc p
    unfold wayL
    simp only
    split
    · exact Nat.le_trans h (grow_wayL hc f _ _)
    · exact Nat.le_trans h (grow_join _ _ _)
theorem grow_choiceL (hc : ∀ p, p.l.length ≤ (ch p).1.l.length) : ∀ (f : Nat) (p : PSt) (zs : List Nat), p.l.length ≤ (choiceL ch s f p zs).1.l.length
  | 0, p, zs => Nat.le_refl _
  | f + 1, p, zs => by
    have h : p.l.length ≤ (wayF ch s p).1.l.length := grow_wayL hc _ _ _
    unfold choiceL
    simp only
    split
    · exact Nat.le_trans h (grow_choiceL hc f ⟨(wayF ch s p).1.at' + 1, (wayF ch s p).1.g, (wayF ch s p).1.l⟩ _)
    · exact Nat.le_trans h (grow_join _ _ _)
end
theorem grow_choiceN (s : ByteArray) : ∀ (n : Nat) (p : PSt), p.l.length ≤ (choiceN s n p).1.l.length
  | 0, p => Nat.le_refl _
  | n + 1, p => grow_choiceL (grow_choiceN s n) _ _ _
structure Gath (w wr : World) (b i o : Nat) (n : NX) (s : ByteArray) (nv kv : Value) (j g' : Nat) (n' : NX) (nv' : Value) (zs : List Nat) (st : St) : Prop where
  rd : Rd wr b s j o g' nv' n'
  fr : Fr b nv nv' w wr
  kd : Kd wr w.heap.size nv' kv zs
  run : run s j = some st
  o : st.o = o
  a : st.a = g'
  ij : i + zs.length ≤ j
  nn : n'.l.length + zs.length + 2 * i ≤ n.l.length + 2 * j
  X : n'.X = fun k => n.X k ∨ kv.ownBlock = some k
  zn : ∀ z ∈ zs, z < n'.l.length
theorem Cells.ofX {w w' : World} {b : Nat} {nv : Value} {xs : List Value} {n : NX} (h : Cells w b nv xs n) (hb : ∀ k, k < w.heap.size → k ≠ b → some k ≠ nv.ownBlock → ¬ n.X k → w'.heap[k]? = w.heap[k]?) : Cells w' b nv xs n := fun k d hd => by
  obtain ⟨ao, c, y0, y1, y2, y3, h1, h2, h3, h4⟩ := h k d hd
  refine ⟨ao, c, y0, y1, y2, y3, h1, ?_, h3, h4⟩
  rcases h2 with h2 | ⟨kb, e1, e2, e3, e4, e5⟩
  · exact .inl h2
  · refine .inr ⟨kb, e1, e2, e3, e4, fun k y hy => ?_⟩
    have := e5 k y hy
    exact (World.cell?_of_block (w := w) (w' := w') (a := ⟨kb, k, none⟩) (hb kb (World.block_lt_of_cell? w _ this) e2 (fun e => e3 e.symm) e4)).trans this
theorem kids_more {w wr w1 : World} {b o : Nat} {s : ByteArray} {nv kv : Value} {j g' : Nat} {n n' : NX} {nv' : Value} {zs : List Nat} {z : Nat} {gg cap : Nat}
    (hb : b < w.heap.size) (hrd : Rd wr b s j o g' nv' n') (hX : n'.X = fun k => n.X k ∨ kv.ownBlock = some k) (hfr : Fr b nv nv' w wr) (hkd : Kd wr w.heap.size nv' kv zs)
    (hown : w1.ownsRow w.heap.size 3 1 (.slice (some ⟨gg, 0, none⟩) (zs.length + 1) cap) (zs.length + 1) ((zs.map fun z : Nat => Value.int .i64 (z : Int)) ++ [.int .i64 (z : Int)]))
    (hg : (wr.alloc (.cells #[.int .i64 (z : Int)] 3)).grownBy w1 kv.ownBlock) (hat : kv.ownBlock = some gg ∨ gg = wr.heap.size + 1) :
    Rd w1 b s j o g' nv' ⟨n'.l, fun k => n.X k ∨ (Value.slice (some ⟨gg, 0, none⟩) (zs.length + 1) cap).ownBlock = some k⟩ ∧ Fr b nv nv' w w1 ∧ Kd w1 w.heap.size nv' (.slice (some ⟨gg, 0, none⟩) (zs.length + 1) cap) (zs ++ [z]) := by
  have hsz : (wr.alloc (.cells #[.int .i64 (z : Int)] 3)).heap.size = wr.heap.size + 1 := by simp
  have hx : ∀ k, k < wr.heap.size → some k ≠ kv.ownBlock → w1.heap[k]? = wr.heap[k]? := fun k hk hne => by
    rw [hg.block k (by omega) hne, Below.heap_alloc _ _ _ hk]
  have hkb : ∀ k, kv.ownBlock = some k → w.heap.size ≤ k ∧ k < wr.heap.size := fun k hk => hkd.own.lt k hk
  have hsize := hg.size
  refine ⟨?_, ?_, ?_⟩
  · have hrd2 : Rd wr b s j o g' nv' ⟨n'.l, fun k => (n.X k ∨ kv.ownBlock = some k) ∨ gg = k⟩ := Rd.bar hrd _ (fun k hk hh => by
      rw [hX]
      rcases hh with hh | hh
      · exact hh
      · subst hh
        rcases hat with e | e
        · exact .inr e
        · omega)
    obtain ⟨⟨r0, r1, rf, rle, r40⟩, c2, c3, c4, f2, f3, f4, ⟨xs, ho, hce⟩, hwf⟩ := hrd2
    have hbb : b < wr.heap.size := World.block_lt_of_cell? wr _ r0
    have hbx := hx b hbb (fun e => by have := (hkb b e.symm).1; omega)
    have hc : ∀ k, w1.cell? ⟨b, k, none⟩ = wr.cell? ⟨b, k, none⟩ := fun k => World.cell?_of_block (w := wr) (w' := w1) (a := ⟨b, k, none⟩) hbx
    have hf : ∀ k, w1.frozen? ⟨b, k, none⟩ = wr.frozen? ⟨b, k, none⟩ := fun k => World.frozen?_of_block (w := wr) (w' := w1) (a := ⟨b, k, none⟩) hbx
    have hrd3 : Rd w1 b s j o g' nv' ⟨n'.l, fun k => (n.X k ∨ kv.ownBlock = some k) ∨ gg = k⟩ := ⟨⟨(hc 0).trans r0, (hc 1).trans r1, (hf 1).trans rf, rle, r40⟩, (hc 2).trans c2, (hc 3).trans c3, (hc 4).trans c4, (hf 2).trans f2, (hf 3).trans f3, (hf 4).trans f4, ⟨xs,
      ownsRow_of_block ho fun k hk => hx k (ho.lt k hk).2 (fun e => hkd.ne k e.symm hk), hce.ofX fun k hk _ _ hnx => hx k hk (fun e => hnx (.inl (.inr e.symm)))⟩, hwf⟩
    exact Rd.bar hrd3 _ (fun k _ hh => by
      rcases hh with hh | hh
      · exact .inl (.inl hh)
      · exact .inr (by simpa [Value.ownBlock] using hh))
  · refine ⟨hg.os.trans hfr.os, hg.tape.trans hfr.tape, hg.output.trans hfr.output, by have := hfr.size; omega, fun k hk hkb' hkn => ?_, hfr.lies⟩
    rw [hx k (by have := hfr.size; omega) (fun e => by have := (hkb k e.symm).1; omega)]
    exact hfr.block k hk hkb' hkn
  · refine ⟨?_, fun k hk => ?_⟩
    · rw [List.map_append, List.length_append]
      exact hown
    · have hgk : gg = k := by simpa [Value.ownBlock] using hk
      subst hgk
      rcases hat with e | e
      · exact hkd.ne gg e
      · intro hh
        obtain ⟨xs, ho, _⟩ := hrd.own
        have := (ho.lt gg hh).2
        omega
theorem joinF_more {k : Nat} {zs : List Nat} {p : PSt} (h : 2 ≤ zs.length) : joinF k zs p = addN p p.at' (rowN k zs) := by
  match zs, h with
  | a :: b :: l, _ => rfl
set_option maxHeartbeats 1000000 in
theorem way_any (N : Nat) (ih : ChoiceAt N) (b i o g : Nat) (n : NX) (s : ByteArray) (nv : Value) (st : St) (w : World) (hI : OneIn N w b i o g n s nv st) :
    Calls Tryz.prog 99 #[.pointer (some ⟨b, 0, none⟩)] w fun e w' => ∃ (z : Int) (ok : Bool), e = .returned (.tuple #[.int .i64 z, .bool ok]) ∧ Post b s i o n nv w (WayQ s) (wayF (choiceN s N) s ⟨i, g, n.l⟩) z ok w' := by
  generalize hFF : wayF (choiceN s N) s ⟨i, g, n.l⟩ = FF
  have HFF : Hid (wayF (choiceN s N) s ⟨i, g, n.l⟩ = FF) := hFF
  clear hFF
  have HI : Hid (OneIn N w b i o g n s nv st) := hI
  have HR : Hid (Rd w b s i o g nv n) := hI.rd
  have hn := hI.n2
  have h40 := hI.rd.rc.s40
  have hN := hI.N
  have hb : b < w.heap.size := World.block_lt_of_cell? w _ hI.rd.rc.c0
  have IH : Hid (ChoiceAt N) := ih
  obtain ⟨i0, hi0, hz0, hz1, hz2⟩ := info_parts Tryz.info3
  clear hI ih
  go_enter Tryz.func99, Tryz.ntmps99
  go_wp2_with fail
  go_loopw [4] (fun kv wr => ∃ j g' n' nv' zs st f, Gath w wr b i o n s nv kv j g' n' nv' zs st ∧ s.size ≤ f + j ∧ Hid (wayL (choiceN s N) s s.size ⟨i, g, n.l⟩ [] = wayL (choiceN s N) s f ⟨j, g', n'.l⟩ zs) ∧ st.m ≤ 2 ∧ (st.m = 0 ∨ starts s j = true)) (fun _ wr => s.size - atOf wr b)
  case atStart => exact ⟨i, g, ⟨n.l, fun k => n.X k ∨ (Value.slice none 0 0).ownBlock = some k⟩, nv, [], st, s.size, ⟨Rd.bar HR.out _ (fun k _ h => h.elim id fun h => by cases h), Fr.refl _ _ _, ⟨World.ownsRow_nil _ _ _ _, fun k hk => by cases hk⟩, HI.out.run, HI.out.o, HI.out.a, by simp, by simp, rfl, fun z hz => by cases hz⟩, by omega, rfl, HI.out.m2, HI.out.st⟩
  case round =>
    obtain ⟨j, g', n', nv', zs, st2, fu, hG, hfu, HWL, hm2, hst2⟩ := hrel
    have HGa : Hid (Gath w wr b i o n s nv u4 j g' n' nv' zs st2) := hG
    have HXr : Hid (∀ q, n'.X q → q < wr.heap.size) := fun q hq => by
      rw [hG.X] at hq
      rcases hq with hq | hq
      · exact Nat.lt_of_lt_of_le (HI.out.X q hq) hG.fr.size
      · exact (hG.kd.own.lt q hq).2
    have hij := hG.ij
    have hnn := hG.nn
    have hjs := hG.rd.rc.le
    have HAT : Hid (atOf wr b = j) := atOf_is hG.rd.rc.c1
    have HO : Hid (OneIn N wr b j o g' n' s nv' st2) := ⟨hG.rd, by omega, HXr.out, hG.run, hG.o, hG.a, hm2, hst2, by omega⟩
    clear hG hm2 hst2
    go_wp2_with fail
    refine (part_any N IH.out b j o g' n' s nv' st2 _ HO.out).mono ?_
    rintro e w1 ⟨z, ok, rfl, hP⟩
    rcases hP with ⟨rfl, j2, g2, n2, nv2, st3, zn, q1, q2, q3, q4, q5, q6, q7, q8, q9, rfl, q11, q12⟩ | ⟨rfl, j2, q1, q2, q3⟩
    · have HK1 : Hid (Kd w1 w.heap.size nv2 u4 zs) := HGa.out.kd.fr q2 hb
      have HR1 : Hid (Rd w1 b s j2 o g2 nv2 n2) := q1
      have HF1 : Hid (Fr b nv nv2 w w1) := HGa.out.fr.trans q2
      have HG1 : Hid (run s j2 = some st3) := q3
      have HQ1 : Hid (PartQ s j2 st3) := q8
      have hj2 := q1.rc.le
      have hsz := HF1.out.size
      have hz : zs.length ≤ 400 := by omega
      have HX1 : Hid (n2.X = fun k => n.X k ∨ u4.ownBlock = some k) := by rw [Hid, q9]; exact HGa.out.X
      have HGW : Hid (n'.l.length ≤ n2.l.length) := by
        have := grow_part (s := s) (grow_choiceN s N) ⟨j, g', n'.l⟩
        rw [q12] at this
        exact this
      have HPF : Hid _ := q12
      clear q1 q2 q3 q8 q9 q12
      go_wp2_with (at_builtin; refine wpList_append_lies _ rfl _ _ 56 rfl w.heap.size 3 i0 (.int .i64 0) 1 8 Tryz.underlying56 hi0 hz0 hz1 hz2 rfl (by omega) u4 zs.length (zs.map fun z : Nat => Value.int .i64 (z : Int)) rfl (HK1.out.own.alloc _) ⟨w1.heap.size, 0, none⟩ 1 1 [.int .i64 (zn : Int)] rfl rfl (cell_one_new _ _ _) (fun x hx => by simp at hx; subst hx; rfl) (by omega) (by unfold maxLen; omega) (by omega) (by simp; omega) (w1.heap.size + 1) (by simp) ?_; intro gg cap w2 hown2 hgrow hat hlt)
      have hM := kids_more hb HR1.out HX1.out HF1.out HK1.out hown2 hgrow hat
      have HZN : Hid (∀ y ∈ zs ++ [zn], y < n2.l.length) := fun y hy => by
        rcases List.mem_append.1 hy with hy | hy
        · exact Nat.lt_of_lt_of_le (HGa.out.zn y hy) HGW.out
        · have : y = zn := by simpa using hy
          rw [this]; exact q11
      have HR2 : Hid (Rd w2 b s j2 o g2 nv2 ⟨n2.l, fun k => n.X k ∨ (Value.slice (some ⟨gg, 0, none⟩) (zs.length + 1) cap).ownBlock = some k⟩) := hM.1
      have HF2 : Hid (Fr b nv nv2 w w2) := hM.2.1
      have HK2 : Hid (Kd w2 w.heap.size nv2 (.slice (some ⟨gg, 0, none⟩) (zs.length + 1) cap) (zs ++ [zn])) := hM.2.2
      clear hM hown2 hgrow hat hlt
      refine (starts_any b s j2 _ HR2.out.rc).mono ?_
      rcases bool_or (starts s j2) with hs | hs
      · have HS : Hid (starts s j2 = true) := hs
        rw [hs]
        clear hs
        rintro e w3 ⟨rfl, hm3⟩
        have HR3 : Hid (Rd w3 b s j2 o g2 nv2 ⟨n2.l, fun k => n.X k ∨ (Value.slice (some ⟨gg, 0, none⟩) (zs.length + 1) cap).ownBlock = some k⟩) := Mv.rd hm3 HR2.out hj2
        have HF3 : Hid (Fr b nv nv2 w w3) := HF2.out.trans (Mv.fr hm3 nv2)
        have HK3 : Hid (Kd w3 w.heap.size nv2 (.slice (some ⟨gg, 0, none⟩) (zs.length + 1) cap) (zs ++ [zn])) := HK2.out.fr (Mv.fr hm3 nv2) hb
        clear hm3
        go_wp2_with fail
        go_roundw
        case rel => exact ⟨j2, g2, ⟨n2.l, fun k => n.X k ∨ (Value.slice (some ⟨gg, 0, none⟩) (zs.length + 1) cap).ownBlock = some k⟩, nv2, zs ++ [zn], st3, fu - 1, ⟨HR3.out, HF3.out, HK3.out, HG1.out, q4, q5, by simp; omega, by simp; omega, rfl, HZN.out⟩, by omega, by rw [HWL.out, show fu = (fu - 1) + 1 by omega, wayL]; (try simp only); rw [HPF.out]; (try simp only); rw [if_pos (show startsP s j2 = true from HS.out)]; rfl, by rcases HQ1.out with x | x <;> omega, .inr HS.out⟩
        case measure =>
          have a1 := atOf_is HR3.out.rc.c1
          have a2 := HAT.out
          rw [a1, a2]
          omega
      · have HS : Hid (starts s j2 = false) := hs
        rw [hs]
        clear hs
        rintro e w3 ⟨rfl, hm3⟩
        have HR3 : Hid (Rd w3 b s j2 o g2 nv2 ⟨n2.l, fun k => n.X k ∨ (Value.slice (some ⟨gg, 0, none⟩) (zs.length + 1) cap).ownBlock = some k⟩) := Mv.rd hm3 HR2.out hj2
        have HF3 : Hid (Fr b nv nv2 w w3) := HF2.out.trans (Mv.fr hm3 nv2)
        have HK3 : Hid (Kd w3 w.heap.size nv2 (.slice (some ⟨gg, 0, none⟩) (zs.length + 1) cap) (zs ++ [zn])) := HK2.out.fr (Mv.fr hm3 nv2) hb
        clear hm3
        go_wp2_with fail
        by_cases hzs : zs = []
        · subst hzs
          refine (join_one b nv2 _ w.heap.size _ zn _ HK3.out).mono ?_
          rintro e w4 ⟨rfl, hw4⟩
          subst hw4
          go_wp2_with fail
          go_ret2
          simp only [List.length_nil] at hnn
          exact ⟨_, true, rfl, .inl ⟨rfl, _, _, _, nv2, _, zn, (Rd.bar HR3.out n.X (fun k _ h => .inl h)), HF3.out, HG1.out, q4, q5, by omega, by show n2.l.length + 1 + 2 * i ≤ n.l.length + 2 * j2; omega, ⟨HQ1.out, HS.out⟩, rfl, rfl, q11, by rw [← HFF.out]; show wayL (choiceN s N) s s.size ⟨i, g, n.l⟩ [] = _; rw [HWL.out, show fu = (fu - 1) + 1 by omega, wayL]; (try simp only); rw [HPF.out]; (try simp only); rw [if_neg (show ¬ startsP s j2 = true from by rw [show startsP s j2 = starts s j2 from rfl, HS.out]; simp)]; rfl⟩⟩
        · have hl : 1 ≤ zs.length := by cases zs with | nil => exact absurd rfl hzs | cons a l => simp
          refine (join_more b j2 o g2 ⟨n2.l, n.X⟩ s nv2 _ w.heap.size _ 5 (zs ++ [zn]) _ (Rd.bar HR3.out n.X (fun k _ h => .inl h)) (by show n2.l.length ≤ 1000; omega) HK3.out (by simp; omega) (by simp; omega) (by omega) rfl HI.out.X hb HZN.out).mono ?_
          rintro e w4 ⟨nv4, rfl, p1, p2⟩
          go_wp2_with fail
          go_ret2
          exact ⟨_, true, rfl, .inl ⟨rfl, _, _, _, nv4, _, n2.l.length, p1, HF3.out.trans p2, HG1.out, q4, q5, by omega, by rw [len_add]; show n2.l.length + 1 + 1 + 2 * i ≤ _; omega, ⟨HQ1.out, HS.out⟩, rfl, rfl, by rw [len_add]; show n2.l.length < n2.l.length + 1; omega, by rw [← HFF.out]; show wayL (choiceN s N) s s.size ⟨i, g, n.l⟩ [] = _; rw [HWL.out, show fu = (fu - 1) + 1 by omega, wayL]; (try simp only); rw [HPF.out]; (try simp only); rw [if_neg (show ¬ startsP s j2 = true from by rw [show startsP s j2 = starts s j2 from rfl, HS.out]; simp)]; rw [joinF_more (by simp; omega)]; rfl⟩⟩
    · have HF : Hid (Fails s j2) := q1
      have HB : Hid (Below b w w1) := (HGa.out.fr.below HR.out).trans q3
      have HC : Hid (w1.cell? ⟨b, 1, none⟩ = some (.int .i64 j2)) := q2
      clear q1 q2 q3
      go_wp2_with fail
      go_ret2
      exact ⟨_, false, rfl, .inr ⟨rfl, j2, HF.out, HC.out, HB.out⟩⟩
theorem step_bar {st : St} (hm : st.m = 1 ∨ st.m = 2) : step st 124 = some ⟨0, st.o, st.a, st.l⟩ := by
  obtain ⟨m, o, a, l⟩ := st
  have hq : ¬ (inB quants 124 = true) := by rw [inB_quants]; omega
  simp only at hm
  have hs : step ⟨m, o, a, l⟩ 124 = goesOn ⟨m, o, a, l⟩ 124 := by
    unfold step
    rw [if_neg (by simp only; omega), if_pos hm]
  rw [hs]
  unfold goesOn
  rw [if_neg (fun h => hq h.2), if_neg (fun h => by have := h.2; omega), if_pos rfl]
set_option maxHeartbeats 1000000 in
theorem choice_any (N : Nat) (ih : ChoiceAt N) (b i o g : Nat) (n : NX) (s : ByteArray) (nv : Value) (st : St) (w : World) (hI : OneIn N w b i o g n s nv st) (h0 : st.m = 0) :
    Calls Tryz.prog 64 #[.pointer (some ⟨b, 0, none⟩)] w fun e w' => ∃ (z : Int) (ok : Bool), e = .returned (.tuple #[.int .i64 z, .bool ok]) ∧ Post b s i o n nv w (ChQ s) (choiceF (choiceN s N) s ⟨i, g, n.l⟩) z ok w' := by
  generalize hFF : choiceF (choiceN s N) s ⟨i, g, n.l⟩ = FF
  have HFF : Hid (choiceF (choiceN s N) s ⟨i, g, n.l⟩ = FF) := hFF
  clear hFF
  have HI : Hid (OneIn N w b i o g n s nv st) := hI
  have HR : Hid (Rd w b s i o g nv n) := hI.rd
  have hn := hI.n2
  have h40 := hI.rd.rc.s40
  have hN := hI.N
  have hb : b < w.heap.size := World.block_lt_of_cell? w _ hI.rd.rc.c0
  have IH : Hid (ChoiceAt N) := ih
  obtain ⟨i0, hi0, hz0, hz1, hz2⟩ := info_parts Tryz.info3
  clear hI ih
  go_enter Tryz.func64, Tryz.ntmps64
  go_wp2_with fail
  go_loopw [4] (fun kv wr => ∃ j g' n' nv' zs st f, Gath w wr b i o n s nv kv j g' n' nv' zs st ∧ s.size ≤ f + j ∧ Hid (choiceL (choiceN s N) s s.size ⟨i, g, n.l⟩ [] = choiceL (choiceN s N) s f ⟨j, g', n'.l⟩ zs) ∧ st.m = 0) (fun _ wr => s.size - atOf wr b)
  case atStart => exact ⟨i, g, ⟨n.l, fun k => n.X k ∨ (Value.slice none 0 0).ownBlock = some k⟩, nv, [], st, s.size, ⟨Rd.bar HR.out _ (fun k _ h => h.elim id fun h => by cases h), Fr.refl _ _ _, ⟨World.ownsRow_nil _ _ _ _, fun k hk => by cases hk⟩, HI.out.run, HI.out.o, HI.out.a, by simp, by simp, rfl, fun z hz => by cases hz⟩, by omega, rfl, h0⟩
  case round =>
    obtain ⟨j, g', n', nv', zs, st2, fu, hG, hfu, HWL, hm2⟩ := hrel
    have HGa : Hid (Gath w wr b i o n s nv u4 j g' n' nv' zs st2) := hG
    have HXr : Hid (∀ q, n'.X q → q < wr.heap.size) := fun q hq => by
      rw [hG.X] at hq
      rcases hq with hq | hq
      · exact Nat.lt_of_lt_of_le (HI.out.X q hq) hG.fr.size
      · exact (hG.kd.own.lt q hq).2
    have hij := hG.ij
    have hnn := hG.nn
    have hjs := hG.rd.rc.le
    have HAT : Hid (atOf wr b = j) := atOf_is hG.rd.rc.c1
    have HO : Hid (OneIn N wr b j o g' n' s nv' st2) := ⟨hG.rd, by omega, HXr.out, hG.run, hG.o, hG.a, by omega, .inl hm2, by omega⟩
    clear hG hm2
    go_wp2_with fail
    refine (way_any N IH.out b j o g' n' s nv' st2 _ HO.out).mono ?_
    rintro e w1 ⟨z, ok, rfl, hP⟩
    rcases hP with ⟨rfl, j2, g2, n2, nv2, st3, zn, q1, q2, q3, q4, q5, q6, q7, q8, q9, rfl, q11, q12⟩ | ⟨rfl, j2, q1, q2, q3⟩
    · have HK1 : Hid (Kd w1 w.heap.size nv2 u4 zs) := HGa.out.kd.fr q2 hb
      have HR1 : Hid (Rd w1 b s j2 o g2 nv2 n2) := q1
      have HF1 : Hid (Fr b nv nv2 w w1) := HGa.out.fr.trans q2
      have HG1 : Hid (run s j2 = some st3) := q3
      have HQ1 : Hid (WayQ s j2 st3) := q8
      have hj2 := q1.rc.le
      have hsz := HF1.out.size
      have hz : zs.length ≤ 400 := by omega
      have HX1 : Hid (n2.X = fun k => n.X k ∨ u4.ownBlock = some k) := by rw [Hid, q9]; exact HGa.out.X
      have HGW : Hid (n'.l.length ≤ n2.l.length) := by
        have := grow_wayL (s := s) (grow_choiceN s N) s.size ⟨j, g', n'.l⟩ []
        rw [show wayL (choiceN s N) s s.size ⟨j, g', n'.l⟩ [] = wayF (choiceN s N) s ⟨j, g', n'.l⟩ from rfl, q12] at this
        exact this
      have HPF : Hid _ := q12
      clear q1 q2 q3 q8 q9 q12
      go_wp2_with (at_builtin; refine wpList_append_lies _ rfl _ _ 56 rfl w.heap.size 3 i0 (.int .i64 0) 1 8 Tryz.underlying56 hi0 hz0 hz1 hz2 rfl (by omega) u4 zs.length (zs.map fun z : Nat => Value.int .i64 (z : Int)) rfl (HK1.out.own.alloc _) ⟨w1.heap.size, 0, none⟩ 1 1 [.int .i64 (zn : Int)] rfl rfl (cell_one_new _ _ _) (fun x hx => by simp at hx; subst hx; rfl) (by omega) (by unfold maxLen; omega) (by omega) (by simp; omega) (w1.heap.size + 1) (by simp) ?_; intro gg cap w2 hown2 hgrow hat hlt)
      have hM := kids_more hb HR1.out HX1.out HF1.out HK1.out hown2 hgrow hat
      have HZN : Hid (∀ y ∈ zs ++ [zn], y < n2.l.length) := fun y hy => by
        rcases List.mem_append.1 hy with hy | hy
        · exact Nat.lt_of_lt_of_le (HGa.out.zn y hy) HGW.out
        · have : y = zn := by simpa using hy
          rw [this]; exact q11
      have HR2 : Hid (Rd w2 b s j2 o g2 nv2 ⟨n2.l, fun k => n.X k ∨ (Value.slice (some ⟨gg, 0, none⟩) (zs.length + 1) cap).ownBlock = some k⟩) := hM.1
      have HF2 : Hid (Fr b nv nv2 w w2) := hM.2.1
      have HK2 : Hid (Kd w2 w.heap.size nv2 (.slice (some ⟨gg, 0, none⟩) (zs.length + 1) cap) (zs ++ [zn])) := hM.2.2
      clear hM hown2 hgrow hat hlt
      refine (accept_any b s j2 124 _ HR2.out.rc (by omega)).mono ?_
      rintro e w3 ⟨q, j3, rfl, hm3, hq3⟩
      have HM3 : Hid (Mv b w2 w3 j3) := hm3
      clear hm3
      rcases hq3 with ⟨rfl, m1, m2⟩ | ⟨rfl, m1, m2⟩
      · obtain ⟨m3, m4⟩ := pk_is (c := 124) m1
        have HG3 : Hid (run s j3 = some ⟨0, st3.o, st3.a, st3.l⟩) := by
          rw [m2, Hid, run_succ HG1.out, m4]
          exact step_bar (by
            rcases HQ1.out.1 with x | x
            · exact .inl x.1
            · exact .inr x)
        have HR3 : Hid (Rd w3 b s j3 o g2 nv2 ⟨n2.l, fun k => n.X k ∨ (Value.slice (some ⟨gg, 0, none⟩) (zs.length + 1) cap).ownBlock = some k⟩) := Mv.rd HM3.out HR2.out (by omega)
        have HF3 : Hid (Fr b nv nv2 w w3) := HF2.out.trans (Mv.fr HM3.out nv2)
        have HK3 : Hid (Kd w3 w.heap.size nv2 (.slice (some ⟨gg, 0, none⟩) (zs.length + 1) cap) (zs ++ [zn])) := HK2.out.fr (Mv.fr HM3.out nv2) hb
        go_wp2_with fail
        go_roundw
        case rel => exact ⟨j3, g2, ⟨n2.l, fun k => n.X k ∨ (Value.slice (some ⟨gg, 0, none⟩) (zs.length + 1) cap).ownBlock = some k⟩, nv2, zs ++ [zn], _, fu - 1, ⟨HR3.out, HF3.out, HK3.out, HG3.out, q4, q5, by simp; omega, by simp; omega, rfl, HZN.out⟩, by omega, by rw [HWL.out, show fu = (fu - 1) + 1 by omega, choiceL]; (try simp only); rw [HPF.out]; (try simp only); rw [if_pos (show pk s j2 = 124 from m1), m2]; rfl, rfl⟩
        case measure =>
          have a1 := atOf_is HR3.out.rc.c1
          have a2 := HAT.out
          rw [a1, a2]
          omega
      · have HS : Hid (pk s j2 ≠ (124 : Nat)) := m1
        subst m2
        have HR3 : Hid (Rd w3 b s j3 o g2 nv2 ⟨n2.l, fun k => n.X k ∨ (Value.slice (some ⟨gg, 0, none⟩) (zs.length + 1) cap).ownBlock = some k⟩) := Mv.rd HM3.out HR2.out hj2
        have HF3 : Hid (Fr b nv nv2 w w3) := HF2.out.trans (Mv.fr HM3.out nv2)
        have HK3 : Hid (Kd w3 w.heap.size nv2 (.slice (some ⟨gg, 0, none⟩) (zs.length + 1) cap) (zs ++ [zn])) := HK2.out.fr (Mv.fr HM3.out nv2) hb
        clear m1
        go_wp2_with fail
        by_cases hzs : zs = []
        · subst hzs
          refine (join_one b nv2 _ w.heap.size _ zn _ HK3.out).mono ?_
          rintro e w4 ⟨rfl, hw4⟩
          subst hw4
          go_wp2_with fail
          go_ret2
          simp only [List.length_nil] at hnn
          exact ⟨_, true, rfl, .inl ⟨rfl, _, _, _, nv2, _, zn, (Rd.bar HR3.out n.X (fun k _ h => .inl h)), HF3.out, HG1.out, q4, q5, by omega, by show n2.l.length + 1 + 2 * i ≤ n.l.length + 2 * j3; omega, ⟨HQ1.out, HS.out⟩, rfl, rfl, q11, by rw [← HFF.out]; show choiceL (choiceN s N) s s.size ⟨i, g, n.l⟩ [] = _; rw [HWL.out, show fu = (fu - 1) + 1 by omega, choiceL]; (try simp only); rw [HPF.out]; (try simp only); rw [if_neg (show ¬ pk s j3 = 124 from HS.out)]; rfl⟩⟩
        · have hl : 1 ≤ zs.length := by cases zs with | nil => exact absurd rfl hzs | cons a l => simp
          refine (join_more b j3 o g2 ⟨n2.l, n.X⟩ s nv2 _ w.heap.size _ 4 (zs ++ [zn]) _ (Rd.bar HR3.out n.X (fun k _ h => .inl h)) (by show n2.l.length ≤ 1000; omega) HK3.out (by simp; omega) (by simp; omega) (by omega) rfl HI.out.X hb HZN.out).mono ?_
          rintro e w4 ⟨nv4, rfl, p1, p2⟩
          go_wp2_with fail
          go_ret2
          exact ⟨_, true, rfl, .inl ⟨rfl, _, _, _, nv4, _, n2.l.length, p1, HF3.out.trans p2, HG1.out, q4, q5, by omega, by rw [len_add]; show n2.l.length + 1 + 1 + 2 * i ≤ _; omega, ⟨HQ1.out, HS.out⟩, rfl, rfl, by rw [len_add]; show n2.l.length < n2.l.length + 1; omega, by rw [← HFF.out]; show choiceL (choiceN s N) s s.size ⟨i, g, n.l⟩ [] = _; rw [HWL.out, show fu = (fu - 1) + 1 by omega, choiceL]; (try simp only); rw [HPF.out]; (try simp only); rw [if_neg (show ¬ pk s j3 = 124 from HS.out)]; rw [joinF_more (by simp; omega)]; rfl⟩⟩
    · have HF : Hid (Fails s j2) := q1
      have HB : Hid (Below b w w1) := (HGa.out.fr.below HR.out).trans q3
      have HC : Hid (w1.cell? ⟨b, 1, none⟩ = some (.int .i64 j2)) := q2
      clear q1 q2 q3
      go_wp2_with fail
      go_ret2
      exact ⟨_, false, rfl, .inr ⟨rfl, j2, HF.out, HC.out, HB.out⟩⟩
theorem choice_all : ∀ N, ChoiceAt N
  | 0 => by
    intro b i o g n s nv st w _ _ _ _ _ _ _ h
    omega
  | N + 1 => by
    intro b i o g n s nv st w hr hn hX hrun hm ho ha hN
    exact choice_any N (choice_all N) b i o g n s nv st w ⟨hr, hn, hX, hrun, ho, ha, by omega, .inl hm, hN⟩ hm
end Tr
end Go.Proofs.YtppjlpihaocdiaaGreatDoor

/- A part of the proof. -/
set_option linter.unusedSimpArgs false
set_option linter.unusedVariables false
namespace Go.Proofs.YtppjlpihaocdiaaGreatDoor
namespace Tr
open Go.RowKit
structure Tr (w : World) (N : Nat) (v0 v1 v2 : Value) : Prop where
  c0 : w.cell? ⟨N, 0, none⟩ = some v0
  c1 : w.cell? ⟨N, 1, none⟩ = some v1
  c2 : w.cell? ⟨N, 2, none⟩ = some v2
  f0 : w.frozen? ⟨N, 0, none⟩ = false
  f1 : w.frozen? ⟨N, 1, none⟩ = false
  f2 : w.frozen? ⟨N, 2, none⟩ = false
theorem Tr.below {w w' : World} {N B : Nat} {v0 v1 v2 : Value} (h : Tr w N v0 v1 v2) (hb : Below B w w') (hN : N < B) : Tr w' N v0 v1 v2 := by
  have hx := hb.block N hN
  have hc : ∀ k, w'.cell? ⟨N, k, none⟩ = w.cell? ⟨N, k, none⟩ := fun k => World.cell?_of_block (w := w) (w' := w') (a := ⟨N, k, none⟩) hx
  have hf : ∀ k, w'.frozen? ⟨N, k, none⟩ = w.frozen? ⟨N, k, none⟩ := fun k => World.frozen?_of_block (w := w) (w' := w') (a := ⟨N, k, none⟩) hx
  exact ⟨(hc 0).trans h.c0, (hc 1).trans h.c1, (hc 2).trans h.c2, (hf 0).trans h.f0, (hf 1).trans h.f1, (hf 2).trans h.f2⟩
end Tr
end Go.Proofs.YtppjlpihaocdiaaGreatDoor

/- A part of the proof. -/
set_option linter.unusedSimpArgs false
set_option linter.unusedVariables false
namespace Go.Proofs.YtppjlpihaocdiaaGreatDoor
namespace Rs
open Go.RowKit
def TreeIn (w : World) (lo hi nb : Nat) (nodes : List Nd) (groups : Nat) : Prop :=
  hi ≤ w.heap.size ∧ ∀ w' : World, (∀ k, lo < k → k < hi → w'.heap[k]? = w.heap[k]?) → hi ≤ w'.heap.size → TreeIs w' nb nodes groups
theorem TreeIn.of {w w' : World} {lo hi nb : Nat} {nodes : List Nd} {groups : Nat} (h : TreeIn w lo hi nb nodes groups) (hb : ∀ k, lo < k → k < hi → w'.heap[k]? = w.heap[k]?) (hs : hi ≤ w'.heap.size) : TreeIn w' lo hi nb nodes groups :=
  ⟨hs, fun w'' h1 h2 => h.2 w'' (fun k a c => (h1 k a c).trans (hb k a c)) h2⟩
theorem Rd.treeIn {w : World} {b i o g T : Nat} {n : Tr.NX} {s : ByteArray} {nv : Value} (h : Tr.Rd w b s i o g nv n) (hl : 0 < n.l.length) (hX : ∀ k, k ≤ T → n.X k) (hT : T < b) :
    ∃ nb cap, nv = .slice (some ⟨nb, 0, none⟩) n.l.length cap ∧ (n.l.length ≤ 200 → ∀ w' : World, (∀ k, T < k → k < w.heap.size → w'.heap[k]? = w.heap[k]?) → w.heap.size ≤ w'.heap.size → TreeIs w' nb n.l g) := by
  obtain ⟨xs, ho, hce⟩ := h.own
  obtain ⟨nb, cap, rfl, hg1, hg2⟩ := ho.form (by omega)
  refine ⟨nb, cap, rfl, fun hm w' hw hsz => ⟨fun a d hd => ?_, h.wf, hm, hl⟩⟩
  obtain ⟨ao, c, y0, y1, y2, y3, h1, h2, h3, h4⟩ := hce a d hd
  refine ⟨ao, c, y0, y1, y2, y3, h1, ?_, h3, fun o v hv => ?_⟩
  · rcases h2 with h2 | ⟨kb, e1, e2, e3, e4, e5⟩
    · exact .inl h2
    · by_cases hs : d.subs = []
      · exact .inl hs
      · obtain ⟨y, hy⟩ : ∃ y, d.subs[0]? = some y := by
          cases hd : d.subs with
          | nil => exact absurd hd hs
          | cons a l => exact ⟨a, rfl⟩
        have hlt : kb < w.heap.size := World.block_lt_of_cell? w _ (e5 0 y hy)
        have hne : T < kb := by
          by_cases hk : T < kb
          · exact hk
          · exact absurd (hX kb (by omega)) e4
        exact .inr ⟨kb, e1, by omega, fun k y hy => (World.cell?_of_block (w := w) (w' := w') (a := ⟨kb, k, none⟩) (hw kb hne hlt)).trans (e5 k y hy)⟩
  · have hx := h4 o v hv
    have hnl := (ho.lt nb rfl)
    rcases ho.2 with ⟨e, _⟩ | ⟨g', cap', cur, hv', _, hh, _, _, _, ht⟩
    · cases e
    · cases hv'
      rw [World.cell?_of_block (w := w) (w' := w') (a := ⟨nb, a * 9 + o, none⟩) (hw nb (by omega) hnl.2), cell_of_row w nb _ cur 151 (0, 0) hh]
      rw [← ht, List.getElem?_take] at hx
      split at hx
      · simpa using hx
      · cases hx
set_option maxHeartbeats 1000000 in
theorem parse_at (N : Nat) (s : ByteArray) (w : World) (hs : s.size ≤ 400) (hN : s.size < N) :
    Calls Tryz.prog 42 #[.string s] w fun e w' => ∃ (ao : Option Addr) (l c : Nat) (r g : Int) (p : Int) (ok : Bool), e = .returned (.tuple #[.agg #[.slice ao l c, .int .i64 r, .int .i64 g], .int .i64 p, .bool ok]) ∧
      ((ok = true ∧ Wholly s ∧ g = (grps s : Nat) ∧ ∃ nb : Nat, ao = some ⟨nb, 0, none⟩ ∧ l = (choiceN s N ⟨0, 0, []⟩).1.l.length ∧ r = ((choiceN s N ⟨0, 0, []⟩).2 : Nat) ∧ (choiceN s N ⟨0, 0, []⟩).1.g = grps s ∧ (choiceN s N ⟨0, 0, []⟩).2 < (choiceN s N ⟨0, 0, []⟩).1.l.length ∧ grps s ≤ 9 ∧ (s.size ≤ 40 → TreeIn w' w.heap.size w'.heap.size nb (choiceN s N ⟨0, 0, []⟩).1.l (grps s))) ∨ (ok = false ∧ ∃ j : Nat, p = j ∧ Fails s j)) ∧ Below w.heap.size w w' := by
  obtain ⟨M, rfl⟩ : ∃ M, N = M := ⟨N, rfl⟩
  go_enter Tryz.func42, Tryz.ntmps42
  go_wp2_with fail
  have hR : Tr.Rd ((w.alloc (.cells #[.slice none 0 0, .int .i64 0, .int .i64 0] 88)).alloc (.cells #[.string s, .int .i64 0, .int .i64 0, .int .i64 0, .slice none 0 0] 140)) (w.heap.size + 1) s 0 0 0 (.slice none 0 0) ⟨[], fun k => k ≤ w.heap.size⟩ :=
    ⟨⟨by go_simp, by go_simp, by go_simp, Nat.zero_le _, hs⟩, by go_simp, by go_simp, by go_simp, by go_simp, by go_simp, by go_simp, ⟨[], World.ownsRow_nil _ _ _ _, fun k d hd => by cases hd⟩, fun a d hd => by cases hd⟩
  have hT : Tr.Tr ((w.alloc (.cells #[.slice none 0 0, .int .i64 0, .int .i64 0] 88)).alloc (.cells #[.string s, .int .i64 0, .int .i64 0, .int .i64 0, .slice none 0 0] 140)) w.heap.size (.slice none 0 0) (.int .i64 0) (.int .i64 0) := by
    constructor <;> go_simp
  have hB : Below w.heap.size w ((w.alloc (.cells #[.slice none 0 0, .int .i64 0, .int .i64 0] 88)).alloc (.cells #[.string s, .int .i64 0, .int .i64 0, .int .i64 0, .slice none 0 0] 140)) := ((Below.refl _ _).alloc (Nat.le_refl _) _).alloc (by simp) _
  have hw0 : w.heap.size < ((w.alloc (.cells #[.slice none 0 0, .int .i64 0, .int .i64 0] 88)).alloc (.cells #[.string s, .int .i64 0, .int .i64 0, .int .i64 0, .slice none 0 0] 140)).heap.size := by simp; omega
  generalize ((w.alloc (.cells #[.slice none 0 0, .int .i64 0, .int .i64 0] 88)).alloc (.cells #[.string s, .int .i64 0, .int .i64 0, .int .i64 0, .slice none 0 0] 140)) = w0 at hR hT hB hw0
  refine (Tr.choice_all N (w.heap.size + 1) 0 0 0 ⟨[], fun k => k ≤ w.heap.size⟩ s (.slice none 0 0) ⟨0, 0, 0, 0⟩ _ hR (by simp) (fun q hq => by simp only at hq; omega) rfl rfl rfl rfl (by omega)).mono ?_
  rintro e w1 ⟨z, ok, rfl, hP⟩
  have hNN : w.heap.size < w.heap.size + 1 := by omega
  rcases hP with ⟨rfl, j, g', n', nv', st, zn, q1, q2, q3, q4, q5, q6, q7, q8, q9, rfl, q11, q12⟩ | ⟨rfl, j, q1, q2, q3⟩
  · have hB1 := q2.below hR
    have HT1 : Hid (Tr.Tr w1 w.heap.size (.slice none 0 0) (.int .i64 0) (.int .i64 0)) := hT.below hB1 hNN
    have HB1 : Hid (Below w.heap.size w w1) := hB.trans (hB1.mono (by omega))
    have hjs := q1.rc.le
    have hg9 : g' ≤ 9 := by have := (small_run q3).2.2.1; omega
    have HTO : Hid (choiceN s N ⟨0, 0, []⟩ = (⟨j, g', n'.l⟩, zn)) := q12
    have hlen : s.size ≤ 40 → n'.l.length ≤ 200 := fun h => by have h7 := q7; simp only [List.length_nil] at h7; omega
    obtain ⟨nb, cap, rfl, htree⟩ := Rd.treeIn (T := w.heap.size) q1 (by omega) (fun k hk => by rw [q9]; exact hk) (by omega)
    have HTR : Hid (s.size ≤ 40 → ∀ w' : World, (∀ k, w.heap.size < k → k < w1.heap.size → w'.heap[k]? = w1.heap[k]?) → w1.heap.size ≤ w'.heap.size → TreeIs w' nb n'.l g') := fun h => htree (hlen h)
    have HSG : Hid (st.a = g') := q5
    clear htree q9 q12 hlen
    obtain ⟨⟨r0, r1, rf, rle, r40⟩, c2, c3, c4, f2, f3, f4, own, hwf⟩ := q1
    obtain ⟨t0, t1, t2, u0, u1, u2⟩ := HT1.out
    have hne : w.heap.size + 1 ≠ w.heap.size := by omega
    clear own hwf hR hT hB q2 hB1
    by_cases hlt : j < s.size
    · have HF : Hid (Fails s j) := Fails.here q3 rle (fun h => Tr.step_stuck q8 h (.inr q4)) (fun e => by omega)
      clear q3 q8
      go_wp2_with fail
      go_region
      all_goals go_wp2
      all_goals exact bodyPost_ret (v := .tuple #[.agg #[.slice none 0 0, .int .i64 0, .int .i64 0], .int .i64 (j : Int), .bool false]) (by simp [results, Tryz.results42, go_sem, *]) rfl ⟨_, _, _, _, _, _, false, rfl, .inr ⟨rfl, j, rfl, HF.out⟩, (((HB1.out.setCell (Nat.le_refl _) _).setCell (Nat.le_refl _) _).setCell (Nat.le_refl _) _).drew⟩
    · have hjs : j = s.size := by omega
      have HG : Hid (grps s = g') := by
        rw [hjs] at q3
        rw [Hid, grps, q3]
        exact HSG.out
      have HW : Hid (Wholly s) := by
        rw [hjs] at q3
        refine ⟨st, q3, ?_⟩
        rcases q8.1.1 with x | x
        · simp [whole, q4, x.1]
        · simp [whole, q4, x]
      clear q3 q8
      go_wp2_with fail
      refine bodyPost_ret (v := .tuple #[.agg #[.slice (some ⟨nb, 0, none⟩) n'.l.length cap, .int .i64 (zn : Int), .int .i64 (g' : Int)], .int .i64 0, .bool true]) (by simp [results, Tryz.results42, go_sem, *]) rfl ⟨_, _, _, _, _, _, true, rfl, .inl ⟨rfl, HW.out, by rw [HG.out], nb, rfl, by rw [HTO.out], by rw [HTO.out], by rw [HTO.out, HG.out], by rw [HTO.out]; exact q11, by rw [HG.out]; exact hg9, fun h => ?_⟩, ((HB1.out.setCell (Nat.le_refl _) _).setCell (Nat.le_refl _) _).setCell (Nat.le_refl _) _⟩
      rw [HTO.out, HG.out]
      refine ⟨Nat.le_refl _, fun w'' h1 h2 => HTR.out h w'' (fun k a c => ?_) (by rw [size_set, size_set, size_set] at h2; exact h2)⟩
      rw [h1 k a (by rw [size_set, size_set, size_set]; exact c), Below.heap_setCell _ _ _ _ (by simp only; omega), Below.heap_setCell _ _ _ _ (by simp only; omega), Below.heap_setCell _ _ _ _ (by simp only; omega)]
  · have hB1 := q3
    have HT1 : Hid (Tr.Tr w1 w.heap.size (.slice none 0 0) (.int .i64 0) (.int .i64 0)) := hT.below hB1 hNN
    have HB1 : Hid (Below w.heap.size w w1) := hB.trans (hB1.mono (by omega))
    have HF : Hid (Fails s j) := q1
    obtain ⟨t0, t1, t2, u0, u1, u2⟩ := HT1.out
    clear hR hT hB q1 hB1 q3
    go_wp2_with fail
    go_region
    all_goals go_wp2
    all_goals exact bodyPost_ret (v := .tuple #[.agg #[.slice none 0 0, .int .i64 0, .int .i64 0], .int .i64 (j : Int), .bool false]) (by simp [results, Tryz.results42, go_sem, *]) rfl ⟨_, _, _, _, _, _, false, rfl, .inr ⟨rfl, j, rfl, HF.out⟩, (((HB1.out.setCell (Nat.le_refl _) _).setCell (Nat.le_refl _) _).setCell (Nat.le_refl _) _).drew⟩
def PatAt (w : World) (lo hi : Nat) (t : ByteArray) (v0 v1 v2 : Value) : Prop :=
  v2 = .int .i64 (grps t : Nat) ∧ grps t ≤ 9 ∧ (t.size ≤ 40 → ∃ nb cap : Nat, v0 = .slice (some ⟨nb, 0, none⟩) (treeOf t).1.l.length cap ∧ v1 = .int .i64 ((treeOf t).2 : Nat) ∧ (treeOf t).1.g = grps t ∧ (treeOf t).2 < (treeOf t).1.l.length ∧ TreeIn w lo hi nb (treeOf t).1.l (grps t))
theorem failF_run {t : ByteArray} : ∀ (f i : Nat) (st : St), run t i = some st → f + i = t.size → (∀ j, failF t f i st = some j → Fails t j) ∧ (failF t f i st = none → Wholly t)
  | 0, i, st, h, e => by
    obtain rfl : i = t.size := by omega
    unfold failF
    split
    · rename_i hw
      exact ⟨fun j hj => (by cases hj), fun _ => ⟨st, h, hw⟩⟩
    · rename_i hw
      refine ⟨fun j hj => ?_, fun hj => (by cases hj)⟩
      cases hj
      exact ⟨st, h, Nat.le_refl _, fun hh => absurd hh (by omega), fun _ => by simpa using hw⟩
  | f + 1, i, st, h, e => by
    unfold failF
    cases hs : step st (byt t i) with
    | some st' =>
      simp only
      exact failF_run f (i + 1) st' (by rw [run_succ h, hs]) (by omega)
    | none =>
      simp only
      refine ⟨fun j hj => ?_, fun hj => (by cases hj)⟩
      cases hj
      exact ⟨st, h, by omega, fun _ => hs, fun hh => absurd hh (by omega)⟩
theorem failAt_fails {t : ByteArray} {j : Nat} (h : Fails t j) : failAt t = some j := by
  obtain ⟨h1, h2⟩ := failF_run t.size 0 ⟨0, 0, 0, 0⟩ (t := t) rfl (by omega)
  cases hf : failAt t with
  | some k => rw [(h1 k hf).unique h]
  | none => exact (h.not_wholly (h2 hf)).elim
theorem failAt_whole {t : ByteArray} (h : Wholly t) : failAt t = none := by
  obtain ⟨h1, h2⟩ := failF_run t.size 0 ⟨0, 0, 0, 0⟩ (t := t) rfl (by omega)
  cases hf : failAt t with
  | some k => exact ((h1 k hf).not_wholly h).elim
  | none => rfl
theorem parse_wide (s : ByteArray) (w : World) (hs : s.size ≤ 400) :
    Calls Tryz.prog 42 #[.string s] w fun e w' => ∃ (ao : Option Addr) (l c : Nat) (r g : Int) (p : Int) (ok : Bool), e = .returned (.tuple #[.agg #[.slice ao l c, .int .i64 r, .int .i64 g], .int .i64 p, .bool ok]) ∧
      ((ok = true ∧ failAt s = none ∧ PatAt w' w.heap.size w'.heap.size s (.slice ao l c) (.int .i64 r) (.int .i64 g)) ∨ (ok = false ∧ ∃ j : Nat, p = j ∧ j ≤ s.size ∧ failAt s = some j)) ∧ Below w.heap.size w w' := by
  by_cases h40 : s.size ≤ 40
  · refine (parse_at 41 s w hs (by omega)).mono ?_
    rintro e w' ⟨ao, l, c, r, g, p, ok, rfl, h, hB⟩
    refine ⟨_, _, _, _, _, p, ok, rfl, ?_, hB⟩
    rcases h with ⟨rfl, h1, rfl, nb, rfl, rfl, rfl, h2, h3, h4, h5⟩ | ⟨rfl, j, rfl, h1⟩
    · exact .inl ⟨rfl, failAt_whole h1, rfl, h4, fun _ => ⟨nb, c, rfl, rfl, h2, h3, h5 h40⟩⟩
    · exact .inr ⟨rfl, j, rfl, by obtain ⟨_, _, h, _⟩ := h1; exact h, failAt_fails h1⟩
  · refine (parse_at 401 s w hs (by omega)).mono ?_
    rintro e w' ⟨ao, l, c, r, g, p, ok, rfl, h, hB⟩
    refine ⟨_, _, _, _, _, p, ok, rfl, ?_, hB⟩
    rcases h with ⟨rfl, h1, rfl, nb, rfl, rfl, rfl, h2, h3, h4, h5⟩ | ⟨rfl, j, rfl, h1⟩
    · exact .inl ⟨rfl, failAt_whole h1, rfl, h4, fun h => absurd h h40⟩
    · exact .inr ⟨rfl, j, rfl, by obtain ⟨_, _, h, _⟩ := h1; exact h, failAt_fails h1⟩
end Rs
end Go.Proofs.YtppjlpihaocdiaaGreatDoor

/- A part of the proof. -/
set_option linter.unusedSimpArgs false
set_option linter.unusedVariables false
namespace Go.Proofs.YtppjlpihaocdiaaGreatDoor
namespace Rs
open Go.RowKit
structure Mk (b : Nat) (w w' : World) (j : Nat) : Prop where
  os : w'.os = w.os
  tape : w'.tape = w.tape
  output : w'.output = w.output
  size : w.heap.size ≤ w'.heap.size
  block : ∀ k, k < w.heap.size → k ≠ b → w'.heap[k]? = w.heap[k]?
  c1 : w'.cell? ⟨b, 1, none⟩ = some (.int .i64 j)
  cell : ∀ k, k ≠ 1 → w'.cell? ⟨b, k, none⟩ = w.cell? ⟨b, k, none⟩
  frz : ∀ k, w'.frozen? ⟨b, k, none⟩ = w.frozen? ⟨b, k, none⟩
theorem Mk.mv {b j : Nat} {w w' : World} (h : Mv b w w' j) : Mk b w w' j :=
  ⟨h.only.os, h.only.tape, h.only.output, by rw [h.only.size]; exact Nat.le_refl _, fun k _ hb => h.only.block k hb, h.c1, h.cell, h.frz⟩
theorem Mk.trans {b i j : Nat} {u v w : World} (h : Mk b u v i) (k : Mk b v w j) : Mk b u w j :=
  ⟨k.os.trans h.os, k.tape.trans h.tape, k.output.trans h.output, Nat.le_trans h.size k.size, fun i hi hb => (k.block i (Nat.lt_of_lt_of_le hi h.size) hb).trans (h.block i hi hb), k.c1, fun i h1 => (k.cell i h1).trans (h.cell i h1), fun i => (k.frz i).trans (h.frz i)⟩
theorem Mk.below {b i : Nat} {u w w' : World} (h : Mk b u w i) (hB : Below w.heap.size w w') : Mk b u w' i := by
  have hb : b < w.heap.size := World.block_lt_of_cell? w _ h.c1
  exact ⟨hB.os.trans h.os, hB.tape.trans h.tape, hB.output.trans h.output, Nat.le_trans h.size hB.size, fun k hk hne => (hB.block k (Nat.lt_of_lt_of_le hk h.size)).trans (h.block k hk hne), (hB.cell (p := ⟨b, 1, none⟩) hb).trans h.c1, fun k hk => (hB.cell (p := ⟨b, k, none⟩) hb).trans (h.cell k hk), fun k => (hB.frozen (p := ⟨b, k, none⟩) hb).trans (h.frz k)⟩
theorem Mk.alloc {b i : Nat} {u w : World} (h : Mk b u w i) (o : Obj) : Mk b u (w.alloc o) i := h.below ((Below.refl _ _).alloc (Nat.le_refl _) o)
theorem Mk.drewN {b j : Nat} {u w : World} (h : Mk b u w j) (n : Nat) : Mk b u (w.drewN n) j := ⟨h.os, h.tape, h.output, h.size, h.block, h.c1, h.cell, h.frz⟩
theorem Mk.setNew {b j B k : Nat} {u w : World} (h : Mk b u w j) (hB : u.heap.size ≤ B) (hb : b < u.heap.size) (v : Value) : Mk b u (w.setCell ⟨B, k, none⟩ v) j := by
  have hne : b ≠ B := by omega
  have hc : ∀ o, (w.setCell ⟨B, k, none⟩ v).cell? ⟨b, o, none⟩ = w.cell? ⟨b, o, none⟩ := fun o => World.cell?_setCell_other (h := fun e => hne (by injection e with e _ _; exact e.symm)) ..
  exact ⟨h.os, h.tape, h.output, by rw [size_set]; exact h.size, fun i hi hb' => by rw [Below.heap_setCell _ _ _ _ (by simp only; omega)]; exact h.block i hi hb', (hc 1).trans h.c1, fun i h1 => (hc i).trans (h.cell i h1), fun i => by rw [World.frozen?_setCell]; exact h.frz i⟩
theorem Mk.stay {b i : Nat} {w : World} {s : ByteArray} (h : Rc w b s i) : Mk b w w i := .mv h.stay
theorem Mk.set {b i : Nat} {u w : World} (h : Mk b u w i) {v : Int} (j : Nat) (hv : v = j) : Mk b u (w.setCell ⟨b, 1, none⟩ (.int .i64 v)) j := h.trans (.mv (.put h.c1 j hv))
theorem Mk.rc {w w' : World} {b : Nat} {s : ByteArray} {i j : Nat} (h : Mk b w w' j) (hr : Rc w b s i) (hj : j ≤ s.size) : Rc w' b s j :=
  ⟨by rw [h.cell 0 (by omega)]; exact hr.c0, h.c1, by rw [h.frz]; exact hr.f1, hj, hr.s40⟩
theorem Rc.lt {w : World} {b : Nat} {s : ByteArray} {i : Nat} (h : Rc w b s i) : b < w.heap.size := World.block_lt_of_cell? w _ h.c0
theorem Rc.below {w w' : World} {b : Nat} {s : ByteArray} {i : Nat} (h : Rc w b s i) (hB : Below w.heap.size w w') : Rc w' b s i := ((Mk.stay h).below hB).rc h h.le
theorem Rc.alloc {w : World} {b : Nat} {s : ByteArray} {i : Nat} (h : Rc w b s i) (o : Obj) : Rc (w.alloc o) b s i := Rc.below h ((Below.refl _ _).alloc (Nat.le_refl _) o)
theorem pk_byte {s : ByteArray} {i : Nat} (h : pk s i ≠ -1) : i < s.size ∧ pk s i = (byt s i : Int) := by
  by_cases hi : i < s.size
  · exact ⟨hi, pk_in hi⟩
  · exact absurd (pk_out hi) h
set_option maxHeartbeats 400000 in
theorem plain_any (b : Nat) (s : ByteArray) (i : Nat) (w : World) (hr : Rc w b s i) :
    Calls Tryz.prog 253 #[.pointer (some ⟨b, 0, none⟩)] w fun e w' => e = .returned (.tuple #[.agg #[.int .i64 (plainF s i).2.1.grp, .int .u8 ((plainF s i).2.1.byte : Nat)], .bool (plainF s i).2.2]) ∧ Mk b w w' (plainF s i).1 := by
  have HR : Hid (Rc w b s i) := hr
  have hb : b < w.heap.size := Rc.lt hr
  clear hr
  have HRA : Hid (∀ o, Rc (w.alloc o) b s i) := fun o => Rc.alloc HR.out o
  by_cases h1 : pk s i = -1
  · have HP : Hid (plainF s i = (i, ⟨0, 0⟩, false)) := by simp [Hid, plainF, h1]
    have HI : Hid (pk s i = -1) := h1
    clear h1
    go_enter Tryz.func253, Tryz.ntmps253
    go_wp2_with (go_at_call 110; refine (peek_any b s i _ (HRA.out _)).mono ?_; rw [HI.out]; rintro e w' ⟨rfl, n, rfl⟩)
    rw [HP.out]
    exact bodyPost_ret (v := .tuple #[.agg #[.int .i64 0, .int .u8 0], .bool false]) (by simp [results, Tryz.results253, go_sem, *]) rfl ⟨rfl, by first | exact ((((Mk.stay HR.out).alloc _).drewN _).setNew (Nat.le_refl _) hb _).setNew (Nat.le_refl _) hb _ | exact (((Mk.stay HR.out).alloc _).drewN _)⟩
  · obtain ⟨hlt, hp⟩ := pk_byte h1
    have hy := byt_lt s i
    generalize hye : byt s i = y at hp hy
    by_cases h10 : y = 10
    · subst h10
      have HP : Hid (plainF s i = (i, ⟨0, 0⟩, false)) := by simp [Hid, plainF, hp]
      have HI : Hid (pk s i = 10) := hp
      clear h1 hp hye
      go_enter Tryz.func253, Tryz.ntmps253
      go_wp2_with (go_at_call 110; refine (peek_any b s i _ (HRA.out _)).mono ?_; rw [HI.out]; rintro e w' ⟨rfl, n, rfl⟩)
      rw [HP.out]
      exact bodyPost_ret (v := .tuple #[.agg #[.int .i64 0, .int .u8 0], .bool false]) (by simp [results, Tryz.results253, go_sem, *]) rfl ⟨rfl, by first | exact ((((Mk.stay HR.out).alloc _).drewN _).setNew (Nat.le_refl _) hb _).setNew (Nat.le_refl _) hb _ | exact (((Mk.stay HR.out).alloc _).drewN _)⟩
    · have HP : Hid (plainF s i = (i + 1, ⟨-1, y⟩, true)) := by
        have : ¬ ((y : Int) = 10) := by omega
        have h3 : ¬ ((y : Int) = -1) := by omega
        simp [Hid, plainF, hp, hye, this, h3]
      have HI : Hid (pk s i = (y : Int)) := hp
      have q1 : ((y : Int) == -1) = false := beq_false_of_ne (by omega)
      have q2 : ((y : Int) == 10) = false := beq_false_of_ne (by omega)
      have k255 : (y : Int) ≤ 255 := by omega
      obtain ⟨ht, ha, hf, hle, hs⟩ := HR.out
      clear h1 hp hye
      go_enter Tryz.func253, Tryz.ntmps253
      go_wp2_with (go_at_call 110; refine (peek_any b s i _ (HRA.out _)).mono ?_; rw [HI.out]; rintro e w' ⟨rfl, n, rfl⟩)
      rw [HP.out]
      exact bodyPost_ret (v := .tuple #[.agg #[.int .i64 (-1), .int .u8 (y : Int)], .bool true]) (by simp [results, Tryz.results253, go_sem, *]) rfl ⟨rfl, (((((Mk.stay HR.out).alloc _).drewN _).set (i + 1) (by omega)).setNew (Nat.le_refl _) hb _).setNew (Nat.le_refl _) hb _⟩
end Rs
end Go.Proofs.YtppjlpihaocdiaaGreatDoor

/- A part of the proof. -/
set_option linter.unusedSimpArgs false
set_option linter.unusedVariables false
namespace Go.Proofs.YtppjlpihaocdiaaGreatDoor
namespace Rs
open Go.RowKit
set_option maxHeartbeats 1000000 in
theorem escPiece_any (b : Nat) (s : ByteArray) (g i : Nat) (w : World) (hr : Rc w b s i) (hg : g ≤ 9) :
    Calls Tryz.prog 252 #[.pointer (some ⟨b, 0, none⟩), .int .i64 (g : Int)] w fun e w' => e = .returned (.tuple #[.agg #[.int .i64 (escPieceF s g i).2.1.grp, .int .u8 ((escPieceF s g i).2.1.byte : Nat)], .bool (escPieceF s g i).2.2]) ∧ Mk b w w' (escPieceF s g i).1 := by
  have HR : Hid (Rc w b s i) := hr
  have hb : b < w.heap.size := Rc.lt hr
  have hle := hr.le
  have hs := hr.s40
  clear hr
  have HRA : Hid (∀ o, Rc (w.alloc o) b s i) := fun o => Rc.alloc HR.out o
  have HRN : Hid (∀ {u : World}, Mk b w u i → Rc u b s i) := fun h => h.rc HR.out HR.out.le
  by_cases h1 : pk s i = -1
  · have hn : nxt s pieceEscs i = false := by
      have : ¬ i < s.size := fun h => by rw [pk_in h] at h1; omega
      simp [nxt, this]
    have HP : Hid (escPieceF s g i = (i, ⟨0, 0⟩, false)) := by
      rw [Hid, escPieceF, h1, hn]; rfl
    have HI : Hid (pk s i = -1) := h1
    have HN : Hid (nxt s pieceEscs i = false) := hn
    clear h1 hn
    go_enter Tryz.func252, Tryz.ntmps252
    go_wp2_with (first | (go_at_call 110; refine (peek_any b s i _ (HRA.out _)).mono ?_; rw [HI.out]; rintro e w' ⟨rfl, n, rfl⟩) | (go_at_call 161; refine (nextIsIn_any b s pieceEscs i _ (HRN.out (((((Mk.stay HR.out).alloc _).drewN _).alloc _)))).mono ?_; rw [HN.out]; rintro e w' ⟨rfl, n2, rfl⟩))
    rw [HP.out]
    refine bodyPost_ret (v := .tuple #[.agg #[.int .i64 0, .int .u8 0], .bool false]) (by simp [results, Tryz.results252, go_sem, *]) rfl ⟨rfl, ?_⟩
    (repeat first | exact Mk.stay HR.out | refine Mk.set (i := i) ?_ (i + 1) (by omega) | refine Mk.setNew ?_ (by omega) hb _ | refine Mk.drewN ?_ _ | refine Mk.alloc ?_ _)
  · obtain ⟨hlt, hp⟩ := pk_byte h1
    have hy := byt_lt s i
    generalize hye : byt s i = y at hp hy
    have HI : Hid (pk s i = (y : Int)) := hp
    obtain ⟨ht, ha, hf, hle, hs⟩ := HR.out
    have k255 : (y : Int) ≤ 255 := by omega
    by_cases hd : 49 ≤ y ∧ y ≤ 48 + g
    · have HP : Hid (escPieceF s g i = (i + 1, ⟨(y : Int) - 48, 0⟩, true)) := by
        rw [Hid, escPieceF, hp, if_pos ⟨by omega, by omega⟩]
      obtain ⟨hd1, hd2⟩ := hd
      clear h1 hp hye
      go_enter Tryz.func252, Tryz.ntmps252
      go_wp2_with (first | (go_at_call 110; refine (peek_any b s i _ (HRA.out _)).mono ?_; rw [HI.out]; rintro e w' ⟨rfl, n, rfl⟩))
      rw [HP.out]
      refine bodyPost_ret (v := .tuple #[.agg #[.int .i64 ((y : Int) - 48), .int .u8 0], .bool true]) (by simp [results, Tryz.results252, go_sem, *]) rfl ⟨rfl, ?_⟩
      (repeat first | exact Mk.stay HR.out | refine Mk.set (i := i) ?_ (i + 1) (by omega) | refine Mk.setNew ?_ (by omega) hb _ | refine Mk.drewN ?_ _ | refine Mk.alloc ?_ _)
    · have HD : Hid (¬ (49 ≤ pk s i ∧ pk s i ≤ 48 + (g : Int))) := by rw [Hid, hp]; omega
      by_cases h110 : y = 110
      · subst h110
        have HP : Hid (escPieceF s g i = (i + 1, ⟨-1, 10⟩, true)) := by
          rw [Hid, escPieceF, if_neg HD.out, if_pos (by rw [hp]; rfl)]
        have q1 : decide ((110 : Int) ≤ 48 + (g : Int)) = false := by simp; omega
        clear h1 hp hye hd
        go_enter Tryz.func252, Tryz.ntmps252
        go_wp2_with (first | (go_at_call 110; refine (peek_any b s i _ (HRA.out _)).mono ?_; rw [HI.out]; rintro e w' ⟨rfl, n, rfl⟩))
        rw [HP.out]
        refine bodyPost_ret (v := .tuple #[.agg #[.int .i64 (-1), .int .u8 10], .bool true]) (by simp [results, Tryz.results252, go_sem, *]) rfl ⟨rfl, ?_⟩
        (repeat first | exact Mk.stay HR.out | refine Mk.set (i := i) ?_ (i + 1) (by omega) | refine Mk.setNew ?_ (by omega) hb _ | refine Mk.drewN ?_ _ | refine Mk.alloc ?_ _)
      · have q2 : ((y : Int) == 110) = false := beq_false_of_ne (by omega)
        rcases bool_or (nxt s pieceEscs i) with hn | hn
        · have HN : Hid (nxt s pieceEscs i = true) := hn
          have HP : Hid (escPieceF s g i = (i + 1, ⟨-1, y⟩, true)) := by
            rw [Hid, escPieceF, if_neg HD.out, if_neg (by rw [hp]; omega), if_pos hn, hye]
          clear h1 hp hye hn
          by_cases h49 : 49 ≤ y
          · have h49' : (49 : Int) ≤ (y : Int) := by omega
            have hgy : 48 + (g : Int) < (y : Int) := by omega
            go_enter Tryz.func252, Tryz.ntmps252
            go_wp2_with (first | (go_at_call 110; refine (peek_any b s i _ (HRA.out _)).mono ?_; rw [HI.out]; rintro e w' ⟨rfl, n, rfl⟩) | (go_at_call 161; refine (nextIsIn_any b s pieceEscs i _ (HRN.out (((((Mk.stay HR.out).alloc _).drewN _).alloc _)))).mono ?_; rw [HN.out]; rintro e w' ⟨rfl, n2, rfl⟩))
            rw [HP.out]
            refine bodyPost_ret (v := .tuple #[.agg #[.int .i64 (-1), .int .u8 (y : Int)], .bool true]) (by simp [results, Tryz.results252, go_sem, *]) rfl ⟨rfl, ?_⟩
            (repeat first | exact Mk.stay HR.out | refine Mk.set (i := i) ?_ (i + 1) (by omega) | refine Mk.setNew ?_ (by omega) hb _ | refine Mk.drewN ?_ _ | refine Mk.alloc ?_ _)
          · have h49' : (y : Int) < 49 := by omega
            go_enter Tryz.func252, Tryz.ntmps252
            go_wp2_with (first | (go_at_call 110; refine (peek_any b s i _ (HRA.out _)).mono ?_; rw [HI.out]; rintro e w' ⟨rfl, n, rfl⟩) | (go_at_call 161; refine (nextIsIn_any b s pieceEscs i _ (HRN.out (((((Mk.stay HR.out).alloc _).drewN _).alloc _)))).mono ?_; rw [HN.out]; rintro e w' ⟨rfl, n2, rfl⟩))
            rw [HP.out]
            refine bodyPost_ret (v := .tuple #[.agg #[.int .i64 (-1), .int .u8 (y : Int)], .bool true]) (by simp [results, Tryz.results252, go_sem, *]) rfl ⟨rfl, ?_⟩
            (repeat first | exact Mk.stay HR.out | refine Mk.set (i := i) ?_ (i + 1) (by omega) | refine Mk.setNew ?_ (by omega) hb _ | refine Mk.drewN ?_ _ | refine Mk.alloc ?_ _)
        · have HN : Hid (nxt s pieceEscs i = false) := hn
          have HP : Hid (escPieceF s g i = (i, ⟨0, 0⟩, false)) := by
            rw [Hid, escPieceF, if_neg HD.out, if_neg (by rw [hp]; omega), hn]; rfl
          clear h1 hp hye hn
          by_cases h49 : 49 ≤ y
          · have h49' : (49 : Int) ≤ (y : Int) := by omega
            have hgy : 48 + (g : Int) < (y : Int) := by omega
            go_enter Tryz.func252, Tryz.ntmps252
            go_wp2_with (first | (go_at_call 110; refine (peek_any b s i _ (HRA.out _)).mono ?_; rw [HI.out]; rintro e w' ⟨rfl, n, rfl⟩) | (go_at_call 161; refine (nextIsIn_any b s pieceEscs i _ (HRN.out (((((Mk.stay HR.out).alloc _).drewN _).alloc _)))).mono ?_; rw [HN.out]; rintro e w' ⟨rfl, n2, rfl⟩))
            rw [HP.out]
            refine bodyPost_ret (v := .tuple #[.agg #[.int .i64 0, .int .u8 0], .bool false]) (by simp [results, Tryz.results252, go_sem, *]) rfl ⟨rfl, ?_⟩
            (repeat first | exact Mk.stay HR.out | refine Mk.set (i := i) ?_ (i + 1) (by omega) | refine Mk.setNew ?_ (by omega) hb _ | refine Mk.drewN ?_ _ | refine Mk.alloc ?_ _)
          · have h49' : (y : Int) < 49 := by omega
            go_enter Tryz.func252, Tryz.ntmps252
            go_wp2_with (first | (go_at_call 110; refine (peek_any b s i _ (HRA.out _)).mono ?_; rw [HI.out]; rintro e w' ⟨rfl, n, rfl⟩) | (go_at_call 161; refine (nextIsIn_any b s pieceEscs i _ (HRN.out (((((Mk.stay HR.out).alloc _).drewN _).alloc _)))).mono ?_; rw [HN.out]; rintro e w' ⟨rfl, n2, rfl⟩))
            rw [HP.out]
            refine bodyPost_ret (v := .tuple #[.agg #[.int .i64 0, .int .u8 0], .bool false]) (by simp [results, Tryz.results252, go_sem, *]) rfl ⟨rfl, ?_⟩
            (repeat first | exact Mk.stay HR.out | refine Mk.set (i := i) ?_ (i + 1) (by omega) | refine Mk.setNew ?_ (by omega) hb _ | refine Mk.drewN ?_ _ | refine Mk.alloc ?_ _)
theorem escPieceF_le (s : ByteArray) (g i : Nat) (h : i ≤ s.size) : (escPieceF s g i).1 ≤ s.size ∧ i ≤ (escPieceF s g i).1 := by
  unfold escPieceF
  split
  · rename_i h1
    obtain ⟨h2, _⟩ := pk_byte (s := s) (i := i) (by omega)
    omega
  · split
    · rename_i h1
      obtain ⟨h2, _⟩ := pk_byte (s := s) (i := i) (by omega)
      omega
    · split
      · rename_i h1
        have := nxt_lt h1
        omega
      · omega
theorem pieceF_le (s : ByteArray) (g i : Nat) (h : i ≤ s.size) : (pieceF s g i).1 ≤ s.size ∧ i ≤ (pieceF s g i).1 := by
  unfold pieceF
  split
  · rename_i h1
    obtain ⟨h2, _⟩ := pk_byte (s := s) (i := i) (by omega)
    omega
  · split
    · rename_i h1
      obtain ⟨h2, _⟩ := pk_byte (s := s) (i := i) (by omega)
      have := escPieceF_le s g (i + 1) (by omega)
      omega
    · unfold plainF
      split
      · omega
      · rename_i h1
        obtain ⟨h2, _⟩ := pk_byte (s := s) (i := i) (fun e => h1 (.inl e))
        simp only
        omega
theorem pieceF_lt (s : ByteArray) (g i : Nat) (h : i ≤ s.size) (ok : (pieceF s g i).2.2 = true) : i < (pieceF s g i).1 := by
  unfold pieceF at *
  split
  · omega
  · rename_i h0
    rw [if_neg h0] at ok
    split
    · rename_i h1
      obtain ⟨h2, _⟩ := pk_byte (s := s) (i := i) (by omega)
      have := escPieceF_le s g (i + 1) (by omega)
      omega
    · rename_i h1
      rw [if_neg h1] at ok
      unfold plainF at *
      split
      · rename_i h2
        rw [if_pos h2] at ok
        cases ok
      · simp only; omega
theorem new_two {w w1 : World} {x y : Value} {T : TypeId} (h : w1.heap[w.heap.size]? = (w.alloc (.cells #[x, y] T)).heap[w.heap.size]?) :
    w1.cell? ⟨w.heap.size, 0, none⟩ = some x ∧ w1.cell? ⟨w.heap.size, 1, none⟩ = some y ∧ w1.frozen? ⟨w.heap.size, 0, none⟩ = false ∧ w1.frozen? ⟨w.heap.size, 1, none⟩ = false := by
  have hh : w1.heap[w.heap.size]? = some (.cells #[x, y] T) := h.trans (heap_alloc_new w _)
  exact ⟨cell_of_row w1 _ 0 _ T (0, 0) hh, cell_of_row w1 _ 1 _ T (0, 0) hh, by simp [World.frozen?, hh], by simp [World.frozen?, hh]⟩
set_option maxHeartbeats 1000000 in
theorem piece_any (b : Nat) (s : ByteArray) (g i : Nat) (w : World) (hr : Rc w b s i) (hg : g ≤ 9) :
    Calls Tryz.prog 243 #[.pointer (some ⟨b, 0, none⟩), .int .i64 (g : Int)] w fun e w' => e = .returned (.tuple #[.agg #[.int .i64 (pieceF s g i).2.1.grp, .int .u8 ((pieceF s g i).2.1.byte : Nat)], .bool (pieceF s g i).2.2]) ∧ Mk b w w' (pieceF s g i).1 := by
  have HR : Hid (Rc w b s i) := hr
  have hb : b < w.heap.size := Rc.lt hr
  have hle := hr.le
  have hs := hr.s40
  clear hr
  have HRA : Hid (∀ o, Rc (w.alloc o) b s i) := fun o => Rc.alloc HR.out o
  by_cases h38 : pk s i = ((38 : Nat) : Int)
  · have HP : Hid (pieceF s g i = (i + 1, ⟨0, 0⟩, true)) := by rw [Hid, pieceF, if_pos (by rw [h38]; rfl)]
    have HI : Hid (pk s i = ((38 : Nat) : Int)) := h38
    clear h38
    go_enter Tryz.func243, Tryz.ntmps243
    go_wp2_with (go_at_call 100; refine (acceptY b s i 38 _ (HRA.out _) (by omega) HI.out).mono ?_; rintro e w1 ⟨rfl, hm⟩; have HM : Hid (Mk b w w1 (i + 1)) := ((Mk.stay HR.out).alloc _).trans (.mv hm); obtain ⟨t0, t1, t2, t3⟩ := new_two (hm.only.block w.heap.size (by omega)); clear hm)
    rw [HP.out]
    exact bodyPost_ret (v := .tuple #[.agg #[.int .i64 0, .int .u8 0], .bool true]) (by simp [results, Tryz.results243, go_sem, *]) rfl ⟨rfl, (HM.out.setNew (Nat.le_refl _) hb _).setNew (Nat.le_refl _) hb _⟩
  · by_cases h92 : pk s i = ((92 : Nat) : Int)
    · have HP : Hid (pieceF s g i = escPieceF s g (i + 1)) := by rw [Hid, pieceF, if_neg (by rw [h92]; decide), if_pos (by rw [h92]; rfl)]
      have HI : Hid (pk s i ≠ ((38 : Nat) : Int)) := h38
      have HJ : Hid (pk s i = ((92 : Nat) : Int)) := h92
      obtain ⟨hlt, _⟩ := pk_byte (s := s) (i := i) (by rw [h92]; decide)
      clear h38 h92
      rw [HP.out]
      generalize hF : escPieceF s g (i + 1) = F
      have HF : Hid (escPieceF s g (i + 1) = F) := hF
      clear hF
      obtain ⟨j, ⟨p0, p1⟩, ok⟩ := F
      go_enter Tryz.func243, Tryz.ntmps243
      go_wp2_with fail
      refine (acceptN b s i 38 _ (HRA.out _) (by omega) HI.out).mono ?_
      rintro e w1 ⟨rfl, hm⟩
      have HM : Hid (Mk b w w1 i) := ((Mk.stay HR.out).alloc _).trans (.mv hm)
      have HX1 : Hid (w1.heap[w.heap.size]? = (w.alloc _).heap[w.heap.size]?) := hm.only.block w.heap.size (by omega)
      obtain ⟨t0, t1, t2, t3⟩ := new_two HX1.out
      clear hm
      have hsz : w.heap.size < w1.heap.size := World.block_lt_of_cell? w1 _ t0
      go_wp2_with fail
      refine (acceptY b s i 92 _ (HM.out.rc HR.out hle) (by omega) HJ.out).mono ?_
      rintro e w2 ⟨rfl, hm⟩
      have HM2 : Hid (Mk b w w2 (i + 1)) := HM.out.trans (.mv hm)
      have HX2 : Hid (w2.heap[w.heap.size]? = w1.heap[w.heap.size]?) := hm.only.block _ (by omega)
      have hs2 : w2.heap.size = w1.heap.size := hm.only.size
      clear hm
      go_wp2_with fail
      refine (escPiece_any b s g (i + 1) _ (HM2.out.rc HR.out (by omega)) hg).mono ?_
      rw [HF.out]
      rintro e w3 ⟨rfl, hm⟩
      have HM3 : Hid (Mk b w w3 j) := HM2.out.trans hm
      have HX3 : Hid (w3.heap[w.heap.size]? = w1.heap[w.heap.size]?) := (hm.block _ (by omega) (by omega)).trans HX2.out
      clear hm t0 t1 t2 t3
      obtain ⟨t0, t1, t2, t3⟩ := new_two (HX3.out.trans HX1.out)
      go_wp2_with fail
      exact bodyPost_ret (v := .tuple #[.agg #[.int .i64 p0, .int .u8 (p1 : Int)], .bool ok]) (by simp [results, Tryz.results243, go_sem, *]) rfl ⟨rfl, (HM3.out.setNew (Nat.le_refl _) hb _).setNew (Nat.le_refl _) hb _⟩
    · have HP : Hid (pieceF s g i = plainF s i) := by rw [Hid, pieceF, if_neg (fun e => h38 (by rw [e]; rfl)), if_neg (fun e => h92 (by rw [e]; rfl))]
      have HI : Hid (pk s i ≠ ((38 : Nat) : Int)) := h38
      have HJ : Hid (pk s i ≠ ((92 : Nat) : Int)) := h92
      clear h38 h92
      rw [HP.out]
      generalize hF : plainF s i = F
      have HF : Hid (plainF s i = F) := hF
      clear hF
      obtain ⟨j, ⟨p0, p1⟩, ok⟩ := F
      go_enter Tryz.func243, Tryz.ntmps243
      go_wp2_with fail
      refine (acceptN b s i 38 _ (HRA.out _) (by omega) HI.out).mono ?_
      rintro e w1 ⟨rfl, hm⟩
      have HM : Hid (Mk b w w1 i) := ((Mk.stay HR.out).alloc _).trans (.mv hm)
      have HX1 : Hid (w1.heap[w.heap.size]? = (w.alloc _).heap[w.heap.size]?) := hm.only.block w.heap.size (by omega)
      obtain ⟨t0, t1, t2, t3⟩ := new_two HX1.out
      clear hm
      have hsz : w.heap.size < w1.heap.size := World.block_lt_of_cell? w1 _ t0
      go_wp2_with fail
      refine (acceptN b s i 92 _ (HM.out.rc HR.out hle) (by omega) HJ.out).mono ?_
      rintro e w2 ⟨rfl, hm⟩
      have HM2 : Hid (Mk b w w2 i) := HM.out.trans (.mv hm)
      have HX2 : Hid (w2.heap[w.heap.size]? = w1.heap[w.heap.size]?) := hm.only.block _ (by omega)
      have hs2 : w2.heap.size = w1.heap.size := hm.only.size
      clear hm
      go_wp2_with fail
      refine (plain_any b s i _ (HM2.out.rc HR.out hle)).mono ?_
      rw [HF.out]
      rintro e w3 ⟨rfl, hm⟩
      have HM3 : Hid (Mk b w w3 j) := HM2.out.trans hm
      have HX3 : Hid (w3.heap[w.heap.size]? = w1.heap[w.heap.size]?) := (hm.block _ (by omega) (by omega)).trans HX2.out
      clear hm t0 t1 t2 t3
      obtain ⟨t0, t1, t2, t3⟩ := new_two (HX3.out.trans HX1.out)
      go_wp2_with fail
      exact bodyPost_ret (v := .tuple #[.agg #[.int .i64 p0, .int .u8 (p1 : Int)], .bool ok]) (by simp [results, Tryz.results243, go_sem, *]) rfl ⟨rfl, (HM3.out.setNew (Nat.le_refl _) hb _).setNew (Nat.le_refl _) hb _⟩
end Rs
end Go.Proofs.YtppjlpihaocdiaaGreatDoor

/- A part of the proof. -/
set_option linter.unusedSimpArgs false
set_option linter.unusedVariables false
namespace Go.Proofs.YtppjlpihaocdiaaGreatDoor
namespace Rs
open Go.RowKit
theorem byt_extract (s : ByteArray) (i e k : Nat) (hk : i + k < e) : byt (s.extract i e) k = byt s (i + k) := by
  unfold byt
  rw [List.getD_eq_getElem?_getD, List.getD_eq_getElem?_getD, Lib.extract_data, List.getElem?_take, if_pos (by omega), List.getElem?_drop]
theorem slash_shift (s : ByteArray) (i : Nat) (hi : i ≤ s.size) : ∀ (f k : Nat), slashF (s.extract i s.size) f k + i = slashF s f (i + k)
  | 0, k => by simp [slashF, ByteArray.size_extract]; omega
  | f + 1, k => by
    unfold slashF
    have hsz : (s.extract i s.size).size = s.size - i := by simp [ByteArray.size_extract]
    by_cases h : k < s.size - i
    · rw [if_pos (by rw [hsz]; exact h), if_pos (show i + k < s.size by omega), byt_extract s i s.size k (by omega)]
      by_cases h1 : byt s (i + k) = 47
      · rw [if_pos h1, if_pos h1]; omega
      · rw [if_neg h1, if_neg h1]
        by_cases h2 : byt s (i + k) = 92
        · rw [if_pos h2, if_pos h2, slash_shift s i hi f (k + 2)]; rfl
        · rw [if_neg h2, if_neg h2, slash_shift s i hi f (k + 1)]; rfl
    · rw [if_neg (by rw [hsz]; exact h), if_neg (show ¬ i + k < s.size by omega)]; omega
theorem slashF_more (s : ByteArray) : ∀ (f f' k : Nat), s.size < f + k → s.size < f' + k → slashF s f k = slashF s f' k
  | 0, 0, k, _, _ => rfl
  | 0, f' + 1, k, h, h' => by unfold slashF; rw [if_neg (by omega)]
  | f + 1, 0, k, h, h' => by unfold slashF; rw [if_neg (by omega)]
  | f + 1, f' + 1, k, h, h' => by
    unfold slashF
    split
    · split
      · rfl
      · split
        · exact slashF_more s f f' (k + 2) (by omega) (by omega)
        · exact slashF_more s f f' (k + 1) (by omega) (by omega)
    · rfl
theorem slash_ge (s : ByteArray) : ∀ (f k : Nat), k ≤ s.size → k ≤ slashF s f k
  | 0, k, h => h
  | f + 1, k, h => by
    unfold slashF
    split
    · split
      · exact Nat.le_refl _
      · split
        · by_cases h2 : k + 2 ≤ s.size
          · have := slash_ge s f (k + 2) h2; omega
          · have e : slashF s f (k + 2) = s.size := by
              cases f with
              | zero => rfl
              | succ f => rw [slashF, if_neg (by omega)]
            omega
        · have := slash_ge s f (k + 1) (by omega); omega
    · omega
theorem pat_text (s : ByteArray) (i : Nat) (hi : i ≤ s.size) : (s.extract i s.size).extract 0 (slash (s.extract i s.size) 0) = s.extract i (slash s i) := by
  have h1 := slash_shift s i hi ((s.extract i s.size).size + 1) 0
  have hsz : (s.extract i s.size).size = s.size - i := by simp [ByteArray.size_extract]
  have h2 : slashF s ((s.extract i s.size).size + 1) (i + 0) = slash s i := slashF_more s _ _ _ (by omega) (by omega)
  rw [h2] at h1
  have h3 : slash (s.extract i s.size) 0 = slash s i - i := by unfold slash at *; omega
  have h4 : i ≤ slash s i := slash_ge s _ i hi
  have h5 : slash s i ≤ s.size := slashF_le s _ _
  rw [h3]
  apply ByteArray.ext
  apply Array.toList_inj.1
  rw [Lib.extract_data, Lib.extract_data, Lib.extract_data]
  rw [Nat.sub_zero, List.drop_zero, List.take_take]
  congr 1
  omega
theorem pat_size (s : ByteArray) (i : Nat) (hi : i ≤ s.size) : (s.extract i (slash s i)).size = slash s i - i := by
  have h5 : slash s i ≤ s.size := slashF_le s _ _
  simp [ByteArray.size_extract]; omega
structure Cu (w : World) (b : Nat) (s : ByteArray) (i : Nat) (lg : Int) : Prop where
  rc : Rc w b s i
  c5 : w.cell? ⟨b, 5, none⟩ = some (.int .i64 lg)
  f5 : w.frozen? ⟨b, 5, none⟩ = false
structure Mw (b : Nat) (w w' : World) : Prop where
  os : w'.os = w.os
  tape : w'.tape = w.tape
  output : w'.output = w.output
  size : w.heap.size ≤ w'.heap.size
  block : ∀ k, k < w.heap.size → k ≠ b → w'.heap[k]? = w.heap[k]?
  cell : ∀ k, k ≠ 1 → k ≠ 5 → w'.cell? ⟨b, k, none⟩ = w.cell? ⟨b, k, none⟩
  frz : ∀ k, w'.frozen? ⟨b, k, none⟩ = w.frozen? ⟨b, k, none⟩
theorem Mw.refl (b : Nat) (w : World) : Mw b w w := ⟨rfl, rfl, rfl, Nat.le_refl _, fun _ _ _ => rfl, fun _ _ _ => rfl, fun _ => rfl⟩
theorem Mw.trans {b : Nat} {u v w : World} (h : Mw b u v) (k : Mw b v w) : Mw b u w :=
  ⟨k.os.trans h.os, k.tape.trans h.tape, k.output.trans h.output, Nat.le_trans h.size k.size, fun i hi hb => (k.block i (Nat.lt_of_lt_of_le hi h.size) hb).trans (h.block i hi hb), fun i h1 h2 => (k.cell i h1 h2).trans (h.cell i h1 h2), fun i => (k.frz i).trans (h.frz i)⟩
theorem Mw.mv {b j : Nat} {w w' : World} (h : Mv b w w' j) : Mw b w w' :=
  ⟨h.only.os, h.only.tape, h.only.output, by rw [h.only.size]; exact Nat.le_refl _, fun k _ hb => h.only.block k hb, fun k h1 _ => h.cell k h1, h.frz⟩
theorem Mw.below {b : Nat} {w w' : World} (h : Below w.heap.size w w') (hb : b < w.heap.size) : Mw b w w' :=
  ⟨h.os, h.tape, h.output, h.size, fun k hk _ => h.block k hk, fun k _ _ => h.cell (p := ⟨b, k, none⟩) hb, fun k => h.frozen (p := ⟨b, k, none⟩) hb⟩
theorem Mw.drewN {b : Nat} {u w : World} (h : Mw b u w) (n : Nat) : Mw b u (w.drewN n) := h.trans ⟨rfl, rfl, rfl, Nat.le_refl _, fun _ _ _ => rfl, fun _ _ _ => rfl, fun _ => rfl⟩
theorem Mw.set1 {b : Nat} {u w : World} (h : Mw b u w) (v : Value) : Mw b u (w.setCell ⟨b, 1, none⟩ v) :=
  h.trans ⟨rfl, rfl, rfl, by rw [size_set]; exact Nat.le_refl _, fun k _ hb => Below.heap_setCell _ _ _ _ hb, fun k h1 _ => World.cell?_setCell_other (h := fun e => h1 (by injection e with _ e _; exact e.symm)) .., fun k => World.frozen?_setCell ..⟩
theorem Mw.set5 {b : Nat} {u w : World} (h : Mw b u w) (v : Value) : Mw b u (w.setCell ⟨b, 5, none⟩ v) :=
  h.trans ⟨rfl, rfl, rfl, by rw [size_set]; exact Nat.le_refl _, fun k _ hb => Below.heap_setCell _ _ _ _ hb, fun k _ h1 => World.cell?_setCell_other (h := fun e => h1 (by injection e with _ e _; exact e.symm)) .., fun k => World.frozen?_setCell ..⟩
theorem Mw.alloc {b : Nat} {u w : World} (h : Mw b u w) (hb : b < u.heap.size) (o : Obj) : Mw b u (w.alloc o) :=
  h.trans (Mw.below ((Below.refl _ _).alloc (Nat.le_refl _) o) (Nat.lt_of_lt_of_le hb h.size))
theorem Mw.setNew {b B k : Nat} {u w : World} (h : Mw b u w) (hB : u.heap.size ≤ B) (hb : b < u.heap.size) (v : Value) : Mw b u (w.setCell ⟨B, k, none⟩ v) := by
  have hne : b ≠ B := by omega
  exact ⟨h.os, h.tape, h.output, by rw [size_set]; exact h.size, fun i hi hb' => by rw [Below.heap_setCell _ _ _ _ (by simp only; omega)]; exact h.block i hi hb', fun i h1 h2 => by rw [World.cell?_setCell_other (h := fun e => hne (by injection e with e _ _; exact e.symm))]; exact h.cell i h1 h2, fun i => by rw [World.frozen?_setCell]; exact h.frz i⟩
theorem Cu.lt {w : World} {b : Nat} {s : ByteArray} {i : Nat} {lg : Int} (h : Cu w b s i lg) : b < w.heap.size := World.block_lt_of_cell? w _ h.rc.c0
theorem Cu.below {w w' : World} {b : Nat} {s : ByteArray} {i : Nat} {lg : Int} (h : Cu w b s i lg) (hb : Below w.heap.size w w') : Cu w' b s i lg := by
  have hl := h.lt
  obtain ⟨⟨r0, r1, rf, rle, r40⟩, c5, f5⟩ := h
  have hc : ∀ k, w'.cell? ⟨b, k, none⟩ = w.cell? ⟨b, k, none⟩ := fun k => hb.cell (p := ⟨b, k, none⟩) hl
  have hf : ∀ k, w'.frozen? ⟨b, k, none⟩ = w.frozen? ⟨b, k, none⟩ := fun k => hb.frozen (p := ⟨b, k, none⟩) hl
  exact ⟨⟨(hc 0).trans r0, (hc 1).trans r1, (hf 1).trans rf, rle, r40⟩, (hc 5).trans c5, (hf 5).trans f5⟩
theorem Cu.mv {w w' : World} {b : Nat} {s : ByteArray} {i j : Nat} {lg : Int} (h : Cu w b s i lg) (hm : Mv b w w' j) (hj : j ≤ s.size) : Cu w' b s j lg :=
  ⟨hm.rc h.rc hj, (hm.cell 5 (by omega)).trans h.c5, (hm.frz 5).trans h.f5⟩
theorem Cu.drewN {w : World} {b : Nat} {s : ByteArray} {i : Nat} {lg : Int} (h : Cu w b s i lg) (n : Nat) : Cu (w.drewN n) b s i lg := ⟨h.rc.drewN n, h.c5, h.f5⟩
theorem Cu.alloc {w : World} {b : Nat} {s : ByteArray} {i : Nat} {lg : Int} (h : Cu w b s i lg) (o : Obj) : Cu (w.alloc o) b s i lg := h.below ((Below.refl _ _).alloc (Nat.le_refl _) o)
theorem Cu.setNew {w : World} {b B k : Nat} {s : ByteArray} {i : Nat} {lg : Int} (h : Cu w b s i lg) (hB : b ≠ B) (v : Value) : Cu (w.setCell ⟨B, k, none⟩ v) b s i lg := by
  obtain ⟨⟨r0, r1, rf, rle, r40⟩, c5, f5⟩ := h
  have hc : ∀ o, (w.setCell ⟨B, k, none⟩ v).cell? ⟨b, o, none⟩ = w.cell? ⟨b, o, none⟩ := fun o => World.cell?_setCell_other (h := fun e => hB (by injection e with e _ _; exact e.symm)) ..
  have hf : ∀ o, (w.setCell ⟨B, k, none⟩ v).frozen? ⟨b, o, none⟩ = w.frozen? ⟨b, o, none⟩ := fun o => World.frozen?_setCell ..
  exact ⟨⟨(hc 0).trans r0, (hc 1).trans r1, (hf 1).trans rf, rle, r40⟩, (hc 5).trans c5, (hf 5).trans f5⟩
theorem Cu.put {w : World} {b : Nat} {s : ByteArray} {i : Nat} {lg : Int} (h : Cu w b s i lg) {v : Int} (j : Nat) (hv : v = j) (hj : j ≤ s.size) : Cu (w.setCell ⟨b, 1, none⟩ (.int .i64 v)) b s j lg := h.mv (.put h.rc.c1 j hv) hj
theorem Cu.put5 {w : World} {b : Nat} {s : ByteArray} {i : Nat} {lg : Int} (h : Cu w b s i lg) (v : Int) : Cu (w.setCell ⟨b, 5, none⟩ (.int .i64 v)) b s i v := by
  obtain ⟨⟨r0, r1, rf, rle, r40⟩, c5, f5⟩ := h
  exact ⟨⟨by go_simp, by go_simp, by go_simp, rle, r40⟩, by go_simp, by go_simp⟩
structure Th (w : World) (N : Nat) (v0 v1 v2 : Value) : Prop where
  c0 : w.cell? ⟨N, 0, none⟩ = some v0
  c1 : w.cell? ⟨N, 1, none⟩ = some v1
  c2 : w.cell? ⟨N, 2, none⟩ = some v2
  f0 : w.frozen? ⟨N, 0, none⟩ = false
  f1 : w.frozen? ⟨N, 1, none⟩ = false
  f2 : w.frozen? ⟨N, 2, none⟩ = false
theorem Th.of {w w' : World} {N : Nat} {v0 v1 v2 : Value} (h : Th w N v0 v1 v2) (hx : w'.heap[N]? = w.heap[N]?) : Th w' N v0 v1 v2 := by
  have hc : ∀ k, w'.cell? ⟨N, k, none⟩ = w.cell? ⟨N, k, none⟩ := fun k => World.cell?_of_block (w := w) (w' := w') (a := ⟨N, k, none⟩) hx
  have hf : ∀ k, w'.frozen? ⟨N, k, none⟩ = w.frozen? ⟨N, k, none⟩ := fun k => World.frozen?_of_block (w := w) (w' := w') (a := ⟨N, k, none⟩) hx
  exact ⟨(hc 0).trans h.c0, (hc 1).trans h.c1, (hc 2).trans h.c2, (hf 0).trans h.f0, (hf 1).trans h.f1, (hf 2).trans h.f2⟩
theorem PatAt.of {w w' : World} {lo hi : Nat} {t : ByteArray} {v0 v1 v2 : Value} (h : PatAt w lo hi t v0 v1 v2) (hb : ∀ k, lo < k → k < hi → w'.heap[k]? = w.heap[k]?) (hs : hi ≤ w'.heap.size) : PatAt w' lo hi t v0 v1 v2 := by
  obtain ⟨h1, h2, h3⟩ := h
  refine ⟨h1, h2, fun h40 => ?_⟩
  obtain ⟨nb, cap, a1, a2, a3, a4, a5⟩ := h3 h40
  exact ⟨nb, cap, a1, a2, a3, a4, a5.of hb hs⟩
theorem PatAt.wide {w : World} {lo hi lo' hi' : Nat} {t : ByteArray} {v0 v1 v2 : Value} (h : PatAt w lo hi t v0 v1 v2) (h1 : lo' ≤ lo) (h2 : hi ≤ hi') (h3 : hi' ≤ w.heap.size) : PatAt w lo' hi' t v0 v1 v2 := by
  obtain ⟨a1, a2, a3⟩ := h
  refine ⟨a1, a2, fun h40 => ?_⟩
  obtain ⟨nb, cap, b1, b2, b3, b4, b5⟩ := a3 h40
  exact ⟨nb, cap, b1, b2, b3, b4, h3, fun w' c1 c2 => b5.2 w' (fun k d1 d2 => c1 k (by omega) (by omega)) (by omega)⟩
structure Keep (lo hi : Nat) (u w : World) : Prop where
  same : ∀ k, lo < k → k < hi → w.heap[k]? = u.heap[k]?
  size : hi ≤ w.heap.size
theorem Keep.refl {lo hi : Nat} {u : World} (h : hi ≤ u.heap.size) : Keep lo hi u u := ⟨fun _ _ _ => rfl, h⟩
theorem Keep.set {lo hi : Nat} {u w : World} (h : Keep lo hi u w) {B o : Nat} {v : Value} (hB : B ≤ lo ∨ hi ≤ B) : Keep lo hi u (w.setCell ⟨B, o, none⟩ v) :=
  ⟨fun k h1 h2 => by rw [Below.heap_setCell _ _ _ _ (by simp only; omega)]; exact h.same k h1 h2, by rw [size_set]; exact h.size⟩
theorem Keep.alloc {lo hi : Nat} {u w : World} (h : Keep lo hi u w) {o : Obj} : Keep lo hi u (w.alloc o) :=
  ⟨fun k h1 h2 => by rw [Below.heap_alloc _ _ _ (Nat.lt_of_lt_of_le h2 h.size)]; exact h.same k h1 h2, by have := h.size; simp; omega⟩
theorem Keep.drewN {lo hi : Nat} {u w : World} (h : Keep lo hi u w) (n : Nat) : Keep lo hi u (w.drewN n) := ⟨h.same, h.size⟩
theorem Keep.drew {lo hi : Nat} {u w : World} (h : Keep lo hi u w) : Keep lo hi u w.drew := ⟨h.same, h.size⟩
theorem PatAt.kept {u w : World} {lo hi : Nat} {t : ByteArray} {v0 v1 v2 : Value} (h : PatAt u lo hi t v0 v1 v2) (k : Keep lo hi u w) : PatAt w lo hi t v0 v1 v2 := h.of k.same k.size
theorem PatAt.keep {u w : World} {lo lo' hi : Nat} {t : ByteArray} {v0 v1 v2 : Value} (h : PatAt u lo hi t v0 v1 v2) (k : Keep lo hi u w) (hl : lo' ≤ lo) : PatAt w lo' w.heap.size t v0 v1 v2 := (h.of k.same k.size).wide hl k.size (Nat.le_refl _)
end Rs
end Go.Proofs.YtppjlpihaocdiaaGreatDoor

