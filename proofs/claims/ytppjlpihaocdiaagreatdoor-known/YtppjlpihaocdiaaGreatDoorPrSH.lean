/- A part of the proof. -/
import Derived.Test.YtppjlpihaocdiaaGreatDoorPrRH
import Derived.Test.YtppjlpihaocdiaaGreatDoorPrGH
import Derived.Deep.DeepCutAuto
set_option linter.unusedSimpArgs false
set_option linter.unusedVariables false
namespace Go.Proofs.YtppjlpihaocdiaaGreatDoor
namespace Rs
open Go.RowKit
theorem labF_le (s : ByteArray) : ∀ (f i : Nat), i ≤ s.size → labF s f i ≤ s.size ∧ i ≤ labF s f i
  | 0, i, h => ⟨h, Nat.le_refl _⟩
  | f + 1, i, h => by
    unfold labF
    split
    · rename_i h1
      obtain ⟨h2, _⟩ := pk_byte (s := s) (i := i) (by omega)
      have := labF_le s f (i + 1) (by omega)
      omega
    · omega
theorem Tryz.info191 : (Tryz.prog.info? 191).map (fun i => (i.zero, i.size, i.bytes)) = some (some (.agg #[.string ⟨#[]⟩, .int .i64 0, .int .i64 0, .bool false]), 4, 40) := by kernel_rfl
theorem Rk.labelled {w w1 : World} {b gg cap : Nat} {s : ByteArray} {p : RSt} {cv lv : Value} {o1 : Obj} {x : Lab} (h : Rk w b s p cv lv)
    (hg : (w.alloc o1).drew.grownBy w1 lv.ownBlock) (hown : w1.ownsRow (b + 1) 191 4 (.slice (some ⟨gg, 0, none⟩) (p.labs.length + 1) cap) (p.labs.length + 1) (labL p.labs ++ [Value.string x.name, .int .i64 (x.at' : Int), .int .i64 (x.cmd : Int), .bool x.want]))
    (hat : lv.ownBlock = some gg ∨ gg = w.heap.size + 1) :
    Rk (w1.setCell ⟨b, 4, none⟩ (.slice (some ⟨gg, 0, none⟩) (p.labs.length + 1) cap)) b s { p with labs := p.labs ++ [x] } cv (.slice (some ⟨gg, 0, none⟩) (p.labs.length + 1) cap) ∧
    Fq b cv cv lv (.slice (some ⟨gg, 0, none⟩) (p.labs.length + 1) cap) w (w1.setCell ⟨b, 4, none⟩ (.slice (some ⟨gg, 0, none⟩) (p.labs.length + 1) cap)) := by
  have hb := h.lt
  obtain ⟨⟨⟨r0, r1, rf, rle, r40⟩, c5, f5⟩, c2, c3, c4, f2, f3, f4, ⟨xs, own, cms⟩, lab, apart⟩ := h
  have far : ∀ k, k < w.heap.size → some k ≠ lv.ownBlock → w1.heap[k]? = w.heap[k]? := fun k hk hne => by
    rw [hg.block k (by simp; omega) hne]
    exact Below.heap_alloc _ _ _ hk
  have hgb : b + 1 ≤ gg := (hown.lt gg rfl).1
  have hx := far b hb (fun e => by have := (lab.lt b e.symm).1; omega)
  have kc : ∀ k, w1.cell? ⟨b, k, none⟩ = w.cell? ⟨b, k, none⟩ := fun k => World.cell?_of_block (w := w) (w' := w1) (a := ⟨b, k, none⟩) hx
  have kf : ∀ k, w1.frozen? ⟨b, k, none⟩ = w.frozen? ⟨b, k, none⟩ := fun k => World.frozen?_of_block (w := w) (w' := w1) (a := ⟨b, k, none⟩) hx
  have ko : ∀ k, k ≠ 4 → (w1.setCell ⟨b, 4, none⟩ (.slice (some ⟨gg, 0, none⟩) (p.labs.length + 1) cap)).cell? ⟨b, k, none⟩ = w.cell? ⟨b, k, none⟩ := fun k hk =>
    (World.cell?_setCell_other (h := ad_ne (.inr (Ne.symm hk))) ..).trans (kc k)
  have kz : ∀ k, (w1.setCell ⟨b, 4, none⟩ (.slice (some ⟨gg, 0, none⟩) (p.labs.length + 1) cap)).frozen? ⟨b, k, none⟩ = w.frozen? ⟨b, k, none⟩ := fun k => by
    rw [World.frozen?_setCell]; exact kf k
  have far2 : ∀ k, k < w.heap.size → k ≠ b → some k ≠ lv.ownBlock → (w1.setCell ⟨b, 4, none⟩ (.slice (some ⟨gg, 0, none⟩) (p.labs.length + 1) cap)).heap[k]? = w.heap[k]? := fun k hk hkb hne => by
    rw [Below.heap_setCell _ _ _ _ hkb]; exact far k hk hne
  have hsz : w.heap.size ≤ (w1.setCell ⟨b, 4, none⟩ (.slice (some ⟨gg, 0, none⟩) (p.labs.length + 1) cap)).heap.size := by
    have := hg.size; rw [size_set]; simp at this; omega
  refine ⟨⟨⟨⟨(ko 0 (by omega)).trans r0, (ko 1 (by omega)).trans r1, (kz 1).trans rf, rle, r40⟩, (ko 5 (by omega)).trans c5, (kz 5).trans f5⟩, (ko 2 (by omega)).trans c2, (ko 3 (by omega)).trans c3, World.cell?_setCell_same _ _ _ ((kc 4).trans c4), (kz 2).trans f2, (kz 3).trans f3, (kz 4).trans f4, ⟨xs, own_of own fun k hk => far2 k (own.lt k hk).2 (by have := (own.lt k hk).1; omega) (fun e => apart k hk e.symm), fun k x hx => ?_⟩, ?_, ?_⟩, ?_⟩
  · obtain ⟨lo, hi, q, a1, a2, a3, a4, a5, a6⟩ := cms k x hx
    refine ⟨lo, hi, q, a1, Nat.le_trans a2 hsz, a3, fun g hg' => ?_, a5.keep ⟨fun i h1 h2 => far2 i (by omega) (by omega) (fun e => by have := a4 i e.symm; omega), Nat.le_trans a2 hsz⟩, a6⟩
    have hgg : gg = g := by simpa [Value.ownBlock] using hg'
    rcases hat with e | e
    · exact a4 g (by rw [← hgg]; exact e)
    · right; omega
  · simp only [List.length_append, List.length_singleton, labL_snoc]
    exact own_of hown fun k hk => Below.heap_setCell _ _ _ _ (by
      have : gg = k := by simpa [Value.ownBlock] using hk
      simp only; omega)
  · intro k hk hk'
    have hgg : gg = k := by simpa [Value.ownBlock] using hk'
    rcases hat with e | e
    · exact apart k hk (by rw [← hgg]; exact e)
    · have := (own.lt k hk).2; omega
  · refine ⟨hg.os, hg.tape, hg.output, hsz, fun k hk hkb _ h2 => far2 k hk hkb h2, .inl rfl, ?_⟩
    rcases hat with e | e
    · exact .inl (by rw [e]; rfl)
    · right
      intro k hk
      have : gg = k := by simpa [Value.ownBlock] using hk
      omega
attribute [local go_sem ↓] Go.wp_at_zero Go.wp_at_succ
set_option maxRecDepth 100000 in
set_option maxHeartbeats 4000000 in
theorem label_any (b : Nat) (s : ByteArray) (p : RSt) (cv lv : Value) (want : Bool) (w : World) (hr : Rk w b s p cv lv) (hn : p.labs.length ≤ 1000) (hn2 : p.cmds.length ≤ 1000) :
    Calls Tryz.prog 196 #[.pointer (some ⟨b, 0, none⟩), .bool want] w fun e w' => ∃ lv', e = .returned (.string (s.extract p.at' (labF s 8 p.at'))) ∧ Rk w' b s (p.label s p.at' want) cv lv' ∧ Fq b cv cv lv lv' w w' := by
  have HK : Hid (Rk w b s p cv lv) := hr
  have hb := hr.lt
  have hle := hr.cu.rc.le
  have h400 := hr.cu.rc.s40
  have HR : Hid (Rc w b s p.at') := hr.cu.rc
  obtain ⟨i0, hi0, hz0, hz1, hz2⟩ := info_parts Tryz.info191
  have hcl : ∃ ao cap, cv = .slice ao p.cmds.length cap := by
    obtain ⟨xs, own, _⟩ := hr.own
    rcases own.2 with ⟨e, e2⟩ | ⟨g, c, _, e, _⟩
    · exact ⟨none, 0, by rw [e, e2]⟩
    · exact ⟨_, _, e⟩
  obtain ⟨ao, cap0, rfl⟩ := hcl
  have hjl := labF_le s 8 p.at' hle
  generalize hJ : labF s 8 p.at' = J at hjl
  have HJ : Hid (labF s 8 p.at' = J) := hJ
  clear hJ
  have hPL : p.label s p.at' want = { p with at' := J, labs := p.labs ++ [⟨s.extract p.at' J, p.at', p.cmds.length, want⟩] } := by rw [RSt.label, HJ.out]
  have HPL : Hid (p.label s p.at' want = { p with at' := J, labs := p.labs ++ [⟨s.extract p.at' J, p.at', p.cmds.length, want⟩] }) := hPL
  clear hPL
  obtain ⟨r0, r1, rf, _, _⟩ := HR.out
  clear hr
  generalize hi : p.at' = i at *
  go_enter Tryz.func196, Tryz.ntmps196
  go_wp2_with fail
  go_loopw [] (fun wr => ∃ (j f : Nat), Mv b w wr j ∧ j ≤ s.size ∧ j + f = i + 8 ∧ Hid (J = labF s f j)) (fun wr => s.size - atOf wr b)
  case atStart => exact ⟨i, 8, HR.out.stay, hle, rfl, HJ.out.symm⟩
  case round =>
    obtain ⟨j, f, hM, hj, hjf, HF⟩ := hrel
    have HM : Hid (Mv b w wr j) := hM
    have HRj : Hid (Rc wr b s j) := hM.rc HR.out hj
    have HAT : Hid (atOf wr b = j) := atOf_is hM.c1
    obtain ⟨q0, q1, qf, _, _⟩ := HRj.out
    clear hM r0 r1 rf
    have HF1 : Hid (f ≠ 0 → J = if 97 ≤ pk s j ∧ pk s j ≤ 122 then labF s (f - 1) (j + 1) else j) := fun h => by
      rw [HF.out]
      conv => lhs; rw [show f = (f - 1) + 1 by omega, labF]
    have HPX : Hid (pk s j ≠ -1 → j < s.size) := fun h => (pk_byte h).1
    have hpb : pk s j ≤ 255 := by
      by_cases h : pk s j = -1
      · rw [h]; decide
      · rw [(pk_byte h).2]; have := byt_lt s j; omega
    generalize hx : pk s j = x at hpb
    have HP : Hid (pk s j = x) := hx
    have HF2 : Hid (f ≠ 0 → J = if 97 ≤ x ∧ x ≤ 122 then labF s (f - 1) (j + 1) else j) := by rw [← hx]; exact HF1.out
    have HPX2 : Hid (x ≠ -1 → j < s.size) := by rw [← hx]; exact HPX.out
    clear hx HF1 HPX
    go_upto_region 2 with fail
    go_cut [33] (fun s33 wx => s33 = .bool (decide (f ≠ 0) && decide (97 ≤ x) && decide (x ≤ 122)) ∧ ∃ n, wx = wr.drewN n)
    case first =>
      by_cases hf : f = 0
      · subst hf
        have q1 : decide ((j : Int) < (i : Int) + 8) = false := by simp; omega
        go_wp2_with fail
        go_meet
        exact ⟨by simp, 0, rfl⟩
      · have q1 : decide ((j : Int) < (i : Int) + 8) = true := by simp; omega
        by_cases h1 : 97 ≤ x
        · by_cases h2 : x ≤ 122
          · go_wp2_with (first | (go_at_call 110; refine (peek_any b s j _ (by first | exact HRj.out | exact HRj.out.drewN _)).mono ?_; rw [HP.out]; rintro e w1 ⟨rfl, n1, rfl⟩))
            go_meet
            exact ⟨by simp [hf, h1, h2], _, rfl⟩
          · have h2' : 122 < x := by omega
            go_wp2_with (first | (go_at_call 110; refine (peek_any b s j _ (by first | exact HRj.out | exact HRj.out.drewN _)).mono ?_; rw [HP.out]; rintro e w1 ⟨rfl, n1, rfl⟩))
            go_meet
            exact ⟨by simp [hf, h1, h2], _, rfl⟩
        · have h1' : x < 97 := by omega
          go_wp2_with (first | (go_at_call 110; refine (peek_any b s j _ (by first | exact HRj.out | exact HRj.out.drewN _)).mono ?_; rw [HP.out]; rintro e w1 ⟨rfl, n1, rfl⟩))
          go_meet
          exact ⟨by simp [hf]; omega, _, rfl⟩
    case rest =>
      obtain ⟨rfl, n, rfl⟩ := hcut
      by_cases hq : f ≠ 0 ∧ 97 ≤ x ∧ x ≤ 122
      · obtain ⟨hf, h1, h2⟩ := hq
        have hb1 : (decide (f ≠ 0) && decide (97 ≤ x) && decide (x ≤ 122)) = true := by simp [hf, h1, h2]
        have hlt := HPX2.out (by omega)
        have HF3 : Hid (J = labF s (f - 1) (j + 1)) := by rw [Hid, HF2.out hf, if_pos ⟨h1, h2⟩]
        rw [hb1]
        clear hb1 HF2 HPX2
        go_wp2_with fail
        go_roundw
        case rel => exact ⟨j + 1, f - 1, (HM.out.drewN n).set (j + 1) (by omega), by omega, by omega, HF3⟩
        case measure =>
          have a1 := atOf_is ((HM.out.drewN n).set (v := (j : Int) + 1) (j + 1) (by omega)).c1
          have a2 := HAT.out
          rw [a1, a2]
          omega
      · have hb1 : (decide (f ≠ 0) && decide (97 ≤ x) && decide (x ≤ 122)) = false := by
          rcases bool_or (decide (f ≠ 0) && decide (97 ≤ x) && decide (x ≤ 122)) with h | h
          · simp at h; exact absurd ⟨h.1.1, h.1.2, h.2⟩ hq
          · exact h
        have HJ2 : Hid (J = j) := by
          by_cases hf : f = 0
          · rw [Hid, HF.out, hf]; rfl
          · rw [Hid, HF2.out hf, if_neg (fun h => hq ⟨hf, h.1, h.2⟩)]
        rw [hb1]
        clear hb1 HF2 HPX2 HF hq
        obtain rfl : j = J := HJ2.out.symm
        have HK2 : Hid (Rk (wr.drewN n) b s { p with at' := j, long := p.long } (.slice ao p.cmds.length cap0) lv) := HK.out.mw (.mv (HM.out.drewN n)) (HK.out.cu.mv (HM.out.drewN n) hj)
        have HFQ : Hid (Fq b (.slice ao p.cmds.length cap0) (.slice ao p.cmds.length cap0) lv lv w (wr.drewN n)) := Fq.mw (.mv (HM.out.drewN n))
        have k1 : (0 : Int) ≤ (i : Int) := by omega
        have k2 : (i : Int) ≤ (j : Int) := by omega
        have k3 : (j : Int) ≤ (s.size : Int) := by omega
        clear q0 q1 qf
        obtain ⟨⟨⟨q0, q1, qf, _, _⟩, q5, qf5⟩, q2, q3, q4, qf2, qf3, qf4, own, lab, apart⟩ := HK2.out
        clear own apart
        have HLB : Hid ((wr.drewN n).ownsRow (b + 1) 191 4 lv p.labs.length (labL p.labs)) := lab
        clear lab
        generalize hu : wr.drewN n = u at HK2 HFQ HLB q0 q1 qf q5 qf5 q2 q3 q4 qf2 qf3 qf4 ⊢
        clear hu
        go_wp2_with fail
        go_quiet (fail)
        have HK3 : Hid (Rk (u.drewN nq) b s { p with at' := j } (.slice ao p.cmds.length cap0) lv) := HK2.out.mw ((Mw.refl b u).drewN nq) (HK2.out.cu.drewN nq)
        have HFQ3 : Hid (Fq b (.slice ao p.cmds.length cap0) (.slice ao p.cmds.length cap0) lv lv w (u.drewN nq)) := HFQ.out.trans (Fq.mw ((Mw.refl b u).drewN nq))
        have HLB3 : Hid ((u.drewN nq).ownsRow (b + 1) 191 4 lv p.labs.length (labL p.labs)) := HLB.out
        clear HK2 HFQ HLB q0 q1 qf q5 qf5 q2 q3 q4 qf2 qf3 qf4
        generalize u.drewN nq = v at HK3 HFQ3 HLB3 ⊢
        obtain ⟨⟨⟨q0, q1, qf, _, _⟩, q5, qf5⟩, q2, q3, q4, qf2, qf3, qf4, own, lab, apart⟩ := HK3.out
        clear own lab apart
        have hbv : b < v.heap.size := HK3.out.lt
        have HLL : Hid (∀ k, lv.ownBlock = some k → b + 1 ≤ k ∧ k < v.heap.size) := fun k hk => HLB3.out.lt k hk
        go_wp2_with fail
        go_region_law
          ((refine step_append_lies _ (by rfl) _ _ _ (by rfl) (b + 1) 191 i0 _ 4 40 Tryz.underlying160 hi0 hz0 hz1 hz2 rfl (by omega) lv p.labs.length (labL p.labs) (by rfl) ((HLB3.out.alloc _).drew)
                ⟨v.heap.size, 0, none⟩ 1 1 [.string (s.extract i j), .int .i64 (i : Int), .int .i64 (p.cmds.length : Int), .bool want] (by rfl) (by rfl) (World.news_of_block (cs := #[.string (s.extract i j), .int .i64 (i : Int), .int .i64 (p.cmds.length : Int), .bool want]) (t := 191) (fr := (0, 0)) (heap_alloc_new v _)) (by simp [Value.oneCell'])
                (by omega) (by unfold maxLen; omega) (by omega) (by simp; omega) (v.heap.size + 1) (by simp) ?_; intro gg cap w1 hown1 hgrow hat hlt; have hx := (hgrow.block b (by simp; omega) (fun e => by have := (HLL.out _ e.symm).1; omega)).trans (Below.heap_alloc v _ b hbv); have kc := World.cell?_of_block (w := v) (w' := w1) (a := ⟨b, 4, none⟩) hx; have kf := World.frozen?_of_block (w := v) (w' := w1) (a := ⟨b, 4, none⟩) hx; rw [q4] at kc; rw [qf4] at kf; have HLX : Hid _ := HK3.out.labelled (x := ⟨s.extract i j, i, p.cmds.length, want⟩) hgrow hown1 hat; clear hx hown1 hgrow hat hlt))
        all_goals go_wp2
        all_goals go_ret
        all_goals exact ⟨rfl, _, by rw [HPL.out]; exact HLX.out.1, HFQ3.out.trans HLX.out.2⟩
end Rs
end Go.Proofs.YtppjlpihaocdiaaGreatDoor
