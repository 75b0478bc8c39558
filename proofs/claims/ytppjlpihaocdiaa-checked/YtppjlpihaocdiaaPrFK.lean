/- The program's reader of scripts: a template. -/
import Derived.Test.YtppjlpihaocdiaaTrSetsK
import Derived.Deep.AppendLies
import Derived.OwnWalk
set_option linter.unusedSimpArgs false
set_option linter.unusedVariables false
namespace Go.Proofs.Ytppjlpihaocdiaa
namespace Rs
open Go.RowKit

theorem own_of {w w' : World} {base : Nat} {e : TypeId} {size n : Nat} {v : Value} {xs : List Value} (h : w.ownsRow base e size v n xs) (hb : ∀ k, v.ownBlock = some k → w'.heap[k]? = w.heap[k]?) : w'.ownsRow base e size v n xs := by
  obtain ⟨h1, h2⟩ := h
  refine ⟨h1, ?_⟩
  rcases h2 with h2 | ⟨g, cap, cur, hv, hg, hh, r⟩
  · exact .inl h2
  · exact .inr ⟨g, cap, cur, hv, hg, by rw [hb g (by rw [hv]; rfl)]; exact hh, r⟩

def pcL (ps : List Pc) : List Value := ps.flatMap fun p => [Value.int .i64 p.grp, Value.int .u8 (p.byte : Int)]
theorem pcL_snoc (ps : List Pc) (p : Pc) : pcL (ps ++ [p]) = pcL ps ++ [Value.int .i64 p.grp, Value.int .u8 (p.byte : Int)] := by simp [pcL]

/-- The pieces so far. -/
structure Ti (w wr : World) (b j : Nat) (pv : Value) (ps : List Pc) : Prop where
  mv : Mk b w wr j
  own : wr.ownsRow w.heap.size 187 2 pv ps.length (pcL ps)

theorem Ti.move {w wr w1 : World} {b j j1 : Nat} {pv : Value} {ps : List Pc} (h : Ti w wr b j pv ps) (hb : b < w.heap.size) (hm : Mk b wr w1 j1) : Ti w w1 b j1 pv ps :=
  ⟨h.mv.trans hm, own_of h.own fun k hk => hm.block k (h.own.lt k hk).2 (by have := (h.own.lt k hk).1; omega)⟩
theorem Ti.below {w wr w1 : World} {b j : Nat} {pv : Value} {ps : List Pc} (h : Ti w wr b j pv ps) (hB : Below wr.heap.size wr w1) : Ti w w1 b j pv ps :=
  ⟨h.mv.below hB, own_of h.own fun k hk => hB.block k (h.own.lt k hk).2⟩
theorem Ti.grown {w u w2 : World} {b j gg cap : Nat} {pv : Value} {ps : List Pc} {p : Pc} (h : Ti w u b j pv ps) (hb : b < w.heap.size)
    (hown : w2.ownsRow w.heap.size 187 2 (.slice (some ⟨gg, 0, none⟩) (ps.length + 1) cap) (ps.length + 1) (pcL ps ++ [Value.int .i64 p.grp, Value.int .u8 (p.byte : Int)])) (hg : u.grownBy w2 pv.ownBlock) :
    Ti w w2 b j (.slice (some ⟨gg, 0, none⟩) (ps.length + 1) cap) (ps ++ [p]) := by
  have hbl : b < u.heap.size := World.block_lt_of_cell? u _ h.mv.c1
  have hne : some b ≠ pv.ownBlock := fun e => by have := (h.own.lt b e.symm).1; omega
  have hx := hg.block b hbl hne
  have hc : ∀ k, w2.cell? ⟨b, k, none⟩ = u.cell? ⟨b, k, none⟩ := fun k => World.cell?_of_block (w := u) (w' := w2) (a := ⟨b, k, none⟩) hx
  have hf : ∀ k, w2.frozen? ⟨b, k, none⟩ = u.frozen? ⟨b, k, none⟩ := fun k => World.frozen?_of_block (w := u) (w' := w2) (a := ⟨b, k, none⟩) hx
  refine ⟨⟨hg.os.trans h.mv.os, hg.tape.trans h.mv.tape, hg.output.trans h.mv.output, Nat.le_trans h.mv.size hg.size, fun k hk hkb => ?_, (hc 1).trans h.mv.c1, fun k hk => (hc k).trans (h.mv.cell k hk), fun k => (hf k).trans (h.mv.frz k)⟩, ?_⟩
  · rw [hg.block k (Nat.lt_of_lt_of_le hk h.mv.size) (fun e => by have := (h.own.lt k e.symm).1; omega)]
    exact h.mv.block k hk hkb
  · rw [pcL_snoc, List.length_append]
    exact hown

theorem Try.info187 : (Try.prog.info? 187).map (fun i => (i.zero, i.size, i.bytes)) = some (some (.agg #[.int .i64 0, .int .u8 0]), 2, 16) := by kernel_rfl

/-- The pieces that lie in the blocks from lo to hi. -/
def TempAt (w : World) (lo hi : Nat) (ps : List Pc) (v : Value) : Prop :=
  v.oneCell' = true ∧ hi ≤ w.heap.size ∧ ∀ w' : World, (∀ k, lo ≤ k → k < hi → w'.heap[k]? = w.heap[k]?) → w'.ownsRow lo 187 2 v ps.length (pcL ps)

theorem new_last (u : World) (cs : Array Value) (t : TypeId) {H : Nat} (h : u.heap.size = H) : (u.alloc (.cells cs t)).heap[H]? = some (.cells cs t (0, 0)) := by
  subst h; exact heap_alloc_new u _

set_option maxHeartbeats 1600000 in
theorem template_any (b : Nat) (s : ByteArray) (g i : Nat) (w : World) (hr : Rc w b s i) (hg : g ≤ 9) :
    Calls Try.prog 132 #[.pointer (some ⟨b, 0, none⟩), .int .i64 (g : Int)] w fun e w' => ∃ (pa : Option Addr) (pl pc : Nat), e = .returned (.tuple #[.slice pa pl pc, .bool (tempF s g i).2.2]) ∧ Mk b w w' (tempF s g i).1 ∧ (tempF s g i).1 ≤ s.size ∧ ((tempF s g i).2.2 = true → TempAt w' w.heap.size w'.heap.size (tempF s g i).2.1 (.slice pa pl pc)) := by
  have HR : Hid (Rc w b s i) := hr
  have hb : b < w.heap.size := Rc.lt hr
  have hle := hr.le
  have hs := hr.s40
  obtain ⟨i0, hi0, hz0, hz1, hz2⟩ := info_parts Try.info187
  clear hr
  generalize hF : tempF s g i = F
  have HF0 : Hid (tempL s g (s.size + 1) i [] = F) := hF
  clear hF
  go_enter Try.func132, Try.ntmps132
  go_wp2_with fail
  go_loopw [6] (fun v wr => ∃ (j f : Nat) (ps : List Pc), Ti w wr b j v ps ∧ j ≤ s.size ∧ ps.length + i ≤ j ∧ s.size + 1 ≤ f + j ∧ Hid (F = tempL s g f j ps)) (fun _ wr => s.size - atOf wr b)
  case atStart => exact ⟨i, s.size + 1, [], ⟨Mk.stay HR.out, World.ownsRow_nil _ _ _ _⟩, hle, by simp, by omega, HF0.out.symm⟩
  case round =>
    obtain ⟨j, f, ps, hT, hj, hps, hf, HF⟩ := hrel
    have HT : Hid (Ti w wr b j u6 ps) := hT
    have HRj : Hid (Rc wr b s j) := hT.mv.rc HR.out hj
    have HAT : Hid (atOf wr b = j) := atOf_is hT.mv.c1
    clear hT
    have HF1 : Hid (F = if pk s j = 47 then (j + 1, ps, true) else if (pieceF s g j).2.2 = true then tempL s g (f - 1) (pieceF s g j).1 (ps ++ [(pieceF s g j).2.1]) else ((pieceF s g j).1, [], false)) := by
      rw [Hid, HF.out]
      conv => lhs; rw [show f = (f - 1) + 1 by omega, tempL]
    by_cases h47 : pk s j = ((47 : Nat) : Int)
    · have HI : Hid (pk s j = ((47 : Nat) : Int)) := h47
      obtain ⟨hlt, _⟩ := pk_byte (s := s) (i := j) (by rw [h47]; decide)
      have HF2 : Hid (F = (j + 1, ps, true)) := by rw [Hid, HF1.out, if_pos (by rw [h47]; rfl)]
      clear h47 HF1
      go_wp2_with fail
      refine (acceptY b s j 47 _ HRj.out (by omega) HI.out).mono ?_
      rintro e w1 ⟨rfl, hm⟩
      have HT1 : Hid (Ti w w1 b (j + 1) u6 ps) := HT.out.move hb (.mv hm)
      clear hm
      go_wp2_with fail
      go_ret2
      rw [HF2.out]
      obtain ⟨pa, pl, pc, rfl⟩ : ∃ pa pl pc, u6 = .slice pa pl pc := by
        rcases HT1.out.own.2 with ⟨e, _⟩ | ⟨_, _, _, e, _⟩ <;> exact ⟨_, _, _, e⟩
      refine ⟨pa, pl, pc, rfl, HT1.out.mv, by simp only; omega, fun _ => ⟨rfl, Nat.le_refl _, fun w' hw' => own_of HT1.out.own fun k hk => hw' k (HT1.out.own.lt k hk).1 (HT1.out.own.lt k hk).2⟩⟩
    · have HI : Hid (pk s j ≠ ((47 : Nat) : Int)) := h47
      have HF2 : Hid (F = if (pieceF s g j).2.2 = true then tempL s g (f - 1) (pieceF s g j).1 (ps ++ [(pieceF s g j).2.1]) else ((pieceF s g j).1, [], false)) := by rw [Hid, HF1.out, if_neg (fun e => h47 (by rw [e]; rfl))]
      clear h47 HF1
      have hpl := pieceF_le s g j hj
      have hpt := pieceF_lt s g j hj
      go_wp2_with fail
      refine (acceptN b s j 47 _ HRj.out (by omega) HI.out).mono ?_
      rintro e w1 ⟨rfl, hm⟩
      have HT1 : Hid (Ti w w1 b j u6 ps) := HT.out.move hb (.mv hm)
      clear hm
      go_wp2_with fail
      refine (piece_any b s g j _ (HT1.out.mv.rc HR.out hj) hg).mono ?_
      generalize pieceF s g j = r at HF2 hpl hpt ⊢
      obtain ⟨j2, ⟨p0, p1⟩, ok⟩ := r
      simp only at hpl hpt HF2 ⊢
      rintro e w2 ⟨rfl, hm⟩
      have HT2 : Hid (Ti w w2 b j2 u6 ps) := HT1.out.move hb hm
      have hsz2 := HT2.out.mv.size
      clear hm
      cases ok with
      | false =>
        have HF3 : Hid (F = (j2, [], false)) := by rw [Hid, HF2.out]; rfl
        clear HF2
        go_wp2_with fail
        go_ret2
        rw [HF3.out]
        exact ⟨_, _, _, rfl, HT2.out.mv.below (by first | exact Below.refl _ _ | exact (((Below.refl _ _).alloc (Nat.le_refl _) _).setCell (by simp) _).setCell (by simp) _ | exact ((Below.refl _ _).alloc (Nat.le_refl _) _)), hpl.1, fun h => by cases h⟩
      | true =>
        have HF3 : Hid (F = tempL s g (f - 1) j2 (ps ++ [⟨p0, p1⟩])) := by rw [Hid, HF2.out]; rfl
        have hj2 := hpt rfl
        have HOW : Hid (∀ u, Below w2.heap.size w2 u → Ti w u b j2 u6 ps) := fun u h => HT2.out.below h
        clear HF2 hpt
        go_wp2_with (at_builtin; refine wpList_append_lies _ rfl _ _ 127 rfl w.heap.size 187 i0 (.agg #[.int .i64 0, .int .u8 0]) 2 16 Try.underlying127 hi0 hz0 hz1 hz2 rfl (by omega) u6 ps.length (pcL ps) rfl (HOW.out _ (((Below.refl _ _).alloc (Nat.le_refl _) _).alloc (by simp) _)).own ⟨w2.heap.size + 1, 0, none⟩ 1 1 [Value.int .i64 p0, Value.int .u8 (p1 : Int)] rfl rfl (World.news_of_block (cs := #[Value.int .i64 p0, Value.int .u8 (p1 : Int)]) (t := 187) (fr := (0, 0)) (new_last _ _ _ (by simp))) (by simp [Value.oneCell']) (by omega) (by unfold maxLen; omega) (by omega) (by simp; omega) (w2.heap.size + 2) (by simp) ?_; intro gg cap w3 hown3 hgrow hat hlt3; have HT3 : Hid (Ti w w3 b j2 (.slice (some ⟨gg, 0, none⟩) (ps.length + 1) cap) (ps ++ [⟨p0, p1⟩])) := (HOW.out _ (((Below.refl _ _).alloc (Nat.le_refl _) _).alloc (by simp) _)).grown hb hown3 hgrow; clear hown3 hgrow hat hlt3)
        go_roundw
        case rel => exact ⟨j2, f - 1, ps ++ [(⟨p0, p1⟩ : Pc)], HT3.out, hpl.1, by simp; omega, by omega, HF3⟩
        case measure =>
          have a1 := atOf_is HT3.out.mv.c1
          have a2 := HAT.out
          rw [a1, a2]
          omega

end Rs
end Go.Proofs.Ytppjlpihaocdiaa
