/- The program's 'Match', whole. -/
import Derived.Test.YtppjlpihaocdiaaTrTop
import Derived.Test.YtppjlpihaocdiaaFirst
set_option linter.unusedSimpArgs false
set_option linter.unusedVariables false
namespace Go.Proofs.Ytppjlpihaocdiaa
open Go.RowKit

/-- What 'Match' answers: the list and the error. -/
def MatchIs (pt s : ByteArray) (w' : World) (v : Value) (ec : Int) : Prop :=
  ((40 < pt.size ∨ 80 < s.size) ∧ v = .slice none 0 0 ∧ ec = 1) ∨
  (pt.size ≤ 40 ∧ s.size ≤ 80 ∧ (∃ j, Fails pt j) ∧ v = .slice none 0 0 ∧ ec = 2) ∨
  (pt.size ≤ 40 ∧ s.size ≤ 80 ∧ Wholly pt ∧ ec = 0 ∧ (treeOf pt).1.g ≤ 9 ∧ (treeOf pt).2 < (treeOf pt).1.l.length ∧ (∀ (a : Nat) (d : Nd), (treeOf pt).1.l[a]? = some d → PNd a (treeOf pt).1.g d) ∧
    ((v = .slice none 0 0 ∧ ∀ i j, i ≤ s.size → ¬ Mat s (treeOf pt).1.l (treeOf pt).2 i j) ∨
     ∃ ob i j c', v = .slice (some ⟨ob, 0, none⟩) ((treeOf pt).1.g + 1) ((treeOf pt).1.g + 1) ∧ Best s.size (Mat s (treeOf pt).1.l (treeOf pt).2) 0 i j ∧ OutAt w' ob (((i : Int), (j : Int)) :: c') ∧ c'.length = (treeOf pt).1.g ∧ PGv s (treeOf pt).1.l (treeOf pt).2 i j (noCaps (treeOf pt).1.g) c'))

theorem TreeIs.below {w w' : World} {nb groups : Nat} {nodes : List Nd} (h : TreeIs w nb nodes groups) (hb : Below w.heap.size w w') : TreeIs w' nb nodes groups := by
  refine ⟨fun a d hd => ?_, h.wf, h.many, h.some'⟩
  obtain ⟨ao, c, y0, y1, y2, y3, h1, h2, h4, h3⟩ := h.node a d hd
  refine ⟨ao, c, y0, y1, y2, y3, h1, ?_, h4, fun o v hv => ?_⟩
  · rcases h2 with h2 | ⟨kb, e1, e2, e3⟩
    · exact .inl h2
    · by_cases hs : d.subs = []
      · exact .inl hs
      · obtain ⟨y, hy⟩ : ∃ y, d.subs[0]? = some y := by
          cases hd : d.subs with
          | nil => exact absurd hd hs
          | cons a l => exact ⟨a, rfl⟩
        have hlt : kb < w.heap.size := World.block_lt_of_cell? w _ (e3 0 y hy)
        have := hb.size
        exact .inr ⟨kb, e1, by omega, fun k y hy => (World.cell?_of_block (w := w) (w' := w') (a := ⟨kb, k, none⟩) (hb.block kb hlt)).trans (e3 k y hy)⟩
  · have := h3 o v hv
    exact (World.cell?_of_block (w := w) (w' := w') (a := ⟨nb, a * 9 + o, none⟩) (hb.block nb (World.block_lt_of_cell? w _ this))).trans this

set_option maxHeartbeats 1000000 in
theorem match_any (pt s : ByteArray) (w : World) (hp : pt.size ≤ maxLen) (hs : s.size ≤ maxLen) :
    Calls Try.prog 14 #[.string pt, .string s] w fun e w' => ∃ (v : Value) (ec : Int), e = .returned (.tuple #[v, .int .i64 ec]) ∧ MatchIs pt s w' v ec ∧ Below w.heap.size w w' ∧ (∀ k, v.ownBlock = some k → w.heap.size ≤ k) := by
  unfold maxLen at hp hs
  by_cases h40 : 40 < pt.size
  · go_enter Try.func14, Try.ntmps14
    go_wp2_with fail
    go_ret2
    exact ⟨_, 1, rfl, .inl ⟨.inl h40, rfl, rfl⟩, Below.refl _ _, fun k hk => by cases hk⟩
  · by_cases h80 : 80 < s.size
    · go_enter Try.func14, Try.ntmps14
      go_wp2_with fail
      go_ret2
      exact ⟨_, 1, rfl, .inl ⟨.inr h80, rfl, rfl⟩, Below.refl _ _, fun k hk => by cases hk⟩
    · have hle : pt.size ≤ 40 := by omega
      have hle2 : s.size ≤ 80 := by omega
      go_enter Try.func14, Try.ntmps14
      go_wp2_with fail
      refine (Tr.parse_any pt _ hle).mono ?_
      rintro e w1 ⟨ao, l, c, r, g, p, ok, rfl, hP, hB⟩
      have HB : Hid (Below w.heap.size w w1) := hB
      have hsz := hB.size
      rcases hP with ⟨rfl, hW, nb, rfl, rfl, rfl, rfl, hrt, hg9, hT⟩ | ⟨rfl, j, rfl, hF⟩
      · have HW : Hid (Wholly pt) := hW
        have HT : Hid (TreeIs w1 nb (treeOf pt).1.l (treeOf pt).1.g) := hT
        clear hW hB hT
        have HMI : Hid (∀ (w' : World) (v : Value), (v = .slice none 0 0 ∧ (∀ i j, i ≤ s.size → ¬ Mat s (treeOf pt).1.l (treeOf pt).2 i j) ∨
     ∃ ob i j c', v = .slice (some ⟨ob, 0, none⟩) ((treeOf pt).1.g + 1) ((treeOf pt).1.g + 1) ∧ Best s.size (Mat s (treeOf pt).1.l (treeOf pt).2) 0 i j ∧ OutAt w' ob (((i : Int), (j : Int)) :: c') ∧ c'.length = (treeOf pt).1.g ∧ PGv s (treeOf pt).1.l (treeOf pt).2 i j (noCaps (treeOf pt).1.g) c') → MatchIs pt s w' v 0) := fun w' v h => .inr (.inr ⟨hle, hle2, HW.out, rfl, hg9, hrt, HT.out.wf, h⟩)
        generalize treeOf pt = tt at hrt hg9 HT HMI
        obtain ⟨⟨ta, tg, tl⟩, tr⟩ := tt
        simp only at hrt hg9 HT HMI
        simp only
        go_wp2_with fail
        have hB2 : Below w1.heap.size w1 (w1.alloc (.cells #[.slice (some ⟨nb, 0, none⟩) tl.length c, .int .i64 (tr : Int), .int .i64 (tg : Int)] 43)) := (Below.refl _ _).alloc (Nat.le_refl _) _
        generalize (w1.alloc (.cells #[.slice (some ⟨nb, 0, none⟩) tl.length c, .int .i64 (tr : Int), .int .i64 (tg : Int)] 43)) = w2 at hB2
        have HB2 : Hid (Below w.heap.size w w2) := HB.out.trans (hB2.mono hsz)
        have HT2 : Hid (TreeIs w2 nb tl tg) := HT.out.below hB2
        clear hB2
        refine (look_any s nb c tr tg tl _ HT2.out hle2).mono ?_
        rintro e w3 ⟨tb, rfl, vb, T, m, hTb, hRI, hB3⟩
        have HTb : Hid (TbAt w3 ⟨tl, s, tr, tg, tb, nb, vb, c⟩ tl.length T m) := hTb
        have HRI : Hid (∀ a d, tl[a]? = some d → RowIs s (Mat s tl) d (m a) (T a)) := hRI
        have HB3 : Hid (Below w.heap.size w w3) := HB2.out.trans (hB3.mono HB2.out.size)
        clear hTb hRI hB3
        go_wp2_with fail
        refine (first_any ⟨tl, s, tr, tg, tb, nb, vb, c⟩ T m _ HTb.out HRI.out HT2.out.wf hg9 hrt 0 (Nat.zero_le _)).mono ?_
        rintro e w4 ⟨hB4, hR⟩
        have HB4 : Hid (Below w.heap.size w w4) := HB3.out.trans (hB4.mono HB3.out.size)
        have hsz3 := HB3.out.size
        clear hB4
        rcases hR with ⟨rfl, hno⟩ | ⟨ob, i, j, c', rfl, hob, h1, h2, h3, h4⟩
        · have HNO : Hid (MatchIs pt s w4 (.slice none 0 0) 0) := HMI.out w4 _ (.inl ⟨rfl, fun i j hi => hno i j (Nat.zero_le _) hi⟩)
          clear hno
          go_wp2_with fail
          go_ret2
          exact ⟨_, 0, rfl, HNO.out, HB4.out, fun k hk => by cases hk⟩
        · have HNO : Hid (MatchIs pt s w4 (.slice (some ⟨ob, 0, none⟩) (tg + 1) (tg + 1)) 0) := HMI.out w4 _ (.inr ⟨ob, i, j, c', rfl, h1, h2, h3, h4⟩)
          clear h1 h2 h3 h4
          go_wp2_with fail
          go_ret2
          exact ⟨_, 0, rfl, HNO.out, HB4.out, fun k hk => by
            have : ob = k := by simpa [Value.ownBlock] using hk
            omega⟩
      · have HF : Hid (Fails pt j) := hF
        clear hF hB
        go_wp2_with fail
        go_ret2
        exact ⟨_, 2, rfl, .inr (.inl ⟨hle, hle2, ⟨j, HF.out⟩, rfl, rfl⟩), HB.out.alloc hsz _, fun k hk => by cases hk⟩
end Go.Proofs.Ytppjlpihaocdiaa
