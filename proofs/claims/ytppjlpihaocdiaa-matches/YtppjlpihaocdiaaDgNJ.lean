/- Several texts in one. -/
import Derived.Test.YtppjlpihaocdiaaDtOkJ
import Derived.Test.YtppjlpihaocdiaaRefLayJ
import Derived.Test.YtppjlpihaocdiaaDgFJ
import Derived.Test.YtppjlpihaocdiaaRefPJ
import Derived.Test.YtppjlpihaocdiaaMatchJ
import Derived.Lib.Small
/- The document's tree of a pattern. -/
set_option linter.unusedSimpArgs false
set_option linter.unusedVariables false
namespace Go.Proofs.Ytppjlpihaocdiaa
namespace Dt
open Go.RowKit

theorem own_range {w : World} {N g n cap : Nat} {xs : List Value} (h : w.ownsRow N 140 261 (.slice (some ⟨g, 0, none⟩) n cap) n xs) : ∀ (k : Nat) (v : Value), xs[k]? = some v → w.cell? ⟨g, k, none⟩ = some v := by
  intro k y hy
  rcases h.2 with ⟨e, _⟩ | ⟨g', cap', cur, hv, _, hh, _, _, _, ht⟩
  · cases e
  · cases hv
    rw [cell_of_row w g k cur 140 (0, 0) hh]
    have : cur.toList[k]? = some y := by
      have h0 : (cur.toList.take (n * 261))[k]? = some y := by rw [ht, hy]
      rw [List.getElem?_take] at h0
      split at h0
      · exact h0
      · cases h0
    simpa using this

/-- What has been read, with its root noted, is a tree. -/
theorem Dr.tree {w : World} {b : Nat} {s : ByteArray} {p : PSt} {nv : Value} {X : Nat → Prop} (h : Dr w b s p nv X) (root : Nat) (hroot : root < p.l.length) (hm : p.l.length ≤ 1000) :
    ∃ nb, TreeAt (w.setCell ⟨b, 2, none⟩ (.int .i64 root)) w.heap.size b nb p.l p.g root := by
  obtain ⟨c0, c1, c2, c3, c4, f0, f1, f2, f4, le, s40, xs, hown, hce⟩ := h
  have hb : b < w.heap.size := World.block_lt_of_cell? w _ c0
  obtain ⟨nb, cap, hnv, hg, hlt⟩ := hown.form (by omega)
  subst hnv
  have hx : ∀ k, k ≠ b → (w.setCell ⟨b, 2, none⟩ (.int .i64 root)).heap[k]? = w.heap[k]? := fun k hk => Below.heap_setCell _ _ _ _ hk
  refine ⟨nb, ⟨⟨cap, by go_simp⟩, by go_simp, by go_simp, hb, hlt, fun n d hd => ?_, hroot, hm⟩⟩
  obtain ⟨ao, c, hk, ho⟩ := hce n d hd
  refine ⟨ao, c, fun j v hv => ?_, fun q x hxx => ?_⟩
  · rw [World.cell?_of_block (w := w) (w' := w.setCell ⟨b, 2, none⟩ (.int .i64 root)) (a := ⟨nb, n * 261 + j, none⟩) (hx nb (by omega))]
    exact own_range hown _ _ (ho j v hv)
  · rcases hk with hk | ⟨kb, e1, e2, e3, e4, e5⟩
    · rw [hk] at hxx; cases hxx
    · have hcx := e5 q x hxx
      refine ⟨kb, e1, World.block_lt_of_cell? w _ hcx, ?_⟩
      rw [World.cell?_of_block (w := w) (w' := w.setCell ⟨b, 2, none⟩ (.int .i64 root)) (a := ⟨kb, q, none⟩) (hx kb e2)]
      exact hcx

set_option maxRecDepth 100000 in
set_option maxHeartbeats 1000000 in
theorem grow_any (s : ByteArray) (hs : s.size ≤ 40) (hW : Wholly s) (w : World) :
    Calls Try.prog 33 #[.string s] w fun e w' => ∃ tb nb, e = .returned (.pointer (some ⟨tb, 0, none⟩)) ∧ TreeAt w' w'.heap.size tb nb (docOf s).1.l (docOf s).1.g (docOf s).2 ∧ Below w.heap.size w w' := by
  have HW : Hid (Wholly s) := hW
  obtain ⟨R, _⟩ := choices_read hW 41 ⟨0, 0, []⟩ ⟨0, 0, []⟩ ⟨0, 0, 0, 0⟩ rfl rfl ⟨fun n d hd => by simp at hd, fun n d hd => by simp at hd⟩ ⟨fun n d hd => by simp at hd, fun n d hd => by simp at hd⟩ rfl rfl (Nat.zero_le _) (by show s.size - 0 < 41; omega)
  have HRT : Hid ((docOf s).2 < (docOf s).1.l.length) := R.lt'
  have HLN : Hid ((docOf s).1.l.length ≤ 1000) := by
    have h1 := cnt_choiceN s 41 ⟨0, 0, []⟩
    have h2 := R.le
    rw [R.at'] at h2
    have h1' : (docOf s).1.l.length + 0 ≤ 0 + 2 * (dChoiceN s 41 ⟨0, 0, []⟩).1.at' + 2 := h1
    rw [Hid]
    omega
  clear hW R
  have hN : Below w.heap.size w (w.alloc (.cells #[.slice none 0 0, .int .i64 0, .int .i64 0, .string s, .int .i64 0] 107)) := (Below.refl _ _).alloc (Nat.le_refl _) _
  have hc : ∀ k, (w.alloc (.cells #[.slice none 0 0, .int .i64 0, .int .i64 0, .string s, .int .i64 0] 107)).cell? ⟨w.heap.size, k, none⟩ = (#[.slice none 0 0, .int .i64 0, .int .i64 0, .string s, .int .i64 0] : Array Value)[k]? := fun k => cell_of_row _ w.heap.size k _ 107 (0, 0) (heap_alloc_last w _)
  have hf : ∀ k, (w.alloc (.cells #[.slice none 0 0, .int .i64 0, .int .i64 0, .string s, .int .i64 0] 107)).frozen? ⟨w.heap.size, k, none⟩ = false := fun k => by
    rw [frozen?_alloc_cells w _ 107 ⟨w.heap.size, k, none⟩]; simp [World.frozen?]
  have HD : Hid (Dr (w.alloc (.cells #[.slice none 0 0, .int .i64 0, .int .i64 0, .string s, .int .i64 0] 107)) w.heap.size s ⟨0, 0, []⟩ (.slice none 0 0) (fun _ => False)) :=
    ⟨hc 0, hc 1, hc 2, hc 3, hc 4, hf 0, hf 1, hf 2, hf 4, Nat.zero_le _, hs, [], World.ownsRow_nil _ _ _ _, fun k d hd => by simp at hd⟩
  have HB : Hid (Below w.heap.size w (w.alloc (.cells #[.slice none 0 0, .int .i64 0, .int .i64 0, .string s, .int .i64 0] 107))) := hN
  clear hc hf hN
  go_enter Try.func33, Try.ntmps33
  go_wp2_with fail
  refine (patterns_all 41 w.heap.size ⟨0, 0, []⟩ (fun _ => False) s _ ⟨0, 0, 0, 0⟩ _ HD.out HW.out ⟨fun n d hd => by simp at hd, fun n d hd => by simp at hd⟩ (by simp) (by simp) (fun q hq => hq.elim) rfl rfl (by show s.size - 0 < 41; omega)).mono ?_
  rintro e w5 ⟨nv5, rfl, hd5, hf5⟩
  have HD5 : Hid (Dr w5 w.heap.size s (docOf s).1 nv5 (fun _ => False)) := hd5
  have HF5 : Hid (Tr.Fr w.heap.size (.slice none 0 0) nv5 (w.alloc (.cells #[.slice none 0 0, .int .i64 0, .int .i64 0, .string s, .int .i64 0] 107)) w5) := hf5
  have c2 := hd5.c2
  have f2 := hd5.f2
  clear hd5 hf5
  rw [show dChoiceN s 41 ⟨0, 0, []⟩ = docOf s from rfl]
  go_wp2_with fail
  go_ret
  obtain ⟨nb, hT⟩ := HD5.out.tree (docOf s).2 HRT.out HLN.out
  refine ⟨w.heap.size, nb, rfl, ?_, ?_⟩
  · have e : (w5.setCell ⟨w.heap.size, 2, none⟩ (.int .i64 ((docOf s).2 : Int))).heap.size = w5.heap.size := by simp [World.setCell]
    rw [e]
    exact hT
  · have hB5 : Below w.heap.size (w.alloc (.cells #[.slice none 0 0, .int .i64 0, .int .i64 0, .string s, .int .i64 0] 107)) w5 := ⟨HF5.out.os, HF5.out.tape, HF5.out.output, HF5.out.size, fun k hk => HF5.out.block k (by simp; omega) (by omega) (by simp [Value.ownBlock])⟩
    exact (HB.out.trans hB5).setCell (Nat.le_refl _) _
end Dt
end Go.Proofs.Ytppjlpihaocdiaa

/- The document's Match; the two Matches agree. -/
set_option linter.unusedSimpArgs false
set_option linter.unusedVariables false
namespace Go.Proofs.Ytppjlpihaocdiaa
namespace Dg
open Go.RowKit

/-- 'gives' does what it should at every node of every field. -/
def AllGive : Prop := ∀ (p : Fp), Gd p.nodes → (∀ (n : Nat) (d : Nd), p.nodes[n]? = some d → NdOk d ∧ (d.kind = 3 → d.num < p.groups ∧ ∃ z, d.subs = [z]) ∧ d.lo ≤ 900) → p.groups ≤ 1000 → ∀ n, n < p.nodes.length → GivesAt p n

/-- What the document's 'Match' answers. -/
def DocIs (pt s : ByteArray) (w' : World) (v : Value) (ec : Int) : Prop :=
  ((40 < pt.size ∨ 80 < s.size) ∧ v = .slice none 0 0 ∧ ec = 1) ∨
  (pt.size ≤ 40 ∧ s.size ≤ 80 ∧ (∃ j, Fails pt j) ∧ v = .slice none 0 0 ∧ ec = 2) ∨
  (pt.size ≤ 40 ∧ s.size ≤ 80 ∧ Wholly pt ∧ ec = 0 ∧
    ((v = .slice none 0 0 ∧ ∀ i j, i ≤ s.size → ¬ Mat s (docOf pt).1.l (docOf pt).2 i j) ∨
     ∃ ob i j cap c', v = .slice (some ⟨ob, 0, none⟩) ((docOf pt).1.g + 1) cap ∧ Best s.size (Mat s (docOf pt).1.l (docOf pt).2) 0 i j ∧ OutAt w' ob (((i : Int), (j : Int)) :: c') ∧ c'.length = (docOf pt).1.g ∧ Gq s (docOf pt).1.l (docOf pt).2 i j (noCaps (docOf pt).1.g) c'))

set_option maxHeartbeats 1000000 in
theorem dmatch_any (hAG : AllGive) (pt s : ByteArray) (w : World) (hp : pt.size ≤ maxLen) (hs : s.size ≤ maxLen) :
    Calls Try.prog 20 #[.string pt, .string s] w fun e w' => ∃ (v : Value) (ec : Int), e = .returned (.tuple #[v, .int .i64 ec]) ∧ DocIs pt s w' v ec ∧ Below w.heap.size w w' := by
  have HP : Hid (pt.size ≤ maxLen) := hp
  have HAG : Hid AllGive := hAG
  unfold maxLen at hp hs
  clear hAG
  by_cases h40 : 40 < pt.size
  · go_enter Try.func20, Try.ntmps20
    go_wp2_with fail
    go_ret2
    exact ⟨_, 1, rfl, .inl ⟨.inl h40, rfl, rfl⟩, Below.refl _ _⟩
  · by_cases h80 : 80 < s.size
    · go_enter Try.func20, Try.ntmps20
      go_wp2_with fail
      go_ret2
      exact ⟨_, 1, rfl, .inl ⟨.inr h80, rfl, rfl⟩, Below.refl _ _⟩
    · have hle : pt.size ≤ 40 := by omega
      have hle2 : s.size ≤ 80 := by omega
      go_enter Try.func20, Try.ntmps20
      go_wp2_with fail
      refine (refPattern_any pt _ HP.out).mono ?_
      rintro e w1 ⟨ec, pl, rfl, hA, hB⟩
      have HB : Hid (Below w.heap.size w w1) := hB
      have hsz := hB.size
      rcases hA with ⟨a1, _⟩ | ⟨_, rfl, j, rfl, hF⟩ | ⟨_, rfl, rfl, hW⟩
      · omega
      · have HF : Hid (Fails pt j) := hF
        clear hF hB
        go_wp2_with fail
        go_ret2
        exact ⟨_, 2, rfl, .inr (.inl ⟨hle, hle2, ⟨j, HF.out⟩, rfl, rfl⟩), HB.out⟩
      · have HW : Hid (Wholly pt) := hW
        have HT : Hid ((treeOf pt).1.g = (docOf pt).1.g ∧ Gd (docOf pt).1.l) := ⟨(trees_alike hW hle).1, (trees_alike hW hle).2.2.1⟩
        have HOk : Hid (Dt.Ok (docOf pt).1) := Dt.doc_ok hW hle
        have HGc : Hid ((docOf pt).1.g ≤ 1000) := by
          have h1 := Dt.gcnt_choiceN pt 41 ⟨0, 0, []⟩
          obtain ⟨R, _⟩ := choices_read hW 41 ⟨0, 0, []⟩ ⟨0, 0, []⟩ ⟨0, 0, 0, 0⟩ rfl rfl ⟨fun n d hd => by simp at hd, fun n d hd => by simp at hd⟩ ⟨fun n d hd => by simp at hd, fun n d hd => by simp at hd⟩ rfl rfl (Nat.zero_le _) (by show pt.size - 0 < 41; omega)
          have h2 := R.le
          rw [R.at'] at h2
          have h1' : (docOf pt).1.g + 0 ≤ 0 + (dChoiceN pt 41 ⟨0, 0, []⟩).1.at' := h1
          rw [Hid]
          omega
        have HMI : Hid (∀ (w' : World) (v : Value), (v = .slice none 0 0 ∧ (∀ i j, i ≤ s.size → ¬ Mat s (docOf pt).1.l (docOf pt).2 i j) ∨
     ∃ ob i j cap c', v = .slice (some ⟨ob, 0, none⟩) ((docOf pt).1.g + 1) cap ∧ Best s.size (Mat s (docOf pt).1.l (docOf pt).2) 0 i j ∧ OutAt w' ob (((i : Int), (j : Int)) :: c') ∧ c'.length = (docOf pt).1.g ∧ Gq s (docOf pt).1.l (docOf pt).2 i j (noCaps (docOf pt).1.g) c') → DocIs pt s w' v 0) := fun w' v h => .inr (.inr ⟨hle, hle2, HW.out, rfl, h⟩)
        clear hW hB
        go_wp2_with fail
        refine (Dt.grow_any pt hle HW.out _).mono ?_
        rintro e w2 ⟨tb, nb, rfl, hT2, hB2⟩
        have HT2 : Hid (TreeAt w2 w2.heap.size tb nb (docOf pt).1.l (docOf pt).1.g (docOf pt).2) := hT2
        have HB2 : Hid (Below w.heap.size w w2) := HB.out.trans (hB2.mono hsz)
        have hsz2 := HB2.out.size
        clear hT2 hB2
        go_wp2_with fail
        refine (lay_any s tb nb (docOf pt).1.g (docOf pt).2 (docOf pt).1.l _ HT2.out hle2 HT.out.2.wf).mono ?_
        rintro e w3 ⟨fb, kb, eb, rfl, hF3, g4, f4, hB3⟩
        have HF3 : Hid (FieldAt w3 ⟨w2.heap.size, tb, nb, fb, kb, eb, (docOf pt).1.g, (docOf pt).2, (docOf pt).1.l, s⟩) := hF3
        have HB3 : Hid (Below w.heap.size w w3) := HB2.out.trans (hB3.mono hsz2)
        have G4 : Hid (w3.cell? ⟨fb, 4, none⟩ = some (.slice none 0 0)) := g4
        have F4 : Hid (w3.frozen? ⟨fb, 4, none⟩ = false) := f4
        have HRT : Hid ((docOf pt).2 < (docOf pt).1.l.length) := HT2.out.lroot
        clear hF3 g4 f4 hB3
        have HFR : Hid (FromAt ⟨w2.heap.size, tb, nb, fb, kb, eb, (docOf pt).1.g, (docOf pt).2, (docOf pt).1.l, s⟩ (docOf pt).2) := from_all _ HT.out.2.wf (fun n d hd => (HOk.out n d hd).1) _ (docOf pt).2 HRT.out HRT.out
        have HGV : Hid (GivesAt ⟨w2.heap.size, tb, nb, fb, kb, eb, (docOf pt).1.g, (docOf pt).2, (docOf pt).1.l, s⟩ (docOf pt).2) := HAG.out ⟨w2.heap.size, tb, nb, fb, kb, eb, (docOf pt).1.g, (docOf pt).2, (docOf pt).1.l, s⟩ HT.out.2 (fun n d hd => HOk.out n d hd) HGc.out (docOf pt).2 HRT.out
        go_wp2_with fail
        refine (dfirst_any ⟨w2.heap.size, tb, nb, fb, kb, eb, (docOf pt).1.g, (docOf pt).2, (docOf pt).1.l, s⟩ _ HF3.out G4.out F4.out HFR.out HGV.out HGc.out).mono ?_
        rintro e w4 ⟨hB4, hR⟩
        have HB4 : Hid (Below w.heap.size w w4) := HB3.out.trans (hB4.mono hsz2)
        clear hB4
        rcases hR with ⟨rfl, hno⟩ | ⟨ob, i, j, cap, c', rfl, hob, h1, h2, h3, h4⟩
        · have HNO : Hid (DocIs pt s w4 (.slice none 0 0) 0) := HMI.out w4 _ (.inl ⟨rfl, hno⟩)
          clear hno
          go_wp2_with fail
          go_ret2
          exact ⟨_, 0, rfl, HNO.out, HB4.out⟩
        · have HNO : Hid (DocIs pt s w4 (.slice (some ⟨ob, 0, none⟩) ((docOf pt).1.g + 1) cap) 0) := HMI.out w4 _ (.inr ⟨ob, i, j, cap, c', rfl, h1, h2, h3, h4⟩)
          clear h1 h2 h3 h4
          simp only
          go_wp2_with fail
          go_ret2
          exact ⟨_, 0, rfl, HNO.out, HB4.out⟩
end Dg
end Go.Proofs.Ytppjlpihaocdiaa

/- The law Matches: the program's Match and the document's answer alike. -/
set_option linter.unusedSimpArgs false
set_option linter.unusedVariables false
namespace Go.Proofs.Ytppjlpihaocdiaa
namespace Dg
open Go.RowKit

theorem repP_one {m : Nat → Nat → Nat → Prop} {g : Nat → Nat → Nat → Caps → Caps → Prop} (hg : ∀ x i j c c1 c2, g x i j c c1 → g x i j c c2 → c1 = c2) {x lo : Nat} {hi : Int} : ∀ {f a i j : Nat} {c c1 c2 : Caps}, repP m g x lo hi f a i j c c1 → repP m g x lo hi f a i j c c2 → c1 = c2
  | 0, _, _, _, _, _, _, h, h' => by rw [h, h']
  | f + 1, a, i, j, c, c1, c2, h, h' => by
    rcases h with ⟨n1, h⟩ | ⟨n1, t, d, a1, a2, a3⟩
    · rcases h' with ⟨_, h'⟩ | ⟨n2, _⟩
      · rcases h with ⟨b1, b2⟩ | ⟨b1, b2⟩
        · rcases h' with ⟨_, b2'⟩ | ⟨b1', _⟩
          · exact hg _ _ _ _ _ _ b2 b2'
          · exact absurd b1 b1'
        · rcases h' with ⟨b1', _⟩ | ⟨_, b2'⟩
          · exact absurd b1' b1
          · rw [b2, b2']
      · exact absurd n2 n1
    · rcases h' with ⟨n2, _⟩ | ⟨_, t', d', b1, b2, b3⟩
      · exact absurd n1 n2
      · have e := a1.one b1
        subst e
        have e := hg _ _ _ _ _ _ a2 b2
        subst e
        exact repP_one hg a3 b3

theorem pgOf_one (s : ByteArray) (nodes : List Nd) : ∀ {f n i j : Nat} {c c1 c2 : Caps}, pgOf s nodes f n i j c c1 → pgOf s nodes f n i j c c2 → c1 = c2
  | 0, _, _, _, _, _, _, h, _ => h.elim
  | f + 1, n, i, j, c, c1, c2, h, h' => by
    obtain ⟨d, e, h⟩ := h
    obtain ⟨d', e', h'⟩ := h'
    rw [e] at e'
    cases e'
    have ih : ∀ x i j c c1 c2, pgOf s nodes f x i j c c1 → pgOf s nodes f x i j c c2 → c1 = c2 := fun _ _ _ _ _ _ a b => pgOf_one s nodes a b
    split at h
    · rename_i k; rw [if_pos k] at h'; exact ih _ _ _ _ _ _ h h'
    · rename_i k; rw [if_neg k] at h'
      split at h
      · rename_i k; rw [if_pos k] at h'; exact altG.one ih h h'
      · rename_i k; rw [if_neg k] at h'
        split at h
        · rename_i k; rw [if_pos k] at h'; exact rowG.one ih h h'
        · rename_i k; rw [if_neg k] at h'
          split at h
          · rename_i k; rw [if_pos k] at h'; exact repP_one ih h h'
          · rename_i k; rw [if_neg k] at h'; rw [h, h']

theorem Best_one {L : Nat} {R : Nat → Nat → Prop} {pl i j i' j' : Nat} (h : Best L R pl i j) (h' : Best L R pl i' j') : i = i' ∧ j = j' := by
  obtain ⟨a1, a2, a3, a4, a5, a6⟩ := h
  obtain ⟨b1, b2, b3, b4, b5, b6⟩ := h'
  have hi : i = i' := by
    rcases Nat.lt_trichotomy i i' with e | e | e
    · exact absurd a4 (b5 i j a1 e)
    · exact e
    · exact absurd b4 (a5 i' j' b1 e)
  subst hi
  refine ⟨rfl, ?_⟩
  rcases Nat.lt_trichotomy j j' with e | e | e
  · exact absurd b4 (a6 j' e)
  · exact e
  · exact absurd a4 (b6 j e)

/-- Two answers that are alike: the same error, both nil, or two lists of the same spans. -/
def Both (w1 w2 : World) (v v' : Value) (ec ec' : Int) : Prop := ec = ec' ∧ ((v = .slice none 0 0 ∧ v' = .slice none 0 0) ∨ ∃ ob ob' n cap cap' l, v = .slice (some ⟨ob, 0, none⟩) n cap ∧ v' = .slice (some ⟨ob', 0, none⟩) n cap' ∧ l.length = n ∧ 0 < n ∧ n ≤ 1000 ∧ OutAt w1 ob l ∧ OutAt w2 ob' l)

theorem both_alike {pt s : ByteArray} {w1 w2 : World} {v v' : Value} {ec ec' : Int} (h : MatchIs pt s w1 v ec) (h' : DocIs pt s w2 v' ec') : Both w1 w2 v v' ec ec' := by
  rcases h with ⟨a1, rfl, rfl⟩ | ⟨a1, a2, ⟨j, a3⟩, rfl, rfl⟩ | ⟨a1, a2, hW, rfl, hg9, hrt, hP, h⟩
  · rcases h' with ⟨b1, rfl, rfl⟩ | ⟨b1, b2, _⟩ | ⟨b1, b2, _⟩
    · exact ⟨rfl, .inl ⟨rfl, rfl⟩⟩
    · omega
    · omega
  · rcases h' with ⟨b1, _⟩ | ⟨b1, b2, _, rfl, rfl⟩ | ⟨_, _, hW, _⟩
    · omega
    · exact ⟨rfl, .inl ⟨rfl, rfl⟩⟩
    · exact (a3.not_wholly hW).elim
  · rcases h' with ⟨b1, _⟩ | ⟨_, _, ⟨j, b3⟩, _⟩ | ⟨_, _, _, rfl, h'⟩
    · omega
    · exact (b3.not_wholly hW).elim
    · obtain ⟨hgg, hGd, hGd', hAl⟩ := trees_alike hW a1
      have hA := hAl s
      refine ⟨rfl, ?_⟩
      rcases h with ⟨rfl, hno⟩ | ⟨ob, i, j, c, rfl, hB, hO, hcl, hPG⟩
      · rcases h' with ⟨rfl, _⟩ | ⟨ob', i', j', cap', c', rfl, hB', _⟩
        · exact .inl ⟨rfl, rfl⟩
        · have hm := hB'.2.2.2.1
          rw [← hA.m] at hm
          exact absurd hm (hno i' j' (by have := hB'.2.1; have := hB'.2.2.1; omega))
      · rcases h' with ⟨rfl, hno⟩ | ⟨ob', i', j', cap', c', rfl, hB', hO', hcl', hG'⟩
        · have hm := hB.2.2.2.1
          rw [hA.m] at hm
          exact absurd hm (hno i j (by have := hB.2.1; have := hB.2.2.1; omega))
        · rw [← hA.m] at hB'
          obtain ⟨rfl, rfl⟩ := Best_one hB hB'
          have hi : i ≤ s.size := by have := hB.2.1; have := hB.2.2.1; omega
          have hpg : PGv s (docOf pt).1.l (docOf pt).2 i j (noCaps (docOf pt).1.g) c' := g_pg s _ _ _ _ _ _ _ hG'
          rw [← hgg] at hpg
          have hpg2 := (hA.g i j hi hB.2.2.2.1 _ _).2 hpg
          have hcc : c = c' := pgOf_one s _ hPG hpg2
          subst hcc
          exact .inr ⟨ob, ob', (treeOf pt).1.g + 1, _, cap', _, rfl, by rw [hgg], by simp [hcl], by omega, by omega, hO, hO'⟩

set_option maxHeartbeats 1000000 in
theorem same_spans (ob ob' n cap cap' : Nat) (l : Caps) (w : World) (hl : l.length = n) (hn : n ≤ 1000) (h1 : OutAt w ob l) (h2 : OutAt w ob' l) :
    Calls Try.prog 21 #[.slice (some ⟨ob, 0, none⟩) n cap, .slice (some ⟨ob', 0, none⟩) n cap'] w fun e w' => e = .returned (.bool true) ∧ Below w.heap.size w w' := by
  have H1 : Hid (OutAt w ob l) := h1
  have H2 : Hid (OutAt w ob' l) := h2
  clear h1 h2
  go_enter Try.func21, Try.ntmps21
  go_wp2_with fail
  go_loopw [5] (fun v wr => ∃ k m : Nat, k ≤ n ∧ v = .int .i64 k ∧ wr = w.drewN m) (fun v _ => n - (intOf v).toNat)
  case atStart => exact ⟨0, 0, Nat.zero_le _, rfl, rfl⟩
  case round =>
    obtain ⟨k, m, hk, rfl, rfl⟩ := hrel
    by_cases hlt : k < n
    · have hq : l[k]? = some l[k] := List.getElem?_eq_getElem (by omega)
      obtain ⟨a1, a2, _, _⟩ := H1.out k l[k].1 l[k].2 hq
      obtain ⟨b1, b2, _, _⟩ := H2.out k l[k].1 l[k].2 hq
      generalize l[k].1 = x at a1 b1
      generalize l[k].2 = y at a2 b2
      have k1 : (0 : Int) ≤ (k : Int) := by omega
      have k2 : (k : Int) < (n : Int) := by omega
      clear hq
      go_wp2_with fail
      go_quiet (fail)
      go_wp2_with fail
      go_roundw
      case rel => exact ⟨k + 1, _, by omega, by go_num, rfl⟩
      case measure => simp [intOf]; omega
    · go_wp2_with fail
      go_ret
      exact ⟨rfl, ⟨rfl, rfl, rfl, Nat.le_refl _, fun _ _ => rfl⟩⟩

set_option maxHeartbeats 1000000 in
theorem same_nil (w : World) : Calls Try.prog 21 #[.slice none 0 0, .slice none 0 0] w fun e w' => e = .returned (.bool true) ∧ Below w.heap.size w w' := by
  go_enter Try.func21, Try.ntmps21
  go_wp2_with fail
  go_loopw [5] (fun v wr => v = .int .i64 0 ∧ wr = w) (fun _ _ => 0)
  case atStart => exact ⟨rfl, rfl⟩
  case round =>
    obtain ⟨rfl, rfl⟩ := hrel
    go_wp2_with fail
    go_ret
    exact ⟨rfl, Below.refl _ _⟩

theorem MatchIs_ec {pt s : ByteArray} {w : World} {v : Value} {ec : Int} (h : MatchIs pt s w v ec) : ec = 0 ∨ ec = 1 ∨ ec = 2 := by
  rcases h with ⟨_, _, rfl⟩ | ⟨_, _, _, _, rfl⟩ | ⟨_, _, _, rfl, _⟩
  · exact .inr (.inl rfl)
  · exact .inr (.inr rfl)
  · exact .inl rfl

set_option maxRecDepth 100000 in
set_option maxHeartbeats 1000000 in
theorem lmatch_any (hAG : AllGive) (pt s : ByteArray) (w : World) (hp : pt.size ≤ maxLen) (hs : s.size ≤ maxLen) :
    Calls Try.prog 10 #[.string pt, .string s] w fun e w' => (∃ v, e = .returned (.tuple #[v, .bool true])) ∧ Below w.heap.size w w' := by
  have HP : Hid (pt.size ≤ maxLen) := hp
  have HS : Hid (s.size ≤ maxLen) := hs
  have HAG : Hid AllGive := hAG
  clear hAG hp hs
  go_enter Try.func10, Try.ntmps10
  go_wp2_with fail
  refine (match_any pt s w HP.out HS.out).mono ?_
  rintro e w1 ⟨v1, ec1, rfl, hM1, hB1, hN1⟩
  have HM1 : Hid (MatchIs pt s w1 v1 ec1) := hM1
  have HB1 : Hid (Below w.heap.size w w1) := hB1
  have hec := MatchIs_ec hM1
  clear hM1 hB1 hN1
  go_wp2_with fail
  refine (dmatch_any HAG.out pt s w1 HP.out HS.out).mono ?_
  rintro e w2 ⟨v2, ec2, rfl, hM2, hB2⟩
  have HB2 : Hid (Below w.heap.size w w2) := HB1.out.trans (hB2.mono HB1.out.size)
  obtain ⟨hee, hv⟩ := both_alike HM1.out hM2
  subst hee
  have HBW : Hid (Below w1.heap.size w1 w2) := hB2
  clear hM2 hB2 HM1
  have n26 : ∀ (W : World), (binOp .eql 26 (.slice none 0 0) (.slice none 0 0)).run Try.prog W = .ok (.bool true) W := fun W => Lib.run_eql_slice_nil W _ _ none 0 0 0 0 Try.underlying26
  have s26 : ∀ (W : World) (x : Addr) (n c : Nat), (binOp .eql 26 (.slice (some x) n c) (.slice none 0 0)).run Try.prog W = .ok (.bool false) W := fun W x n c => Lib.run_eql_slice_nil W _ _ (some x) n c 0 0 Try.underlying26
  rcases hv with ⟨rfl, rfl⟩ | ⟨ob, ob', n, cap, cap', l, rfl, rfl, hl, hn0, hn, hO1, hO2⟩
  · rcases hec with rfl | rfl | rfl
    all_goals
      go_wp2_with fail
      refine (same_nil w2).mono ?_
      rintro e w3 ⟨rfl, hB3⟩
      have HB3 : Hid (Below w.heap.size w w3) := HB2.out.trans (hB3.mono HB2.out.size)
      clear hB3
      go_wp2_with fail
      go_ret2
      exact ⟨⟨_, rfl⟩, HB3.out⟩
  · have hlt : ob < w1.heap.size := by
      obtain ⟨a1, _⟩ := hO1 0 (l[0]'(by omega)).1 (l[0]'(by omega)).2 (List.getElem?_eq_getElem (by omega))
      exact World.block_lt_of_cell? w1 _ a1
    have HO1 : Hid (OutAt w2 ob l) := hO1.of_block (HBW.out.block ob hlt)
    have HO2 : Hid (OutAt w2 ob' l) := hO2
    have HL : Hid (l.length = n) := hl
    clear hO1 hO2 hl
    rcases hec with rfl | rfl | rfl
    all_goals
      go_wp2_with fail
      refine (same_spans ob ob' n cap cap' l w2 HL.out hn HO1.out HO2.out).mono ?_
      rintro e w3 ⟨rfl, hB3⟩
      have HB3 : Hid (Below w.heap.size w w3) := HB2.out.trans (hB3.mono HB2.out.size)
      clear hB3
      go_wp2_with fail
      go_ret2
      exact ⟨⟨_, rfl⟩, HB3.out⟩

theorem matches_any (hAG : AllGive) (pt s : ByteArray) (w : World) (hp : pt.size ≤ maxLen) (hs : s.size ≤ maxLen) :
    Calls Try.prog 4 #[.string pt, .string s] w fun e w' => e = .returned (.bool true) ∧ Below w.heap.size w w' := by
  go_enter Try.func4, Try.ntmps4
  go_wp2_with fail
  refine (lmatch_any hAG pt s w hp hs).mono ?_
  rintro e w1 ⟨⟨v, rfl⟩, hB⟩
  have HB : Hid (Below w.heap.size w w1) := hB
  clear hB
  go_wp2_with fail
  go_ret
  exact ⟨rfl, HB.out⟩
end Dg
end Go.Proofs.Ytppjlpihaocdiaa

