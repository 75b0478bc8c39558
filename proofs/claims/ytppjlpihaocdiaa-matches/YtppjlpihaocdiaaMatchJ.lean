/- Several texts in one. -/
import Derived.Test.YtppjlpihaocdiaaReadsJ
import Derived.Test.YtppjlpihaocdiaaTrTopJ
import Derived.Test.YtppjlpihaocdiaaFirstJ
/- A pattern that holds wholly, read: a row of parts. Plain mathematics. -/
set_option linter.unusedVariables false
namespace Go.Proofs.Ytppjlpihaocdiaa

/-- The parts so far, in both trees. -/
structure Sofar (l l' : List Nd) (zs ys : List Nat) : Prop where
  lt : ∀ z ∈ zs, z < l.length
  lt' : ∀ y ∈ ys, y < l'.length
  each : ∀ t, Each t l l' zs ys

theorem Each.more {t : ByteArray} {l l' e e' : List Nd} (hl : Gd l) (hl' : Gd l') : ∀ {zs ys : List Nat}, (∀ z ∈ zs, z < l.length) → (∀ y ∈ ys, y < l'.length) → Each t l l' zs ys → Each t (l ++ e) (l' ++ e') zs ys
  | [], [], _, _, _ => trivial
  | z :: zs, y :: ys, h1, h2, h => ⟨h.1.more hl (h1 z (by simp)) hl' (h2 y (by simp)), Each.more hl hl' (fun x hx => h1 x (List.mem_cons_of_mem _ hx)) (fun x hx => h2 x (List.mem_cons_of_mem _ hx)) h.2⟩
  | [], _ :: _, _, _, h => h.elim
  | _ :: _, [], _, _, h => h.elim

theorem Each.snoc {t : ByteArray} {l l' : List Nd} {z y : Nat} (h : Alike t l z l' y) : ∀ {zs ys : List Nat}, Each t l l' zs ys → Each t l l' (zs ++ [z]) (ys ++ [y])
  | [], [], _ => ⟨h, trivial⟩
  | a :: zs, b :: ys, hh => ⟨hh.1, Each.snoc h hh.2⟩
  | [], _ :: _, hh => hh.elim
  | _ :: _, [], hh => hh.elim

theorem Sofar.snoc {s : ByteArray} {o i : Nat} {p p' : PSt} {r r' : PSt × Nat} {zs ys : List Nat} (hp : Gd p.l) (hp' : Gd p'.l) (h : Sofar p.l p'.l zs ys) (R : Res s o i p p' r r') : Sofar r.1.l r'.1.l (zs ++ [r.2]) (ys ++ [r'.2]) := by
  obtain ⟨e, he⟩ := R.ext
  obtain ⟨e', he'⟩ := R.ext'
  constructor
  · intro z hz
    rcases List.mem_append.1 hz with hz | hz
    · have := h.lt z hz
      rw [he, List.length_append]; omega
    · obtain rfl : z = r.2 := by simpa using hz
      exact R.lt
  · intro z hz
    rcases List.mem_append.1 hz with hz | hz
    · have := h.lt' z hz
      rw [he', List.length_append]; omega
    · obtain rfl : z = r'.2 := by simpa using hz
      exact R.lt'
  · intro t
    refine Each.snoc (R.al t) ?_
    rw [he, he']
    exact Each.more hp hp' h.lt h.lt' (h.each t)

/-- Behind a part stands a beginning, or a bar, or a bracket's end, or the text's end. -/
theorem PEnd.over {s : ByteArray} (h : Wholly s) {j : Nat} (hj : j ≤ s.size) (hE : PEnd s j) (hs : startsP s j = false) : pk s j = 124 ∨ pk s j = 41 ∨ j = s.size := by
  rcases Nat.lt_or_ge j s.size with hlt | hge
  · obtain ⟨⟨m, o, a, l⟩, h1, h2⟩ := hE
    have hb : inB noStart (byt s j) = true := by
      unfold startsP at hs
      simpa [hlt] using hs
    obtain ⟨st', h3, _⟩ := h.next h1 hlt
    rw [pk_in hlt] at h2 ⊢
    simp only at h2
    by_cases e1 : byt s j = 124
    · exact .inl (by omega)
    by_cases e2 : byt s j = 41
    · exact .inr (.inl (by omega))
    exfalso
    have hg : step ⟨m, o, a, l⟩ (byt s j) = goesOn ⟨m, o, a, l⟩ (byt s j) := by
      unfold step
      rw [if_neg (by simp only; omega), if_pos (by simp only; omega)]
    rw [hg] at h3
    have hq : ¬ (m = 1 ∧ inB quants (byt s j) = true) := by
      rintro ⟨a1, a2⟩
      rw [inB_quants] at a2
      omega
    unfold goesOn at h3
    simp only at h3
    rw [if_neg hq, if_neg (by omega), if_neg e1, if_neg (by omega)] at h3
    unfold begins at h3
    rw [inB_noStart] at hb
    rw [if_neg (by omega), if_neg (by omega), if_neg (by omega), if_pos (by rw [inB_noStart]; exact hb)] at h3
    cases h3
  · exact .inr (.inr (by omega))

theorem Res.trans {s : ByteArray} {o i i2 : Nat} {p p' : PSt} {r r' x x' : PSt × Nat} (R : Res s o i p p' r r') (X : Res s o i2 r.1 r'.1 x x') (hi : i < x.1.at') : Res s o i p p' x x' := by
  obtain ⟨e, he⟩ := R.ext
  obtain ⟨e', he'⟩ := R.ext'
  obtain ⟨e2, he2⟩ := X.ext
  obtain ⟨e2', he2'⟩ := X.ext'
  exact ⟨X.at', X.g, hi, X.le, ⟨e ++ e2, by rw [he2, he, List.append_assoc]⟩, ⟨e' ++ e2', by rw [he2', he', List.append_assoc]⟩, X.gd, X.gd', X.lt, X.lt', X.al, X.rn⟩

/-- A node over some parts, on both sides; one alone needs none in the program's tree. -/
theorem res_join {s : ByteArray} {o i k : Nat} {p p' : PSt} {r r' : PSt × Nat} {zs ys : List Nat} (hk : k = 4 ∨ k = 5) (R : Res s o i p p' r r') (S : Sofar r.1.l r'.1.l (zs ++ [r.2]) (ys ++ [r'.2])) :
    Res s o i p p' (joinF k (zs ++ [r.2]) r.1) (addN r'.1 r'.1.at' (rowN k (ys ++ [r'.2]))) ∧ (joinF k (zs ++ [r.2]) r.1).1.at' = r.1.at' := by
  obtain ⟨⟨j, gr, lr⟩, z⟩ := r
  obtain ⟨⟨j', gr', lr'⟩, z'⟩ := r'
  obtain ⟨r1, r2, r3, r4, ⟨x, r5⟩, ⟨x', r6⟩, r7, r8, r9, r10, r11, r12⟩ := R
  simp only at r1 r2 r3 r4 r5 r6 r7 r8 r9 r10 r11 r12 S ⊢
  subst r1
  subst r2
  have g2 : Gd (lr' ++ [rowN k (ys ++ [z'])]) := r8.add (fun q hq => S.lt' q hq) (fun e => by simp [rowN])
  cases zs with
  | nil =>
    cases ys with
    | cons b ys =>
      have hE := (S.each ByteArray.empty).2
      cases ys with
      | nil => exact (show False from hE).elim
      | cons c ys => exact (show False from hE).elim
    | nil =>
      refine ⟨⟨rfl, rfl, r3, r4, ⟨x, r5⟩, ⟨x' ++ [rowN k [z']], by show lr' ++ _ = _; rw [r6, List.append_assoc]; rfl⟩, r7, g2, r9, by simp [addN], fun t => ?_, r12⟩, rfl⟩
      have hA : Alike t lr z (lr' ++ [rowN k ([] ++ [z'])]) z' := by
        have := (r11 t).more (l2 := []) (l2' := [rowN k ([] ++ [z'])]) r7 r9 r8 r10
        rwa [List.append_nil] at this
      rcases hk with rfl | rfl
      · exact Alike.way1 g2 (by simp [addN]) hA
      · exact Alike.row1 g2 (by simp [addN]) hA
  | cons a zs =>
    have hj : joinF k (a :: zs ++ [z]) ⟨j, gr, lr⟩ = addN ⟨j, gr, lr⟩ j (rowN k (a :: zs ++ [z])) := Tr.joinF_more (by simp)
    rw [hj]
    have g1 : Gd (lr ++ [rowN k (a :: zs ++ [z])]) := r7.add (fun q hq => S.lt q hq) (fun e => by simp [rowN])
    refine ⟨⟨rfl, rfl, r3, r4, ⟨x ++ [rowN k (a :: zs ++ [z])], by show lr ++ _ = _; rw [r5, List.append_assoc]⟩, ⟨x' ++ [rowN k (ys ++ [z'])], by show lr' ++ _ = _; rw [r6, List.append_assoc]⟩, g1, g2, by simp [addN], by simp [addN], fun t => ?_, r12⟩, rfl⟩
    have hE := Each.more (e := [rowN k (a :: zs ++ [z])]) (e' := [rowN k (ys ++ [z'])]) r7 r8 S.lt S.lt' (S.each t)
    rcases hk with rfl | rfl
    · exact Alike.ways (zs := a :: zs ++ [z]) (ys := ys ++ [z']) g1 g2 (by simp [addN]) (by simp [addN]) hE
    · exact Alike.row (zs := a :: zs ++ [z]) (ys := ys ++ [z']) g1 g2 (by simp [addN]) (by simp [addN]) hE

/-- A row of parts, read by both. -/
theorem way_reads {s : ByteArray} (h : Wholly s) {ch ch' : PSt → PSt × Nat} {N : Nat} (hch : ChR s ch ch' N) : ∀ (f : Nat) (p p' : PSt) (st : St) (zs ys : List Nat), p.at' = p'.at' → p.g = p'.g → Gd p.l → Gd p'.l →
    run s p.at' = some st → st.m ≤ 2 → p.at' < s.size → s.size - p.at' ≤ N → inB noStart (byt s p.at') = false → Sofar p.l p'.l zs ys → s.size - p.at' ≤ f →
    Res s st.o p.at' p p' (wayL ch s f p zs) (dWayL ch' s (f + 1) p' ys) ∧ PEnd s (wayL ch s f p zs).1.at' ∧ startsP s (wayL ch s f p zs).1.at' = false
  | 0, p, p', st, zs, ys, _, _, _, _, _, _, hi, _, _, _, hf => by omega
  | f + 1, p, p', st, zs, ys, ha, hg, hp, hp', hr, hm, hi, hN, hc, hS, hf => by
    obtain ⟨R, hE⟩ := part_reads h hch ha hg hp hp' hr hm hi hN hc
    have S := hS.snoc hp hp' R
    have hno : ¬ (pk s p'.at' = 124 ∨ pk s p'.at' = 41 ∨ p'.at' = s.size) := by
      rw [← ha, pk_in hi]
      have : ¬ (inB noStart (byt s p.at') = true) := by rw [hc]; simp
      rw [inB_noStart] at this
      omega
    have e2 : dWayL ch' s (f + 1 + 1) p' ys = dWayL ch' s (f + 1) (dPartF ch' s p').1 (ys ++ [(dPartF ch' s p').2]) := by
      rw [dWayL, if_neg hno]
    rw [e2]
    have e1 : wayL ch s (f + 1) p zs = if startsP s (partF ch s p).1.at' = true then wayL ch s f (partF ch s p).1 (zs ++ [(partF ch s p).2]) else joinF 5 (zs ++ [(partF ch s p).2]) (partF ch s p).1 := rfl
    rw [e1]
    generalize partF ch s p = r at R hE S
    generalize dPartF ch' s p' = r' at R S
    by_cases hst : startsP s r.1.at' = true
    · rw [if_pos hst]
      obtain ⟨st2, k1, k2, k3⟩ := R.rn
      have hst' : r.1.at' < s.size ∧ inB noStart (byt s r.1.at') = false := by
        unfold startsP at hst
        simpa using hst
      have hlo := R.lo
      obtain ⟨X, x2, x3⟩ := way_reads h hch f r.1 r'.1 st2 (zs ++ [r.2]) (ys ++ [r'.2]) R.at' R.g R.gd R.gd' k1 (by omega) hst'.1 (by omega) hst'.2 S (by omega)
      rw [k2] at X
      have := X.lo
      exact ⟨R.trans X (by omega), x2, x3⟩
    · rw [if_neg hst]
      have hst' : startsP s r.1.at' = false := by simpa using hst
      have hov := hE.over h R.le hst'
      rw [R.at'] at hov
      rw [dWayL, if_pos hov]
      obtain ⟨J, j2⟩ := res_join (.inr rfl) R S
      rw [j2]
      exact ⟨J, hE, hst'⟩

theorem Res.relist {s : ByteArray} {o o2 i : Nat} {p p' q q' : PSt} {x x' : PSt × Nat} (X : Res s o i q q' x x') (e0 : o = o2) (e : q.l = p.l) (e' : q'.l = p'.l) : Res s o2 i p p' x x' := by
  subst e0
  exact ⟨X.at', X.g, X.lo, X.le, by rw [← e]; exact X.ext, by rw [← e']; exact X.ext', X.gd, X.gd', X.lt, X.lt', X.al, X.rn⟩

theorem sofar_nil (l l' : List Nd) : Sofar l l' [] [] := ⟨(fun z hz => by cases hz), (fun z hz => by cases hz), fun t => trivial⟩

/-- Ways between bars, read by both. -/
theorem choice_reads {s : ByteArray} (h : Wholly s) {ch ch' : PSt → PSt × Nat} {N : Nat} (hch : ChR s ch ch' N) : ∀ (f : Nat) (p p' : PSt) (st : St) (zs ys : List Nat), p.at' = p'.at' → p.g = p'.g → Gd p.l → Gd p'.l →
    run s p.at' = some st → st.m = 0 → p.at' ≤ s.size → s.size - p.at' ≤ N → Sofar p.l p'.l zs ys → s.size - p.at' ≤ f →
    Res s st.o p.at' p p' (choiceL ch s f p zs) (dChoiceL ch' s (f + 1) p' ys) ∧ ((choiceL ch s f p zs).1.at' = s.size ∨ byt s (choiceL ch s f p zs).1.at' = 41)
  | 0, p, p', st, zs, ys, _, _, _, _, hr, hm, hi, _, _, hf => by
    have := h.inside hr hi (by omega) (by omega)
    omega
  | f + 1, p, p', st, zs, ys, ha, hg, hp, hp', hr, hm, hi, hN, hS, hf => by
    have hi2 := h.inside hr hi (by omega) (by omega)
    have hc : inB noStart (byt s p.at') = false := by
      obtain ⟨st1, h1, _⟩ := h.next hr hi2
      have hb : step st (byt s p.at') = begins st (byt s p.at') := by unfold step; rw [if_pos hm]
      rw [hb] at h1
      cases hn : inB noStart (byt s p.at') with
      | false => rfl
      | true =>
        have hn' := (inB_noStart _).1 hn
        unfold begins at h1
        rw [if_neg (by omega), if_neg (by omega), if_neg (by omega), if_pos hn] at h1
        cases h1
    obtain ⟨R, hE, hst⟩ := way_reads h hch s.size p p' st [] [] ha hg hp hp' hr (by omega) hi2 hN hc (sofar_nil _ _) (by omega)
    have S := hS.snoc hp hp' R
    have e1 : choiceL ch s (f + 1) p zs = if pk s (wayF ch s p).1.at' = 124 then choiceL ch s f ⟨(wayF ch s p).1.at' + 1, (wayF ch s p).1.g, (wayF ch s p).1.l⟩ (zs ++ [(wayF ch s p).2]) else joinF 4 (zs ++ [(wayF ch s p).2]) (wayF ch s p).1 := rfl
    have e2 : dChoiceL ch' s (f + 1 + 1) p' ys = if pk s (dWayF ch' s p').1.at' = 124 then dChoiceL ch' s (f + 1) ⟨(dWayF ch' s p').1.at' + 1, (dWayF ch' s p').1.g, (dWayF ch' s p').1.l⟩ (ys ++ [(dWayF ch' s p').2]) else addN (dWayF ch' s p').1 (dWayF ch' s p').1.at' (rowN 4 (ys ++ [(dWayF ch' s p').2])) := rfl
    rw [e1, e2]
    have w1 : wayF ch s p = wayL ch s s.size p [] := rfl
    have w2 : dWayF ch' s p' = dWayL ch' s (s.size + 1) p' [] := rfl
    rw [← w1] at R hE hst S
    rw [← w2] at R S
    generalize wayF ch s p = r at R hE hst S
    generalize dWayF ch' s p' = r' at R S
    by_cases e : pk s r.1.at' = 124
    · rw [if_pos e, if_pos (by rw [← R.at']; exact e)]
      have hj : r.1.at' < s.size := by
        rcases Nat.lt_or_ge r.1.at' s.size with hh | hh
        · exact hh
        · rw [pk_out (by omega)] at e; omega
      obtain ⟨st2, k1, k2, k3⟩ := R.rn
      have hrun : run s (r.1.at' + 1) = some ⟨0, st2.o, st2.a, st2.l⟩ := by
        rw [run_succ k1, show byt s r.1.at' = 124 by rw [pk_in hj] at e; omega]
        exact Tr.step_bar k3
      have hlo := R.lo
      obtain ⟨X, x2⟩ := choice_reads h hch f ⟨r.1.at' + 1, r.1.g, r.1.l⟩ ⟨r'.1.at' + 1, r'.1.g, r'.1.l⟩ _ (zs ++ [r.2]) (ys ++ [r'.2]) (by show r.1.at' + 1 = r'.1.at' + 1; rw [R.at']) R.g R.gd R.gd' hrun rfl hj (by show s.size - (r.1.at' + 1) ≤ N; omega) S (by show s.size - (r.1.at' + 1) ≤ f; omega)
      have X' := X.relist (p := r.1) (p' := r'.1) (o2 := st.o) k2 rfl rfl
      have hlt2 : r.1.at' + 1 < _ := X'.lo
      exact ⟨R.trans X' (by omega), x2⟩
    · rw [if_neg e, if_neg (by rw [← R.at']; exact e)]
      obtain ⟨J, j2⟩ := res_join (.inl rfl) R S
      refine ⟨J, ?_⟩
      rw [j2]
      rcases hE.over h R.le hst with a | a | a
      · exact absurd a e
      · right
        rcases Nat.lt_or_ge r.1.at' s.size with hh | hh
        · rw [pk_in hh] at a; omega
        · rw [pk_out (by omega)] at a; omega
      · exact .inl a

theorem choices_read {s : ByteArray} (h : Wholly s) : ∀ N, ChR s (choiceN s N) (dChoiceN s N) N
  | 0 => fun p p' st _ _ _ _ _ _ _ hN => by omega
  | N + 1 => fun p p' st ha hg hp hp' hr hm hi hN =>
    choice_reads h (choices_read h N) s.size p p' st [] [] ha hg hp hp' hr hm hi (by omega) (sofar_nil _ _) (by omega)

/-- The two trees of a pattern match the same and give the same. -/
theorem trees_alike {s : ByteArray} (h : Wholly s) (hs : s.size ≤ 40) : (treeOf s).1.g = (docOf s).1.g ∧ Gd (treeOf s).1.l ∧ Gd (docOf s).1.l ∧ ∀ t, Alike t (treeOf s).1.l (treeOf s).2 (docOf s).1.l (docOf s).2 := by
  have g0 : Gd [] := ⟨fun n d hd => by simp at hd, fun n d hd => by simp at hd⟩
  obtain ⟨R, _⟩ := choices_read h 41 ⟨0, 0, []⟩ ⟨0, 0, []⟩ ⟨0, 0, 0, 0⟩ rfl rfl g0 g0 rfl rfl (Nat.zero_le _) (by show s.size - 0 < 41; omega)
  exact ⟨R.g, R.gd, R.gd', R.al⟩
end Go.Proofs.Ytppjlpihaocdiaa

/- The program's 'Match', whole. -/
set_option linter.unusedSimpArgs false
set_option linter.unusedVariables false
namespace Go.Proofs.Ytppjlpihaocdiaa
open Go.RowKit

/-- What 'Match' answers: the list and the error. -/
def MatchIs (pt s : ByteArray) (w' : World) (v : Value) (ec : Int) : Prop :=
  ((40 < pt.size ∨ 80 < s.size) ∧ v = .slice none 0 0 ∧ ec = 1) ∨
  (pt.size ≤ 40 ∧ s.size ≤ 80 ∧ (∃ j, Fails pt j) ∧ v = .slice none 0 0 ∧ ec = 2) ∨
  (pt.size ≤ 40 ∧ s.size ≤ 80 ∧ Wholly pt ∧ ec = 0 ∧ (treeOf pt).1.g ≤ 9 ∧ (treeOf pt).2 < (treeOf pt).1.l.length ∧ (∀ (a : Nat) (d : Nd), (treeOf pt).1.l[a]? = some d → PNd a (treeOf pt).1.g d) ∧
    ((v = .slice none 0 0 ∧ ∀ i j, i ≤ s.size → ¬ Mat s (treeOf pt).1.l (treeOf pt).2 i j) ∨
     ∃ ob i j c', v = .slice (some ⟨ob, 0, none⟩) ((treeOf pt).1.g + 1) ((treeOf pt).1.g + 1) ∧ Best s.size (Mat s (treeOf pt).1.l (treeOf pt).2) 0 i j ∧ OutAt w' ob (((i : Int), (j : Int)) :: c') ∧ c'.length = (treeOf pt).1.g ∧ PGv s (treeOf pt).1.l (treeOf pt).2 i j (noCaps (treeOf pt).1.g) c'))

theorem TreeIs.below {w w' : World} {nb groups : Nat} {nodes : List Nd} (h : TreeIs w nb nodes groups) (hb : Below w.heap.size w w') : TreeIs w' nb nodes groups := by
  refine ⟨fun a d hd => ?_, h.wf, h.many, h.some'⟩
  obtain ⟨ao, c, y0, y1, y2, y3, h1, h2, h4, h3⟩ := h.node a d hd
  refine ⟨ao, c, y0, y1, y2, y3, h1, ?_, h4, fun o v hv => ?_⟩
  · rcases h2 with h2 | ⟨kb, e1, e2, e3⟩
    · exact .inl h2
    · by_cases hs : d.subs = []
      · exact .inl hs
      · obtain ⟨y, hy⟩ : ∃ y, d.subs[0]? = some y := by
          cases hd : d.subs with
          | nil => exact absurd hd hs
          | cons a l => exact ⟨a, rfl⟩
        have hlt : kb < w.heap.size := World.block_lt_of_cell? w _ (e3 0 y hy)
        have := hb.size
        exact .inr ⟨kb, e1, by omega, fun k y hy => (World.cell?_of_block (w := w) (w' := w') (a := ⟨kb, k, none⟩) (hb.block kb hlt)).trans (e3 k y hy)⟩
  · have := h3 o v hv
    exact (World.cell?_of_block (w := w) (w' := w') (a := ⟨nb, a * 9 + o, none⟩) (hb.block nb (World.block_lt_of_cell? w _ this))).trans this

set_option maxHeartbeats 1000000 in
theorem match_any (pt s : ByteArray) (w : World) (hp : pt.size ≤ maxLen) (hs : s.size ≤ maxLen) :
    Calls Try.prog 14 #[.string pt, .string s] w fun e w' => ∃ (v : Value) (ec : Int), e = .returned (.tuple #[v, .int .i64 ec]) ∧ MatchIs pt s w' v ec ∧ Below w.heap.size w w' ∧ (∀ k, v.ownBlock = some k → w.heap.size ≤ k) := by
  unfold maxLen at hp hs
  by_cases h40 : 40 < pt.size
  · go_enter Try.func14, Try.ntmps14
    go_wp2_with fail
    go_ret2
    exact ⟨_, 1, rfl, .inl ⟨.inl h40, rfl, rfl⟩, Below.refl _ _, fun k hk => by cases hk⟩
  · by_cases h80 : 80 < s.size
    · go_enter Try.func14, Try.ntmps14
      go_wp2_with fail
      go_ret2
      exact ⟨_, 1, rfl, .inl ⟨.inr h80, rfl, rfl⟩, Below.refl _ _, fun k hk => by cases hk⟩
    · have hle : pt.size ≤ 40 := by omega
      have hle2 : s.size ≤ 80 := by omega
      go_enter Try.func14, Try.ntmps14
      go_wp2_with fail
      refine (Tr.parse_any pt _ hle).mono ?_
      rintro e w1 ⟨ao, l, c, r, g, p, ok, rfl, hP, hB⟩
      have HB : Hid (Below w.heap.size w w1) := hB
      have hsz := hB.size
      rcases hP with ⟨rfl, hW, nb, rfl, rfl, rfl, rfl, hrt, hg9, hT⟩ | ⟨rfl, j, rfl, hF⟩
      · have HW : Hid (Wholly pt) := hW
        have HT : Hid (TreeIs w1 nb (treeOf pt).1.l (treeOf pt).1.g) := hT
        clear hW hB hT
        have HMI : Hid (∀ (w' : World) (v : Value), (v = .slice none 0 0 ∧ (∀ i j, i ≤ s.size → ¬ Mat s (treeOf pt).1.l (treeOf pt).2 i j) ∨
     ∃ ob i j c', v = .slice (some ⟨ob, 0, none⟩) ((treeOf pt).1.g + 1) ((treeOf pt).1.g + 1) ∧ Best s.size (Mat s (treeOf pt).1.l (treeOf pt).2) 0 i j ∧ OutAt w' ob (((i : Int), (j : Int)) :: c') ∧ c'.length = (treeOf pt).1.g ∧ PGv s (treeOf pt).1.l (treeOf pt).2 i j (noCaps (treeOf pt).1.g) c') → MatchIs pt s w' v 0) := fun w' v h => .inr (.inr ⟨hle, hle2, HW.out, rfl, hg9, hrt, HT.out.wf, h⟩)
        generalize treeOf pt = tt at hrt hg9 HT HMI
        obtain ⟨⟨ta, tg, tl⟩, tr⟩ := tt
        simp only at hrt hg9 HT HMI
        simp only
        go_wp2_with fail
        have hB2 : Below w1.heap.size w1 (w1.alloc (.cells #[.slice (some ⟨nb, 0, none⟩) tl.length c, .int .i64 (tr : Int), .int .i64 (tg : Int)] 43)) := (Below.refl _ _).alloc (Nat.le_refl _) _
        generalize (w1.alloc (.cells #[.slice (some ⟨nb, 0, none⟩) tl.length c, .int .i64 (tr : Int), .int .i64 (tg : Int)] 43)) = w2 at hB2
        have HB2 : Hid (Below w.heap.size w w2) := HB.out.trans (hB2.mono hsz)
        have HT2 : Hid (TreeIs w2 nb tl tg) := HT.out.below hB2
        clear hB2
        refine (look_any s nb c tr tg tl _ HT2.out hle2).mono ?_
        rintro e w3 ⟨tb, rfl, vb, T, m, hTb, hRI, hB3⟩
        have HTb : Hid (TbAt w3 ⟨tl, s, tr, tg, tb, nb, vb, c⟩ tl.length T m) := hTb
        have HRI : Hid (∀ a d, tl[a]? = some d → RowIs s (Mat s tl) d (m a) (T a)) := hRI
        have HB3 : Hid (Below w.heap.size w w3) := HB2.out.trans (hB3.mono HB2.out.size)
        clear hTb hRI hB3
        go_wp2_with fail
        refine (first_any ⟨tl, s, tr, tg, tb, nb, vb, c⟩ T m _ HTb.out HRI.out HT2.out.wf hg9 hrt 0 (Nat.zero_le _)).mono ?_
        rintro e w4 ⟨hB4, hR⟩
        have HB4 : Hid (Below w.heap.size w w4) := HB3.out.trans (hB4.mono HB3.out.size)
        have hsz3 := HB3.out.size
        clear hB4
        rcases hR with ⟨rfl, hno⟩ | ⟨ob, i, j, c', rfl, hob, h1, h2, h3, h4⟩
        · have HNO : Hid (MatchIs pt s w4 (.slice none 0 0) 0) := HMI.out w4 _ (.inl ⟨rfl, fun i j hi => hno i j (Nat.zero_le _) hi⟩)
          clear hno
          go_wp2_with fail
          go_ret2
          exact ⟨_, 0, rfl, HNO.out, HB4.out, fun k hk => by cases hk⟩
        · have HNO : Hid (MatchIs pt s w4 (.slice (some ⟨ob, 0, none⟩) (tg + 1) (tg + 1)) 0) := HMI.out w4 _ (.inr ⟨ob, i, j, c', rfl, h1, h2, h3, h4⟩)
          clear h1 h2 h3 h4
          go_wp2_with fail
          go_ret2
          exact ⟨_, 0, rfl, HNO.out, HB4.out, fun k hk => by
            have : ob = k := by simpa [Value.ownBlock] using hk
            omega⟩
      · have HF : Hid (Fails pt j) := hF
        clear hF hB
        go_wp2_with fail
        go_ret2
        exact ⟨_, 2, rfl, .inr (.inl ⟨hle, hle2, ⟨j, HF.out⟩, rfl, rfl⟩), HB.out.alloc hsz _, fun k hk => by cases hk⟩
end Go.Proofs.Ytppjlpihaocdiaa

