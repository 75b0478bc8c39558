/- A pattern that holds wholly, read: where a set ends. Plain mathematics. -/
import Derived.Test.YtppjlpihaocdiaaDgSpecJ
import Derived.Test.YtppjlpihaocdiaaTrChoiceJ
set_option linter.unusedVariables false
namespace Go.Proofs.Ytppjlpihaocdiaa

theorem Wholly.all {s : ByteArray} (h : Wholly s) {i : Nat} (hi : i ≤ s.size) : ∃ st, run s i = some st := by
  obtain ⟨st, h1, _⟩ := h
  exact run_some_of_le hi h1

theorem Wholly.next {s : ByteArray} (h : Wholly s) {i : Nat} {st : St} (hr : run s i = some st) (hi : i < s.size) : ∃ st', step st (byt s i) = some st' ∧ run s (i + 1) = some st' := by
  obtain ⟨st', h'⟩ := h.all (show i + 1 ≤ s.size by omega)
  exact ⟨st', by rw [← run_succ hr]; exact h', h'⟩

/-- In a mode that cannot end a pattern there is more text. -/
theorem Wholly.inside {s : ByteArray} (h : Wholly s) {i : Nat} {st : St} (hr : run s i = some st) (hi : i ≤ s.size) (hm : st.m ≠ 1) (hm2 : st.m ≠ 2) : i < s.size := by
  rcases Nat.lt_or_ge i s.size with h' | h'
  · exact h'
  · obtain rfl : i = s.size := by omega
    obtain ⟨st', h1, h2⟩ := h
    rw [hr] at h1
    cases h1
    simp [whole, hm, hm2] at h2

theorem step_inSet {st : St} {c : Nat} (h1 : 4 ≤ st.m) (h2 : st.m ≤ 10) : step st c = inSet st c := by
  unfold step
  rw [if_neg (by omega), if_neg (by omega), if_neg (by omega), if_neg (by omega)]

/-- A byte of a set, read. -/
theorem inn_run {s : ByteArray} (h : Wholly s) {i m o a l : Nat} (hr : run s i = some ⟨m, o, a, l⟩) (hi : i < s.size) (hm : 4 ≤ m) (hm2 : m ≤ 8) (h93 : byt s i ≠ 93) (h45 : byt s i ≠ 45) (h94 : m = 4 → byt s i ≠ 94) :
    (innV s i).2 ≤ s.size ∧ run s (innV s i).2 = some ⟨if m = 8 then 7 else 6, o, a, (innV s i).1⟩ := by
  obtain ⟨st', h1, h2⟩ := h.next hr hi
  rw [step_inSet (by exact hm) (by show m ≤ 10; omega)] at h1
  unfold inSet at h1
  simp only at h1
  rw [if_neg (by omega), if_neg (by intro e; exact h94 e.1 e.2), if_neg h93, if_neg h45] at h1
  have key : ∀ (D N : Nat), (if m = 8 ∨ m = 10 then (10 : Nat) else 9) = N → (if m = 8 ∨ m = 10 then (7 : Nat) else 6) = D → (N = 9 ∨ N = 10) → (N = 10 ↔ m = 8) → (D = if m = 8 then 7 else 6) →
      (innV s i).2 ≤ s.size ∧ run s (innV s i).2 = some ⟨if m = 8 then 7 else 6, o, a, (innV s i).1⟩ := by
    intro D N hN hD hN2 hN3 hD2
    rw [hN, hD] at h1
    by_cases e : byt s i = 92
    · rw [if_pos e] at h1
      by_cases hle : (if m = 8 ∨ m = 10 then l else 0) ≤ 125
      · rw [if_pos hle] at h1
        cases h1
        have hi1 := h.inside h2 (by omega) (by simp only; omega) (by simp only; omega)
        obtain ⟨st2, g1, g2⟩ := h.next h2 hi1
        rw [step_inSet (by simp only; omega) (by simp only; omega)] at g1
        unfold inSet at g1
        simp only at g1
        rw [if_pos hN2] at g1
        unfold innV
        rw [if_pos e]
        refine ⟨by show i + 2 ≤ s.size; omega, ?_⟩
        show run s (i + 1 + 1) = _
        rw [g2]
        by_cases hc : inB escs (byt s (i + 1)) = true ∧ (if N = 8 ∨ N = 10 then l else 0) ≤ val (byt s (i + 1))
        · rw [if_pos hc] at g1
          rw [← g1]
          have : (N = 8 ∨ N = 10) ↔ m = 8 := by omega
          simp [this]
        · rw [if_neg hc] at g1
          cases g1
      · rw [if_neg hle] at h1
        cases h1
    · rw [if_neg e] at h1
      by_cases hc : byt s i = 10 ∨ byt s i < (if m = 8 ∨ m = 10 then l else 0)
      · rw [if_pos hc] at h1
        cases h1
      · rw [if_neg hc] at h1
        cases h1
        unfold innV
        rw [if_neg e]
        refine ⟨by show i + 1 ≤ s.size; omega, ?_⟩
        show run s (i + 1) = _
        rw [h2, hD2]
  by_cases e8 : m = 8
  · exact key 7 10 (by rw [if_pos (.inl e8)]) (by rw [if_pos (.inl e8)]) (by omega) (by omega) (by rw [if_pos e8])
  · have e9 : ¬ (m = 8 ∨ m = 10) := by omega
    exact key 6 9 (by rw [if_neg e9]) (by rw [if_neg e9]) (by omega) (by omega) (by rw [if_neg e8])

/-- What may stand in a set, and what follows from it. -/
theorem set_byte {s : ByteArray} (h : Wholly s) {i m o a l : Nat} (hr : run s i = some ⟨m, o, a, l⟩) (hi : i < s.size) (hm : 4 ≤ m) (hm2 : m ≤ 8) :
    (byt s i = 93 → (m = 6 ∨ m = 7) ∧ run s (i + 1) = some ⟨1, o, a, l⟩) ∧ (byt s i = 45 → m = 6 ∧ run s (i + 1) = some ⟨8, o, a, l⟩) := by
  obtain ⟨st', h1, h2⟩ := h.next hr hi
  rw [step_inSet (by exact hm) (by show m ≤ 10; omega)] at h1
  unfold inSet at h1
  simp only at h1
  rw [if_neg (by omega)] at h1
  constructor
  · intro e
    rw [if_neg (by omega), if_pos e] at h1
    by_cases hc : m = 6 ∨ m = 7
    · rw [if_pos hc] at h1
      cases h1
      exact ⟨hc, h2⟩
    · rw [if_neg hc] at h1
      cases h1
  · intro e
    rw [if_neg (by omega), if_neg (by omega), if_pos e] at h1
    by_cases hc : m = 6
    · rw [if_pos hc] at h1
      cases h1
      exact ⟨hc, h2⟩
    · rw [if_neg hc] at h1
      cases h1

theorem pk_ne {s : ByteArray} {i c : Nat} (hi : i < s.size) (h : ¬ pk s i = (c : Int)) : byt s i ≠ c := by
  intro e
  apply h
  rw [pk_in hi, e]

/-- A range, read. -/
theorem bet_run {s : ByteArray} (h : Wholly s) {i m o a l : Nat} (hr : run s i = some ⟨m, o, a, l⟩) (hi : i < s.size) (hm : 4 ≤ m) (hm2 : m ≤ 7) (h93 : byt s i ≠ 93) (h45 : byt s i ≠ 45) (h94 : m = 4 → byt s i ≠ 94) :
    (betV s i).2.2 < s.size ∧ ∃ m' l', run s (betV s i).2.2 = some ⟨m', o, a, l'⟩ ∧ (m' = 7 ∨ (m' = 6 ∧ pk s (betV s i).2.2 ≠ 45)) := by
  obtain ⟨a1, a2⟩ := inn_run h hr hi hm (by omega) h93 h45 h94
  rw [if_neg (by omega)] at a2
  have a3 := h.inside a2 a1 (by simp) (by simp)
  unfold betV
  by_cases e : pk s (innV s i).2 = 45
  · rw [if_pos e]
    have e' : byt s (innV s i).2 = 45 := by rw [pk_in a3] at e; omega
    obtain ⟨_, b1⟩ := (set_byte h a2 a3 (by omega) (by omega)).2 e'
    have b2 := h.inside b1 (by omega) (by simp) (by simp)
    have b3 := set_byte h b1 b2 (by omega) (by omega)
    obtain ⟨c1, c2⟩ := inn_run h b1 b2 (by omega) (by omega) (fun e => by have := (b3.1 e).1; omega) (fun e => by have := (b3.2 e).1; omega) (fun e => by omega)
    rw [if_pos rfl] at c2
    have c3 := h.inside c2 c1 (by simp) (by simp)
    exact ⟨c3, 7, _, c2, .inl rfl⟩
  · rw [if_neg e]
    exact ⟨a3, 6, _, a2, .inr ⟨rfl, e⟩⟩

/-- The ranges of a set, read to its end. -/
theorem setL_run {s : ByteArray} (h : Wholly s) {o a : Nat} : ∀ (f : Nat) (S : Nat → Bool) {i m l : Nat}, run s i = some ⟨m, o, a, l⟩ → i < s.size → 4 ≤ m → m ≤ 7 → byt s i ≠ 93 → byt s i ≠ 45 → (m = 4 → byt s i ≠ 94) → s.size < i + f →
    (setL s f i S).1 ≤ s.size ∧ ∃ l', run s (setL s f i S).1 = some ⟨1, o, a, l'⟩
  | 0, S, i, m, l, _, hi, _, _, _, _, _, hf => by omega
  | f + 1, S, i, m, l, hr, hi, hm, hm2, h93, h45, h94, hf => by
    have hl := betV_lt s i
    obtain ⟨a1, m', l', a2, a3⟩ := bet_run h hr hi hm hm2 h93 h45 h94
    have a4 := set_byte h a2 a1 (by omega) (by omega)
    rw [setL]
    by_cases e : pk s (betV s i).2.2 = 93
    · rw [if_pos e]
      have e' : byt s (betV s i).2.2 = 93 := by rw [pk_in a1] at e; omega
      exact ⟨a1, l', (a4.1 e').2⟩
    · rw [if_neg e]
      refine setL_run h f _ a2 a1 (by omega) (by omega) (pk_ne a1 e) (fun e45 => ?_) (fun e4 => by omega) (by omega)
      rcases a3 with a3 | ⟨_, a3⟩
      · have := (a4.2 e45).1
        omega
      · exact pk_ne a1 a3 e45

/-- A set, read: both readings agree, and the walk goes on behind it. -/
theorem set_run {s : ByteArray} (h : Wholly s) {i o a l : Nat} (hr : run s (i + 1) = some ⟨4, o, a, l⟩) (hi : i < s.size) : dSetV s i = setV s i ∧ (setV s i).1 ≤ s.size ∧ ∃ l', run s (setV s i).1 = some ⟨1, o, a, l'⟩ := by
  have h1 := h.inside hr (by omega) (by simp) (by simp)
  have h2 := set_byte h hr h1 (by omega) (by omega)
  have n93 : byt s (i + 1) ≠ 93 := fun e => by have := (h2.1 e).1; omega
  have n45 : byt s (i + 1) ≠ 45 := fun e => by have := (h2.2 e).1; omega
  have p93 : pk s (i + 1) ≠ 93 := by rw [pk_in h1]; omega
  by_cases e : pk s (i + 1) = 94
  · have e' : byt s (i + 1) = 94 := by rw [pk_in h1] at e; omega
    have h3 : run s (i + 2) = some ⟨5, o, a, l⟩ := by
      show run s (i + 1 + 1) = _
      rw [run_succ hr, step_inSet (by simp) (by simp), e']
      rfl
    have h4 := h.inside h3 (by omega) (by simp) (by simp)
    have h5 := set_byte h h3 h4 (by omega) (by omega)
    have m93 : byt s (i + 2) ≠ 93 := fun e => by have := (h5.1 e).1; omega
    obtain ⟨c1, c2⟩ := setL_run h s.size noSet h3 h4 (by omega) (by omega) m93 (fun e => by have := (h5.2 e).1; omega) (fun e => by omega) (by omega)
    have hv : (setV s i).1 = (setL s s.size (i + 2) noSet).1 := by unfold setV; rw [if_pos e]
    rw [hv]
    refine ⟨dSetV_eq (fun _ => by rw [pk_in h4]; omega) p93 (by rw [hv]; exact c1), c1, c2⟩
  · obtain ⟨c1, c2⟩ := setL_run h s.size noSet hr h1 (by omega) (by omega) n93 n45 (fun _ => pk_ne h1 e) (by omega)
    have hv : setV s i = setL s s.size (i + 1) noSet := by unfold setV; rw [if_neg e]
    rw [hv]
    refine ⟨?_, c1, c2⟩
    rw [← hv]
    exact dSetV_eq (fun h => absurd h e) p93 (by rw [hv]; exact c1)

theorem Gd.add {l : List Nd} {d : Nd} (h : Gd l) (h1 : ∀ x ∈ d.subs, x < l.length) (h2 : d.kind = 3 ∨ d.kind = 6 → d.subs ≠ []) : Gd (l ++ [d]) := by
  have key : ∀ (n : Nat) (e : Nd), (l ++ [d])[n]? = some e → l[n]? = some e ∨ (n = l.length ∧ e = d) := fun n e he => by
    rcases Nat.lt_or_ge n l.length with hn | hn
    · rw [List.getElem?_append_left hn] at he; exact .inl he
    · rw [List.getElem?_append_right hn] at he
      cases hk : n - l.length with
      | zero => rw [hk] at he; cases he; exact .inr ⟨by omega, rfl⟩
      | succ k => rw [hk] at he; cases he
  constructor
  · intro n e he
    rcases key n e he with he | ⟨rfl, rfl⟩
    · exact h.wf n e he
    · exact ⟨h1, fun k => h2 (.inr k)⟩
  · intro n e he hk
    rcases key n e he with he | ⟨rfl, rfl⟩
    · exact h.h3 n e he hk
    · exact h2 (.inl hk)

/-- Two readings of one stretch of a pattern, the program's and the document's, from two trees on. -/
structure Res (s : ByteArray) (o i : Nat) (p p' : PSt) (r r' : PSt × Nat) : Prop where
  at' : r.1.at' = r'.1.at'
  g : r.1.g = r'.1.g
  lo : i < r.1.at'
  le : r.1.at' ≤ s.size
  ext : ∃ e, r.1.l = p.l ++ e
  ext' : ∃ e, r'.1.l = p'.l ++ e
  gd : Gd r.1.l
  gd' : Gd r'.1.l
  lt : r.2 < r.1.l.length
  lt' : r'.2 < r'.1.l.length
  al : ∀ t, Alike t r.1.l r.2 r'.1.l r'.2
  rn : ∃ st, run s r.1.at' = some st ∧ st.o = o ∧ (st.m = 1 ∨ st.m = 2)

/-- A leaf more, on both sides. -/
theorem res_leaf {s : ByteArray} {o i j k : Nat} {p p' : PSt} {S : Nat → Bool} (hg : p.g = p'.g) (hp : Gd p.l) (hp' : Gd p'.l) (hij : i < j) (hj : j ≤ s.size) (hk : k ≤ 2) (hr : ∃ st, run s j = some st ∧ st.o = o ∧ (st.m = 1 ∨ st.m = 2)) :
    Res s o i p p' (addN p j (leaf k S)) (addN p' j (leaf k S)) := by
  have g1 : Gd (p.l ++ [leaf k S]) := hp.add (fun x hx => by cases hx) (fun e => by have e' : k = 3 ∨ k = 6 := e; omega)
  have g2 : Gd (p'.l ++ [leaf k S]) := hp'.add (fun x hx => by cases hx) (fun e => by have e' : k = 3 ∨ k = 6 := e; omega)
  exact ⟨rfl, hg, hij, hj, ⟨_, rfl⟩, ⟨_, rfl⟩, g1, g2, by simp [addN], by simp [addN], fun t => Alike.leaf (S := S) g1 g2 hk (by simp [addN]) (by simp [addN]), hr⟩

theorem setL_le (s : ByteArray) : ∀ (f i : Nat) (S : Nat → Bool), i ≤ (setL s f i S).1
  | 0, i, S => Nat.le_refl _
  | f + 1, i, S => by
    have h1 := betV_lt s i
    rw [setL]
    split
    · simp only; omega
    · have := setL_le s f (betV s i).2.2 (addR S (betV s i).1 (betV s i).2.1)
      omega

theorem setV_lt (s : ByteArray) (i : Nat) : i < (setV s i).1 := by
  unfold setV
  split
  · have := setL_le s s.size (i + 2) noSet
    simp only
    omega
  · have := setL_le s s.size (i + 1) noSet
    omega

/-- A whole choice is read alike by both, where less than N bytes are left. -/
def ChR (s : ByteArray) (ch ch' : PSt → PSt × Nat) (N : Nat) : Prop := ∀ (p p' : PSt) (st : St), p.at' = p'.at' → p.g = p'.g → Gd p.l → Gd p'.l → run s p.at' = some st → st.m = 0 → p.at' ≤ s.size → s.size - p.at' < N →
  Res s st.o p.at' p p' (ch p) (ch' p') ∧ ((ch p).1.at' = s.size ∨ byt s (ch p).1.at' = 41)

theorem one_reads {s : ByteArray} (h : Wholly s) {ch ch' : PSt → PSt × Nat} {N : Nat} (hch : ChR s ch ch' N) {p p' : PSt} {st : St} (ha : p.at' = p'.at') (hg : p.g = p'.g) (hp : Gd p.l) (hp' : Gd p'.l)
    (hr : run s p.at' = some st) (hm : st.m ≤ 2) (hi : p.at' < s.size) (hN : s.size - p.at' ≤ N) (hc : inB noStart (byt s p.at') = false) :
    Res s st.o p.at' p p' (oneF ch s p) (dOneF ch' s p') ∧ ∃ st', run s (oneF ch s p).1.at' = some st' ∧ st'.m = 1 := by
  obtain ⟨i, g, l⟩ := p
  obtain ⟨i', g', l'⟩ := p'
  simp only at ha hg hp hp' hr hi hN hc ⊢
  subst ha
  subst hg
  obtain ⟨st1, h1, h2⟩ := h.next hr hi
  rw [Tr.step_low hm hc] at h1
  obtain ⟨c, hcc⟩ : ∃ c, c = byt s i := ⟨_, rfl⟩
  rw [← hcc] at h1 hc
  have plain : c ≠ 40 → c ≠ 91 → c ≠ 92 → ∀ (k : Nat) (S : Nat → Bool), k ≤ 2 → Res s st.o i ⟨i, g, l⟩ ⟨i, g, l'⟩ (addN ⟨i, g, l⟩ (i + 1) (leaf k S)) (addN ⟨i, g, l'⟩ (i + 1) (leaf k S)) ∧ ∃ st', run s (addN ⟨i, g, l⟩ (i + 1) (leaf k S)).1.at' = some st' ∧ st'.m = 1 := by
    intro n1 n2 n3 k S hk
    rw [Tr.begins_plain hc n1 n2 n3] at h1
    cases h1
    exact ⟨res_leaf rfl hp hp' (Nat.lt_succ_self _) hi hk ⟨_, h2, rfl, .inl rfl⟩, _, h2, rfl⟩
  by_cases e94 : c = 94
  · rw [Tr.oneF_94 (by rw [← e94, hcc])]
    have : dOneF ch' s ⟨i, g, l'⟩ = addN ⟨i, g, l'⟩ (i + 1) (leaf 1 noSet) := by unfold dOneF; simp only [← hcc, e94]; rfl
    rw [this]
    exact plain (by omega) (by omega) (by omega) 1 noSet (by omega)
  by_cases e36 : c = 36
  · rw [Tr.oneF_36 (by rw [← e36, hcc])]
    have : dOneF ch' s ⟨i, g, l'⟩ = addN ⟨i, g, l'⟩ (i + 1) (leaf 2 noSet) := by unfold dOneF; simp only [← hcc, e36]; rfl
    rw [this]
    exact plain (by omega) (by omega) (by omega) 2 noSet (by omega)
  by_cases e46 : c = 46
  · rw [Tr.oneF_46 (by rw [← e46, hcc])]
    have : dOneF ch' s ⟨i, g, l'⟩ = addN ⟨i, g, l'⟩ (i + 1) (leaf 0 fun _ => true) := by unfold dOneF; simp only [← hcc, e46]; rfl
    rw [this]
    exact plain (by omega) (by omega) (by omega) 0 _ (by omega)
  by_cases e92 : c = 92
  · rw [Tr.oneF_92 (by rw [← e92, hcc])]
    have : dOneF ch' s ⟨i, g, l'⟩ = addN ⟨i, g, l'⟩ (i + 2) (leaf 0 (addR noSet (val (byt s (i + 1))) (val (byt s (i + 1))))) := by unfold dOneF; simp only [← hcc, e92]; rfl
    rw [this]
    have h3 : run s (i + 1) = some ⟨3, st.o, st.a, st.l⟩ := by
      rw [h2, ← h1, e92]
      rfl
    have h4 := h.inside h3 hi (by simp) (by simp)
    obtain ⟨st2, g1, g2⟩ := h.next h3 h4
    rw [Tr.step_esc] at g1
    split at g1
    · cases g1
      exact ⟨res_leaf rfl hp hp' (by show i < i + 2; omega) h4 (by omega) ⟨_, g2, rfl, .inl rfl⟩, _, g2, rfl⟩
    · cases g1
  by_cases e91 : c = 91
  · have h3 : run s (i + 1) = some ⟨4, st.o, st.a, st.l⟩ := by
      rw [h2, ← h1, e91]
      rfl
    obtain ⟨d1, d2, l1, d3⟩ := set_run h h3 hi
    rw [Tr.oneF_91 (by rw [← e91, hcc])]
    have : dOneF ch' s ⟨i, g, l'⟩ = addN ⟨i, g, l'⟩ (setV s i).1 (leaf 0 (setV s i).2) := by unfold dOneF; simp only [← hcc, e91, d1]; rfl
    rw [this]
    have hlt := setV_lt s i
    exact ⟨res_leaf rfl hp hp' hlt d2 (by omega) ⟨_, d3, rfl, .inl rfl⟩, _, d3, rfl⟩
  by_cases e40 : c = 40
  · rw [e40] at h1
    have hb : begins st 40 = if st.o = 5 ∨ st.a = 9 then none else some ⟨0, st.o + 1, st.a + 1, st.l⟩ := rfl
    rw [hb] at h1
    split at h1
    · cases h1
    cases h1
    obtain ⟨R, hend⟩ := hch ⟨i + 1, g + 1, l⟩ ⟨i + 1, g + 1, l'⟩ _ rfl rfl hp hp' h2 rfl hi (by show s.size - (i + 1) < N; omega)
    have e1 : oneF ch s ⟨i, g, l⟩ = addN (ch ⟨i + 1, g + 1, l⟩).1 ((ch ⟨i + 1, g + 1, l⟩).1.at' + 1) (grpN (ch ⟨i + 1, g + 1, l⟩).2 g) := Tr.oneF_40 (p := ⟨i, g, l⟩) (by rw [← e40, hcc])
    have e2 : dOneF ch' s ⟨i, g, l'⟩ = addN (ch' ⟨i + 1, g + 1, l'⟩).1 ((ch' ⟨i + 1, g + 1, l'⟩).1.at' + 1) (grpN (ch' ⟨i + 1, g + 1, l'⟩).2 g) := by unfold dOneF; simp only [← hcc, e40]; rfl
    rw [e1, e2]
    generalize ch ⟨i + 1, g + 1, l⟩ = r at R hend
    generalize ch' ⟨i + 1, g + 1, l'⟩ = r' at R
    obtain ⟨⟨j, gr, lr⟩, z⟩ := r
    obtain ⟨⟨j', gr', lr'⟩, z'⟩ := r'
    obtain ⟨r1, r2, r3, r4, ⟨x, r5⟩, ⟨x', r6⟩, r7, r8, r9, r10, r11, st2, r12, r13, r14⟩ := R
    simp only at r1 r2 r3 r4 r5 r6 r7 r8 r9 r10 r11 r12 r13 hend
    subst r1
    subst r2
    have hj : j < s.size := by
      rcases Nat.lt_or_ge j s.size with hh | hh
      · exact hh
      · obtain rfl : j = s.size := by omega
        obtain ⟨st3, w1, w2⟩ := h
        rw [r12] at w1
        cases w1
        simp [whole] at w2
        omega
    have h41 : byt s j = 41 := hend.resolve_left (by omega)
    have hrun : run s (j + 1) = some ⟨1, st2.o - 1, st2.a, st2.l⟩ := by
      rw [run_succ r12, h41]
      exact Tr.step_close (s := s) r14 (by omega)
    have g1 : Gd (lr ++ [grpN z g]) := r7.add (fun x hx => by obtain rfl : x = z := by simpa [grpN] using hx
                                                              exact r9) (fun _ => by simp [grpN])
    have g2 : Gd (lr' ++ [grpN z' g]) := r8.add (fun x hx => by obtain rfl : x = z' := by simpa [grpN] using hx
                                                                exact r10) (fun _ => by simp [grpN])
    refine ⟨⟨rfl, rfl, by show i < j + 1; omega, hj, ⟨x ++ [grpN z g], by show lr ++ _ = _; rw [r5, List.append_assoc]⟩, ⟨x' ++ [grpN z' g], by show lr' ++ _ = _; rw [r6, List.append_assoc]⟩, g1, g2, by simp [addN], by simp [addN], fun t => ?_, ⟨_, hrun, by simp only; omega, .inl rfl⟩⟩, _, hrun, rfl⟩
    exact Alike.grp (a := z) (b := z') (num := g) g1 g2 (by simp [addN]) (by simp [addN]) ((r11 t).more r7 r9 r8 r10)
  · rw [Tr.oneF_else hcc.symm e94 e36 e46 e40 e91 e92]
    have : dOneF ch' s ⟨i, g, l'⟩ = addN ⟨i, g, l'⟩ (i + 1) (leaf 0 (addR noSet c c)) := by unfold dOneF; simp only [← hcc, if_neg e94, if_neg e36, if_neg e46, if_neg e40, if_neg e91, if_neg e92]
    rw [this]
    exact plain e40 e91 e92 0 _ (by omega)

/-- A repetition more, on both sides. -/
theorem res_rep {s : ByteArray} {o i j lo : Nat} {hi : Int} {p p' : PSt} {r r' : PSt × Nat} (R : Res s o i p p' r r') (hij : i < j) (hj : j ≤ s.size) (hb : hi = -1 ∨ (lo : Int) ≤ hi) (hr : ∃ st, run s j = some st ∧ st.o = o ∧ (st.m = 1 ∨ st.m = 2)) :
    Res s o i p p' (addN r.1 j (repN r.2 lo hi)) (addN r'.1 j (repN r'.2 lo hi)) := by
  obtain ⟨⟨j0, gr, lr⟩, z⟩ := r
  obtain ⟨⟨j1, gr', lr'⟩, z'⟩ := r'
  obtain ⟨r1, r2, r3, r4, ⟨x, r5⟩, ⟨x', r6⟩, r7, r8, r9, r10, r11, _⟩ := R
  simp only at r1 r2 r3 r4 r5 r6 r7 r8 r9 r10 r11
  have g1 : Gd (lr ++ [repN z lo hi]) := r7.add (fun x hx => by obtain rfl : x = z := by simpa [repN] using hx
                                                                exact r9) (fun _ => by simp [repN])
  have g2 : Gd (lr' ++ [repN z' lo hi]) := r8.add (fun x hx => by obtain rfl : x = z' := by simpa [repN] using hx
                                                                  exact r10) (fun _ => by simp [repN])
  refine ⟨rfl, r2, hij, hj, ⟨x ++ [repN z lo hi], by show lr ++ _ = _; rw [r5, List.append_assoc]⟩, ⟨x' ++ [repN z' lo hi], by show lr' ++ _ = _; rw [r6, List.append_assoc]⟩, g1, g2, by simp [addN], by simp [addN], fun t => ?_, hr⟩
  exact Alike.rep (a := z) (b := z') (lo := lo) (hi := hi) g1 g2 hb (by simp [addN]) (by simp [addN]) ((r11 t).more r7 r9 r8 r10)

/-- Where a part ends. -/
def PEnd (s : ByteArray) (j : Nat) : Prop := ∃ st, run s j = some st ∧ ((st.m = 1 ∧ pk s j ≠ 42 ∧ pk s j ≠ 43 ∧ pk s j ≠ 63 ∧ pk s j ≠ 123) ∨ st.m = 2)

theorem part_reads {s : ByteArray} (h : Wholly s) {ch ch' : PSt → PSt × Nat} {N : Nat} (hch : ChR s ch ch' N) {p p' : PSt} {st : St} (ha : p.at' = p'.at') (hg : p.g = p'.g) (hp : Gd p.l) (hp' : Gd p'.l)
    (hr : run s p.at' = some st) (hm : st.m ≤ 2) (hi : p.at' < s.size) (hN : s.size - p.at' ≤ N) (hc : inB noStart (byt s p.at') = false) :
    Res s st.o p.at' p p' (partF ch s p) (dPartF ch' s p') ∧ PEnd s (partF ch s p).1.at' := by
  obtain ⟨R, st1, q1, q2⟩ := one_reads h hch ha hg hp hp' hr hm hi hN hc
  have q3 : st1.o = st.o := by
    obtain ⟨st', a1, a2, _⟩ := R.rn
    rw [q1] at a1
    cases a1
    exact a2
  have hat := R.at'
  have hlo := R.lo
  have hle := R.le
  unfold partF dPartF
  generalize oneF ch s p = r at R q1 hat hlo hle
  generalize dOneF ch' s p' = r' at R hat
  simp only
  rw [← hat]
  obtain ⟨j, hj⟩ : ∃ j, j = r.1.at' := ⟨_, rfl⟩
  rw [← hj] at q1 hlo hle ⊢
  obtain ⟨m1, o1, a1, l1⟩ := st1
  simp only at q2 q3
  subst q2
  subst q3
  have quant : ∀ (lo : Nat) (hi : Int), (hi = -1 ∨ (lo : Int) ≤ hi) → (pk s j = 42 ∨ pk s j = 43 ∨ pk s j = 63) → Res s st.o p.at' p p' (addN r.1 (j + 1) (repN r.2 lo hi)) (addN r'.1 (j + 1) (repN r'.2 lo hi)) ∧ PEnd s (addN r.1 (j + 1) (repN r.2 lo hi)).1.at' := by
    intro lo hi hb hq
    have hjs : j < s.size := by
      rcases Nat.lt_or_ge j s.size with hh | hh
      · exact hh
      · rw [pk_out (by omega)] at hq; omega
    have hq' : byt s j = 42 ∨ byt s j = 43 ∨ byt s j = 63 := by rw [pk_in hjs] at hq; omega
    have h3 : run s (j + 1) = some ⟨2, st.o, a1, l1⟩ := by rw [run_succ q1]; exact Tr.step_quant hq'
    exact ⟨res_rep R (by omega) hjs hb ⟨_, h3, rfl, .inr rfl⟩, _, h3, .inr rfl⟩
  by_cases e42 : pk s j = 42
  · rw [if_pos e42, if_pos e42]; exact quant 0 (-1) (.inl rfl) (.inl e42)
  rw [if_neg e42, if_neg e42]
  by_cases e43 : pk s j = 43
  · rw [if_pos e43, if_pos e43]; exact quant 1 (-1) (.inl rfl) (.inr (.inl e43))
  rw [if_neg e43, if_neg e43]
  by_cases e63 : pk s j = 63
  · rw [if_pos e63, if_pos e63]; exact quant 0 1 (.inr (by omega)) (.inr (.inr e63))
  rw [if_neg e63, if_neg e63]
  by_cases e123 : pk s j = 123
  · rw [if_pos e123, if_pos e123]
    have hjs : j < s.size := by
      rcases Nat.lt_or_ge j s.size with hh | hh
      · exact hh
      · rw [pk_out (by omega)] at e123; omega
    have h3 : run s (j + 1) = some ⟨11, st.o, a1, 0⟩ := by
      rw [run_succ q1, show byt s j = 123 by rw [pk_in hjs] at e123; omega]
      exact Tr.step_brace
    have h4 := h.inside h3 (by omega) (by simp) (by simp)
    obtain ⟨st2, b1, b2⟩ := h.next h3 h4
    rw [Tr.digit_step (.inl rfl)] at b1
    split at b1
    · rename_i hd
      cases b1
      have h5 := h.inside b2 (by omega) (by simp) (by simp)
      obtain ⟨st3, c1, c2⟩ := h.next b2 h5
      rw [if_pos rfl, Tr.brace_step (.inl rfl)] at c1
      by_cases e44 : pk s (j + 2) = 44
      · rw [if_pos e44, if_pos e44]
        have e44' : byt s (j + 1 + 1) = 44 := by
          have := pk_in h5
          rw [show j + 1 + 1 = j + 2 from rfl] at this ⊢
          omega
        rw [if_neg (by omega), if_pos ⟨e44', rfl⟩] at c1
        cases c1
        have h6 := h.inside c2 (by omega) (by simp) (by simp)
        obtain ⟨st4, d1, d2⟩ := h.next c2 h6
        rw [Tr.digit_step (.inr rfl)] at d1
        split at d1
        · rename_i hd2
          cases d1
          have h7 := h.inside d2 (by omega) (by simp) (by simp)
          obtain ⟨st5, f1, f2⟩ := h.next d2 h7
          rw [if_neg (by omega), Tr.brace_step (.inr rfl)] at f1
          split at f1
          · cases f1
            have f3 : run s (j + 5) = some ⟨2, st.o, a1, byt s (j + 3) - 48⟩ := f2
            refine ⟨res_rep R (by omega) (by omega) (.inr ?_) ⟨_, f3, rfl, .inr rfl⟩, _, f3, .inr rfl⟩
            have : byt s (j + 1) - 48 ≤ byt s (j + 3) - 48 := hd2.2.2
            omega
          · split at f1
            · omega
            · cases f1
        · cases d1
      · rw [if_neg e44, if_neg e44]
        split at c1
        · cases c1
          have c3 : run s (j + 3) = some ⟨2, st.o, a1, byt s (j + 1) - 48⟩ := c2
          exact ⟨res_rep R (by omega) (by omega) (.inr (by omega)) ⟨_, c3, rfl, .inr rfl⟩, _, c3, .inr rfl⟩
        · split at c1
          · rename_i hx
            exact absurd hx.1 (pk_ne h5 e44)
          · cases c1
    · cases b1
  · rw [if_neg e123, if_neg e123]
    exact ⟨R, _, by rw [← hj]; exact q1, .inl ⟨rfl, by rw [← hj]; exact ⟨e42, e43, e63, e123⟩⟩⟩
end Go.Proofs.Ytppjlpihaocdiaa
