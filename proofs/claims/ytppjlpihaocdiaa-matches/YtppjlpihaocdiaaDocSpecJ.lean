/- Several texts in one. -/
import Derived.Test.YtppjlpihaocdiaaGiveAJ
import Derived.Test.YtppjlpihaocdiaaTrSpecJ
/- What a node gives its brackets lies over what was there: the same writes, whatever was there. Plain mathematics. -/
set_option linter.unusedVariables false
namespace Go.Proofs.Ytppjlpihaocdiaa

/-- Some writes, one after another. -/
def app (u : List (Nat × (Int × Int))) (c : Caps) : Caps := u.foldl (fun c p => c.set p.1 p.2) c

theorem app_append (u v : List (Nat × (Int × Int))) (c : Caps) : app (u ++ v) c = app v (app u c) := by unfold app; rw [List.foldl_append]

theorem app_length : ∀ (u : List (Nat × (Int × Int))) (c : Caps), (app u c).length = c.length
  | [], _ => rfl
  | p :: u, c => by
    show (app u (c.set p.1 p.2)).length = _
    rw [app_length u, List.length_set]

/-- A place that is not written stays; one that is written does not tell what was there. -/
theorem app_at (k : Nat) : ∀ (u : List (Nat × (Int × Int))), (∀ c : Caps, (app u c)[k]? = c[k]?) ∨ ∃ v, ∀ c : Caps, k < c.length → (app u c)[k]? = some v
  | [] => .inl fun _ => rfl
  | p :: u => by
    rcases app_at k u with h | ⟨v, h⟩
    · by_cases e : p.1 = k
      · refine .inr ⟨p.2, fun c hc => ?_⟩
        show (app u (c.set p.1 p.2))[k]? = _
        rw [h, e, List.getElem?_set_self hc]
      · refine .inl fun c => ?_
        show (app u (c.set p.1 p.2))[k]? = _
        rw [h, List.getElem?_set_ne e]
    · refine .inr ⟨v, fun c hc => ?_⟩
      show (app u (c.set p.1 p.2))[k]? = _
      exact h _ (by rw [List.length_set]; exact hc)

theorem app_twice (u : List (Nat × (Int × Int))) (c : Caps) : app u (app u c) = app u c := by
  apply List.ext_getElem?
  intro k
  rcases app_at k u with h | ⟨v, h⟩
  · rw [h]
  · by_cases hk : k < c.length
    · rw [h _ (by rw [app_length]; exact hk), h _ hk]
    · rw [List.getElem?_eq_none (by rw [app_length, app_length]; omega), List.getElem?_eq_none (by rw [app_length]; omega)]

/-- What is given is some writes. -/
def Ov (R : Caps → Caps → Prop) : Prop := ∃ u, ∀ c c', R c c' ↔ c' = app u c

/-- Something is given. -/
def Lives (R : Caps → Caps → Prop) : Prop := ∃ c c', R c c'

theorem Ov.same {R R' : Caps → Caps → Prop} (h : Ov R) (e : ∀ c c', R' c c' ↔ R c c') : Ov R' := by
  obtain ⟨u, hu⟩ := h
  exact ⟨u, fun c c' => (e c c').trans (hu c c')⟩

theorem Ov.none : Ov fun c c' => c' = c := ⟨[], fun _ _ => Iff.rfl⟩

theorem Ov.then {R R' : Caps → Caps → Prop} (h : Ov R) (h' : Ov R') : Ov fun c c' => ∃ c1, R c c1 ∧ R' c1 c' := by
  obtain ⟨u, hu⟩ := h
  obtain ⟨v, hv⟩ := h'
  refine ⟨u ++ v, fun c c' => ?_⟩
  rw [app_append]
  constructor
  · rintro ⟨c1, h1, h2⟩
    rw [(hv _ _).1 h2, (hu _ _).1 h1]
  · intro h
    exact ⟨_, (hu _ _).2 rfl, (hv _ _).2 h⟩

/-- Given twice is given once. -/
theorem Ov.again {R : Caps → Caps → Prop} (h : Ov R) {c c' : Caps} (h1 : R c c') : R c' c' := by
  obtain ⟨u, hu⟩ := h
  rw [(hu _ _).1 h1]
  exact (hu _ _).2 (app_twice u c).symm

section
variable {m : Nat → Nat → Nat → Prop} {g : Nat → Nat → Nat → Caps → Caps → Prop}

theorem altG.ov (hg : ∀ x i j, Lives (g x i j) → Ov (g x i j)) : ∀ {l : List Nat} {i j : Nat}, Lives (altG m g l i j) → Ov (altG m g l i j)
  | [], _, _, _ => Ov.none
  | x :: xs, i, j, ⟨c, c', h⟩ => by
    rcases h with ⟨a, b⟩ | ⟨a, b⟩
    · exact (hg x i j ⟨c, c', b⟩).same fun c c' => ⟨fun h => h.elim (fun h => h.2) (fun h => absurd a h.1), fun h => .inl ⟨a, h⟩⟩
    · exact (altG.ov hg (l := xs) ⟨c, c', b⟩).same fun c c' => ⟨fun h => h.elim (fun h => absurd h.1 a) (fun h => h.2), fun h => .inr ⟨a, h⟩⟩

theorem rowG.ov (hg : ∀ x i j, Lives (g x i j) → Ov (g x i j)) : ∀ {l : List Nat} {i j : Nat}, Lives (rowG m g l i j) → Ov (rowG m g l i j)
  | [], _, _, _ => Ov.none
  | x :: xs, i, j, ⟨c, c', t, c1, h1, h2, h3⟩ => by
    refine ((hg x i t ⟨c, c1, h2⟩).then (rowG.ov hg (l := xs) ⟨c1, c', h3⟩)).same fun c c' => ⟨?_, ?_⟩
    · rintro ⟨t', c1, a1, a2, a3⟩
      have e := a1.one h1
      subst e
      exact ⟨c1, a2, a3⟩
    · rintro ⟨c1, a2, a3⟩
      exact ⟨t, c1, h1, a2, a3⟩

theorem repG.ov (hg : ∀ x i j, Lives (g x i j) → Ov (g x i j)) {x lo : Nat} {hi : Int} : ∀ {f done i j : Nat}, Lives (repG m g x lo hi f done i j) → Ov (repG m g x lo hi f done i j)
  | 0, _, _, _, _ => Ov.none
  | f + 1, done, i, j, ⟨c, c', h⟩ => by
    rcases h with ⟨a, b⟩ | ⟨a, t, c1, h1, h2, h3⟩
    · exact Ov.none.same fun c c' => ⟨fun h => h.elim (fun h => h.2) (fun h => absurd h.1 a), fun h => .inl ⟨a, h⟩⟩
    · refine ((hg x i t ⟨c, c1, h2⟩).then (repG.ov hg (f := f) ⟨c1, c', h3⟩)).same fun c c' => ⟨?_, ?_⟩
      · rintro (⟨b, _⟩ | ⟨_, t', c1, a1, a2, a3⟩)
        · exact absurd a b
        · have e := a1.one h1
          subst e
          exact ⟨c1, a2, a3⟩
      · rintro ⟨c1, a2, a3⟩
        exact .inr ⟨a, t, c1, h1, a2, a3⟩

theorem repP.ov (hg : ∀ x i j, Lives (g x i j) → Ov (g x i j)) {x lo : Nat} {hi : Int} : ∀ {f done i j : Nat}, Lives (repP m g x lo hi f done i j) → Ov (repP m g x lo hi f done i j)
  | 0, _, _, _, _ => Ov.none
  | f + 1, done, i, j, ⟨c, c', h⟩ => by
    rcases h with ⟨a, h⟩ | ⟨a, t, c1, h1, h2, h3⟩
    · rcases h with ⟨b, h⟩ | ⟨b, h⟩
      · exact (hg x i j ⟨c, c', h⟩).same fun c c' => ⟨fun h => h.elim (fun h => h.2.elim (fun h => h.2) (fun h => absurd b h.1)) (fun h => absurd h.1 a), fun h => .inl ⟨a, .inl ⟨b, h⟩⟩⟩
      · exact Ov.none.same fun c c' => ⟨fun h => h.elim (fun h => h.2.elim (fun h => absurd h.1 b) (fun h => h.2)) (fun h => absurd h.1 a), fun h => .inl ⟨a, .inr ⟨b, h⟩⟩⟩
    · refine ((hg x i t ⟨c, c1, h2⟩).then (repP.ov hg (f := f) ⟨c1, c', h3⟩)).same fun c c' => ⟨?_, ?_⟩
      · rintro (⟨b, _⟩ | ⟨_, t', c1, a1, a2, a3⟩)
        · exact absurd a b
        · have e := a1.one h1
          subst e
          exact ⟨c1, a2, a3⟩
      · rintro ⟨c1, a2, a3⟩
        exact .inr ⟨a, t, c1, h1, a2, a3⟩
end

theorem Ov.behind {R : Caps → Caps → Prop} {p : Nat × (Int × Int)} (h : Ov R) : Ov fun c c' => R (c.set p.1 p.2) c' := by
  obtain ⟨u, hu⟩ := h
  exact ⟨p :: u, fun c c' => hu _ _⟩

theorem gOf.ov (s : ByteArray) (nodes : List Nd) : ∀ (f n i j : Nat), Lives (gOf s nodes f n i j) → Ov (gOf s nodes f n i j)
  | 0, _, _, _, ⟨_, _, h⟩ => h.elim
  | f + 1, n, i, j, ⟨c, c', d, hd, h⟩ => by
    have ih : ∀ x i j, Lives (gOf s nodes f x i j) → Ov (gOf s nodes f x i j) := fun x i j => gOf.ov s nodes f x i j
    have key : Ov fun c c' => (if d.kind = 3 then gOf s nodes f (d.subs.getD 0 0) i j (c.set d.num ((i : Int), (j : Int))) c'
      else if d.kind = 4 then altG (Mat s nodes) (gOf s nodes f) d.subs i j c c'
      else if d.kind = 5 then rowG (Mat s nodes) (gOf s nodes f) d.subs i j c c'
      else if d.kind = 6 then repG (Mat s nodes) (gOf s nodes f) (d.subs.getD 0 0) d.lo d.hi (d.lo + s.size + 1) 0 i j c c'
      else c' = c) := by
      split at h
      · rename_i k
        simp only [if_pos k]
        exact (ih _ _ _ ⟨_, _, h⟩).behind (p := (d.num, ((i : Int), (j : Int))))
      · rename_i k
        simp only [if_neg k]
        split at h
        · rename_i k
          simp only [if_pos k]
          exact altG.ov ih ⟨_, _, h⟩
        · rename_i k
          simp only [if_neg k]
          split at h
          · rename_i k
            simp only [if_pos k]
            exact rowG.ov ih ⟨_, _, h⟩
          · rename_i k
            simp only [if_neg k]
            split at h
            · rename_i k
              simp only [if_pos k]
              exact repG.ov ih ⟨_, _, h⟩
            · rename_i k
              simp only [if_neg k]
              exact Ov.none
    refine key.same fun c c' => ⟨?_, fun h => ⟨d, hd, h⟩⟩
    rintro ⟨d', hd', h⟩
    rw [hd] at hd'
    cases hd'
    exact h

section
variable {m : Nat → Nat → Nat → Prop} {g g' : Nat → Nat → Nat → Caps → Caps → Prop}

theorem altG.mono (h : ∀ x i j c c', g x i j c c' → g' x i j c c') : ∀ {l : List Nat} {i j : Nat} {c c' : Caps}, altG m g l i j c c' → altG m g' l i j c c'
  | [], _, _, _, _, a => a
  | x :: xs, i, j, c, c', a => a.imp (fun a => ⟨a.1, h _ _ _ _ _ a.2⟩) (fun a => ⟨a.1, altG.mono h a.2⟩)

theorem rowG.mono (h : ∀ x i j c c', g x i j c c' → g' x i j c c') : ∀ {l : List Nat} {i j : Nat} {c c' : Caps}, rowG m g l i j c c' → rowG m g' l i j c c'
  | [], _, _, _, _, a => a
  | x :: xs, i, j, c, c', ⟨t, c1, a1, a2, a3⟩ => ⟨t, c1, a1, h _ _ _ _ _ a2, rowG.mono h a3⟩

theorem repP.mono (h : ∀ x i j c c', g x i j c c' → g' x i j c c') {x lo : Nat} {hi : Int} : ∀ {f done i j : Nat} {c c' : Caps}, repP m g x lo hi f done i j c c' → repP m g' x lo hi f done i j c c'
  | 0, _, _, _, _, _, a => a
  | f + 1, done, i, j, c, c', a => a.imp (fun a => ⟨a.1, a.2.imp (fun a => ⟨a.1, h _ _ _ _ _ a.2⟩) id⟩) (fun ⟨a, t, c1, a1, a2, a3⟩ => ⟨a, t, c1, a1, h _ _ _ _ _ a2, repP.mono h a3⟩)

/-- At an empty stretch nothing more is given than once. -/
theorem repG.stay (hg : ∀ x i j, Lives (g x i j) → Ov (g x i j)) {x lo : Nat} {hi : Int} {i j : Nat} (hij : ¬ i < j) : ∀ {f done : Nat} {c c' : Caps}, g x i j c c → repG m g x lo hi f done i j c c' → c' = c
  | 0, _, _, _, _, h => h
  | f + 1, done, c, c', h1, h => by
    rcases h with ⟨_, h⟩ | ⟨a, t, c1, b1, b2, b3⟩
    · exact h
    · have e : i = j := by
        have := b1.1
        have := b1.2.1
        omega
      have e2 : t = i := by
        have := b1.1
        have := b1.2.1
        omega
      subst e
      subst e2
      obtain ⟨u, hu⟩ := hg x t t ⟨_, _, h1⟩
      have e3 : c1 = c := by rw [(hu _ _).1 b2, ← (hu _ _).1 h1]
      subst e3
      exact repG.stay hg hij b2 b3

/-- The document's repetition and the program's give the same. -/
theorem rep_same (hg : ∀ x i j, Lives (g x i j) → Ov (g x i j)) {x lo : Nat} {hi : Int} : ∀ {f done i j : Nat} {c c' : Caps}, repG m g x lo hi f done i j c c' → repP m g x lo hi f done i j c c'
  | 0, _, _, _, _, _, h => h
  | f + 1, done, i, j, c, c', h => by
    rcases h with ⟨a, h⟩ | ⟨a, t, c1, b1, b2, b3⟩
    · exact .inl ⟨fun h => a (.inl h), .inr ⟨fun h => a (.inr h), h⟩⟩
    · by_cases hij : i < j
      · exact .inr ⟨hij, t, c1, b1, b2, rep_same hg b3⟩
      · have hd : done < lo := a.resolve_left hij
        have e : i = j := by
          have := b1.1
          have := b1.2.1
          omega
        have e2 : t = i := by
          have := b1.1
          have := b1.2.1
          omega
        subst e
        subst e2
        have h2 := (hg x t t ⟨_, _, b2⟩).again b2
        have e3 := repG.stay hg hij h2 b3
        subst e3
        exact .inl ⟨hij, .inl ⟨hd, b2⟩⟩
end

/-- Over one tree the document's giving is the program's. -/
theorem g_pg (s : ByteArray) (nodes : List Nd) : ∀ (f n i j : Nat) (c c' : Caps), gOf s nodes f n i j c c' → pgOf s nodes f n i j c c'
  | 0, _, _, _, _, _, h => h
  | f + 1, n, i, j, c, c', ⟨d, hd, h⟩ => by
    have ih : ∀ x i j c c', gOf s nodes f x i j c c' → pgOf s nodes f x i j c c' := fun x i j c c' => g_pg s nodes f x i j c c'
    refine ⟨d, hd, ?_⟩
    split at h
    · rename_i k
      rw [if_pos k]
      exact ih _ _ _ _ _ h
    · rename_i k
      rw [if_neg k]
      split at h
      · rename_i k
        rw [if_pos k]
        exact altG.mono ih h
      · rename_i k
        rw [if_neg k]
        split at h
        · rename_i k
          rw [if_pos k]
          exact rowG.mono ih h
        · rename_i k
          rw [if_neg k]
          split at h
          · rename_i k
            rw [if_pos k]
            exact repP.mono ih (rep_same (fun x i j => gOf.ov s nodes f x i j) h)
          · rename_i k
            rw [if_neg k]
            exact h
end Go.Proofs.Ytppjlpihaocdiaa

/- The tree that the document's reader makes of a pattern, as a plain function; and that what a node matches and gives does not tell of later nodes. No Go text. -/
set_option linter.unusedVariables false
namespace Go.Proofs.Ytppjlpihaocdiaa

/-- The ranges of a set, up to its end: the end is looked for first. -/
def dSetL (s : ByteArray) : Nat → Nat → (Nat → Bool) → Nat × (Nat → Bool)
  | 0, i, S => (i, S)
  | f + 1, i, S => if pk s i = 93 then (i + 1, S) else dSetL s f (betV s i).2.2 (addR S (betV s i).1 (betV s i).2.1)

/-- A set: the place behind it, and what it holds. -/
def dSetV (s : ByteArray) (i : Nat) : Nat × (Nat → Bool) :=
  if pk s (i + 1) = 94 then ((dSetL s (s.size + 1) (i + 2) noSet).1, fun c => !(dSetL s (s.size + 1) (i + 2) noSet).2 c) else dSetL s (s.size + 1) (i + 1) noSet

section
variable (ch : PSt → PSt × Nat) (s : ByteArray)

/-- A single part. -/
def dOneF (p : PSt) : PSt × Nat :=
  let c := byt s p.at'
  if c = 94 then addN p (p.at' + 1) (leaf 1 noSet)
  else if c = 36 then addN p (p.at' + 1) (leaf 2 noSet)
  else if c = 46 then addN p (p.at' + 1) (leaf 0 fun _ => true)
  else if c = 40 then
    let r := ch ⟨p.at' + 1, p.g + 1, p.l⟩
    addN r.1 (r.1.at' + 1) (grpN r.2 p.g)
  else if c = 91 then addN p (dSetV s p.at').1 (leaf 0 (dSetV s p.at').2)
  else if c = 92 then addN p (p.at' + 2) (leaf 0 (addR noSet (val (byt s (p.at' + 1))) (val (byt s (p.at' + 1)))))
  else addN p (p.at' + 1) (leaf 0 (addR noSet c c))

/-- A part with its repetition. -/
def dPartF (p : PSt) : PSt × Nat :=
  let r := dOneF ch s p
  let c := pk s r.1.at'
  if c = 42 then addN r.1 (r.1.at' + 1) (repN r.2 0 (-1))
  else if c = 43 then addN r.1 (r.1.at' + 1) (repN r.2 1 (-1))
  else if c = 63 then addN r.1 (r.1.at' + 1) (repN r.2 0 1)
  else if c = 123 then
    let lo := byt s (r.1.at' + 1) - 48
    if pk s (r.1.at' + 2) = 44 then addN r.1 (r.1.at' + 5) (repN r.2 lo ((byt s (r.1.at' + 3) - 48 : Nat) : Int))
    else addN r.1 (r.1.at' + 3) (repN r.2 lo (lo : Int))
  else r

/-- A row of parts, always a node of its own. -/
def dWayL : Nat → PSt → List Nat → PSt × Nat
  | 0, p, _ => (p, 0)
  | f + 1, p, zs =>
    if pk s p.at' = 124 ∨ pk s p.at' = 41 ∨ p.at' = s.size then addN p p.at' (rowN 5 zs)
    else
      let r := dPartF ch s p
      dWayL f r.1 (zs ++ [r.2])

def dWayF (p : PSt) : PSt × Nat := dWayL ch s (s.size + 1) p []

/-- Ways between bars, always a node of its own. -/
def dChoiceL : Nat → PSt → List Nat → PSt × Nat
  | 0, p, _ => (p, 0)
  | f + 1, p, zs =>
    let r := dWayF ch s p
    if pk s r.1.at' = 124 then dChoiceL f ⟨r.1.at' + 1, r.1.g, r.1.l⟩ (zs ++ [r.2]) else addN r.1 r.1.at' (rowN 4 (zs ++ [r.2]))

def dChoiceF (p : PSt) : PSt × Nat := dChoiceL ch s (s.size + 1) p []
end

/-- A whole pattern, to a depth. -/
def dChoiceN (s : ByteArray) : Nat → PSt → PSt × Nat
  | 0, p => (p, 0)
  | n + 1, p => dChoiceF (dChoiceN s n) s p

/-- The tree of a pattern as the document reads it. -/
def docOf (s : ByteArray) : PSt × Nat := dChoiceN s 41 ⟨0, 0, []⟩

theorem sub_first {d : Nd} (h : d.subs ≠ []) : d.subs.getD 0 0 ∈ d.subs := getD_mem h

/-- Later nodes do not matter. -/
theorem mOf_ext (s : ByteArray) {l l2 : List Nd} (hw : Wf l) : ∀ (f n : Nat), n < l.length → mOf s (l ++ l2) f n = mOf s l f n
  | 0, _, _ => rfl
  | f + 1, n, hn => by
    funext i j
    simp only [mOf]
    rw [List.getElem?_append_left hn]
    cases hd : l[n]? with
    | none => rfl
    | some d =>
      obtain ⟨hs, h6⟩ := hw n d hd
      have ih : ∀ x ∈ d.subs, mOf s (l ++ l2) f x = mOf s l f x := fun x hx => mOf_ext s hw f x (by have := hs x hx; omega)
      have e1 : (d.subs.map fun x => mOf s (l ++ l2) f x) = d.subs.map fun x => mOf s l f x := List.map_congr_left ih
      simp only
      rw [e1]
      split
      · rfl
      · split
        · rfl
        · split
          · rfl
          · split
            · rfl
            · split
              · rename_i h66
                rw [ih _ (sub_first (h6 h66))]
              · apply propext
                exact exists_congr fun x => and_congr_right fun hx => by rw [ih x hx]

theorem Mat_ext (s : ByteArray) {l l2 : List Nd} (hw : Wf l) {n : Nat} (hn : n < l.length) : Mat s (l ++ l2) n = Mat s l n := mOf_ext s hw (n + 1) n hn

section
variable {m m' : Nat → Nat → Nat → Prop} {g g' : Nat → Nat → Nat → Caps → Caps → Prop}

theorem altG.congr2 : ∀ {l : List Nat}, (∀ x ∈ l, m x = m' x) → (∀ x ∈ l, g x = g' x) → altG m g l = altG m' g' l
  | [], _, _ => by funext i j c c'; rfl
  | x :: xs, h, h' => by
    funext i j c c'
    simp only [altG]
    rw [h x (by simp), h' x (by simp), altG.congr2 (l := xs) (fun y hy => h y (List.mem_cons_of_mem _ hy)) (fun y hy => h' y (List.mem_cons_of_mem _ hy))]

theorem rowG.congr2 : ∀ {l : List Nat}, (∀ x ∈ l, m x = m' x) → (∀ x ∈ l, g x = g' x) → rowG m g l = rowG m' g' l
  | [], _, _ => by funext i j c c'; rfl
  | x :: xs, h, h' => by
    funext i j c c'
    simp only [rowG]
    have e : xs.map m = xs.map m' := List.map_congr_left fun y hy => h y (List.mem_cons_of_mem _ hy)
    rw [h x (by simp), h' x (by simp), e, rowG.congr2 (l := xs) (fun y hy => h y (List.mem_cons_of_mem _ hy)) (fun y hy => h' y (List.mem_cons_of_mem _ hy))]

theorem repP.congr2 {x lo : Nat} {hi : Int} (h : m x = m' x) (h' : g x = g' x) : ∀ f, repP m g x lo hi f = repP m' g' x lo hi f
  | 0 => by funext a i j c c'; rfl
  | f + 1 => by
    funext a i j c c'
    simp only [repP]
    rw [h, h', repP.congr2 h h' f]
end

theorem pgOf_ext (s : ByteArray) {l l2 : List Nd} (hw : Wf l) (h3 : ∀ (n : Nat) (d : Nd), l[n]? = some d → d.kind = 3 → d.subs ≠ []) : ∀ (f n : Nat), n < l.length → pgOf s (l ++ l2) f n = pgOf s l f n
  | 0, _, _ => rfl
  | f + 1, n, hn => by
    funext i j c c'
    simp only [pgOf]
    apply propext
    rw [List.getElem?_append_left hn]
    refine exists_congr fun d => and_congr_right fun hd => ?_
    obtain ⟨hs, h6⟩ := hw n d hd
    have ih : ∀ x ∈ d.subs, pgOf s (l ++ l2) f x = pgOf s l f x := fun x hx => pgOf_ext s hw h3 f x (by have := hs x hx; omega)
    have im : ∀ x ∈ d.subs, Mat s (l ++ l2) x = Mat s l x := fun x hx => Mat_ext s hw (by have := hs x hx; omega)
    split
    · rename_i hk; rw [ih _ (getD_mem (h3 n d hd hk))]
    · split
      · rw [altG.congr2 im ih]
      · split
        · rw [rowG.congr2 im ih]
        · split
          · rename_i hk; rw [repP.congr2 (im _ (getD_mem (h6 hk))) (ih _ (getD_mem (h6 hk)))]
          · exact Iff.rfl

theorem PGv_ext (s : ByteArray) {l l2 : List Nd} (hw : Wf l) (h3 : ∀ (n : Nat) (d : Nd), l[n]? = some d → d.kind = 3 → d.subs ≠ []) {n : Nat} (hn : n < l.length) : PGv s (l ++ l2) n = PGv s l n := pgOf_ext s hw h3 (n + 1) n hn


theorem innV_lt (s : ByteArray) (i : Nat) : i < (innV s i).2 := by
  unfold innV
  split <;> simp

theorem betV_lt (s : ByteArray) (i : Nat) : i < (betV s i).2.2 := by
  have h := innV_lt s i
  unfold betV
  split
  · have := innV_lt s ((innV s i).2 + 1)
    simp only
    omega
  · exact h

/-- A set that is not empty and ends in the text is read alike. -/
theorem dSetL_eq (s : ByteArray) : ∀ (f i : Nat) (S : Nat → Bool), pk s i ≠ 93 → s.size < i + f → (setL s f i S).1 ≤ s.size → dSetL s (f + 1) i S = setL s f i S
  | 0, i, S, _, h2, h3 => by
    have : i ≤ s.size := h3
    omega
  | f + 1, i, S, h1, h2, h3 => by
    have hl := betV_lt s i
    rw [dSetL, if_neg h1]
    rw [setL] at h3 ⊢
    split
    · rename_i h
      rw [dSetL, if_pos h]
    · rename_i h
      rw [if_neg h] at h3
      exact dSetL_eq s f _ _ h (by omega) h3

theorem dSetV_eq {s : ByteArray} {i : Nat} (h1 : pk s (i + 1) = 94 → pk s (i + 2) ≠ 93) (h2 : pk s (i + 1) ≠ 93) (h3 : (setV s i).1 ≤ s.size) : dSetV s i = setV s i := by
  unfold dSetV
  unfold setV at h3 ⊢
  split
  · rename_i h
    rw [if_pos h] at h3
    rw [dSetL_eq s s.size (i + 2) noSet (h1 h) (by omega) h3]
  · rename_i h
    rw [if_neg h] at h3
    exact dSetL_eq s s.size (i + 1) noSet h2 (by omega) h3

theorem dOneF_eq {ch : PSt → PSt × Nat} {s : ByteArray} {p : PSt} (h : byt s p.at' = 91 → dSetV s p.at' = setV s p.at') : dOneF ch s p = oneF ch s p := by
  unfold dOneF oneF
  simp only
  by_cases h91 : byt s p.at' = 91
  · rw [h h91]
  · simp only [if_neg h91]
end Go.Proofs.Ytppjlpihaocdiaa

