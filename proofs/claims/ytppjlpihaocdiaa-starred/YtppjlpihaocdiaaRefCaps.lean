/- What each bracket gets, as plain mathematics: a relation that is determined. -/
import Derived.Test.YtppjlpihaocdiaaRefSpec
namespace Go.Proofs.Ytppjlpihaocdiaa

/-- What the brackets have got: from where to where. -/
abbrev Caps := List (Int × Int)

/-- The greatest place up to j that serves; i itself, if none behind it does. -/
def Top (P : Nat → Prop) (i j t : Nat) : Prop := i ≤ t ∧ t ≤ j ∧ (∀ u, t < u → u ≤ j → ¬ P u) ∧ (t = i ∨ P t)

theorem Top.one {P : Nat → Prop} {i j t t' : Nat} (h : Top P i j t) (h' : Top P i j t') : t = t' := by
  obtain ⟨a1, a2, a3, a4⟩ := h
  obtain ⟨b1, b2, b3, b4⟩ := h'
  rcases Nat.lt_trichotomy t t' with e | e | e
  · rcases b4 with b | b
    · omega
    · exact absurd b (a3 t' e b2)
  · exact e
  · rcases a4 with a | a
    · omega
    · exact absurd a (b3 t e a2)

section
variable (m : Nat → Nat → Nat → Prop) (g : Nat → Nat → Nat → Caps → Caps → Prop)

/-- Ways: the first that matches. -/
def altG : List Nat → Nat → Nat → Caps → Caps → Prop
  | [], _, _, c, c' => c' = c
  | x :: xs, i, j, c, c' => (m x i j ∧ g x i j c c') ∨ (¬ m x i j ∧ altG xs i j c c')

/-- A row: each part the longest beginning, while the others match the rest. -/
def rowG : List Nat → Nat → Nat → Caps → Caps → Prop
  | [], _, _, c, c' => c' = c
  | x :: xs, i, j, c, c' => ∃ t c1, Top (fun t => m x i t ∧ Chain (xs.map m) t j) i j t ∧ g x i t c c1 ∧ rowG xs t j c1 c'

/-- A repetition: each time the longest beginning, while what is still to come matches the rest. -/
def repG (x lo : Nat) (hi : Int) : Nat → Nat → Nat → Nat → Caps → Caps → Prop
  | 0, _, _, _, c, c' => c' = c
  | f + 1, done, i, j, c, c' => (¬ (i < j ∨ done < lo) ∧ c' = c) ∨
      ((i < j ∨ done < lo) ∧ ∃ t c1, Top (fun t => m x i t ∧ TimesR (m x) lo hi (done + 1) (fun k => k = t) j) i j t ∧ g x i t c c1 ∧ repG x lo hi f (done + 1) t j c1 c')

variable {m g}

theorem altG.one (hg : ∀ x i j c c1 c2, g x i j c c1 → g x i j c c2 → c1 = c2) : ∀ {l : List Nat} {i j : Nat} {c c1 c2 : Caps}, altG m g l i j c c1 → altG m g l i j c c2 → c1 = c2
  | [], _, _, _, _, _, h, h' => by rw [h, h']
  | x :: xs, i, j, c, c1, c2, h, h' => by
    rcases h with ⟨a, b⟩ | ⟨a, b⟩
    · rcases h' with ⟨a', b'⟩ | ⟨a', b'⟩
      · exact hg _ _ _ _ _ _ b b'
      · exact absurd a a'
    · rcases h' with ⟨a', b'⟩ | ⟨a', b'⟩
      · exact absurd a' a
      · exact altG.one hg b b'

theorem rowG.one (hg : ∀ x i j c c1 c2, g x i j c c1 → g x i j c c2 → c1 = c2) : ∀ {l : List Nat} {i j : Nat} {c c1 c2 : Caps}, rowG m g l i j c c1 → rowG m g l i j c c2 → c1 = c2
  | [], _, _, _, _, _, h, h' => by rw [h, h']
  | x :: xs, i, j, c, c1, c2, h, h' => by
    obtain ⟨t, d, a1, a2, a3⟩ := h
    obtain ⟨t', d', b1, b2, b3⟩ := h'
    have e := a1.one b1
    subst e
    have e := hg _ _ _ _ _ _ a2 b2
    subst e
    exact rowG.one hg a3 b3

theorem repG.one (hg : ∀ x i j c c1 c2, g x i j c c1 → g x i j c c2 → c1 = c2) {x lo : Nat} {hi : Int} : ∀ {f done i j : Nat} {c c1 c2 : Caps}, repG m g x lo hi f done i j c c1 → repG m g x lo hi f done i j c c2 → c1 = c2
  | 0, _, _, _, _, _, _, h, h' => by rw [h, h']
  | f + 1, done, i, j, c, c1, c2, h, h' => by
    rcases h with ⟨a, b⟩ | ⟨a, t, d, a1, a2, a3⟩
    · rcases h' with ⟨_, b'⟩ | ⟨a', _⟩
      · rw [b, b']
      · exact absurd a' a
    · rcases h' with ⟨a', _⟩ | ⟨_, t', d', b1, b2, b3⟩
      · exact absurd a a'
      · have e := a1.one b1
        subst e
        have e := hg _ _ _ _ _ _ a2 b2
        subst e
        exact repG.one hg a3 b3
end

/-- What a node gives its brackets, if it has the stretch from i to j. -/
def gOf (s : ByteArray) (nodes : List Nd) : Nat → Nat → Nat → Nat → Caps → Caps → Prop
  | 0, _, _, _, _, _ => False
  | f + 1, n, i, j, c, c' => ∃ d, nodes[n]? = some d ∧
      (if d.kind = 3 then gOf s nodes f (d.subs.getD 0 0) i j (c.set d.num ((i : Int), (j : Int))) c'
      else if d.kind = 4 then altG (Mat s nodes) (gOf s nodes f) d.subs i j c c'
      else if d.kind = 5 then rowG (Mat s nodes) (gOf s nodes f) d.subs i j c c'
      else if d.kind = 6 then repG (Mat s nodes) (gOf s nodes f) (d.subs.getD 0 0) d.lo d.hi (d.lo + s.size + 1) 0 i j c c'
      else c' = c)

theorem gOf.one (s : ByteArray) (nodes : List Nd) : ∀ {f n i j : Nat} {c c1 c2 : Caps}, gOf s nodes f n i j c c1 → gOf s nodes f n i j c c2 → c1 = c2
  | 0, _, _, _, _, _, _, h, _ => h.elim
  | f + 1, n, i, j, c, c1, c2, h, h' => by
    obtain ⟨d, e, h⟩ := h
    obtain ⟨d', e', h'⟩ := h'
    rw [e] at e'
    cases e'
    have ih : ∀ x i j c c1 c2, gOf s nodes f x i j c c1 → gOf s nodes f x i j c c2 → c1 = c2 := fun _ _ _ _ _ _ a b => gOf.one s nodes a b
    split at h
    · rename_i k; rw [if_pos k] at h'; exact ih _ _ _ _ _ _ h h'
    · rename_i k; rw [if_neg k] at h'
      split at h
      · rename_i k; rw [if_pos k] at h'; exact altG.one ih h h'
      · rename_i k; rw [if_neg k] at h'
        split at h
        · rename_i k; rw [if_pos k] at h'; exact rowG.one ih h h'
        · rename_i k; rw [if_neg k] at h'
          split at h
          · rename_i k; rw [if_pos k] at h'; exact repG.one ih h h'
          · rename_i k; rw [if_neg k] at h'; rw [h, h']

end Go.Proofs.Ytppjlpihaocdiaa
