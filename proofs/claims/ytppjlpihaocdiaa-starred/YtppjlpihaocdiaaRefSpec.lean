/- What a pattern matches, as plain mathematics: no Go text. -/
import Derived.Test.YtppjlpihaocdiaaPure
namespace Go.Proofs.Ytppjlpihaocdiaa

/-- n steps of a relation. -/
def Pow (R : Nat → Nat → Prop) : Nat → Nat → Nat → Prop
  | 0, i, j => i = j
  | n + 1, i, j => ∃ m, R i m ∧ Pow R n m j

/-- A step that is not empty. -/
def Full (R : Nat → Nat → Prop) (i j : Nat) : Prop := R i j ∧ i ≠ j

/-- m times, then, as often as there is room for, one that is not empty. -/
def Times (R : Nat → Nat → Prop) (lo : Nat) (hi : Int) (i j : Nat) : Prop := ∃ (m q : Nat), Pow R lo i m ∧ (hi < 0 ∨ (lo : Int) + q ≤ hi) ∧ Pow (Full R) q m j

theorem Pow.le {R : Nat → Nat → Prop} {L : Nat} (hR : ∀ i j, i ≤ L → R i j → i ≤ j ∧ j ≤ L) : ∀ {n i j : Nat}, i ≤ L → Pow R n i j → i ≤ j ∧ j ≤ L
  | 0, i, j, hi, h => by cases h; omega
  | n + 1, i, j, hi, h => by
    obtain ⟨m, h1, h2⟩ := h
    have a := hR i m hi h1
    have b := Pow.le hR a.2 h2
    omega

theorem Pow.snoc {R : Nat → Nat → Prop} : ∀ {n i m j : Nat}, Pow R n i m → R m j → Pow R (n + 1) i j
  | 0, i, m, j, h, hr => by cases h; exact ⟨j, hr, rfl⟩
  | n + 1, i, m, j, h, hr => by
    obtain ⟨k, h1, h2⟩ := h
    exact ⟨k, h1, Pow.snoc h2 hr⟩

theorem Pow.unsnoc {R : Nat → Nat → Prop} : ∀ {n i j : Nat}, Pow R (n + 1) i j → ∃ m, Pow R n i m ∧ R m j
  | 0, i, j, h => by
    obtain ⟨k, h1, h2⟩ := h
    cases h2
    exact ⟨i, rfl, h1⟩
  | n + 1, i, j, h => by
    obtain ⟨k, h1, h2⟩ := h
    obtain ⟨m, h3, h4⟩ := Pow.unsnoc h2
    exact ⟨m, ⟨k, h1, h3⟩, h4⟩

theorem Pow.full_len {R : Nat → Nat → Prop} {L : Nat} (hR : ∀ i j, i ≤ L → R i j → i ≤ j ∧ j ≤ L) : ∀ {n i j : Nat}, i ≤ L → Pow (Full R) n i j → i + n ≤ j
  | 0, i, j, hi, h => by cases h; omega
  | n + 1, i, j, hi, h => by
    obtain ⟨m, ⟨h1, h1'⟩, h2⟩ := h
    have a := hR i m hi h1
    have b := Pow.full_len hR a.2 h2
    omega


/-- Nothing leads out of the text, and nothing goes back. -/
def Stays (L : Nat) (R : Nat → Nat → Prop) : Prop := ∀ i j, i ≤ L → R i j → i ≤ j ∧ j ≤ L

theorem Stays.full {L : Nat} {R : Nat → Nat → Prop} (h : Stays L R) : Stays L (Full R) := fun i j hi hr => h i j hi hr.1

theorem Stays.times {L : Nat} {R : Nat → Nat → Prop} (h : Stays L R) (lo : Nat) (hi : Int) : Stays L (Times R lo hi) := by
  rintro i j hi' ⟨m, q, h1, _, h2⟩
  have x := Pow.le h hi' h1
  have y := Pow.le h.full x.2 h2
  omega

/-- A row, part by part. -/
def Chain : List (Nat → Nat → Prop) → Nat → Nat → Prop
  | [], i, j => i = j
  | r :: rs, i, j => ∃ m, r i m ∧ Chain rs m j

theorem Stays.chain {L : Nat} : ∀ {l : List (Nat → Nat → Prop)}, (∀ r ∈ l, Stays L r) → Stays L (Chain l)
  | [], _ => by rintro i j hi rfl; omega
  | r :: rs, h => by
    rintro i j hi ⟨m, h1, h2⟩
    have x := h r (by simp) i m hi h1
    have y := Stays.chain (l := rs) (fun r hr => h r (List.mem_cons_of_mem _ hr)) m j x.2 h2
    omega

theorem Chain.snoc {r : Nat → Nat → Prop} : ∀ {l : List (Nat → Nat → Prop)} {i m j : Nat}, Chain l i m → r m j → Chain (l ++ [r]) i j
  | [], i, m, j, h, hr => by cases h; exact ⟨j, hr, rfl⟩
  | a :: l, i, m, j, h, hr => by
    obtain ⟨k, h1, h2⟩ := h
    exact ⟨k, h1, Chain.snoc h2 hr⟩

theorem Chain.unsnoc {r : Nat → Nat → Prop} : ∀ {l : List (Nat → Nat → Prop)} {i j : Nat}, Chain (l ++ [r]) i j → ∃ m, Chain l i m ∧ r m j
  | [], i, j, h => by
    obtain ⟨k, h1, h2⟩ := h
    cases h2
    exact ⟨i, rfl, h1⟩
  | a :: l, i, j, h => by
    obtain ⟨k, h1, h2⟩ := h
    obtain ⟨m, h3, h4⟩ := Chain.unsnoc h2
    exact ⟨m, ⟨k, h1, h3⟩, h4⟩

/-- A node of the document's tree. -/
structure Nd where
  kind : Nat
  set : Nat → Bool
  subs : List Nat
  num : Nat
  lo : Nat
  hi : Int

/-- What a node matches: the stretch from i to j of the text s. -/
def mOf (s : ByteArray) (nodes : List Nd) : Nat → Nat → Nat → Nat → Prop
  | 0, _, _, _ => False
  | f + 1, n, i, j => match nodes[n]? with
    | none => False
    | some d =>
      if d.kind = 0 then i < s.size ∧ d.set (byt s i) = true ∧ j = i + 1
      else if d.kind = 1 then i = 0 ∧ j = i
      else if d.kind = 2 then i = s.size ∧ j = i
      else if d.kind = 5 then Chain (d.subs.map fun x => mOf s nodes f x) i j
      else if d.kind = 6 then Times (mOf s nodes f (d.subs.getD 0 0)) d.lo d.hi i j
      else ∃ x ∈ d.subs, mOf s nodes f x i j

/-- The parts of a node stand ahead of it. -/
def Wf (nodes : List Nd) : Prop := ∀ (n : Nat) (d : Nd), nodes[n]? = some d → (∀ x ∈ d.subs, x < n) ∧ (d.kind = 6 → d.subs ≠ [])

theorem mOf_more (s : ByteArray) (nodes : List Nd) (hw : Wf nodes) : ∀ (f f' n : Nat), n < f → n < f' → mOf s nodes f n = mOf s nodes f' n
  | 0, _, _, h, _ => by omega
  | _, 0, _, _, h => by omega
  | f + 1, f' + 1, n, h, h' => by
    funext i j
    simp only [mOf]
    cases hd : nodes[n]? with
    | none => rfl
    | some d =>
      obtain ⟨hs, h6⟩ := hw n d hd
      have ih : ∀ x ∈ d.subs, mOf s nodes f x = mOf s nodes f' x := fun x hx => mOf_more s nodes hw f f' x (by have := hs x hx; omega) (by have := hs x hx; omega)
      have e1 : (d.subs.map fun x => mOf s nodes f x) = d.subs.map fun x => mOf s nodes f' x := List.map_congr_left ih
      simp only
      rw [e1]
      split
      · rfl
      · split
        · rfl
        · split
          · rfl
          · split
            · rfl
            · split
              · rename_i h66
                have hne := h6 h66
                have : d.subs.getD 0 0 ∈ d.subs := by
                  cases hd2 : d.subs with
                  | nil => exact absurd hd2 hne
                  | cons a l => simp
                rw [ih _ this]
              · apply propext
                constructor
                · rintro ⟨x, hx, hm⟩; exact ⟨x, hx, by rw [← ih x hx]; exact hm⟩
                · rintro ⟨x, hx, hm⟩; exact ⟨x, hx, by rw [ih x hx]; exact hm⟩

/-- What node n matches. -/
def Mat (s : ByteArray) (nodes : List Nd) (n : Nat) : Nat → Nat → Prop := mOf s nodes (n + 1) n

theorem Mat_eq {s : ByteArray} {nodes : List Nd} (hw : Wf nodes) {n : Nat} {d : Nd} (hd : nodes[n]? = some d) (i j : Nat) : Mat s nodes n i j ↔
      (if d.kind = 0 then i < s.size ∧ d.set (byt s i) = true ∧ j = i + 1
      else if d.kind = 1 then i = 0 ∧ j = i
      else if d.kind = 2 then i = s.size ∧ j = i
      else if d.kind = 5 then Chain (d.subs.map fun x => Mat s nodes x) i j
      else if d.kind = 6 then Times (Mat s nodes (d.subs.getD 0 0)) d.lo d.hi i j
      else ∃ x ∈ d.subs, Mat s nodes x i j) := by
  obtain ⟨hs, h6⟩ := hw n d hd
  have ih : ∀ x ∈ d.subs, mOf s nodes n x = Mat s nodes x := fun x hx => mOf_more s nodes hw n (x + 1) x (hs x hx) (by omega)
  have e1 : (d.subs.map fun x => mOf s nodes n x) = d.subs.map fun x => Mat s nodes x := List.map_congr_left ih
  unfold Mat
  rw [mOf, hd]
  simp only
  rw [e1]
  split
  · exact Iff.rfl
  · split
    · exact Iff.rfl
    · split
      · exact Iff.rfl
      · split
        · exact Iff.rfl
        · split
          · rename_i h66
            have hne := h6 h66
            have hm : d.subs.getD 0 0 ∈ d.subs := by
              cases hd2 : d.subs with
              | nil => exact absurd hd2 hne
              | cons a l => simp
            rw [ih _ hm]
            exact Iff.rfl
          · constructor
            · rintro ⟨x, hx, hm⟩; exact ⟨x, hx, by have := ih x hx; rw [this] at hm; exact hm⟩
            · rintro ⟨x, hx, hm⟩; exact ⟨x, hx, by rw [ih x hx]; exact hm⟩

theorem Mat_stays (s : ByteArray) {nodes : List Nd} (hw : Wf nodes) : ∀ (N n : Nat), n < N → Stays s.size (Mat s nodes n)
  | 0, n, h => by omega
  | N + 1, n, h => by
    intro i j hi hm
    cases hd : nodes[n]? with
    | none => unfold Mat at hm; rw [mOf, hd] at hm; exact hm.elim
    | some d =>
      obtain ⟨hs, h6⟩ := hw n d hd
      rw [Mat_eq hw hd] at hm
      split at hm
      · obtain ⟨a, _, b⟩ := hm; omega
      · split at hm
        · omega
        · split at hm
          · omega
          · split at hm
            · refine Stays.chain ?_ i j hi hm
              intro r hr
              obtain ⟨x, hx, rfl⟩ := List.mem_map.1 hr
              exact Mat_stays s hw N x (by have := hs x hx; omega)
            · split at hm
              · rename_i h66
                have hne := h6 h66
                have hmem : d.subs.getD 0 0 ∈ d.subs := by
                  cases hd2 : d.subs with
                  | nil => exact absurd hd2 hne
                  | cons a l => simp
                exact Stays.times (Mat_stays s hw N _ (by have := hs _ hmem; omega)) _ _ i j hi hm
              · obtain ⟨x, hx, hm⟩ := hm
                exact Mat_stays s hw N x (by have := hs x hx; omega) i j hi hm

/-- What 'times' tells. -/
def TimesR (R : Nat → Nat → Prop) (lo : Nat) (hi : Int) (k0 : Nat) (A : Nat → Prop) (j : Nat) : Prop :=
  ∃ (i m q : Nat), A i ∧ Pow R (lo - k0) i m ∧ (q = 0 ∨ hi < 0 ∨ ((max k0 lo : Nat) : Int) + q ≤ hi) ∧ Pow (Full R) q m j

end Go.Proofs.Ytppjlpihaocdiaa
