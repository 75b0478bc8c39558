/- Several texts in one. -/
import Derived.Test.YtppjlpihaocdiaaSSpecK
/- What a pattern matches, as plain mathematics: no Go text. -/
namespace Go.Proofs.Ytppjlpihaocdiaa

/-- n steps of a relation. -/
def Pow (R : Nat → Nat → Prop) : Nat → Nat → Nat → Prop
  | 0, i, j => i = j
  | n + 1, i, j => ∃ m, R i m ∧ Pow R n m j

/-- A step that is not empty. -/
def Full (R : Nat → Nat → Prop) (i j : Nat) : Prop := R i j ∧ i ≠ j

/-- m times, then, as often as there is room for, one that is not empty. -/
def Times (R : Nat → Nat → Prop) (lo : Nat) (hi : Int) (i j : Nat) : Prop := ∃ (m q : Nat), Pow R lo i m ∧ (hi < 0 ∨ (lo : Int) + q ≤ hi) ∧ Pow (Full R) q m j

theorem Pow.le {R : Nat → Nat → Prop} {L : Nat} (hR : ∀ i j, i ≤ L → R i j → i ≤ j ∧ j ≤ L) : ∀ {n i j : Nat}, i ≤ L → Pow R n i j → i ≤ j ∧ j ≤ L
  | 0, i, j, hi, h => by cases h; omega
  | n + 1, i, j, hi, h => by
    obtain ⟨m, h1, h2⟩ := h
    have a := hR i m hi h1
    have b := Pow.le hR a.2 h2
    omega

theorem Pow.snoc {R : Nat → Nat → Prop} : ∀ {n i m j : Nat}, Pow R n i m → R m j → Pow R (n + 1) i j
  | 0, i, m, j, h, hr => by cases h; exact ⟨j, hr, rfl⟩
  | n + 1, i, m, j, h, hr => by
    obtain ⟨k, h1, h2⟩ := h
    exact ⟨k, h1, Pow.snoc h2 hr⟩

theorem Pow.unsnoc {R : Nat → Nat → Prop} : ∀ {n i j : Nat}, Pow R (n + 1) i j → ∃ m, Pow R n i m ∧ R m j
  | 0, i, j, h => by
    obtain ⟨k, h1, h2⟩ := h
    cases h2
    exact ⟨i, rfl, h1⟩
  | n + 1, i, j, h => by
    obtain ⟨k, h1, h2⟩ := h
    obtain ⟨m, h3, h4⟩ := Pow.unsnoc h2
    exact ⟨m, ⟨k, h1, h3⟩, h4⟩

theorem Pow.full_len {R : Nat → Nat → Prop} {L : Nat} (hR : ∀ i j, i ≤ L → R i j → i ≤ j ∧ j ≤ L) : ∀ {n i j : Nat}, i ≤ L → Pow (Full R) n i j → i + n ≤ j
  | 0, i, j, hi, h => by cases h; omega
  | n + 1, i, j, hi, h => by
    obtain ⟨m, ⟨h1, h1'⟩, h2⟩ := h
    have a := hR i m hi h1
    have b := Pow.full_len hR a.2 h2
    omega


/-- Nothing leads out of the text, and nothing goes back. -/
def Stays (L : Nat) (R : Nat → Nat → Prop) : Prop := ∀ i j, i ≤ L → R i j → i ≤ j ∧ j ≤ L

theorem Stays.full {L : Nat} {R : Nat → Nat → Prop} (h : Stays L R) : Stays L (Full R) := fun i j hi hr => h i j hi hr.1

theorem Stays.times {L : Nat} {R : Nat → Nat → Prop} (h : Stays L R) (lo : Nat) (hi : Int) : Stays L (Times R lo hi) := by
  rintro i j hi' ⟨m, q, h1, _, h2⟩
  have x := Pow.le h hi' h1
  have y := Pow.le h.full x.2 h2
  omega

/-- A row, part by part. -/
def Chain : List (Nat → Nat → Prop) → Nat → Nat → Prop
  | [], i, j => i = j
  | r :: rs, i, j => ∃ m, r i m ∧ Chain rs m j

theorem Stays.chain {L : Nat} : ∀ {l : List (Nat → Nat → Prop)}, (∀ r ∈ l, Stays L r) → Stays L (Chain l)
  | [], _ => by rintro i j hi rfl; omega
  | r :: rs, h => by
    rintro i j hi ⟨m, h1, h2⟩
    have x := h r (by simp) i m hi h1
    have y := Stays.chain (l := rs) (fun r hr => h r (List.mem_cons_of_mem _ hr)) m j x.2 h2
    omega

theorem Chain.snoc {r : Nat → Nat → Prop} : ∀ {l : List (Nat → Nat → Prop)} {i m j : Nat}, Chain l i m → r m j → Chain (l ++ [r]) i j
  | [], i, m, j, h, hr => by cases h; exact ⟨j, hr, rfl⟩
  | a :: l, i, m, j, h, hr => by
    obtain ⟨k, h1, h2⟩ := h
    exact ⟨k, h1, Chain.snoc h2 hr⟩

theorem Chain.unsnoc {r : Nat → Nat → Prop} : ∀ {l : List (Nat → Nat → Prop)} {i j : Nat}, Chain (l ++ [r]) i j → ∃ m, Chain l i m ∧ r m j
  | [], i, j, h => by
    obtain ⟨k, h1, h2⟩ := h
    cases h2
    exact ⟨i, rfl, h1⟩
  | a :: l, i, j, h => by
    obtain ⟨k, h1, h2⟩ := h
    obtain ⟨m, h3, h4⟩ := Chain.unsnoc h2
    exact ⟨m, ⟨k, h1, h3⟩, h4⟩

/-- A node of the document's tree. -/
structure Nd where
  kind : Nat
  set : Nat → Bool
  subs : List Nat
  num : Nat
  lo : Nat
  hi : Int

/-- What a node matches: the stretch from i to j of the text s. -/
def mOf (s : ByteArray) (nodes : List Nd) : Nat → Nat → Nat → Nat → Prop
  | 0, _, _, _ => False
  | f + 1, n, i, j => match nodes[n]? with
    | none => False
    | some d =>
      if d.kind = 0 then i < s.size ∧ d.set (byt s i) = true ∧ j = i + 1
      else if d.kind = 1 then i = 0 ∧ j = i
      else if d.kind = 2 then i = s.size ∧ j = i
      else if d.kind = 5 then Chain (d.subs.map fun x => mOf s nodes f x) i j
      else if d.kind = 6 then Times (mOf s nodes f (d.subs.getD 0 0)) d.lo d.hi i j
      else ∃ x ∈ d.subs, mOf s nodes f x i j

/-- The parts of a node stand ahead of it. -/
def Wf (nodes : List Nd) : Prop := ∀ (n : Nat) (d : Nd), nodes[n]? = some d → (∀ x ∈ d.subs, x < n) ∧ (d.kind = 6 → d.subs ≠ [])

theorem mOf_more (s : ByteArray) (nodes : List Nd) (hw : Wf nodes) : ∀ (f f' n : Nat), n < f → n < f' → mOf s nodes f n = mOf s nodes f' n
  | 0, _, _, h, _ => by omega
  | _, 0, _, _, h => by omega
  | f + 1, f' + 1, n, h, h' => by
    funext i j
    simp only [mOf]
    cases hd : nodes[n]? with
    | none => rfl
    | some d =>
      obtain ⟨hs, h6⟩ := hw n d hd
      have ih : ∀ x ∈ d.subs, mOf s nodes f x = mOf s nodes f' x := fun x hx => mOf_more s nodes hw f f' x (by have := hs x hx; omega) (by have := hs x hx; omega)
      have e1 : (d.subs.map fun x => mOf s nodes f x) = d.subs.map fun x => mOf s nodes f' x := List.map_congr_left ih
      simp only
      rw [e1]
      split
      · rfl
      · split
        · rfl
        · split
          · rfl
          · split
            · rfl
            · split
              · rename_i h66
                have hne := h6 h66
                have : d.subs.getD 0 0 ∈ d.subs := by
                  cases hd2 : d.subs with
                  | nil => exact absurd hd2 hne
                  | cons a l => simp
                rw [ih _ this]
              · apply propext
                constructor
                · rintro ⟨x, hx, hm⟩; exact ⟨x, hx, by rw [← ih x hx]; exact hm⟩
                · rintro ⟨x, hx, hm⟩; exact ⟨x, hx, by rw [ih x hx]; exact hm⟩

/-- What node n matches. -/
def Mat (s : ByteArray) (nodes : List Nd) (n : Nat) : Nat → Nat → Prop := mOf s nodes (n + 1) n

theorem Mat_eq {s : ByteArray} {nodes : List Nd} (hw : Wf nodes) {n : Nat} {d : Nd} (hd : nodes[n]? = some d) (i j : Nat) : Mat s nodes n i j ↔
      (if d.kind = 0 then i < s.size ∧ d.set (byt s i) = true ∧ j = i + 1
      else if d.kind = 1 then i = 0 ∧ j = i
      else if d.kind = 2 then i = s.size ∧ j = i
      else if d.kind = 5 then Chain (d.subs.map fun x => Mat s nodes x) i j
      else if d.kind = 6 then Times (Mat s nodes (d.subs.getD 0 0)) d.lo d.hi i j
      else ∃ x ∈ d.subs, Mat s nodes x i j) := by
  obtain ⟨hs, h6⟩ := hw n d hd
  have ih : ∀ x ∈ d.subs, mOf s nodes n x = Mat s nodes x := fun x hx => mOf_more s nodes hw n (x + 1) x (hs x hx) (by omega)
  have e1 : (d.subs.map fun x => mOf s nodes n x) = d.subs.map fun x => Mat s nodes x := List.map_congr_left ih
  unfold Mat
  rw [mOf, hd]
  simp only
  rw [e1]
  split
  · exact Iff.rfl
  · split
    · exact Iff.rfl
    · split
      · exact Iff.rfl
      · split
        · exact Iff.rfl
        · split
          · rename_i h66
            have hne := h6 h66
            have hm : d.subs.getD 0 0 ∈ d.subs := by
              cases hd2 : d.subs with
              | nil => exact absurd hd2 hne
              | cons a l => simp
            rw [ih _ hm]
            exact Iff.rfl
          · constructor
            · rintro ⟨x, hx, hm⟩; exact ⟨x, hx, by have := ih x hx; rw [this] at hm; exact hm⟩
            · rintro ⟨x, hx, hm⟩; exact ⟨x, hx, by rw [ih x hx]; exact hm⟩

theorem Mat_stays (s : ByteArray) {nodes : List Nd} (hw : Wf nodes) : ∀ (N n : Nat), n < N → Stays s.size (Mat s nodes n)
  | 0, n, h => by omega
  | N + 1, n, h => by
    intro i j hi hm
    cases hd : nodes[n]? with
    | none => unfold Mat at hm; rw [mOf, hd] at hm; exact hm.elim
    | some d =>
      obtain ⟨hs, h6⟩ := hw n d hd
      rw [Mat_eq hw hd] at hm
      split at hm
      · obtain ⟨a, _, b⟩ := hm; omega
      · split at hm
        · omega
        · split at hm
          · omega
          · split at hm
            · refine Stays.chain ?_ i j hi hm
              intro r hr
              obtain ⟨x, hx, rfl⟩ := List.mem_map.1 hr
              exact Mat_stays s hw N x (by have := hs x hx; omega)
            · split at hm
              · rename_i h66
                have hne := h6 h66
                have hmem : d.subs.getD 0 0 ∈ d.subs := by
                  cases hd2 : d.subs with
                  | nil => exact absurd hd2 hne
                  | cons a l => simp
                exact Stays.times (Mat_stays s hw N _ (by have := hs _ hmem; omega)) _ _ i j hi hm
              · obtain ⟨x, hx, hm⟩ := hm
                exact Mat_stays s hw N x (by have := hs x hx; omega) i j hi hm

/-- What 'times' tells. -/
def TimesR (R : Nat → Nat → Prop) (lo : Nat) (hi : Int) (k0 : Nat) (A : Nat → Prop) (j : Nat) : Prop :=
  ∃ (i m q : Nat), A i ∧ Pow R (lo - k0) i m ∧ (q = 0 ∨ hi < 0 ∨ ((max k0 lo : Nat) : Int) + q ≤ hi) ∧ Pow (Full R) q m j

end Go.Proofs.Ytppjlpihaocdiaa

/- The tree that the program reads out of a pattern, as a plain function; no Go text. -/
set_option linter.unusedVariables false
namespace Go.Proofs.Ytppjlpihaocdiaa

/-- Where a reading stands: the place, the brackets so far, the nodes so far. -/
structure PSt where
  at' : Nat
  g : Nat
  l : List Nd

def noSet : Nat → Bool := fun _ => false
def leaf (k : Nat) (S : Nat → Bool) : Nd := ⟨k, S, [], 0, 0, 0⟩
def grpN (z num : Nat) : Nd := ⟨3, noSet, [z], num, 0, 0⟩
def repN (z lo : Nat) (hi : Int) : Nd := ⟨6, noSet, [z], 0, lo, hi⟩
def rowN (k : Nat) (zs : List Nat) : Nd := ⟨k, noSet, zs, 0, 0, 0⟩

/-- An end of a range, and the place behind it. -/
def innV (s : ByteArray) (i : Nat) : Nat × Nat := if byt s i = 92 then (val (byt s (i + 1)), i + 2) else (byt s i, i + 1)

/-- A range: its ends, and the place behind it. -/
def betV (s : ByteArray) (i : Nat) : Nat × Nat × Nat :=
  if pk s (innV s i).2 = 45 then ((innV s i).1, (innV s ((innV s i).2 + 1)).1, (innV s ((innV s i).2 + 1)).2) else ((innV s i).1, (innV s i).1, (innV s i).2)

/-- One range more. -/
def addR (S : Nat → Bool) (lo hi : Nat) : Nat → Bool := fun c => S c || (decide (lo ≤ c) && decide (c ≤ hi))

/-- The ranges of a set, up to its end. -/
def setL (s : ByteArray) : Nat → Nat → (Nat → Bool) → Nat × (Nat → Bool)
  | 0, i, S => (i, S)
  | f + 1, i, S => if pk s (betV s i).2.2 = 93 then ((betV s i).2.2 + 1, addR S (betV s i).1 (betV s i).2.1) else setL s f (betV s i).2.2 (addR S (betV s i).1 (betV s i).2.1)

/-- A set: the place behind it, and what it holds. -/
def setV (s : ByteArray) (i : Nat) : Nat × (Nat → Bool) :=
  if pk s (i + 1) = 94 then ((setL s s.size (i + 2) noSet).1, fun c => !(setL s s.size (i + 2) noSet).2 c) else setL s s.size (i + 1) noSet

def addN (p : PSt) (j : Nat) (d : Nd) : PSt × Nat := (⟨j, p.g, p.l ++ [d]⟩, p.l.length)

section
variable (ch : PSt → PSt × Nat) (s : ByteArray)

/-- A single part. -/
def oneF (p : PSt) : PSt × Nat :=
  let c := byt s p.at'
  if c = 94 then addN p (p.at' + 1) (leaf 1 noSet)
  else if c = 36 then addN p (p.at' + 1) (leaf 2 noSet)
  else if c = 46 then addN p (p.at' + 1) (leaf 0 fun _ => true)
  else if c = 40 then
    let r := ch ⟨p.at' + 1, p.g + 1, p.l⟩
    addN r.1 (r.1.at' + 1) (grpN r.2 p.g)
  else if c = 91 then addN p (setV s p.at').1 (leaf 0 (setV s p.at').2)
  else if c = 92 then addN p (p.at' + 2) (leaf 0 (addR noSet (val (byt s (p.at' + 1))) (val (byt s (p.at' + 1)))))
  else addN p (p.at' + 1) (leaf 0 (addR noSet c c))

/-- A part with its repetition. -/
def partF (p : PSt) : PSt × Nat :=
  let r := oneF ch s p
  let c := pk s r.1.at'
  if c = 42 then addN r.1 (r.1.at' + 1) (repN r.2 0 (-1))
  else if c = 43 then addN r.1 (r.1.at' + 1) (repN r.2 1 (-1))
  else if c = 63 then addN r.1 (r.1.at' + 1) (repN r.2 0 1)
  else if c = 123 then
    let lo := byt s (r.1.at' + 1) - 48
    if pk s (r.1.at' + 2) = 44 then addN r.1 (r.1.at' + 5) (repN r.2 lo ((byt s (r.1.at' + 3) - 48 : Nat) : Int))
    else addN r.1 (r.1.at' + 3) (repN r.2 lo (lo : Int))
  else r

/-- One node of several; one alone needs no parent. -/
def joinF (k : Nat) (zs : List Nat) (p : PSt) : PSt × Nat := match zs with
  | [z] => (p, z)
  | zs => addN p p.at' (rowN k zs)

def startsP (i : Nat) : Bool := decide (i < s.size) && !inB noStart (byt s i)

/-- A row of parts. -/
def wayL : Nat → PSt → List Nat → PSt × Nat
  | 0, p, _ => (p, 0)
  | f + 1, p, zs =>
    let r := partF ch s p
    if startsP s r.1.at' = true then wayL f r.1 (zs ++ [r.2]) else joinF 5 (zs ++ [r.2]) r.1

def wayF (p : PSt) : PSt × Nat := wayL ch s s.size p []

/-- Ways between bars. -/
def choiceL : Nat → PSt → List Nat → PSt × Nat
  | 0, p, _ => (p, 0)
  | f + 1, p, zs =>
    let r := wayF ch s p
    if pk s r.1.at' = 124 then choiceL f ⟨r.1.at' + 1, r.1.g, r.1.l⟩ (zs ++ [r.2]) else joinF 4 (zs ++ [r.2]) r.1

def choiceF (p : PSt) : PSt × Nat := choiceL ch s s.size p []
end

/-- A whole pattern, to a depth. -/
def choiceN (s : ByteArray) : Nat → PSt → PSt × Nat
  | 0, p => (p, 0)
  | n + 1, p => choiceF (choiceN s n) s p

/-- The tree of a pattern: its nodes, its root, its brackets. -/
def treeOf (s : ByteArray) : PSt × Nat := choiceN s 41 ⟨0, 0, []⟩

end Go.Proofs.Ytppjlpihaocdiaa

/- The commands that the program reads out of a script, as a plain function; no Go text. -/
set_option linter.unusedVariables false
namespace Go.Proofs.Ytppjlpihaocdiaa
namespace Rs

/-- One half of an address: none, a number, the last line, a pattern. -/
structure Wh where
  sort : Nat
  num : Nat
  pat : ByteArray

/-- A piece of a template. -/
structure Pc where
  grp : Int
  byte : Nat

/-- A command. -/
structure Cm where
  kind : Nat
  fst : Wh
  snd : Wh
  neg : Bool
  goal : Nat
  text : ByteArray
  pat : ByteArray
  temp : List Pc
  num : Nat
  all : Bool
  prt : Bool
  frm : ByteArray
  too : ByteArray

/-- A label. -/
structure Lab where
  name : ByteArray
  at' : Nat
  cmd : Nat
  want : Bool

/-- Where the reading of a script is. -/
structure RSt where
  at' : Nat
  op : Nat
  cmds : List Cm
  labs : List Lab
  long : Int

def noBytes : ByteArray := ⟨#[]⟩
def wh0 : Wh := ⟨0, 0, noBytes⟩
def cm0 : Cm := ⟨0, wh0, wh0, false, 0, noBytes, noBytes, [], 0, false, false, noBytes, noBytes⟩

def between : ByteArray := ⟨#[32, 59, 10]⟩
def blank : ByteArray := ⟨#[32]⟩
def parts : ByteArray := ⟨#[59, 10]⟩
def digits : ByteArray := ⟨#[48, 49, 50, 51, 52, 53, 54, 55, 56, 57]⟩
def starters : ByteArray := ⟨#[48, 49, 50, 51, 52, 53, 54, 55, 56, 57, 36, 47]⟩
def letters : ByteArray := ⟨#[123, 100, 68, 110, 78, 112, 80, 103, 71, 104, 72, 120, 61, 113, 97, 105, 99, 98, 116, 115, 121]⟩
def pieceEscs : ByteArray := ⟨#[92, 47, 38]⟩
def numerals : ByteArray := ⟨#[49, 50, 51, 52, 53, 54, 55, 56, 57]⟩
def rowEnds : ByteArray := ⟨#[10, 47]⟩
def rowEscs : ByteArray := ⟨#[110, 92, 47]⟩

/-- Does one of these bytes come next? -/
def nxt (s t : ByteArray) (i : Nat) : Bool := decide (i < s.size) && inB t (byt s i)

/-- The place behind all of these bytes that come next. -/
def skipF (s t : ByteArray) : Nat → Nat → Nat
  | 0, i => i
  | f + 1, i => if nxt s t i = true then skipF s t f (i + 1) else i
def skip (s t : ByteArray) (i : Nat) : Nat := skipF s t (s.size - i) i

/-- A number: the place, its value, whether it is one. -/
def numF (s : ByteArray) : Nat → Nat → Nat → Nat × Nat × Bool
  | 0, i, n => (i, n, decide (0 < n))
  | l + 1, i, n =>
    if nxt s digits i = true then (if l = 0 ∧ 10 * n + (byt s i - 48) = 0 then (i, 0, false) else numF s l (i + 1) (10 * n + (byt s i - 48)))
    else (i, n, decide (0 < n))

/-- The place of the slash that ends a pattern, or the end. -/
def slashF (s : ByteArray) : Nat → Nat → Nat
  | 0, i => s.size
  | f + 1, i => if i < s.size then (if byt s i = 47 then i else if byt s i = 92 then slashF s f (i + 2) else slashF s f (i + 1)) else s.size
def slash (s : ByteArray) (i : Nat) : Nat := slashF s (s.size + 1) i

/-- Where a pattern is wrong, if it is. -/
def failF (t : ByteArray) : Nat → Nat → St → Option Nat
  | 0, i, st => if whole st = true then none else some i
  | f + 1, i, st => match step st (byt t i) with
    | some st' => failF t f (i + 1) st'
    | none => some i
def failAt (t : ByteArray) : Option Nat := failF t t.size 0 ⟨0, 0, 0, 0⟩
/-- How many brackets a pattern has. -/
def grps (t : ByteArray) : Nat := match run t t.size with
  | some st => st.a
  | none => 0

/-- A pattern and the slash behind it: the place, the text, where the first too long one is, whether it is one. -/
def patF (s : ByteArray) (i : Nat) (long : Int) : Nat × ByteArray × Int × Bool :=
  let t := s.extract i (slash s i)
  match failAt t with
  | some j => (i + j, noBytes, long, false)
  | none =>
    let lg := if 40 < t.size ∧ long = -1 then (i : Int) else long
    if pk s (i + t.size) = 47 then (i + t.size + 1, t, lg, true) else (i + t.size, t, lg, false)

/-- A half of an address. -/
def whereF (s : ByteArray) (i : Nat) (long : Int) : Nat × Wh × Int × Bool :=
  if pk s i = 36 then (i + 1, ⟨2, 0, noBytes⟩, long, true)
  else if pk s i = 47 then
    let r := patF s (i + 1) long
    (r.1, ⟨3, 0, r.2.1⟩, r.2.2.1, r.2.2.2)
  else
    let r := numF s 4 i 0
    (r.1, ⟨1, r.2.1, noBytes⟩, long, r.2.2)

/-- An address. -/
def addrF (s : ByteArray) (i : Nat) (long : Int) : Nat × Wh × Wh × Int × Bool :=
  if nxt s starters i = true then
    let r := whereF s i long
    if r.2.2.2 = true then
      if pk s r.1 = 44 then
        let q := whereF s (r.1 + 1) r.2.2.1
        if q.2.2.2 = true then (skip s blank q.1, r.2.1, q.2.1, q.2.2.1, true) else (q.1, r.2.1, q.2.1, q.2.2.1, false)
      else (skip s blank r.1, r.2.1, wh0, r.2.2.1, true)
    else (r.1, r.2.1, wh0, r.2.2.1, false)
  else (i, wh0, wh0, long, true)

/-- What stands behind a backslash in a template. -/
def escPieceF (s : ByteArray) (g i : Nat) : Nat × Pc × Bool :=
  if 49 ≤ pk s i ∧ pk s i ≤ 48 + (g : Int) then (i + 1, ⟨pk s i - 48, 0⟩, true)
  else if pk s i = 110 then (i + 1, ⟨-1, 10⟩, true)
  else if nxt s pieceEscs i = true then (i + 1, ⟨-1, byt s i⟩, true)
  else (i, ⟨0, 0⟩, false)

def plainF (s : ByteArray) (i : Nat) : Nat × Pc × Bool :=
  if pk s i = -1 ∨ pk s i = 10 then (i, ⟨0, 0⟩, false) else (i + 1, ⟨-1, byt s i⟩, true)

def pieceF (s : ByteArray) (g i : Nat) : Nat × Pc × Bool :=
  if pk s i = 38 then (i + 1, ⟨0, 0⟩, true)
  else if pk s i = 92 then escPieceF s g (i + 1)
  else plainF s i

/-- A template and the slash behind it. -/
def tempL (s : ByteArray) (g : Nat) : Nat → Nat → List Pc → Nat × List Pc × Bool
  | 0, i, ps => (i, ps, false)
  | f + 1, i, ps =>
    if pk s i = 47 then (i + 1, ps, true)
    else if (pieceF s g i).2.2 = true then tempL s g f (pieceF s g i).1 (ps ++ [(pieceF s g i).2.1])
    else ((pieceF s g i).1, [], false)
def tempF (s : ByteArray) (g i : Nat) : Nat × List Pc × Bool := tempL s g (s.size + 1) i []

/-- The flags: the place, all, print, the number. -/
def flagF (s : ByteArray) : Nat → Nat → Bool → Bool → Nat → Nat × Bool × Bool × Nat
  | 0, i, a, p, n => (i, a, p, n)
  | f + 1, i, a, p, n =>
    if a = false ∧ pk s i = 103 then flagF s f (i + 1) true p n
    else if p = false ∧ pk s i = 112 then flagF s f (i + 1) a true n
    else if n = 0 ∧ nxt s numerals i = true then flagF s f (i + 1) a p (byt s i - 48)
    else (i, a, p, max n 1)

/-- What stands behind an s. -/
def putF (s : ByteArray) (i : Nat) (long : Int) (c : Cm) : Nat × Cm × Int × Bool :=
  if pk s i = 47 then
    let r := patF s (i + 1) long
    if r.2.2.2 = true then
      let q := tempF s (grps r.2.1) r.1
      if q.2.2 = true then
        let f := flagF s 4 q.1 false false 0
        (f.1, { c with pat := r.2.1, temp := q.2.1, num := f.2.2.2, all := f.2.1, prt := f.2.2.1 }, r.2.2.1, true)
      else (q.1, c, r.2.2.1, false)
    else (r.1, c, r.2.2.1, false)
  else (i, c, long, false)

/-- A byte of a row of y. -/
def noEsc (used : List Nat) : Bool := used.contains 10 && used.contains 92 && used.contains 47
def rowByteF (s : ByteArray) (used : List Nat) (i : Nat) : Nat × Nat × Bool :=
  if pk s i = 92 then
    if noEsc used = true then (i, 0, false)
    else if nxt s rowEscs (i + 1) = true then (if used.contains (val (byt s (i + 1))) = true then (i + 1, 0, false) else (i + 2, val (byt s (i + 1)), true))
    else (i + 1, 0, false)
  else if pk s i = -1 ∨ nxt s rowEnds i = true ∨ used.contains (byt s i) = true then (i, 0, false)
  else (i + 1, byt s i, true)

/-- The first row of y, and the slash behind it. -/
def rowL (s : ByteArray) : Nat → Nat → List Nat → Nat × List Nat × Bool
  | 0, i, l => (i, l, false)
  | f + 1, i, l =>
    if pk s i = 47 then (i + 1, l, true)
    else if (rowByteF s l i).2.2 = true then rowL s f (rowByteF s l i).1 (l ++ [(rowByteF s l i).2.1])
    else ((rowByteF s l i).1, [], false)
/-- The second row. -/
def rowM (s : ByteArray) : Nat → Nat → List Nat → Nat × List Nat × Bool
  | 0, i, l => (i, l, true)
  | f + 1, i, l =>
    if (rowByteF s [] i).2.2 = true then rowM s f (rowByteF s [] i).1 (l ++ [(rowByteF s [] i).2.1])
    else ((rowByteF s [] i).1, [], false)

def ofNats (l : List Nat) : ByteArray := ⟨(l.map Nat.toUInt8).toArray⟩

def rowsF (s : ByteArray) (i : Nat) : Nat × ByteArray × ByteArray × Bool :=
  if pk s i = 47 then
    let r := rowL s (s.size + 1) (i + 1) []
    if r.2.2 = true then
      let q := rowM s r.2.1.length r.1 []
      if q.2.2 = true then (if pk s q.1 = 47 then (q.1 + 1, ofNats r.2.1, ofNats q.2.1, true) else (q.1, ofNats r.2.1, ofNats q.2.1, false))
      else (q.1, noBytes, noBytes, false)
    else (r.1, noBytes, noBytes, false)
  else (i, noBytes, noBytes, false)

/-- The end of a line. -/
def eolF (s : ByteArray) : Nat → Nat → Nat
  | 0, i => i
  | f + 1, i => if i < s.size ∧ byt s i ≠ 10 then eolF s f (i + 1) else i
def eol (s : ByteArray) (i : Nat) : Nat := eolF s (s.size - i) i

/-- The end of a label. -/
def labF (s : ByteArray) : Nat → Nat → Nat
  | 0, i => i
  | f + 1, i => if 97 ≤ pk s i ∧ pk s i ≤ 122 then labF s f (i + 1) else i

def RSt.label (p : RSt) (s : ByteArray) (i : Nat) (want : Bool) : RSt :=
  { p with at' := labF s 8 i, labs := p.labs ++ [⟨s.extract i (labF s 8 i), i, p.cmds.length, want⟩] }

/-- Which letter a command has. -/
def kindF (c : Nat) : Nat := (letters.data.toList.findIdx fun x => x.toNat == c)

def RSt.add (p : RSt) (c : Cm) : RSt := { p with cmds := p.cmds ++ [c] }

def setGoal (l : List Cm) (k g : Nat) : List Cm := match l[k]? with
  | some c => l.set k { c with goal := g }
  | none => l

section
variable (row : RSt → RSt × Bool) (s : ByteArray)

/-- A block. -/
def blockF (p : RSt) (c : Cm) : RSt × Bool :=
  if p.op = 5 then (p, false)
  else
    let r := row { p with at' := p.at' + 1, op := p.op + 1, cmds := p.cmds ++ [c] }
    if r.2 = true ∧ pk s r.1.at' = 125 then ({ r.1 with at' := r.1.at' + 1, op := r.1.op - 1, cmds := setGoal r.1.cmds p.cmds.length r.1.cmds.length }, true)
    else (r.1, false)

/-- A command behind its address. -/
def whatF (p : RSt) (c : Cm) : RSt × Bool :=
  if nxt s letters p.at' = true then
    let k := kindF (byt s p.at')
    let c := { c with kind := k }
    if k = 0 then blockF row s p c
    else
      let i := p.at' + 1
      if k = 14 ∨ k = 15 ∨ k = 16 then
        (if pk s i = 32 then ({ p with at' := eol s (i + 1), cmds := p.cmds ++ [{ c with text := s.extract (i + 1) (eol s (i + 1)) }] }, true) else ({ p with at' := i, cmds := p.cmds ++ [c] }, false))
      else if k = 17 ∨ k = 18 then ((p.label s i true).add c, true)
      else if k = 19 then
        let r := putF s i p.long c
        ({ p with at' := r.1, cmds := p.cmds ++ [r.2.1], long := r.2.2.1 }, r.2.2.2)
      else if k = 20 then
        let r := rowsF s i
        ({ p with at' := r.1, cmds := p.cmds ++ [{ c with frm := r.2.1, too := r.2.2.1 }] }, r.2.2.2)
      else ({ p with at' := i, cmds := p.cmds ++ [c] }, true)
  else (p, false)

/-- A command, or a label. -/
def commandF (p : RSt) : RSt × Bool :=
  let a := addrF s p.at' p.long
  let q := { p with at' := a.1, long := a.2.2.2.1 }
  if a.2.2.2.2 = true then
    let c := { cm0 with fst := a.2.1, snd := a.2.2.1 }
    if pk s a.1 = 33 then
      let q := { q with at' := skip s blank (a.1 + 1) }
      if pk s q.at' = 58 then (q, false) else whatF row s q { c with neg := true }
    else if pk s a.1 = 58 then
      (if a.1 = p.at' then (q.label s (a.1 + 1) false, decide (a.1 + 1 < labF s 8 (a.1 + 1))) else (q, false))
    else whatF row s q c
  else (q, false)

def closesF (p : RSt) : Bool := decide (0 < p.op) && decide (pk s p.at' = 125)

/-- A row of commands. -/
def rowL' : Nat → RSt → RSt × Bool
  | 0, p => (p, false)
  | f + 1, p =>
    let p := { p with at' := skip s between p.at' }
    if pk s p.at' = -1 ∨ closesF s p = true then (p, true)
    else
      let r := commandF row s p
      if r.2 = true then
        let q := { r.1 with at' := skip s blank r.1.at' }
        if pk s q.at' = -1 ∨ nxt s parts q.at' = true ∨ closesF s q = true then rowL' f q else (q, false)
      else r
def rowF (p : RSt) : RSt × Bool := rowL' row s (s.size + 1) p
end

/-- Rows, to a depth. -/
def rowN (s : ByteArray) : Nat → RSt → RSt × Bool
  | 0, p => (p, false)
  | n + 1, p => rowF (rowN s n) s p

/-- All commands. -/
def rowsOf (s : ByteArray) : RSt × Bool := rowN s 7 ⟨0, 0, [], [], -1⟩

/-- The first label of a name behind a colon. -/
def markF (name : ByteArray) : List Lab → Nat → Option Nat
  | [], _ => none
  | l :: r, k => if l.want = false ∧ l.name = name then some k else markF name r (k + 1)

/-- The commands with their goals; or the place of the first wrong label. -/
def joinL (labs : List Lab) (n : Nat) : List Lab → Nat → List Cm → Except Nat (List Cm)
  | [], _, cs => .ok cs
  | l :: r, i, cs =>
    if l.name.size = 0 then joinL labs n r (i + 1) (if l.want = true then setGoal cs l.cmd n else cs)
    else match markF l.name labs 0 with
      | none => .error l.at'
      | some m =>
        if l.want = false ∧ m ≠ i then .error l.at'
        else joinL labs n r (i + 1) (if l.want = true then setGoal cs l.cmd ((labs[m]?.map Lab.cmd).getD 0) else cs)

/-- What Read gives: the commands, the error, the place. -/
def readOf (s : ByteArray) : List Cm × Nat × Nat :=
  if 400 < s.size then ([], 1, 0)
  else if (rowsOf s).2 = false then ([], 3, (rowsOf s).1.at')
  else if (rowsOf s).1.long ≠ -1 then ([], 2, (rowsOf s).1.long.toNat)
  else match joinL (rowsOf s).1.labs (rowsOf s).1.cmds.length (rowsOf s).1.labs 0 (rowsOf s).1.cmds with
    | .error at' => ([], 4, at')
    | .ok cs => (cs, 0, 0)

end Rs
end Go.Proofs.Ytppjlpihaocdiaa

/- What each bracket gets, as plain mathematics: a relation that is determined. -/
namespace Go.Proofs.Ytppjlpihaocdiaa

/-- What the brackets have got: from where to where. -/
abbrev Caps := List (Int × Int)

/-- The greatest place up to j that serves; i itself, if none behind it does. -/
def Top (P : Nat → Prop) (i j t : Nat) : Prop := i ≤ t ∧ t ≤ j ∧ (∀ u, t < u → u ≤ j → ¬ P u) ∧ (t = i ∨ P t)

theorem Top.one {P : Nat → Prop} {i j t t' : Nat} (h : Top P i j t) (h' : Top P i j t') : t = t' := by
  obtain ⟨a1, a2, a3, a4⟩ := h
  obtain ⟨b1, b2, b3, b4⟩ := h'
  rcases Nat.lt_trichotomy t t' with e | e | e
  · rcases b4 with b | b
    · omega
    · exact absurd b (a3 t' e b2)
  · exact e
  · rcases a4 with a | a
    · omega
    · exact absurd a (b3 t e a2)

section
variable (m : Nat → Nat → Nat → Prop) (g : Nat → Nat → Nat → Caps → Caps → Prop)

/-- Ways: the first that matches. -/
def altG : List Nat → Nat → Nat → Caps → Caps → Prop
  | [], _, _, c, c' => c' = c
  | x :: xs, i, j, c, c' => (m x i j ∧ g x i j c c') ∨ (¬ m x i j ∧ altG xs i j c c')

/-- A row: each part the longest beginning, while the others match the rest. -/
def rowG : List Nat → Nat → Nat → Caps → Caps → Prop
  | [], _, _, c, c' => c' = c
  | x :: xs, i, j, c, c' => ∃ t c1, Top (fun t => m x i t ∧ Chain (xs.map m) t j) i j t ∧ g x i t c c1 ∧ rowG xs t j c1 c'

/-- A repetition: each time the longest beginning, while what is still to come matches the rest. -/
def repG (x lo : Nat) (hi : Int) : Nat → Nat → Nat → Nat → Caps → Caps → Prop
  | 0, _, _, _, c, c' => c' = c
  | f + 1, done, i, j, c, c' => (¬ (i < j ∨ done < lo) ∧ c' = c) ∨
      ((i < j ∨ done < lo) ∧ ∃ t c1, Top (fun t => m x i t ∧ TimesR (m x) lo hi (done + 1) (fun k => k = t) j) i j t ∧ g x i t c c1 ∧ repG x lo hi f (done + 1) t j c1 c')

variable {m g}

theorem altG.one (hg : ∀ x i j c c1 c2, g x i j c c1 → g x i j c c2 → c1 = c2) : ∀ {l : List Nat} {i j : Nat} {c c1 c2 : Caps}, altG m g l i j c c1 → altG m g l i j c c2 → c1 = c2
  | [], _, _, _, _, _, h, h' => by rw [h, h']
  | x :: xs, i, j, c, c1, c2, h, h' => by
    rcases h with ⟨a, b⟩ | ⟨a, b⟩
    · rcases h' with ⟨a', b'⟩ | ⟨a', b'⟩
      · exact hg _ _ _ _ _ _ b b'
      · exact absurd a a'
    · rcases h' with ⟨a', b'⟩ | ⟨a', b'⟩
      · exact absurd a' a
      · exact altG.one hg b b'

theorem rowG.one (hg : ∀ x i j c c1 c2, g x i j c c1 → g x i j c c2 → c1 = c2) : ∀ {l : List Nat} {i j : Nat} {c c1 c2 : Caps}, rowG m g l i j c c1 → rowG m g l i j c c2 → c1 = c2
  | [], _, _, _, _, _, h, h' => by rw [h, h']
  | x :: xs, i, j, c, c1, c2, h, h' => by
    obtain ⟨t, d, a1, a2, a3⟩ := h
    obtain ⟨t', d', b1, b2, b3⟩ := h'
    have e := a1.one b1
    subst e
    have e := hg _ _ _ _ _ _ a2 b2
    subst e
    exact rowG.one hg a3 b3

theorem repG.one (hg : ∀ x i j c c1 c2, g x i j c c1 → g x i j c c2 → c1 = c2) {x lo : Nat} {hi : Int} : ∀ {f done i j : Nat} {c c1 c2 : Caps}, repG m g x lo hi f done i j c c1 → repG m g x lo hi f done i j c c2 → c1 = c2
  | 0, _, _, _, _, _, _, h, h' => by rw [h, h']
  | f + 1, done, i, j, c, c1, c2, h, h' => by
    rcases h with ⟨a, b⟩ | ⟨a, t, d, a1, a2, a3⟩
    · rcases h' with ⟨_, b'⟩ | ⟨a', _⟩
      · rw [b, b']
      · exact absurd a' a
    · rcases h' with ⟨a', _⟩ | ⟨_, t', d', b1, b2, b3⟩
      · exact absurd a a'
      · have e := a1.one b1
        subst e
        have e := hg _ _ _ _ _ _ a2 b2
        subst e
        exact repG.one hg a3 b3
end

/-- What a node gives its brackets, if it has the stretch from i to j. -/
def gOf (s : ByteArray) (nodes : List Nd) : Nat → Nat → Nat → Nat → Caps → Caps → Prop
  | 0, _, _, _, _, _ => False
  | f + 1, n, i, j, c, c' => ∃ d, nodes[n]? = some d ∧
      (if d.kind = 3 then gOf s nodes f (d.subs.getD 0 0) i j (c.set d.num ((i : Int), (j : Int))) c'
      else if d.kind = 4 then altG (Mat s nodes) (gOf s nodes f) d.subs i j c c'
      else if d.kind = 5 then rowG (Mat s nodes) (gOf s nodes f) d.subs i j c c'
      else if d.kind = 6 then repG (Mat s nodes) (gOf s nodes f) (d.subs.getD 0 0) d.lo d.hi (d.lo + s.size + 1) 0 i j c c'
      else c' = c)

theorem gOf.one (s : ByteArray) (nodes : List Nd) : ∀ {f n i j : Nat} {c c1 c2 : Caps}, gOf s nodes f n i j c c1 → gOf s nodes f n i j c c2 → c1 = c2
  | 0, _, _, _, _, _, _, h, _ => h.elim
  | f + 1, n, i, j, c, c1, c2, h, h' => by
    obtain ⟨d, e, h⟩ := h
    obtain ⟨d', e', h'⟩ := h'
    rw [e] at e'
    cases e'
    have ih : ∀ x i j c c1 c2, gOf s nodes f x i j c c1 → gOf s nodes f x i j c c2 → c1 = c2 := fun _ _ _ _ _ _ a b => gOf.one s nodes a b
    split at h
    · rename_i k; rw [if_pos k] at h'; exact ih _ _ _ _ _ _ h h'
    · rename_i k; rw [if_neg k] at h'
      split at h
      · rename_i k; rw [if_pos k] at h'; exact altG.one ih h h'
      · rename_i k; rw [if_neg k] at h'
        split at h
        · rename_i k; rw [if_pos k] at h'; exact rowG.one ih h h'
        · rename_i k; rw [if_neg k] at h'
          split at h
          · rename_i k; rw [if_pos k] at h'; exact repG.one ih h h'
          · rename_i k; rw [if_neg k] at h'; rw [h, h']

end Go.Proofs.Ytppjlpihaocdiaa

