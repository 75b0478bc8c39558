/- Several texts in one. -/
import Derived.WalkKit
/- The plain mathematics of 'Patterned': the walk over a pattern, byte by byte, as a function on numbers; no Go text. -/
namespace Go.Proofs.Ytppjlpihaocdiaa

/-- The byte at a place, as a number. -/
def byt (s : ByteArray) (i : Nat) : Nat := (s.data.toList.getD i 0).toNat

theorem byt_eq (s : ByteArray) (i : Nat) (h : i < s.size) : (s[i]).toNat = byt s i := by
  unfold byt
  rw [List.getD_eq_getElem?_getD, List.getElem?_eq_getElem (by simpa using h)]
  rfl

theorem byt_lt (s : ByteArray) (i : Nat) : byt s i < 256 := by
  unfold byt; exact UInt8.toNat_lt _

/-- The byte that comes next, or -1. -/
def pk (s : ByteArray) (i : Nat) : Int := if i < s.size then (byt s i : Int) else -1

theorem pk_in {s : ByteArray} {i : Nat} (h : i < s.size) : pk s i = (byt s i : Int) := if_pos h
theorem pk_out {s : ByteArray} {i : Nat} (h : ¬ i < s.size) : pk s i = -1 := if_neg h

/-- Is a byte in a text? -/
def inB (t : ByteArray) (c : Nat) : Bool := t.data.toList.any fun x => x.toNat == c

def noStart : ByteArray := ⟨#[10, 41, 42, 43, 63, 123, 124]⟩
def noInner : ByteArray := ⟨#[10, 93, 45]⟩
def escs : ByteArray := ⟨#[110, 92, 46, 94, 36, 40, 41, 91, 93, 42, 43, 63, 123, 125, 124, 47, 38, 45]⟩
def quants : ByteArray := ⟨#[42, 43, 63]⟩

theorem inB_noStart (c : Nat) : inB noStart c = true ↔ c = 10 ∨ c = 41 ∨ c = 42 ∨ c = 43 ∨ c = 63 ∨ c = 123 ∨ c = 124 := by
  simp [inB, noStart]; omega
theorem inB_noInner (c : Nat) : inB noInner c = true ↔ c = 10 ∨ c = 93 ∨ c = 45 := by
  simp [inB, noInner]; omega
theorem inB_quants (c : Nat) : inB quants c = true ↔ c = 42 ∨ c = 43 ∨ c = 63 := by
  simp [inB, quants]; omega

/-- Where the walk is: mode, brackets open, brackets in all, the least that may come. -/
structure St where
  m : Nat
  o : Nat
  a : Nat
  l : Nat

/-- What an escaped byte stands for. -/
def val (c : Nat) : Nat := if c = 110 then 10 else c

def begins (st : St) (c : Nat) : Option St :=
  if c = 40 then (if st.o = 5 ∨ st.a = 9 then none else some ⟨0, st.o + 1, st.a + 1, st.l⟩)
  else if c = 91 then some ⟨4, st.o, st.a, st.l⟩
  else if c = 92 then some ⟨3, st.o, st.a, st.l⟩
  else if inB noStart c = true then none else some ⟨1, st.o, st.a, st.l⟩

def goesOn (st : St) (c : Nat) : Option St :=
  if st.m = 1 ∧ inB quants c = true then some ⟨2, st.o, st.a, st.l⟩
  else if st.m = 1 ∧ c = 123 then some ⟨11, st.o, st.a, 0⟩
  else if c = 124 then some ⟨0, st.o, st.a, st.l⟩
  else if c = 41 ∧ 0 < st.o then some ⟨1, st.o - 1, st.a, st.l⟩
  else begins st c

def inSet (st : St) (c : Nat) : Option St :=
  let dash := st.m = 8 ∨ st.m = 10
  let least := if dash then st.l else 0
  if st.m = 9 ∨ st.m = 10 then (if inB escs c = true ∧ least ≤ val c then some ⟨if dash then 7 else 6, st.o, st.a, val c⟩ else none)
  else if st.m = 4 ∧ c = 94 then some ⟨5, st.o, st.a, st.l⟩
  else if c = 93 then (if st.m = 6 ∨ st.m = 7 then some ⟨1, st.o, st.a, st.l⟩ else none)
  else if c = 45 then (if st.m = 6 then some ⟨8, st.o, st.a, st.l⟩ else none)
  else if c = 92 then (if least ≤ 125 then some ⟨if dash then 10 else 9, st.o, st.a, st.l⟩ else none)
  else if c = 10 ∨ c < least then none
  else some ⟨if dash then 7 else 6, st.o, st.a, c⟩

def braced (st : St) (c : Nat) : Option St :=
  if st.m = 11 ∨ st.m = 13 then (if 48 ≤ c ∧ c ≤ 57 ∧ st.l ≤ c - 48 then some ⟨if st.m = 11 then 12 else 14, st.o, st.a, c - 48⟩ else none)
  else if c = 125 then some ⟨2, st.o, st.a, st.l⟩
  else if c = 44 ∧ st.m = 12 then some ⟨13, st.o, st.a, st.l⟩
  else none

def step (st : St) (c : Nat) : Option St :=
  if st.m = 0 then begins st c
  else if st.m = 1 ∨ st.m = 2 then goesOn st c
  else if st.m = 3 then (if inB escs c = true then some ⟨1, st.o, st.a, st.l⟩ else none)
  else if 11 ≤ st.m then braced st c
  else inSet st c

def whole (st : St) : Bool := decide (st.o = 0) && (decide (st.m = 1) || decide (st.m = 2))

/-- The walk over the first i bytes. -/
def run (s : ByteArray) : Nat → Option St
  | 0 => some ⟨0, 0, 0, 0⟩
  | i + 1 => (run s i).bind fun st => step st (byt s i)

theorem run_succ {s : ByteArray} {i : Nat} {st : St} (h : run s i = some st) : run s (i + 1) = step st (byt s i) := by
  simp [run, h]

/-- The walk stops at j: the byte there cannot stand there, or the text ends too early. -/
def Fails (s : ByteArray) (j : Nat) : Prop := ∃ st, run s j = some st ∧ j ≤ s.size ∧ (j < s.size → step st (byt s j) = none) ∧ (j = s.size → whole st = false)

def Wholly (s : ByteArray) : Prop := ∃ st, run s s.size = some st ∧ whole st = true

theorem run_some_of_le {s : ByteArray} {i j : Nat} (h : i ≤ j) {st : St} (hj : run s j = some st) : ∃ st', run s i = some st' := by
  induction j generalizing st with
  | zero => have : i = 0 := by omega
            subst this; exact ⟨_, hj⟩
  | succ j ih =>
    by_cases e : i = j + 1
    · subst e; exact ⟨_, hj⟩
    · simp only [run, Option.bind_eq_some_iff] at hj
      obtain ⟨x, hx, _⟩ := hj
      exact ih (by omega) hx

theorem Fails.lt_not {s : ByteArray} {i j : Nat} (hi : Fails s i) (h : i < j) {st : St} (hj : run s j = some st) (hjs : j ≤ s.size) : False := by
  obtain ⟨si, h1, _, h3, _⟩ := hi
  obtain ⟨s', h'⟩ := run_some_of_le (i := i + 1) (by omega) hj
  rw [run_succ h1, h3 (by omega)] at h'
  cases h'

theorem Fails.unique {s : ByteArray} {i j : Nat} (hi : Fails s i) (hj : Fails s j) : i = j := by
  rcases Nat.lt_trichotomy i j with h | h | h
  · obtain ⟨_, h1, h2, _⟩ := hj
    exact (hi.lt_not h h1 h2).elim
  · exact h
  · obtain ⟨_, h1, h2, _⟩ := hi
    exact (hj.lt_not h h1 h2).elim

theorem Fails.not_wholly {s : ByteArray} {i : Nat} (hi : Fails s i) (hw : Wholly s) : False := by
  obtain ⟨st, h1, h2⟩ := hw
  have hi' := hi
  obtain ⟨si, g1, g2, g3, g4⟩ := hi
  by_cases e : i = s.size
  · subst e
    rw [h1] at g1; cases g1
    rw [g4 rfl] at h2; cases h2
  · exact hi'.lt_not (j := s.size) (by omega) h1 (Nat.le_refl _)

theorem inSet4 (o a l c : Nat) : inSet ⟨4, o, a, l⟩ c = if c = 94 then some ⟨5, o, a, l⟩ else if c = 93 then none else if c = 45 then none else if c = 92 then some ⟨9, o, a, l⟩ else if c = 10 then none else some ⟨6, o, a, c⟩ := by
  simp [inSet]
theorem inSet5 (o a l c : Nat) : inSet ⟨5, o, a, l⟩ c = if c = 93 then none else if c = 45 then none else if c = 92 then some ⟨9, o, a, l⟩ else if c = 10 then none else some ⟨6, o, a, c⟩ := by
  simp [inSet]
theorem inSet6 (o a l c : Nat) : inSet ⟨6, o, a, l⟩ c = if c = 93 then some ⟨1, o, a, l⟩ else if c = 45 then some ⟨8, o, a, l⟩ else if c = 92 then some ⟨9, o, a, l⟩ else if c = 10 then none else some ⟨6, o, a, c⟩ := by
  simp [inSet]
theorem inSet7 (o a l c : Nat) : inSet ⟨7, o, a, l⟩ c = if c = 93 then some ⟨1, o, a, l⟩ else if c = 45 then none else if c = 92 then some ⟨9, o, a, l⟩ else if c = 10 then none else some ⟨6, o, a, c⟩ := by
  simp [inSet]
theorem inSet8 (o a l c : Nat) : inSet ⟨8, o, a, l⟩ c = if c = 93 then none else if c = 45 then none else if c = 92 then (if l ≤ 125 then some ⟨10, o, a, l⟩ else none) else if c = 10 ∨ c < l then none else some ⟨7, o, a, c⟩ := by
  simp [inSet]
theorem inSet9 (o a l c : Nat) : inSet ⟨9, o, a, l⟩ c = if inB escs c = true then some ⟨6, o, a, val c⟩ else none := by
  simp [inSet]
theorem inSet10 (o a l c : Nat) : inSet ⟨10, o, a, l⟩ c = if inB escs c = true ∧ l ≤ val c then some ⟨7, o, a, val c⟩ else none := by
  simp [inSet]

/-- The numbers of a walk are small. -/
def Small (st : St) : Prop := st.m ≤ 14 ∧ st.o ≤ 5 ∧ st.a ≤ 9 ∧ st.l ≤ 255

theorem val_le {c : Nat} (h : c < 256) : val c ≤ 255 := by unfold val; split <;> omega

theorem small_begins {st st' : St} {c : Nat} (h : Small st) (hs : begins st c = some st') : Small st' := by
  obtain ⟨m, o, a, l⟩ := st
  obtain ⟨h1, h2, h3, h4⟩ := h
  simp only at h1 h2 h3 h4
  unfold begins at hs
  simp only at hs
  (repeat' split at hs) <;> first | (cases hs; exact ⟨by simp only; omega, by simp only; omega, by simp only; omega, by simp only; omega⟩) | cases hs

theorem small_goesOn {st st' : St} {c : Nat} (h : Small st) (hs : goesOn st c = some st') : Small st' := by
  have hb := small_begins (st' := st') (c := c) h
  obtain ⟨m, o, a, l⟩ := st
  obtain ⟨h1, h2, h3, h4⟩ := h
  simp only at h1 h2 h3 h4
  unfold goesOn at hs
  simp only at hs
  (repeat' split at hs) <;> first | (cases hs; exact ⟨by simp only; omega, by simp only; omega, by simp only; omega, by simp only; omega⟩) | exact hb hs

theorem small_braced {st st' : St} {c : Nat} (h : Small st) (hc : c < 256) (hs : braced st c = some st') : Small st' := by
  obtain ⟨m, o, a, l⟩ := st
  obtain ⟨h1, h2, h3, h4⟩ := h
  simp only at h1 h2 h3 h4
  unfold braced at hs
  simp only at hs
  (repeat' split at hs) <;> first | (cases hs; refine ⟨?_, h2, h3, ?_⟩ <;> simp only <;> (try split) <;> omega) | cases hs

theorem small_inSet {st st' : St} {c : Nat} (h : Small st) (hc : c < 256) (hs : inSet st c = some st') : Small st' := by
  have hv := val_le hc
  obtain ⟨m, o, a, l⟩ := st
  obtain ⟨h1, h2, h3, h4⟩ := h
  simp only at h1 h2 h3 h4
  unfold inSet at hs
  simp only at hs
  (repeat' split at hs) <;> first | (cases hs; refine ⟨?_, h2, h3, ?_⟩ <;> simp only <;> (try split) <;> omega) | cases hs

theorem small_step {st st' : St} {c : Nat} (h : Small st) (hc : c < 256) (hs : step st c = some st') : Small st' := by
  unfold step at hs
  split at hs
  · exact small_begins h hs
  · split at hs
    · exact small_goesOn h hs
    · split at hs
      · split at hs
        · cases hs; exact ⟨by simp only; omega, h.2.1, h.2.2.1, h.2.2.2⟩
        · cases hs
      · split at hs
        · exact small_braced h hc hs
        · exact small_inSet h hc hs

theorem small_run {s : ByteArray} : ∀ {i : Nat} {st : St}, run s i = some st → Small st
  | 0, st, h => by cases h; exact ⟨by decide, by decide, by decide, by decide⟩
  | i + 1, st, h => by
    simp only [run, Option.bind_eq_some_iff] at h
    obtain ⟨x, hx, h⟩ := h
    exact small_step (small_run hx) (byt_lt s i) h

/-- The document's answer, as a relation. -/
def Ans (s : ByteArray) (ec place : Int) : Prop :=
  (40 < s.size ∧ ec = 1 ∧ place = 0) ∨ (s.size ≤ 40 ∧ ec = 2 ∧ ∃ j : Nat, place = j ∧ Fails s j) ∨ (s.size ≤ 40 ∧ ec = 0 ∧ place = 0 ∧ Wholly s)

theorem Ans.unique {s : ByteArray} {e p e' p' : Int} (h : Ans s e p) (h' : Ans s e' p') : e = e' ∧ p = p' := by
  rcases h with ⟨h1, rfl, rfl⟩ | ⟨h1, rfl, j, rfl, hj⟩ | ⟨h1, rfl, rfl, hw⟩
  · rcases h' with ⟨h1', rfl, rfl⟩ | ⟨h1', rfl, j', rfl, hj'⟩ | ⟨h1', rfl, rfl, hw'⟩
    · exact ⟨rfl, rfl⟩
    · omega
    · omega
  · rcases h' with ⟨h1', rfl, rfl⟩ | ⟨h1', rfl, j', rfl, hj'⟩ | ⟨h1', rfl, rfl, hw'⟩
    · omega
    · exact ⟨rfl, by rw [hj.unique hj']⟩
    · exact (hj.not_wholly hw').elim
  · rcases h' with ⟨h1', rfl, rfl⟩ | ⟨h1', rfl, j', rfl, hj'⟩ | ⟨h1', rfl, rfl, hw'⟩
    · omega
    · exact (hj'.not_wholly hw).elim
    · exact ⟨rfl, rfl⟩

end Go.Proofs.Ytppjlpihaocdiaa

/- The document's walk over a script, byte by byte, as a plain function; no Go text. -/
set_option linter.unusedVariables false
namespace Go.Proofs.Ytppjlpihaocdiaa
namespace Sk

/-- A label: its letters, its place, whether it stands behind a colon. -/
structure Lb where
  name : List Nat
  at' : Nat
  goal : Bool

/-- Where the walk over a script is. -/
structure Sc where
  mode : Nat
  op : Nat
  pat : St
  part : Nat
  count : Nat
  zero : Nat
  least : Nat
  goal : Bool
  all : Bool
  print : Bool
  numbers : Bool
  row : Nat → Bool
  rows : Nat
  patAt : List Nat
  patLen : List Nat
  labels : List Lb

def sc0 : Sc := ⟨0, 0, ⟨0, 0, 0, 0⟩, 0, 0, 0, 0, false, false, false, false, fun _ => false, 0, [], [], []⟩

def plainLetters : ByteArray := ⟨#[100, 68, 110, 78, 112, 80, 103, 71, 104, 72, 120, 61, 113]⟩
def textLetters : ByteArray := ⟨#[97, 105, 99]⟩
def tempEscs : ByteArray := ⟨#[110, 92, 47, 38]⟩
def rowEscs : ByteArray := ⟨#[110, 92, 47]⟩

def separates (x : Sc) (c : Nat) : Option Sc :=
  if c = 32 then some { x with mode := 7 }
  else if c = 59 ∨ c = 10 then some { x with mode := 0 }
  else if c = 125 ∧ 0 < x.op then some { x with op := x.op - 1, mode := 7 }
  else none

def letter (x : Sc) (c : Nat) : Option Sc :=
  if c = 123 then (if x.op + 1 ≤ 5 then some { x with op := x.op + 1, mode := 0 } else none)
  else if inB plainLetters c = true then some { x with mode := 7 }
  else if inB textLetters c = true then some { x with mode := 8 }
  else if c = 98 ∨ c = 116 then some { x with mode := 10, least := 0, count := 0, goal := false }
  else if c = 115 then some { x with mode := 11 }
  else if c = 121 then some { x with mode := 16 }
  else none

def pattern (x : Sc) (i : Nat) : Sc := { x with pat := ⟨0, 0, 0, 0⟩, patAt := x.patAt ++ [i], patLen := x.patLen ++ [0] }

def spot (x : Sc) (c i : Nat) : Option Sc :=
  if 48 ≤ c ∧ c ≤ 57 then some { x with mode := 1, count := 1, zero := if c = 48 then 0 else 1 }
  else if c = 36 then some { x with mode := 2 }
  else if c = 47 then some (pattern { x with mode := 6 } (i + 1))
  else none

def addressed (x : Sc) (c : Nat) : Option Sc :=
  if c = 32 ∧ (x.mode = 4 ∨ x.mode = 2 ∨ x.mode = 5 ∨ x.mode = 1) then some (if x.mode = 5 then x else { x with mode := 4 })
  else if c = 33 ∧ x.mode ≠ 5 then some { x with mode := 5 }
  else letter x c

def begin' (x : Sc) (c i : Nat) : Option Sc :=
  if c = 32 ∨ c = 59 ∨ c = 10 then some x
  else if c = 125 then (if 0 < x.op then some { x with op := x.op - 1, mode := 7 } else none)
  else if c = 58 then some { x with mode := 10, least := 1, count := 0, goal := true }
  else match spot { x with part := 1 } c i with
    | some y => some y
    | none => addressed { x with part := 1 } c

def afterSpot (x : Sc) (c : Nat) : Option Sc :=
  if c = 44 ∧ x.part = 1 then some { x with mode := 3, part := 2 } else addressed x c

def digit (x : Sc) (c : Nat) : Option Sc :=
  if 48 ≤ c ∧ c ≤ 57 ∧ x.count < 4 then (if x.count + 1 < 4 ∨ (if c = 48 then x.zero else 1) = 1 then some { x with count := x.count + 1, zero := if c = 48 then x.zero else 1 } else none)
  else if x.zero = 0 then none else afterSpot x c

def escaping (st : St) : Bool := decide (st.m = 3) || decide (st.m = 9) || decide (st.m = 10)

def bump (l : List Nat) : List Nat := l.set (l.length - 1) (l.getD (l.length - 1) 0 + 1)

/-- A byte in a pattern: what comes of it, and whether the pattern has ended. -/
def inPattern (x : Sc) (c : Nat) : Option Sc × Bool :=
  if c = 47 ∧ escaping x.pat = false then (if whole x.pat = true then some x else none, true)
  else ((step x.pat c).map fun st => { x with pat := st, patLen := bump x.patLen }, false)

def addLetter (l : List Lb) (c : Nat) : List Lb := match l.reverse with
  | [] => []
  | b :: r => (⟨b.name ++ [c], b.at', b.goal⟩ :: r).reverse

def named (x : Sc) (c i : Nat) : Option Sc :=
  if 97 ≤ c ∧ c ≤ 122 ∧ x.count < 8 then some { x with count := x.count + 1, labels := addLetter (if x.count = 0 then x.labels ++ [⟨[], i, x.goal⟩] else x.labels) c }
  else if x.count < x.least then none else separates x c

def inTemplate (x : Sc) (c : Nat) : Option Sc :=
  if x.mode = 14 then (if inB tempEscs c = true ∨ (49 ≤ c ∧ c ≤ 57 ∧ c - 48 ≤ x.pat.a) then some { x with mode := 13 } else none)
  else if c = 47 then some { x with mode := 15, all := false, print := false, numbers := false }
  else if c = 92 then some { x with mode := 14 }
  else if c = 10 then none else some x

def flag (x : Sc) (c : Nat) : Option Sc :=
  if c = 103 ∧ x.all = false then some { x with all := true }
  else if c = 112 ∧ x.print = false then some { x with print := true }
  else if 49 ≤ c ∧ c ≤ 57 ∧ x.numbers = false then some { x with numbers := true }
  else separates x c

def rowMore (x : Sc) (v : Nat) : Option Sc := if x.row v = true then none else some { x with row := fun k => if k = v then true else x.row k, rows := x.rows + 1 }

def inFirst (x : Sc) (c : Nat) : Option Sc :=
  if x.mode = 18 then (if inB rowEscs c = true then rowMore { x with mode := 17 } (val c) else none)
  else if c = 47 then some { x with mode := if x.rows = 0 then 21 else 19, count := 0 }
  else if c = 92 then (if x.row 10 = false ∨ x.row 92 = false ∨ x.row 47 = false then some { x with mode := 18 } else none)
  else if c = 10 then none
  else rowMore x c

def thenMore (x : Sc) : Sc := { x with count := x.count + 1, mode := if x.count + 1 = x.rows then 21 else x.mode }

def inThen (x : Sc) (c : Nat) : Option Sc :=
  if x.mode = 20 then (if inB rowEscs c = true then some (thenMore { x with mode := 19 }) else none)
  else if c = 92 then some { x with mode := 20 }
  else if c = 47 ∨ c = 10 then none
  else some (thenMore x)

/-- The next byte, at place i. -/
def sstep (x : Sc) (c i : Nat) : Option Sc :=
  if x.mode = 0 then begin' x c i
  else if x.mode = 1 then digit x c
  else if x.mode = 2 then afterSpot x c
  else if x.mode = 3 then spot x c i
  else if x.mode = 4 ∨ x.mode = 5 then addressed x c
  else if x.mode = 6 ∨ x.mode = 12 then (inPattern x c).1.map fun y => if (inPattern x c).2 = true then { y with mode := if x.mode = 12 then 13 else 2 } else y
  else if x.mode = 7 then separates x c
  else if x.mode = 8 then (if c = 32 then some { x with mode := 9 } else none)
  else if x.mode = 9 then some (if c = 10 then { x with mode := 0 } else x)
  else if x.mode = 10 then named x c i
  else if x.mode = 11 then (if c = 47 then some (pattern { x with mode := 12 } (i + 1)) else none)
  else if x.mode = 13 ∨ x.mode = 14 then inTemplate x c
  else if x.mode = 15 then flag x c
  else if x.mode = 16 then (if c = 47 then some { x with mode := 17, row := fun _ => false, rows := 0 } else none)
  else if x.mode = 17 ∨ x.mode = 18 then inFirst x c
  else if x.mode = 19 ∨ x.mode = 20 then inThen x c
  else if c = 47 then some { x with mode := 7 } else none

/-- Can a script end here? -/
def swhole (x : Sc) : Bool := (decide (x.mode = 0) || decide (x.mode = 7) || decide (x.mode = 9) || decide (x.mode = 15) || (decide (x.mode = 10) && decide (x.least ≤ x.count))) && decide (x.op = 0)

/-- The walk over the first i bytes. -/
def srun (s : ByteArray) : Nat → Option Sc
  | 0 => some sc0
  | i + 1 => (srun s i).bind fun x => sstep x (byt s i) i

/-- The walk stops at j. -/
def SFails (s : ByteArray) (j : Nat) : Prop := ∃ x, srun s j = some x ∧ j ≤ s.size ∧ (j < s.size → sstep x (byt s j) j = none) ∧ (j = s.size → swhole x = false)
def SWholly (s : ByteArray) (x : Sc) : Prop := srun s s.size = some x ∧ swhole x = true

/-- The first pattern that is too long begins here. -/
def LongAt (x : Sc) (a : Nat) : Prop := ∃ k : Nat, x.patAt[k]? = some a ∧ (∃ n : Nat, x.patLen[k]? = some n ∧ 40 < n) ∧ ∀ k' n : Nat, k' < k → x.patLen[k']? = some n → n ≤ 40
def NoLong (x : Sc) : Prop := ∀ k n : Nat, x.patLen[k]? = some n → n ≤ 40

/-- A label that may not be: one more behind a colon, or one that stands behind none. -/
def BadLabel (x : Sc) (k : Nat) : Prop := ∃ l, x.labels[k]? = some l ∧ ((l.goal = true ∧ ∃ (k' : Nat) (l' : Lb), k' < k ∧ x.labels[k']? = some l' ∧ l'.goal = true ∧ l'.name = l.name) ∨ ¬ ∃ (k' : Nat) (l' : Lb), x.labels[k']? = some l' ∧ l'.goal = true ∧ l'.name = l.name)

/-- The document's answer to a script, as a relation. -/
def SAns (s : ByteArray) (ec place : Int) : Prop :=
  (400 < s.size ∧ ec = 1 ∧ place = 0) ∨
  (s.size ≤ 400 ∧ ec = 3 ∧ ∃ j : Nat, place = j ∧ SFails s j) ∨
  (s.size ≤ 400 ∧ ∃ x, SWholly s x ∧
    ((ec = 2 ∧ ∃ a : Nat, place = a ∧ LongAt x a) ∨
     (NoLong x ∧ ec = 4 ∧ ∃ (k : Nat) (l : Lb), x.labels[k]? = some l ∧ place = l.at' ∧ BadLabel x k ∧ ∀ k', k' < k → ¬ BadLabel x k') ∨
     (NoLong x ∧ ec = 0 ∧ place = 0 ∧ ∀ k, ¬ BadLabel x k)))

theorem srun_some_of_le {s : ByteArray} {i j : Nat} (h : i ≤ j) {x : Sc} (hj : srun s j = some x) : ∃ x', srun s i = some x' := by
  induction j generalizing x with
  | zero =>
    have : i = 0 := by omega
    subst this; exact ⟨_, hj⟩
  | succ j ih =>
    by_cases e : i = j + 1
    · subst e; exact ⟨_, hj⟩
    · simp only [srun, Option.bind_eq_some_iff] at hj
      obtain ⟨y, hy, _⟩ := hj
      exact ih (by omega) hy

theorem srun_succ {s : ByteArray} {i : Nat} {x : Sc} (h : srun s i = some x) : srun s (i + 1) = sstep x (byt s i) i := by simp [srun, h]

theorem SFails.lt_not {s : ByteArray} {i j : Nat} (hi : SFails s i) (h : i < j) {x : Sc} (hj : srun s j = some x) (hjs : j ≤ s.size) : False := by
  obtain ⟨y, h1, _, h3, _⟩ := hi
  obtain ⟨s', h'⟩ := srun_some_of_le (i := i + 1) (by omega) hj
  rw [srun_succ h1, h3 (by omega)] at h'
  cases h'

theorem SFails.unique {s : ByteArray} {i j : Nat} (hi : SFails s i) (hj : SFails s j) : i = j := by
  rcases Nat.lt_trichotomy i j with h | h | h
  · obtain ⟨_, h1, h2, _⟩ := hj
    exact (hi.lt_not h h1 h2).elim
  · exact h
  · obtain ⟨_, h1, h2, _⟩ := hi
    exact (hj.lt_not h h1 h2).elim

theorem SFails.not_wholly {s : ByteArray} {i : Nat} {x : Sc} (hi : SFails s i) (hw : SWholly s x) : False := by
  obtain ⟨h1, h2⟩ := hw
  have hi' := hi
  obtain ⟨y, g1, g2, g3, g4⟩ := hi
  by_cases e : i = s.size
  · subst e
    rw [h1] at g1; cases g1
    rw [g4 rfl] at h2; cases h2
  · exact hi'.lt_not (j := s.size) (by omega) h1 (Nat.le_refl _)

theorem LongAt.unique {x : Sc} {a b : Nat} (h : LongAt x a) (h' : LongAt x b) : a = b := by
  obtain ⟨k, h1, ⟨n, h2, h3⟩, h4⟩ := h
  obtain ⟨k', g1, ⟨n', g2, g3⟩, g4⟩ := h'
  have : k = k' := by
    rcases Nat.lt_trichotomy k k' with e | e | e
    · have := g4 k n e h2; omega
    · exact e
    · have := h4 k' n' e g2; omega
  subst this
  rw [h1] at g1
  cases g1
  rfl

theorem LongAt.not {x : Sc} {a : Nat} (h : LongAt x a) (h' : NoLong x) : False := by
  obtain ⟨k, _, ⟨n, h2, h3⟩, _⟩ := h
  have := h' k n h2
  omega

/-- There is one answer. -/
theorem SAns.unique {s : ByteArray} {e p e' p' : Int} (h : SAns s e p) (h' : SAns s e' p') : e = e' ∧ p = p' := by
  rcases h with ⟨h1, rfl, rfl⟩ | ⟨h1, rfl, j, rfl, hj⟩ | ⟨h1, x, hx, h⟩
  · rcases h' with ⟨_, rfl, rfl⟩ | ⟨_, _⟩ | ⟨_, _⟩
    · exact ⟨rfl, rfl⟩
    · omega
    · omega
  · rcases h' with ⟨_, _⟩ | ⟨_, rfl, j', rfl, hj'⟩ | ⟨_, x, hx, _⟩
    · omega
    · exact ⟨rfl, by rw [hj.unique hj']⟩
    · exact (hj.not_wholly hx).elim
  · rcases h' with ⟨_, _⟩ | ⟨_, rfl, j', rfl, hj'⟩ | ⟨_, x', hx', h'⟩
    · omega
    · exact (hj'.not_wholly hx).elim
    · have : x = x' := by
        have a := hx.1
        rw [hx'.1] at a
        cases a; rfl
      subst this
      rcases h with ⟨rfl, a, rfl, ha⟩ | ⟨hn, rfl, k, l, hl, rfl, hb, hk⟩ | ⟨hn, rfl, rfl, hk⟩
      · rcases h' with ⟨rfl, a', rfl, ha'⟩ | ⟨hn', _⟩ | ⟨hn', _⟩
        · exact ⟨rfl, by rw [ha.unique ha']⟩
        · exact (ha.not hn').elim
        · exact (ha.not hn').elim
      · rcases h' with ⟨rfl, a', rfl, ha'⟩ | ⟨_, rfl, k', l', hl', rfl, hb', hk'⟩ | ⟨_, rfl, rfl, hk'⟩
        · exact (ha'.not hn).elim
        · have : k = k' := by
            rcases Nat.lt_trichotomy k k' with e | e | e
            · exact absurd hb (hk' k e)
            · exact e
            · exact absurd hb' (hk k' e)
          subst this
          rw [hl] at hl'
          cases hl'
          exact ⟨rfl, rfl⟩
        · exact absurd hb (hk' k)
      · rcases h' with ⟨rfl, a', rfl, ha'⟩ | ⟨_, rfl, k', l', hl', rfl, hb', hk'⟩ | ⟨_, rfl, rfl, _⟩
        · exact (ha'.not hn).elim
        · exact absurd hb' (hk k')
        · exact ⟨rfl, rfl⟩
end Sk
end Go.Proofs.Ytppjlpihaocdiaa

