/- The plain mathematics of 'Patterned': the walk over a pattern, byte by byte, as a function on numbers; no Go text. -/
import Derived.WalkKit
namespace Go.Proofs.Ytppjlpihaocdiaa

/-- The byte at a place, as a number. -/
def byt (s : ByteArray) (i : Nat) : Nat := (s.data.toList.getD i 0).toNat

theorem byt_eq (s : ByteArray) (i : Nat) (h : i < s.size) : (s[i]).toNat = byt s i := by
  unfold byt
  rw [List.getD_eq_getElem?_getD, List.getElem?_eq_getElem (by simpa using h)]
  rfl

theorem byt_lt (s : ByteArray) (i : Nat) : byt s i < 256 := by
  unfold byt; exact UInt8.toNat_lt _

/-- The byte that comes next, or -1. -/
def pk (s : ByteArray) (i : Nat) : Int := if i < s.size then (byt s i : Int) else -1

theorem pk_in {s : ByteArray} {i : Nat} (h : i < s.size) : pk s i = (byt s i : Int) := if_pos h
theorem pk_out {s : ByteArray} {i : Nat} (h : ¬ i < s.size) : pk s i = -1 := if_neg h

/-- Is a byte in a text? -/
def inB (t : ByteArray) (c : Nat) : Bool := t.data.toList.any fun x => x.toNat == c

def noStart : ByteArray := ⟨#[10, 41, 42, 43, 63, 123, 124]⟩
def noInner : ByteArray := ⟨#[10, 93, 45]⟩
def escs : ByteArray := ⟨#[110, 92, 46, 94, 36, 40, 41, 91, 93, 42, 43, 63, 123, 125, 124, 47, 38, 45]⟩
def quants : ByteArray := ⟨#[42, 43, 63]⟩

theorem inB_noStart (c : Nat) : inB noStart c = true ↔ c = 10 ∨ c = 41 ∨ c = 42 ∨ c = 43 ∨ c = 63 ∨ c = 123 ∨ c = 124 := by
  simp [inB, noStart]; omega
theorem inB_noInner (c : Nat) : inB noInner c = true ↔ c = 10 ∨ c = 93 ∨ c = 45 := by
  simp [inB, noInner]; omega
theorem inB_quants (c : Nat) : inB quants c = true ↔ c = 42 ∨ c = 43 ∨ c = 63 := by
  simp [inB, quants]; omega

/-- Where the walk is: mode, brackets open, brackets in all, the least that may come. -/
structure St where
  m : Nat
  o : Nat
  a : Nat
  l : Nat

/-- What an escaped byte stands for. -/
def val (c : Nat) : Nat := if c = 110 then 10 else c

def begins (st : St) (c : Nat) : Option St :=
  if c = 40 then (if st.o = 5 ∨ st.a = 9 then none else some ⟨0, st.o + 1, st.a + 1, st.l⟩)
  else if c = 91 then some ⟨4, st.o, st.a, st.l⟩
  else if c = 92 then some ⟨3, st.o, st.a, st.l⟩
  else if inB noStart c = true then none else some ⟨1, st.o, st.a, st.l⟩

def goesOn (st : St) (c : Nat) : Option St :=
  if st.m = 1 ∧ inB quants c = true then some ⟨2, st.o, st.a, st.l⟩
  else if st.m = 1 ∧ c = 123 then some ⟨11, st.o, st.a, 0⟩
  else if c = 124 then some ⟨0, st.o, st.a, st.l⟩
  else if c = 41 ∧ 0 < st.o then some ⟨1, st.o - 1, st.a, st.l⟩
  else begins st c

def inSet (st : St) (c : Nat) : Option St :=
  let dash := st.m = 8 ∨ st.m = 10
  let least := if dash then st.l else 0
  if st.m = 9 ∨ st.m = 10 then (if inB escs c = true ∧ least ≤ val c then some ⟨if dash then 7 else 6, st.o, st.a, val c⟩ else none)
  else if st.m = 4 ∧ c = 94 then some ⟨5, st.o, st.a, st.l⟩
  else if c = 93 then (if st.m = 6 ∨ st.m = 7 then some ⟨1, st.o, st.a, st.l⟩ else none)
  else if c = 45 then (if st.m = 6 then some ⟨8, st.o, st.a, st.l⟩ else none)
  else if c = 92 then (if least ≤ 125 then some ⟨if dash then 10 else 9, st.o, st.a, st.l⟩ else none)
  else if c = 10 ∨ c < least then none
  else some ⟨if dash then 7 else 6, st.o, st.a, c⟩

def braced (st : St) (c : Nat) : Option St :=
  if st.m = 11 ∨ st.m = 13 then (if 48 ≤ c ∧ c ≤ 57 ∧ st.l ≤ c - 48 then some ⟨if st.m = 11 then 12 else 14, st.o, st.a, c - 48⟩ else none)
  else if c = 125 then some ⟨2, st.o, st.a, st.l⟩
  else if c = 44 ∧ st.m = 12 then some ⟨13, st.o, st.a, st.l⟩
  else none

def step (st : St) (c : Nat) : Option St :=
  if st.m = 0 then begins st c
  else if st.m = 1 ∨ st.m = 2 then goesOn st c
  else if st.m = 3 then (if inB escs c = true then some ⟨1, st.o, st.a, st.l⟩ else none)
  else if 11 ≤ st.m then braced st c
  else inSet st c

def whole (st : St) : Bool := decide (st.o = 0) && (decide (st.m = 1) || decide (st.m = 2))

/-- The walk over the first i bytes. -/
def run (s : ByteArray) : Nat → Option St
  | 0 => some ⟨0, 0, 0, 0⟩
  | i + 1 => (run s i).bind fun st => step st (byt s i)

theorem run_succ {s : ByteArray} {i : Nat} {st : St} (h : run s i = some st) : run s (i + 1) = step st (byt s i) := by
  simp [run, h]

/-- The walk stops at j: the byte there cannot stand there, or the text ends too early. -/
def Fails (s : ByteArray) (j : Nat) : Prop := ∃ st, run s j = some st ∧ j ≤ s.size ∧ (j < s.size → step st (byt s j) = none) ∧ (j = s.size → whole st = false)

def Wholly (s : ByteArray) : Prop := ∃ st, run s s.size = some st ∧ whole st = true

theorem run_some_of_le {s : ByteArray} {i j : Nat} (h : i ≤ j) {st : St} (hj : run s j = some st) : ∃ st', run s i = some st' := by
  induction j generalizing st with
  | zero => have : i = 0 := by omega
            subst this; exact ⟨_, hj⟩
  | succ j ih =>
    by_cases e : i = j + 1
    · subst e; exact ⟨_, hj⟩
    · simp only [run, Option.bind_eq_some_iff] at hj
      obtain ⟨x, hx, _⟩ := hj
      exact ih (by omega) hx

theorem Fails.lt_not {s : ByteArray} {i j : Nat} (hi : Fails s i) (h : i < j) {st : St} (hj : run s j = some st) (hjs : j ≤ s.size) : False := by
  obtain ⟨si, h1, _, h3, _⟩ := hi
  obtain ⟨s', h'⟩ := run_some_of_le (i := i + 1) (by omega) hj
  rw [run_succ h1, h3 (by omega)] at h'
  cases h'

theorem Fails.unique {s : ByteArray} {i j : Nat} (hi : Fails s i) (hj : Fails s j) : i = j := by
  rcases Nat.lt_trichotomy i j with h | h | h
  · obtain ⟨_, h1, h2, _⟩ := hj
    exact (hi.lt_not h h1 h2).elim
  · exact h
  · obtain ⟨_, h1, h2, _⟩ := hi
    exact (hj.lt_not h h1 h2).elim

theorem Fails.not_wholly {s : ByteArray} {i : Nat} (hi : Fails s i) (hw : Wholly s) : False := by
  obtain ⟨st, h1, h2⟩ := hw
  have hi' := hi
  obtain ⟨si, g1, g2, g3, g4⟩ := hi
  by_cases e : i = s.size
  · subst e
    rw [h1] at g1; cases g1
    rw [g4 rfl] at h2; cases h2
  · exact hi'.lt_not (j := s.size) (by omega) h1 (Nat.le_refl _)

theorem inSet4 (o a l c : Nat) : inSet ⟨4, o, a, l⟩ c = if c = 94 then some ⟨5, o, a, l⟩ else if c = 93 then none else if c = 45 then none else if c = 92 then some ⟨9, o, a, l⟩ else if c = 10 then none else some ⟨6, o, a, c⟩ := by
  simp [inSet]
theorem inSet5 (o a l c : Nat) : inSet ⟨5, o, a, l⟩ c = if c = 93 then none else if c = 45 then none else if c = 92 then some ⟨9, o, a, l⟩ else if c = 10 then none else some ⟨6, o, a, c⟩ := by
  simp [inSet]
theorem inSet6 (o a l c : Nat) : inSet ⟨6, o, a, l⟩ c = if c = 93 then some ⟨1, o, a, l⟩ else if c = 45 then some ⟨8, o, a, l⟩ else if c = 92 then some ⟨9, o, a, l⟩ else if c = 10 then none else some ⟨6, o, a, c⟩ := by
  simp [inSet]
theorem inSet7 (o a l c : Nat) : inSet ⟨7, o, a, l⟩ c = if c = 93 then some ⟨1, o, a, l⟩ else if c = 45 then none else if c = 92 then some ⟨9, o, a, l⟩ else if c = 10 then none else some ⟨6, o, a, c⟩ := by
  simp [inSet]
theorem inSet8 (o a l c : Nat) : inSet ⟨8, o, a, l⟩ c = if c = 93 then none else if c = 45 then none else if c = 92 then (if l ≤ 125 then some ⟨10, o, a, l⟩ else none) else if c = 10 ∨ c < l then none else some ⟨7, o, a, c⟩ := by
  simp [inSet]
theorem inSet9 (o a l c : Nat) : inSet ⟨9, o, a, l⟩ c = if inB escs c = true then some ⟨6, o, a, val c⟩ else none := by
  simp [inSet]
theorem inSet10 (o a l c : Nat) : inSet ⟨10, o, a, l⟩ c = if inB escs c = true ∧ l ≤ val c then some ⟨7, o, a, val c⟩ else none := by
  simp [inSet]

/-- The numbers of a walk are small. -/
def Small (st : St) : Prop := st.m ≤ 14 ∧ st.o ≤ 5 ∧ st.a ≤ 9 ∧ st.l ≤ 255

theorem val_le {c : Nat} (h : c < 256) : val c ≤ 255 := by unfold val; split <;> omega

theorem small_begins {st st' : St} {c : Nat} (h : Small st) (hs : begins st c = some st') : Small st' := by
  obtain ⟨m, o, a, l⟩ := st
  obtain ⟨h1, h2, h3, h4⟩ := h
  simp only at h1 h2 h3 h4
  unfold begins at hs
  simp only at hs
  (repeat' split at hs) <;> first | (cases hs; exact ⟨by simp only; omega, by simp only; omega, by simp only; omega, by simp only; omega⟩) | cases hs

theorem small_goesOn {st st' : St} {c : Nat} (h : Small st) (hs : goesOn st c = some st') : Small st' := by
  have hb := small_begins (st' := st') (c := c) h
  obtain ⟨m, o, a, l⟩ := st
  obtain ⟨h1, h2, h3, h4⟩ := h
  simp only at h1 h2 h3 h4
  unfold goesOn at hs
  simp only at hs
  (repeat' split at hs) <;> first | (cases hs; exact ⟨by simp only; omega, by simp only; omega, by simp only; omega, by simp only; omega⟩) | exact hb hs

theorem small_braced {st st' : St} {c : Nat} (h : Small st) (hc : c < 256) (hs : braced st c = some st') : Small st' := by
  obtain ⟨m, o, a, l⟩ := st
  obtain ⟨h1, h2, h3, h4⟩ := h
  simp only at h1 h2 h3 h4
  unfold braced at hs
  simp only at hs
  (repeat' split at hs) <;> first | (cases hs; refine ⟨?_, h2, h3, ?_⟩ <;> simp only <;> (try split) <;> omega) | cases hs

theorem small_inSet {st st' : St} {c : Nat} (h : Small st) (hc : c < 256) (hs : inSet st c = some st') : Small st' := by
  have hv := val_le hc
  obtain ⟨m, o, a, l⟩ := st
  obtain ⟨h1, h2, h3, h4⟩ := h
  simp only at h1 h2 h3 h4
  unfold inSet at hs
  simp only at hs
  (repeat' split at hs) <;> first | (cases hs; refine ⟨?_, h2, h3, ?_⟩ <;> simp only <;> (try split) <;> omega) | cases hs

theorem small_step {st st' : St} {c : Nat} (h : Small st) (hc : c < 256) (hs : step st c = some st') : Small st' := by
  unfold step at hs
  split at hs
  · exact small_begins h hs
  · split at hs
    · exact small_goesOn h hs
    · split at hs
      · split at hs
        · cases hs; exact ⟨by simp only; omega, h.2.1, h.2.2.1, h.2.2.2⟩
        · cases hs
      · split at hs
        · exact small_braced h hc hs
        · exact small_inSet h hc hs

theorem small_run {s : ByteArray} : ∀ {i : Nat} {st : St}, run s i = some st → Small st
  | 0, st, h => by cases h; exact ⟨by decide, by decide, by decide, by decide⟩
  | i + 1, st, h => by
    simp only [run, Option.bind_eq_some_iff] at h
    obtain ⟨x, hx, h⟩ := h
    exact small_step (small_run hx) (byt_lt s i) h

/-- The document's answer, as a relation. -/
def Ans (s : ByteArray) (ec place : Int) : Prop :=
  (40 < s.size ∧ ec = 1 ∧ place = 0) ∨ (s.size ≤ 40 ∧ ec = 2 ∧ ∃ j : Nat, place = j ∧ Fails s j) ∨ (s.size ≤ 40 ∧ ec = 0 ∧ place = 0 ∧ Wholly s)

theorem Ans.unique {s : ByteArray} {e p e' p' : Int} (h : Ans s e p) (h' : Ans s e' p') : e = e' ∧ p = p' := by
  rcases h with ⟨h1, rfl, rfl⟩ | ⟨h1, rfl, j, rfl, hj⟩ | ⟨h1, rfl, rfl, hw⟩
  · rcases h' with ⟨h1', rfl, rfl⟩ | ⟨h1', rfl, j', rfl, hj'⟩ | ⟨h1', rfl, rfl, hw'⟩
    · exact ⟨rfl, rfl⟩
    · omega
    · omega
  · rcases h' with ⟨h1', rfl, rfl⟩ | ⟨h1', rfl, j', rfl, hj'⟩ | ⟨h1', rfl, rfl, hw'⟩
    · omega
    · exact ⟨rfl, by rw [hj.unique hj']⟩
    · exact (hj.not_wholly hw').elim
  · rcases h' with ⟨h1', rfl, rfl⟩ | ⟨h1', rfl, j', rfl, hj'⟩ | ⟨h1', rfl, rfl, hw'⟩
    · omega
    · exact (hj'.not_wholly hw).elim
    · exact ⟨rfl, rfl⟩

end Go.Proofs.Ytppjlpihaocdiaa
