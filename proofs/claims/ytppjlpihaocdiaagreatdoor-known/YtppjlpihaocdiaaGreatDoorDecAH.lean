/- Several texts in one. -/
import Derived.WalkKit
/- A part of the proof. -/
namespace Go.Proofs.YtppjlpihaocdiaaGreatDoor
def byt (s : ByteArray) (i : Nat) : Nat := (s.data.toList.getD i 0).toNat
theorem byt_eq (s : ByteArray) (i : Nat) (h : i < s.size) : (s[i]).toNat = byt s i := by
  unfold byt
  rw [List.getD_eq_getElem?_getD, List.getElem?_eq_getElem (by simpa using h)]
  rfl
theorem byt_lt (s : ByteArray) (i : Nat) : byt s i < 256 := by
  unfold byt; exact UInt8.toNat_lt _
def pk (s : ByteArray) (i : Nat) : Int := if i < s.size then (byt s i : Int) else -1
theorem pk_in {s : ByteArray} {i : Nat} (h : i < s.size) : pk s i = (byt s i : Int) := if_pos h
theorem pk_out {s : ByteArray} {i : Nat} (h : ¬ i < s.size) : pk s i = -1 := if_neg h
def inB (t : ByteArray) (c : Nat) : Bool := t.data.toList.any fun x => x.toNat == c
def noStart : ByteArray := ⟨#[10, 41, 42, 43, 63, 123, 124]⟩
def noInner : ByteArray := ⟨#[10, 93, 45]⟩
def escs : ByteArray := ⟨#[110, 92, 46, 94, 36, 40, 41, 91, 93, 42, 43, 63, 123, 125, 124, 47, 38, 45]⟩
def quants : ByteArray := ⟨#[42, 43, 63]⟩
theorem inB_noStart (c : Nat) : inB noStart c = true ↔ c = 10 ∨ c = 41 ∨ c = 42 ∨ c = 43 ∨ c = 63 ∨ c = 123 ∨ c = 124 := by
  simp [inB, noStart]; omega
theorem inB_noInner (c : Nat) : inB noInner c = true ↔ c = 10 ∨ c = 93 ∨ c = 45 := by
  simp [inB, noInner]; omega
theorem inB_quants (c : Nat) : inB quants c = true ↔ c = 42 ∨ c = 43 ∨ c = 63 := by
  simp [inB, quants]; omega
structure St where
  m : Nat
  o : Nat
  a : Nat
  l : Nat
def val (c : Nat) : Nat := if c = 110 then 10 else c
def begins (st : St) (c : Nat) : Option St :=
  if c = 40 then (if st.o = 5 ∨ st.a = 9 then none else some ⟨0, st.o + 1, st.a + 1, st.l⟩)
  else if c = 91 then some ⟨4, st.o, st.a, st.l⟩
  else if c = 92 then some ⟨3, st.o, st.a, st.l⟩
  else if inB noStart c = true then none else some ⟨1, st.o, st.a, st.l⟩
def goesOn (st : St) (c : Nat) : Option St :=
  if st.m = 1 ∧ inB quants c = true then some ⟨2, st.o, st.a, st.l⟩
  else if st.m = 1 ∧ c = 123 then some ⟨11, st.o, st.a, 0⟩
  else if c = 124 then some ⟨0, st.o, st.a, st.l⟩
  else if c = 41 ∧ 0 < st.o then some ⟨1, st.o - 1, st.a, st.l⟩
  else begins st c
def inSet (st : St) (c : Nat) : Option St :=
  let dash := st.m = 8 ∨ st.m = 10
  let least := if dash then st.l else 0
  if st.m = 9 ∨ st.m = 10 then (if inB escs c = true ∧ least ≤ val c then some ⟨if dash then 7 else 6, st.o, st.a, val c⟩ else none)
  else if st.m = 4 ∧ c = 94 then some ⟨5, st.o, st.a, st.l⟩
  else if c = 93 then (if st.m = 6 ∨ st.m = 7 then some ⟨1, st.o, st.a, st.l⟩ else none)
  else if c = 45 then (if st.m = 6 then some ⟨8, st.o, st.a, st.l⟩ else none)
  else if c = 92 then (if least ≤ 125 then some ⟨if dash then 10 else 9, st.o, st.a, st.l⟩ else none)
  else if c = 10 ∨ c < least then none
  else some ⟨if dash then 7 else 6, st.o, st.a, c⟩
def braced (st : St) (c : Nat) : Option St :=
  if st.m = 11 ∨ st.m = 13 then (if 48 ≤ c ∧ c ≤ 57 ∧ st.l ≤ c - 48 then some ⟨if st.m = 11 then 12 else 14, st.o, st.a, c - 48⟩ else none)
  else if c = 125 then some ⟨2, st.o, st.a, st.l⟩
  else if c = 44 ∧ st.m = 12 then some ⟨13, st.o, st.a, st.l⟩
  else none
def step (st : St) (c : Nat) : Option St :=
  if st.m = 0 then begins st c
  else if st.m = 1 ∨ st.m = 2 then goesOn st c
  else if st.m = 3 then (if inB escs c = true then some ⟨1, st.o, st.a, st.l⟩ else none)
  else if 11 ≤ st.m then braced st c
  else inSet st c
def whole (st : St) : Bool := decide (st.o = 0) && (decide (st.m = 1) || decide (st.m = 2))
def run (s : ByteArray) : Nat → Option St
  | 0 => some ⟨0, 0, 0, 0⟩
  | i + 1 => (run s i).bind fun st => step st (byt s i)
theorem run_succ {s : ByteArray} {i : Nat} {st : St} (h : run s i = some st) : run s (i + 1) = step st (byt s i) := by
  simp [run, h]
def Fails (s : ByteArray) (j : Nat) : Prop := ∃ st, run s j = some st ∧ j ≤ s.size ∧ (j < s.size → step st (byt s j) = none) ∧ (j = s.size → whole st = false)
def Wholly (s : ByteArray) : Prop := ∃ st, run s s.size = some st ∧ whole st = true
theorem run_some_of_le {s : ByteArray} {i j : Nat} (h : i ≤ j) {st : St} (hj : run s j = some st) : ∃ st', run s i = some st' := by
  induction j generalizing st with
  | zero => have : i = 0 := by omega
            subst this; exact ⟨_, hj⟩
  | succ j ih =>
    by_cases e : i = j + 1
    · subst e; exact ⟨_, hj⟩
    · simp only [run, Option.bind_eq_some_iff] at hj
      obtain ⟨x, hx, _⟩ := hj
      exact ih (by omega) hx
theorem Fails.lt_not {s : ByteArray} {i j : Nat} (hi : Fails s i) (h : i < j) {st : St} (hj : run s j = some st) (hjs : j ≤ s.size) : False := by
  obtain ⟨si, h1, _, h3, _⟩ := hi
  obtain ⟨s', h'⟩ := run_some_of_le (i := i + 1) (by omega) hj
  rw [run_succ h1, h3 (by omega)] at h'
  cases h'
theorem Fails.unique {s : ByteArray} {i j : Nat} (hi : Fails s i) (hj : Fails s j) : i = j := by
  rcases Nat.lt_trichotomy i j with h | h | h
  · obtain ⟨_, h1, h2, _⟩ := hj
    exact (hi.lt_not h h1 h2).elim
  · exact h
  · obtain ⟨_, h1, h2, _⟩ := hi
    exact (hj.lt_not h h1 h2).elim
theorem Fails.not_wholly {s : ByteArray} {i : Nat} (hi : Fails s i) (hw : Wholly s) : False := by
  obtain ⟨st, h1, h2⟩ := hw
  have hi' := hi
  obtain ⟨si, g1, g2, g3, g4⟩ := hi
  by_cases e : i = s.size
  · subst e
    rw [h1] at g1; cases g1
    rw [g4 rfl] at h2; cases h2
  · exact hi'.lt_not (j := s.size) (by omega) h1 (Nat.le_refl _)
theorem inSet4 (o a l c : Nat) : inSet ⟨4, o, a, l⟩ c = if c = 94 then some ⟨5, o, a, l⟩ else if c = 93 then none else if c = 45 then none else if c = 92 then some ⟨9, o, a, l⟩ else if c = 10 then none else some ⟨6, o, a, c⟩ := by
  simp [inSet]
theorem inSet5 (o a l c : Nat) : inSet ⟨5, o, a, l⟩ c = if c = 93 then none else if c = 45 then none else if c = 92 then some ⟨9, o, a, l⟩ else if c = 10 then none else some ⟨6, o, a, c⟩ := by
  simp [inSet]
theorem inSet6 (o a l c : Nat) : inSet ⟨6, o, a, l⟩ c = if c = 93 then some ⟨1, o, a, l⟩ else if c = 45 then some ⟨8, o, a, l⟩ else if c = 92 then some ⟨9, o, a, l⟩ else if c = 10 then none else some ⟨6, o, a, c⟩ := by
  simp [inSet]
theorem inSet7 (o a l c : Nat) : inSet ⟨7, o, a, l⟩ c = if c = 93 then some ⟨1, o, a, l⟩ else if c = 45 then none else if c = 92 then some ⟨9, o, a, l⟩ else if c = 10 then none else some ⟨6, o, a, c⟩ := by
  simp [inSet]
theorem inSet8 (o a l c : Nat) : inSet ⟨8, o, a, l⟩ c = if c = 93 then none else if c = 45 then none else if c = 92 then (if l ≤ 125 then some ⟨10, o, a, l⟩ else none) else if c = 10 ∨ c < l then none else some ⟨7, o, a, c⟩ := by
  simp [inSet]
theorem inSet9 (o a l c : Nat) : inSet ⟨9, o, a, l⟩ c = if inB escs c = true then some ⟨6, o, a, val c⟩ else none := by
  simp [inSet]
theorem inSet10 (o a l c : Nat) : inSet ⟨10, o, a, l⟩ c = if inB escs c = true ∧ l ≤ val c then some ⟨7, o, a, val c⟩ else none := by
  simp [inSet]
def Small (st : St) : Prop := st.m ≤ 14 ∧ st.o ≤ 5 ∧ st.a ≤ 9 ∧ st.l ≤ 255
theorem val_le {c : Nat} (h : c < 256) : val c ≤ 255 := by unfold val; split <;> omega
theorem small_begins {st st' : St} {c : Nat} (h : Small st) (hs : begins st c = some st') : Small st' := by
  obtain ⟨m, o, a, l⟩ := st
  obtain ⟨h1, h2, h3, h4⟩ := h
  simp only at h1 h2 h3 h4
  unfold begins at hs
  simp only at hs
  (repeat' split at hs) <;> first | (cases hs; exact ⟨by simp only; omega, by simp only; omega, by simp only; omega, by simp only; omega⟩) | cases hs
theorem small_goesOn {st st' : St} {c : Nat} (h : Small st) (hs : goesOn st c = some st') : Small st' := by
  have hb := small_begins (st' := st') (c := c) h
  obtain ⟨m, o, a, l⟩ := st
  obtain ⟨h1, h2, h3, h4⟩ := h
  simp only at h1 h2 h3 h4
  unfold goesOn at hs
  simp only at hs
  (repeat' split at hs) <;> first | (cases hs; exact ⟨by simp only; omega, by simp only; omega, by simp only; omega, by simp only; omega⟩) | exact hb hs
theorem small_braced {st st' : St} {c : Nat} (h : Small st) (hc : c < 256) (hs : braced st c = some st') : Small st' := by
  obtain ⟨m, o, a, l⟩ := st
  obtain ⟨h1, h2, h3, h4⟩ := h
  simp only at h1 h2 h3 h4
  unfold braced at hs
  simp only at hs
  (repeat' split at hs) <;> first | (cases hs; refine ⟨?_, h2, h3, ?_⟩ <;> simp only <;> (try split) <;> omega) | cases hs
theorem small_inSet {st st' : St} {c : Nat} (h : Small st) (hc : c < 256) (hs : inSet st c = some st') : Small st' := by
  have hv := val_le hc
  obtain ⟨m, o, a, l⟩ := st
  obtain ⟨h1, h2, h3, h4⟩ := h
  simp only at h1 h2 h3 h4
  unfold inSet at hs
  simp only at hs
  (repeat' split at hs) <;> first | (cases hs; refine ⟨?_, h2, h3, ?_⟩ <;> simp only <;> (try split) <;> omega) | cases hs
theorem small_step {st st' : St} {c : Nat} (h : Small st) (hc : c < 256) (hs : step st c = some st') : Small st' := by
  unfold step at hs
  split at hs
  · exact small_begins h hs
  · split at hs
    · exact small_goesOn h hs
    · split at hs
      · split at hs
        · cases hs; exact ⟨by simp only; omega, h.2.1, h.2.2.1, h.2.2.2⟩
        · cases hs
      · split at hs
        · exact small_braced h hc hs
        · exact small_inSet h hc hs
theorem small_run {s : ByteArray} : ∀ {i : Nat} {st : St}, run s i = some st → Small st
  | 0, st, h => by cases h; exact ⟨by decide, by decide, by decide, by decide⟩
  | i + 1, st, h => by
    simp only [run, Option.bind_eq_some_iff] at h
    obtain ⟨x, hx, h⟩ := h
    exact small_step (small_run hx) (byt_lt s i) h
def Ans (s : ByteArray) (ec place : Int) : Prop :=
  (40 < s.size ∧ ec = 1 ∧ place = 0) ∨ (s.size ≤ 40 ∧ ec = 2 ∧ ∃ j : Nat, place = j ∧ Fails s j) ∨ (s.size ≤ 40 ∧ ec = 0 ∧ place = 0 ∧ Wholly s)
theorem Ans.unique {s : ByteArray} {e p e' p' : Int} (h : Ans s e p) (h' : Ans s e' p') : e = e' ∧ p = p' := by
  rcases h with ⟨h1, rfl, rfl⟩ | ⟨h1, rfl, j, rfl, hj⟩ | ⟨h1, rfl, rfl, hw⟩
  · rcases h' with ⟨h1', rfl, rfl⟩ | ⟨h1', rfl, j', rfl, hj'⟩ | ⟨h1', rfl, rfl, hw'⟩
    · exact ⟨rfl, rfl⟩
    · omega
    · omega
  · rcases h' with ⟨h1', rfl, rfl⟩ | ⟨h1', rfl, j', rfl, hj'⟩ | ⟨h1', rfl, rfl, hw'⟩
    · omega
    · exact ⟨rfl, by rw [hj.unique hj']⟩
    · exact (hj.not_wholly hw').elim
  · rcases h' with ⟨h1', rfl, rfl⟩ | ⟨h1', rfl, j', rfl, hj'⟩ | ⟨h1', rfl, rfl, hw'⟩
    · omega
    · exact (hj'.not_wholly hw).elim
    · exact ⟨rfl, rfl⟩
end Go.Proofs.YtppjlpihaocdiaaGreatDoor

/- A part of the proof. -/
namespace Go.Proofs.YtppjlpihaocdiaaGreatDoor
def Pow (R : Nat → Nat → Prop) : Nat → Nat → Nat → Prop
  | 0, i, j => i = j
  | n + 1, i, j => ∃ m, R i m ∧ Pow R n m j
def Full (R : Nat → Nat → Prop) (i j : Nat) : Prop := R i j ∧ i ≠ j
def Times (R : Nat → Nat → Prop) (lo : Nat) (hi : Int) (i j : Nat) : Prop := ∃ (m q : Nat), Pow R lo i m ∧ (hi < 0 ∨ (lo : Int) + q ≤ hi) ∧ Pow (Full R) q m j
theorem Pow.le {R : Nat → Nat → Prop} {L : Nat} (hR : ∀ i j, i ≤ L → R i j → i ≤ j ∧ j ≤ L) : ∀ {n i j : Nat}, i ≤ L → Pow R n i j → i ≤ j ∧ j ≤ L
  | 0, i, j, hi, h => by cases h; omega
  | n + 1, i, j, hi, h => by
    obtain ⟨m, h1, h2⟩ := h
    have a := hR i m hi h1
    have b := Pow.le hR a.2 h2
    omega
def Stays (L : Nat) (R : Nat → Nat → Prop) : Prop := ∀ i j, i ≤ L → R i j → i ≤ j ∧ j ≤ L
theorem Stays.full {L : Nat} {R : Nat → Nat → Prop} (h : Stays L R) : Stays L (Full R) := fun i j hi hr => h i j hi hr.1
theorem Stays.times {L : Nat} {R : Nat → Nat → Prop} (h : Stays L R) (lo : Nat) (hi : Int) : Stays L (Times R lo hi) := by
  rintro i j hi' ⟨m, q, h1, _, h2⟩
  have x := Pow.le h hi' h1
  have y := Pow.le h.full x.2 h2
  omega
def Chain : List (Nat → Nat → Prop) → Nat → Nat → Prop
  | [], i, j => i = j
  | r :: rs, i, j => ∃ m, r i m ∧ Chain rs m j
theorem Stays.chain {L : Nat} : ∀ {l : List (Nat → Nat → Prop)}, (∀ r ∈ l, Stays L r) → Stays L (Chain l)
  | [], _ => by rintro i j hi rfl; omega
  | r :: rs, h => by
    rintro i j hi ⟨m, h1, h2⟩
    have x := h r (by simp) i m hi h1
    have y := Stays.chain (l := rs) (fun r hr => h r (List.mem_cons_of_mem _ hr)) m j x.2 h2
    omega
structure Nd where
  kind : Nat
  set : Nat → Bool
  subs : List Nat
  num : Nat
  lo : Nat
  hi : Int
def mOf (s : ByteArray) (nodes : List Nd) : Nat → Nat → Nat → Nat → Prop
  | 0, _, _, _ => False
  | f + 1, n, i, j => match nodes[n]? with
    | none => False
    | some d =>
      if d.kind = 0 then i < s.size ∧ d.set (byt s i) = true ∧ j = i + 1
      else if d.kind = 1 then i = 0 ∧ j = i
      else if d.kind = 2 then i = s.size ∧ j = i
      else if d.kind = 5 then Chain (d.subs.map fun x => mOf s nodes f x) i j
      else if d.kind = 6 then Times (mOf s nodes f (d.subs.getD 0 0)) d.lo d.hi i j
      else ∃ x ∈ d.subs, mOf s nodes f x i j
def Wf (nodes : List Nd) : Prop := ∀ (n : Nat) (d : Nd), nodes[n]? = some d → (∀ x ∈ d.subs, x < n) ∧ (d.kind = 6 → d.subs ≠ [])
theorem mOf_more (s : ByteArray) (nodes : List Nd) (hw : Wf nodes) : ∀ (f f' n : Nat), n < f → n < f' → mOf s nodes f n = mOf s nodes f' n
  | 0, _, _, h, _ => by omega
  | _, 0, _, _, h => by omega
  | f + 1, f' + 1, n, h, h' => by
    funext i j
    simp only [mOf]
    cases hd : nodes[n]? with
    | none => rfl
    | some d =>
      obtain ⟨hs, h6⟩ := hw n d hd
      have ih : ∀ x ∈ d.subs, mOf s nodes f x = mOf s nodes f' x := fun x hx => mOf_more s nodes hw f f' x (by have := hs x hx; omega) (by have := hs x hx; omega)
      have e1 : (d.subs.map fun x => mOf s nodes f x) = d.subs.map fun x => mOf s nodes f' x := List.map_congr_left ih
      simp only
      rw [e1]
      split
      · rfl
      · split
        · rfl
        · split
          · rfl
          · split
            · rfl
            · split
              · rename_i h66
                have hne := h6 h66
                have : d.subs.getD 0 0 ∈ d.subs := by
                  cases hd2 : d.subs with
                  | nil => exact absurd hd2 hne
                  | cons a l => simp
                rw [ih _ this]
              · apply propext
                constructor
                · rintro ⟨x, hx, hm⟩; exact ⟨x, hx, by rw [← ih x hx]; exact hm⟩
                · rintro ⟨x, hx, hm⟩; exact ⟨x, hx, by rw [ih x hx]; exact hm⟩
def Mat (s : ByteArray) (nodes : List Nd) (n : Nat) : Nat → Nat → Prop := mOf s nodes (n + 1) n
theorem Mat_eq {s : ByteArray} {nodes : List Nd} (hw : Wf nodes) {n : Nat} {d : Nd} (hd : nodes[n]? = some d) (i j : Nat) : Mat s nodes n i j ↔
      (if d.kind = 0 then i < s.size ∧ d.set (byt s i) = true ∧ j = i + 1
      else if d.kind = 1 then i = 0 ∧ j = i
      else if d.kind = 2 then i = s.size ∧ j = i
      else if d.kind = 5 then Chain (d.subs.map fun x => Mat s nodes x) i j
      else if d.kind = 6 then Times (Mat s nodes (d.subs.getD 0 0)) d.lo d.hi i j
      else ∃ x ∈ d.subs, Mat s nodes x i j) := by
  obtain ⟨hs, h6⟩ := hw n d hd
  have ih : ∀ x ∈ d.subs, mOf s nodes n x = Mat s nodes x := fun x hx => mOf_more s nodes hw n (x + 1) x (hs x hx) (by omega)
  have e1 : (d.subs.map fun x => mOf s nodes n x) = d.subs.map fun x => Mat s nodes x := List.map_congr_left ih
  unfold Mat
  rw [mOf, hd]
  simp only
  rw [e1]
  split
  · exact Iff.rfl
  · split
    · exact Iff.rfl
    · split
      · exact Iff.rfl
      · split
        · exact Iff.rfl
        · split
          · rename_i h66
            have hne := h6 h66
            have hm : d.subs.getD 0 0 ∈ d.subs := by
              cases hd2 : d.subs with
              | nil => exact absurd hd2 hne
              | cons a l => simp
            rw [ih _ hm]
            exact Iff.rfl
          · constructor
            · rintro ⟨x, hx, hm⟩; exact ⟨x, hx, by have := ih x hx; rw [this] at hm; exact hm⟩
            · rintro ⟨x, hx, hm⟩; exact ⟨x, hx, by rw [ih x hx]; exact hm⟩
theorem Mat_stays (s : ByteArray) {nodes : List Nd} (hw : Wf nodes) : ∀ (N n : Nat), n < N → Stays s.size (Mat s nodes n)
  | 0, n, h => by omega
  | N + 1, n, h => by
    intro i j hi hm
    cases hd : nodes[n]? with
    | none => unfold Mat at hm; rw [mOf, hd] at hm; exact hm.elim
    | some d =>
      obtain ⟨hs, h6⟩ := hw n d hd
      rw [Mat_eq hw hd] at hm
      split at hm
      · obtain ⟨a, _, b⟩ := hm; omega
      · split at hm
        · omega
        · split at hm
          · omega
          · split at hm
            · refine Stays.chain ?_ i j hi hm
              intro r hr
              obtain ⟨x, hx, rfl⟩ := List.mem_map.1 hr
              exact Mat_stays s hw N x (by have := hs x hx; omega)
            · split at hm
              · rename_i h66
                have hne := h6 h66
                have hmem : d.subs.getD 0 0 ∈ d.subs := by
                  cases hd2 : d.subs with
                  | nil => exact absurd hd2 hne
                  | cons a l => simp
                exact Stays.times (Mat_stays s hw N _ (by have := hs _ hmem; omega)) _ _ i j hi hm
              · obtain ⟨x, hx, hm⟩ := hm
                exact Mat_stays s hw N x (by have := hs x hx; omega) i j hi hm
def TimesR (R : Nat → Nat → Prop) (lo : Nat) (hi : Int) (k0 : Nat) (A : Nat → Prop) (j : Nat) : Prop :=
  ∃ (i m q : Nat), A i ∧ Pow R (lo - k0) i m ∧ (q = 0 ∨ hi < 0 ∨ ((max k0 lo : Nat) : Int) + q ≤ hi) ∧ Pow (Full R) q m j
end Go.Proofs.YtppjlpihaocdiaaGreatDoor

/- A part of the proof. -/
namespace Go.Proofs.YtppjlpihaocdiaaGreatDoor
abbrev Caps := List (Int × Int)
def Top (P : Nat → Prop) (i j t : Nat) : Prop := i ≤ t ∧ t ≤ j ∧ (∀ u, t < u → u ≤ j → ¬ P u) ∧ (t = i ∨ P t)
theorem Top.one {P : Nat → Prop} {i j t t' : Nat} (h : Top P i j t) (h' : Top P i j t') : t = t' := by
  obtain ⟨a1, a2, a3, a4⟩ := h
  obtain ⟨b1, b2, b3, b4⟩ := h'
  rcases Nat.lt_trichotomy t t' with e | e | e
  · rcases b4 with b | b
    · omega
    · exact absurd b (a3 t' e b2)
  · exact e
  · rcases a4 with a | a
    · omega
    · exact absurd a (b3 t e a2)
section
variable (m : Nat → Nat → Nat → Prop) (g : Nat → Nat → Nat → Caps → Caps → Prop)
def altG : List Nat → Nat → Nat → Caps → Caps → Prop
  | [], _, _, c, c' => c' = c
  | x :: xs, i, j, c, c' => (m x i j ∧ g x i j c c') ∨ (¬ m x i j ∧ altG xs i j c c')
def rowG : List Nat → Nat → Nat → Caps → Caps → Prop
  | [], _, _, c, c' => c' = c
  | x :: xs, i, j, c, c' => ∃ t c1, Top (fun t => m x i t ∧ Chain (xs.map m) t j) i j t ∧ g x i t c c1 ∧ rowG xs t j c1 c'
def repG (x lo : Nat) (hi : Int) : Nat → Nat → Nat → Nat → Caps → Caps → Prop
  | 0, _, _, _, c, c' => c' = c
  | f + 1, done, i, j, c, c' => (¬ (i < j ∨ done < lo) ∧ c' = c) ∨
      ((i < j ∨ done < lo) ∧ ∃ t c1, Top (fun t => m x i t ∧ TimesR (m x) lo hi (done + 1) (fun k => k = t) j) i j t ∧ g x i t c c1 ∧ repG x lo hi f (done + 1) t j c1 c')
variable {m g}
theorem altG.one (hg : ∀ x i j c c1 c2, g x i j c c1 → g x i j c c2 → c1 = c2) : ∀ {l : List Nat} {i j : Nat} {c c1 c2 : Caps}, altG m g l i j c c1 → altG m g l i j c c2 → c1 = c2
  | [], _, _, _, _, _, h, h' => by rw [h, h']
  | x :: xs, i, j, c, c1, c2, h, h' => by
    rcases h with ⟨a, b⟩ | ⟨a, b⟩
    · rcases h' with ⟨a', b'⟩ | ⟨a', b'⟩
      · exact hg _ _ _ _ _ _ b b'
      · exact absurd a a'
    · rcases h' with ⟨a', b'⟩ | ⟨a', b'⟩
      · exact absurd a' a
      · exact altG.one hg b b'
theorem rowG.one (hg : ∀ x i j c c1 c2, g x i j c c1 → g x i j c c2 → c1 = c2) : ∀ {l : List Nat} {i j : Nat} {c c1 c2 : Caps}, rowG m g l i j c c1 → rowG m g l i j c c2 → c1 = c2
  | [], _, _, _, _, _, h, h' => by rw [h, h']
  | x :: xs, i, j, c, c1, c2, h, h' => by
    obtain ⟨t, d, a1, a2, a3⟩ := h
    obtain ⟨t', d', b1, b2, b3⟩ := h'
    have e := a1.one b1
    subst e
    have e := hg _ _ _ _ _ _ a2 b2
    subst e
    exact rowG.one hg a3 b3
theorem repG.one (hg : ∀ x i j c c1 c2, g x i j c c1 → g x i j c c2 → c1 = c2) {x lo : Nat} {hi : Int} : ∀ {f done i j : Nat} {c c1 c2 : Caps}, repG m g x lo hi f done i j c c1 → repG m g x lo hi f done i j c c2 → c1 = c2
  | 0, _, _, _, _, _, _, h, h' => by rw [h, h']
  | f + 1, done, i, j, c, c1, c2, h, h' => by
    rcases h with ⟨a, b⟩ | ⟨a, t, d, a1, a2, a3⟩
    · rcases h' with ⟨_, b'⟩ | ⟨a', _⟩
      · rw [b, b']
      · exact absurd a' a
    · rcases h' with ⟨a', _⟩ | ⟨_, t', d', b1, b2, b3⟩
      · exact absurd a a'
      · have e := a1.one b1
        subst e
        have e := hg _ _ _ _ _ _ a2 b2
        subst e
        exact repG.one hg a3 b3
end
def gOf (s : ByteArray) (nodes : List Nd) : Nat → Nat → Nat → Nat → Caps → Caps → Prop
  | 0, _, _, _, _, _ => False
  | f + 1, n, i, j, c, c' => ∃ d, nodes[n]? = some d ∧
      (if d.kind = 3 then gOf s nodes f (d.subs.getD 0 0) i j (c.set d.num ((i : Int), (j : Int))) c'
      else if d.kind = 4 then altG (Mat s nodes) (gOf s nodes f) d.subs i j c c'
      else if d.kind = 5 then rowG (Mat s nodes) (gOf s nodes f) d.subs i j c c'
      else if d.kind = 6 then repG (Mat s nodes) (gOf s nodes f) (d.subs.getD 0 0) d.lo d.hi (d.lo + s.size + 1) 0 i j c c'
      else c' = c)
theorem gOf.one (s : ByteArray) (nodes : List Nd) : ∀ {f n i j : Nat} {c c1 c2 : Caps}, gOf s nodes f n i j c c1 → gOf s nodes f n i j c c2 → c1 = c2
  | 0, _, _, _, _, _, _, h, _ => h.elim
  | f + 1, n, i, j, c, c1, c2, h, h' => by
    obtain ⟨d, e, h⟩ := h
    obtain ⟨d', e', h'⟩ := h'
    rw [e] at e'
    cases e'
    have ih : ∀ x i j c c1 c2, gOf s nodes f x i j c c1 → gOf s nodes f x i j c c2 → c1 = c2 := fun _ _ _ _ _ _ a b => gOf.one s nodes a b
    split at h
    · rename_i k; rw [if_pos k] at h'; exact ih _ _ _ _ _ _ h h'
    · rename_i k; rw [if_neg k] at h'
      split at h
      · rename_i k; rw [if_pos k] at h'; exact altG.one ih h h'
      · rename_i k; rw [if_neg k] at h'
        split at h
        · rename_i k; rw [if_pos k] at h'; exact rowG.one ih h h'
        · rename_i k; rw [if_neg k] at h'
          split at h
          · rename_i k; rw [if_pos k] at h'; exact repG.one ih h h'
          · rename_i k; rw [if_neg k] at h'; rw [h, h']
end Go.Proofs.YtppjlpihaocdiaaGreatDoor

/- A part of the proof. -/
set_option linter.unusedVariables false
namespace Go.Proofs.YtppjlpihaocdiaaGreatDoor
structure PSt where
  at' : Nat
  g : Nat
  l : List Nd
def noSet : Nat → Bool := fun _ => false
def leaf (k : Nat) (S : Nat → Bool) : Nd := ⟨k, S, [], 0, 0, 0⟩
def grpN (z num : Nat) : Nd := ⟨3, noSet, [z], num, 0, 0⟩
def repN (z lo : Nat) (hi : Int) : Nd := ⟨6, noSet, [z], 0, lo, hi⟩
def rowN (k : Nat) (zs : List Nat) : Nd := ⟨k, noSet, zs, 0, 0, 0⟩
def innV (s : ByteArray) (i : Nat) : Nat × Nat := if byt s i = 92 then (val (byt s (i + 1)), i + 2) else (byt s i, i + 1)
def betV (s : ByteArray) (i : Nat) : Nat × Nat × Nat :=
  if pk s (innV s i).2 = 45 then ((innV s i).1, (innV s ((innV s i).2 + 1)).1, (innV s ((innV s i).2 + 1)).2) else ((innV s i).1, (innV s i).1, (innV s i).2)
def addR (S : Nat → Bool) (lo hi : Nat) : Nat → Bool := fun c => S c || (decide (lo ≤ c) && decide (c ≤ hi))
def setL (s : ByteArray) : Nat → Nat → (Nat → Bool) → Nat × (Nat → Bool)
  | 0, i, S => (i, S)
  | f + 1, i, S => if pk s (betV s i).2.2 = 93 then ((betV s i).2.2 + 1, addR S (betV s i).1 (betV s i).2.1) else setL s f (betV s i).2.2 (addR S (betV s i).1 (betV s i).2.1)
def setV (s : ByteArray) (i : Nat) : Nat × (Nat → Bool) :=
  if pk s (i + 1) = 94 then ((setL s s.size (i + 2) noSet).1, fun c => !(setL s s.size (i + 2) noSet).2 c) else setL s s.size (i + 1) noSet
def addN (p : PSt) (j : Nat) (d : Nd) : PSt × Nat := (⟨j, p.g, p.l ++ [d]⟩, p.l.length)
section
variable (ch : PSt → PSt × Nat) (s : ByteArray)
def oneF (p : PSt) : PSt × Nat :=
  let c := byt s p.at'
  if c = 94 then addN p (p.at' + 1) (leaf 1 noSet)
  else if c = 36 then addN p (p.at' + 1) (leaf 2 noSet)
  else if c = 46 then addN p (p.at' + 1) (leaf 0 fun _ => true)
  else if c = 40 then
    let r := ch ⟨p.at' + 1, p.g + 1, p.l⟩
    addN r.1 (r.1.at' + 1) (grpN r.2 p.g)
  else if c = 91 then addN p (setV s p.at').1 (leaf 0 (setV s p.at').2)
  else if c = 92 then addN p (p.at' + 2) (leaf 0 (addR noSet (val (byt s (p.at' + 1))) (val (byt s (p.at' + 1)))))
  else addN p (p.at' + 1) (leaf 0 (addR noSet c c))
def partF (p : PSt) : PSt × Nat :=
  let r := oneF ch s p
  let c := pk s r.1.at'
  if c = 42 then addN r.1 (r.1.at' + 1) (repN r.2 0 (-1))
  else if c = 43 then addN r.1 (r.1.at' + 1) (repN r.2 1 (-1))
  else if c = 63 then addN r.1 (r.1.at' + 1) (repN r.2 0 1)
  else if c = 123 then
    let lo := byt s (r.1.at' + 1) - 48
    if pk s (r.1.at' + 2) = 44 then addN r.1 (r.1.at' + 5) (repN r.2 lo ((byt s (r.1.at' + 3) - 48 : Nat) : Int))
    else addN r.1 (r.1.at' + 3) (repN r.2 lo (lo : Int))
  else r
def joinF (k : Nat) (zs : List Nat) (p : PSt) : PSt × Nat := match zs with
  | [z] => (p, z)
  | zs => addN p p.at' (rowN k zs)
def startsP (i : Nat) : Bool := decide (i < s.size) && !inB noStart (byt s i)
def wayL : Nat → PSt → List Nat → PSt × Nat
  | 0, p, _ => (p, 0)
  | f + 1, p, zs =>
    let r := partF ch s p
    if startsP s r.1.at' = true then wayL f r.1 (zs ++ [r.2]) else joinF 5 (zs ++ [r.2]) r.1
def wayF (p : PSt) : PSt × Nat := wayL ch s s.size p []
def choiceL : Nat → PSt → List Nat → PSt × Nat
  | 0, p, _ => (p, 0)
  | f + 1, p, zs =>
    let r := wayF ch s p
    if pk s r.1.at' = 124 then choiceL f ⟨r.1.at' + 1, r.1.g, r.1.l⟩ (zs ++ [r.2]) else joinF 4 (zs ++ [r.2]) r.1
def choiceF (p : PSt) : PSt × Nat := choiceL ch s s.size p []
end
def choiceN (s : ByteArray) : Nat → PSt → PSt × Nat
  | 0, p => (p, 0)
  | n + 1, p => choiceF (choiceN s n) s p
def treeOf (s : ByteArray) : PSt × Nat := choiceN s 41 ⟨0, 0, []⟩
end Go.Proofs.YtppjlpihaocdiaaGreatDoor

/- A part of the proof. -/
set_option linter.unusedVariables false
namespace Go.Proofs.YtppjlpihaocdiaaGreatDoor
namespace Rs
structure Wh where
  sort : Nat
  num : Nat
  pat : ByteArray
structure Pc where
  grp : Int
  byte : Nat
structure Cm where
  kind : Nat
  fst : Wh
  snd : Wh
  neg : Bool
  goal : Nat
  text : ByteArray
  pat : ByteArray
  temp : List Pc
  num : Nat
  all : Bool
  prt : Bool
  frm : ByteArray
  too : ByteArray
structure Lab where
  name : ByteArray
  at' : Nat
  cmd : Nat
  want : Bool
structure RSt where
  at' : Nat
  op : Nat
  cmds : List Cm
  labs : List Lab
  long : Int
def noBytes : ByteArray := ⟨#[]⟩
def wh0 : Wh := ⟨0, 0, noBytes⟩
def cm0 : Cm := ⟨0, wh0, wh0, false, 0, noBytes, noBytes, [], 0, false, false, noBytes, noBytes⟩
def between : ByteArray := ⟨#[32, 59, 10]⟩
def blank : ByteArray := ⟨#[32]⟩
def parts : ByteArray := ⟨#[59, 10]⟩
def digits : ByteArray := ⟨#[48, 49, 50, 51, 52, 53, 54, 55, 56, 57]⟩
def starters : ByteArray := ⟨#[48, 49, 50, 51, 52, 53, 54, 55, 56, 57, 36, 47]⟩
def letters : ByteArray := ⟨#[123, 100, 68, 110, 78, 112, 80, 103, 71, 104, 72, 120, 61, 113, 97, 105, 99, 98, 116, 115, 121]⟩
def pieceEscs : ByteArray := ⟨#[92, 47, 38]⟩
def numerals : ByteArray := ⟨#[49, 50, 51, 52, 53, 54, 55, 56, 57]⟩
def rowEnds : ByteArray := ⟨#[10, 47]⟩
def rowEscs : ByteArray := ⟨#[110, 92, 47]⟩
def nxt (s t : ByteArray) (i : Nat) : Bool := decide (i < s.size) && inB t (byt s i)
def skipF (s t : ByteArray) : Nat → Nat → Nat
  | 0, i => i
  | f + 1, i => if nxt s t i = true then skipF s t f (i + 1) else i
def skip (s t : ByteArray) (i : Nat) : Nat := skipF s t (s.size - i) i
def numF (s : ByteArray) : Nat → Nat → Nat → Nat × Nat × Bool
  | 0, i, n => (i, n, decide (0 < n))
  | l + 1, i, n =>
    if nxt s digits i = true then (if l = 0 ∧ 10 * n + (byt s i - 48) = 0 then (i, 0, false) else numF s l (i + 1) (10 * n + (byt s i - 48)))
    else (i, n, decide (0 < n))
def slashF (s : ByteArray) : Nat → Nat → Nat
  | 0, i => s.size
  | f + 1, i => if i < s.size then (if byt s i = 47 then i else if byt s i = 92 then slashF s f (i + 2) else slashF s f (i + 1)) else s.size
def slash (s : ByteArray) (i : Nat) : Nat := slashF s (s.size + 1) i
def failF (t : ByteArray) : Nat → Nat → St → Option Nat
  | 0, i, st => if whole st = true then none else some i
  | f + 1, i, st => match step st (byt t i) with
    | some st' => failF t f (i + 1) st'
    | none => some i
def failAt (t : ByteArray) : Option Nat := failF t t.size 0 ⟨0, 0, 0, 0⟩
def grps (t : ByteArray) : Nat := match run t t.size with
  | some st => st.a
  | none => 0
def patF (s : ByteArray) (i : Nat) (long : Int) : Nat × ByteArray × Int × Bool :=
  let t := s.extract i (slash s i)
  match failAt t with
  | some j => (i + j, noBytes, long, false)
  | none =>
    let lg := if 40 < t.size ∧ long = -1 then (i : Int) else long
    if pk s (i + t.size) = 47 then (i + t.size + 1, t, lg, true) else (i + t.size, t, lg, false)
def whereF (s : ByteArray) (i : Nat) (long : Int) : Nat × Wh × Int × Bool :=
  if pk s i = 36 then (i + 1, ⟨2, 0, noBytes⟩, long, true)
  else if pk s i = 47 then
    let r := patF s (i + 1) long
    (r.1, ⟨3, 0, r.2.1⟩, r.2.2.1, r.2.2.2)
  else
    let r := numF s 4 i 0
    (r.1, ⟨1, r.2.1, noBytes⟩, long, r.2.2)
def addrF (s : ByteArray) (i : Nat) (long : Int) : Nat × Wh × Wh × Int × Bool :=
  if nxt s starters i = true then
    let r := whereF s i long
    if r.2.2.2 = true then
      if pk s r.1 = 44 then
        let q := whereF s (r.1 + 1) r.2.2.1
        if q.2.2.2 = true then (skip s blank q.1, r.2.1, q.2.1, q.2.2.1, true) else (q.1, r.2.1, q.2.1, q.2.2.1, false)
      else (skip s blank r.1, r.2.1, wh0, r.2.2.1, true)
    else (r.1, r.2.1, wh0, r.2.2.1, false)
  else (i, wh0, wh0, long, true)
def escPieceF (s : ByteArray) (g i : Nat) : Nat × Pc × Bool :=
  if 49 ≤ pk s i ∧ pk s i ≤ 48 + (g : Int) then (i + 1, ⟨pk s i - 48, 0⟩, true)
  else if pk s i = 110 then (i + 1, ⟨-1, 10⟩, true)
  else if nxt s pieceEscs i = true then (i + 1, ⟨-1, byt s i⟩, true)
  else (i, ⟨0, 0⟩, false)
def plainF (s : ByteArray) (i : Nat) : Nat × Pc × Bool :=
  if pk s i = -1 ∨ pk s i = 10 then (i, ⟨0, 0⟩, false) else (i + 1, ⟨-1, byt s i⟩, true)
def pieceF (s : ByteArray) (g i : Nat) : Nat × Pc × Bool :=
  if pk s i = 38 then (i + 1, ⟨0, 0⟩, true)
  else if pk s i = 92 then escPieceF s g (i + 1)
  else plainF s i
def tempL (s : ByteArray) (g : Nat) : Nat → Nat → List Pc → Nat × List Pc × Bool
  | 0, i, ps => (i, ps, false)
  | f + 1, i, ps =>
    if pk s i = 47 then (i + 1, ps, true)
    else if (pieceF s g i).2.2 = true then tempL s g f (pieceF s g i).1 (ps ++ [(pieceF s g i).2.1])
    else ((pieceF s g i).1, [], false)
def tempF (s : ByteArray) (g i : Nat) : Nat × List Pc × Bool := tempL s g (s.size + 1) i []
def flagF (s : ByteArray) : Nat → Nat → Bool → Bool → Nat → Nat × Bool × Bool × Nat
  | 0, i, a, p, n => (i, a, p, n)
  | f + 1, i, a, p, n =>
    if a = false ∧ pk s i = 103 then flagF s f (i + 1) true p n
    else if p = false ∧ pk s i = 112 then flagF s f (i + 1) a true n
    else if n = 0 ∧ nxt s numerals i = true then flagF s f (i + 1) a p (byt s i - 48)
    else (i, a, p, max n 1)
def putF (s : ByteArray) (i : Nat) (long : Int) (c : Cm) : Nat × Cm × Int × Bool :=
  if pk s i = 47 then
    let r := patF s (i + 1) long
    if r.2.2.2 = true then
      let q := tempF s (grps r.2.1) r.1
      if q.2.2 = true then
        let f := flagF s 4 q.1 false false 0
        (f.1, { c with pat := r.2.1, temp := q.2.1, num := f.2.2.2, all := f.2.1, prt := f.2.2.1 }, r.2.2.1, true)
      else (q.1, c, r.2.2.1, false)
    else (r.1, c, r.2.2.1, false)
  else (i, c, long, false)
def noEsc (used : List Nat) : Bool := used.contains 10 && used.contains 92 && used.contains 47
def rowByteF (s : ByteArray) (used : List Nat) (i : Nat) : Nat × Nat × Bool :=
  if pk s i = 92 then
    if noEsc used = true then (i, 0, false)
    else if nxt s rowEscs (i + 1) = true then (if used.contains (val (byt s (i + 1))) = true then (i + 1, 0, false) else (i + 2, val (byt s (i + 1)), true))
    else (i + 1, 0, false)
  else if pk s i = -1 ∨ nxt s rowEnds i = true ∨ used.contains (byt s i) = true then (i, 0, false)
  else (i + 1, byt s i, true)
def rowL (s : ByteArray) : Nat → Nat → List Nat → Nat × List Nat × Bool
  | 0, i, l => (i, l, false)
  | f + 1, i, l =>
    if pk s i = 47 then (i + 1, l, true)
    else if (rowByteF s l i).2.2 = true then rowL s f (rowByteF s l i).1 (l ++ [(rowByteF s l i).2.1])
    else ((rowByteF s l i).1, [], false)
def rowM (s : ByteArray) : Nat → Nat → List Nat → Nat × List Nat × Bool
  | 0, i, l => (i, l, true)
  | f + 1, i, l =>
    if (rowByteF s [] i).2.2 = true then rowM s f (rowByteF s [] i).1 (l ++ [(rowByteF s [] i).2.1])
    else ((rowByteF s [] i).1, [], false)
def ofNats (l : List Nat) : ByteArray := ⟨(l.map Nat.toUInt8).toArray⟩
def rowsF (s : ByteArray) (i : Nat) : Nat × ByteArray × ByteArray × Bool :=
  if pk s i = 47 then
    let r := rowL s (s.size + 1) (i + 1) []
    if r.2.2 = true then
      let q := rowM s r.2.1.length r.1 []
      if q.2.2 = true then (if pk s q.1 = 47 then (q.1 + 1, ofNats r.2.1, ofNats q.2.1, true) else (q.1, ofNats r.2.1, ofNats q.2.1, false))
      else (q.1, noBytes, noBytes, false)
    else (r.1, noBytes, noBytes, false)
  else (i, noBytes, noBytes, false)
def eolF (s : ByteArray) : Nat → Nat → Nat
  | 0, i => i
  | f + 1, i => if i < s.size ∧ byt s i ≠ 10 then eolF s f (i + 1) else i
def eol (s : ByteArray) (i : Nat) : Nat := eolF s (s.size - i) i
def labF (s : ByteArray) : Nat → Nat → Nat
  | 0, i => i
  | f + 1, i => if 97 ≤ pk s i ∧ pk s i ≤ 122 then labF s f (i + 1) else i
def RSt.label (p : RSt) (s : ByteArray) (i : Nat) (want : Bool) : RSt :=
  { p with at' := labF s 8 i, labs := p.labs ++ [⟨s.extract i (labF s 8 i), i, p.cmds.length, want⟩] }
def kindF (c : Nat) : Nat := (letters.data.toList.findIdx fun x => x.toNat == c)
def RSt.add (p : RSt) (c : Cm) : RSt := { p with cmds := p.cmds ++ [c] }
def setGoal (l : List Cm) (k g : Nat) : List Cm := match l[k]? with
  | some c => l.set k { c with goal := g }
  | none => l
section
variable (row : RSt → RSt × Bool) (s : ByteArray)
def blockF (p : RSt) (c : Cm) : RSt × Bool :=
  if p.op = 5 then (p, false)
  else
    let r := row { p with at' := p.at' + 1, op := p.op + 1, cmds := p.cmds ++ [c] }
    if r.2 = true ∧ pk s r.1.at' = 125 then ({ r.1 with at' := r.1.at' + 1, op := r.1.op - 1, cmds := setGoal r.1.cmds p.cmds.length r.1.cmds.length }, true)
    else (r.1, false)
def whatF (p : RSt) (c : Cm) : RSt × Bool :=
  if nxt s letters p.at' = true then
    let k := kindF (byt s p.at')
    let c := { c with kind := k }
    if k = 0 then blockF row s p c
    else
      let i := p.at' + 1
      if k = 14 ∨ k = 15 ∨ k = 16 then
        (if pk s i = 32 then ({ p with at' := eol s (i + 1), cmds := p.cmds ++ [{ c with text := s.extract (i + 1) (eol s (i + 1)) }] }, true) else ({ p with at' := i, cmds := p.cmds ++ [c] }, false))
      else if k = 17 ∨ k = 18 then ((p.label s i true).add c, true)
      else if k = 19 then
        let r := putF s i p.long c
        ({ p with at' := r.1, cmds := p.cmds ++ [r.2.1], long := r.2.2.1 }, r.2.2.2)
      else if k = 20 then
        let r := rowsF s i
        ({ p with at' := r.1, cmds := p.cmds ++ [{ c with frm := r.2.1, too := r.2.2.1 }] }, r.2.2.2)
      else ({ p with at' := i, cmds := p.cmds ++ [c] }, true)
  else (p, false)
def commandF (p : RSt) : RSt × Bool :=
  let a := addrF s p.at' p.long
  let q := { p with at' := a.1, long := a.2.2.2.1 }
  if a.2.2.2.2 = true then
    let c := { cm0 with fst := a.2.1, snd := a.2.2.1 }
    if pk s a.1 = 33 then
      let q := { q with at' := skip s blank (a.1 + 1) }
      if pk s q.at' = 58 then (q, false) else whatF row s q { c with neg := true }
    else if pk s a.1 = 58 then
      (if a.1 = p.at' then (q.label s (a.1 + 1) false, decide (a.1 + 1 < labF s 8 (a.1 + 1))) else (q, false))
    else whatF row s q c
  else (q, false)
def closesF (p : RSt) : Bool := decide (0 < p.op) && decide (pk s p.at' = 125)
def rowL' : Nat → RSt → RSt × Bool
  | 0, p => (p, false)
  | f + 1, p =>
    let p := { p with at' := skip s between p.at' }
    if pk s p.at' = -1 ∨ closesF s p = true then (p, true)
    else
      let r := commandF row s p
      if r.2 = true then
        let q := { r.1 with at' := skip s blank r.1.at' }
        if pk s q.at' = -1 ∨ nxt s parts q.at' = true ∨ closesF s q = true then rowL' f q else (q, false)
      else r
def rowF (p : RSt) : RSt × Bool := rowL' row s (s.size + 1) p
end
def rowN (s : ByteArray) : Nat → RSt → RSt × Bool
  | 0, p => (p, false)
  | n + 1, p => rowF (rowN s n) s p
def rowsOf (s : ByteArray) : RSt × Bool := rowN s 7 ⟨0, 0, [], [], -1⟩
def markF (name : ByteArray) : List Lab → Nat → Option Nat
  | [], _ => none
  | l :: r, k => if l.want = false ∧ l.name = name then some k else markF name r (k + 1)
def joinL (labs : List Lab) (n : Nat) : List Lab → Nat → List Cm → Except Nat (List Cm)
  | [], _, cs => .ok cs
  | l :: r, i, cs =>
    if l.name.size = 0 then joinL labs n r (i + 1) (if l.want = true then setGoal cs l.cmd n else cs)
    else match markF l.name labs 0 with
      | none => .error l.at'
      | some m =>
        if l.want = false ∧ m ≠ i then .error l.at'
        else joinL labs n r (i + 1) (if l.want = true then setGoal cs l.cmd ((labs[m]?.map Lab.cmd).getD 0) else cs)
end Rs
end Go.Proofs.YtppjlpihaocdiaaGreatDoor

/- A part of the proof. -/
set_option linter.unusedVariables false
namespace Go.Proofs.YtppjlpihaocdiaaGreatDoor
def anyTo (L : Nat) (p : Nat → Bool) : Bool := (List.range (L + 1)).any p
theorem anyTo_iff (L : Nat) (p : Nat → Bool) : anyTo L p = true ↔ ∃ m, m ≤ L ∧ p m = true := by
  unfold anyTo
  rw [List.any_eq_true]
  constructor
  · rintro ⟨m, h1, h2⟩
    exact ⟨m, by have := List.mem_range.1 h1; omega, h2⟩
  · rintro ⟨m, h1, h2⟩
    exact ⟨m, List.mem_range.2 (by omega), h2⟩
theorem pow_full {R : Nat → Nat → Prop} {L : Nat} (hR : ∀ i j, i ≤ L → R i j → i ≤ j ∧ j ≤ L) : ∀ {n i j : Nat}, i ≤ L → Pow (Full R) n i j → i + n ≤ j
  | 0, i, j, hi, h => by cases h; omega
  | n + 1, i, j, hi, h => by
    obtain ⟨m, ⟨h1, h1'⟩, h2⟩ := h
    have a := hR i m hi h1
    have b := pow_full hR a.2 h2
    omega
def powB (L : Nat) (r : Nat → Nat → Bool) : Nat → Nat → Nat → Bool
  | 0, i, j => i == j
  | n + 1, i, j => anyTo L fun m => r i m && powB L r n m j
def fullB (r : Nat → Nat → Bool) (i j : Nat) : Bool := r i j && (i != j)
def timesB (L : Nat) (r : Nat → Nat → Bool) (lo : Nat) (hi : Int) (i j : Nat) : Bool :=
  anyTo L fun m => powB L r lo i m && anyTo L fun q => (decide (hi < 0) || decide ((lo : Int) + q ≤ hi)) && powB L (fullB r) q m j
def chainB (L : Nat) : List (Nat → Nat → Bool) → Nat → Nat → Bool
  | [], i, j => i == j
  | r :: rs, i, j => anyTo L fun m => r i m && chainB L rs m j
def Tells (L : Nat) (r : Nat → Nat → Bool) (R : Nat → Nat → Prop) : Prop := Stays L R ∧ ∀ i j, i ≤ L → (r i j = true ↔ R i j)
theorem Tells.pow {L : Nat} {r : Nat → Nat → Bool} {R : Nat → Nat → Prop} (h : Tells L r R) : ∀ (n i j : Nat), i ≤ L → (powB L r n i j = true ↔ Pow R n i j)
  | 0, i, j, _ => by simp [powB, Pow]
  | n + 1, i, j, hi => by
    rw [powB, anyTo_iff]
    constructor
    · rintro ⟨m, h1, h2⟩
      rw [Bool.and_eq_true] at h2
      exact ⟨m, (h.2 i m hi).1 h2.1, (h.pow n m j h1).1 h2.2⟩
    · rintro ⟨m, h1, h2⟩
      have hm := (h.1 i m hi h1).2
      exact ⟨m, hm, by rw [Bool.and_eq_true]; exact ⟨(h.2 i m hi).2 h1, (h.pow n m j hm).2 h2⟩⟩
theorem Tells.full {L : Nat} {r : Nat → Nat → Bool} {R : Nat → Nat → Prop} (h : Tells L r R) : Tells L (fullB r) (Full R) := ⟨h.1.full, fun i j hi => by
  unfold fullB Full
  rw [Bool.and_eq_true, h.2 i j hi, bne_iff_ne]⟩
theorem Tells.times {L : Nat} {r : Nat → Nat → Bool} {R : Nat → Nat → Prop} (h : Tells L r R) (lo : Nat) (hi : Int) : Tells L (timesB L r lo hi) (Times R lo hi) := ⟨h.1.times lo hi, fun i j hij => by
  unfold timesB Times
  rw [anyTo_iff]
  constructor
  · rintro ⟨m, h1, h2⟩
    rw [Bool.and_eq_true, anyTo_iff] at h2
    obtain ⟨h2, q, h3, h4⟩ := h2
    rw [Bool.and_eq_true, Bool.or_eq_true, decide_eq_true_eq, decide_eq_true_eq] at h4
    exact ⟨m, q, (h.pow lo i m hij).1 h2, h4.1, (h.full.pow q m j h1).1 h4.2⟩
  · rintro ⟨m, q, h1, h2, h3⟩
    have hm := (Pow.le h.1 hij h1).2
    have hq := pow_full h.1 hm h3
    have hj := (Pow.le h.1.full hm h3).2
    refine ⟨m, hm, ?_⟩
    rw [Bool.and_eq_true, anyTo_iff]
    refine ⟨(h.pow lo i m hij).2 h1, q, by omega, ?_⟩
    rw [Bool.and_eq_true, Bool.or_eq_true, decide_eq_true_eq, decide_eq_true_eq]
    exact ⟨h2, (h.full.pow q m j hm).2 h3⟩⟩
theorem Tells.chain {L : Nat} {r : Nat → Nat → Nat → Bool} {R : Nat → Nat → Nat → Prop} : ∀ (l : List Nat), (∀ x, Tells L (r x) (R x)) → Tells L (chainB L (l.map r)) (Chain (l.map R))
  | [], h => ⟨fun i j hi e => by cases e; omega, fun i j hi => by simp [chainB, Chain]⟩
  | x :: l, h => by
    have ih := Tells.chain l h
    refine ⟨fun i j hi hx => ?_, fun i j hi => ?_⟩
    · obtain ⟨m, h1, h2⟩ := hx
      have a := (h x).1 i m hi h1
      have b := ih.1 m j a.2 h2
      omega
    · rw [List.map_cons, List.map_cons, chainB, anyTo_iff]
      constructor
      · rintro ⟨m, h1, h2⟩
        rw [Bool.and_eq_true] at h2
        exact ⟨m, ((h x).2 i m hi).1 h2.1, (ih.2 m j h1).1 h2.2⟩
      · rintro ⟨m, h1, h2⟩
        have hm := ((h x).1 i m hi h1).2
        exact ⟨m, hm, by rw [Bool.and_eq_true]; exact ⟨((h x).2 i m hi).2 h1, (ih.2 m j hm).2 h2⟩⟩
def mB (s : ByteArray) (nodes : List Nd) : Nat → Nat → Nat → Nat → Bool
  | 0, _, _, _ => false
  | f + 1, n, i, j => match nodes[n]? with
    | none => false
    | some d =>
      if d.kind = 0 then decide (i < s.size) && d.set (byt s i) && (j == i + 1)
      else if d.kind = 1 then (i == 0) && (j == i)
      else if d.kind = 2 then (i == s.size) && (j == i)
      else if d.kind = 5 then chainB s.size (d.subs.map fun x => mB s nodes f x) i j
      else if d.kind = 6 then timesB s.size (mB s nodes f (d.subs.getD 0 0)) d.lo d.hi i j
      else d.subs.any fun x => mB s nodes f x i j
theorem mB_tells (s : ByteArray) (nodes : List Nd) : ∀ (f n : Nat), Tells s.size (mB s nodes f n) (mOf s nodes f n)
  | 0, n => ⟨fun i j _ h => h.elim, fun i j _ => by simp [mB, mOf]⟩
  | f + 1, n => by
    have ih := mB_tells s nodes f
    have em : ∀ i j, mOf s nodes (f + 1) n i j = (match nodes[n]? with
      | none => False
      | some d =>
        if d.kind = 0 then i < s.size ∧ d.set (byt s i) = true ∧ j = i + 1
        else if d.kind = 1 then i = 0 ∧ j = i
        else if d.kind = 2 then i = s.size ∧ j = i
        else if d.kind = 5 then Chain (d.subs.map fun x => mOf s nodes f x) i j
        else if d.kind = 6 then Times (mOf s nodes f (d.subs.getD 0 0)) d.lo d.hi i j
        else ∃ x ∈ d.subs, mOf s nodes f x i j) := fun i j => rfl
    cases hd : nodes[n]? with
    | none =>
      refine ⟨fun i j _ h => ?_, fun i j _ => ?_⟩
      · rw [em, hd] at h
        exact h.elim
      · rw [em, hd]
        simp [mB, hd]
    | some d =>
      have e2 : ∀ i j, mOf s nodes (f + 1) n i j = (if d.kind = 0 then i < s.size ∧ d.set (byt s i) = true ∧ j = i + 1
        else if d.kind = 1 then i = 0 ∧ j = i
        else if d.kind = 2 then i = s.size ∧ j = i
        else if d.kind = 5 then Chain (d.subs.map fun x => mOf s nodes f x) i j
        else if d.kind = 6 then Times (mOf s nodes f (d.subs.getD 0 0)) d.lo d.hi i j
        else ∃ x ∈ d.subs, mOf s nodes f x i j) := fun i j => by rw [em, hd]
      have e3 : ∀ i j, mB s nodes (f + 1) n i j = (if d.kind = 0 then decide (i < s.size) && d.set (byt s i) && (j == i + 1)
        else if d.kind = 1 then (i == 0) && (j == i)
        else if d.kind = 2 then (i == s.size) && (j == i)
        else if d.kind = 5 then chainB s.size (d.subs.map fun x => mB s nodes f x) i j
        else if d.kind = 6 then timesB s.size (mB s nodes f (d.subs.getD 0 0)) d.lo d.hi i j
        else d.subs.any fun x => mB s nodes f x i j) := fun i j => by rw [mB, hd]
      refine ⟨fun i j hi h => ?_, fun i j hi => ?_⟩
      · rw [e2] at h
        split at h
        · omega
        · split at h
          · omega
          · split at h
            · omega
            · split at h
              · exact (Tells.chain d.subs ih).1 i j hi h
              · split at h
                · exact ((ih _).times d.lo d.hi).1 i j hi h
                · obtain ⟨x, _, hx⟩ := h
                  exact (ih x).1 i j hi hx
      · rw [e2, e3]
        split
        · simp [and_assoc]
        · split
          · simp
          · split
            · simp
            · split
              · exact (Tells.chain d.subs ih).2 i j hi
              · split
                · exact ((ih _).times d.lo d.hi).2 i j hi
                · rw [List.any_eq_true]
                  constructor
                  · rintro ⟨x, h1, h2⟩
                    exact ⟨x, h1, ((ih x).2 i j hi).1 h2⟩
                  · rintro ⟨x, h1, h2⟩
                    exact ⟨x, h1, ((ih x).2 i j hi).2 h2⟩
def matB (s : ByteArray) (nodes : List Nd) (n i j : Nat) : Bool := mB s nodes (n + 1) n i j
theorem matB_iff (s : ByteArray) (nodes : List Nd) (n i j : Nat) (hi : i ≤ s.size) : matB s nodes n i j = true ↔ Mat s nodes n i j := (mB_tells s nodes (n + 1) n).2 i j hi
end Go.Proofs.YtppjlpihaocdiaaGreatDoor

