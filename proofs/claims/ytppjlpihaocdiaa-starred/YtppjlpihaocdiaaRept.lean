/- Repetitions, as plain mathematics: what is still to come behind so many times. -/
import Derived.Test.YtppjlpihaocdiaaTabD
set_option linter.unusedVariables false
namespace Go.Proofs.Ytppjlpihaocdiaa

/-- What is still to come behind q times, from i to j. -/
def Zt (R : Nat → Nat → Prop) (lo : Nat) (hi : Int) (q i j : Nat) : Prop := TimesR R lo hi q (fun k => k = i) j

theorem Zt_iff {R : Nat → Nat → Prop} {lo : Nat} {hi : Int} {q i j : Nat} : Zt R lo hi q i j ↔ ∃ m r : Nat, Pow R (lo - q) i m ∧ (r = 0 ∨ hi < 0 ∨ ((max q lo : Nat) : Int) + r ≤ hi) ∧ Pow (Full R) r m j := by
  unfold Zt TimesR
  constructor
  · rintro ⟨i', m, r, rfl, h⟩; exact ⟨m, r, h⟩
  · rintro ⟨m, r, h⟩; exact ⟨i, m, r, rfl, h⟩

theorem Zt_must {R : Nat → Nat → Prop} {lo : Nat} {hi : Int} {q i j : Nat} (h : q < lo) : Zt R lo hi q i j ↔ ∃ m, R i m ∧ Zt R lo hi (q + 1) m j := by
  rw [Zt_iff]
  rw [show lo - q = (lo - (q + 1)) + 1 by omega, show max q lo = lo by omega]
  constructor
  · rintro ⟨m, r, ⟨m', h1, h2⟩, h3, h4⟩
    exact ⟨m', h1, Zt_iff.2 ⟨m, r, h2, by rw [show max (q + 1) lo = lo by omega]; exact h3, h4⟩⟩
  · rintro ⟨m', h1, h2⟩
    obtain ⟨m, r, h2, h3, h4⟩ := Zt_iff.1 h2
    rw [show max (q + 1) lo = lo by omega] at h3
    exact ⟨m, r, ⟨m', h1, h2⟩, h3, h4⟩

theorem Zt_end {R : Nat → Nat → Prop} {lo : Nat} {hi : Int} {q i j : Nat} (h : lo ≤ q) (hh : hi = (q : Int)) : Zt R lo hi q i j ↔ i = j := by
  rw [Zt_iff]
  rw [show lo - q = 0 by omega, show max q lo = q by omega]
  constructor
  · rintro ⟨m, r, rfl, h3, h4⟩
    obtain rfl : r = 0 := by omega
    exact h4
  · rintro rfl
    exact ⟨i, 0, rfl, .inl rfl, rfl⟩

theorem Zt_may {R : Nat → Nat → Prop} {lo : Nat} {hi : Int} {q i j : Nat} (h : lo ≤ q) (hh : (q : Int) < hi) : Zt R lo hi q i j ↔ (i = j ∨ ∃ m, Full R i m ∧ Zt R lo hi (q + 1) m j) := by
  rw [Zt_iff]
  rw [show lo - q = 0 by omega, show max q lo = q by omega]
  constructor
  · rintro ⟨m, r, rfl, h3, h4⟩
    cases r with
    | zero => exact .inl h4
    | succ r =>
      obtain ⟨m', h5, h6⟩ := h4
      refine .inr ⟨m', h5, Zt_iff.2 ⟨m', r, ?_, ?_, h6⟩⟩
      · rw [show lo - (q + 1) = 0 by omega]; rfl
      · rw [show max (q + 1) lo = q + 1 by omega]; omega
  · rintro (rfl | ⟨m', h5, h6⟩)
    · exact ⟨i, 0, rfl, .inl rfl, rfl⟩
    · obtain ⟨m, r, h7, h8, h9⟩ := Zt_iff.1 h6
      rw [show lo - (q + 1) = 0 by omega] at h7
      cases h7
      rw [show max (q + 1) lo = q + 1 by omega] at h8
      exact ⟨i, r + 1, rfl, by omega, ⟨m', h5, h9⟩⟩

theorem Zt_any {R : Nat → Nat → Prop} {lo : Nat} {hi : Int} {q i j : Nat} (h : lo ≤ q) (hh : hi < 0) : Zt R lo hi q i j ↔ ∃ r : Nat, Pow (Full R) r i j := by
  rw [Zt_iff]
  rw [show lo - q = 0 by omega]
  constructor
  · rintro ⟨m, r, rfl, h3, h4⟩; exact ⟨r, h4⟩
  · rintro ⟨r, h4⟩; exact ⟨i, r, rfl, .inr (.inl hh), h4⟩

theorem Tl.again {L : Nat} {M1 M : Nat → Nat → Bool} {R : Nat → Nat → Prop} (h1 : Tl L M1 R) (hs : Stays L R) (hA : Agn L M1 M) : Tl L M (fun i j => ∃ r, Pow (Full R) r i j) := by
  have key : ∀ n i, i ≤ L → L - i < n → ∀ j, (M i j = true ↔ ∃ r, Pow (Full R) r i j) := by
    intro n
    induction n with
    | zero => intro i _ h; omega
    | succ n ih =>
      intro i hi hn j
      rw [hA i hi j, Bool.or_eq_true, ow_iff]
      constructor
      · rintro (h | ⟨m, a, b, c, d⟩)
        · have : j = i := by simpa using h
          subst this; exact ⟨0, rfl⟩
        · obtain ⟨r, hr⟩ := (ih m (by omega) (by omega) j).1 d
          exact ⟨r + 1, m, ⟨(h1 i hi m).1 c, by omega⟩, hr⟩
      · rintro ⟨r, hr⟩
        cases r with
        | zero => left; cases hr; simp
        | succ r =>
          obtain ⟨m, ⟨c, d⟩, e⟩ := hr
          have x := hs i m hi c
          exact .inr ⟨m, by omega, by omega, (h1 i hi m).2 c, (ih m (by omega) (by omega) j).2 ⟨r, e⟩⟩
  exact fun i hi j => key (L + 1) i hi (by omega) j

theorem Tl.maybe {L : Nat} {M1 M2 : Nat → Nat → Bool} {R1 R2 : Nat → Nat → Prop} (h1 : Tl L M1 R1) (h2 : Tl L M2 R2) (hs : Stays L R1) : Tl L (fun i j => (j == i) || ow M1 M2 i (i + 1) (L + 1) j) (fun i j => i = j ∨ ∃ m, Full R1 i m ∧ R2 m j) := by
  intro i hi j
  simp only [Bool.or_eq_true]
  rw [ow_iff]
  constructor
  · rintro (h | ⟨m, a, b, c, d⟩)
    · have : j = i := by simpa using h
      exact .inl this.symm
    · exact .inr ⟨m, ⟨(h1 i hi m).1 c, by omega⟩, (h2 m (by omega) j).1 d⟩
  · rintro (h | ⟨m, ⟨c, e⟩, d⟩)
    · left; simp [h]
    · have := hs i m hi c
      exact .inr ⟨m, by omega, by omega, (h1 i hi m).2 c, (h2 m (by omega) j).2 d⟩

theorem Tl.iff {L : Nat} {M : Nat → Nat → Bool} {R R' : Nat → Nat → Prop} (h : Tl L M R) (e : ∀ i j, R i j ↔ R' i j) : Tl L M R' := fun i hi j => (h i hi j).trans (e i j)

theorem Tl.empty {L : Nat} : Tl L (fun i j => j == i) (fun i j => i = j) := fun i hi j => by simp only [beq_iff_eq]; exact eq_comm
end Go.Proofs.Ytppjlpihaocdiaa
