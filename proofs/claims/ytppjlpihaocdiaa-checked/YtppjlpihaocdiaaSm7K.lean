/- Several texts in one. -/
import Derived.Test.YtppjlpihaocdiaaSm5K
/- The program's reader of scripts against the document's walk: the rows of y. -/
set_option linter.unusedSimpArgs false
set_option linter.unusedVariables false
namespace Go.Proofs.Ytppjlpihaocdiaa
namespace Sm
open Sk (Sc srun sstep SFails swhole Lb)
open Rs (RSt Lab nxt rowByteF rowL rowM rowsF rowEnds rowEscs noEsc)

theorem in_rowEnds (c : Nat) : inB rowEnds c = true ↔ c = 10 ∨ c = 47 := by simp [inB, rowEnds]; omega
theorem in_rowEscs (c : Nat) : inB rowEscs c = true ↔ c = 110 ∨ c = 92 ∨ c = 47 := by simp [inB, rowEscs]; omega
theorem in_rowEscs' (c : Nat) : inB Sk.rowEscs c = true ↔ c = 110 ∨ c = 92 ∨ c = 47 := by simp [inB, Sk.rowEscs]; omega

theorem sstep16 (x : Sc) (h : x.mode = 16) (c i : Nat) : sstep x c i = if c = 47 then some { x with mode := 17, row := fun _ => false, rows := 0 } else none := by unfold sstep; simp [h]
theorem sstep17 (x : Sc) (h : x.mode = 17 ∨ x.mode = 18) (c i : Nat) : sstep x c i = Sk.inFirst x c := by unfold sstep; rcases h with h | h <;> simp [h]
theorem sstep19 (x : Sc) (h : x.mode = 19 ∨ x.mode = 20) (c i : Nat) : sstep x c i = Sk.inThen x c := by unfold sstep; rcases h with h | h <;> simp [h]
theorem sstep21 (x : Sc) (h : x.mode = 21) (c i : Nat) : sstep x c i = if c = 47 then some { x with mode := 7 } else none := by unfold sstep; simp [h]

def row17 (x : Sc) (l : List Nat) : Sc := { x with mode := 17, row := fun k => l.contains k, rows := l.length }
def row18 (x : Sc) (l : List Nat) : Sc := { x with mode := 18, row := fun k => l.contains k, rows := l.length }

theorem more_is (x : Sc) (l : List Nat) (v : Nat) : Sk.rowMore (row17 x l) v = if l.contains v = true then none else some (row17 x (l ++ [v])) := by
  unfold Sk.rowMore row17
  simp only
  by_cases h : l.contains v = true
  · rw [if_pos h, if_pos h]
  · rw [if_neg h, if_neg h]
    have e : (fun k => if k = v then true else l.contains k) = fun k => (l ++ [v]).contains k := by
      funext k
      by_cases hk : k = v
      · subst hk; simp
      · simp [hk]
    rw [e]
    simp

theorem first_step (x : Sc) (l : List Nat) (c i : Nat) (h47 : c ≠ 47) : sstep (row17 x l) c i = if c = 92 then (if noEsc l = true then none else some (row18 x l)) else if c = 10 ∨ l.contains c = true then none else some (row17 x (l ++ [c])) := by
  rw [sstep17 _ (.inl rfl)]
  unfold Sk.inFirst
  rw [if_neg (by unfold row17; simp), if_neg h47]
  by_cases h92 : c = 92
  · rw [if_pos h92, if_pos h92]
    by_cases hn : noEsc l = true
    · rw [if_pos hn, if_neg]
      unfold noEsc at hn
      unfold row17
      simp only
      simp at hn ⊢
      exact ⟨hn.1.1, hn.1.2, hn.2⟩
    · rw [if_neg hn, if_pos]
      · rfl
      · unfold noEsc at hn
        unfold row17
        simp only
        cases h1 : l.contains 10 <;> cases h2 : l.contains 92 <;> cases h3 : l.contains 47 <;> simp_all
  · rw [if_neg h92, if_neg h92]
    by_cases h10 : c = 10
    · rw [if_pos h10, if_pos (.inl h10)]
    · rw [if_neg h10, more_is]
      by_cases hl : l.contains c = true
      · rw [if_pos hl, if_pos (.inr hl)]
      · rw [if_neg hl, if_neg (fun h => h.elim h10 hl)]

theorem firstEsc_step (x : Sc) (l : List Nat) (c i : Nat) : sstep (row18 x l) c i = if inB rowEscs c = true then (if l.contains (val c) = true then none else some (row17 x (l ++ [val c]))) else none := by
  rw [sstep17 _ (.inr rfl)]
  unfold Sk.inFirst
  rw [if_pos (by unfold row18; rfl)]
  have e : ({ row18 x l with mode := 17 } : Sc) = row17 x l := rfl
  rw [e, more_is]
  by_cases h : inB rowEscs c = true
  · rw [if_pos h, if_pos ((in_rowEscs' c).2 ((in_rowEscs c).1 h))]
  · rw [if_neg h, if_neg (fun hh => h ((in_rowEscs c).2 ((in_rowEscs' c).1 hh)))]

/-- A byte of the first row. -/
theorem first_sim {s : ByteArray} {x : Sc} {l : List Nat} {i : Nat} (h : srun s i = some (row17 x l)) (hi : i ≤ s.size) (h47 : pk s i ≠ 47) :
    ((rowByteF s l i).2.2 = true ∧ srun s (rowByteF s l i).1 = some (row17 x (l ++ [(rowByteF s l i).2.1]))) ∨ ((rowByteF s l i).2.2 = false ∧ SFails s (rowByteF s l i).1) := by
  have hw : swhole (row17 x l) = false := by simp [swhole, row17]
  have hw1 : swhole (row18 x l) = false := by simp [swhole, row18]
  unfold rowByteF
  by_cases hlt : i < s.size
  · rw [pk_in hlt] at h47
    simp only [pk_in hlt]
    have hc := first_step x l (byt s i) i (by omega)
    by_cases h92 : ((byt s i : Nat) : Int) = 92
    · rw [if_pos h92]
      rw [if_pos (by omega)] at hc
      by_cases hn : noEsc l = true
      · rw [if_pos hn] at hc ⊢
        exact .inr ⟨rfl, fails h hlt hc⟩
      · rw [if_neg hn] at hc ⊢
        have h1 := next h hc
        by_cases hx : nxt s rowEscs (i + 1) = true
        · rw [if_pos hx]
          have hl1 := Rs.nxt_lt hx
          have hb : inB rowEscs (byt s (i + 1)) = true := by simp [nxt] at hx; exact hx.2
          have hc1 := firstEsc_step x l (byt s (i + 1)) (i + 1)
          rw [if_pos hb] at hc1
          by_cases hl : l.contains (val (byt s (i + 1))) = true
          · rw [if_pos hl] at hc1 ⊢
            exact .inr ⟨rfl, fails h1 hl1 hc1⟩
          · rw [if_neg hl] at hc1 ⊢
            exact .inl ⟨rfl, next h1 hc1⟩
        · rw [if_neg hx]
          refine .inr ⟨rfl, ?_⟩
          by_cases hl1 : i + 1 < s.size
          · refine fails h1 hl1 ?_
            rw [firstEsc_step, if_neg (fun hb => hx (by simp [nxt, hl1, hb]))]
          · exact ends h1 (by simp only; omega) hw1
    · rw [if_neg h92]
      rw [if_neg (by omega)] at hc
      by_cases hb : ((byt s i : Nat) : Int) = -1 ∨ nxt s rowEnds i = true ∨ l.contains (byt s i) = true
      · rw [if_pos hb]
        refine .inr ⟨rfl, fails h hlt ?_⟩
        rw [hc, if_pos]
        rcases hb with hb | hb | hb
        · omega
        · have : inB rowEnds (byt s i) = true := by simp [nxt] at hb; exact hb.2
          rw [in_rowEnds] at this
          left; omega
        · exact .inr hb
      · rw [if_neg hb]
        refine .inl ⟨rfl, next h ?_⟩
        rw [hc, if_neg]
        rintro (hh | hh)
        · exact hb (.inr (.inl (by simp [nxt, hlt]; exact (in_rowEnds _).2 (.inl hh))))
        · exact hb (.inr (.inr hh))
  · rw [pk_out hlt, if_neg (by omega), if_pos (.inl rfl)]
    exact .inr ⟨rfl, ends h (by simp only; omega) hw⟩

/-- The first row. -/
theorem rowL_sim {s : ByteArray} {x : Sc} : ∀ (f i : Nat) (l : List Nat), srun s i = some (row17 x l) → i ≤ s.size → s.size < f + i →
    ((rowL s f i l).2.2 = true ∧ srun s (rowL s f i l).1 = some { x with mode := if (rowL s f i l).2.1.length = 0 then 21 else 19, row := fun k => (rowL s f i l).2.1.contains k, rows := (rowL s f i l).2.1.length, count := 0 }) ∨ ((rowL s f i l).2.2 = false ∧ SFails s (rowL s f i l).1)
  | 0, i, l, h, hi, hf => by omega
  | f + 1, i, l, h, hi, hf => by
    unfold rowL
    by_cases h47 : pk s i = 47
    · rw [if_pos h47]
      obtain ⟨hlt, hb⟩ := pk_is (c := 47) h47
      refine .inl ⟨rfl, next h ?_⟩
      rw [hb, sstep17 _ (.inl rfl)]
      unfold Sk.inFirst
      rw [if_neg (by unfold row17; simp), if_pos rfl]
      rfl
    · rw [if_neg h47]
      have hle := Rs.rowByteF_le s l i hi
      rcases first_sim h hi h47 with ⟨a, b⟩ | ⟨a, b⟩
      · rw [if_pos a]
        have := hle.2.2.2 a
        exact rowL_sim f _ _ b hle.1 (by omega)
      · rw [if_neg (by rw [a]; simp)]
        exact .inr ⟨rfl, b⟩

def row19 (x : Sc) (m k : Nat) : Sc := { x with mode := m, count := k }

theorem then_step (x : Sc) (k c i : Nat) : sstep (row19 x 19 k) c i = if c = 92 then some (row19 x 20 k) else if c = 47 ∨ c = 10 then none else some (row19 x (if k + 1 = x.rows then 21 else 19) (k + 1)) := by
  rw [sstep19 _ (.inl rfl)]
  unfold Sk.inThen
  rw [if_neg (by unfold row19; simp)]
  rfl
theorem thenEsc_step (x : Sc) (k c i : Nat) : sstep (row19 x 20 k) c i = if inB rowEscs c = true then some (row19 x (if k + 1 = x.rows then 21 else 19) (k + 1)) else none := by
  rw [sstep19 _ (.inr rfl)]
  unfold Sk.inThen
  rw [if_pos (by unfold row19; rfl)]
  by_cases h : inB rowEscs c = true
  · rw [if_pos h, if_pos ((in_rowEscs' c).2 ((in_rowEscs c).1 h))]
    rfl
  · rw [if_neg h, if_neg (fun hh => h ((in_rowEscs c).2 ((in_rowEscs' c).1 hh)))]

/-- A byte of the second row. -/
theorem then_sim {s : ByteArray} {x : Sc} {k i : Nat} (h : srun s i = some (row19 x 19 k)) (hi : i ≤ s.size) :
    ((rowByteF s [] i).2.2 = true ∧ srun s (rowByteF s [] i).1 = some (row19 x (if k + 1 = x.rows then 21 else 19) (k + 1))) ∨ ((rowByteF s [] i).2.2 = false ∧ SFails s (rowByteF s [] i).1) := by
  have hw : swhole (row19 x 19 k) = false := by simp [swhole, row19]
  have hw1 : swhole (row19 x 20 k) = false := by simp [swhole, row19]
  have hne : noEsc [] = false := rfl
  unfold rowByteF
  by_cases hlt : i < s.size
  · simp only [pk_in hlt]
    have hc := then_step x k (byt s i) i
    by_cases h92 : ((byt s i : Nat) : Int) = 92
    · rw [if_pos h92, hne, if_neg (by simp)]
      rw [if_pos (by omega)] at hc
      have h1 := next h hc
      by_cases hx : nxt s rowEscs (i + 1) = true
      · rw [if_pos hx, if_neg (by simp)]
        have hb : inB rowEscs (byt s (i + 1)) = true := by simp [nxt] at hx; exact hx.2
        have hc1 := thenEsc_step x k (byt s (i + 1)) (i + 1)
        rw [if_pos hb] at hc1
        exact .inl ⟨rfl, next h1 hc1⟩
      · rw [if_neg hx]
        refine .inr ⟨rfl, ?_⟩
        by_cases hl1 : i + 1 < s.size
        · refine fails h1 hl1 ?_
          rw [thenEsc_step, if_neg (fun hb => hx (by simp [nxt, hl1, hb]))]
        · exact ends h1 (by simp only; omega) hw1
    · rw [if_neg h92]
      rw [if_neg (by omega)] at hc
      by_cases hb : ((byt s i : Nat) : Int) = -1 ∨ nxt s rowEnds i = true ∨ List.contains [] (byt s i) = true
      · rw [if_pos hb]
        refine .inr ⟨rfl, fails h hlt ?_⟩
        rw [hc, if_pos]
        rcases hb with hb | hb | hb
        · omega
        · have : inB rowEnds (byt s i) = true := by simp [nxt] at hb; exact hb.2
          rw [in_rowEnds] at this
          omega
        · simp at hb
      · rw [if_neg hb]
        refine .inl ⟨rfl, next h ?_⟩
        rw [hc, if_neg]
        intro hh
        exact hb (.inr (.inl (by simp [nxt, hlt]; exact (in_rowEnds _).2 (by omega))))
  · rw [pk_out hlt, if_neg (by omega), if_pos (.inl rfl)]
    exact .inr ⟨rfl, ends h (by simp only; omega) hw⟩

/-- The second row. -/
theorem rowM_sim {s : ByteArray} {x : Sc} : ∀ (f i k : Nat) (l : List Nat), srun s i = some (row19 x (if f = 0 then 21 else 19) k) → k + f = x.rows → i ≤ s.size →
    ((rowM s f i l).2.2 = true ∧ (rowM s f i l).1 ≤ s.size ∧ srun s (rowM s f i l).1 = some (row19 x 21 x.rows)) ∨ ((rowM s f i l).2.2 = false ∧ SFails s (rowM s f i l).1)
  | 0, i, k, l, h, hk, hi => .inl ⟨rfl, hi, by rw [if_pos rfl] at h; rw [← hk]; exact h⟩
  | f + 1, i, k, l, h, hk, hi => by
    rw [if_neg (by omega)] at h
    unfold rowM
    have hle := Rs.rowByteF_le s [] i hi
    rcases then_sim h hi with ⟨a, b⟩ | ⟨a, b⟩
    · rw [if_pos a]
      refine rowM_sim f _ (k + 1) _ ?_ (by omega) hle.1
      rw [b]
      by_cases e : f = 0
      · rw [if_pos e, if_pos (by omega)]
      · rw [if_neg e, if_neg (by omega)]
    · rw [if_neg (by rw [a]; simp)]
      exact .inr ⟨rfl, b⟩

/-- Both rows. -/
theorem rows_sim {s : ByteArray} {x : Sc} {i : Nat} (h : srun s i = some x) (hm : x.mode = 16) (hi : i ≤ s.size) :
    ((rowsF s i).2.2.2 = true ∧ (rowsF s i).1 ≤ s.size ∧ ∃ y, srun s (rowsF s i).1 = some y ∧ y.mode = 7 ∧ Like x y) ∨ ((rowsF s i).2.2.2 = false ∧ SFails s (rowsF s i).1) := by
  unfold rowsF
  by_cases h47 : pk s i = 47
  · rw [if_pos h47]
    obtain ⟨hlt, hb⟩ := pk_is (c := 47) h47
    have h1 : srun s (i + 1) = some (row17 x []) := by
      refine next h ?_
      rw [hb, sstep16 x hm, if_pos rfl]
      unfold row17
      simp
    have hL := rowL_sim (s.size + 1) (i + 1) [] h1 hlt (by omega)
    have hge := Rs.rowL_ge s (s.size + 1) (i + 1) [] hlt
    simp only
    generalize rowL s (s.size + 1) (i + 1) [] = R at hL hge
    obtain ⟨j, l, ok⟩ := R
    simp only at hL hge
    rcases hL with ⟨a, b⟩ | ⟨a, b⟩
    · subst a
      simp only [if_true]
      have hM := rowM_sim (x := { x with row := fun k => l.contains k, rows := l.length }) l.length j 0 [] b (by simp) hge.2
      generalize rowM s l.length j [] = Q at hM
      obtain ⟨j2, l2, ok2⟩ := Q
      simp only at hM
      rcases hM with ⟨c1, c2, c3⟩ | ⟨c1, c2⟩
      · subst c1
        simp only [if_true]
        by_cases h2 : pk s j2 = 47
        · rw [if_pos h2]
          obtain ⟨hlt2, hb2⟩ := pk_is (c := 47) h2
          refine .inl ⟨rfl, hlt2, { row19 { x with row := fun k => l.contains k, rows := l.length } 21 l.length with mode := 7 }, next c3 ?_, rfl, ⟨rfl, rfl, rfl, rfl, rfl⟩⟩
          rw [hb2, sstep21 _ rfl, if_pos rfl]
        · rw [if_neg h2]
          refine .inr ⟨rfl, ?_⟩
          by_cases hlt2 : j2 < s.size
          · refine fails c3 hlt2 ?_
            rw [pk_in hlt2] at h2
            have h2' : ¬ byt s j2 = 47 := by omega
            rw [sstep21 _ rfl, if_neg h2']
          · exact ends c3 (by simp only; omega) (by simp [swhole, row19])
      · subst c1
        simp only [Bool.false_eq_true, if_false]
        exact .inr ⟨trivial, c2⟩
    · subst a
      simp only [Bool.false_eq_true, if_false]
      exact .inr ⟨trivial, b⟩
  · rw [if_neg h47]
    refine .inr ⟨rfl, ?_⟩
    by_cases hlt : i < s.size
    · refine fails h hlt ?_
      rw [pk_in hlt] at h47
      have h47' : ¬ byt s i = 47 := by omega
      rw [sstep16 x hm, if_neg h47']
    · exact ends h (by simp only; omega) (by simp [swhole, hm])

end Sm
end Go.Proofs.Ytppjlpihaocdiaa

/- The program's reader of scripts against the document's walk: commands. -/
set_option linter.unusedSimpArgs false
set_option linter.unusedVariables false
namespace Go.Proofs.Ytppjlpihaocdiaa
namespace Sm
open Sk (Sc srun sstep SFails swhole Lb)
open Rs (RSt Lab Cm Wh nxt skip letters kindF blockF whatF commandF putF patF tempF flagF rowsF eol labF addrF cm0 setGoal grps between)

theorem in_letters (c : Nat) : inB letters c = true ↔ c = 123 ∨ c = 100 ∨ c = 68 ∨ c = 110 ∨ c = 78 ∨ c = 112 ∨ c = 80 ∨ c = 103 ∨ c = 71 ∨ c = 104 ∨ c = 72 ∨ c = 120 ∨ c = 61 ∨ c = 113 ∨ c = 97 ∨ c = 105 ∨ c = 99 ∨ c = 98 ∨ c = 116 ∨ c = 115 ∨ c = 121 := by simp [inB, letters]; omega
theorem in_plain (c : Nat) : inB Sk.plainLetters c = true ↔ c = 100 ∨ c = 68 ∨ c = 110 ∨ c = 78 ∨ c = 112 ∨ c = 80 ∨ c = 103 ∨ c = 71 ∨ c = 104 ∨ c = 72 ∨ c = 120 ∨ c = 61 ∨ c = 113 := by simp [inB, Sk.plainLetters]; omega
theorem in_text (c : Nat) : inB Sk.textLetters c = true ↔ c = 97 ∨ c = 105 ∨ c = 99 := by simp [inB, Sk.textLetters]; omega

/-- Which letter it is: here and there. -/
theorem kinds (x : Sc) (c : Nat) (h : inB letters c = true) :
    (kindF c = 0 ∧ Sk.letter x c = if x.op + 1 ≤ 5 then some { x with op := x.op + 1, mode := 0 } else none) ∨
    ((kindF c = 14 ∨ kindF c = 15 ∨ kindF c = 16) ∧ Sk.letter x c = some { x with mode := 8 }) ∨
    ((kindF c = 17 ∨ kindF c = 18) ∧ Sk.letter x c = some { x with mode := 10, least := 0, count := 0, goal := false }) ∨
    (kindF c = 19 ∧ Sk.letter x c = some { x with mode := 11 }) ∨
    (kindF c = 20 ∧ Sk.letter x c = some { x with mode := 16 }) ∨
    ((kindF c ≠ 0 ∧ ¬ (kindF c = 14 ∨ kindF c = 15 ∨ kindF c = 16) ∧ ¬ (kindF c = 17 ∨ kindF c = 18) ∧ kindF c ≠ 19 ∧ kindF c ≠ 20) ∧ Sk.letter x c = some { x with mode := 7 }) := by
  rcases (in_letters c).1 h with rfl | rfl | rfl | rfl | rfl | rfl | rfl | rfl | rfl | rfl | rfl | rfl | rfl | rfl | rfl | rfl | rfl | rfl | rfl | rfl | rfl
  · exact .inl ⟨by decide, rfl⟩
  iterate 13 · exact .inr (.inr (.inr (.inr (.inr ⟨by decide, rfl⟩))))
  iterate 3 · exact .inr (.inl ⟨by decide, rfl⟩)
  iterate 2 · exact .inr (.inr (.inl ⟨by decide, rfl⟩))
  · exact .inr (.inr (.inr (.inl ⟨by decide, rfl⟩)))
  · exact .inr (.inr (.inr (.inr (.inl ⟨by decide, rfl⟩))))

theorem no_letter (x : Sc) (c : Nat) (h : ¬ inB letters c = true) : Sk.letter x c = none := by
  rw [in_letters] at h
  unfold Sk.letter
  rw [if_neg (by omega), if_neg (by rw [in_plain]; omega), if_neg (by rw [in_text]; omega), if_neg (by omega), if_neg (by omega), if_neg (by omega)]

theorem Behind.lt {s : ByteArray} {i j : Nat} {r : RSt × Bool} {op : Nat} (h : Behind s j r op) (hij : i ≤ j) : Behind s i r op := by
  rcases h with ⟨a, b, c, d⟩ | h
  · exact .inl ⟨a, b, by omega, d⟩
  · exact .inr h

theorem sstep11 (x : Sc) (h : x.mode = 11) (c i : Nat) : sstep x c i = if c = 47 then some (Sk.pattern { x with mode := 12 } (i + 1)) else none := by unfold sstep; simp [h]

/-- What stands behind an s. -/
theorem put_sim {s : ByteArray} {x : Sc} {i : Nat} {lg : Int} {labs : List Lab} (c : Cm) (h : srun s i = some x) (hm : x.mode = 11) (hi : i ≤ s.size) (hn : Nt x lg labs) :
    ((putF s i lg c).2.2.2 = true ∧ i < (putF s i lg c).1 ∧ (putF s i lg c).1 ≤ s.size ∧ ∃ y, srun s (putF s i lg c).1 = some y ∧ Aft s (putF s i lg c).1 y ∧ y.op = x.op ∧ Nt y (putF s i lg c).2.2.1 labs) ∨ ((putF s i lg c).2.2.2 = false ∧ SFails s (putF s i lg c).1) := by
  unfold putF
  by_cases h47 : pk s i = 47
  · rw [if_pos h47]
    obtain ⟨hlt, hb⟩ := pk_is (c := 47) h47
    have h1 : srun s (i + 1) = some (Sk.pattern { x with mode := 12 } (i + 1)) := next h (by rw [hb, sstep11 x hm, if_pos rfl])
    have hP := pat_sim lg h1 (.inr rfl) rfl rfl hlt
    have hg9 := grps_le (patF s (i + 1) lg).2.1
    simp only
    generalize patF s (i + 1) lg = R at hP hg9
    obtain ⟨j, t, lg1, ok⟩ := R
    simp only at hP hg9
    rcases hP with ⟨a1, a2, a3, a4, st, a5, a6⟩ | ⟨a1, a2⟩
    · subst a1
      simp only [if_true]
      have hT := temp_sim (g := grps t) (x := { Sk.pattern { x with mode := 12 } (i + 1) with pat := st, patLen := x.patLen ++ [t.size], mode := 13 }) rfl a5 hg9 (s.size + 1) j [] a6 a3 (by omega)
      have hTg := Rs.tempL_ge s (grps t) (s.size + 1) j [] a3
      have hTl := Rs.tempL_le s (grps t) (s.size + 1) j [] a3
      change (((tempF s (grps t) j).2.2 = true ∧ srun s (tempF s (grps t) j).1 = _) ∨ ((tempF s (grps t) j).2.2 = false ∧ SFails s (tempF s (grps t) j).1)) at hT
      change j ≤ (tempF s (grps t) j).1 at hTg
      change (tempF s (grps t) j).1 ≤ s.size at hTl
      generalize tempF s (grps t) j = Q at hT hTg hTl
      obtain ⟨j2, ps, ok2⟩ := Q
      simp only at hT hTg hTl
      rcases hT with ⟨b1, b2⟩ | ⟨b1, b2⟩
      · subst b1
        simp only [if_true]
        obtain ⟨c1, y, c2, c3, c4⟩ := flag_sim (x := { Sk.pattern { x with mode := 12 } (i + 1) with pat := st, patLen := x.patLen ++ [t.size], mode := 15 }) rfl 4 j2 false false 0 b2 hTl (by decide)
        have hF := Rs.flagF_ge s 4 j2 false false 0
        refine .inl ⟨trivial, by omega, c1, y, c2, c3, c4.op, ?_⟩
        refine ⟨c4.labels.trans hn.labels, ?_⟩
        rw [c4.patAt, c4.patLen, a4]
        exact hn.long.more (i + 1) _
      · subst b1
        simp only [Bool.false_eq_true, if_false]
        exact .inr ⟨trivial, b2⟩
    · subst a1
      simp only [Bool.false_eq_true, if_false]
      exact .inr ⟨trivial, a2⟩
  · rw [if_neg h47]
    refine .inr ⟨rfl, ?_⟩
    by_cases hlt : i < s.size
    · refine fails h hlt ?_
      rw [pk_in hlt] at h47
      have h47' : ¬ byt s i = 47 := by omega
      rw [sstep11 x hm, if_neg h47']
    · exact ends h (by simp only; omega) (by simp [swhole, hm])

/-- A command behind its address. -/
theorem what_sim {s : ByteArray} {row : RSt → RSt × Bool} {D : Nat} (hrow : RowSim s row D) {p : RSt} (c : Cm) {z x : Sc} (h : srun s p.at' = some z) (hi : p.at' ≤ s.size) (hs : p.at' < s.size → sstep z (byt s p.at') p.at' = Sk.letter x (byt s p.at'))
    (hw : p.at' = s.size → swhole z = false) (hop : x.op = p.op) (h5 : p.op ≤ 5) (h6 : 6 ≤ p.op + 1 + D) (hn : Nt x p.long p.labs) : Behind s p.at' (whatF row s p c) p.op := by
  unfold whatF
  by_cases hl : nxt s letters p.at' = true
  · rw [if_pos hl]
    have hlt := Rs.nxt_lt hl
    have hb : inB letters (byt s p.at') = true := by simp [nxt] at hl; exact hl.2
    have hst := hs hlt
    simp only
    rcases kinds x (byt s p.at') hb with ⟨k1, k2⟩ | ⟨k1, k2⟩ | ⟨k1, k2⟩ | ⟨k1, k2⟩ | ⟨k1, k2⟩ | ⟨⟨k0, k1, k3, k4, k5⟩, k2⟩
    · rw [if_pos k1]
      unfold blockF
      rw [k2] at hst
      by_cases ho : p.op = 5
      · rw [if_pos ho]
        rw [if_neg (by omega)] at hst
        exact .inr ⟨rfl, fails h hlt hst⟩
      · rw [if_neg ho]
        rw [if_pos (by omega)] at hst
        have h1 := next h hst
        simp only
        have hR := hrow { p with at' := p.at' + 1, op := p.op + 1, cmds := p.cmds ++ [{ c with kind := kindF (byt s p.at') }] } _ ⟨h1, hlt, .inl rfl⟩ (by show x.op + 1 = p.op + 1; omega) (by show p.op + 1 ≤ 5; omega) (by show 6 ≤ p.op + 1 + D; omega) (hn.of rfl rfl rfl)
        generalize row { p with at' := p.at' + 1, op := p.op + 1, cmds := p.cmds ++ [{ c with kind := kindF (byt s p.at') }] } = R at hR
        obtain ⟨q, ok⟩ := R
        simp only at hR
        rcases hR with ⟨a1, a2, a6, y, a3, a4, a5⟩ | ⟨a1, a2⟩
        · subst a1
          rcases a3.out with ⟨e1, e2⟩ | ⟨e1, e2, e3, e4⟩
          · have hp : ¬ (true = true ∧ pk s q.at' = 125) := fun hh => by
              have := hh.2
              rw [pk_out (by omega)] at this
              omega
            rw [if_neg hp]
            refine .inr ⟨rfl, ends a3.run e1 ?_⟩
            rw [e2]
            simp
            omega
          · have hp : (true = true ∧ pk s q.at' = 125) := ⟨rfl, by rw [pk_in e1, e2]; rfl⟩
            rw [if_pos hp]
            have hx := next a3.run (by rw [e2]; exact e4)
            have hgt : p.at' < q.at' + 1 := by omega
            exact .inl ⟨rfl, by simp only; omega, hgt, e1, _, hx, aft7 rfl, by simp only; omega, a5.of rfl rfl rfl⟩
        · subst a1
          rw [if_neg (by simp)]
          exact .inr ⟨rfl, a2⟩
    · have k0 : ¬ kindF (byt s p.at') = 0 := by omega
      rw [if_neg k0, if_pos k1]
      rw [k2] at hst
      have h1 := next h hst
      by_cases h32 : pk s (p.at' + 1) = 32
      · rw [if_pos h32]
        obtain ⟨hlt1, hb1⟩ := pk_is (c := 32) h32
        have h2 : srun s (p.at' + 1 + 1) = some { x with mode := 9 } := next h1 (by rw [hb1, sstep8 _ rfl, if_pos rfl])
        obtain ⟨e1, e2, e3, e4⟩ := eol_sim rfl (s.size - (p.at' + 1 + 1)) (p.at' + 1 + 1) h2 hlt1 (by omega)
        change srun s (eol s (p.at' + 1 + 1)) = _ at e1
        change p.at' + 1 + 1 ≤ eol s (p.at' + 1 + 1) at e2
        exact .inl ⟨rfl, rfl, by simp only; omega, e3, _, e1, aft9 rfl e4, hop, hn.of rfl rfl rfl⟩
      · rw [if_neg h32]
        refine .inr ⟨rfl, ?_⟩
        by_cases hlt1 : p.at' + 1 < s.size
        · refine fails h1 hlt1 ?_
          rw [pk_in hlt1] at h32
          have h32' : ¬ byt s (p.at' + 1) = 32 := by omega
          rw [sstep8 _ rfl, if_neg h32']
        · exact ends h1 (by simp only; omega) (by simp [swhole])
    · have k0 : ¬ kindF (byt s p.at') = 0 := by omega
      have k3 : ¬ (kindF (byt s p.at') = 14 ∨ kindF (byt s p.at') = 15 ∨ kindF (byt s p.at') = 16) := by omega
      rw [if_neg k0, if_neg k3, if_pos k1]
      rw [k2] at hst
      have h1 := next h hst
      obtain ⟨y, e1, e2, e3, e4, _⟩ := label_sim (lg := p.long) (labs := p.labs) p.cmds.length true h1 rfl rfl rfl hlt (hn.of rfl rfl rfl)
      obtain ⟨f1, f2⟩ := Rs.labF_le s 8 (p.at' + 1) hlt
      exact .inl ⟨rfl, rfl, by show p.at' < labF s 8 (p.at' + 1); omega, f1, y, e1, e4 (Nat.zero_le _), e2.trans hop, e3⟩
    · have k0 : ¬ kindF (byt s p.at') = 0 := by omega
      have k3 : ¬ (kindF (byt s p.at') = 14 ∨ kindF (byt s p.at') = 15 ∨ kindF (byt s p.at') = 16) := by omega
      have k4 : ¬ (kindF (byt s p.at') = 17 ∨ kindF (byt s p.at') = 18) := by omega
      rw [if_neg k0, if_neg k3, if_neg k4, if_pos k1]
      rw [k2] at hst
      have h1 := next h hst
      rcases put_sim (lg := p.long) (labs := p.labs) { c with kind := kindF (byt s p.at') } h1 rfl hlt (hn.of rfl rfl rfl) with ⟨e1, e2, e3, y, e4, e5, e6, e7⟩ | ⟨e1, e2⟩
      · exact .inl ⟨e1, rfl, by show p.at' < (putF _ _ _ _).1; omega, e3, y, e4, e5, e6.trans hop, e7⟩
      · exact .inr ⟨e1, e2⟩
    · have k0 : ¬ kindF (byt s p.at') = 0 := by omega
      have k3 : ¬ (kindF (byt s p.at') = 14 ∨ kindF (byt s p.at') = 15 ∨ kindF (byt s p.at') = 16) := by omega
      have k4 : ¬ (kindF (byt s p.at') = 17 ∨ kindF (byt s p.at') = 18) := by omega
      have k5 : ¬ kindF (byt s p.at') = 19 := by omega
      rw [if_neg k0, if_neg k3, if_neg k4, if_neg k5, if_pos k1]
      rw [k2] at hst
      have h1 := next h hst
      rcases rows_sim h1 rfl hlt with ⟨e1, e3, y, e4, e5, e6⟩ | ⟨e1, e2⟩
      · have hge := Rs.rowsF_ge s (p.at' + 1) hlt
        exact .inl ⟨e1, rfl, by show p.at' < (rowsF _ _).1; omega, e3, y, e4, aft7 e5, e6.op.trans hop, hn.of e6.labels e6.patAt e6.patLen⟩
      · exact .inr ⟨e1, e2⟩
    · rw [if_neg k0, if_neg k1, if_neg k3, if_neg k4, if_neg k5]
      rw [k2] at hst
      have h1 := next h hst
      exact .inl ⟨rfl, rfl, Nat.lt_succ_self _, hlt, _, h1, aft7 rfl, hop, hn.of rfl rfl rfl⟩
  · rw [if_neg hl]
    refine .inr ⟨rfl, ?_⟩
    by_cases hlt : p.at' < s.size
    · refine fails h hlt ?_
      rw [hs hlt]
      exact no_letter x _ (fun hb => hl (by simp [nxt, hlt, hb]))
    · exact ends h (by show p.at' = s.size; omega) (hw (by omega))

theorem addressed_letter (x : Sc) (c : Nat) (h32 : c ≠ 32) (h33 : c ≠ 33 ∨ x.mode = 5) : Sk.addressed x c = Sk.letter x c := by
  unfold Sk.addressed
  rw [if_neg (fun h => h32 h.1), if_neg (fun h => by omega)]

theorem begin_addressed (x : Sc) (c i : Nat) (h1 : ¬ inB between c = true) (h2 : c ≠ 125) (h3 : c ≠ 58) (h4 : ¬ inB Rs.starters c = true) : Sk.begin' x c i = Sk.addressed { x with part := 1 } c := by
  rw [in_between] at h1
  rw [in_starters] at h4
  have hsp : Sk.spot { x with part := 1 } c i = none := by
    unfold Sk.spot
    rw [if_neg (by omega), if_neg (by omega), if_neg (by omega)]
  unfold Sk.begin'
  rw [if_neg (by omega), if_neg h2, if_neg h3, hsp]

/-- A command, or a label. -/
theorem command_sim {s : ByteArray} {row : RSt → RSt × Bool} {D : Nat} (hrow : RowSim s row D) (p : RSt) (x : Sc) (h : srun s p.at' = some x) (h0 : x.mode = 0) (hlt : p.at' < s.size) (hnb : ¬ inB between (byt s p.at') = true) (hncl : ¬ (byt s p.at' = 125 ∧ 0 < p.op))
    (hop : x.op = p.op) (h5 : p.op ≤ 5) (h6 : 6 ≤ p.op + 1 + D) (hn : Nt x p.long p.labs) : Behind s p.at' (commandF row s p) p.op := by
  -- where the address ends: what comes next is told by 'addressed' of a state there
  have key : ((addrF s p.at' p.long).2.2.2.2 = true ∧ p.at' ≤ (addrF s p.at' p.long).1 ∧ (addrF s p.at' p.long).1 ≤ s.size ∧ ∃ y z, srun s (addrF s p.at' p.long).1 = some y ∧ z.op = x.op ∧ Nt z (addrF s p.at' p.long).2.2.2.1 p.labs ∧ z.mode ≠ 5 ∧
      ((addrF s p.at' p.long).1 = s.size → swhole y = false) ∧
      ((addrF s p.at' p.long).1 < s.size → byt s (addrF s p.at' p.long).1 ≠ 32 ∧ (((addrF s p.at' p.long).1 = p.at' ∧ y = x ∧ byt s p.at' = 58 ∧ (addrF s p.at' p.long).2.2.2.1 = p.long) ∨
        (((addrF s p.at' p.long).1 = p.at' → byt s p.at' ≠ 58) ∧ (sstep y (byt s (addrF s p.at' p.long).1) (addrF s p.at' p.long).1 = Sk.addressed z (byt s (addrF s p.at' p.long).1)))))) ∨ ((addrF s p.at' p.long).2.2.2.2 = false ∧ SFails s (addrF s p.at' p.long).1) := by
    by_cases hst : nxt s Rs.starters p.at' = true
    · rcases addr_sim h h0 hst hn with ⟨a1, a2, a3, y, a4, a5, a6, a7⟩ | ha
      · refine .inl ⟨a1, by omega, a3, y, y, a4, a6, a7, by have := a5.mode; omega, fun _ => swhole_mid (by have := a5.mode; omega), fun hl => ⟨(a5.sep hl).1, .inr ⟨fun e => by omega, (a5.sep hl).2⟩⟩⟩
      · exact .inr ha
    · have e : addrF s p.at' p.long = (p.at', Rs.wh0, Rs.wh0, p.long, true) := by rw [addrF, if_neg hst]
      rw [e]
      have hns : ¬ inB Rs.starters (byt s p.at') = true := fun hb => hst (by simp [nxt, hlt, hb])
      refine .inl ⟨rfl, Nat.le_refl _, Nat.le_of_lt hlt, x, { x with part := 1 }, h, rfl, hn.of rfl rfl rfl, by simp [h0], fun e => ?_, fun _ => ⟨fun e => hnb ((in_between _).2 (.inl e)), ?_⟩⟩
      · simp only at e; omega
      · by_cases h58 : byt s p.at' = 58
        · exact .inl ⟨rfl, rfl, h58, rfl⟩
        · refine .inr ⟨fun _ => h58, ?_⟩
          simp only
          rw [sstep0 x h0]
          by_cases h125 : byt s p.at' = 125
          · rw [h125]
            unfold Sk.begin'
            rw [if_neg (by omega), if_pos rfl, if_neg (fun hh => hncl ⟨h125, by omega⟩)]
            rw [addressed_letter _ _ (by omega) (.inl (by omega))]
            exact (no_letter _ _ (by rw [in_letters]; omega)).symm
          · exact begin_addressed x _ _ hnb h125 h58 hns
  unfold commandF
  simp only
  generalize addrF s p.at' p.long = A at key
  obtain ⟨j, wf, wt, lg, ok⟩ := A
  simp only at key
  rcases key with ⟨a1, a2, a3, y, z, a4, a5, a6, a7, a8, a9⟩ | ⟨a1, a2⟩
  · subst a1
    simp only [if_true]
    by_cases h33 : pk s j = 33
    · rw [if_pos h33]
      obtain ⟨hj, hb⟩ := pk_is (c := 33) h33
      have hstep : sstep y (byt s j) j = Sk.addressed z (byt s j) := by
        rcases (a9 hj).2 with ⟨e, _, e2, _⟩ | ⟨_, e⟩
        · rw [e] at hb; omega
        · exact e
      have h1 : srun s (j + 1) = some { z with mode := 5 } := by
        refine next a4 ?_
        rw [hstep, hb]
        unfold Sk.addressed
        rw [if_neg (by omega), if_pos ⟨rfl, a7⟩]
      have h2 : srun s (skip s Rs.blank (j + 1)) = some { z with mode := 5 } := by
        refine skip_sim (fun c i hc => ?_) h1
        rw [sstep45 _ (.inr rfl), (in_blank c).1 hc]
        unfold Sk.addressed
        simp
      have hk1 := Rs.le_skip s Rs.blank (j + 1) hj
      have hk2 := Rs.skip_le s Rs.blank (j + 1) hj
      have hk3 := skip_not s Rs.blank (j + 1)
      generalize skip s Rs.blank (j + 1) = k at h2 hk1 hk2 hk3
      have hlet : k < s.size → sstep { z with mode := 5 } (byt s k) k = Sk.letter { z with mode := 5 } (byt s k) := fun hk => by
        rw [sstep45 _ (.inr rfl)]
        refine addressed_letter _ _ (fun e => ?_) (.inr rfl)
        have hb2 := (in_blank _).2 e
        simp [nxt, hk, hb2] at hk3
      by_cases h58 : pk s k = 58
      · rw [if_pos h58]
        obtain ⟨hk, hb3⟩ := pk_is (c := 58) h58
        refine .inr ⟨rfl, fails h2 hk ?_⟩
        rw [hlet hk, hb3]
        exact no_letter _ _ (by rw [in_letters]; omega)
      · rw [if_neg h58]
        exact (what_sim hrow (p := { p with at' := k, long := lg }) _ h2 hk2 hlet (fun _ => swhole_mid (.inr (.inr (.inr (.inr rfl))))) (a5.trans hop) h5 h6 (a6.of rfl rfl rfl)).lt (by show p.at' ≤ k; omega)
    · rw [if_neg h33]
      by_cases h58 : pk s j = 58
      · rw [if_pos h58]
        obtain ⟨hj, hb⟩ := pk_is (c := 58) h58
        rcases (a9 hj).2 with ⟨e, e1, e2, e3⟩ | ⟨e, e1⟩
        · rw [if_pos e]
          subst e e1 e3
          have h1 : srun s (p.at' + 1) = some { y with mode := 10, least := 1, count := 0, goal := true } := by
            refine next h ?_
            rw [hb, sstep0 y h0]
            rfl
          obtain ⟨u, f1, f2, f3, f4, f5⟩ := label_sim (lg := p.long) (labs := p.labs) p.cmds.length false h1 rfl rfl rfl hj (hn.of rfl rfl rfl)
          obtain ⟨g1, g2⟩ := Rs.labF_le s 8 (p.at' + 1) hj
          by_cases hgt : p.at' + 1 < labF s 8 (p.at' + 1)
          · exact .inl ⟨by simpa using hgt, rfl, by show p.at' < labF s 8 (p.at' + 1); omega, g1, u, f1, f4 (by show 1 ≤ _; omega), f2.trans hop, f3⟩
          · exact .inr ⟨by simpa using hgt, f5 (by show _ < 1; omega)⟩
        · have hne : ¬ j = p.at' := fun hh => e hh (by rw [← hh]; exact hb)
          rw [if_neg hne]
          refine .inr ⟨rfl, fails a4 hj ?_⟩
          rw [e1, hb, addressed_letter _ _ (by omega) (.inl (by omega))]
          exact no_letter _ _ (by rw [in_letters]; omega)
      · rw [if_neg h58]
        refine (what_sim hrow (p := { p with at' := j, long := lg }) _ (x := z) a4 a3 (fun hj => ?_) a8 (a5.trans hop) h5 h6 a6).lt a2
        simp only at hj ⊢
        rw [pk_in hj] at h33 h58
        rcases (a9 hj).2 with ⟨e, _, e2, _⟩ | ⟨_, e⟩
        · rw [← e] at e2; omega
        · rw [e]
          exact addressed_letter _ _ (a9 hj).1 (.inl (by omega))
  · subst a1
    simp only [Bool.false_eq_true, if_false]
    exact .inr ⟨rfl, a2⟩

theorem rowN_sim (s : ByteArray) : ∀ N, RowSim s (Rs.rowN s N) N
  | 0 => fun p x h1 h2 h3 h4 h5 => by omega
  | N + 1 => row_sim (fun p x h1 h2 h3 h4 h5 h6 h7 h8 h9 => command_sim (rowN_sim s N) p x h1 h2 h3 h4 h5 h6 h7 h8 h9)

/-- The whole script. -/
theorem rows_all (s : ByteArray) : ((Rs.rowsOf s).2 = true ∧ ∃ y, Sk.SWholly s y ∧ Nt y (Rs.rowsOf s).1.long (Rs.rowsOf s).1.labs) ∨ ((Rs.rowsOf s).2 = false ∧ SFails s (Rs.rowsOf s).1.at') := by
  rcases rowN_sim s 7 ⟨0, 0, [], [], -1⟩ Sk.sc0 ⟨rfl, Nat.zero_le _, .inl rfl⟩ rfl (by decide) (by decide) ⟨rfl, rfl, .inl ⟨rfl, fun k n hk => by simp [Sk.sc0] at hk⟩⟩ with ⟨a, b, c, y, d, e, f⟩ | h
  · refine .inl ⟨a, y, ?_, f⟩
    rcases d.out with ⟨o1, o2⟩ | ⟨_, _, o, _⟩
    · have hr := d.run
      rw [o1] at hr
      exact ⟨hr, by rw [o2, e]; rfl⟩
    · have : y.op = 0 := e
      omega
  · exact .inr h

end Sm
end Go.Proofs.Ytppjlpihaocdiaa

