/- Several texts in one. -/
import Derived.Test.YtppjlpihaocdiaaPrXK
import Derived.Test.YtppjlpihaocdiaaPrUK
import Derived.Test.YtppjlpihaocdiaaSSpecK
/- The program's reader of scripts: what a command is, plainly. -/
set_option linter.unusedSimpArgs false
set_option linter.unusedVariables false
namespace Go.Proofs.Ytppjlpihaocdiaa
namespace Rs
open Go.RowKit

theorem TempIn.keep {u w : World} {lo lo' hi : Nat} {ps : List Pc} {v : Value} (h : TempIn u lo hi ps v) (k : Keep lo hi u w) (hl : lo' ≤ lo) : TempIn w lo' w.heap.size ps v :=
  ⟨h.1, Nat.le_refl _, fun w' hw => World.ownsRow.mono (h.2.2 w' fun i h1 h2 => (hw i (by omega) (Nat.lt_of_lt_of_le h2 k.size)).trans (k.same i h1 h2)) (by omega)⟩

theorem CmAt.plain {w w' : World} {lo hi : Nat} {c c' : Cm} {q : Pts} (h : CmAt w lo hi c q) (k : Keep lo hi w w') (hk : ¬ c'.kind = 19) (h1 : c'.fst = c.fst) (h2 : c'.snd = c.snd) : CmAt w' lo hi c' q := by
  have h' := h.keep k
  exact ⟨by rw [h1]; exact h'.fst, by rw [h2]; exact h'.snd, fun e => absurd e hk, fun e => absurd e hk, h'.one⟩

/-- Something more, whatever it means. -/
theorem Rk.addedAny {w w1 : World} {b gg cap n : Nat} {s : ByteArray} {p : RSt} {cv lv : Value} {o1 : Obj} {xs ys : List Value} (h : Rk w b s p cv lv) (hxs : w.ownsRow (b + 1) 131 23 cv n xs)
    (hg : (w.alloc o1).drew.grownBy w1 cv.ownBlock) (hown : w1.ownsRow (b + 1) 131 23 (.slice (some ⟨gg, 0, none⟩) (n + 1) cap) (n + 1) ys) :
    Rc (w1.setCell ⟨b, 3, none⟩ (.slice (some ⟨gg, 0, none⟩) (n + 1) cap)) b s p.at' ∧ Below b w (w1.setCell ⟨b, 3, none⟩ (.slice (some ⟨gg, 0, none⟩) (n + 1) cap)) := by
  have hb := h.lt
  obtain ⟨r0, r1, rf, rle, r40⟩ := h.cu.rc
  have far : ∀ k, k < w.heap.size → some k ≠ cv.ownBlock → w1.heap[k]? = w.heap[k]? := fun k hk hne => by
    rw [hg.block k (by simp; omega) hne]
    exact Below.heap_alloc _ _ _ hk
  have hx := far b hb (fun e => by have := (hxs.lt b e.symm).1; omega)
  have ko : ∀ k, k ≠ 3 → (w1.setCell ⟨b, 3, none⟩ (.slice (some ⟨gg, 0, none⟩) (n + 1) cap)).cell? ⟨b, k, none⟩ = w.cell? ⟨b, k, none⟩ := fun k hk =>
    (World.cell?_setCell_other (h := ad_ne (.inr (Ne.symm hk))) ..).trans (World.cell?_of_block (w := w) (w' := w1) (a := ⟨b, k, none⟩) hx)
  refine ⟨⟨(ko 0 (by omega)).trans r0, (ko 1 (by omega)).trans r1, ?_, rle, r40⟩, ⟨hg.os, hg.tape, hg.output, ?_, fun k hk => ?_⟩⟩
  · rw [World.frozen?_setCell]
    exact (World.frozen?_of_block (w := w) (w' := w1) (a := ⟨b, 1, none⟩) hx).trans rf
  · have := hg.size; rw [size_set]; simp at this; omega
  · rw [Below.heap_setCell _ _ _ _ (by simp only; omega)]
    exact far k (by omega) (fun e => by have := (hxs.lt k e.symm).1; omega)

theorem tempL_ge (s : ByteArray) (g : Nat) : ∀ (f i : Nat) (ps : List Pc), i ≤ s.size → i ≤ (tempL s g f i ps).1
  | 0, i, ps, h => Nat.le_refl _
  | f + 1, i, ps, h => by
    have h1 := pieceF_le s g i h
    unfold tempL
    split
    · simp only; omega
    · split
      · have := tempL_ge s g f (pieceF s g i).1 (ps ++ [(pieceF s g i).2.1]) h1.1
        omega
      · exact h1.2
theorem flagF_ge (s : ByteArray) : ∀ (f i : Nat) (a p : Bool) (n : Nat), i ≤ (flagF s f i a p n).1
  | 0, i, a, p, n => Nat.le_refl _
  | f + 1, i, a, p, n => by
    unfold flagF
    split
    · have := flagF_ge s f (i + 1) true p n; omega
    · split
      · have := flagF_ge s f (i + 1) a true n; omega
      · split
        · have := flagF_ge s f (i + 1) a p (byt s i - 48); omega
        · exact Nat.le_refl _
theorem tempL_le (s : ByteArray) (g : Nat) : ∀ (f i : Nat) (ps : List Pc), i ≤ s.size → (tempL s g f i ps).1 ≤ s.size
  | 0, i, ps, h => h
  | f + 1, i, ps, h => by
    have h1 := pieceF_le s g i h
    unfold tempL
    split
    · rename_i h2
      obtain ⟨h3, _⟩ := pk_byte (s := s) (i := i) (by rw [h2]; decide)
      simp only; omega
    · split
      · exact tempL_le s g f _ _ h1.1
      · exact h1.1
theorem putF_ge (s : ByteArray) (i : Nat) (lg : Int) (x : Cm) (h : i ≤ s.size) : i ≤ (putF s i lg x).1 := by
  unfold putF
  split
  · rename_i h1
    obtain ⟨h2, _⟩ := pk_byte (s := s) (i := i) (by rw [h1]; decide)
    have h3 := patF_le s (i + 1) lg (by omega)
    simp only
    split
    · have h4 := tempL_ge s (grps (patF s (i + 1) lg).2.1) (s.size + 1) (patF s (i + 1) lg).1 [] h3.1
      have h4' : (patF s (i + 1) lg).1 ≤ (tempF s (grps (patF s (i + 1) lg).2.1) (patF s (i + 1) lg).1).1 := h4
      split
      · have := flagF_ge s 4 (tempF s (grps (patF s (i + 1) lg).2.1) (patF s (i + 1) lg).1).1 false false 0
        simp only; omega
      · simp only; omega
    · simp only; omega
  · exact Nat.le_refl _
theorem rowL_ge (s : ByteArray) : ∀ (f i : Nat) (l : List Nat), i ≤ s.size → i ≤ (rowL s f i l).1 ∧ (rowL s f i l).1 ≤ s.size
  | 0, i, l, h => ⟨Nat.le_refl _, h⟩
  | f + 1, i, l, h => by
    have h1 := rowByteF_le s l i h
    unfold rowL
    split
    · rename_i h2
      obtain ⟨h3, _⟩ := pk_byte (s := s) (i := i) (by rw [h2]; decide)
      simp only; omega
    · split
      · have := rowL_ge s f (rowByteF s l i).1 (l ++ [(rowByteF s l i).2.1]) h1.1
        omega
      · simp only; omega
theorem rowM_ge (s : ByteArray) : ∀ (f i : Nat) (l : List Nat), i ≤ s.size → i ≤ (rowM s f i l).1
  | 0, i, l, h => Nat.le_refl _
  | f + 1, i, l, h => by
    have h1 := rowByteF_le s [] i h
    unfold rowM
    split
    · have := rowM_ge s f (rowByteF s [] i).1 (l ++ [(rowByteF s [] i).2.1]) h1.1
      omega
    · simp only; omega
theorem rowsF_ge (s : ByteArray) (i : Nat) (h : i ≤ s.size) : i ≤ (rowsF s i).1 := by
  unfold rowsF
  split
  · rename_i h1
    obtain ⟨h2, _⟩ := pk_byte (s := s) (i := i) (by rw [h1]; decide)
    have h3 := rowL_ge s (s.size + 1) (i + 1) [] (by omega)
    have h4 := rowM_ge s (rowL s (s.size + 1) (i + 1) []).2.1.length (rowL s (s.size + 1) (i + 1) []).1 [] h3.2
    simp only
    split
    · split
      · split
        · simp only; omega
        · simp only; omega
      · simp only; omega
    · simp only; omega
  · exact Nat.le_refl _

theorem kind_is {s : ByteArray} {i : Nat} (h : nxt s letters i = true) : i < s.size ∧ Lib.indexByte letters.data.toList ((byt s i : Nat) : Int).toNat.toUInt8 = (kindF (byt s i) : Int) ∧ kindF (byt s i) ≤ 20 := by
  simp [nxt] at h
  refine ⟨h.1, ?_⟩
  have h2 := h.2
  have hb : byt s i ∈ [123, 100, 68, 110, 78, 112, 80, 103, 71, 104, 72, 120, 61, 113, 97, 105, 99, 98, 116, 115, 121] := by
    simp [inB, letters] at h2
    simp only [List.mem_cons, List.not_mem_nil, or_false]
    omega
  generalize byt s i = y at hb
  simp only [List.mem_cons, List.not_mem_nil, or_false] at hb
  rcases hb with rfl | rfl | rfl | rfl | rfl | rfl | rfl | rfl | rfl | rfl | rfl | rfl | rfl | rfl | rfl | rfl | rfl | rfl | rfl | rfl | rfl <;> exact ⟨by decide, by decide⟩

end Rs
end Go.Proofs.Ytppjlpihaocdiaa

/- The program's reader of scripts against the document's walk, plainly: what holds where. -/
set_option linter.unusedSimpArgs false
set_option linter.unusedVariables false
namespace Go.Proofs.Ytppjlpihaocdiaa
namespace Sm
open Sk (Sc srun sstep SFails swhole Lb)
open Rs (RSt Lab Cm nxt skip skipF skip_le le_skip nxt_lt between parts digits)

theorem next {s : ByteArray} {i : Nat} {x y : Sc} (h : srun s i = some x) (hs : sstep x (byt s i) i = some y) : srun s (i + 1) = some y := by rw [Sk.srun_succ h, hs]
theorem fails {s : ByteArray} {i : Nat} {x : Sc} (h : srun s i = some x) (hi : i < s.size) (hs : sstep x (byt s i) i = none) : SFails s i := ⟨x, h, by omega, fun _ => hs, fun e => by omega⟩
theorem ends {s : ByteArray} {i : Nat} {x : Sc} (h : srun s i = some x) (hi : i = s.size) (hs : swhole x = false) : SFails s i := ⟨x, h, by omega, fun e => by omega, fun _ => hs⟩

def nms (x : ByteArray) : List Nat := x.data.toList.map UInt8.toNat
def labOf (l : List Lab) : List Lb := (l.filter fun x => decide (x.name.size ≠ 0)).map fun x => ⟨nms x.name, x.at', !x.want⟩

/-- Where the first pattern above 40 bytes is. -/
def LongRel (pa pl : List Nat) (lg : Int) : Prop :=
  pa.length = pl.length ∧ ((lg = -1 ∧ ∀ (k n : Nat), pl[k]? = some n → n ≤ 40) ∨
  ∃ k a n : Nat, lg = a ∧ pa[k]? = some a ∧ pl[k]? = some n ∧ 40 < n ∧ ∀ k' n' : Nat, k' < k → pl[k']? = some n' → n' ≤ 40)

/-- The notes agree. -/
structure Nt (x : Sc) (lg : Int) (labs : List Lab) : Prop where
  labels : x.labels = labOf labs
  long : LongRel x.patAt x.patLen lg

theorem skipF_sim {s t : ByteArray} {x : Sc} (hx : ∀ c j, inB t c = true → sstep x c j = some x) : ∀ (f i : Nat), srun s i = some x → srun s (skipF s t f i) = some x
  | 0, i, h => h
  | f + 1, i, h => by
    unfold skipF
    split
    · rename_i h1
      simp [nxt] at h1
      exact skipF_sim hx f (i + 1) (next h (hx _ _ h1.2))
    · exact h
theorem skip_sim {s t : ByteArray} {x : Sc} (hx : ∀ c j, inB t c = true → sstep x c j = some x) {i : Nat} (h : srun s i = some x) : srun s (skip s t i) = some x := skipF_sim hx _ i h

theorem skipF_not (s t : ByteArray) : ∀ (f i : Nat), s.size ≤ f + i → nxt s t (skipF s t f i) = false
  | 0, i, h => by
    have h1 : ¬ i < s.size := by omega
    simp [skipF, nxt, h1]
  | f + 1, i, h => by
    unfold skipF
    split
    · exact skipF_not s t f (i + 1) (by omega)
    · rename_i h1; simpa using h1
theorem skip_not (s t : ByteArray) (i : Nat) : nxt s t (skip s t i) = false := skipF_not s t _ i (by omega)

theorem skip_at {s t : ByteArray} {i : Nat} (h : nxt s t i = false) : skip s t i = i := by
  unfold skip
  cases s.size - i with
  | zero => rfl
  | succ f => rw [skipF, h]; rfl
theorem skip_step {s t : ByteArray} {i : Nat} (h : nxt s t i = true) : skip s t i = skip s t (i + 1) := by
  have hi := nxt_lt h
  unfold skip
  rw [show s.size - i = (s.size - (i + 1)) + 1 by omega, skipF, if_pos h]

theorem in_blank (c : Nat) : inB Rs.blank c = true ↔ c = 32 := by simp [inB, Rs.blank]; omega
theorem in_between (c : Nat) : inB between c = true ↔ c = 32 ∨ c = 59 ∨ c = 10 := by simp [inB, between]; omega
theorem in_parts (c : Nat) : inB parts c = true ↔ c = 59 ∨ c = 10 := by simp [inB, parts]; omega

/-- Behind a command: what comes next parts it from the next one. -/
structure Aft (s : ByteArray) (j : Nat) (x : Sc) : Prop where
  sep : j < s.size → sstep x (byt s j) j = Sk.separates x (byt s j)
  fin : swhole x = decide (x.op = 0)

theorem sstep7 (x : Sc) (h : x.mode = 7) (c i : Nat) : sstep x c i = Sk.separates x c := by
  unfold sstep; simp [h]
theorem sstep0 (x : Sc) (h : x.mode = 0) (c i : Nat) : sstep x c i = Sk.begin' x c i := by
  unfold sstep; simp [h]
theorem aft7 {s : ByteArray} {j : Nat} {x : Sc} (h : x.mode = 7) : Aft s j x := ⟨fun _ => sstep7 x h _ _, by simp [swhole, h]⟩

theorem mode7 (x : Sc) (h : x.mode = 7) : { x with mode := 7 } = x := by cases x; simp at h; subst h; rfl
theorem mode0 (x : Sc) (h : x.mode = 0) : { x with mode := 0 } = x := by cases x; simp at h; subst h; rfl

/-- Blanks behind a command. -/
theorem blanks {s : ByteArray} {j : Nat} {x : Sc} (h : srun s j = some x) (ha : Aft s j x) : ∃ y, srun s (skip s Rs.blank j) = some y ∧ Aft s (skip s Rs.blank j) y ∧ (y = x ∨ y = { x with mode := 7 }) := by
  cases hn : nxt s Rs.blank j with
  | false => rw [skip_at hn]; exact ⟨x, h, ha, .inl rfl⟩
  | true =>
    have hj := nxt_lt hn
    have h32 : byt s j = 32 := by simp [nxt] at hn; exact (in_blank _).1 hn.2
    have h1 : srun s (j + 1) = some { x with mode := 7 } := next h (by rw [ha.sep hj, h32]; rfl)
    rw [skip_step hn]
    refine ⟨{ x with mode := 7 }, skip_sim (fun c i hc => ?_) h1, aft7 rfl, .inr rfl⟩
    rw [sstep7 _ rfl, (in_blank c).1 hc]; rfl

theorem aft_eq {x y : Sc} (h : y = x ∨ y = { x with mode := 7 }) : y.op = x.op ∧ y.labels = x.labels ∧ y.patAt = x.patAt ∧ y.patLen = x.patLen := by
  rcases h with rfl | rfl <;> exact ⟨rfl, rfl, rfl, rfl⟩
theorem Nt.of {x y : Sc} {lg : Int} {labs : List Lab} (h : Nt x lg labs) (h1 : y.labels = x.labels) (h2 : y.patAt = x.patAt) (h3 : y.patLen = x.patLen) : Nt y lg labs := ⟨h1.trans h.labels, by rw [h2, h3]; exact h.long⟩

/-- Where a row of commands goes on. -/
structure RowIn (s : ByteArray) (i : Nat) (x : Sc) : Prop where
  run : srun s i = some x
  le : i ≤ s.size
  head : x.mode = 0 ∨ (Aft s i x ∧ (i = s.size ∨ byt s i = 59 ∨ byt s i = 10 ∨ (byt s i = 125 ∧ 0 < x.op)))

/-- Where it has ended. -/
structure RowOut (s : ByteArray) (j : Nat) (x : Sc) : Prop where
  run : srun s j = some x
  le : j ≤ s.size
  out : (j = s.size ∧ swhole x = decide (x.op = 0)) ∨ (j < s.size ∧ byt s j = 125 ∧ 0 < x.op ∧ sstep x 125 j = some { x with op := x.op - 1, mode := 7 })

/-- Ahead of a command: what may stand between. -/
theorem betweens {s : ByteArray} {i : Nat} {x : Sc} (h : RowIn s i x) : ∃ y, srun s (skip s between i) = some y ∧ y.op = x.op ∧ y.labels = x.labels ∧ y.patAt = x.patAt ∧ y.patLen = x.patLen ∧ (y.mode = 0 ∨ (skip s between i = i ∧ y = x ∧ Aft s i x ∧ (i = s.size ∨ (byt s i = 125 ∧ 0 < x.op)))) := by
  have hs0 : ∀ y : Sc, y.mode = 0 → ∀ c j, inB between c = true → sstep y c j = some y := fun y hy c j hc => by
    rw [sstep0 y hy]
    have := (in_between c).1 hc
    unfold Sk.begin'
    rw [if_pos this]
  rcases h.head with h0 | ⟨ha, hh⟩
  · exact ⟨x, skip_sim (hs0 x h0) h.run, rfl, rfl, rfl, rfl, .inl h0⟩
  · by_cases hp : i < s.size ∧ (byt s i = 59 ∨ byt s i = 10)
    · have hn : nxt s between i = true := by simp [nxt, hp.1]; exact (in_between _).2 (.inr hp.2)
      have h1 : srun s (i + 1) = some { x with mode := 0 } := next h.run (by
        rw [ha.sep hp.1]
        unfold Sk.separates
        rw [if_neg (by omega), if_pos hp.2])
      rw [skip_step hn]
      exact ⟨{ x with mode := 0 }, skip_sim (hs0 _ rfl) h1, rfl, rfl, rfl, rfl, .inl rfl⟩
    · have hn : nxt s between i = false := by
        cases hc : nxt s between i with
        | false => rfl
        | true =>
          have hi := nxt_lt hc
          have hb : inB between (byt s i) = true := by simp [nxt] at hc; exact hc.2
          rw [in_between] at hb
          rcases hh with e | e | e | ⟨e, _⟩
          · omega
          · exact absurd ⟨hi, .inl e⟩ hp
          · exact absurd ⟨hi, .inr e⟩ hp
          · omega
      rw [skip_at hn]
      refine ⟨x, h.run, rfl, rfl, rfl, rfl, .inr ⟨rfl, rfl, ha, ?_⟩⟩
      rcases hh with e | e | e | e
      · exact .inl e
      · by_cases hi : i < s.size
        · exact absurd ⟨hi, .inl e⟩ hp
        · exact .inl (by have := h.le; omega)
      · by_cases hi : i < s.size
        · exact absurd ⟨hi, .inr e⟩ hp
        · exact .inl (by have := h.le; omega)
      · exact .inr e

/-- What comes of a part of the reader: it stands behind a command, or it has failed there. -/
def Behind (s : ByteArray) (i : Nat) (r : RSt × Bool) (op : Nat) : Prop :=
  (r.2 = true ∧ r.1.op = op ∧ i < r.1.at' ∧ r.1.at' ≤ s.size ∧ ∃ y, srun s r.1.at' = some y ∧ Aft s r.1.at' y ∧ y.op = op ∧ Nt y r.1.long r.1.labs) ∨ (r.2 = false ∧ SFails s r.1.at')

def RowSim (s : ByteArray) (row : RSt → RSt × Bool) (D : Nat) : Prop := ∀ (p : RSt) (x : Sc), RowIn s p.at' x → x.op = p.op → p.op ≤ 5 → 6 ≤ p.op + D → Nt x p.long p.labs →
  ((row p).2 = true ∧ (row p).1.op = p.op ∧ p.at' ≤ (row p).1.at' ∧ ∃ y, RowOut s (row p).1.at' y ∧ y.op = p.op ∧ Nt y (row p).1.long (row p).1.labs) ∨ ((row p).2 = false ∧ SFails s (row p).1.at')

theorem parted_is (s : ByteArray) (j op : Nat) : (pk s j = -1 ∨ nxt s parts j = true ∨ (decide (0 < op) && decide (pk s j = 125)) = true) ↔ (¬ j < s.size ∨ (j < s.size ∧ (byt s j = 59 ∨ byt s j = 10 ∨ (byt s j = 125 ∧ 0 < op)))) := by
  by_cases hj : j < s.size
  · rw [pk_in hj]
    have h1 : ¬ ((byt s j : Int) = -1) := by omega
    simp [nxt, hj, h1, in_parts]
    omega
  · rw [pk_out hj]
    simp [hj]

/-- A row of commands, if a command does as it should. -/
theorem row_sim {s : ByteArray} {row : RSt → RSt × Bool} {D : Nat}
    (hc : ∀ (p : RSt) (x : Sc), srun s p.at' = some x → x.mode = 0 → p.at' < s.size → ¬ inB between (byt s p.at') = true → ¬ (byt s p.at' = 125 ∧ 0 < p.op) → x.op = p.op → p.op ≤ 5 → 6 ≤ p.op + 1 + D → Nt x p.long p.labs → Behind s p.at' (Rs.commandF row s p) p.op) : RowSim s (Rs.rowF row s) (D + 1) := by
  have main : ∀ (f : Nat) (p : RSt) (x : Sc), s.size + 1 ≤ f + p.at' → RowIn s p.at' x → x.op = p.op → p.op ≤ 5 → 6 ≤ p.op + (D + 1) → Nt x p.long p.labs →
      ((Rs.rowL' row s f p).2 = true ∧ (Rs.rowL' row s f p).1.op = p.op ∧ p.at' ≤ (Rs.rowL' row s f p).1.at' ∧ ∃ y, RowOut s (Rs.rowL' row s f p).1.at' y ∧ y.op = p.op ∧ Nt y (Rs.rowL' row s f p).1.long (Rs.rowL' row s f p).1.labs) ∨ ((Rs.rowL' row s f p).2 = false ∧ SFails s (Rs.rowL' row s f p).1.at') := by
    intro f
    induction f with
    | zero => intro p x hf hin; have := hin.le; omega
    | succ f ih =>
      intro p x hf hin hop h5 h6 hnt
      obtain ⟨y, hy, yo, yl, ya, yp, yh⟩ := betweens hin
      have hJ := skip_le s between p.at' hin.le
      have hJ0 := le_skip s between p.at' hin.le
      have hJn := skip_not s between p.at'
      unfold Rs.rowL'
      simp only
      generalize skip s between p.at' = J at hy yh hJ hJn hJ0
      have hnt' : Nt y p.long p.labs := hnt.of yl ya yp
      by_cases h1 : pk s J = -1 ∨ Rs.closesF s { p with at' := J } = true
      · rw [if_pos h1]
        refine .inl ⟨rfl, rfl, hJ0, y, ⟨hy, hJ, ?_⟩, by rw [yo, hop], hnt'⟩
        show (J = s.size ∧ _) ∨ _
        have hclose : J < s.size → byt s J = 125 ∧ 0 < p.op := fun hj => by
          rcases h1 with h1 | h1
          · rw [pk_in hj] at h1; omega
          · simp [Rs.closesF, pk_in hj] at h1; omega
        by_cases hj : J < s.size
        · obtain ⟨e1, e2⟩ := hclose hj
          refine .inr ⟨hj, e1, by omega, ?_⟩
          rcases yh with y0 | ⟨e, rfl, ha, _⟩
          · rw [sstep0 y y0]
            unfold Sk.begin'
            rw [if_neg (by omega), if_pos rfl, if_pos (by omega)]
          · have := ha.sep (by rw [← e]; exact hj)
            rw [← e, e1] at this
            rw [this]
            unfold Sk.separates
            rw [if_neg (by omega), if_neg (by omega), if_pos ⟨rfl, by omega⟩]
        · refine .inl ⟨by omega, ?_⟩
          rcases yh with y0 | ⟨e, rfl, ha, _⟩
          · simp [swhole, y0]
          · exact ha.fin
      · rw [if_neg h1]
        have hj : J < s.size := by
          by_cases hj : J < s.size
          · exact hj
          · exact absurd (.inl (pk_out hj)) h1
        have hncl : ¬ (byt s J = 125 ∧ 0 < p.op) := fun h => h1 (.inr (by simp [Rs.closesF, pk_in hj, h.1, h.2]))
        have y0 : y.mode = 0 := by
          rcases yh with y0 | ⟨e, rfl, ha, hh⟩
          · exact y0
          · rcases hh with hh | hh
            · omega
            · exact absurd ⟨by rw [e]; exact hh.1, by omega⟩ hncl
        have hnb : ¬ inB between (byt s J) = true := fun h => by simp [nxt, hj, h] at hJn
        have hcmd := hc { p with at' := J } y hy y0 hj hnb hncl (by rw [yo, hop]) h5 (by show 6 ≤ p.op + 1 + D; omega) hnt'
        generalize Rs.commandF row s { p with at' := J } = C at hcmd
        obtain ⟨p3, okc⟩ := C
        rcases hcmd with ⟨h2, h3, hlt, h4, z, hz, hza, hzo, hzn⟩ | ⟨h2, h3⟩
        · simp only at h2 h3 h4 hz hza hzo hzn hlt
          subst h2
          simp only [if_true]
          obtain ⟨u, hu, hua, hue⟩ := blanks hz hza
          obtain ⟨uo, ul, ua, up⟩ := aft_eq hue
          have hS := skip_le s Rs.blank p3.at' h4
          have hS0 := le_skip s Rs.blank p3.at' h4
          have hSn := skip_not s Rs.blank p3.at'
          generalize skip s Rs.blank p3.at' = S at hu hua hS hS0 hSn
          have hpi := parted_is s S p3.op
          by_cases hp : pk s S = -1 ∨ nxt s parts S = true ∨ Rs.closesF s { p3 with at' := S } = true
          · rw [if_pos hp]
            have hp' := hpi.1 hp
            have := ih { p3 with at' := S } u (by show s.size + 1 ≤ f + S; omega) ⟨hu, hS, .inr ⟨hua, ?_⟩⟩ (by show u.op = p3.op; rw [uo, hzo, h3]) (by show p3.op ≤ 5; omega) (by show 6 ≤ p3.op + (D + 1); omega) (hzn.of ul ua up)
            · rcases this with ⟨q1, q2, q6, y', q3, q4, q5⟩ | q
              · exact .inl ⟨q1, q2.trans h3, Nat.le_trans (show p.at' ≤ S by omega) q6, y', q3, q4.trans h3, q5⟩
              · exact .inr q
            · rcases hp' with e | ⟨_, e | e | e⟩
              · exact .inl (by show S = s.size; omega)
              · exact .inr (.inl e)
              · exact .inr (.inr (.inl e))
              · exact .inr (.inr (.inr ⟨e.1, by rw [uo, hzo, ← h3]; exact e.2⟩))
          · rw [if_neg hp]
            refine .inr ⟨rfl, ?_⟩
            show SFails s S
            have hp' : ¬ (¬ S < s.size ∨ (S < s.size ∧ (byt s S = 59 ∨ byt s S = 10 ∨ (byt s S = 125 ∧ 0 < p3.op)))) := fun h => hp (hpi.2 h)
            have hSs : S < s.size := by
              by_cases h : S < s.size
              · exact h
              · exact absurd (.inl h) hp'
            refine fails hu hSs ?_
            rw [hua.sep hSs]
            have hb : ¬ byt s S = 32 := fun h => by
              have hb2 := (in_blank _).2 h
              simp [nxt, hSs, hb2] at hSn
            unfold Sk.separates
            rw [if_neg hb, if_neg (fun h => hp' (.inr ⟨hSs, by omega⟩)), if_neg (fun h => hp' (.inr ⟨hSs, .inr (.inr ⟨h.1, by rw [uo, hzo, ← h3] at h; exact h.2⟩)⟩))]
        · simp only at h2 h3
          subst h2
          simp only [Bool.false_eq_true, if_false]
          exact .inr ⟨trivial, h3⟩
  intro p x hin hop h5 h6 hnt
  exact main (s.size + 1) p x (by omega) hin hop h5 h6 hnt

end Sm
end Go.Proofs.Ytppjlpihaocdiaa

/- The program's reader of scripts against the document's walk: patterns. -/
set_option linter.unusedSimpArgs false
set_option linter.unusedVariables false
namespace Go.Proofs.Ytppjlpihaocdiaa
namespace Sm
open Sk (Sc srun sstep SFails swhole Lb escaping)
open Rs (slash slashF failAt grps patF)

/-- The walk over a pattern that begins at a place of a script. -/
def prun (s : ByteArray) (i : Nat) : Nat → Option St
  | 0 => some ⟨0, 0, 0, 0⟩
  | k + 1 => (prun s i k).bind fun st => step st (byt s (i + k))

theorem prun_run (s : ByteArray) (i e : Nat) : ∀ k, i + k ≤ e → run (s.extract i e) k = prun s i k
  | 0, _ => rfl
  | k + 1, h => by
    rw [run, prun, prun_run s i e k (by omega), Rs.byt_extract s i e k (by omega)]

theorem esc_is (st : St) : escaping st = true ↔ st.m = 3 ∨ st.m = 9 ∨ st.m = 10 := by simp [escaping]; omega
theorem esc_not (st : St) : escaping st = false ↔ ¬ (st.m = 3 ∨ st.m = 9 ∨ st.m = 10) := by
  rw [← esc_is]; simp

theorem begins_m {st st' : St} {c : Nat} (h : begins st c = some st') : st'.m = if c = 40 then 0 else if c = 91 then 4 else if c = 92 then 3 else 1 := by
  unfold begins at h
  split at h
  · split at h
    · cases h
    · cases h; rename_i h1 _; simp [h1]
  · rename_i h1
    split at h
    · rename_i h2; cases h; simp [h1, h2]
    · rename_i h2
      split at h
      · rename_i h3; cases h; simp [h1, h2, h3]
      · rename_i h3
        split at h
        · cases h
        · cases h; simp [h1, h2, h3]

theorem esc_step {st st' : St} {c : Nat} (h : step st c = some st') (he : escaping st = false) : escaping st' = decide (c = 92) := by
  rw [esc_not] at he
  have key : (st'.m = 3 ∨ st'.m = 9 ∨ st'.m = 10) ↔ c = 92 := by
    unfold step at h
    split at h
    · have := begins_m h
      rw [this]; split <;> (try split) <;> (try split) <;> omega
    · split at h
      · unfold goesOn at h
        split at h
        · rename_i h1
          have hq := (inB_quants c).1 h1.2
          cases h; simp; omega
        · split at h
          · rename_i h1; cases h; simp; omega
          · split at h
            · rename_i h1; cases h; simp; omega
            · split at h
              · rename_i h1; cases h; simp; omega
              · have := begins_m h
                rw [this]; split <;> (try split) <;> (try split) <;> omega
      · split at h
        · omega
        · split at h
          · unfold braced at h
            split at h
            · split at h
              · rename_i h1 _
                cases h
                simp only
                split <;> omega
              · cases h
            · split at h
              · cases h; simp; omega
              · split at h
                · cases h; simp; omega
                · cases h
          · have hm : st.m = 4 ∨ st.m = 5 ∨ st.m = 6 ∨ st.m = 7 ∨ st.m = 8 := by omega
            obtain ⟨m, o, a, l⟩ := st
            simp only at hm
            rcases hm with rfl | rfl | rfl | rfl | rfl
            · rw [inSet4] at h
              repeat' split at h
              all_goals first
                | (cases h; done)
                | (cases h; simp; omega)
            · rw [inSet5] at h
              repeat' split at h
              all_goals first
                | (cases h; done)
                | (cases h; simp; omega)
            · rw [inSet6] at h
              repeat' split at h
              all_goals first
                | (cases h; done)
                | (cases h; simp; omega)
            · rw [inSet7] at h
              repeat' split at h
              all_goals first
                | (cases h; done)
                | (cases h; simp; omega)
            · rw [inSet8] at h
              repeat' split at h
              all_goals first
                | (cases h; done)
                | (cases h; simp; omega)
  by_cases hc : c = 92
  · rw [hc]; simp; rw [esc_is]; exact key.2 hc
  · rw [decide_eq_false hc, esc_not]; exact fun h => hc (key.1 h)

theorem esc_done {st st' : St} {c : Nat} (h : step st c = some st') (he : escaping st = true) : escaping st' = false := by
  rw [esc_is] at he
  rw [esc_not]
  unfold step at h
  rcases he with e | e | e
  · simp [e] at h
    rw [← h.2]; simp
  · simp [e, inSet] at h
    rw [← h.2]; simp
  · simp [e, inSet] at h
    rw [← h.2]; simp

/-- The slash that ends a pattern is the first that is not escaped. -/
theorem slash_esc (s : ByteArray) (i : Nat) : ∀ (f j : Nat), i ≤ j → s.size < f + j → (∀ st, prun s i (j - i) = some st → escaping st = false) →
    (∀ q st, j ≤ q → q < slashF s f j → prun s i (q - i) = some st → byt s q = 47 → escaping st = true) ∧ (slashF s f j < s.size → byt s (slashF s f j) = 47 ∧ ∀ st, prun s i (slashF s f j - i) = some st → escaping st = false)
  | 0, j, h1, h2, h3 => by
    refine ⟨fun q st a b => ?_, fun a => ?_⟩
    · simp [slashF] at b; omega
    · simp [slashF] at a
  | f + 1, j, h1, h2, h3 => by
    unfold slashF
    by_cases hj : j < s.size
    · rw [if_pos hj]
      by_cases h47 : byt s j = 47
      · rw [if_pos h47]
        exact ⟨fun q st a b => by omega, fun _ => ⟨h47, h3⟩⟩
      · rw [if_neg h47]
        have hsucc : ∀ k, i ≤ k → prun s i (k + 1 - i) = (prun s i (k - i)).bind fun st => step st (byt s k) := fun k hk => by
          rw [show k + 1 - i = (k - i) + 1 by omega, prun, show i + (k - i) = k by omega]
        by_cases h92 : byt s j = 92
        · rw [if_pos h92]
          have e1 : ∀ st, prun s i (j + 1 - i) = some st → escaping st = true := fun st hst => by
            rw [hsucc j h1, Option.bind_eq_some_iff] at hst
            obtain ⟨st0, a, b⟩ := hst
            rw [esc_step b (h3 st0 a), h92]; rfl
          have e2 : ∀ st, prun s i (j + 2 - i) = some st → escaping st = false := fun st hst => by
            rw [show j + 2 = (j + 1) + 1 from rfl, hsucc (j + 1) (by omega), Option.bind_eq_some_iff] at hst
            obtain ⟨st0, a, b⟩ := hst
            exact esc_done b (e1 st0 a)
          obtain ⟨g1, g2⟩ := slash_esc s i f (j + 2) (by omega) (by omega) e2
          refine ⟨fun q st a b c d => ?_, g2⟩
          by_cases hq : q = j
          · subst hq; omega
          · by_cases hq1 : q = j + 1
            · subst hq1; exact e1 st c
            · exact g1 q st (by omega) b c d
        · rw [if_neg h92]
          have e1 : ∀ st, prun s i (j + 1 - i) = some st → escaping st = false := fun st hst => by
            rw [hsucc j h1, Option.bind_eq_some_iff] at hst
            obtain ⟨st0, a, b⟩ := hst
            rw [esc_step b (h3 st0 a)]; simp [h92]
          obtain ⟨g1, g2⟩ := slash_esc s i f (j + 1) (by omega) (by omega) e1
          refine ⟨fun q st a b c d => ?_, g2⟩
          by_cases hq : q = j
          · subst hq; exact absurd d h47
          · exact g1 q st (by omega) b c d
    · rw [if_neg hj]
      exact ⟨fun q st a b => by omega, fun a => by omega⟩

end Sm
end Go.Proofs.Ytppjlpihaocdiaa

/- The program's reader of scripts against the document's walk: a pattern and the slash behind it. -/
set_option linter.unusedSimpArgs false
set_option linter.unusedVariables false
namespace Go.Proofs.Ytppjlpihaocdiaa
namespace Sm
open Sk (Sc srun sstep SFails swhole Lb escaping bump)
open Rs (slash slashF failAt grps patF)

theorem bump_snoc (L : List Nat) (k : Nat) : bump (L ++ [k]) = L ++ [k + 1] := by
  unfold bump
  simp

theorem sstep_pat (z : Sc) (hm : z.mode = 6 ∨ z.mode = 12) (c i : Nat) (h : ¬ (c = 47 ∧ escaping z.pat = false)) : sstep z c i = (step z.pat c).map fun st => { z with pat := st, patLen := bump z.patLen } := by
  have e : sstep z c i = (Sk.inPattern z c).1.map fun y => if (Sk.inPattern z c).2 = true then { y with mode := if z.mode = 12 then 13 else 2 } else y := by
    unfold sstep
    rcases hm with h | h <;> simp [h]
  rw [e]
  unfold Sk.inPattern
  rw [if_neg h]
  simp only [Option.map_map]
  rfl

theorem sstep_end (z : Sc) (hm : z.mode = 6 ∨ z.mode = 12) (i : Nat) (h : escaping z.pat = false) : sstep z 47 i = if whole z.pat = true then some { z with mode := if z.mode = 12 then 13 else 2 } else none := by
  have e : sstep z 47 i = (Sk.inPattern z 47).1.map fun y => if (Sk.inPattern z 47).2 = true then { y with mode := if z.mode = 12 then 13 else 2 } else y := by
    unfold sstep
    rcases hm with h | h <;> simp [h]
  rw [e]
  unfold Sk.inPattern
  rw [if_pos ⟨rfl, h⟩]
  split <;> rfl

theorem whole_esc {st : St} (h : whole st = true) : escaping st = false := by
  rw [esc_not]
  simp [whole] at h
  omega

theorem fails_of {t : ByteArray} {j : Nat} (h : failAt t = some j) : Fails t j := (Rs.failF_run t.size 0 ⟨0, 0, 0, 0⟩ (t := t) rfl (by omega)).1 j h
theorem wholly_of {t : ByteArray} (h : failAt t = none) : Wholly t := (Rs.failF_run t.size 0 ⟨0, 0, 0, 0⟩ (t := t) rfl (by omega)).2 h

theorem pat_par {s : ByteArray} {i : Nat} {y : Sc} {L : List Nat} (hy : srun s i = some y) (hm : y.mode = 6 ∨ y.mode = 12) (hp : y.pat = ⟨0, 0, 0, 0⟩) (hl : y.patLen = L ++ [0]) (hi : i ≤ s.size) :
    ∀ (k : Nat) (st : St), i + k ≤ slash s i → prun s i k = some st → srun s (i + k) = some { y with pat := st, patLen := L ++ [k] }
  | 0, st, _, h => by
    cases h
    have e : ({ y with pat := ⟨0, 0, 0, 0⟩, patLen := L ++ [0] } : Sc) = y := by cases y; simp at hp hl; subst hp hl; rfl
    rw [e]; exact hy
  | k + 1, st, hk, h => by
    rw [prun, Option.bind_eq_some_iff] at h
    obtain ⟨st0, h0, h1⟩ := h
    have ih := pat_par hy hm hp hl hi k st0 (by omega) h0
    obtain ⟨g1, _⟩ := slash_esc s i (s.size + 1) i (Nat.le_refl _) (by omega) (fun st hst => by rw [Nat.sub_self] at hst; cases hst; rfl)
    have hne : ¬ (byt s (i + k) = 47 ∧ escaping st0 = false) := fun hh => by
      have := g1 (i + k) st0 (by omega) (by show i + k < slash s i; omega) (by rw [Nat.add_sub_cancel_left]; exact h0) hh.1
      rw [this] at hh
      cases hh.2
    have hstep : sstep { y with pat := st0, patLen := L ++ [k] } (byt s (i + k)) (i + k) = some { y with pat := st, patLen := L ++ [k + 1] } := by
      rw [sstep_pat { y with pat := st0, patLen := L ++ [k] } hm _ _ hne]
      simp only
      rw [h1, bump_snoc]
      rfl
    exact next ih hstep

theorem swhole_pat {z : Sc} (hm : z.mode = 6 ∨ z.mode = 12) : swhole z = false := by
  rcases hm with h | h <;> simp [swhole, h]

/-- A pattern and the slash behind it. -/
theorem pat_sim {s : ByteArray} {i : Nat} {y : Sc} {L : List Nat} (lg : Int) (hy : srun s i = some y) (hm : y.mode = 6 ∨ y.mode = 12) (hp : y.pat = ⟨0, 0, 0, 0⟩) (hl : y.patLen = L ++ [0]) (hi : i ≤ s.size) :
    ((patF s i lg).2.2.2 = true ∧ i < (patF s i lg).1 ∧ (patF s i lg).1 ≤ s.size ∧ (patF s i lg).2.2.1 = (if 40 < (patF s i lg).2.1.size ∧ lg = -1 then (i : Int) else lg) ∧
      ∃ st, st.a = grps (patF s i lg).2.1 ∧ srun s (patF s i lg).1 = some { y with pat := st, patLen := L ++ [(patF s i lg).2.1.size], mode := if y.mode = 12 then 13 else 2 }) ∨
    ((patF s i lg).2.2.2 = false ∧ SFails s (patF s i lg).1) := by
  have hsl := Rs.slash_ge s (s.size + 1) i hi
  have hsl' : i ≤ slash s i := hsl
  have hse : slash s i ≤ s.size := Rs.slashF_le s _ _
  have hts := Rs.pat_size s i hi
  obtain ⟨g1, g2⟩ := slash_esc s i (s.size + 1) i (Nat.le_refl _) (by omega) (fun st hst => by rw [Nat.sub_self] at hst; cases hst; rfl)
  have par := pat_par hy hm hp hl hi
  have hrun : ∀ k, i + k ≤ slash s i → run (s.extract i (slash s i)) k = prun s i k := prun_run s i (slash s i)
  rcases hf : failAt (s.extract i (slash s i)) with _ | j
  rotate_left
  · have hpf : patF s i lg = (i + j, Rs.noBytes, lg, false) := by unfold patF; simp only [hf]
    rw [hpf]
    refine .inr ⟨rfl, ?_⟩
    show SFails s (i + j)
    obtain ⟨st, f1, f2, f3, f4⟩ := fails_of hf
    have hz := par j st (by omega) (by rw [← hrun j (by omega)]; exact f1)
    by_cases hj : j < (s.extract i (slash s i)).size
    · refine fails hz (by omega) ?_
      have hne : ¬ (byt s (i + j) = 47 ∧ escaping st = false) := fun hh => by
        have := g1 (i + j) st (by omega) (by show i + j < slash s i; omega) (by rw [Nat.add_sub_cancel_left, ← hrun j (by omega)]; exact f1) hh.1
        rw [this] at hh
        cases hh.2
      rw [sstep_pat { y with pat := st, patLen := L ++ [j] } hm _ _ hne]
      have := f3 hj
      rw [Rs.byt_extract s i (slash s i) j (by omega)] at this
      simp only
      rw [this]
      rfl
    · have hjt : j = (s.extract i (slash s i)).size := by omega
      have hw := f4 hjt
      by_cases he : slash s i < s.size
      · refine fails hz (by omega) ?_
        have hij : i + j = slash s i := by omega
        obtain ⟨e1, e2⟩ := g2 he
        have e1' : byt s (slash s i) = 47 := e1
        rw [hij, e1', sstep_end { y with pat := st, patLen := L ++ [j] } hm _ (e2 st (by show prun s i (slash s i - i) = some st; rw [← hij, Nat.add_sub_cancel_left, ← hrun j (by omega)]; exact f1))]
        simp only
        rw [hw]
        rfl
      · exact ends hz (by omega) (swhole_pat hm)
  · have hpf : patF s i lg = (if pk s (i + (s.extract i (slash s i)).size) = 47 then (i + (s.extract i (slash s i)).size + 1, s.extract i (slash s i), if 40 < (s.extract i (slash s i)).size ∧ lg = -1 then (i : Int) else lg, true) else (i + (s.extract i (slash s i)).size, s.extract i (slash s i), if 40 < (s.extract i (slash s i)).size ∧ lg = -1 then (i : Int) else lg, false)) := by unfold patF; simp only [hf]
    rw [hpf]
    obtain ⟨st, w1, w2⟩ := wholly_of hf
    have hz := par (s.extract i (slash s i)).size st (by omega) (by rw [← hrun _ (by omega)]; exact w1)
    have hij : i + (s.extract i (slash s i)).size = slash s i := by omega
    by_cases h47 : pk s (i + (s.extract i (slash s i)).size) = 47
    · rw [if_pos h47]
      obtain ⟨hlt, hb⟩ := Rs.pk_byte (s := s) (i := i + (s.extract i (slash s i)).size) (by rw [h47]; decide)
      refine .inl ⟨rfl, by simp only; omega, by simp only; omega, rfl, st, ?_, ?_⟩
      · show st.a = grps (s.extract i (slash s i))
        rw [grps, w1]
      · refine next hz ?_
        have hb47 : byt s (i + (s.extract i (slash s i)).size) = 47 := by rw [hb] at h47; omega
        rw [hb47, sstep_end { y with pat := st, patLen := L ++ [(s.extract i (slash s i)).size] } hm _ (whole_esc w2)]
        simp only
        rw [w2]
        rfl
    · rw [if_neg h47]
      refine .inr ⟨rfl, ?_⟩
      have hns : ¬ slash s i < s.size := fun he => by
        have e1 : byt s (slash s i) = 47 := (g2 he).1
        apply h47
        rw [hij, pk_in he, e1]
        rfl
      exact ends hz (by omega) (swhole_pat hm)

/-- One pattern more. -/
theorem LongRel.more {pa pl : List Nat} {lg : Int} (h : LongRel pa pl lg) (i n : Nat) : LongRel (pa ++ [i]) (pl ++ [n]) (if 40 < n ∧ lg = -1 then (i : Int) else lg) := by
  obtain ⟨hl, h⟩ := h
  refine ⟨by simp [hl], ?_⟩
  rcases h with ⟨rfl, h⟩ | ⟨k, a, m, rfl, h1, h2, h3, h4⟩
  · by_cases hn : 40 < n
    · rw [if_pos ⟨hn, rfl⟩]
      refine .inr ⟨pl.length, i, n, rfl, by rw [← hl]; simp, by simp, hn, fun k' n' hk hk2 => ?_⟩
      rw [List.getElem?_append_left hk] at hk2
      exact h k' n' hk2
    · rw [if_neg (fun hh => hn hh.1)]
      refine .inl ⟨rfl, fun k m hk => ?_⟩
      by_cases hk2 : k < pl.length
      · rw [List.getElem?_append_left hk2] at hk
        exact h k m hk
      · have := (List.getElem?_eq_some_iff.1 hk).1
        simp at this
        have e : k = pl.length := by omega
        subst e
        simp at hk
        omega
  · rw [if_neg (fun hh => by omega)]
    have hk1 := (List.getElem?_eq_some_iff.1 h1).1
    have hk2 := (List.getElem?_eq_some_iff.1 h2).1
    refine .inr ⟨k, a, m, rfl, by rw [List.getElem?_append_left hk1]; exact h1, by rw [List.getElem?_append_left hk2]; exact h2, h3, fun k' n' hk hk3 => ?_⟩
    rw [List.getElem?_append_left (by omega)] at hk3
    exact h4 k' n' hk hk3

end Sm
end Go.Proofs.Ytppjlpihaocdiaa

