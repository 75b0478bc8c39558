/- Several texts in one. -/
import Derived.Test.YtppjlpihaocdiabGreatDoorEhFH
import Derived.KernelRfl
import Derived.Test.YtppjlpihaocdiabGreatDoorBitsH
import Derived.Deep.RegionLaw
import Derived.BigRegion
import Derived.Deep.AppendLies
import Derived.Deep.DrawnRows
import Derived.Laws.BytesArg
import Derived.Laws.Strings
import Derived.Lib.Strings
set_option linter.unusedSimpArgs false
set_option linter.unusedVariables false
namespace Go.Proofs.YtppjlpihaocdiabGreatDoor
namespace Ee
open Rs (Cm Wh Pc readR)
def lastOf : List (List UInt8) → List UInt8
  | [] => []
  | [l] => l ++ [10]
  | _ :: m :: r => lastOf (m :: r)
def numF : Nat → List (List UInt8) → List UInt8
  | _, [] => []
  | i, _ :: r => [UInt8.ofNat (49 + i), 10] ++ numF (i + 1) r
section
variable {mf : Mf}
/- Numbers. -/
def scN : ByteArray := ⟨#[61]⟩
/- The first two. -/
def cmQ : Cm := { cmK 13 with fst := ⟨1, 2, emp⟩ }
/- Each first of two. -/
def scO : ByteArray := ⟨#[110, 59, 100]⟩
/- The last one. -/
def cmL1 : Cm := { cmK 1 with fst := ⟨2, 0, emp⟩, neg := true }
/- The order turned. -/
def cmG1 : Cm := { cmK 8 with fst := ⟨1, 1, emp⟩, neg := true }
end
end Ee
end Go.Proofs.YtppjlpihaocdiabGreatDoor

set_option linter.unusedSimpArgs false
set_option linter.unusedVariables false
namespace Go.Proofs.YtppjlpihaocdiabGreatDoor
namespace Ee
open Rs (Cm Wh Pc readR)
section
variable {mf : Mf}
/- A substitution, then the end of the script. -/
def cmS (p : ByteArray) (t : List Pc) (n : Nat) (a : Bool) : Cm := ⟨19, ⟨0, 0, emp⟩, ⟨0, 0, emp⟩, false, 0, emp, p, t, n, a, false, emp, emp⟩
end
end Ee
end Go.Proofs.YtppjlpihaocdiabGreatDoor

set_option linter.unusedSimpArgs false
set_option linter.unusedVariables false
namespace Go.Proofs.YtppjlpihaocdiabGreatDoor
namespace Ee
open Rs (Cm Wh Pc readR grps failAt)
def Lt (w : List UInt8) : Prop := ∀ b ∈ w, b = 97 ∨ b = 98 ∨ b = 99 ∨ b = 100
structure Wd (w : List UInt8) : Prop where
  lt : Lt w
  pos : w ≠ []
  le : w.length ≤ 3
def letB (b : UInt8) : Nd := leaf 0 (addR noSet b.toNat b.toNat)
def nodesW (w : List UInt8) : List Nd := if w.length = 1 then w.map letB else w.map letB ++ [rowN 5 (List.range w.length)]
def rootW (w : List UInt8) : Nat := if w.length = 1 then 0 else w.length
theorem tree_w (w : List UInt8) (h : Wd w) : treeOf (txt w) = (⟨w.length, 0, nodesW w⟩, rootW w) ∧ grps (txt w) = 0 ∧ failAt (txt w) = none := by
  match w, h with
  | [], h => exact absurd rfl h.pos
  | [a], h =>
    rcases h.lt a (by simp) with rfl | rfl | rfl | rfl <;> exact ⟨by kernel_rfl, by kernel_rfl, by kernel_rfl⟩
  | [a, b], h =>
    rcases h.lt a (by simp) with rfl | rfl | rfl | rfl <;> rcases h.lt b (by simp) with rfl | rfl | rfl | rfl <;> exact ⟨by kernel_rfl, by kernel_rfl, by kernel_rfl⟩
  | [a, b, c], h =>
    rcases h.lt a (by simp) with rfl | rfl | rfl | rfl <;> rcases h.lt b (by simp) with rfl | rfl | rfl | rfl <;> rcases h.lt c (by simp) with rfl | rfl | rfl | rfl <;> exact ⟨by kernel_rfl, by kernel_rfl, by kernel_rfl⟩
  | a :: b :: c :: d :: r, h => exact absurd h.le (by simp)
theorem addR_one (c x : Nat) : addR noSet c c x = true ↔ x = c := by
  simp only [addR, noSet, Bool.false_or, Bool.and_eq_true, decide_eq_true_eq]
  omega
theorem byt_get (s : List UInt8) (i : Nat) (b : UInt8) (hi : i < s.length) : byt (txt s) i = b.toNat ↔ s[i]? = some b := by
  rw [byt_txt, List.getD_eq_getElem?_getD, List.getElem?_eq_getElem hi, Option.getD_some, Option.some.injEq]
  exact UInt8.toNat_inj
theorem let_at (s : List UInt8) (i : Nat) (b : UInt8) : (i < (txt s).size ∧ (addR noSet b.toNat b.toNat (byt (txt s) i)) = true) ↔ s[i]? = some b := by
  rw [txt_size, addR_one]
  constructor
  · rintro ⟨h1, h2⟩
    exact (byt_get s i b h1).1 h2
  · intro h
    have h1 := (List.getElem?_eq_some_iff.1 h).1
    exact ⟨h1, (byt_get s i b h1).2 h⟩
def hit (s w : List UInt8) (i : Nat) : Bool := w.isPrefixOf (s.drop i)
theorem pre_cons (l w : List UInt8) (a : UInt8) : (a :: w).isPrefixOf l = true ↔ l[0]? = some a ∧ w.isPrefixOf (l.drop 1) = true := by
  cases l with
  | nil => simp
  | cons x l =>
    rw [List.isPrefixOf, List.getElem?_cons_zero, List.drop_one, List.tail_cons, Bool.and_eq_true, beq_iff_eq, Option.some.injEq]
    constructor
    · rintro ⟨h1, h2⟩; exact ⟨h1.symm, h2⟩
    · rintro ⟨h1, h2⟩; exact ⟨h1.symm, h2⟩
theorem hit_nil (s : List UInt8) (i : Nat) : hit s [] i = true := by simp [hit]
theorem hit_cons (s w : List UInt8) (a : UInt8) (i : Nat) : hit s (a :: w) i = true ↔ s[i]? = some a ∧ hit s w (i + 1) = true := by
  unfold hit
  rw [pre_cons, List.getElem?_drop, List.drop_drop, Nat.add_zero]
theorem mat_w (s w : List UInt8) (h : Wd w) (i j : Nat) : Mat (txt s) (nodesW w) (rootW w) i j ↔ (hit s w i = true ∧ j = i + w.length) := by
  match w, h with
  | [], h => exact absurd rfl h.pos
  | [a], h =>
    rw [hit_cons, ← let_at]
    simp [nodesW, rootW, Mat, mOf, letB, leaf, hit_nil, and_assoc]
  | [a, b], h =>
    rw [hit_cons, hit_cons, ← let_at, ← let_at]
    simp [nodesW, rootW, Mat, mOf, letB, leaf, hit_nil, rowN, List.range_succ, Chain]
    constructor
    · rintro ⟨m, ⟨h1, h2, rfl⟩, h3, h4, rfl⟩
      exact ⟨⟨⟨h1, h2⟩, h3, h4⟩, rfl⟩
    · rintro ⟨⟨⟨h1, h2⟩, h3, h4⟩, rfl⟩
      exact ⟨i + 1, ⟨h1, h2, rfl⟩, h3, h4, rfl⟩
  | [a, b, c], h =>
    rw [hit_cons, hit_cons, hit_cons, ← let_at, ← let_at, ← let_at]
    simp [nodesW, rootW, Mat, mOf, letB, leaf, hit_nil, rowN, List.range_succ, Chain]
    constructor
    · rintro ⟨m, ⟨h1, h2, rfl⟩, m2, ⟨h3, h4, rfl⟩, h5, h6, rfl⟩
      exact ⟨⟨⟨h1, h2⟩, ⟨h3, h4⟩, h5, h6⟩, rfl⟩
    · rintro ⟨⟨⟨h1, h2⟩, ⟨h3, h4⟩, h5, h6⟩, rfl⟩
      exact ⟨i + 1, ⟨h1, h2, rfl⟩, i + 1 + 1, ⟨h3, h4, rfl⟩, h5, h6, rfl⟩
  | a :: b :: c :: d :: r, h => exact absurd h.le (by simp)
theorem mat_let (s w : List UInt8) (q : Nat) (b : UInt8) (hq : (nodesW w)[q]? = some (letB b)) (i j : Nat) : Mat (txt s) (nodesW w) q i j ↔ (s[i]? = some b ∧ j = i + 1) := by
  rw [← let_at]
  simp [Mat, mOf, hq, letB, leaf, and_assoc]
theorem pg_let (s w : List UInt8) (q f : Nat) (b : UInt8) (hq : (nodesW w)[q]? = some (letB b)) (i j : Nat) (c : Caps) : pgOf (txt s) (nodesW w) (f + 1) q i j c c := ⟨letB b, hq, by simp [letB, leaf]⟩
theorem row_let (s w : List UInt8) (f : Nat) : ∀ (v : List UInt8) (n i : Nat), (∀ (q : Nat) (b : UInt8), v[q]? = some b → (nodesW w)[n + q]? = some (letB b)) → hit s v i = true → ∀ c, Chain ((List.range' n v.length).map (Mat (txt s) (nodesW w))) i (i + v.length) ∧ rowG (Mat (txt s) (nodesW w)) (pgOf (txt s) (nodesW w) (f + 1)) (List.range' n v.length) i (i + v.length) c c
  | [], n, i, _, _, c => ⟨rfl, rfl⟩
  | b :: v, n, i, hq, hh, c => by
    obtain ⟨h1, h2⟩ := (hit_cons s v b i).1 hh
    have h0 : (nodesW w)[n]? = some (letB b) := hq 0 b rfl
    obtain ⟨k1, k2⟩ := row_let s w f v (n + 1) (i + 1) (fun q x hx => by
      have := hq (q + 1) x (by simpa using hx)
      rwa [show n + (q + 1) = n + 1 + q by omega] at this) h2 c
    have e : i + (b :: v).length = i + 1 + v.length := by rw [List.length_cons]; omega
    have e2 : List.range' n (b :: v).length = n :: List.range' (n + 1) v.length := by rw [List.length_cons, List.range'_succ]
    rw [e, e2]
    have hm := (mat_let s w n b h0 i (i + 1)).2 ⟨h1, rfl⟩
    refine ⟨⟨i + 1, hm, k1⟩, i + 1, c, ⟨by omega, by omega, fun u hu _ hx => ?_, .inr ⟨hm, k1⟩⟩, pg_let s w n f b h0 i (i + 1) c, k2⟩
    have := ((mat_let s w n b h0 i u).1 hx.1).2
    omega
theorem give_w (s w : List UInt8) (h : Wd w) (i : Nat) (hh : hit s w i = true) : PGv (txt s) (nodesW w) (rootW w) i (i + w.length) [] [] := by
  by_cases h1 : w.length = 1
  · match w, h1 with
    | [a], _ => exact pg_let s [a] 0 0 a rfl i (i + 1) []
  · have e : rootW w = w.length := by simp [rootW, h1]
    have en : nodesW w = w.map letB ++ [rowN 5 (List.range w.length)] := by simp [nodesW, h1]
    have hp : 0 < w.length := List.length_pos_iff.2 h.pos
    obtain ⟨r, hr⟩ : ∃ r, w.length = r + 1 := ⟨w.length - 1, by omega⟩
    rw [e]
    unfold PGv
    refine ⟨rowN 5 (List.range w.length), by rw [en, List.getElem?_append_right (by simp)]; simp, ?_⟩
    have := (row_let s w r w 0 i (fun q b hq => by
      rw [Nat.zero_add, en, List.getElem?_append_left (by simp; exact (List.getElem?_eq_some_iff.1 hq).1), List.getElem?_map, hq]
      rfl) hh []).2
    simp only [rowN]
    rw [if_neg (by omega), if_neg (by omega), if_pos trivial, List.range_eq_range']
    rw [hr] at this ⊢
    exact this
def fh (w : List UInt8) : List UInt8 → Nat → Option Nat
  | [], _ => none
  | b :: r, i => if w.isPrefixOf (b :: r) = true then some i else fh w r (i + 1)
theorem hit_le {s w : List UInt8} {i : Nat} (h : hit s w i = true) (hw : w ≠ []) : i + w.length ≤ s.length := by
  unfold hit at h
  have := (List.isPrefixOf_iff_prefix.1 h).length_le
  have hp : 0 < w.length := List.length_pos_iff.2 hw
  rw [List.length_drop] at this
  omega
theorem fh_is (s w : List UInt8) (hw : w ≠ []) : ∀ (l : List UInt8) (i : Nat), s.drop i = l → (∃ k, fh w l i = some k ∧ i ≤ k ∧ hit s w k = true ∧ ∀ q, i ≤ q → q < k → hit s w q = false) ∨ (fh w l i = none ∧ ∀ q, i ≤ q → hit s w q = false)
  | [], i, hd => by
    refine .inr ⟨rfl, fun q hq => ?_⟩
    by_cases hh : hit s w q = true
    · have h1 := hit_le hh hw
      have h2 : s.length ≤ i := by
        have := congrArg List.length hd
        simp at this
        omega
      have hp : 0 < w.length := List.length_pos_iff.2 hw
      omega
    · simpa using hh
  | b :: r, i, hd => by
    have e : hit s w i = w.isPrefixOf (b :: r) := by unfold hit; rw [hd]
    have hd2 : s.drop (i + 1) = r := by rw [← List.drop_drop, hd]; rfl
    rw [fh]
    by_cases hp : w.isPrefixOf (b :: r) = true
    · rw [if_pos hp]
      exact .inl ⟨i, rfl, Nat.le_refl _, by rw [e]; exact hp, fun q a b => by omega⟩
    · rw [if_neg hp]
      have h0 : hit s w i = false := by rw [e]; exact Bool.eq_false_iff.2 hp
      rcases fh_is s w hw r (i + 1) hd2 with ⟨k, h1, h2, h3, h4⟩ | ⟨h1, h2⟩
      · refine .inl ⟨k, h1, by omega, h3, fun q a b => ?_⟩
        by_cases hq : q = i
        · rw [hq]; exact h0
        · exact h4 q (by omega) b
      · refine .inr ⟨h1, fun q a => ?_⟩
        by_cases hq : q = i
        · rw [hq]; exact h0
        · exact h2 q (by omega)
theorem mf_w {mf : Mf} (hm : MfOk mf) (s w : List UInt8) (h : Wd w) (pl : Nat) : mf (txt w) (txt s) pl = (fh w (s.drop pl) pl).map fun (i : Nat) => [((i : Int), ((i + w.length : Nat) : Int))] := by
  obtain ⟨t1, t2, t3⟩ := tree_w w h
  have e1 : (treeOf (txt w)).1.l = nodesW w := by rw [t1]
  have e2 : (treeOf (txt w)).2 = rootW w := by rw [t1]
  rcases fh_is s w h.pos (s.drop pl) pl rfl with ⟨k, h1, h2, h3, h4⟩ | ⟨h1, h2⟩
  · rw [h1]
    refine (hm (txt w) (txt s) pl).1 _ ⟨k, k + w.length, [], rfl, ?_, by rw [t2]; rfl, ?_⟩
    · rw [e1, e2]
      refine ⟨h2, by omega, by rw [txt_size]; exact hit_le h3 h.pos, (mat_w s w h k _).2 ⟨h3, rfl⟩, fun i' j' a b hx => ?_, fun j' a hx => ?_⟩
      · have := ((mat_w s w h i' j').1 hx).1
        rw [h4 i' a b] at this
        cases this
      · have := ((mat_w s w h k j').1 hx).2
        omega
    · rw [e1, e2, t2]
      exact give_w s w h k h3
  · rw [h1]
    refine (hm (txt w) (txt s) pl).2 fun sp hx => ?_
    obtain ⟨i, j, c, _, hb, _⟩ := hx
    rw [e1, e2] at hb
    have := ((mat_w s w h i j).1 hb.2.2.2.1).1
    rw [h2 i hb.1] at this
    cases this
end Ee
end Go.Proofs.YtppjlpihaocdiabGreatDoor

set_option linter.unusedSimpArgs false
set_option linter.unusedVariables false
namespace Go.Proofs.YtppjlpihaocdiabGreatDoor
namespace Ee
open Rs (Cm Wh Pc readR grps failAt)
def sc (w o : List UInt8) (f : Nat → Bool) : Nat → Nat → List UInt8 → List UInt8
  | 0, _, _ => []
  | k + 1, n, [] => []
  | k + 1, n, b :: r => if w.isPrefixOf (b :: r) = true then (if f (n + 1) = true then o else w) ++ sc w o f k (n + 1) ((b :: r).drop w.length) else b :: sc w o f k n r
theorem sc_more (w o : List UInt8) (f : Nat → Bool) (hw : w ≠ []) : ∀ (k k' n : Nat) (l : List UInt8), l.length ≤ k → l.length ≤ k' → sc w o f k n l = sc w o f k' n l
  | 0, 0, n, l, _, _ => rfl
  | 0, k' + 1, n, [], _, _ => rfl
  | 0, k' + 1, n, b :: r, h, _ => by simp at h
  | k + 1, 0, n, [], _, _ => rfl
  | k + 1, 0, n, b :: r, _, h => by simp at h
  | k + 1, k' + 1, n, [], _, _ => rfl
  | k + 1, k' + 1, n, b :: r, h, h' => by
    have hp : 0 < w.length := List.length_pos_iff.2 hw
    simp only [List.length_cons] at h h'
    have hd : ((b :: r).drop w.length).length ≤ r.length := by rw [List.length_drop, List.length_cons]; omega
    rw [sc, sc, sc_more w o f hw k k' (n + 1) _ (by omega) (by omega), sc_more w o f hw k k' n r (by omega) (by omega)]
theorem sc_id (w o : List UInt8) (f : Nat → Bool) (hw : w ≠ []) : ∀ (k n : Nat) (l : List UInt8), l.length ≤ k → (∀ m, n < m → f m = false) → sc w o f k n l = l
  | 0, n, [], _, _ => rfl
  | 0, n, b :: r, h, _ => by simp at h
  | k + 1, n, [], _, _ => rfl
  | k + 1, n, b :: r, h, hf => by
    have hp : 0 < w.length := List.length_pos_iff.2 hw
    simp only [List.length_cons] at h
    have hd : ((b :: r).drop w.length).length ≤ r.length := by rw [List.length_drop, List.length_cons]; omega
    rw [sc, sc_id w o f hw k n r (by omega) hf, sc_id w o f hw k (n + 1) _ (by omega) (fun m hm => hf m (by omega))]
    by_cases hq : w.isPrefixOf (b :: r) = true
    · rw [if_pos hq, hf (n + 1) (by omega)]
      obtain ⟨t, ht⟩ := List.isPrefixOf_iff_prefix.1 hq
      rw [← ht, List.drop_left]
      simp
    · rw [if_neg hq]
theorem sc_len (w o : List UInt8) (f : Nat → Bool) (hw : w ≠ []) (ho : o.length ≤ 3) : ∀ (k n : Nat) (l : List UInt8), (sc w o f k n l).length ≤ 3 * l.length
  | 0, n, l => by simp [sc]
  | k + 1, n, [] => by simp [sc]
  | k + 1, n, b :: r => by
    have hp : 0 < w.length := List.length_pos_iff.2 hw
    have h1 := sc_len w o f hw ho k n r
    have h2 := sc_len w o f hw ho k (n + 1) ((b :: r).drop w.length)
    rw [sc]
    by_cases hq : w.isPrefixOf (b :: r) = true
    · rw [if_pos hq, List.length_append]
      have h3 := (List.isPrefixOf_iff_prefix.1 hq).length_le
      rw [List.length_drop] at h2
      by_cases hf : f (n + 1) = true
      · rw [if_pos hf]
        omega
      · rw [if_neg hf]
        omega
    · rw [if_neg hq, List.length_cons, List.length_cons]
      omega
theorem sc_none (w o : List UInt8) (f : Nat → Bool) (hw : w ≠ []) : ∀ (k n i : Nat) (l : List UInt8), l.length ≤ k → fh w l i = none → sc w o f k n l = l
  | 0, n, i, [], _, _ => rfl
  | 0, n, i, b :: r, h, _ => by simp at h
  | k + 1, n, i, [], _, _ => rfl
  | k + 1, n, i, b :: r, h, hf => by
    simp only [List.length_cons] at h
    rw [fh] at hf
    by_cases hq : w.isPrefixOf (b :: r) = true
    · rw [if_pos hq] at hf
      cases hf
    · rw [if_neg hq] at hf
      rw [sc, if_neg hq, sc_none w o f hw k n (i + 1) r (by omega) hf]
theorem sc_some (w o : List UInt8) (f : Nat → Bool) (hw : w ≠ []) : ∀ (k n i j : Nat) (l : List UInt8), l.length ≤ k → fh w l i = some j → i ≤ j ∧ j - i + w.length ≤ l.length ∧ sc w o f k n l = l.take (j - i) ++ (if f (n + 1) = true then o else w) ++ sc w o f k (n + 1) (l.drop (j - i + w.length))
  | 0, n, i, j, [], _, hf => by cases hf
  | 0, n, i, j, b :: r, h, _ => by simp at h
  | k + 1, n, i, j, [], _, hf => by cases hf
  | k + 1, n, i, j, b :: r, h, hf => by
    have hp : 0 < w.length := List.length_pos_iff.2 hw
    simp only [List.length_cons] at h
    rw [fh] at hf
    by_cases hq : w.isPrefixOf (b :: r) = true
    · rw [if_pos hq] at hf
      cases hf
      have h3 := (List.isPrefixOf_iff_prefix.1 hq).length_le
      refine ⟨Nat.le_refl _, by omega, ?_⟩
      rw [sc, if_pos hq, Nat.sub_self, List.take_zero, List.nil_append, Nat.zero_add, sc_more w o f hw k (k + 1) (n + 1) _ (by rw [List.length_drop, List.length_cons]; omega) (by rw [List.length_drop, List.length_cons]; omega)]
    · rw [if_neg hq] at hf
      obtain ⟨h1, h2, h3⟩ := sc_some w o f hw k n (i + 1) j r (by omega) hf
      refine ⟨by omega, by rw [List.length_cons]; omega, ?_⟩
      obtain ⟨d, hd⟩ : ∃ d, j - i = d + 1 := ⟨j - i - 1, by omega⟩
      have hd2 : j - (i + 1) = d := by omega
      rw [hd2] at h2 h3
      rw [sc, if_neg hq, h3, hd, List.take_succ_cons, show d + 1 + w.length = (d + w.length) + 1 by omega, List.drop_succ_cons, sc_more w o f hw k (k + 1) (n + 1) _ (by rw [List.length_drop]; omega) (by rw [List.length_drop]; omega)]
      simp
def pcs (o : List UInt8) : List Pc := o.map fun b => ⟨-1, b.toNat⟩
theorem fill_w (t : ByteArray) (sp : List (Int × Int)) : ∀ (o out : List UInt8), fillT t sp (pcs o) out = out ++ o
  | [], out => by simp [pcs, fillT]
  | b :: o, out => by
    have := fill_w t sp o (out ++ [b])
    unfold pcs at this ⊢
    rw [List.map_cons, fillT, if_pos rfl]
    have e : b.toNat.toUInt8 = b := by simp
    rw [e, this]
    simp
section
variable {mf : Mf}
theorem next_w (hm : MfOk mf) (s w : List UInt8) (h : Wd w) (tp : Nat) : nextM mf (txt w) (txt s) tp = mf (txt w) (txt s) tp := by
  have hp : 0 < w.length := List.length_pos_iff.2 h.pos
  have e := mf_w hm s w h tp
  unfold nextM
  rcases fh_is s w h.pos (s.drop tp) tp rfl with ⟨k, h1, h2, h3, h4⟩ | ⟨h1, h2⟩
  · rw [h1] at e
    rw [e]
    simp only [Option.map_some, List.getD_cons_zero]
    rw [if_neg (by omega)]
  · rw [h1] at e
    rw [e]
    rfl
def pick9 (num : Nat) (all : Bool) (n : Nat) : Bool := if all = true then decide (num ≤ n) else decide (n = num)
theorem cut_mid (s : List UInt8) (a b : Nat) (h1 : a ≤ b) : row ((txt s).extract a b) = (s.drop a).take (b - a) := by
  rw [row_extract, row_txt, List.drop_take]
theorem cut_end (s : List UInt8) (a : Nat) : row ((txt s).extract a (txt s).size) = s.drop a := by
  rw [row_extract, row_txt, txt_size, List.take_length]
theorem repl_w (hm : MfOk mf) (s w o : List UInt8) (h : Wd w) (num : Nat) (all : Bool) (hn1 : 1 ≤ num) : ∀ (f n tp done : Nat) (out : List UInt8), s.length - tp + 1 ≤ f → done ≤ tp → tp ≤ s.length → (n < num → True) → (num ≤ n → all = true) →
    ∃ n', replL mf (cmS (txt w) (pcs o) num all) (txt s) f (mf (txt w) (txt s) tp) n done out = (out ++ (s.drop done).take (tp - done) ++ sc w o (pick9 num all) (s.length - tp) n (s.drop tp), n') ∧ n ≤ n' ∧ (n' < num → sc w o (pick9 num all) (s.length - tp) n (s.drop tp) = s.drop tp)
  | 0, n, tp, done, out, hf, hd, ht, _, _ => by omega
  | f + 1, n, tp, done, out, hf, hd, ht, _, ha => by
    have hp : 0 < w.length := List.length_pos_iff.2 h.pos
    have hjoin : s.drop done = (s.drop done).take (tp - done) ++ s.drop tp := by
      have := List.take_append_drop (tp - done) (s.drop done)
      rw [List.drop_drop, show done + (tp - done) = tp by omega] at this
      exact this.symm
    rw [mf_w hm s w h tp]
    rcases hfh : fh w (s.drop tp) tp with _ | k
    · refine ⟨n, ?_, Nat.le_refl _, fun _ => sc_none w o _ h.pos _ n tp _ (by rw [List.length_drop]; omega) hfh⟩
      rw [Option.map_none, replL, cut_end, sc_none w o _ h.pos _ n tp _ (by rw [List.length_drop]; omega) hfh]
      conv => lhs; rw [hjoin]
      simp
    · obtain ⟨k1, k2, k3⟩ := sc_some w o (pick9 num all) h.pos (s.length - tp) n tp k (s.drop tp) (by rw [List.length_drop]; omega) hfh
      rw [List.length_drop] at k2
      have hdr : (s.drop tp).drop (k - tp + w.length) = s.drop (k + w.length) := by rw [List.drop_drop]; congr 1; omega
      have hsc : sc w o (pick9 num all) (s.length - tp) (n + 1) (s.drop (k + w.length)) = sc w o (pick9 num all) (s.length - (k + w.length)) (n + 1) (s.drop (k + w.length)) := sc_more w o _ h.pos _ _ _ _ (by rw [List.length_drop]; omega) (by rw [List.length_drop]; omega)
      have hto : ((k + w.length : Nat) : Int).toNat = k + w.length := Int.toNat_natCast _
      have hhit : (s.drop k).take w.length = w := by
        rcases fh_is s w h.pos (s.drop tp) tp rfl with ⟨k', e1, e2, e3, e4⟩ | ⟨e1, _⟩
        · rw [hfh] at e1
          cases e1
          unfold hit at e3
          obtain ⟨t, ht'⟩ := List.isPrefixOf_iff_prefix.1 e3
          rw [← ht', List.take_left]
        · rw [hfh] at e1
          cases e1
      have hpre : (s.drop done).take (k - done) = (s.drop done).take (tp - done) ++ (s.drop tp).take (k - tp) := by
        have e : k - done = (tp - done) + (k - tp) := by omega
        rw [e, List.take_add, List.drop_drop, show done + (tp - done) = tp by omega]
      have hpre2 : (s.drop done).take (k + w.length - done) = (s.drop done).take (tp - done) ++ (s.drop tp).take (k - tp) ++ w := by
        have e : k + w.length - done = (k - done) + w.length := by omega
        rw [e, List.take_add, List.drop_drop, show done + (k - done) = k by omega, hhit, hpre]
      have hnx := next_w hm s w h (k + w.length)
      rw [Option.map_some, replL]
      simp only [List.getD_cons_zero, cmS]
      rw [hto, hnx, Int.toNat_natCast]
      by_cases hlt : n + 1 < num
      · rw [if_pos hlt]
        obtain ⟨n', e1, e2, e3⟩ := repl_w hm s w o h num all hn1 f (n + 1) (k + w.length) done out (by omega) (by omega) (by omega) (fun _ => trivial) (fun hx => by omega)
        have hpk : pick9 num all (n + 1) = false := by
          unfold pick9
          cases all <;> simp <;> omega
        refine ⟨n', ?_, by omega, fun hx => ?_⟩
        · show replL mf (cmS (txt w) (pcs o) num all) _ _ _ _ _ _ = _
          rw [e1, k3, hpk, hdr, hsc, hpre2]
          simp
        · rw [k3, hpk, hdr, hsc, e3 hx, ← hdr]
          have e4 : (s.drop tp).take (k - tp) ++ w = (s.drop tp).take (k - tp + w.length) := by
            rw [List.take_add, List.drop_drop, show tp + (k - tp) = k by omega, hhit]
          rw [if_neg (by simp), e4, List.take_append_drop]
      · rw [if_neg hlt]
        have hpk : pick9 num all (n + 1) = true := by
          unfold pick9
          cases all
          · have : ¬ num ≤ n := fun hx => by have := ha hx; cases this
            simp
            omega
          · simp
            omega
        rw [fill_w, cut_mid s done k (by omega), hpre]
        by_cases hall : all = true
        · rw [if_pos hall]
          obtain ⟨n', e1, e2, e3⟩ := repl_w hm s w o h num all hn1 f (n + 1) (k + w.length) (k + w.length) (out ++ ((s.drop done).take (tp - done) ++ (s.drop tp).take (k - tp)) ++ o) (by omega) (by omega) (by omega) (fun _ => trivial) (fun hx => hall)
          refine ⟨n', ?_, by omega, fun hx => by omega⟩
          show replL mf (cmS (txt w) (pcs o) num all) _ _ _ _ _ _ = _
          rw [e1, k3, hpk, hdr, hsc]
          simp
        · rw [if_neg hall, cut_end]
          refine ⟨n + 1, ?_, by omega, fun hx => by omega⟩
          have hid : sc w o (pick9 num all) (s.length - (k + w.length)) (n + 1) (s.drop (k + w.length)) = s.drop (k + w.length) := sc_id w o _ h.pos _ _ _ (by rw [List.length_drop]; omega) fun m hm' => by
            unfold pick9
            rw [if_neg hall]
            simp
            omega
          rw [k3, hpk, hdr, hsc, hid]
          simp
end
end Ee
end Go.Proofs.YtppjlpihaocdiabGreatDoor

set_option linter.unusedSimpArgs false
set_option linter.unusedVariables false
namespace Go.Proofs.YtppjlpihaocdiabGreatDoor
namespace Ee
open Rs (Cm Wh Pc readR grps failAt)
theorem dr_cons {L r : List UInt8} {i : Nat} {b : UInt8} (h : L.drop i = b :: r) : i < (txt L).size ∧ byt (txt L) i = b.toNat ∧ pk (txt L) i = (b.toNat : Int) ∧ L.drop (i + 1) = r := by
  have h1 : i < L.length := by
    have := congrArg List.length h
    rw [List.length_drop, List.length_cons] at this
    omega
  have h2 : L[i]? = some b := by
    have := congrArg (fun l => l[0]?) h
    simpa using this
  have h3 : byt (txt L) i = b.toNat := (byt_get L i b h1).2 h2
  refine ⟨by rw [txt_size]; exact h1, h3, ?_, ?_⟩
  · rw [pk_in (by rw [txt_size]; exact h1), h3]
  · rw [← List.drop_drop, h]
    rfl
theorem dr_nil {L : List UInt8} {i : Nat} (h : L.drop i = []) : ¬ i < (txt L).size ∧ pk (txt L) i = -1 := by
  have h1 : ¬ i < (txt L).size := by
    rw [txt_size]
    have := congrArg List.length h
    rw [List.length_drop, List.length_nil] at this
    omega
  exact ⟨h1, pk_out h1⟩
theorem lt_nat {b : UInt8} (h : b = 97 ∨ b = 98 ∨ b = 99 ∨ b = 100) : 97 ≤ b.toNat ∧ b.toNat ≤ 100 := by
  rcases h with rfl | rfl | rfl | rfl <;> decide
theorem dr_skip {L : List UInt8} : ∀ {w r : List UInt8} {i : Nat}, L.drop i = w ++ r → L.drop (i + w.length) = r
  | [], r, i, h => h
  | b :: w, r, i, h => by
    have := dr_skip (dr_cons h).2.2.2
    rw [List.length_cons, show i + (w.length + 1) = i + 1 + w.length by omega]
    exact this
theorem slash_w {L : List UInt8} : ∀ (w r : List UInt8) (f i : Nat), Lt w → L.drop i = w ++ 47 :: r → w.length < f → Rs.slashF (txt L) f i = i + w.length
  | [], r, 0, i, _, _, hf => by simp at hf
  | [], r, f + 1, i, _, h, hf => by
    obtain ⟨h1, h2, _, _⟩ := dr_cons h
    rw [Rs.slashF, if_pos h1, if_pos (by rw [h2]; rfl)]
    rfl
  | b :: w, r, 0, i, _, _, hf => by simp at hf
  | b :: w, r, f + 1, i, hl, h, hf => by
    obtain ⟨h1, h2, _, h4⟩ := dr_cons h
    have hb := lt_nat (hl b (by simp))
    rw [Rs.slashF, if_pos h1, if_neg (by omega), if_neg (by omega), slash_w w r f (i + 1) (fun c hc => hl c (List.mem_cons_of_mem _ hc)) h4 (by simp only [List.length_cons] at hf; omega), List.length_cons]
    omega
theorem cut_w {L w r : List UInt8} {i : Nat} (h : L.drop i = w ++ r) : (txt L).extract i (i + w.length) = txt w := by
  rw [row_extract, List.drop_take, Nat.add_sub_cancel_left, h, List.take_left]
theorem pat_w {L w r : List UInt8} {i : Nat} (hw : Wd w) (h : L.drop i = w ++ 47 :: r) : Rs.patF (txt L) i (-1) = (i + w.length + 1, txt w, -1, true) := by
  have hsz : w.length < (txt L).size + 1 := by
    have := congrArg List.length h
    rw [List.length_drop, List.length_append, List.length_cons] at this
    rw [txt_size]
    omega
  have e : (txt L).extract i (Rs.slash (txt L) i) = txt w := by
    unfold Rs.slash
    rw [slash_w w r _ i hw.lt h hsz]
    exact cut_w h
  have hs := dr_cons (dr_skip h)
  have h40 : ¬ 40 < (txt w).size := by rw [txt_size]; have := hw.le; omega
  unfold Rs.patF
  simp only [e, (tree_w w hw).2.2]
  rw [txt_size] at h40 ⊢
  rw [hs.2.2.1, if_pos (show (((47 : UInt8).toNat : Nat) : Int) = 47 from rfl), if_neg (fun hx => h40 hx.1)]
theorem temp_w {L : List UInt8} (g : Nat) : ∀ (o r : List UInt8) (f i : Nat) (ps : List Pc), Lt o → L.drop i = o ++ 47 :: r → o.length < f → Rs.tempL (txt L) g f i ps = (i + o.length + 1, ps ++ pcs o, true)
  | [], r, 0, i, ps, _, _, hf => by simp at hf
  | [], r, f + 1, i, ps, _, h, hf => by
    obtain ⟨_, _, h3, _⟩ := dr_cons h
    rw [Rs.tempL, if_pos (by rw [h3]; rfl)]
    simp [pcs]
  | b :: o, r, 0, i, ps, _, _, hf => by simp at hf
  | b :: o, r, f + 1, i, ps, hl, h, hf => by
    obtain ⟨h1, h2, h3, h4⟩ := dr_cons h
    have hb := lt_nat (hl b (by simp))
    have e : Rs.pieceF (txt L) g i = (i + 1, ⟨-1, b.toNat⟩, true) := by
      unfold Rs.pieceF Rs.plainF
      rw [h3, if_neg (by omega), if_neg (by omega), if_neg (by omega), h2]
    have ih := temp_w g o r f (i + 1) (ps ++ [⟨-1, b.toNat⟩]) (fun c hc => hl c (List.mem_cons_of_mem _ hc)) h4 (by simp only [List.length_cons] at hf; omega)
    rw [Rs.tempL, h3, if_neg (by omega), e, if_pos rfl, ih, List.length_cons]
    simp [pcs]
    omega
def flag (L : List UInt8) (i : Nat) (num : Nat) (all : Bool) : Prop := Rs.flagF (txt L) 4 i false false 0 = (L.length, all, false, num)
theorem nxt_nil {L : List UInt8} {i : Nat} (t : ByteArray) (h : L.drop i = []) : Rs.nxt (txt L) t i = false := by
  unfold Rs.nxt
  simp [(dr_nil h).1]
theorem dr_end {L : List UInt8} {i : Nat} (h : L.drop i = []) (hi : i ≤ L.length) : i = L.length := by
  have := congrArg List.length h
  rw [List.length_drop, List.length_nil] at this
  omega
theorem flag_none {L : List UInt8} {i : Nat} (h : L.drop i = []) (hi : i ≤ L.length) : flag L i 1 false := by
  unfold flag
  rw [Rs.flagF, (dr_nil h).2, nxt_nil _ h]
  simp [dr_end h hi]
theorem flag_all {L : List UInt8} {i : Nat} (h : L.drop i = [103]) (hi : i < L.length) : flag L i 1 true := by
  obtain ⟨_, _, h3, h4⟩ := dr_cons h
  unfold flag
  rw [Rs.flagF, h3, if_pos ⟨rfl, rfl⟩, Rs.flagF, (dr_nil h4).2, nxt_nil _ h4]
  simp [dr_end h4 hi]
theorem flag_num {L : List UInt8} {i k : Nat} (h : L.drop i = [UInt8.ofNat (48 + k)]) (hi : i < L.length) (h1 : 1 ≤ k) (h9 : k ≤ 9) : flag L i k false := by
  obtain ⟨g1, g2, h3, h4⟩ := dr_cons h
  have e : (UInt8.ofNat (48 + k)).toNat = 48 + k := by
    rw [UInt8.toNat_ofNat']
    omega
  have hn : Rs.nxt (txt L) Rs.numerals i = true := by
    unfold Rs.nxt
    rw [g2, e]
    simp only [g1, decide_true, Bool.true_and]
    obtain rfl | rfl | rfl | rfl | rfl | rfl | rfl | rfl | rfl : k = 1 ∨ k = 2 ∨ k = 3 ∨ k = 4 ∨ k = 5 ∨ k = 6 ∨ k = 7 ∨ k = 8 ∨ k = 9 := by omega
    all_goals rfl
  unfold flag
  rw [Rs.flagF, h3, e, if_neg (by omega), if_neg (by omega), if_pos ⟨rfl, hn⟩, g2, e, Nat.add_sub_cancel_left, Rs.flagF, (dr_nil h4).2, nxt_nil _ h4]
  simp [dr_end h4 hi]
  omega
def scS (w o fl : List UInt8) : List UInt8 := 115 :: 47 :: (w ++ 47 :: (o ++ 47 :: fl))
theorem skip_none (s t : ByteArray) (i : Nat) (h : Rs.nxt s t i = false) : Rs.skip s t i = i := by
  unfold Rs.skip
  cases s.size - i with
  | zero => rfl
  | succ f => rw [Rs.skipF, if_neg (by rw [h]; simp)]
theorem read_S (w o fl : List UInt8) (num : Nat) (all : Bool) (hw : Wd w) (ho : Lt o) (ho3 : o.length ≤ 3) (hfl : fl.length ≤ 1) (hf : flag (scS w o fl) (w.length + o.length + 4) num all) : readR (txt (scS w o fl)) = ([cmS (txt w) (pcs o) num all], 0, 0) := by
  have hw3 := hw.le
  have hlen : (scS w o fl).length = w.length + o.length + 4 + fl.length := by
    unfold scS
    simp only [List.length_cons, List.length_append]
    omega
  have hL0 : (scS w o fl).drop 0 = 115 :: 47 :: (w ++ 47 :: (o ++ 47 :: fl)) := rfl
  obtain ⟨a1, a2, a3, a4⟩ := dr_cons hL0
  obtain ⟨b1, b2, b3, b4⟩ := dr_cons a4
  have hp := pat_w hw b4
  have c4 := (dr_cons (dr_skip b4)).2.2.2
  have htm := temp_w (L := scS w o fl) (grps (txt w)) o fl ((txt (scS w o fl)).size + 1) (0 + 1 + 1 + w.length + 1) [] ho c4 (by rw [txt_size]; omega)
  have hend : (scS w o fl).drop (scS w o fl).length = [] := List.drop_length
  generalize hL : scS w o fl = L at *
  have hput : Rs.putF (txt L) 1 (-1) { Rs.cm0 with kind := 19 } = (L.length, cmS (txt w) (pcs o) num all, -1, true) := by
    have hp2 : Rs.patF (txt L) (1 + 1) (-1) = (0 + 1 + 1 + w.length + 1, txt w, -1, true) := hp
    have b5 : pk (txt L) 1 = 47 := b3
    unfold Rs.putF
    rw [if_pos b5]
    simp only [hp2]
    rw [if_pos trivial]
    unfold Rs.tempF
    simp only [htm]
    rw [if_pos trivial]
    unfold flag at hf
    have e : 0 + 1 + 1 + w.length + 1 + o.length + 1 = w.length + o.length + 4 := by omega
    rw [e, hf]
    rfl
  have hadr : Rs.addrF (txt L) 0 (-1) = (0, Rs.wh0, Rs.wh0, -1, true) := by
    unfold Rs.addrF
    have : Rs.nxt (txt L) Rs.starters 0 = false := by
      unfold Rs.nxt
      rw [a2]
      simp only [a1, decide_true, Bool.true_and]
      rfl
    rw [if_neg (by rw [this]; simp)]
  have hnl : Rs.nxt (txt L) Rs.letters 0 = true := by
    unfold Rs.nxt
    rw [a2]
    simp only [a1, decide_true, Bool.true_and]
    rfl
  have hk : Rs.kindF (byt (txt L) 0) = 19 := by rw [a2]; rfl
  have hcom : Rs.commandF (Rs.rowN (txt L) 6) (txt L) ⟨0, 0, [], [], -1⟩ = (⟨L.length, 0, [cmS (txt w) (pcs o) num all], [], -1⟩, true) := by
    unfold Rs.commandF
    simp only [hadr]
    rw [if_pos trivial, a3, if_neg (by decide), if_neg (by decide)]
    unfold Rs.whatF
    simp only [hnl, hk]
    simp
    have hput' : Rs.putF (txt L) 1 (-1) { kind := 19, fst := Rs.wh0, snd := Rs.wh0, neg := Rs.cm0.neg, goal := Rs.cm0.goal, text := Rs.cm0.text, pat := Rs.cm0.pat, temp := Rs.cm0.temp, num := Rs.cm0.num, all := Rs.cm0.all, prt := Rs.cm0.prt, frm := Rs.cm0.frm, too := Rs.cm0.too } = (L.length, cmS (txt w) (pcs o) num all, -1, true) := hput
    rw [hput']
    simp
  have hrow : Rs.rowsOf (txt L) = (⟨L.length, 0, [cmS (txt w) (pcs o) num all], [], -1⟩, true) := by
    unfold Rs.rowsOf
    show Rs.rowF (Rs.rowN (txt L) 6) (txt L) _ = _
    unfold Rs.rowF
    have s0 : Rs.skip (txt L) Rs.between 0 = 0 := skip_none _ _ _ (by
      unfold Rs.nxt
      rw [a2]
      simp only [a1, decide_true, Bool.true_and]
      rfl)
    have s1 : Rs.skip (txt L) Rs.blank L.length = L.length := skip_none _ _ _ (nxt_nil _ hend)
    have s2 : Rs.skip (txt L) Rs.between L.length = L.length := skip_none _ _ _ (nxt_nil _ hend)
    obtain ⟨f, hf'⟩ : ∃ f, (txt L).size = f + 1 := ⟨(txt L).size - 1, by omega⟩
    rw [hf', Rs.rowL']
    simp only [s0]
    rw [if_neg (by
      rintro (h | h)
      · rw [a3] at h
        exact absurd h (by decide)
      · unfold Rs.closesF at h
        simp at h)]
    rw [hcom]
    simp only [s1]
    rw [if_pos trivial, if_pos (.inl (dr_nil hend).2), Rs.rowL']
    simp only [s2]
    rw [if_pos (.inl (dr_nil hend).2)]
  unfold readR
  rw [hrow, if_neg (by rw [txt_size]; omega), if_neg (by simp), if_neg (by simp)]
  rfl
end Ee
end Go.Proofs.YtppjlpihaocdiabGreatDoor

set_option linter.unusedSimpArgs false
set_option linter.unusedVariables false
namespace Go.Proofs.YtppjlpihaocdiabGreatDoor
namespace Ee
open Rs (Cm Wh Pc readR grps failAt)
section
variable {mf : Mf}
theorem repl_is (hm : MfOk mf) (s w o : List UInt8) (h : Wd w) (num : Nat) (all : Bool) (hn : 1 ≤ num) : ((repl mf (cmS (txt w) (pcs o) num all) (txt s)).2 = true ∧ (repl mf (cmS (txt w) (pcs o) num all) (txt s)).1 = txt (sc w o (pick9 num all) s.length 0 s)) ∨ ((repl mf (cmS (txt w) (pcs o) num all) (txt s)).2 = false ∧ sc w o (pick9 num all) s.length 0 s = s) := by
  obtain ⟨n', e1, e2, e3⟩ := repl_w hm s w o h num all hn ((txt s).size + 3) 0 0 0 [] (by rw [txt_size]; omega) (Nat.le_refl _) (Nat.zero_le _) (fun _ => trivial) (fun hx => by omega)
  simp only [Nat.sub_zero, List.drop_zero, List.take_zero, List.append_nil, List.nil_append, Nat.sub_self] at e1 e3
  unfold repl
  have e1' : replL mf (cmS (txt w) (pcs o) num all) (txt s) ((txt s).size + 3) (mf (cmS (txt w) (pcs o) num all).pat (txt s) 0) 0 0 [] = (sc w o (pick9 num all) s.length 0 s, n') := e1
  rw [e1']
  by_cases hx : num ≤ n'
  · exact .inl ⟨decide_eq_true hx, rfl⟩
  · exact .inr ⟨decide_eq_false hx, e3 (by omega)⟩
theorem makes_S (hm : MfOk mf) (s w o fl : List UInt8) (num : Nat) (all : Bool) (h : Wd w) (ho : Lt o) (ho3 : o.length ≤ 3) (hs : ∀ b ∈ s, b ≠ 10) (hs2 : s.length ≤ 24) (hn : 1 ≤ num) (hr : readR (txt (scS w o fl)) = ([cmS (txt w) (pcs o) num all], 0, 0)) :
    Makes mf (txt (scS w o fl)) false (s ++ [10]) (sc w o (pick9 num all) s.length 0 s ++ [10]) := by
  refine ⟨opens_of hr _ _ _ alw_wide, ?_⟩
  have ec : cfO (txt (scS w o fl)) 80 80 1000 false = ⟨80, 80, 1000, false, [cmS (txt w) (pcs o) num all]⟩ := cf_of hr 80 80 1000 false
  have hz := sc_len w o (pick9 num all) h.pos ho3 s.length 0 s
  unfold made fin
  rw [ec]
  have hrp := repl_is hm s w o h num all hn
  obtain ⟨c, hc⟩ : ∃ c, c = cmS (txt w) (pcs o) num all := ⟨_, rfl⟩
  have hk : c.kind = 19 := by rw [hc]; rfl
  have hf1 : c.fst = ⟨0, 0, emp⟩ := by rw [hc]; rfl
  have hf2 : c.snd = ⟨0, 0, emp⟩ := by rw [hc]; rfl
  have hf3 : c.neg = false := by rw [hc]; rfl
  have hf4 : c.prt = false := by rw [hc]; rfl
  rw [← hc] at hrp ⊢
  clear hc ec hr
  generalize hR : sc w o (pick9 num all) s.length 0 s = R at *
  have hsub : ∃ b : Bool, Ed.subst mf ⟨80, 80, 1000, false, [c]⟩ { rd (ed0 ⟨80, 80, 1000, false, [c]⟩) s with looked := 1, stage := 3 } c = some { rd (ed0 ⟨80, 80, 1000, false, [c]⟩) s with looked := 1, stage := 3, pat := txt R, put := b } := by
    have hsz : ¬ 80 < (txt R).size := by rw [txt_size]; omega
    rcases hrp with ⟨r1, r2⟩ | ⟨r1, r2⟩
    · refine ⟨true, ?_⟩
      simp [Ed.subst, rd, r1, r2, Ed.become, hsz, hf4]
    · refine ⟨false, ?_⟩
      simp [Ed.subst, rd, r1, r2]
  obtain ⟨b, hsub⟩ := hsub
  have hco : Ed.command mf ⟨80, 80, 1000, false, [c]⟩ { rd (ed0 ⟨80, 80, 1000, false, [c]⟩) s with stage := 1 } = ({ rd (ed0 ⟨80, 80, 1000, false, [c]⟩) s with looked := 1, stage := 3, at' := 1, pat := txt R, put := b }, 1) := by
    have e0 : Ed.command mf ⟨80, 80, 1000, false, [c]⟩ { rd (ed0 ⟨80, 80, 1000, false, [c]⟩) s with stage := 1 } = match Ed.subst mf ⟨80, 80, 1000, false, [c]⟩ { rd (ed0 ⟨80, 80, 1000, false, [c]⟩) s with looked := 1, stage := 3 } c with
      | none => ({ rd (ed0 ⟨80, 80, 1000, false, [c]⟩) s with looked := 1, stage := 3, state := 4 }, 0)
      | some E1 => ({ E1 with at' := E1.at' + 1 }, 1) := by
      simp only [Ed.command, Ed.choose, Ed.selects, Ed.meets, Ed.doIt, Ed.edit, Ed.jump, Ed.stop, rd, ed0, hf1, hf2, hf3, hk]
      simp [hk, hf1, hf2, hf3]
      generalize Ed.subst mf _ _ _ = q
      cases q <;> rfl
    rw [e0, hsub]
    rfl
  rw [line_fed (ed0 _) (ed0_rz _) s ⟨hs, by show s.length ≤ 80; omega, by show s.length ≤ 80; omega⟩]
  rw [show (9999 : Nat) = 9998 + 1 from rfl, w1_cmd _ _ (by simp [rd]), show (9998 : Nat) = 9997 + 1 from rfl, w2_1 _ _ _ hco]
  rw [show (9997 : Nat) = 9996 + 1 from rfl, w1_end _ _ rfl, show (9996 : Nat) = 9995 + 1 from rfl, w3, show (9995 : Nat) = 9994 + 1 from rfl, w4 _ _ (by simp [Ed.printSpace, Ed.print, Ed.printComing, Ed.printAll, rd, ed0]), show (9994 : Nat) = 9993 + 1 from rfl, w0_wait _ _ (by simp [Ed.printSpace, Ed.print, Ed.printComing, Ed.printAll, Ed.atHand, Ed.tooLong, rd, ed0])]
  rw [end_none _ ⟨by simp [Ed.printSpace, Ed.print, Ed.printComing, Ed.printAll, rd, ed0], by simp [Ed.printSpace, Ed.print, Ed.printComing, Ed.printAll, rd, ed0], by simp [Ed.printSpace, Ed.print, Ed.printComing, Ed.printAll, rd, ed0], rfl, by simp [Ed.printSpace, Ed.print, Ed.printComing, Ed.printAll, rd, ed0]⟩]
  simp [Ed.printSpace, Ed.print, Ed.printComing, Ed.printAll, rd, ed0, row_txt]
/- There and back. -/
def cmY : Cm := { cmK 20 with frm := ⟨#[97, 98, 99, 100]⟩, too := ⟨#[100, 99, 98, 97]⟩ }
def scY : ByteArray := ⟨#[121, 47, 97, 98, 99, 100, 47, 100, 99, 98, 97, 47, 59, 121, 47, 97, 98, 99, 100, 47, 100, 99, 98, 97, 47]⟩
theorem read_scY : readR scY = ([cmY, cmY], 0, 0) := by rfl
def cY : Cf := ⟨80, 80, 1000, false, [cmY, cmY]⟩
def fl1 (b : UInt8) : UInt8 := trans1 ⟨#[97, 98, 99, 100]⟩ ⟨#[100, 99, 98, 97]⟩ b
theorem fl_fl {b : UInt8} (h : b = 97 ∨ b = 98 ∨ b = 99 ∨ b = 100) : fl1 (fl1 b) = b := by
  rcases h with rfl | rfl | rfl | rfl <;> rfl
theorem makes_Y (s : List UInt8) (h : Lt s) (hs : ∀ b ∈ s, b ≠ 10) (hs2 : s.length ≤ 24) : Makes mf scY false (s ++ [10]) (s ++ [10]) := by
  refine ⟨opens_of read_scY _ _ _ alw_wide, ?_⟩
  have ec : cfO scY 80 80 1000 false = cY := cf_of read_scY 80 80 1000 false
  have t1 : ∀ l : List UInt8, trans ⟨#[97, 98, 99, 100]⟩ ⟨#[100, 99, 98, 97]⟩ (txt l) = txt (l.map fl1) := fun l => by
    unfold trans
    rw [row_txt]
    rfl
  have t2 : (s.map fl1).map fl1 = s := by
    rw [List.map_map]
    conv => rhs; rw [← List.map_id s]
    exact List.map_congr_left fun b hb => fl_fl (h b hb)
  unfold made fin
  rw [ec, line_fed (ed0 cY) (ed0_rz cY) s ⟨hs, by show s.length ≤ 80; omega, by show s.length ≤ 80; omega⟩]
  rw [show (9999 : Nat) = 9998 + 1 from rfl, w1_cmd _ _ (by simp [rd, cY])]
  rw [show (9998 : Nat) = 9997 + 1 from rfl, w2_1 _ _ ⟨[], false, false, 1, txt (s.map fl1), emp, [], 0, [], [false, false], 1, 3, 1, false, 0⟩ (by
    simp [Ed.command, Ed.choose, Ed.selects, Ed.meets, Ed.jump, Ed.doIt, Ed.edit, cmK, cmY, rd, cY, ed0, t1])]
  rw [show (9997 : Nat) = 9996 + 1 from rfl, w1_cmd _ _ (by simp [cY])]
  rw [show (9996 : Nat) = 9995 + 1 from rfl, w2_1 _ _ ⟨[], false, false, 1, txt s, emp, [], 0, [], [false, false], 2, 3, 2, false, 0⟩ (by
    simp only [Ed.command, Ed.choose, Ed.selects, Ed.meets, Ed.jump, Ed.doIt, Ed.edit, cmK, cmY, cY]
    simp [t1, t2])]
  rw [show (9995 : Nat) = 9994 + 1 from rfl, w1_end _ _ rfl, show (9994 : Nat) = 9993 + 1 from rfl, w3]
  rw [show (9993 : Nat) = 9992 + 1 from rfl, w4 _ _ (by simp [Ed.printSpace, cY, Ed.print, Ed.printComing, Ed.printAll]), show (9992 : Nat) = 9991 + 1 from rfl, w0_wait _ _ (by simp [Ed.printSpace, cY, Ed.print, Ed.printComing, Ed.printAll, Ed.atHand, Ed.tooLong])]
  rw [end_none _ ⟨by simp [Ed.printSpace, cY, Ed.print, Ed.printComing, Ed.printAll], by simp [Ed.printSpace, cY, Ed.print, Ed.printComing, Ed.printAll], by simp [Ed.printSpace, cY, Ed.print, Ed.printComing, Ed.printAll], rfl, by simp [Ed.printSpace, cY, Ed.print, Ed.printComing, Ed.printAll]⟩]
  simp [Ed.printSpace, cY, Ed.print, Ed.printComing, Ed.printAll, row_txt]
end
end Ee
end Go.Proofs.YtppjlpihaocdiabGreatDoor

set_option linter.unusedSimpArgs false
set_option linter.unusedVariables false
namespace Go.Proofs.YtppjlpihaocdiabGreatDoor
namespace Ee
open Rs (Cm Wh Pc readR grps failAt)
theorem sc_miss (w o : List UInt8) (f : Nat → Bool) (s : List UInt8) (i n : Nat) (hi : i < s.length) (h : hit s w i = false) : sc w o f (s.length - i) n (s.drop i) = s[i] :: sc w o f (s.length - (i + 1)) n (s.drop (i + 1)) := by
  obtain ⟨k, hk⟩ : ∃ k, s.length - i = k + 1 := ⟨s.length - i - 1, by omega⟩
  have hk2 : s.length - (i + 1) = k := by omega
  unfold hit at h
  rw [List.drop_eq_getElem_cons hi] at h
  rw [hk, hk2, List.drop_eq_getElem_cons hi, sc, if_neg (by rw [h]; simp)]
theorem sc_hit (w o : List UInt8) (f : Nat → Bool) (hw : w ≠ []) (s : List UInt8) (i n : Nat) (h : hit s w i = true) : i + w.length ≤ s.length ∧ sc w o f (s.length - i) n (s.drop i) = (if f (n + 1) = true then o else w) ++ sc w o f (s.length - (i + w.length)) (n + 1) (s.drop (i + w.length)) := by
  have hp : 0 < w.length := List.length_pos_iff.2 hw
  have hle := hit_le h hw
  have hi : i < s.length := by omega
  obtain ⟨k, hk⟩ : ∃ k, s.length - i = k + 1 := ⟨s.length - i - 1, by omega⟩
  refine ⟨hle, ?_⟩
  unfold hit at h
  rw [List.drop_eq_getElem_cons hi] at h
  rw [hk, List.drop_eq_getElem_cons hi, sc, if_pos h, ← List.drop_eq_getElem_cons hi, List.drop_drop, sc_more w o f hw k (s.length - (i + w.length)) (n + 1) _ (by rw [List.length_drop]; omega) (by rw [List.length_drop]; omega)]
structure Rpl (s w o : List UInt8) (k i n : Nat) (A B C : ByteArray) : Prop where
  le : i ≤ s.length
  nle : n ≤ i
  a : row A ++ sc w o (pick9 1 true) (s.length - i) n (s.drop i) = sc w o (pick9 1 true) s.length 0 s
  b : row B ++ sc w o (pick9 1 false) (s.length - i) n (s.drop i) = sc w o (pick9 1 false) s.length 0 s
  c : row C ++ sc w o (pick9 k false) (s.length - i) n (s.drop i) = sc w o (pick9 k false) s.length 0 s
theorem row_ap (a b : ByteArray) : row (a ++ b) = row a ++ row b := by simp [row]
theorem Rpl.zero (s w o : List UInt8) (k : Nat) : Rpl s w o k 0 0 ⟨#[]⟩ ⟨#[]⟩ ⟨#[]⟩ := ⟨Nat.zero_le _, Nat.le_refl _, by simp [row], by simp [row], by simp [row]⟩
theorem Rpl.miss {s w o : List UInt8} {k i n : Nat} {A B C : ByteArray} (h : Rpl s w o k i n A B C) (hi : i < s.length) (hh : hit s w i = false) : Rpl s w o k (i + 1) n (A ++ txt [s[i]]) (B ++ txt [s[i]]) (C ++ txt [s[i]]) := by
  refine ⟨by omega, Nat.le_succ_of_le h.nle, ?_, ?_, ?_⟩
  · rw [row_ap, row_txt, ← h.a, sc_miss w o _ s i n hi hh]
    simp
  · rw [row_ap, row_txt, ← h.b, sc_miss w o _ s i n hi hh]
    simp
  · rw [row_ap, row_txt, ← h.c, sc_miss w o _ s i n hi hh]
    simp
theorem Rpl.hit {s w o : List UInt8} {k i n : Nat} {A B C B' C' : ByteArray} (h : Rpl s w o k i n A B C) (hw : w ≠ []) (hh : Ee.hit s w i = true) (hB : B' = B ++ (if n + 1 = 1 then txt o else txt w)) (hC : C' = C ++ (if n + 1 = k then txt o else txt w)) : Rpl s w o k (i + w.length) (n + 1) (A ++ txt o) B' C' := by
  have hp : 0 < w.length := List.length_pos_iff.2 hw
  have hn := h.nle
  refine ⟨(sc_hit w o (pick9 1 true) hw s i n hh).1, by omega, ?_, ?_, ?_⟩
  · rw [row_ap, row_txt, ← h.a, (sc_hit w o (pick9 1 true) hw s i n hh).2, if_pos (by unfold pick9; simp)]
    simp
  · rw [hB, row_ap, ← h.b, (sc_hit w o (pick9 1 false) hw s i n hh).2]
    by_cases e : n + 1 = 1
    · rw [if_pos e, if_pos (by unfold pick9; simp; omega), row_txt]
      simp
    · rw [if_neg e, if_neg (by unfold pick9; simp; omega), row_txt]
      simp
  · rw [hC, row_ap, ← h.c, (sc_hit w o (pick9 k false) hw s i n hh).2]
    by_cases e : n + 1 = k
    · rw [if_pos e, if_pos (by unfold pick9; simp [e]), row_txt]
      simp
    · rw [if_neg e, if_neg (by unfold pick9; simp [e]), row_txt]
      simp
theorem Rpl.small {s w o : List UInt8} {k i n : Nat} {A B C : ByteArray} (h : Rpl s w o k i n A B C) (hw : w ≠ []) (ho : o.length ≤ 3) (hs : s.length ≤ 24) : A.size ≤ 72 ∧ B.size ≤ 72 ∧ C.size ≤ 72 := by
  have ha := congrArg List.length h.a
  have hb := congrArg List.length h.b
  have hc := congrArg List.length h.c
  have la := sc_len w o (pick9 1 true) hw ho s.length 0 s
  have lb := sc_len w o (pick9 1 false) hw ho s.length 0 s
  have lc := sc_len w o (pick9 k false) hw ho s.length 0 s
  rw [List.length_append] at ha hb hc
  have ea : (row A).length = A.size := by simp [row]
  have eb : (row B).length = B.size := by simp [row]
  have ec : (row C).length = C.size := by simp [row]
  omega
theorem Rpl.done {s w o : List UInt8} {k n : Nat} {A B C : ByteArray} (h : Rpl s w o k s.length n A B C) : row A = sc w o (pick9 1 true) s.length 0 s ∧ row B = sc w o (pick9 1 false) s.length 0 s ∧ row C = sc w o (pick9 k false) s.length 0 s := by
  have ha := h.a
  have hb := h.b
  have hc := h.c
  rw [List.drop_length, Nat.sub_self] at ha hb hc
  simp only [sc, List.append_nil] at ha hb hc
  exact ⟨ha, hb, hc⟩
end Ee
end Go.Proofs.YtppjlpihaocdiabGreatDoor

set_option linter.unusedSimpArgs false
set_option linter.unusedVariables false
namespace Go.Proofs.YtppjlpihaocdiabGreatDoor
namespace Ee
open Go.RowKit
set_option maxHeartbeats 1000000 in
theorem pick_p (c : Int) (n : Nat) (w : World) (hc : -9223372036854775808 ≤ c) (hc2 : c ≤ 9223372036854775807) (hn : 0 < n) (hn2 : n ≤ 1000) :
    Calls Tryz.prog 11 #[.int .i64 c, .int .i64 (n : Int)] w fun e w' => ∃ k : Nat, k < n ∧ e = .returned (.int .i64 (k : Int)) ∧ w' = w := by
  have key : ∀ x : Int, 0 ≤ x → ∃ k : Nat, k < n ∧ Int.tmod x (n : Int) = (k : Int) := fun x hx => ⟨(x % n).toNat, by have := Int.emod_lt_of_pos x (by omega : (0 : Int) < n); have := Int.emod_nonneg x (by omega : (n : Int) ≠ 0); omega, by rw [Int.tmod_eq_emod_of_nonneg hx]; have := Int.emod_nonneg x (by omega : (n : Int) ≠ 0); omega⟩
  have q0 : ((n : Int) == 0) = false := by simp; omega
  have q9 : ¬ ((n : Int) = 0) := by omega
  by_cases h : c < 0
  · have q1 : decide (c < 0) = true := by simpa using h
    obtain ⟨k, hk, hkm⟩ := key (-(c + 1)) (by omega)
    go_enter Tryz.func11, Tryz.ntmps11
    go_wp2_with fail
    go_ret
    exact ⟨k, hk, by simp [hkm], rfl⟩
  · have q1 : decide (c < 0) = false := by simpa using h
    obtain ⟨k, hk, hkm⟩ := key c (by omega)
    go_enter Tryz.func11, Tryz.ntmps11
    go_wp2_with fail
    go_ret
    exact ⟨k, hk, by simp [hkm], rfl⟩
end Ee
end Go.Proofs.YtppjlpihaocdiabGreatDoor

set_option linter.unusedSimpArgs false
set_option linter.unusedVariables false
namespace Go.Proofs.YtppjlpihaocdiabGreatDoor
open Go.RowKit
theorem Tryz.info5 : (Tryz.prog.info? 5).map (fun i => (i.zero, i.size, i.bytes)) = some (some (.int .u8 0), 1, 1) := by kernel_rfl
def Lets (t : ByteArray) (n : Nat) : Prop := 1 ≤ t.size ∧ t.size ≤ n ∧ ∀ q, q < t.size → 97 ≤ byt t q ∧ byt t q ≤ 100
set_option maxHeartbeats 1000000 in
theorem word_any (s : ByteArray) (n : Nat) (w : World) (hs : s.size ≤ maxLen) (hn : 1 ≤ n) (hn2 : n ≤ 40) :
    Calls Tryz.prog 10 #[.string s, .int .i64 n] w fun e w' => ∃ t, e = .returned (.string t) ∧ Lets t n ∧ Below w.heap.size w w' := by
  unfold maxLen at hs
  obtain ⟨i0, hi0, hz0, hz1, hz2⟩ := info_parts Tryz.info5
  go_enter Tryz.func10, Tryz.ntmps10
  go_wp2_with fail
  go_loopw [5, 6] (fun bv iv wr => ∃ (i : Nat) (zs : List Nat), i ≤ s.size ∧ zs.length ≤ n ∧ iv = .int .i64 i ∧ Hid (wr.ownsRow w.heap.size 5 1 bv zs.length (zs.map fun z : Nat => Value.int .u8 (z : Int))) ∧ Hid (∀ z ∈ zs, 97 ≤ z ∧ z ≤ 100) ∧ Hid (Below w.heap.size w wr)) (fun _ iv _ => s.size + 1 - (intOf iv).toNat)
  case atStart => exact ⟨0, [], Nat.zero_le _, Nat.zero_le _, rfl, World.ownsRow_nil _ _ _ _, (fun z h => absurd h (by simp)), Below.refl _ _⟩
  case round =>
    obtain ⟨i, zs, hi, hzn, rfl, HO, HL, HB⟩ := hrel
    have hlenv : ∃ ao cap, u5 = .slice ao zs.length cap := by
      rcases HO.out.2 with ⟨e, e2⟩ | ⟨g', cap', cur, hv, _⟩
      · exact ⟨none, 0, by rw [e, e2]⟩
      · exact ⟨_, _, hv⟩
    obtain ⟨ao, cap0, rfl⟩ := hlenv
    have hszB := HB.out.size
    have HEnd : Hid (zs = [] ∨ ∃ t, (∀ W, W = wr → Sem.run Tryz.prog (convert 25 9 (.slice ao zs.length cap0)) W = .ok (.string t) W) ∧ Lets t n) := by
      by_cases hz : zs = []
      · exact .inl hz
      · right
        have hz1 : 1 ≤ zs.length := by cases zs with | nil => exact absurd rfl hz | cons a l => simp
        rcases HO.out.2 with ⟨e, e2⟩ | ⟨g', cap', cur, hv, hg, hh, _, _, _, ht⟩
        · omega
        · cases hv
          refine ⟨strOfNums (zs.map fun z : Nat => (z : Int)), fun W hW => ?_, ?_⟩
          · subst hW
            refine run_convert_bytes_arg (P := Tryz.prog) _ 25 5 Tryz.underlying25 Tryz.underlying5 g' 0 zs.length cap0 (zs.map fun z : Nat => (z : Int)) (by simp) (fun q hq => ?_) 9 Tryz.underlying9
            rw [cell_of_row _ g' (0 + q) cur 5 (0, 0) hh]
            have : cur.toList[q]? = some (.int .u8 ((zs[q] : Nat) : Int)) := by
              have h0 : (cur.toList.take (zs.length * 1))[q]? = some (.int .u8 ((zs[q] : Nat) : Int)) := by rw [ht, List.getElem?_map, List.getElem?_eq_getElem hq]; rfl
              rw [List.getElem?_take] at h0
              split at h0
              · exact h0
              · cases h0
            rw [Nat.zero_add]
            simp only [List.getD_eq_getElem?_getD, List.getElem?_map, List.getElem?_eq_getElem hq]
            simpa using this
          · have hsz : (strOfNums (zs.map fun z : Nat => (z : Int))).size = zs.length := by rw [strOfNums_size]; simp
            refine ⟨by omega, by omega, fun q hq => ?_⟩
            rw [hsz] at hq
            have hb : byt (strOfNums (zs.map fun z : Nat => (z : Int))) q = zs[q] := by
              unfold byt
              rw [strOfNums_data, List.getD_eq_getElem?_getD]
              simp only [List.getElem?_map, List.getElem?_eq_getElem hq, Option.map_some, Option.getD_some]
              have := HL.out zs[q] (List.getElem_mem hq)
              simp
              omega
            rw [hb]
            exact HL.out _ (List.getElem_mem hq)
    by_cases hlt : i < s.size
    · by_cases hlt2 : zs.length < n
      · have hy := byt_lt s i
        have hyi : ((s[i]'hlt).toNat : Int) = (byt s i : Int) := byt_int s i hlt
        have hbb : (s[i]'hlt).toNat < 256 := UInt8.toNat_lt _
        go_wp2_with (at_builtin; (refine wpList_append_lies _ rfl _ _ 25 rfl w.heap.size 5 i0 (.int .u8 0) 1 1 Tryz.underlying25 hi0 hz0 hz1 hz2 rfl (by omega) (.slice ao zs.length cap0) zs.length (zs.map fun z : Nat => Value.int .u8 (z : Int)) rfl (HO.out.alloc _) ⟨wr.heap.size, 0, none⟩ 1 1 [.int .u8 (97 + (byt s i : Int) % 4)] rfl rfl (cell_one_new _ _ _) (fun x hx => by simp at hx; subst hx; rfl) (by omega) (by unfold maxLen; omega) (by omega) (by simp; omega) (wr.heap.size + 1) (by simp) ?_; intro gg cap w2 hown2 hgrow hat hlt9))
        have HO2 : Hid (w2.ownsRow w.heap.size 5 1 (.slice (some ⟨gg, 0, none⟩) (zs.length + 1) cap) (zs ++ [97 + byt s i % 4]).length ((zs ++ [97 + byt s i % 4]).map fun z : Nat => Value.int .u8 (z : Int))) := by
          rw [List.map_append, List.length_append]
          have e : ((97 + byt s i % 4 : Nat) : Int) = 97 + (byt s i : Int) % 4 := by omega
          simp only [List.map_cons, List.map_nil, e, List.length_singleton]
          exact hown2
        have HB2 : Hid (Below w.heap.size w w2) := by
          have hsz2 := hgrow.size
          have ha : (wr.alloc (.cells #[.int .u8 (97 + (byt s i : Int) % 4)] 5)).heap.size = wr.heap.size + 1 := by simp
          refine ⟨hgrow.os.trans HB.out.os, hgrow.tape.trans HB.out.tape, hgrow.output.trans HB.out.output, by omega, fun k hk => ?_⟩
          rw [hgrow.block k (by omega) (fun e => by have := (HO.out.lt k e.symm).1; omega), Below.heap_alloc _ _ _ (by omega)]
          exact HB.out.block k hk
        have HL2 : Hid (∀ z ∈ zs ++ [97 + byt s i % 4], 97 ≤ z ∧ z ≤ 100) := fun z hz => by
          rcases List.mem_append.1 hz with hz | hz
          · exact HL.out z hz
          · have : z = 97 + byt s i % 4 := by simpa using hz
            omega
        clear hown2 hgrow hat hlt9
        go_wp2_with fail
        go_roundw
        case rel => exact ⟨i + 1, zs ++ [97 + byt s i % 4], hlt, by simp; omega, by go_num, HO2.out, HL2.out, HB2.out⟩
        case measure => simp [intOf]; omega
      · have hd : decide ((zs.length : Int) < (n : Int)) = false := by simp; omega
        have hz1 : ((zs.length : Int) == 0) = false := by rw [beq_eq_false_iff_ne]; omega
        rcases HEnd.out with h | ⟨t, hcv, hlets⟩
        · rw [h] at hlt2; simp at hlt2; omega
        · have hcv' := hcv wr rfl
          have HLt : Hid (Lets t n) := hlets
          clear hcv hlets HEnd
          go_wp2_with fail
          go_ret
          exact ⟨t, rfl, HLt.out, HB.out⟩
    · have hd : decide ((i : Int) < (s.size : Int)) = false := by simp; omega
      rcases HEnd.out with h | ⟨t, hcv, hlets⟩
      · subst h
        clear HEnd
        go_wp2_with fail
        go_ret
        exact ⟨_, rfl, ⟨by decide, by show 1 ≤ n; omega, fun q hq => by
          have : q = 0 := by
            have : q < 1 := hq
            omega
          subst this
          exact ⟨by decide, by decide⟩⟩, HB.out⟩
      · by_cases hze : zs.length = 0
        · have hz0' : ((zs.length : Int) == 0) = true := by rw [beq_iff_eq]; omega
          clear HEnd hcv
          go_wp2_with fail
          go_ret
          exact ⟨_, rfl, ⟨by decide, by show 1 ≤ n; omega, fun q hq => by
            have : q = 0 := by
              have : q < 1 := hq
              omega
            subst this
            exact ⟨by decide, by decide⟩⟩, HB.out⟩
        · have hz1 : ((zs.length : Int) == 0) = false := by rw [beq_eq_false_iff_ne]; omega
          have hcv' := hcv wr rfl
          have HLt : Hid (Lets t n) := hlets
          clear hcv hlets HEnd
          go_wp2_with fail
          go_ret
          exact ⟨t, rfl, HLt.out, HB.out⟩
def InAt (s t : ByteArray) (i : Nat) : Prop := i + t.size ≤ s.size ∧ ∀ q, q < t.size → byt s (i + q) = byt t q
theorem in_at_beq (s t : ByteArray) (i : Nat) (h : i + t.size ≤ s.size) : ((s.extract i (i + t.size)).toList == t.toList) = true ↔ InAt s t i := by
  have hss : s.data.toList.length = s.size := rfl
  have hts : t.data.toList.length = t.size := rfl
  rw [beq_iff_eq, ByteArray.toList_eq, ByteArray.toList_eq, Lib.extract_data, show i + t.size - i = t.size by omega]
  constructor
  · intro he
    refine ⟨h, fun q hq => ?_⟩
    unfold byt
    have h0 : ((s.data.toList.drop i).take t.size)[q]? = t.data.toList[q]? := by rw [he]
    rw [List.getElem?_take, if_pos hq, List.getElem?_drop] at h0
    rw [List.getD_eq_getElem?_getD, List.getD_eq_getElem?_getD, h0]
  · rintro ⟨_, hb⟩
    apply List.ext_getElem?
    intro q
    rw [List.getElem?_take]
    by_cases hq : q < t.size
    · rw [if_pos hq, List.getElem?_drop]
      have h1 := hb q hq
      unfold byt at h1
      rw [List.getD_eq_getElem?_getD, List.getD_eq_getElem?_getD, List.getElem?_eq_getElem (by omega), List.getElem?_eq_getElem (by omega)] at h1
      rw [List.getElem?_eq_getElem (by omega), List.getElem?_eq_getElem (by omega)]
      simp only [Option.getD_some] at h1
      rw [UInt8.toNat_inj.1 h1]
    · rw [if_neg hq, List.getElem?_eq_none (by omega)]
set_option maxHeartbeats 1000000 in
theorem at_any (s t : ByteArray) (i : Nat) (w : World) (hs : s.size ≤ 1000) (ht : t.size ≤ 1000) (hi : i ≤ 1000) :
    Calls Tryz.prog 12 #[.string s, .string t, .int .i64 i] w fun e w' => ∃ q : Bool, e = .returned (.bool q) ∧ (q = true ↔ InAt s t i) ∧ w' = w := by
  by_cases h : i + t.size ≤ s.size
  · have h1 : decide ((i : Int) + (t.size : Int) ≤ (s.size : Int)) = true := by simp; omega
    go_enter Tryz.func12, Tryz.ntmps12
    go_wp2_with fail
    go_ret
    exact ⟨_, rfl, in_at_beq s t i h, rfl⟩
  · have h1 : decide ((i : Int) + (t.size : Int) ≤ (s.size : Int)) = false := by simp; omega
    go_enter Tryz.func12, Tryz.ntmps12
    go_wp2_with fail
    go_ret
    exact ⟨false, rfl, ⟨(fun h => by cases h), (fun hh => absurd hh.1 h)⟩, rfl⟩
end Go.Proofs.YtppjlpihaocdiabGreatDoor

set_option linter.unusedSimpArgs false
set_option linter.unusedVariables false
namespace Go.Proofs.YtppjlpihaocdiabGreatDoor
namespace Ee
open Go.RowKit
open Rs (Cm Wh Pc own_of CmdsIn readR)
theorem letter_of {b : UInt8} (h1 : 97 ≤ b.toNat) (h2 : b.toNat ≤ 100) : b = 97 ∨ b = 98 ∨ b = 99 ∨ b = 100 := by
  obtain e | e | e | e : b.toNat = 97 ∨ b.toNat = 98 ∨ b.toNat = 99 ∨ b.toNat = 100 := by omega
  · exact .inl (UInt8.toNat_inj.1 e)
  · exact .inr (.inl (UInt8.toNat_inj.1 e))
  · exact .inr (.inr (.inl (UInt8.toNat_inj.1 e)))
  · exact .inr (.inr (.inr (UInt8.toNat_inj.1 e)))
theorem lets_lt {t : ByteArray} {n : Nat} (h : Lets t n) : Lt (row t) ∧ (row t).length ≤ n ∧ row t ≠ [] := by
  have hl : (row t).length = t.size := row_length t
  refine ⟨fun b hb => ?_, by rw [hl]; exact h.2.1, fun e => ?_⟩
  · obtain ⟨q, hq, e⟩ := List.getElem_of_mem hb
    have h1 := h.2.2 q (by omega)
    have h2 : byt t q = b.toNat := by
      have := (byt_get (row t) q b hq).2 (by rw [List.getElem?_eq_getElem hq, e])
      exact this
    rw [h2] at h1
    exact letter_of h1.1 h1.2
  · have := h.1
    rw [e] at hl
    simp at hl
    omega
theorem in_hit (S W : List UInt8) (hW : W ≠ []) (i : Nat) : InAt (txt S) (txt W) i ↔ hit S W i = true := by
  by_cases h : i + W.length ≤ S.length
  · rw [← in_at_beq (txt S) (txt W) i (by rw [txt_size, txt_size]; exact h), txt_size, row_extract]
    have e : (S.take (i + W.length)).drop i = (S.drop i).take W.length := by rw [List.drop_take, Nat.add_sub_cancel_left]
    have tl : ∀ l : List UInt8, (txt l).toList = l := fun l => by rw [ByteArray.toList_eq]; simp [txt]
    rw [e, tl, tl, beq_iff_eq]
    unfold hit
    rw [List.isPrefixOf_iff_prefix, List.prefix_iff_eq_take]
    exact eq_comm
  · constructor
    · intro hx
      have := hx.1
      rw [txt_size, txt_size] at this
      exact absurd this h
    · intro hx
      exact absurd (hit_le hx hW) h
theorem drop_S (w o fl : List UInt8) : (scS w o fl).drop (w.length + o.length + 4) = fl := by
  have e : scS w o fl = ([115, 47] ++ w ++ [47] ++ o ++ [47]) ++ fl := by simp [scS]
  rw [e, List.drop_left' (by simp; omega)]
theorem len_S (w o fl : List UInt8) : (scS w o fl).length = w.length + o.length + 4 + fl.length := by
  unfold scS
  simp only [List.length_cons, List.length_append]
  omega
theorem txt_S (w o f1 f2 : List UInt8) : txt [115, 47] ++ txt w ++ txt [47] ++ txt o ++ txt (47 :: f1) ++ txt f2 = txt (scS w o (f1 ++ f2)) := by
  rw [txt_append, txt_append, txt_append, txt_append, txt_append]
  simp [scS]
theorem txt_S1 (w o f1 : List UInt8) : txt [115, 47] ++ txt w ++ txt [47] ++ txt o ++ txt (47 :: f1) = txt (scS w o f1) := by
  rw [txt_append, txt_append, txt_append, txt_append]
  simp [scS]
theorem nl_row (t : ByteArray) : row (t ++ ⟨#[10]⟩) = row t ++ [10] := by rw [row_ap]; rfl
set_option maxRecDepth 100000 in
set_option maxHeartbeats 8000000 in
theorem rlaw_any (mf : Mf) (hm : MfOk mf) (tx w0 ot : ByteArray) (c : Int) (w : World) (h1 : tx.size ≤ maxLen) (h2 : w0.size ≤ maxLen) (h3 : ot.size ≤ maxLen) (hc : -9223372036854775808 ≤ c ∧ c ≤ 9223372036854775807) (ht : Tab w) :
    Calls Tryz.prog 4 #[.string tx, .string w0, .string ot, .int .i64 c] w fun e w' => e = .returned (.bool true) ∧ Below w.heap.size w w' := by
  have HT : Hid (Tab w) := ht
  have HM : Hid (MfOk mf) := hm
  have HW1 : Hid (∀ W : World, Calls Tryz.prog 10 #[.string tx, .int .i64 24] W fun e w' => ∃ t, e = .returned (.string t) ∧ Lets t 24 ∧ Below W.heap.size W w') := fun W => word_any tx 24 W h1 (by omega) (by omega)
  have HW2 : Hid (∀ W : World, Calls Tryz.prog 10 #[.string w0, .int .i64 3] W fun e w' => ∃ t, e = .returned (.string t) ∧ Lets t 3 ∧ Below W.heap.size W w') := fun W => word_any w0 3 W h2 (by omega) (by omega)
  have HW3 : Hid (∀ W : World, Calls Tryz.prog 10 #[.string ot, .int .i64 3] W fun e w' => ∃ t, e = .returned (.string t) ∧ Lets t 3 ∧ Below W.heap.size W w') := fun W => word_any ot 3 W h3 (by omega) (by omega)
  have HPk : Hid (∀ W : World, Calls Tryz.prog 11 #[.int .i64 c, .int .i64 9] W fun e w' => ∃ j : Nat, j < 9 ∧ e = .returned (.int .i64 (j : Int)) ∧ w' = W) := fun W => pick_p c 9 W hc.1 hc.2 (by omega) (by omega)
  clear hm ht h1 h2 h3 hc
  go_enter Tryz.func4, Tryz.ntmps4
  go_upto_if 24 with fail
  go_cut [9] (fun x9 wx => ∃ S : List UInt8, x9 = .string (txt S) ∧ Hid (Lt S) ∧ Hid (S.length ≤ 24) ∧ Hid (Below w.heap.size w wx))
  case first =>
    go_wp2_with fail
    · refine (HW1.out _).mono ?_
      rintro e w2 ⟨t, rfl, hl, hb⟩
      go_wp2_with fail
      go_meet
      exact ⟨row t, rfl, (lets_lt hl).1, (lets_lt hl).2.1, hb⟩
    · go_meet
      exact ⟨[], rfl, (fun b hb => by simp at hb), by simp [Hid], Below.refl _ _⟩
  case rest =>
  obtain ⟨S, rfl, HSl, HSn, HB1⟩ := hcut
  clear HW1
  go_wp2_with fail
  refine (HW2.out _).mono ?_
  rintro e w2 ⟨t2, rfl, hl2, hb2⟩
  obtain ⟨v1, v2, v3⟩ := lets_lt hl2
  obtain ⟨V, hV⟩ : ∃ V, V = row t2 := ⟨_, rfl⟩
  have hV2 : t2 = txt V := by rw [hV]; rfl
  rw [← hV] at v1 v2 v3
  subst hV2
  have HWd : Hid (Wd V) := ⟨v1, v3, v2⟩
  have HB2 : Hid (Below w.heap.size w w2) := HB1.out.trans (hb2.mono HB1.out.size)
  clear hl2 hb2 hV v1 v2 v3 HW2
  go_upto_if 30 with fail
  go_cut [10] (fun x10 wx => ∃ O : List UInt8, x10 = .string (txt O) ∧ Hid (Lt O) ∧ Hid (O.length ≤ 3) ∧ Hid (Below w.heap.size w wx))
  case first =>
    go_wp2_with fail
    · refine (HW3.out _).mono ?_
      rintro e w3 ⟨t, rfl, hl, hb⟩
      go_wp2_with fail
      go_meet
      exact ⟨row t, rfl, (lets_lt hl).1, (lets_lt hl).2.1, HB2.out.trans (hb.mono HB2.out.size)⟩
    · go_meet
      exact ⟨[], rfl, (fun b hb => by simp at hb), by simp [Hid], HB2.out⟩
  case rest =>
  obtain ⟨O, rfl, HOl, HOn, HB3⟩ := hcut
  clear HW3 HB2 HB1
  go_wp2_with fail
  refine (HPk.out _).mono ?_
  rintro e w4 ⟨K, hK, rfl, hw4⟩
  have hw5 := hw4.symm
  subst hw5
  clear hw4 HPk
  have hVn : V.length ≤ 3 := HWd.out.le
  have hOn : O.length ≤ 3 := HOn.out
  have hSn : S.length ≤ 24 := HSn.out
  have hSz : (txt S).size = S.length := txt_size S
  have hVz : (txt V).size = V.length := txt_size V
  have hOz : (txt O).size = O.length := txt_size O
  have HAt : Hid (∀ (i : Nat) (W : World), i ≤ 1000 → Calls Tryz.prog 12 #[.string (txt S), .string (txt V), .int .i64 i] W fun e w' => e = .returned (.bool (hit S V i)) ∧ w' = W) := fun i W hi => by
    refine (at_any (txt S) (txt V) i W (by omega) (by omega) hi).mono ?_
    rintro e w' ⟨q, rfl, hq, hw⟩
    refine ⟨?_, hw⟩
    rw [in_hit S V HWd.out.pos i] at hq
    have : q = hit S V i := by
      cases q <;> cases hx : hit S V i <;> simp_all
    rw [this]
  have HZ0 : Hid (Rpl S V O (1 + K) 0 0 ⟨#[]⟩ ⟨#[]⟩ ⟨#[]⟩) := Rpl.zero S V O (1 + K)
  have hVp : 0 < V.length := List.length_pos_iff.2 HWd.out.pos
  go_wp2_with fail
  go_loopw [12, 13, 14, 15, 16] (fun x12 x13 x14 x15 x16 wr => ∃ (i n : Nat) (PA PB PC : ByteArray), i ≤ S.length ∧ n ≤ i ∧ x12 = .string PA ∧ x13 = .string PB ∧ x14 = .string PC ∧ x15 = .int .i64 n ∧ x16 = .int .i64 i ∧ Hid (Rpl S V O (1 + K) i n PA PB PC) ∧ wr = wc) (fun _ _ _ _ x16 _ => S.length + 1 - (intOf x16).toNat)
  case atStart => exact ⟨0, 0, ⟨#[]⟩, ⟨#[]⟩, ⟨#[]⟩, by omega, by omega, rfl, rfl, rfl, rfl, rfl, HZ0.out, rfl⟩
  case round =>
    obtain ⟨i, n, PA, PB, PC, hi, hni, rfl, rfl, rfl, rfl, rfl, HR, rfl⟩ := hrel
    obtain ⟨s1, s2, s3⟩ := HR.out.small HWd.out.pos hOn hSn
    by_cases hlt : i < S.length
    · have qlt : decide ((i : Int) < ((txt S).size : Int)) = true := by rw [hSz]; simp; omega
      by_cases hh : hit S V i = true
      · have hle := hit_le hh HWd.out.pos
        have hA := fun W => HAt.out i W (by omega)
        rw [hh] at hA
        have HSt : Hid (∀ B' C' : ByteArray, (B' = PB ++ (if n + 1 = 1 then txt O else txt V)) → (C' = PC ++ (if n + 1 = 1 + K then txt O else txt V)) → Rpl S V O (1 + K) (i + V.length) (n + 1) (PA ++ txt O) B' C') := fun B' C' h1 h2 => HR.out.hit HWd.out.pos hh h1 h2
        have a1 : ∀ W : World, (Op.stringOp .add PA (txt O)).run Tryz.prog W = .ok (.string (PA ++ txt O)) W := fun W => run_string_add_sum (P := Tryz.prog) (w := W) _ _ (by omega)
        have a2 : ∀ W : World, (Op.stringOp .add PB (txt O)).run Tryz.prog W = .ok (.string (PB ++ txt O)) W := fun W => run_string_add_sum (P := Tryz.prog) (w := W) _ _ (by omega)
        have a3 : ∀ W : World, (Op.stringOp .add PB (txt V)).run Tryz.prog W = .ok (.string (PB ++ txt V)) W := fun W => run_string_add_sum (P := Tryz.prog) (w := W) _ _ (by omega)
        have a4 : ∀ W : World, (Op.stringOp .add PC (txt O)).run Tryz.prog W = .ok (.string (PC ++ txt O)) W := fun W => run_string_add_sum (P := Tryz.prog) (w := W) _ _ (by omega)
        have a5 : ∀ W : World, (Op.stringOp .add PC (txt V)).run Tryz.prog W = .ok (.string (PC ++ txt V)) W := fun W => run_string_add_sum (P := Tryz.prog) (w := W) _ _ (by omega)
        go_wp2_with fail
        refine (hA _).mono ?_
        rintro e w6 ⟨rfl, hw6⟩
        have hw7 := hw6.symm
        subst hw7
        clear hw6 hA
        by_cases e1 : n + 1 = 1
        · by_cases e2 : n + 1 = 1 + K
          · have HF : Hid _ := HSt.out (PB ++ txt O) (PC ++ txt O) (by rw [if_pos e1]) (by rw [if_pos e2])
            have q1 : (((n : Int) + 1) == 1) = true := by simp; omega
            have q2 : (((n : Int) + 1) == (1 + (K : Int))) = true := by simp; omega
            clear HSt HAt
            go_wp2_with fail
            go_roundw
            case rel => exact ⟨i + V.length, n + 1, _, _, _, by omega, by omega, rfl, rfl, rfl, by go_num, by go_num, HF.out, by first | trivial | rfl⟩
            case measure => simp [intOf]; omega
          · have HF : Hid _ := HSt.out (PB ++ txt O) (PC ++ txt V) (by rw [if_pos e1]) (by rw [if_neg e2])
            have q1 : (((n : Int) + 1) == 1) = true := by simp; omega
            have q2 : (((n : Int) + 1) == (1 + (K : Int))) = false := by simp; omega
            clear HSt HAt
            go_wp2_with fail
            go_roundw
            case rel => exact ⟨i + V.length, n + 1, _, _, _, by omega, by omega, rfl, rfl, rfl, by go_num, by go_num, HF.out, by first | trivial | rfl⟩
            case measure => simp [intOf]; omega
        · by_cases e2 : n + 1 = 1 + K
          · have HF : Hid _ := HSt.out (PB ++ txt V) (PC ++ txt O) (by rw [if_neg e1]) (by rw [if_pos e2])
            have q1 : (((n : Int) + 1) == 1) = false := by simp; omega
            have q2 : (((n : Int) + 1) == (1 + (K : Int))) = true := by simp; omega
            clear HSt HAt
            go_wp2_with fail
            go_roundw
            case rel => exact ⟨i + V.length, n + 1, _, _, _, by omega, by omega, rfl, rfl, rfl, by go_num, by go_num, HF.out, by first | trivial | rfl⟩
            case measure => simp [intOf]; omega
          · have HF : Hid _ := HSt.out (PB ++ txt V) (PC ++ txt V) (by rw [if_neg e1]) (by rw [if_neg e2])
            have q1 : (((n : Int) + 1) == 1) = false := by simp; omega
            have q2 : (((n : Int) + 1) == (1 + (K : Int))) = false := by simp; omega
            clear HSt HAt
            go_wp2_with fail
            go_roundw
            case rel => exact ⟨i + V.length, n + 1, _, _, _, by omega, by omega, rfl, rfl, rfl, by go_num, by go_num, HF.out, by first | trivial | rfl⟩
            case measure => simp [intOf]; omega
      · have hh' : hit S V i = false := by simpa using hh
        have hA := fun W => HAt.out i W (by omega)
        rw [hh'] at hA
        have ex : (txt S).extract i (i + 1) = txt [S[i]] := by
          rw [row_extract, List.drop_take, Nat.add_sub_cancel_left, List.drop_eq_getElem_cons hlt]
          rfl
        have HF : Hid (Rpl S V O (1 + K) (i + 1) n (PA ++ txt [S[i]]) (PB ++ txt [S[i]]) (PC ++ txt [S[i]])) := HR.out.miss hlt hh'
        rw [← ex] at HF
        have exz : ((txt S).extract i (i + 1)).size = 1 := by rw [ex]; rfl
        have a1 : ∀ W : World, (Op.stringOp .add PA ((txt S).extract i (i + 1))).run Tryz.prog W = .ok (.string (PA ++ (txt S).extract i (i + 1))) W := fun W => run_string_add_sum (P := Tryz.prog) (w := W) _ _ (by omega)
        have a2 : ∀ W : World, (Op.stringOp .add PB ((txt S).extract i (i + 1))).run Tryz.prog W = .ok (.string (PB ++ (txt S).extract i (i + 1))) W := fun W => run_string_add_sum (P := Tryz.prog) (w := W) _ _ (by omega)
        have a3 : ∀ W : World, (Op.stringOp .add PC ((txt S).extract i (i + 1))).run Tryz.prog W = .ok (.string (PC ++ (txt S).extract i (i + 1))) W := fun W => run_string_add_sum (P := Tryz.prog) (w := W) _ _ (by omega)
        have z1 : (i : Int) + 1 ≤ ((txt S).size : Int) := by rw [hSz]; omega
        have z2 : (0 : Int) ≤ (i : Int) + 1 := by omega
        have z3 : (i : Int) ≤ (i : Int) + 1 := by omega
        clear ex hh hh'
        go_wp2_with fail
        refine (hA _).mono ?_
        rintro e w6 ⟨rfl, hw6⟩
        have hw7 := hw6.symm
        subst hw7
        clear hw6 hA HAt
        go_wp2_with fail
        go_roundw
        case rel => exact ⟨i + 1, n, _, _, _, by omega, by omega, rfl, rfl, rfl, rfl, by go_num, HF.out, by first | trivial | rfl⟩
        case measure => simp [intOf]; omega
    · have hiN : i = S.length := by omega
      subst hiN
      have qlt : decide ((S.length : Int) < ((txt S).size : Int)) = false := by rw [hSz]; simp
      obtain ⟨k1, k2, k3⟩ := HR.out.done
      have hS10 : ∀ b ∈ S, b ≠ 10 := fun b hb => by rcases HSl.out b hb with rfl | rfl | rfl | rfl <;> decide
      have hcv : ∀ (w9 : World), Sem.run Tryz.prog (convert 25 9 (.slice (some ⟨w9.heap.size, 0, none⟩) 1 1)) (w9.alloc (.cells #[.int .u8 (48 + (1 + (K : Int)))] 5)) = .ok (.string (txt [UInt8.ofNat (48 + (1 + K))])) (w9.alloc (.cells #[.int .u8 (48 + (1 + (K : Int)))] 5)) := fun w9 => by
        rw [run_convert_bytes_arg (P := Tryz.prog) _ 25 5 Tryz.underlying25 Tryz.underlying5 w9.heap.size 0 1 1 [48 + (1 + (K : Int))] rfl (fun q hq => by
          rw [cell_of_row _ w9.heap.size (0 + q) _ 5 (0, 0) (heap_alloc_last w9 _)]
          obtain rfl : q = 0 := by omega
          rfl) 9 Tryz.underlying9]
        unfold strOfNums
        simp only [List.map_cons, List.map_nil]
        rw [show (48 + (1 + (K : Int))).toNat = 48 + (1 + K) by omega]
        rfl
      have HB4 : Hid (Below w.heap.size w (wr.alloc (.cells #[.int .u8 (48 + (1 + (K : Int)))] 5))) := HB3.out.trans ((below_alloc wr _).mono HB3.out.size)
      have HMK : Hid (∀ (s inp want : ByteArray) (W : World), s.size ≤ maxLen → inp.size ≤ 1048576 → Tab W → Makes mf s false (row inp) (row want) → Calls Tryz.prog 7 #[.string s, .bool false, .string inp, .string want] W fun e w' => e = .returned (.bool true) ∧ Below W.heap.size W w') := fun s inp want W h1 h2 h3 h4 => makes_true mf HM.out s inp want false W h1 h2 h3 h4
      have hnl : (⟨#[10]⟩ : ByteArray).size = 1 := rfl
      have hin : (txt S ++ (⟨#[10]⟩ : ByteArray)).size ≤ 1048576 := by rw [ByteArray.size_append, hnl]; omega
      have hsz : ∀ fl : List UInt8, fl.length ≤ 1 → (txt (scS V O fl)).size ≤ maxLen := fun fl hf => by rw [txt_size, len_S]; unfold maxLen; omega
      have H1 : Hid (∀ W, Tab W → Calls Tryz.prog 7 #[.string (txt (scS V O [103])), .bool false, .string (txt S ++ ⟨#[10]⟩), .string (PA ++ ⟨#[10]⟩)] W fun e w' => e = .returned (.bool true) ∧ Below W.heap.size W w') := fun W hW => HMK.out _ _ _ W (hsz [103] (by simp)) hin hW (by
        rw [nl_row, nl_row, k1, row_txt]
        exact makes_S HM.out S V O [103] 1 true HWd.out HOl.out hOn hS10 hSn (by omega) (read_S V O [103] 1 true HWd.out HOl.out hOn (by simp) (flag_all (drop_S V O [103]) (by rw [len_S]; simp))))
      have H2 : Hid (∀ W, Tab W → Calls Tryz.prog 7 #[.string (txt (scS V O [])), .bool false, .string (txt S ++ ⟨#[10]⟩), .string (PB ++ ⟨#[10]⟩)] W fun e w' => e = .returned (.bool true) ∧ Below W.heap.size W w') := fun W hW => HMK.out _ _ _ W (hsz [] (by simp)) hin hW (by
        rw [nl_row, nl_row, k2, row_txt]
        exact makes_S HM.out S V O [] 1 false HWd.out HOl.out hOn hS10 hSn (by omega) (read_S V O [] 1 false HWd.out HOl.out hOn (by simp) (flag_none (drop_S V O []) (by rw [len_S]; simp))))
      have H3 : Hid (∀ W, Tab W → Calls Tryz.prog 7 #[.string (txt (scS V O [UInt8.ofNat (48 + (1 + K))])), .bool false, .string (txt S ++ ⟨#[10]⟩), .string (PC ++ ⟨#[10]⟩)] W fun e w' => e = .returned (.bool true) ∧ Below W.heap.size W w') := fun W hW => HMK.out _ _ _ W (hsz [UInt8.ofNat (48 + (1 + K))] (by simp)) hin hW (by
        rw [nl_row, nl_row, k3, row_txt]
        exact makes_S HM.out S V O [UInt8.ofNat (48 + (1 + K))] (1 + K) false HWd.out HOl.out hOn hS10 hSn (by omega) (read_S V O [UInt8.ofNat (48 + (1 + K))] (1 + K) false HWd.out HOl.out hOn (by simp) (flag_num (drop_S V O [UInt8.ofNat (48 + (1 + K))]) (by rw [len_S]; simp) (by omega) (by omega))))
      have H4 : Hid (∀ W, Tab W → Calls Tryz.prog 7 #[.string ⟨#[121, 47, 97, 98, 99, 100, 47, 100, 99, 98, 97, 47, 59, 121, 47, 97, 98, 99, 100, 47, 100, 99, 98, 97, 47]⟩, .bool false, .string (txt S ++ ⟨#[10]⟩), .string (txt S ++ ⟨#[10]⟩)] W fun e w' => e = .returned (.bool true) ∧ Below W.heap.size W w') := fun W hW => HMK.out scY _ _ W (by decide) hin hW (by
        rw [nl_row, row_txt]
        exact makes_Y S HSl.out hS10 hSn)
      have c1 : (⟨#[115, 47]⟩ : ByteArray) ++ txt V ++ ⟨#[47]⟩ ++ txt O ++ ⟨#[47, 103]⟩ = txt (scS V O [103]) := txt_S1 V O [103]
      have c2 : (⟨#[115, 47]⟩ : ByteArray) ++ txt V ++ ⟨#[47]⟩ ++ txt O ++ ⟨#[47]⟩ = txt (scS V O []) := txt_S1 V O []
      have c3 : (⟨#[115, 47]⟩ : ByteArray) ++ txt V ++ ⟨#[47]⟩ ++ txt O ++ ⟨#[47]⟩ ++ txt [UInt8.ofNat (48 + (1 + K))] = txt (scS V O [UInt8.ofNat (48 + (1 + K))]) := txt_S V O [] [UInt8.ofNat (48 + (1 + K))]
      have hD : (txt [UInt8.ofNat (48 + (1 + K))]).size = 1 := rfl
      have n2 : (⟨#[115, 47]⟩ : ByteArray).size = 2 := rfl
      have n1 : (⟨#[47]⟩ : ByteArray).size = 1 := rfl
      have n3 : (⟨#[47, 103]⟩ : ByteArray).size = 2 := rfl
      rw [← c1] at H1
      rw [← c2] at H2
      rw [← c3] at H3
      clear c1 c2 c3 k1 k2 k3 hS10 HMK hin hsz HR HAt HZ0 HSl HSn HOl HOn HM
      generalize txt [UInt8.ofNat (48 + (1 + K))] = D at *
      generalize hV0 : txt V = TV at *
      generalize hO0 : txt O = TO at *
      generalize hS0 : txt S = TS at *
      have y1 : ((⟨#[115, 47]⟩ : ByteArray) ++ TV).size = 2 + TV.size := by rw [ByteArray.size_append, n2]
      have y2 : ((⟨#[115, 47]⟩ : ByteArray) ++ TV ++ ⟨#[47]⟩).size = 2 + TV.size + 1 := by rw [ByteArray.size_append, y1, n1]
      have y3 : ((⟨#[115, 47]⟩ : ByteArray) ++ TV ++ ⟨#[47]⟩ ++ TO).size = 2 + TV.size + 1 + TO.size := by rw [ByteArray.size_append, y2]
      have y4 : ((⟨#[115, 47]⟩ : ByteArray) ++ TV ++ ⟨#[47]⟩ ++ TO ++ ⟨#[47]⟩).size = 2 + TV.size + 1 + TO.size + 1 := by rw [ByteArray.size_append, y3, n1]
      have a1 : ∀ W : World, (Op.stringOp .add ⟨#[115, 47]⟩ TV).run Tryz.prog W = .ok (.string (⟨#[115, 47]⟩ ++ TV)) W := fun W => run_string_add_sum (P := Tryz.prog) (w := W) _ _ (by omega)
      have a2 : ∀ W : World, (Op.stringOp .add (⟨#[115, 47]⟩ ++ TV) ⟨#[47]⟩).run Tryz.prog W = .ok (.string (⟨#[115, 47]⟩ ++ TV ++ ⟨#[47]⟩)) W := fun W => run_string_add_sum (P := Tryz.prog) (w := W) _ _ (by omega)
      have a3 : ∀ W : World, (Op.stringOp .add (⟨#[115, 47]⟩ ++ TV ++ ⟨#[47]⟩) TO).run Tryz.prog W = .ok (.string (⟨#[115, 47]⟩ ++ TV ++ ⟨#[47]⟩ ++ TO)) W := fun W => run_string_add_sum (P := Tryz.prog) (w := W) _ _ (by omega)
      have a4 : ∀ W : World, (Op.stringOp .add (⟨#[115, 47]⟩ ++ TV ++ ⟨#[47]⟩ ++ TO) ⟨#[47, 103]⟩).run Tryz.prog W = .ok (.string (⟨#[115, 47]⟩ ++ TV ++ ⟨#[47]⟩ ++ TO ++ ⟨#[47, 103]⟩)) W := fun W => run_string_add_sum (P := Tryz.prog) (w := W) _ _ (by omega)
      have a5 : ∀ W : World, (Op.stringOp .add (⟨#[115, 47]⟩ ++ TV ++ ⟨#[47]⟩ ++ TO) ⟨#[47]⟩).run Tryz.prog W = .ok (.string (⟨#[115, 47]⟩ ++ TV ++ ⟨#[47]⟩ ++ TO ++ ⟨#[47]⟩)) W := fun W => run_string_add_sum (P := Tryz.prog) (w := W) _ _ (by omega)
      have a6 : ∀ W : World, (Op.stringOp .add (⟨#[115, 47]⟩ ++ TV ++ ⟨#[47]⟩ ++ TO ++ ⟨#[47]⟩) D).run Tryz.prog W = .ok (.string (⟨#[115, 47]⟩ ++ TV ++ ⟨#[47]⟩ ++ TO ++ ⟨#[47]⟩ ++ D)) W := fun W => run_string_add_sum (P := Tryz.prog) (w := W) _ _ (by omega)
      have a7 : ∀ W : World, (Op.stringOp .add TS ⟨#[10]⟩).run Tryz.prog W = .ok (.string (TS ++ ⟨#[10]⟩)) W := fun W => run_string_add_sum (P := Tryz.prog) (w := W) _ _ (by omega)
      have a8 : ∀ W : World, (Op.stringOp .add PA ⟨#[10]⟩).run Tryz.prog W = .ok (.string (PA ++ ⟨#[10]⟩)) W := fun W => run_string_add_sum (P := Tryz.prog) (w := W) _ _ (by omega)
      have a9 : ∀ W : World, (Op.stringOp .add PB ⟨#[10]⟩).run Tryz.prog W = .ok (.string (PB ++ ⟨#[10]⟩)) W := fun W => run_string_add_sum (P := Tryz.prog) (w := W) _ _ (by omega)
      have b1 : ∀ W : World, (Op.stringOp .add PC ⟨#[10]⟩).run Tryz.prog W = .ok (.string (PC ++ ⟨#[10]⟩)) W := fun W => run_string_add_sum (P := Tryz.prog) (w := W) _ _ (by omega)
      clear y1 y2 y3 y4 n1 n2 n3 hD hnl s1 s2 s3
      go_wp2_with fail
      refine (H1.out _ (HT.out.below HB4.out)).mono ?_
      rintro e w5 ⟨rfl, hb5⟩
      have HB5 : Hid (Below w.heap.size w w5) := HB4.out.trans (hb5.mono HB4.out.size)
      clear hb5 hcv
      go_wp2_with fail
      refine (H2.out w5 (HT.out.below HB5.out)).mono ?_
      rintro e w6 ⟨rfl, hb6⟩
      have HB6 : Hid (Below w.heap.size w w6) := HB5.out.trans (hb6.mono HB5.out.size)
      clear hb6
      go_wp2_with fail
      refine (H3.out w6 (HT.out.below HB6.out)).mono ?_
      rintro e w7 ⟨rfl, hb7⟩
      have HB7 : Hid (Below w.heap.size w w7) := HB6.out.trans (hb7.mono HB6.out.size)
      clear hb7
      go_wp2_with fail
      refine (H4.out w7 (HT.out.below HB7.out)).mono ?_
      rintro e w8 ⟨rfl, hb8⟩
      have HB8 : Hid (Below w.heap.size w w8) := HB7.out.trans (hb8.mono HB7.out.size)
      clear hb8
      go_wp2_with fail
      go_ret
      exact ⟨rfl, HB8.out⟩
end Ee
end Go.Proofs.YtppjlpihaocdiabGreatDoor
