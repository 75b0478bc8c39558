/- Several texts in one. -/
import Derived.Test.YtppjlpihaocdiabGreatDoorEhFH
import Derived.Deep.RegionHeldLaw
import Derived.Deep.RegionHeld3
set_option linter.unusedSimpArgs false
set_option linter.unusedVariables false
namespace Go.Proofs.YtppjlpihaocdiabGreatDoor
namespace Ee
open Rs (Cm Wh Pc readR)

theorem joinN_cons (l : List UInt8) (ls : List (List UInt8)) : joinN (l :: ls) = (l ++ [10]) ++ joinN ls := by simp [joinN]

def lastOf : List (List UInt8) → List UInt8
  | [] => []
  | [l] => l ++ [10]
  | _ :: m :: r => lastOf (m :: r)
def oddF : Nat → List (List UInt8) → List UInt8
  | _, [] => []
  | i, l :: r => (if i % 2 = 0 then l ++ [10] else []) ++ oddF (i + 1) r
def numF : Nat → List (List UInt8) → List UInt8
  | _, [] => []
  | i, _ :: r => [UInt8.ofNat (49 + i), 10] ++ numF (i + 1) r
theorem lastOf_snoc : ∀ (ls : List (List UInt8)) (l : List UInt8), lastOf (ls ++ [l]) = l ++ [10]
  | [], l => rfl
  | [a], l => rfl
  | a :: b :: r, l => by
    have := lastOf_snoc (b :: r) l
    simpa [lastOf] using this
theorem oddF_snoc : ∀ (ls : List (List UInt8)) (i : Nat) (l : List UInt8), oddF i (ls ++ [l]) = oddF i ls ++ (if (i + ls.length) % 2 = 0 then l ++ [10] else [])
  | [], i, l => by simp [oddF]
  | a :: r, i, l => by
    have := oddF_snoc r (i + 1) l
    rw [List.cons_append, oddF, oddF, this, List.append_assoc, List.length_cons]
    rw [show i + 1 + r.length = i + (r.length + 1) by omega]
theorem numF_snoc : ∀ (ls : List (List UInt8)) (i : Nat) (l : List UInt8), numF i (ls ++ [l]) = numF i ls ++ [UInt8.ofNat (49 + (i + ls.length)), 10]
  | [], i, l => by simp [numF]
  | a :: r, i, l => by
    have := numF_snoc r (i + 1) l
    rw [List.cons_append, numF, numF, this, List.append_assoc, List.length_cons]
    rw [show i + 1 + r.length = i + (r.length + 1) by omega]
theorem back_snoc (ls : List (List UInt8)) (l : List UInt8) : joinN (ls ++ [l]).reverse = l ++ [10] ++ joinN ls.reverse := by
  rw [List.reverse_append]
  simp [joinN]
theorem two_snoc (ls : List (List UInt8)) (l : List UInt8) : joinN ((ls ++ [l]).take 2) = if ls.length < 2 then joinN (ls.take 2) ++ (l ++ [10]) else joinN (ls.take 2) := by
  match ls with
  | [] => simp [joinN]
  | [a] => simp [joinN]
  | a :: b :: r => simp [joinN]

section
variable {mf : Mf}

/- Numbers. -/
def scN : ByteArray := ⟨#[61]⟩
theorem read_scN : readR scN = ([cmK 12], 0, 0) := by rfl
def gN (E : Ed) : Ed := { E with looked := 1, stage := 3, at' := 1, out := E.out ++ row (itoa E.number) ++ [10], coming := [] }
theorem prompt_N (a b c : Nat) (m : Nat) (ha : m ≤ a) (hb : m ≤ b) (hc : 0 < c) : Prompt mf ⟨a, b, c, true, [cmK 12]⟩ gN (fun E => E.coming = []) (okL m) where
  run := fun E l hJ _ _ _ hs => ⟨5, by omega, fun f => by
    have hc0 : 0 ≠ c := by omega
    rw [show f + 5 = (f + 4) + 1 from rfl, w1_cmd _ _ (by simp [rd])]
    rw [show f + 4 = (f + 3) + 1 from rfl, w2_1 _ _ { rd E l with looked := 1, stage := 3, at' := 1, out := E.out ++ row (itoa (E.number + 1)) ++ [10] } (by
      simp [Ed.command, Ed.choose, Ed.selects, Ed.meets, Ed.doIt, Ed.edit, Ed.jump, Ed.print, cmK, rd, hc0, row_txt])]
    rw [show f + 3 = (f + 2) + 1 from rfl, w1_end _ _ rfl, w3]
    have e : (Ed.printSpace ⟨a, b, c, true, [cmK 12]⟩ { rd E l with looked := 1, stage := 3, at' := 1, out := E.out ++ row (itoa (E.number + 1)) ++ [10] }).printComing = gN (rd E l) := by
      simp [Ed.printSpace, Ed.printComing, gN, rd, hJ, Ed.print, Ed.printAll, row_txt]
    rw [w4 _ _ (by rw [e]; exact hs), e]⟩
  next := fun E l _ _ => ⟨rfl, rfl, rfl, fun h => h⟩
  keep := fun E l _ _ => rfl
  free := fun E b h => h
  lk := fun l h => ⟨h.1, Nat.le_trans h.2 ha, Nat.le_trans h.2 hb⟩
theorem itoa_small (n : Nat) (h : n < 9) : row (itoa (n + 1)) = [UInt8.ofNat (49 + n)] := by
  have e : Lib.itoa ((n + 1 : Nat) : Int) = [UInt8.ofNat (49 + n)] := by
    unfold Lib.itoa
    rw [if_neg (by omega), Int.toNat_natCast, Lib.decDigits, dif_pos (by omega), show 48 + (n + 1) = 49 + n by omega]
  unfold row itoa
  rw [e]
theorem fold_N : ∀ (ls : List (List UInt8)) (E : Ed), E.number + ls.length ≤ 9 → (ls.foldl (cyc gN) E).out = E.out ++ numF E.number ls
  | [], E, _ => by simp [numF]
  | l :: ls, E, h => by
    simp only [List.length_cons] at h
    rw [List.foldl_cons, fold_N ls _ (by simp [cyc, gN, rd]; omega)]
    simp [cyc, gN, rd, numF, itoa_small E.number (by omega)]
theorem makes_N (ls : List (List UInt8)) (hl : ∀ l ∈ ls, okL 80 l) (hn : ls.length ≤ 9) : Makes mf scN true (joinN ls) (numF 0 ls) := by
  have P := prompt_N (mf := mf) 80 80 1000 80 (Nat.le_refl _) (Nat.le_refl _) (by omega)
  refine ⟨opens_of read_scN _ _ _ alw_wide, ?_⟩
  have ec : cfO scN 80 80 1000 true = ⟨80, 80, 1000, true, [cmK 12]⟩ := cf_of read_scN 80 80 1000 true
  unfold made
  rw [ec, P.all rfl ls hl]
  refine ⟨rfl, ?_⟩
  show (ls.foldl (cyc gN) (ed0 _)).out = _
  rw [fold_N _ _ (by simp [ed0]; omega)]
  simp [ed0]

/- The first two. -/
def cmQ : Cm := { cmK 13 with fst := ⟨1, 2, emp⟩ }
def scQ : ByteArray := ⟨#[50, 113]⟩
theorem read_scQ : readR scQ = ([cmQ], 0, 0) := by rfl
def cQ : Cf := ⟨80, 80, 1000, false, [cmQ]⟩
def qA (o : List UInt8) (p : ByteArray) (n lk at' : Nat) : Ed := ⟨[], false, false, n, p, emp, o, 0, [], [false], at', 0, lk, false, 0⟩
theorem q_first (l : List UInt8) (hl : okL 80 l) : (ed0 cQ).feed mf cQ (l ++ [10]) = qA (l ++ [10]) (txt l) 1 1 1 := by
  rw [line_fed (ed0 cQ) (ed0_rz cQ) l ⟨hl.1, hl.2, hl.2⟩]
  rw [show (9999 : Nat) = 9998 + 1 from rfl, w1_cmd _ _ (by simp [rd, cQ])]
  rw [show (9998 : Nat) = 9997 + 1 from rfl, w2_1 _ _ ⟨[], false, false, 1, txt l, emp, [], 0, [], [false], 1, 2, 1, false, 0⟩ (by
    simp [Ed.command, Ed.choose, Ed.selects, Ed.meets, Ed.jump, cmK, cmQ, rd, cQ, ed0])]
  rw [show (9997 : Nat) = 9996 + 1 from rfl, w1_end _ _ rfl, show (9996 : Nat) = 9995 + 1 from rfl, w3]
  rw [show (9995 : Nat) = 9994 + 1 from rfl, w4 _ _ (by simp [Ed.printSpace, cQ, Ed.print, Ed.printComing, Ed.printAll]), show (9994 : Nat) = 9993 + 1 from rfl, w0_wait _ _ (by simp [Ed.printSpace, cQ, Ed.print, Ed.printComing, Ed.printAll, Ed.atHand, Ed.tooLong])]
  simp [Ed.printSpace, cQ, Ed.print, Ed.printComing, Ed.printAll, qA, row_txt]
theorem q_second (l o : List UInt8) (p : ByteArray) (lk at' : Nat) (hl : okL 80 l) : ((qA o p 1 lk at').feed mf cQ (l ++ [10])).state = 2 ∧ ((qA o p 1 lk at').feed mf cQ (l ++ [10])).out = o ++ l ++ [10] := by
  rw [line_fed (qA o p 1 lk at') ⟨rfl, rfl, rfl, rfl, rfl⟩ l ⟨hl.1, hl.2, hl.2⟩]
  rw [show (9999 : Nat) = 9998 + 1 from rfl, w1_cmd _ _ (by simp [rd, cQ])]
  rw [show (9998 : Nat) = 9997 + 1 from rfl, w2_4 _ _ ⟨[], false, false, 2, txt l, emp, o, 0, [], [false], 0, 3, 1, false, 2⟩ (by
    simp [Ed.command, Ed.choose, Ed.selects, Ed.meets, Ed.jump, Ed.doIt, cmK, cmQ, rd, cQ, qA])]
  rw [show (9997 : Nat) = 9996 + 1 from rfl, w3]
  rw [show (9996 : Nat) = 9995 + 1 from rfl, w4_stop _ _ (by simp [Ed.printSpace, cQ, Ed.print, Ed.printComing, Ed.printAll])]
  simp [Ed.printSpace, cQ, Ed.print, Ed.printComing, Ed.printAll, row_txt]
theorem feed_over (cf : Cf) : ∀ (l : List UInt8) (E : Ed), E.state ≠ 0 → E.feed mf cf l = E
  | [], E, _ => rfl
  | b :: l, E, h => by
    have e : E.feed1 mf cf b = E := by
      unfold Ed.feed1
      rw [if_neg (by simp [Ed.takes, h])]
    rw [feed_cons, e, feed_over cf l E h]
theorem end_over (cf : Cf) (E : Ed) (h : E.state ≠ 0) : E.endIt mf cf = E := by
  unfold Ed.endIt
  rw [if_neg (by simp [Ed.takes, h])]
theorem two_made (ls : List (List UInt8)) (hl : ∀ l ∈ ls, okL 80 l) : (made mf scQ false (joinN ls)).out = joinN (ls.take 2) ∧ (made mf scQ false (joinN ls)).state = if 2 ≤ ls.length then 2 else 1 := by
  have ec : cfO scQ 80 80 1000 false = cQ := cf_of read_scQ 80 80 1000 false
  unfold made fin
  rw [ec]
  match ls with
  | [] =>
    rw [show joinN [] = [] from rfl, feed_nil, end_none _ (ed0_rz cQ)]
    exact ⟨rfl, rfl⟩
  | [a] =>
    rw [joinN_cons, show joinN [] = [] from rfl, List.append_nil, q_first a (hl a (by simp)), end_none _ ⟨rfl, rfl, rfl, rfl, rfl⟩]
    exact ⟨by simp [qA, joinN], rfl⟩
  | a :: b :: r =>
    obtain ⟨h1, h2⟩ := q_second (mf := mf) b (a ++ [10]) (txt a) 1 1 (hl b (by simp))
    have h3 : ((qA (a ++ [10]) (txt a) 1 1 1).feed mf cQ (b ++ [10])).state ≠ 0 := by rw [h1]; decide
    rw [joinN_cons, joinN_cons, feed_app, q_first a (hl a (by simp)), feed_app, feed_over cQ _ _ h3, end_over cQ _ h3, h1, h2]
    exact ⟨by simp [joinN], by simp⟩


/- Each first of two. -/
def scO : ByteArray := ⟨#[110, 59, 100]⟩
theorem read_scO : readR scO = ([cmK 3, cmK 1], 0, 0) := by rfl
def cO : Cf := ⟨80, 80, 1000, false, [cmK 3, cmK 1]⟩
def oA (o : List UInt8) (p : ByteArray) (n lk at' : Nat) : Ed := ⟨[], false, false, n, p, emp, o, 0, [], [false, false], at', 0, lk, false, 0⟩
def oB (o : List UInt8) (p : List UInt8) (n : Nat) : Ed := ⟨[], false, false, n, txt p, emp, o, 0, [], [false, false], 0, 3, 1, false, 0⟩
def oC (nx o : List UInt8) (p : List UInt8) (n : Nat) : Ed := ⟨nx, false, false, n, txt p, emp, o, 0, [], [false, false], 0, 4, 1, false, 0⟩
theorem o_first (l o : List UInt8) (p : ByteArray) (n lk at' : Nat) (hl : okL 80 l) : (oA o p n lk at').feed mf cO (l ++ [10]) = oB o l (n + 1) := by
  rw [line_fed (oA o p n lk at') ⟨rfl, rfl, rfl, rfl, rfl⟩ l ⟨hl.1, hl.2, hl.2⟩]
  rw [show (9999 : Nat) = 9998 + 1 from rfl, w1_cmd _ _ (by simp [rd, cO])]
  rw [show (9998 : Nat) = 9997 + 1 from rfl, w2_0 _ _ (oB o l (n + 1)) (by
    simp [Ed.command, Ed.choose, Ed.selects, Ed.meets, Ed.jump, Ed.doIt, Ed.doNext, Ed.known, Ed.more, cmK, rd, cO, oA, oB])]
theorem o_bytes : ∀ (l nx o p : List UInt8) (n : Nat), (∀ b ∈ l, b ≠ 10) → nx.length + l.length ≤ 80 → (oC nx o p n).feed mf cO l = oC (nx ++ l) o p n
  | [], nx, o, p, n, _, _ => by rw [feed_nil, List.append_nil]
  | b :: l, nx, o, p, n, hb, hl => by
    have hb0 := hb b (by simp)
    simp only [List.length_cons] at hl
    have e : (oC nx o p n).feed1 mf cO b = oC (nx ++ [b]) o p n := by
      have hnx : ¬ 80 < nx.length + 1 := by omega
      unfold Ed.feed1
      rw [if_pos (by simp [Ed.takes, oC])]
      unfold Ed.work
      have ea : (oC nx o p n).add b = oC (nx ++ [b]) o p n := by simp [Ed.add, hb0, oC]
      rw [ea, if_neg (by simp [oC]), show (10000 : Nat) = 9999 + 1 from rfl, w2_0 _ _ (oC (nx ++ [b]) o p n) (by
        simp [Ed.command, Ed.choose, Ed.doIt, Ed.doNext, Ed.atHand, Ed.tooLong, cmK, cO, oC, hnx])]
    rw [feed_cons, e, o_bytes l (nx ++ [b]) o p n (fun c hc => hb c (by simp [hc])) (by simp; omega)]
    simp
theorem o_more (b : UInt8) (o p : List UInt8) (n : Nat) (hb : b ≠ 10) : (oB o p n).feed1 mf cO b = oC [b] (o ++ p ++ [10]) p n := by
  unfold Ed.feed1
  rw [if_pos (by simp [Ed.takes, oB])]
  unfold Ed.work
  have ea : (oB o p n).add b = ⟨[b], false, false, n, txt p, emp, o, 0, [], [false, false], 0, 3, 1, false, 0⟩ := by simp [Ed.add, hb, oB]
  rw [ea, if_neg (by simp), show (10000 : Nat) = 9999 + 1 from rfl, w2_0 _ _ (oC [b] (o ++ p ++ [10]) p n) (by
    simp [Ed.command, Ed.choose, Ed.selects, Ed.meets, Ed.known, Ed.more, Ed.doIt, Ed.doNext, Ed.atHand, Ed.tooLong, cmK, cO, oC, Ed.printSpace, Ed.printComing, Ed.printAll, Ed.print, row_txt])]
theorem o_reads (nx o p : List UInt8) (n f : Nat) (hn : nx.length ≤ 80) : Ed.workF mf cO (f + 5) 2 ⟨nx, true, false, n, txt p, emp, o, 0, [], [false, false], 0, 4, 1, false, 0⟩ = oA o (txt nx) (n + 1) 1 1 := by
  have hsz : ¬ 80 < (txt nx).size := by rw [txt_size]; omega
  have hnx : ¬ 80 < nx.length := by omega
  rw [show f + 5 = (f + 4) + 1 from rfl, w2_1 _ _ ⟨[], false, false, n + 1, txt nx, emp, o, 0, [], [false, false], 1, 4, 0, false, 0⟩ (by
    simp [Ed.command, Ed.choose, Ed.doIt, Ed.doNext, Ed.atHand, Ed.readBy, Ed.tooLong, Ed.read, Ed.way, Ed.become, hsz, hnx, cmK, cO, Ed.jump])]
  rw [show f + 4 = (f + 3) + 1 from rfl, w1_cmd _ _ (by simp [cO])]
  rw [show f + 3 = (f + 2) + 1 from rfl, w2_3 _ _ ⟨[], false, false, n + 1, txt nx, emp, o, 0, [], [false, false], 1, 3, 1, false, 0⟩ (by
    simp [Ed.command, Ed.choose, Ed.selects, Ed.meets, cmK, cO, Ed.jump, Ed.doIt])]
  rw [show f + 2 = (f + 1) + 1 from rfl, w4 _ _ (by simp [Ed.printComing, Ed.printAll]), w0_wait _ _ (by simp [Ed.printComing, Ed.printAll, Ed.atHand, Ed.tooLong])]
  rfl
theorem o_empty (o p : List UInt8) (n f : Nat) : Ed.workF mf cO (f + 1) 2 ⟨[], true, false, n, txt p, emp, o, 0, [], [false, false], 0, 3, 1, false, 0⟩ = Ed.workF mf cO (f + 1) 2 ⟨[], true, false, n, txt p, emp, o ++ p ++ [10], 0, [], [false, false], 0, 4, 1, false, 0⟩ := by
  have e : Ed.command mf cO ⟨[], true, false, n, txt p, emp, o, 0, [], [false, false], 0, 3, 1, false, 0⟩ = Ed.command mf cO ⟨[], true, false, n, txt p, emp, o ++ p ++ [10], 0, [], [false, false], 0, 4, 1, false, 0⟩ := by
    simp [Ed.command, Ed.choose, Ed.selects, Ed.meets, Ed.known, Ed.more, Ed.doIt, Ed.doNext, cmK, cO, Ed.printSpace, Ed.printComing, Ed.printAll, Ed.print, row_txt]
  simp only [Ed.workF, e]
theorem o_second (l o p : List UInt8) (n : Nat) (hl : okL 80 l) : (oB o p n).feed mf cO (l ++ [10]) = oA (o ++ p ++ [10]) (txt l) (n + 1) 1 1 := by
  cases l with
  | nil =>
    rw [List.nil_append, feed_cons, feed_nil]
    unfold Ed.feed1
    rw [if_pos (by simp [Ed.takes, oB])]
    unfold Ed.work
    have ea : (oB o p n).add 10 = ⟨[], true, false, n, txt p, emp, o, 0, [], [false, false], 0, 3, 1, false, 0⟩ := by simp [Ed.add, oB]
    rw [ea, if_neg (by simp), show (10000 : Nat) = 9999 + 1 from rfl, o_empty, show (9999 + 1 : Nat) = 9995 + 5 from rfl, o_reads _ _ _ _ _ (by simp)]
  | cons b l =>
    have hb0 := hl.1 b (by simp)
    have hl2 := hl.2
    simp only [List.length_cons] at hl2
    rw [List.cons_append, feed_cons, o_more b o p n hb0, feed_app, o_bytes l [b] _ p n (fun c hc => hl.1 c (by simp [hc])) (by simp; omega), feed_cons, feed_nil]
    unfold Ed.feed1
    rw [if_pos (by simp [Ed.takes, oC])]
    unfold Ed.work
    have ea : (oC ([b] ++ l) (o ++ p ++ [10]) p n).add 10 = ⟨b :: l, true, false, n, txt p, emp, o ++ p ++ [10], 0, [], [false, false], 0, 4, 1, false, 0⟩ := by simp [Ed.add, oC]
    rw [ea, if_neg (by simp), show (10000 : Nat) = 9995 + 5 from rfl, o_reads _ _ _ _ _ (by simp; omega)]
theorem o_end (o p : List UInt8) (n : Nat) : ((oB o p n).endIt mf cO).state = 1 ∧ ((oB o p n).endIt mf cO).out = o ++ p ++ [10] := by
  have h : (oB o p n).endIt mf cO = Ed.workF mf cO (9999 + 1) 2 ⟨[], false, true, n, txt p, emp, o, 0, [], [false, false], 0, 3, 1, false, 0⟩ := by
    unfold Ed.endIt
    rw [if_pos (by simp [Ed.takes, oB])]
    unfold Ed.work
    rw [if_neg (by simp [oB])]
    rfl
  rw [h, w2_4 _ _ ⟨[], false, true, n, txt p, emp, o, 0, [], [false, false], 0, 3, 1, false, 0⟩ (by
    simp [Ed.command, Ed.choose, Ed.selects, Ed.meets, cmK, cO, Ed.known, Ed.more, Ed.jump, Ed.doIt, Ed.doNext])]
  rw [show (9999 : Nat) = 9998 + 1 from rfl, w3, show (9998 : Nat) = 9997 + 1 from rfl, w4 _ _ (by simp [Ed.printSpace, cO, Ed.print, Ed.printComing, Ed.printAll]), show (9997 : Nat) = 9996 + 1 from rfl, w0_end _ _ (by simp [Ed.printSpace, cO, Ed.print, Ed.printComing, Ed.printAll, Ed.atHand]) (by simp [Ed.printSpace, cO, Ed.print, Ed.printComing, Ed.printAll, Ed.more])]
  simp [Ed.printSpace, cO, Ed.print, Ed.printComing, Ed.printAll, row_txt]
theorem o_lines : ∀ (ls : List (List UInt8)) (o p : List UInt8) (q : ByteArray) (n lk at' i : Nat), (∀ l ∈ ls, okL 80 l) →
    (i % 2 = 0 → (((oA o q n lk at').feed mf cO (joinN ls)).endIt mf cO).state = 1 ∧ (((oA o q n lk at').feed mf cO (joinN ls)).endIt mf cO).out = o ++ oddF i ls) ∧
    (i % 2 = 1 → (((oB o p n).feed mf cO (joinN ls)).endIt mf cO).state = 1 ∧ (((oB o p n).feed mf cO (joinN ls)).endIt mf cO).out = o ++ p ++ [10] ++ oddF i ls)
  | [], o, p, q, n, lk, at', i, _ => by
    refine ⟨fun _ => ?_, fun _ => ?_⟩
    · rw [show joinN [] = [] from rfl, feed_nil, end_none _ ⟨rfl, rfl, rfl, rfl, rfl⟩]
      exact ⟨rfl, by simp [oA, oddF]⟩
    · rw [show joinN [] = [] from rfl, feed_nil]
      have := o_end (mf := mf) o p n
      exact ⟨this.1, by rw [this.2]; simp [oddF]⟩
  | l :: ls, o, p, q, n, lk, at', i, hl => by
    have h1 := hl l (by simp)
    have h2 := fun m hm => hl m (List.mem_cons_of_mem _ hm)
    refine ⟨fun hi => ?_, fun hi => ?_⟩
    · have := (o_lines ls o l emp (n + 1) 1 1 (i + 1) h2).2 (by omega)
      rw [joinN_cons, feed_app, o_first l o q n lk at' h1]
      exact ⟨this.1, by rw [this.2, oddF, if_pos hi]; simp⟩
    · have := (o_lines ls (o ++ p ++ [10]) [] (txt l) (n + 1) 1 1 (i + 1) h2).1 (by omega)
      rw [joinN_cons, feed_app, o_second l o p n h1]
      exact ⟨this.1, by rw [this.2, oddF, if_neg (by omega)]; simp⟩
theorem makes_O (ls : List (List UInt8)) (hl : ∀ l ∈ ls, okL 80 l) : Makes mf scO false (joinN ls) (oddF 0 ls) := by
  refine ⟨opens_of read_scO _ _ _ alw_wide, ?_⟩
  have ec : cfO scO 80 80 1000 false = cO := cf_of read_scO 80 80 1000 false
  unfold made fin
  rw [ec, show ed0 cO = oA [] emp 0 0 0 from rfl]
  have := (o_lines (mf := mf) ls [] [] emp 0 0 0 0 hl).1 rfl
  simpa using this

/- The last one. -/
def cmL1 : Cm := { cmK 1 with fst := ⟨2, 0, emp⟩, neg := true }
def scL : ByteArray := ⟨#[36, 33, 100]⟩
theorem read_scL : readR scL = ([cmL1], 0, 0) := by rfl
def cL : Cf := ⟨80, 80, 1000, false, [cmL1]⟩
def lB (p : List UInt8) (n : Nat) : Ed := ⟨[], false, false, n, txt p, emp, [], 0, [], [false], 0, 2, 1, false, 0⟩
def lC (nx : List UInt8) (p : List UInt8) (n : Nat) : Ed := ⟨nx, false, false, n, txt p, emp, [], 0, [], [false], 0, 0, 1, false, 0⟩
theorem l_read (en : Bool) (p q : List UInt8) (n f : Nat) (sg lk : Nat) : Ed.workF mf cL (f + 2) 1 ⟨[], false, false, n, txt p, emp, [], 0, [], [false], 0, sg, 0, false, 0⟩ = lB p n := by
  rw [show f + 2 = (f + 1) + 1 from rfl, w1_cmd _ _ (by simp [cL])]
  rw [w2_0 _ _ (lB p n) (by
    simp [Ed.command, Ed.choose, Ed.selects, Ed.meets, Ed.known, Ed.more, cmK, cmL1, cL, lB])]
theorem l_first (l : List UInt8) (hl : okL 80 l) : (ed0 cL).feed mf cL (l ++ [10]) = lB l 1 := by
  rw [line_fed (ed0 cL) (ed0_rz cL) l ⟨hl.1, hl.2, hl.2⟩]
  exact l_read false l l 1 9997 0 0
theorem l_more (b : UInt8) (p : List UInt8) (n : Nat) (hb : b ≠ 10) : (lB p n).feed1 mf cL b = lC [b] p n := by
  unfold Ed.feed1
  rw [if_pos (by simp [Ed.takes, lB])]
  unfold Ed.work
  have ea : (lB p n).add b = ⟨[b], false, false, n, txt p, emp, [], 0, [], [false], 0, 2, 1, false, 0⟩ := by simp [Ed.add, hb, lB]
  rw [ea, if_neg (by simp), show (10000 : Nat) = 9999 + 1 from rfl, w2_3 _ _ ⟨[b], false, false, n, txt p, emp, [], 0, [], [false], 0, 3, 1, false, 0⟩ (by
    simp [Ed.command, Ed.choose, Ed.selects, Ed.meets, Ed.known, Ed.more, Ed.doIt, cmK, cmL1, cL])]
  rw [show (9999 : Nat) = 9998 + 1 from rfl, w4 _ _ (by simp [Ed.printComing, Ed.printAll]), show (9998 : Nat) = 9997 + 1 from rfl, w0_wait _ _ (by simp [Ed.printComing, Ed.printAll, Ed.atHand, Ed.tooLong, cL])]
  rfl
theorem l_nl (nx p : List UInt8) (n f sg lk : Nat) (hn : nx.length ≤ 80) : Ed.workF mf cL (f + 3) 0 ⟨nx, true, false, n, txt p, emp, [], 0, [], [false], 0, sg, lk, false, 0⟩ = lB nx (n + 1) := by
  rw [show f + 3 = (f + 2) + 1 from rfl, w0_line _ _ (by simp [Ed.atHand]) (by simp [Ed.more]) hn hn]
  exact l_read false nx nx (n + 1) f 0 0
theorem l_line (l p : List UInt8) (n : Nat) (hl : okL 80 l) : (lB p n).feed mf cL (l ++ [10]) = lB l (n + 1) := by
  cases l with
  | nil =>
    rw [List.nil_append, feed_cons, feed_nil]
    unfold Ed.feed1
    rw [if_pos (by simp [Ed.takes, lB])]
    unfold Ed.work
    have ea : (lB p n).add 10 = ⟨[], true, false, n, txt p, emp, [], 0, [], [false], 0, 2, 1, false, 0⟩ := by simp [Ed.add, lB]
    rw [ea, if_neg (by simp), show (10000 : Nat) = 9999 + 1 from rfl, w2_3 _ _ ⟨[], true, false, n, txt p, emp, [], 0, [], [false], 0, 3, 1, false, 0⟩ (by
      simp [Ed.command, Ed.choose, Ed.selects, Ed.meets, Ed.known, Ed.more, Ed.doIt, cmK, cmL1, cL])]
    rw [show (9999 : Nat) = 9998 + 1 from rfl, w4 _ _ (by simp [Ed.printComing, Ed.printAll])]
    exact l_nl [] p n 9995 3 1 (by simp)
  | cons b l =>
    have hb0 := hl.1 b (by simp)
    have hl2 := hl.2
    simp only [List.length_cons] at hl2
    have hb := feed_bytes (mf := mf) (cf := cL) l (lC [b] p n) rfl rfl rfl rfl (fun c hc => hl.1 c (by simp [hc])) (by simp [lC, cL]; omega)
    rw [List.cons_append, feed_cons, l_more b p n hb0, feed_app, hb, feed_cons, feed_nil]
    unfold Ed.feed1
    rw [if_pos (by simp [Ed.takes, lC])]
    unfold Ed.work
    have ea : Ed.add { lC [b] p n with next := (lC [b] p n).next ++ l } 10 = ⟨b :: l, true, false, n, txt p, emp, [], 0, [], [false], 0, 0, 1, false, 0⟩ := by simp [Ed.add, lC]
    rw [ea, if_pos rfl]
    exact l_nl (b :: l) p n 9997 0 1 (by simp; omega)
theorem l_lines : ∀ (ls : List (List UInt8)) (p : List UInt8) (n : Nat), (∀ l ∈ ls, okL 80 l) → ∃ p' n', (lB p n).feed mf cL (joinN ls) = lB p' n' ∧ p' ++ [10] = lastOf (p :: ls)
  | [], p, n, _ => ⟨p, n, rfl, rfl⟩
  | l :: ls, p, n, hl => by
    obtain ⟨p', n', e1, e2⟩ := l_lines ls l (n + 1) fun m hm => hl m (List.mem_cons_of_mem _ hm)
    refine ⟨p', n', ?_, ?_⟩
    · rw [joinN_cons, feed_app, l_line l p n (hl l (by simp)), e1]
    · rw [e2]
      rfl
theorem l_end (p : List UInt8) (n : Nat) : ((lB p n).endIt mf cL).state = 1 ∧ ((lB p n).endIt mf cL).out = p ++ [10] := by
  have h : (lB p n).endIt mf cL = Ed.workF mf cL (9999 + 1) 2 ⟨[], false, true, n, txt p, emp, [], 0, [], [false], 0, 2, 1, false, 0⟩ := by
    unfold Ed.endIt
    rw [if_pos (by simp [Ed.takes, lB])]
    unfold Ed.work
    rw [if_neg (by simp [lB])]
    rfl
  rw [h, w2_1 _ _ ⟨[], false, true, n, txt p, emp, [], 0, [], [false], 1, 2, 1, false, 0⟩ (by
    simp [Ed.command, Ed.choose, Ed.selects, Ed.meets, cmK, cmL1, cL, Ed.known, Ed.more, Ed.jump])]
  rw [show (9999 : Nat) = 9998 + 1 from rfl, w1_end _ _ rfl, show (9998 : Nat) = 9997 + 1 from rfl, w3, show (9997 : Nat) = 9996 + 1 from rfl, w4 _ _ (by simp [Ed.printSpace, cL, Ed.print, Ed.printComing, Ed.printAll]), show (9996 : Nat) = 9995 + 1 from rfl, w0_end _ _ (by simp [Ed.printSpace, cL, Ed.print, Ed.printComing, Ed.printAll, Ed.atHand]) (by simp [Ed.printSpace, cL, Ed.print, Ed.printComing, Ed.printAll, Ed.more])]
  simp [Ed.printSpace, cL, Ed.print, Ed.printComing, Ed.printAll, row_txt]
theorem makes_L (ls : List (List UInt8)) (hl : ∀ l ∈ ls, okL 80 l) : Makes mf scL false (joinN ls) (lastOf ls) := by
  refine ⟨opens_of read_scL _ _ _ alw_wide, ?_⟩
  have ec : cfO scL 80 80 1000 false = cL := cf_of read_scL 80 80 1000 false
  unfold made fin
  rw [ec]
  cases ls with
  | nil => exact ⟨rfl, rfl⟩
  | cons l ls =>
    obtain ⟨p', n', e1, e2⟩ := l_lines (mf := mf) ls l 1 fun m hm => hl m (List.mem_cons_of_mem _ hm)
    rw [joinN_cons, feed_app, l_first l (hl l (by simp)), e1, ← e2]
    exact l_end p' n'

/- The order turned. -/
def cmG1 : Cm := { cmK 8 with fst := ⟨1, 1, emp⟩, neg := true }
def scB : ByteArray := ⟨#[49, 33, 71, 59, 104, 59, 36, 33, 100]⟩
theorem read_scB : readR scB = ([cmG1, cmK 9, cmL1], 0, 0) := by rfl
def cB : Cf := ⟨80, 80, 1000, false, [cmG1, cmK 9, cmL1]⟩
def bB (p : List UInt8) (n : Nat) : Ed := ⟨[], false, false, n, txt p, txt p, [], 0, [], [false, false, false], 2, 2, 3, false, 0⟩
def bC (nx : List UInt8) (p : List UInt8) (n : Nat) : Ed := ⟨nx, false, false, n, txt p, txt p, [], 0, [], [false, false, false], 2, 0, 3, false, 0⟩
theorem b_rest (p : List UInt8) (hd : ByteArray) (n f sg : Nat) (hp : p.length ≤ 80) : Ed.workF mf cB (f + 4) 1 ⟨[], false, false, n, txt p, hd, [], 0, [], [false, false, false], 1, sg, 1, false, 0⟩ = bB p n := by
  have hsz : ¬ 80 < (txt p).size := by rw [txt_size]; omega
  rw [show f + 4 = (f + 3) + 1 from rfl, w1_cmd _ _ (by simp [cB])]
  rw [show f + 3 = (f + 2) + 1 from rfl, w2_1 _ _ ⟨[], false, false, n, txt p, txt p, [], 0, [], [false, false, false], 2, 3, 2, false, 0⟩ (by
    simp [Ed.command, Ed.choose, Ed.selects, Ed.meets, Ed.known, Ed.more, Ed.doIt, Ed.edit, Ed.holds, hsz, Ed.jump, cmK, cmG1, cB])]
  rw [show f + 2 = (f + 1) + 1 from rfl, w1_cmd _ _ (by simp [cB])]
  rw [w2_0 _ _ (bB p n) (by
    simp [Ed.command, Ed.choose, Ed.selects, Ed.meets, Ed.known, Ed.more, cmK, cmL1, cB, bB])]
theorem b_first (l : List UInt8) (hl : okL 80 l) : (ed0 cB).feed mf cB (l ++ [10]) = bB l 1 := by
  rw [line_fed (ed0 cB) (ed0_rz cB) l ⟨hl.1, hl.2, hl.2⟩]
  rw [show (9999 : Nat) = 9998 + 1 from rfl, w1_cmd _ _ (by simp [rd, cB])]
  rw [show (9998 : Nat) = 9997 + 1 from rfl, w2_1 _ _ ⟨[], false, false, 1, txt l, emp, [], 0, [], [false, false, false], 1, 2, 1, false, 0⟩ (by
    simp [Ed.command, Ed.choose, Ed.selects, Ed.meets, Ed.jump, cmK, cmG1, rd, cB, ed0])]
  exact b_rest l emp 1 9993 2 hl.2
theorem b_nl (nx p : List UInt8) (n f sg lk at' : Nat) (hn : nx.length + 1 + p.length ≤ 80) (h1 : 1 ≤ n) : Ed.workF mf cB (f + 7) 0 ⟨nx, true, false, n, txt p, txt p, [], 0, [], [false, false, false], at', sg, lk, false, 0⟩ = bB (nx ++ 10 :: p) (n + 1) := by
  have hsz : ¬ 80 < (txt (nx ++ 10 :: p)).size := by rw [txt_size, List.length_append, List.length_cons]; omega
  have h2 : ¬ 1 = n + 1 := by omega
  have h3 : n ≠ 0 := by omega
  rw [show f + 7 = (f + 6) + 1 from rfl, w0_line _ _ (by simp [Ed.atHand]) (by simp [Ed.more]) (by show nx.length ≤ 80; omega) (by show nx.length ≤ 80; omega)]
  rw [show f + 6 = (f + 5) + 1 from rfl, w1_cmd _ _ (by simp [rd, cB])]
  rw [show f + 5 = (f + 4) + 1 from rfl, w2_1 _ _ ⟨[], false, false, n + 1, txt (nx ++ 10 :: p), txt p, [], 0, [], [false, false, false], 1, 3, 1, false, 0⟩ (by
    simp [Ed.command, Ed.choose, Ed.selects, Ed.meets, Ed.jump, Ed.doIt, Ed.edit, Ed.grow, Ed.become, join_two, hsz, h2, h3, cmK, cmG1, rd, cB])]
  exact b_rest _ _ _ f 3 (by rw [List.length_append, List.length_cons]; omega)
theorem b_more (b : UInt8) (p : List UInt8) (n : Nat) (hb : b ≠ 10) : (bB p n).feed1 mf cB b = bC [b] p n := by
  unfold Ed.feed1
  rw [if_pos (by simp [Ed.takes, bB])]
  unfold Ed.work
  have ea : (bB p n).add b = ⟨[b], false, false, n, txt p, txt p, [], 0, [], [false, false, false], 2, 2, 3, false, 0⟩ := by simp [Ed.add, hb, bB]
  rw [ea, if_neg (by simp), show (10000 : Nat) = 9999 + 1 from rfl, w2_3 _ _ ⟨[b], false, false, n, txt p, txt p, [], 0, [], [false, false, false], 2, 3, 3, false, 0⟩ (by
    simp [Ed.command, Ed.choose, Ed.selects, Ed.meets, Ed.known, Ed.more, Ed.doIt, cmK, cmL1, cB])]
  rw [show (9999 : Nat) = 9998 + 1 from rfl, w4 _ _ (by simp [Ed.printComing, Ed.printAll]), show (9998 : Nat) = 9997 + 1 from rfl, w0_wait _ _ (by simp [Ed.printComing, Ed.printAll, Ed.atHand, Ed.tooLong, cB])]
  rfl
theorem b_line (l p : List UInt8) (n : Nat) (hl : ∀ b ∈ l, b ≠ 10) (hs : l.length + 1 + p.length ≤ 80) (h1 : 1 ≤ n) : (bB p n).feed mf cB (l ++ [10]) = bB (l ++ 10 :: p) (n + 1) := by
  cases l with
  | nil =>
    rw [List.nil_append, feed_cons, feed_nil]
    unfold Ed.feed1
    rw [if_pos (by simp [Ed.takes, bB])]
    unfold Ed.work
    have ea : (bB p n).add 10 = ⟨[], true, false, n, txt p, txt p, [], 0, [], [false, false, false], 2, 2, 3, false, 0⟩ := by simp [Ed.add, bB]
    rw [ea, if_neg (by simp), show (10000 : Nat) = 9999 + 1 from rfl, w2_3 _ _ ⟨[], true, false, n, txt p, txt p, [], 0, [], [false, false, false], 2, 3, 3, false, 0⟩ (by
      simp [Ed.command, Ed.choose, Ed.selects, Ed.meets, Ed.known, Ed.more, Ed.doIt, cmK, cmL1, cB])]
    rw [show (9999 : Nat) = 9998 + 1 from rfl, w4 _ _ (by simp [Ed.printComing, Ed.printAll])]
    exact b_nl [] p n 9991 3 3 2 hs h1
  | cons b l =>
    have hb0 := hl b (by simp)
    simp only [List.length_cons] at hs
    have hb := feed_bytes (mf := mf) (cf := cB) l (bC [b] p n) rfl rfl rfl rfl (fun c hc => hl c (by simp [hc])) (by simp [bC, cB]; omega)
    rw [List.cons_append, feed_cons, b_more b p n hb0, feed_app, hb, feed_cons, feed_nil]
    unfold Ed.feed1
    rw [if_pos (by simp [Ed.takes, bC])]
    unfold Ed.work
    have ea : Ed.add { bC [b] p n with next := (bC [b] p n).next ++ l } 10 = ⟨b :: l, true, false, n, txt p, txt p, [], 0, [], [false, false, false], 2, 0, 3, false, 0⟩ := by simp [Ed.add, bC]
    rw [ea, if_pos rfl]
    exact b_nl (b :: l) p n 9993 0 3 2 (by simpa using hs) h1
theorem b_lines : ∀ (ls : List (List UInt8)) (p : List UInt8) (n : Nat), (∀ l ∈ ls, okL 10 l) → 1 ≤ n → p.length + 11 * ls.length ≤ 80 → ∃ p' n', (bB p n).feed mf cB (joinN ls) = bB p' n' ∧ p' ++ [10] = joinN ls.reverse ++ (p ++ [10])
  | [], p, n, _, _, _ => ⟨p, n, rfl, by simp [joinN]⟩
  | l :: ls, p, n, hl, h1, hs => by
    have h2 := hl l (by simp)
    have h3 := h2.2
    simp only [List.length_cons] at hs
    obtain ⟨p', n', e1, e2⟩ := b_lines ls (l ++ 10 :: p) (n + 1) (fun m hm => hl m (List.mem_cons_of_mem _ hm)) (by omega) (by rw [List.length_append, List.length_cons]; omega)
    refine ⟨p', n', ?_, ?_⟩
    · rw [joinN_cons, feed_app, b_line l p n h2.1 (by omega) h1, e1]
    · rw [e2, List.reverse_cons, joinN_snoc]
      simp
theorem b_end (p : List UInt8) (n : Nat) : ((bB p n).endIt mf cB).state = 1 ∧ ((bB p n).endIt mf cB).out = p ++ [10] := by
  have h : (bB p n).endIt mf cB = Ed.workF mf cB (9999 + 1) 2 ⟨[], false, true, n, txt p, txt p, [], 0, [], [false, false, false], 2, 2, 3, false, 0⟩ := by
    unfold Ed.endIt
    rw [if_pos (by simp [Ed.takes, bB])]
    unfold Ed.work
    rw [if_neg (by simp [bB])]
    rfl
  rw [h, w2_1 _ _ ⟨[], false, true, n, txt p, txt p, [], 0, [], [false, false, false], 3, 2, 3, false, 0⟩ (by
    simp [Ed.command, Ed.choose, Ed.selects, Ed.meets, cmK, cmL1, cB, Ed.known, Ed.more, Ed.jump])]
  rw [show (9999 : Nat) = 9998 + 1 from rfl, w1_end _ _ rfl, show (9998 : Nat) = 9997 + 1 from rfl, w3, show (9997 : Nat) = 9996 + 1 from rfl, w4 _ _ (by simp [Ed.printSpace, cB, Ed.print, Ed.printComing, Ed.printAll]), show (9996 : Nat) = 9995 + 1 from rfl, w0_end _ _ (by simp [Ed.printSpace, cB, Ed.print, Ed.printComing, Ed.printAll, Ed.atHand]) (by simp [Ed.printSpace, cB, Ed.print, Ed.printComing, Ed.printAll, Ed.more])]
  simp [Ed.printSpace, cB, Ed.print, Ed.printComing, Ed.printAll, row_txt]
theorem makes_B (ls : List (List UInt8)) (hl : ∀ l ∈ ls, okL 10 l) (hn : ls.length ≤ 6) : Makes mf scB false (joinN ls) (joinN ls.reverse) := by
  refine ⟨opens_of read_scB _ _ _ alw_wide, ?_⟩
  have ec : cfO scB 80 80 1000 false = cB := cf_of read_scB 80 80 1000 false
  unfold made fin
  rw [ec]
  cases ls with
  | nil => exact ⟨rfl, rfl⟩
  | cons l ls =>
    have h1 := hl l (by simp)
    have h2 := h1.2
    simp only [List.length_cons] at hn
    obtain ⟨p', n', e1, e2⟩ := b_lines (mf := mf) ls l 1 (fun m hm => hl m (List.mem_cons_of_mem _ hm)) (by omega) (by omega)
    rw [joinN_cons, feed_app, b_first l ⟨h1.1, by omega⟩, e1, List.reverse_cons, joinN_snoc, ← e2]
    exact b_end p' n'
end
end Ee
end Go.Proofs.YtppjlpihaocdiabGreatDoor

set_option linter.unusedSimpArgs false
set_option linter.unusedVariables false
namespace Go.Proofs.YtppjlpihaocdiabGreatDoor
namespace Ee
open Rs (Cm Wh Pc readR)

def runs (S : Nat) : Nat → List UInt8 → Bool
  | _, [] => true
  | k, b :: l => if b = 10 then runs S 0 l else decide (k + 1 ≤ S) && runs S (k + 1) l
theorem runs_line (S : Nat) (m : List UInt8) : ∀ (p : List UInt8) (k : Nat), k + p.length ≤ S → runs S 0 m = true → runs S k (p ++ 10 :: m) = true
  | [], k, _, hm => by simp [runs, hm]
  | b :: p, k, h, hm => by
    simp only [List.length_cons] at h
    rw [List.cons_append, runs]
    by_cases hb : b = 10
    · rw [if_pos hb]
      exact runs_line S m p 0 (by omega) hm
    · rw [if_neg hb, runs_line S m p (k + 1) (by omega) hm]
      simp
      omega
theorem runs_lines (S : Nat) : ∀ (ps : List (List UInt8)), (∀ p ∈ ps, p.length ≤ S) → runs S 0 (joinN ps) = true
  | [], _ => rfl
  | p :: ps, h => by
    rw [joinN_cons, List.append_assoc, List.singleton_append]
    exact runs_line S _ p 0 (by have := h p (by simp); omega) (runs_lines S ps fun q hq => h q (List.mem_cons_of_mem _ hq))

section
variable {mf : Mf}

theorem lim_E (L S c : Nat) (ls : List (List UInt8)) (hs : L ≤ S) (hl : ∀ l ∈ ls, okL L l) : (fin mf ⟨L, S, c, false, []⟩ (joinN ls)).out = joinN ls ∧ (fin mf ⟨L, S, c, false, []⟩ (joinN ls)).state = 1 := by
  have P := prompt_E (mf := mf) L S c false L (Nat.le_refl _) hs
  rw [P.all rfl ls hl]
  refine ⟨?_, rfl⟩
  show (ls.foldl (cyc (gE false)) (ed0 _)).out = _
  rw [fold_E]
  simp [ed0]

theorem long_line (cf : Cf) (E : Ed) (h : Rz E) (l : List UInt8) (hn : ∀ b ∈ l, b ≠ 10) (hl : l.length = cf.line + 1) : (E.feed mf cf l).state = 3 ∧ (E.feed mf cf l).out = E.out := by
  obtain ⟨b, m, hm⟩ : ∃ b m, l = m ++ [b] := ⟨l.getLast (by intro e; rw [e] at hl; simp at hl), l.dropLast, (List.dropLast_concat_getLast _).symm⟩
  subst hm
  have hm1 : m.length = cf.line := by simp at hl; omega
  have hb0 := hn b (by simp)
  rw [feed_app, feed_bytes m E h.stage h.state h.ended h.whole (fun c hc => hn c (by simp [hc])) (by rw [h.next]; simp; omega), h.next, List.nil_append, feed_cons, feed_nil]
  have ht : Ed.takes { E with next := m } = true := by simp [Ed.takes, h.state, h.ended]
  have ea : Ed.add { E with next := m } b = { E with next := m ++ [b] } := by simp [Ed.add, hb0]
  unfold Ed.feed1
  rw [if_pos ht, ea]
  unfold Ed.work
  rw [if_pos h.stage, show (10000 : Nat) = 9999 + 1 from rfl]
  have h1 : Ed.atHand cf { E with next := m ++ [b], stage := 0 } = true := by simp [Ed.atHand, Ed.tooLong]; omega
  have h2 : Ed.more { E with next := m ++ [b], stage := 0 } = true := by simp [Ed.more]
  have h3 : Ed.tooLong cf { E with next := m ++ [b], stage := 0 } = true := by simp [Ed.tooLong]; omega
  simp [Ed.workF, Ed.begin, h1, h2, h3, Ed.readBy]

theorem lim_long (L S c : Nat) (ls : List (List UInt8)) (x y : List UInt8) (hs : L ≤ S) (hl : ∀ l ∈ ls, okL L l) (hx : ∀ b ∈ x, b ≠ 10) (hxl : x.length = L + 1) : (fin mf ⟨L, S, c, false, []⟩ (joinN ls ++ x ++ y)).out = joinN ls ∧ (fin mf ⟨L, S, c, false, []⟩ (joinN ls ++ x ++ y)).state = 3 := by
  have P := prompt_E (mf := mf) L S c false L (Nat.le_refl _) hs
  obtain ⟨d1, d2, d3⟩ := P.lines ls (ed0 _) (ed0_rz _) rfl hl
  obtain ⟨k1, k2⟩ := long_line (mf := mf) ⟨L, S, c, false, []⟩ _ d2 x hx hxl
  unfold fin
  rw [feed_app, feed_app, d1, feed_over _ _ _ (by rw [k1]; decide), end_over _ _ (by rw [k1]; decide), k1, k2, fold_E]
  simp [ed0]

/- A substitution, then the end of the script. -/
def cmS (p : ByteArray) (t : List Pc) (n : Nat) (a : Bool) : Cm := ⟨19, ⟨0, 0, emp⟩, ⟨0, 0, emp⟩, false, 0, emp, p, t, n, a, false, emp, emp⟩
def scX : ByteArray := ⟨#[115, 47, 120, 47, 120, 120, 47, 103, 59, 98]⟩
def cmX : Cm := cmS ⟨#[120]⟩ [⟨-1, 120⟩, ⟨-1, 120⟩] 1 true
def cmJ : Cm := { cmK 17 with goal := 2 }
theorem read_scX : readR scX = ([cmX, cmJ], 0, 0) := by rfl

theorem x_line (L S c : Nat) (hc : 1 < c) (E : Ed) (h : Rz E) (hk : E.coming = []) (l : List UInt8) (hl : okL L l) (hs : L ≤ S) :
    (Rz (E.feed mf ⟨L, S, c, false, [cmX, cmJ]⟩ (l ++ [10])) ∧ (E.feed mf ⟨L, S, c, false, [cmX, cmJ]⟩ (l ++ [10])).coming = [] ∧ ∃ p : List UInt8, p.length ≤ S ∧ (E.feed mf ⟨L, S, c, false, [cmX, cmJ]⟩ (l ++ [10])).out = E.out ++ p ++ [10]) ∨
    ((E.feed mf ⟨L, S, c, false, [cmX, cmJ]⟩ (l ++ [10])).state = 4 ∧ (E.feed mf ⟨L, S, c, false, [cmX, cmJ]⟩ (l ++ [10])).out = E.out) := by
  have hc0 : 0 ≠ c := by omega
  have hc1 : 1 ≠ c := by omega
  have hl2 := hl.2
  have tail : ∀ (p : ByteArray) (b : Bool) (f : Nat), p.size ≤ S → Ed.workF mf ⟨L, S, c, false, [cmX, cmJ]⟩ (f + 6) 1 { rd E l with looked := 1, stage := 3, at' := 1, pat := p, put := b } = { rd E l with looked := 2, stage := 0, at' := 2, pat := p, put := b, out := E.out ++ row p ++ [10] } := fun p b f hp => by
    rw [show f + 6 = (f + 5) + 1 from rfl, w1_cmd _ _ (by simp)]
    rw [show f + 5 = (f + 4) + 1 from rfl, w2_1 _ _ { rd E l with looked := 2, stage := 3, at' := 2, pat := p, put := b } (by
      simp [Ed.command, Ed.choose, Ed.selects, Ed.meets, Ed.doIt, Ed.jump, cmJ, cmK, rd, hc1])]
    rw [show f + 4 = (f + 3) + 1 from rfl, w1_end _ _ rfl, show f + 3 = (f + 2) + 1 from rfl, w3]
    have e : (Ed.printSpace ⟨L, S, c, false, [cmX, cmJ]⟩ { rd E l with looked := 2, stage := 3, at' := 2, pat := p, put := b }).printComing = { rd E l with looked := 2, stage := 3, at' := 2, pat := p, put := b, out := E.out ++ row p ++ [10] } := by
      simp [Ed.printSpace, Ed.printComing, rd, hk, Ed.print, Ed.printAll, row_txt]
    rw [show f + 2 = (f + 1) + 1 from rfl, w4 _ _ (by rw [e]; exact h.state), e, w0_wait _ _ (by simp [rd, Ed.atHand, Ed.tooLong, h.ended])]
  rw [line_fed E h l ⟨hl.1, hl.2, by show l.length ≤ S; omega⟩]
  rw [show (9999 : Nat) = 9998 + 1 from rfl, w1_cmd _ _ (by simp [rd])]
  have hco : Ed.command mf ⟨L, S, c, false, [cmX, cmJ]⟩ { rd E l with stage := 1 } = match Ed.subst mf ⟨L, S, c, false, [cmX, cmJ]⟩ { rd E l with looked := 1, stage := 3 } cmX with
      | none => ({ rd E l with looked := 1, stage := 3, state := 4 }, 0)
      | some E1 => ({ E1 with at' := E1.at' + 1 }, 1) := by
    simp only [Ed.command, Ed.choose, Ed.selects, Ed.meets, Ed.doIt, Ed.edit, Ed.jump, Ed.stop, rd, hc0, cmX, cmS]
    simp [hc0]
    generalize Ed.subst mf _ _ _ = q
    cases q <;> rfl
  by_cases hr : (repl mf cmX (txt l)).2 = true
  · by_cases hz : S < (repl mf cmX (txt l)).1.size
    · right
      have e : Ed.subst mf ⟨L, S, c, false, [cmX, cmJ]⟩ { rd E l with looked := 1, stage := 3 } cmX = none := by
        simp [Ed.subst, rd, hr, Ed.become, hz]
      rw [e] at hco
      rw [show (9998 : Nat) = 9997 + 1 from rfl, w2_0 _ _ _ hco]
      exact ⟨rfl, rfl⟩
    · left
      have e : Ed.subst mf ⟨L, S, c, false, [cmX, cmJ]⟩ { rd E l with looked := 1, stage := 3 } cmX = some { rd E l with looked := 1, stage := 3, pat := (repl mf cmX (txt l)).1, put := true } := by
        simp [Ed.subst, rd, hr, Ed.become, hz]
        simp [cmX, cmS]
      rw [e] at hco
      rw [show (9998 : Nat) = 9997 + 1 from rfl, w2_1 _ _ _ hco, show (9997 : Nat) = 9991 + 6 from rfl]
      have ht := tail (repl mf cmX (txt l)).1 true 9991 (by omega)
      have e2 : ({ ({ rd E l with looked := 1, stage := 3, pat := (repl mf cmX (txt l)).1, put := true } : Ed) with at' := (rd E l).at' + 1 } : Ed) = { rd E l with looked := 1, stage := 3, at' := 1, pat := (repl mf cmX (txt l)).1, put := true } := rfl
      rw [e2, ht]
      refine ⟨⟨rfl, rfl, h.ended, rfl, h.state⟩, hk, row (repl mf cmX (txt l)).1, ?_, rfl⟩
      show (repl mf cmX (txt l)).1.size ≤ S
      omega
  · left
    have e : Ed.subst mf ⟨L, S, c, false, [cmX, cmJ]⟩ { rd E l with looked := 1, stage := 3 } cmX = some { rd E l with looked := 1, stage := 3 } := by
      simp [Ed.subst, rd, hr]
    rw [e] at hco
    rw [show (9998 : Nat) = 9997 + 1 from rfl, w2_1 _ _ _ hco, show (9997 : Nat) = 9991 + 6 from rfl]
    have ht := tail (txt l) false 9991 (by rw [txt_size]; omega)
    have e2 : ({ ({ rd E l with looked := 1, stage := 3 } : Ed) with at' := (rd E l).at' + 1 } : Ed) = { rd E l with looked := 1, stage := 3, at' := 1, pat := txt l, put := false } := rfl
    rw [e2, ht]
    refine ⟨⟨rfl, rfl, h.ended, rfl, h.state⟩, hk, l, by omega, ?_⟩
    show E.out ++ row (txt l) ++ [10] = _
    rw [row_txt]

theorem x_lines (L S c : Nat) (hc : 1 < c) (hs : L ≤ S) : ∀ (ls : List (List UInt8)) (E : Ed), Rz E → E.coming = [] → (∀ l ∈ ls, okL L l) →
    ∃ ps : List (List UInt8), (∀ p ∈ ps, p.length ≤ S) ∧ (E.feed mf ⟨L, S, c, false, [cmX, cmJ]⟩ (joinN ls)).out = E.out ++ joinN ps ∧ (Rz (E.feed mf ⟨L, S, c, false, [cmX, cmJ]⟩ (joinN ls)) ∨ (E.feed mf ⟨L, S, c, false, [cmX, cmJ]⟩ (joinN ls)).state = 4)
  | [], E, h, _, _ => ⟨[], by simp, by simp [joinN, feed_nil], .inl h⟩
  | l :: ls, E, h, hk, hl => by
    rw [joinN_cons, feed_app]
    rcases x_line (mf := mf) L S c hc E h hk l (hl l (by simp)) hs with ⟨h1, h2, p, h3, h4⟩ | ⟨h1, h2⟩
    · obtain ⟨ps, k1, k2, k3⟩ := x_lines L S c hc hs ls _ h1 h2 fun m hm => hl m (List.mem_cons_of_mem _ hm)
      refine ⟨p :: ps, fun q hq => ?_, ?_, k3⟩
      · rcases List.mem_cons.1 hq with rfl | hq
        · exact h3
        · exact k1 q hq
      · rw [k2, h4, joinN_cons]
        simp
    · rw [feed_over _ _ _ (by rw [h1]; decide)]
      exact ⟨[], by simp, by rw [h2]; simp [joinN], .inr h1⟩

theorem lim_X (L S c : Nat) (ls : List (List UInt8)) (hc : 1 < c) (hs : L ≤ S) (hl : ∀ l ∈ ls, okL L l) : runs S 0 (fin mf ⟨L, S, c, false, [cmX, cmJ]⟩ (joinN ls)).out = true ∧ ((fin mf ⟨L, S, c, false, [cmX, cmJ]⟩ (joinN ls)).state = 1 ∨ (fin mf ⟨L, S, c, false, [cmX, cmJ]⟩ (joinN ls)).state = 4) := by
  obtain ⟨ps, k1, k2, k3⟩ := x_lines (mf := mf) L S c hc hs ls (ed0 ⟨L, S, c, false, [cmX, cmJ]⟩) (ed0_rz _) rfl hl
  have k4 : ((ed0 ⟨L, S, c, false, [cmX, cmJ]⟩).feed mf ⟨L, S, c, false, [cmX, cmJ]⟩ (joinN ls)).out = joinN ps := k2
  unfold fin
  rcases k3 with k3 | k3
  · rw [end_none _ k3]
    refine ⟨?_, .inl rfl⟩
    show runs S 0 (Ed.feed mf _ _ _).out = true
    rw [k4]
    exact runs_lines S ps k1
  · rw [end_over _ _ (by rw [k3]; decide), k4]
    exact ⟨runs_lines S ps k1, .inr k3⟩
end
end Ee
end Go.Proofs.YtppjlpihaocdiabGreatDoor

set_option linter.unusedSimpArgs false
set_option linter.unusedVariables false
namespace Go.Proofs.YtppjlpihaocdiabGreatDoor
namespace Ee
open Go.RowKit

set_option maxHeartbeats 1000000 in
theorem pick_p (c : Int) (n : Nat) (w : World) (hc : -9223372036854775808 ≤ c) (hc2 : c ≤ 9223372036854775807) (hn : 0 < n) (hn2 : n ≤ 1000) :
    Calls Tryz.prog 11 #[.int .i64 c, .int .i64 (n : Int)] w fun e w' => ∃ k : Nat, k < n ∧ e = .returned (.int .i64 (k : Int)) ∧ w' = w := by
  have key : ∀ x : Int, 0 ≤ x → ∃ k : Nat, k < n ∧ Int.tmod x (n : Int) = (k : Int) := fun x hx => ⟨(x % n).toNat, by have := Int.emod_lt_of_pos x (by omega : (0 : Int) < n); have := Int.emod_nonneg x (by omega : (n : Int) ≠ 0); omega, by rw [Int.tmod_eq_emod_of_nonneg hx]; have := Int.emod_nonneg x (by omega : (n : Int) ≠ 0); omega⟩
  have q0 : ((n : Int) == 0) = false := by simp; omega
  have q9 : ¬ ((n : Int) = 0) := by omega
  by_cases h : c < 0
  · have q1 : decide (c < 0) = true := by simpa using h
    obtain ⟨k, hk, hkm⟩ := key (-(c + 1)) (by omega)
    go_enter Tryz.func11, Tryz.ntmps11
    go_wp2_with fail
    go_ret
    exact ⟨k, hk, by simp [hkm], rfl⟩
  · have q1 : decide (c < 0) = false := by simpa using h
    obtain ⟨k, hk, hkm⟩ := key c (by omega)
    go_enter Tryz.func11, Tryz.ntmps11
    go_wp2_with fail
    go_ret
    exact ⟨k, hk, by simp [hkm], rfl⟩
end Ee
end Go.Proofs.YtppjlpihaocdiabGreatDoor

set_option linter.unusedSimpArgs false
set_option linter.unusedVariables false
namespace Go.Proofs.YtppjlpihaocdiabGreatDoor
namespace Ee
open Go.RowKit
open Rs (Cm Wh Pc own_of CmdsIn readR)

theorem Strs.below {w w' : World} {ao : Option Addr} {n : Nat} (h : Strs w ao n) (hb : Below w.heap.size w w') : Strs w' ao n :=
  ⟨fun hn => by
    obtain ⟨b, o, h1, h2, h3⟩ := h.cell hn
    refine ⟨b, o, h1, Nat.lt_of_lt_of_le h2 hb.size, fun i hi => ?_⟩
    obtain ⟨x, x1, x3⟩ := h3 i hi
    exact ⟨x, x1, (World.cell?_of_block (w := w) (w' := w') (a := ⟨b, o + i, none⟩) (hb.block b h2)).trans x3⟩, h.le⟩
theorem lins_okB {m : Nat} {ls : List (List UInt8)} (h : Lins m ls) : ∀ l ∈ ls, okL m l := fun l hl => ⟨(h l hl).2, (h l hl).1⟩

theorem row_app (a b : ByteArray) : row (a ++ b) = row a ++ row b := by simp [row]
def xs (k : Nat) : List UInt8 := List.replicate k 120
theorem xs_more (k : Nat) : txt (xs k) ++ ⟨#[120]⟩ = txt (xs (k + 1)) := by
  have e : (⟨#[120]⟩ : ByteArray) = txt [120] := rfl
  rw [e, txt_append]
  unfold xs
  rw [List.replicate_succ']
theorem xs_size (k : Nat) : (txt (xs k)).size = k := by
  rw [txt_size]
  simp [xs]

def scE0 : ByteArray := ⟨#[]⟩
theorem read_scE0 : readR scE0 = ([], 0, 0) := by rfl

theorem bo_opens {s : ByteArray} {cs : List Cm} {p : Int} (h : readR s = (cs, 0, p)) (A B : Int) (h1 : 1 ≤ A) (h2 : A ≤ 20) (h3 : A ≤ B) (h4 : B ≤ 79) : opens s A B 100 = true := by
  refine opens_of h _ _ _ ?_
  unfold alw wit
  simp
  omega
theorem bo_cf {s : ByteArray} {cs : List Cm} {p : Int} (h : readR s = (cs, 0, p)) (A B : Int) : cfO s A B 100 false = ⟨A.toNat, B.toNat, 100, false, cs⟩ := by
  rw [cf_of h]
  rfl

theorem bo_edit (mf : Mf) (hm : MfOk mf) {s inp : ByteArray} {cs : List Cm} {p : Int} (h : readR s = (cs, 0, p)) (hs : s.size ≤ maxLen) (A B : Int) (h1 : 1 ≤ A) (h2 : A ≤ 20) (h3 : A ≤ B) (h4 : B ≤ 79) (hi : inp.size ≤ 1048576) (W : World) (hW : Tab W) :
    Calls Tryz.prog 8 #[.string s, .agg #[.int .i64 A, .int .i64 B, .int .i64 100, .bool false], .string inp] W fun e w' => e = .returned (.tuple #[.string (txt (fin mf ⟨A.toNat, B.toNat, 100, false, cs⟩ (row inp)).out), .int .i64 ((fin mf ⟨A.toNat, B.toNat, 100, false, cs⟩ (row inp)).state : Int), .bool true]) ∧ Below W.heap.size W w' := by
  refine (edited_any mf hm s inp A B 100 false W hs hi hW).mono ?_
  rintro e w' ⟨hb, h'⟩
  refine ⟨?_, hb⟩
  rcases h' with ⟨k1, _⟩ | ⟨_, k2⟩
  · rw [bo_opens h A B h1 h2 h3 h4] at k1
    cases k1
  · rw [k2, bo_cf h A B]

theorem bo_small (mf : Mf) {s : ByteArray} {cs : List Cm} {p : Int} (h : readR s = (cs, 0, p)) (A B : Int) (h1 : 1 ≤ A) (h2 : A ≤ 20) (h3 : A ≤ B) (h4 : B ≤ 79) (l : List UInt8) (hl : l.length ≤ 2000000) : (txt (fin mf ⟨A.toNat, B.toNat, 100, false, cs⟩ l).out).size ≤ 1099511000000 := by
  have hc : Cok ⟨A.toNat, B.toNat, 100, false, cs⟩ := by
    have := opens_ok (q := false) (bo_opens h A B h1 h2 h3 h4)
    rw [bo_cf h A B] at this
    exact this
  rw [txt_size]
  exact iv_out (fin_rest (mf := mf) hc l hl).1 (by omega)

theorem runs_step {S k i : Nat} {C : ByteArray} (h : runs S k ((row C).drop i) = true) (hi : i < C.size) : (C[i] = 10 → runs S 0 ((row C).drop (i + 1)) = true) ∧ (C[i] ≠ 10 → k + 1 ≤ S ∧ runs S (k + 1) ((row C).drop (i + 1)) = true) := by
  have hlen : i < (row C).length := by rw [row_length]; exact hi
  have e : (row C).drop i = C[i] :: (row C).drop (i + 1) := by
    rw [List.drop_eq_getElem_cons hlen]
    rfl
  rw [e] at h
  generalize C[i] = x at *
  generalize (row C).drop (i + 1) = r at *
  refine ⟨fun hb => ?_, fun hb => ?_⟩
  · simpa [runs, hb] using h
  · simpa [runs, hb] using h

theorem wr_in {x : Int} (h1 : 0 ≤ x) (h2 : x ≤ 1000) : IntKind.i64.wrap x = x := by
  simp [IntKind.wrap, IntKind.min, IntKind.signed, IntKind.bits]
  omega

set_option maxRecDepth 100000 in
set_option maxHeartbeats 8000000 in
theorem bounded_any (mf : Mf) (hm : MfOk mf) (ao : Option Addr) (n cap : Nat) (lg : ByteArray) (a b c : Int) (q : Bool) (w : World) (hI : Strs w ao n) (hlg : lg.size ≤ maxLen) (ha : -9223372036854775808 ≤ a ∧ a ≤ 9223372036854775807) (hb : -9223372036854775808 ≤ b ∧ b ≤ 9223372036854775807) (ht : Tab w) :
    Calls Tryz.prog 5 #[.slice ao n cap, .string lg, .agg #[.int .i64 a, .int .i64 b, .int .i64 c, .bool q]] w fun e w' => e = .returned (.bool true) ∧ Below w.heap.size w w' := by
  have HT : Hid (Tab w) := ht
  have HM : Hid (MfOk mf) := hm
  have HI : Hid (Strs w ao n) := hI
  have hP1 := fun W => pick_p a 20 W ha.1 ha.2 (by omega) (by omega)
  have HP2 : Hid (∀ (A : Int) (W : World), 1 ≤ A → A ≤ 20 → Calls Tryz.prog 11 #[.int .i64 b, .int .i64 (IntKind.i64.wrap (80 - A))] W fun e w' => ∃ j : Int, 0 ≤ j ∧ j < 80 - A ∧ e = .returned (.int .i64 j) ∧ w' = W) := fun A W h1 h2 => by
    have h := pick_p b (80 - A).toNat W hb.1 hb.2 (by omega) (by omega)
    rw [show (((80 - A).toNat : Nat) : Int) = IntKind.i64.wrap (80 - A) by rw [show IntKind.i64.wrap (80 - A) = 80 - A by simp [IntKind.wrap, IntKind.min, IntKind.signed, IntKind.bits]; omega]; omega] at h
    refine h.mono ?_
    rintro e w' ⟨k, hk, rfl, hw⟩
    exact ⟨k, by omega, by omega, rfl, hw⟩
  have HLn : Hid (∀ W : World, Calls Tryz.prog 13 #[.string lg, .int .i64 10] W fun e w' => e = .returned (.string (txt (lineF 10 (row lg)))) ∧ Below W.heap.size W w') := fun W => line_any lg 10 W hlg (by omega)
  clear ht hm hI ha hb hlg
  go_enter Tryz.func5, Tryz.ntmps5
  go_wp2_with fail
  refine (hP1 _).mono ?_
  rintro e w1 ⟨L, hL, rfl, hw1⟩
  have hw2 := hw1.symm
  subst hw2
  clear hw1 hP1
  go_upto_region 2 with fail
  obtain ⟨A, hA⟩ : ∃ A : Int, A = 1 + (L : Int) := ⟨_, rfl⟩
  have hA1 : 1 ≤ A := by omega
  have hA2 : A ≤ 20 := by omega
  rw [← hA]
  clear hA hL
  have hP2 := fun W => HP2.out A W hA1 hA2
  go_cut [5] (fun x5 wx => x5 = .pointer (some ⟨w.heap.size, 0, none⟩) ∧ ∃ B : Int, A ≤ B ∧ B ≤ 79 ∧ wx = (w.alloc (.cells #[.int .i64 A, .int .i64 B, .int .i64 c, .bool q] 30)).drew)
  case first =>
    go_region_with (go_at_call 11; (refine (hP2 _).mono ?_; rintro e w2 ⟨S, hS, hS2, rfl, hw2⟩; have hw3 := hw2.symm; subst hw3; clear hw2))
    all_goals (go_wp2_with fail; go_meet)
    all_goals refine ⟨rfl, _, ?_, ?_, rfl⟩
    all_goals rw [wr_in (by omega) (by omega)]
    all_goals omega
  case rest =>
  obtain ⟨rfl, B, hB1, hB2, rfl⟩ := hcut
  clear HP2 hP2
  have HB0 : Hid (Below w.heap.size w (w.alloc (.cells #[.int .i64 A, .int .i64 B, .int .i64 100, .bool false] 30)).drew) := by
    have h := below_alloc w (.cells #[.int .i64 A, .int .i64 B, .int .i64 100, .bool false] 30)
    exact ⟨h.os, h.tape, h.output, h.size, h.block⟩
  have HLi : Hid (∀ W : World, Strs W ao n → Calls Tryz.prog 6 #[.slice ao n cap, .int .i64 6, .int .i64 A] W (LiQ 6 A.toNat n W)) := fun W hW => by
    have h := lines_any ao n cap 6 A.toNat W hW (by omega) (by omega)
    rw [show ((A.toNat : Nat) : Int) = A by omega] at h
    exact h
  go_wp2_with fail
  refine (HLi.out _ (HI.out.below HB0.out)).mono ?_
  rintro e w1 ⟨lv, ls, rfl, hb1, hown, hlen, hlins⟩
  have bx : ∀ k x, (#[Value.int .i64 A, .int .i64 B, .int .i64 100, .bool false] : Array Value)[k]? = some x → w1.cell? ⟨w.heap.size, k, none⟩ = some x := fun k x hx => by
    rw [World.cell?_of_block (w := (w.alloc (.cells #[.int .i64 A, .int .i64 B, .int .i64 100, .bool false] 30)).drew) (w' := w1) (a := ⟨w.heap.size, k, none⟩) (hb1.block w.heap.size (by simp [World.drew]))]
    have h := cell_of_row _ w.heap.size k #[.int .i64 A, .int .i64 B, .int .i64 100, .bool false] 30 (0, 0) (heap_alloc_last w _)
    exact h.trans hx
  have b0 := bx 0 _ rfl
  have b1 := bx 1 _ rfl
  have b2 := bx 2 _ rfl
  have b3 := bx 3 _ rfl
  have HB1 : Hid (Below w.heap.size w w1) := HB0.out.trans (hb1.mono HB0.out.size)
  have HLs : Hid (∀ l ∈ ls, okL A.toNat l) := lins_okB hlins
  have hjl : (joinN ls).length ≤ 2000 := by
    have h1 := joinN_len A.toNat ls fun l hl => (hlins l hl).1
    have h2 : ls.length * (A.toNat + 1) ≤ 20 * 81 := Nat.mul_le_mul (by omega) (by omega)
    omega
  have hblk : w.heap.size < w1.heap.size := by
    have := hb1.size
    simp [World.drew] at this
    omega
  clear HLi hown hlins hb1 bx HB0
  have hAn : ((A.toNat : Nat) : Int) = A := by omega
  have hA3 : A.toNat ≤ 20 := by omega
  have HX0 : Hid ((⟨#[120]⟩ : ByteArray) = txt (xs 1)) := rfl
  go_wp2_with fail
  go_loopw [9] (fun x9 wr => ∃ k : Nat, 1 ≤ k ∧ k ≤ A.toNat + 1 ∧ x9 = .string (txt (xs k)) ∧ wr = w1) (fun x9 _ => A.toNat + 1 - (match x9 with | .string t => t.size | _ => 0))
  case atStart => exact ⟨1, by omega, by omega, by rw [← HX0.out], rfl⟩
  case round =>
    obtain ⟨k, hk1, hk2, rfl, rfl⟩ := hrel
    have hxz := xs_size k
    by_cases hle : k ≤ A.toNat
    · have HM2 := xs_more k
      have HMo : Hid (txt (xs k) ++ ⟨#[120]⟩ = txt (xs (k + 1))) := HM2
      clear HM2
      have hxz2 := xs_size (k + 1)
      have qd : decide ((k : Int) ≤ A) = true := by simp; omega
      have qd2 : decide (((txt (xs k)).size : Int) ≤ A) = true := by rw [hxz]; exact qd
      have hadd : ∀ W : World, (Op.stringOp .add (txt (xs k)) ⟨#[120]⟩).run Tryz.prog W = .ok (.string (txt (xs (k + 1)))) W := fun W => by
        rw [run_string_add_sum (P := Tryz.prog) (w := W) _ _ (by
          have e2 : (⟨#[120]⟩ : ByteArray).size = 1 := rfl
          omega), HMo.out]
      go_wp2_with fail
      go_roundw
      case rel => exact ⟨k + 1, by omega, by omega, rfl, by first | trivial | rfl⟩
      case measure => simp only [hxz, hxz2]; omega
    · have hkA : k = A.toNat + 1 := by omega
      subst hkA
      have HXs : Hid (row (txt (xs (A.toNat + 1))) = xs (A.toNat + 1)) := row_txt _
      generalize txt (xs (A.toNat + 1)) = X at *
      have qd2 : decide ((X.size : Int) ≤ A) = false := by rw [hxz]; simp; omega
      have qd3 : ¬ ((X.size : Int) ≤ A) := by rw [hxz]; omega
      have hXz : X.size ≤ 30 := by rw [hxz]; omega
      clear hxz hk1 hk2 hle
      have hJz : (txt (joinN ls)).size ≤ 2000 := by rw [txt_size]; exact hjl
      have H1 : Hid (∀ W, Tab W → Calls Tryz.prog 8 #[.string ⟨#[]⟩, .agg #[.int .i64 A, .int .i64 B, .int .i64 100, .bool false], .string (txt (joinN ls))] W fun e w' => e = .returned (.tuple #[.string (txt (joinN ls)), .int .i64 1, .bool true]) ∧ Below W.heap.size W w') := fun W hW => by
        have h := bo_edit mf HM.out (s := scE0) (inp := txt (joinN ls)) read_scE0 (by decide) A B hA1 hA2 hB1 hB2 (by omega) W hW
        rw [row_txt] at h
        obtain ⟨k1, k2⟩ := lim_E (mf := mf) A.toNat B.toNat 100 ls (by omega) HLs.out
        rw [k1, k2] at h
        exact h
      have HMfin := HM.out
      go_wp2_with fail
      refine (H1.out _ (HT.out.below HB1.out)).mono ?_
      rintro e w3 ⟨rfl, hb3⟩
      have HB3 : Hid (Below w.heap.size w w3) := HB1.out.trans (hb3.mono HB1.out.size)
      have bx : ∀ k x, wr.cell? ⟨w.heap.size, k, none⟩ = some x → w3.cell? ⟨w.heap.size, k, none⟩ = some x := fun k x hx => (World.cell?_of_block (w := wr) (w' := w3) (a := ⟨w.heap.size, k, none⟩) (hb3.block w.heap.size hblk)).trans hx
      have d0 := bx 0 _ b0
      have d1 := bx 1 _ b1
      have d2 := bx 2 _ b2
      have d3 := bx 3 _ b3
      have hblk3 : w.heap.size < w3.heap.size := Nat.lt_of_lt_of_le hblk hb3.size
      clear bx b0 b1 b2 b3 hb3 H1 hblk
      have hlz : (lineF 10 (row lg)).length ≤ 10 := lineF_len _ _
      have hLz : (txt (lineF 10 (row lg))).size ≤ 10 := by rw [txt_size]; exact hlz
      have H2 : Hid (∀ W, Tab W → Calls Tryz.prog 8 #[.string ⟨#[]⟩, .agg #[.int .i64 A, .int .i64 B, .int .i64 100, .bool false], .string (txt (joinN ls) ++ X ++ txt (lineF 10 (row lg)) ++ ⟨#[10, 109, 111, 114, 101, 10]⟩)] W fun e w' => e = .returned (.tuple #[.string (txt (joinN ls)), .int .i64 3, .bool true]) ∧ Below W.heap.size W w') := fun W hW => by
        have h := bo_edit mf HM.out (s := scE0) (inp := txt (joinN ls) ++ X ++ txt (lineF 10 (row lg)) ++ ⟨#[10, 109, 111, 114, 101, 10]⟩) read_scE0 (by decide) A B hA1 hA2 hB1 hB2 (by
          have e1 : (⟨#[10, 109, 111, 114, 101, 10]⟩ : ByteArray).size = 6 := rfl
          rw [ByteArray.size_append, ByteArray.size_append, ByteArray.size_append, e1]
          omega) W hW
        have er : row (txt (joinN ls) ++ X ++ txt (lineF 10 (row lg)) ++ ⟨#[10, 109, 111, 114, 101, 10]⟩) = joinN ls ++ xs (A.toNat + 1) ++ (lineF 10 (row lg) ++ [10, 109, 111, 114, 101, 10]) := by
          rw [row_app, row_app, row_app, row_txt, row_txt, HXs.out, List.append_assoc (joinN ls ++ xs (A.toNat + 1))]
          rfl
        rw [er] at h
        obtain ⟨k1, k2⟩ := lim_long (mf := mf) A.toNat B.toNat 100 ls (xs (A.toNat + 1)) (lineF 10 (row lg) ++ [10, 109, 111, 114, 101, 10]) (by omega) HLs.out (fun b hb => by
          unfold xs at hb
          have := List.eq_of_mem_replicate hb
          rw [this]
          decide) (by simp [xs])
        rw [k1, k2] at h
        exact h
      have H3 : Hid (∃ (C : ByteArray) (st : Nat), (st = 1 ∨ st = 4) ∧ C.size ≤ 1099511000000 ∧ runs B.toNat 0 (row C) = true ∧ ∀ W, Tab W → Calls Tryz.prog 8 #[.string ⟨#[115, 47, 120, 47, 120, 120, 47, 103, 59, 98]⟩, .agg #[.int .i64 A, .int .i64 B, .int .i64 100, .bool false], .string (txt (joinN ls))] W fun e w' => e = .returned (.tuple #[.string C, .int .i64 (st : Int), .bool true]) ∧ Below W.heap.size W w') := by
        obtain ⟨k1, k2⟩ := lim_X (mf := mf) A.toNat B.toNat 100 ls (by omega) (by omega) HLs.out
        refine ⟨txt (fin mf ⟨A.toNat, B.toNat, 100, false, [cmX, cmJ]⟩ (joinN ls)).out, (fin mf ⟨A.toNat, B.toNat, 100, false, [cmX, cmJ]⟩ (joinN ls)).state, k2, bo_small mf read_scX A B hA1 hA2 hB1 hB2 (joinN ls) (by omega), by rw [row_txt]; exact k1, fun W hW => ?_⟩
        have h := bo_edit mf HM.out (s := scX) (inp := txt (joinN ls)) read_scX (by decide) A B hA1 hA2 hB1 hB2 (by omega) W hW
        rw [row_txt] at h
        exact h
      have hMz : (⟨#[10, 109, 111, 114, 101, 10]⟩ : ByteArray).size = 6 := rfl
      generalize txt (lineF 10 (row lg)) = LN at *
      generalize txt (joinN ls) = J at *
      have z1 : (J ++ X).size = J.size + X.size := ByteArray.size_append
      have z2 : (J ++ X ++ LN).size = J.size + X.size + LN.size := by rw [ByteArray.size_append, z1]
      have a1 : ∀ W : World, (Op.stringOp .add J X).run Tryz.prog W = .ok (.string (J ++ X)) W := fun W => run_string_add_sum (P := Tryz.prog) (w := W) _ _ (by omega)
      have a2 : ∀ W : World, (Op.stringOp .add (J ++ X) LN).run Tryz.prog W = .ok (.string (J ++ X ++ LN)) W := fun W => run_string_add_sum (P := Tryz.prog) (w := W) _ _ (by omega)
      have a3 : ∀ W : World, (Op.stringOp .add (J ++ X ++ LN) ⟨#[10, 109, 111, 114, 101, 10]⟩).run Tryz.prog W = .ok (.string (J ++ X ++ LN ++ ⟨#[10, 109, 111, 114, 101, 10]⟩)) W := fun W => run_string_add_sum (P := Tryz.prog) (w := W) _ _ (by omega)
      clear z1 z2 hXz hJz hlz hLz hMz qd2 qd3 hjl hlen
      have hSd : w3.drew.cell? ⟨w.heap.size, 0, none⟩ = some (.int .i64 A) ∧ w3.drew.cell? ⟨w.heap.size, 1, none⟩ = some (.int .i64 B) ∧ w3.drew.cell? ⟨w.heap.size, 2, none⟩ = some (.int .i64 100) ∧ w3.drew.cell? ⟨w.heap.size, 3, none⟩ = some (.bool false) := ⟨d0, d1, d2, d3⟩
      have HB3d : Hid (Below w.heap.size w w3.drew) := ⟨HB3.out.os, HB3.out.tape, HB3.out.output, HB3.out.size, HB3.out.block⟩
      have hblk3d : w.heap.size < w3.drew.heap.size := hblk3
      go_upto_region 10 with fail
      go_region_held_law (fun W => W.cell? ⟨w.heap.size, 0, none⟩ = some (.int .i64 A) ∧ W.cell? ⟨w.heap.size, 1, none⟩ = some (.int .i64 B) ∧ W.cell? ⟨w.heap.size, 2, none⟩ = some (.int .i64 100) ∧ W.cell? ⟨w.heap.size, 3, none⟩ = some (.bool false)) (first | exact hSd | exact hS4 | exact hS5)
        (first
        | (go_at_call 13; (refine (HLn.out w3.drew).mono ?_; rintro e w4 ⟨rfl, hb4⟩; have HB4 : Hid (Below w.heap.size w w4) := HB3d.out.trans (hb4.mono HB3d.out.size); have hS4 : w4.cell? ⟨w.heap.size, 0, none⟩ = some (.int .i64 A) ∧ w4.cell? ⟨w.heap.size, 1, none⟩ = some (.int .i64 B) ∧ w4.cell? ⟨w.heap.size, 2, none⟩ = some (.int .i64 100) ∧ w4.cell? ⟨w.heap.size, 3, none⟩ = some (.bool false) := ⟨(World.cell?_of_block (w := w3.drew) (w' := w4) (a := ⟨w.heap.size, 0, none⟩) (hb4.block w.heap.size hblk3d)).trans hSd.1, (World.cell?_of_block (w := w3.drew) (w' := w4) (a := ⟨w.heap.size, 1, none⟩) (hb4.block w.heap.size hblk3d)).trans hSd.2.1, (World.cell?_of_block (w := w3.drew) (w' := w4) (a := ⟨w.heap.size, 2, none⟩) (hb4.block w.heap.size hblk3d)).trans hSd.2.2.1, (World.cell?_of_block (w := w3.drew) (w' := w4) (a := ⟨w.heap.size, 3, none⟩) (hb4.block w.heap.size hblk3d)).trans hSd.2.2.2⟩; have hblk4 : w.heap.size < w4.heap.size := Nat.lt_of_lt_of_le hblk3d hb4.size; clear hb4))
        | (go_at_call 8; (refine (H2.out w4 (HT.out.below HB4.out)).mono ?_; rintro e w5 ⟨rfl, hb5⟩; have HB5 : Hid (Below w.heap.size w w5) := HB4.out.trans (hb5.mono HB4.out.size); have hS5 : w5.cell? ⟨w.heap.size, 0, none⟩ = some (.int .i64 A) ∧ w5.cell? ⟨w.heap.size, 1, none⟩ = some (.int .i64 B) ∧ w5.cell? ⟨w.heap.size, 2, none⟩ = some (.int .i64 100) ∧ w5.cell? ⟨w.heap.size, 3, none⟩ = some (.bool false) := ⟨(World.cell?_of_block (w := w4) (w' := w5) (a := ⟨w.heap.size, 0, none⟩) (hb5.block w.heap.size hblk4)).trans hS4.1, (World.cell?_of_block (w := w4) (w' := w5) (a := ⟨w.heap.size, 1, none⟩) (hb5.block w.heap.size hblk4)).trans hS4.2.1, (World.cell?_of_block (w := w4) (w' := w5) (a := ⟨w.heap.size, 2, none⟩) (hb5.block w.heap.size hblk4)).trans hS4.2.2.1, (World.cell?_of_block (w := w4) (w' := w5) (a := ⟨w.heap.size, 3, none⟩) (hb5.block w.heap.size hblk4)).trans hS4.2.2.2⟩; have hblk5 : w.heap.size < w5.heap.size := Nat.lt_of_lt_of_le hblk4 hb5.size; clear hb5)))
      obtain ⟨e0, e1, e2, e3⟩ := hS5
      obtain ⟨C, st, hst, hCz, hR0, H4⟩ := H3.out
      have HR : Hid (runs B.toNat 0 ((row C).drop 0) = true) := hR0
      have H5 : Hid _ := H4
      clear H4 hR0 H3 H2 hSd a1 a2 a3 d0 d1 d2 d3 HLn HXs HLs hS4
      go_wp2_with fail
      refine (H5.out w5 (HT.out.below HB5.out)).mono ?_
      rintro e w6 ⟨rfl, hb6⟩
      have HB6 : Hid (Below w.heap.size w w6) := HB5.out.trans (hb6.mono HB5.out.size)
      have f1 : w6.cell? ⟨w.heap.size, 1, none⟩ = some (.int .i64 B) := (World.cell?_of_block (w := w5) (w' := w6) (a := ⟨w.heap.size, 1, none⟩) (hb6.block w.heap.size hblk5)).trans e1
      clear hb6 e0 e1 e2 e3 H5
      have qB0 : decide (B < 0) = false := by simp; omega
      have qJ : (J.toList == J.toList) = true := by simp
      rcases hst with rfl | rfl
      · go_wp2_with fail
        go_loopw [19, 20] (fun x19 x20 wx => ∃ i k : Nat, i ≤ C.size ∧ k ≤ B.toNat ∧ x19 = .int .i64 k ∧ x20 = .int .i64 i ∧ Hid (runs B.toNat k ((row C).drop i) = true) ∧ wx = w6) (fun _ x20 _ => C.size + 1 - (intOf x20).toNat)
        case atStart => exact ⟨0, 0, by omega, by omega, rfl, rfl, HR.out, rfl⟩
        case round =>
          obtain ⟨i, k, hi, hk, rfl, rfl, HRi, rfl⟩ := hrel
          by_cases hlt : i < C.size
          · have hbb : (C[i]'hlt).toNat < 256 := UInt8.toNat_lt _
            obtain ⟨r1, r2⟩ := runs_step HRi.out hlt
            by_cases h10 : C[i]'hlt = 10
            · have hq : (((C[i]'hlt).toNat : Int) == 10) = true := by rw [h10]; rfl
              have HF : Hid (runs B.toNat 0 ((row C).drop (i + 1)) = true) := r1 h10
              clear r1 r2 h10
              go_wp2_with fail
              go_roundw
              case rel => exact ⟨i + 1, 0, by omega, by omega, rfl, by go_num, HF.out, by first | trivial | rfl⟩
              case measure => simp [intOf]; omega
            · have hq : (((C[i]'hlt).toNat : Int) == 10) = false := by
                simp only [beq_eq_false_iff_ne, ne_eq]
                intro h
                exact h10 (UInt8.toNat_inj.1 (by show (C[i]'hlt).toNat = 10; omega))
              obtain ⟨r3, r4⟩ := r2 h10
              have HF : Hid (runs B.toNat (k + 1) ((row C).drop (i + 1)) = true) := r4
              have qk : decide (B < (k : Int) + 1) = false := by simp; omega
              clear r1 r2 h10 r4
              go_wp2_with fail
              go_roundw
              case rel => exact ⟨i + 1, k + 1, by omega, by omega, by go_num, by go_num, HF.out, by first | trivial | rfl⟩
              case measure => simp [intOf]; omega
          · have hd : decide ((i : Int) < (C.size : Int)) = false := by simp; omega
            go_wp2_with fail
            go_ret
            exact ⟨rfl, HB6.out⟩
      · go_wp2_with fail
        go_loopw [19, 20] (fun x19 x20 wx => ∃ i k : Nat, i ≤ C.size ∧ k ≤ B.toNat ∧ x19 = .int .i64 k ∧ x20 = .int .i64 i ∧ Hid (runs B.toNat k ((row C).drop i) = true) ∧ wx = w6) (fun _ x20 _ => C.size + 1 - (intOf x20).toNat)
        case atStart => exact ⟨0, 0, by omega, by omega, rfl, rfl, HR.out, rfl⟩
        case round =>
          obtain ⟨i, k, hi, hk, rfl, rfl, HRi, rfl⟩ := hrel
          by_cases hlt : i < C.size
          · have hbb : (C[i]'hlt).toNat < 256 := UInt8.toNat_lt _
            obtain ⟨r1, r2⟩ := runs_step HRi.out hlt
            by_cases h10 : C[i]'hlt = 10
            · have hq : (((C[i]'hlt).toNat : Int) == 10) = true := by rw [h10]; rfl
              have HF : Hid (runs B.toNat 0 ((row C).drop (i + 1)) = true) := r1 h10
              clear r1 r2 h10
              go_wp2_with fail
              go_roundw
              case rel => exact ⟨i + 1, 0, by omega, by omega, rfl, by go_num, HF.out, by first | trivial | rfl⟩
              case measure => simp [intOf]; omega
            · have hq : (((C[i]'hlt).toNat : Int) == 10) = false := by
                simp only [beq_eq_false_iff_ne, ne_eq]
                intro h
                exact h10 (UInt8.toNat_inj.1 (by show (C[i]'hlt).toNat = 10; omega))
              obtain ⟨r3, r4⟩ := r2 h10
              have HF : Hid (runs B.toNat (k + 1) ((row C).drop (i + 1)) = true) := r4
              have qk : decide (B < (k : Int) + 1) = false := by simp; omega
              clear r1 r2 h10 r4
              go_wp2_with fail
              go_roundw
              case rel => exact ⟨i + 1, k + 1, by omega, by omega, by go_num, by go_num, HF.out, by first | trivial | rfl⟩
              case measure => simp [intOf]; omega
          · have hd : decide ((i : Int) < (C.size : Int)) = false := by simp; omega
            go_wp2_with fail
            go_ret
            exact ⟨rfl, HB6.out⟩
end Ee
end Go.Proofs.YtppjlpihaocdiabGreatDoor
