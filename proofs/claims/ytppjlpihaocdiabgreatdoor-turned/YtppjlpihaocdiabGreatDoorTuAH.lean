/- Several texts in one. -/
import Derived.Test.YtppjlpihaocdiabGreatDoorEhFH
set_option linter.unusedSimpArgs false
set_option linter.unusedVariables false
namespace Go.Proofs.YtppjlpihaocdiabGreatDoor
namespace Ee
open Rs (Cm Wh Pc readR)

theorem joinN_cons (l : List UInt8) (ls : List (List UInt8)) : joinN (l :: ls) = (l ++ [10]) ++ joinN ls := by simp [joinN]

def lastOf : List (List UInt8) → List UInt8
  | [] => []
  | [l] => l ++ [10]
  | _ :: m :: r => lastOf (m :: r)
def oddF : Nat → List (List UInt8) → List UInt8
  | _, [] => []
  | i, l :: r => (if i % 2 = 0 then l ++ [10] else []) ++ oddF (i + 1) r
def numF : Nat → List (List UInt8) → List UInt8
  | _, [] => []
  | i, _ :: r => [UInt8.ofNat (49 + i), 10] ++ numF (i + 1) r
theorem lastOf_snoc : ∀ (ls : List (List UInt8)) (l : List UInt8), lastOf (ls ++ [l]) = l ++ [10]
  | [], l => rfl
  | [a], l => rfl
  | a :: b :: r, l => by
    have := lastOf_snoc (b :: r) l
    simpa [lastOf] using this
theorem oddF_snoc : ∀ (ls : List (List UInt8)) (i : Nat) (l : List UInt8), oddF i (ls ++ [l]) = oddF i ls ++ (if (i + ls.length) % 2 = 0 then l ++ [10] else [])
  | [], i, l => by simp [oddF]
  | a :: r, i, l => by
    have := oddF_snoc r (i + 1) l
    rw [List.cons_append, oddF, oddF, this, List.append_assoc, List.length_cons]
    rw [show i + 1 + r.length = i + (r.length + 1) by omega]
theorem numF_snoc : ∀ (ls : List (List UInt8)) (i : Nat) (l : List UInt8), numF i (ls ++ [l]) = numF i ls ++ [UInt8.ofNat (49 + (i + ls.length)), 10]
  | [], i, l => by simp [numF]
  | a :: r, i, l => by
    have := numF_snoc r (i + 1) l
    rw [List.cons_append, numF, numF, this, List.append_assoc, List.length_cons]
    rw [show i + 1 + r.length = i + (r.length + 1) by omega]
theorem back_snoc (ls : List (List UInt8)) (l : List UInt8) : joinN (ls ++ [l]).reverse = l ++ [10] ++ joinN ls.reverse := by
  rw [List.reverse_append]
  simp [joinN]
theorem two_snoc (ls : List (List UInt8)) (l : List UInt8) : joinN ((ls ++ [l]).take 2) = if ls.length < 2 then joinN (ls.take 2) ++ (l ++ [10]) else joinN (ls.take 2) := by
  match ls with
  | [] => simp [joinN]
  | [a] => simp [joinN]
  | a :: b :: r => simp [joinN]

section
variable {mf : Mf}

/- Numbers. -/
def scN : ByteArray := ⟨#[61]⟩
theorem read_scN : readR scN = ([cmK 12], 0, 0) := by rfl
def gN (E : Ed) : Ed := { E with looked := 1, stage := 3, at' := 1, out := E.out ++ row (itoa E.number) ++ [10], coming := [] }
theorem prompt_N (a b c : Nat) (m : Nat) (ha : m ≤ a) (hb : m ≤ b) (hc : 0 < c) : Prompt mf ⟨a, b, c, true, [cmK 12]⟩ gN (fun E => E.coming = []) (okL m) where
  run := fun E l hJ _ _ _ hs => ⟨5, by omega, fun f => by
    have hc0 : 0 ≠ c := by omega
    rw [show f + 5 = (f + 4) + 1 from rfl, w1_cmd _ _ (by simp [rd])]
    rw [show f + 4 = (f + 3) + 1 from rfl, w2_1 _ _ { rd E l with looked := 1, stage := 3, at' := 1, out := E.out ++ row (itoa (E.number + 1)) ++ [10] } (by
      simp [Ed.command, Ed.choose, Ed.selects, Ed.meets, Ed.doIt, Ed.edit, Ed.jump, Ed.print, cmK, rd, hc0, row_txt])]
    rw [show f + 3 = (f + 2) + 1 from rfl, w1_end _ _ rfl, w3]
    have e : (Ed.printSpace ⟨a, b, c, true, [cmK 12]⟩ { rd E l with looked := 1, stage := 3, at' := 1, out := E.out ++ row (itoa (E.number + 1)) ++ [10] }).printComing = gN (rd E l) := by
      simp [Ed.printSpace, Ed.printComing, gN, rd, hJ, Ed.print, Ed.printAll, row_txt]
    rw [w4 _ _ (by rw [e]; exact hs), e]⟩
  next := fun E l _ _ => ⟨rfl, rfl, rfl, fun h => h⟩
  keep := fun E l _ _ => rfl
  free := fun E b h => h
  lk := fun l h => ⟨h.1, Nat.le_trans h.2 ha, Nat.le_trans h.2 hb⟩
theorem itoa_small (n : Nat) (h : n < 9) : row (itoa (n + 1)) = [UInt8.ofNat (49 + n)] := by
  have e : Lib.itoa ((n + 1 : Nat) : Int) = [UInt8.ofNat (49 + n)] := by
    unfold Lib.itoa
    rw [if_neg (by omega), Int.toNat_natCast, Lib.decDigits, dif_pos (by omega), show 48 + (n + 1) = 49 + n by omega]
  unfold row itoa
  rw [e]
theorem fold_N : ∀ (ls : List (List UInt8)) (E : Ed), E.number + ls.length ≤ 9 → (ls.foldl (cyc gN) E).out = E.out ++ numF E.number ls
  | [], E, _ => by simp [numF]
  | l :: ls, E, h => by
    simp only [List.length_cons] at h
    rw [List.foldl_cons, fold_N ls _ (by simp [cyc, gN, rd]; omega)]
    simp [cyc, gN, rd, numF, itoa_small E.number (by omega)]
theorem makes_N (ls : List (List UInt8)) (hl : ∀ l ∈ ls, okL 80 l) (hn : ls.length ≤ 9) : Makes mf scN true (joinN ls) (numF 0 ls) := by
  have P := prompt_N (mf := mf) 80 80 1000 80 (Nat.le_refl _) (Nat.le_refl _) (by omega)
  refine ⟨opens_of read_scN _ _ _ alw_wide, ?_⟩
  have ec : cfO scN 80 80 1000 true = ⟨80, 80, 1000, true, [cmK 12]⟩ := cf_of read_scN 80 80 1000 true
  unfold made
  rw [ec, P.all rfl ls hl]
  refine ⟨rfl, ?_⟩
  show (ls.foldl (cyc gN) (ed0 _)).out = _
  rw [fold_N _ _ (by simp [ed0]; omega)]
  simp [ed0]

/- The first two. -/
def cmQ : Cm := { cmK 13 with fst := ⟨1, 2, emp⟩ }
def scQ : ByteArray := ⟨#[50, 113]⟩
theorem read_scQ : readR scQ = ([cmQ], 0, 0) := by rfl
def cQ : Cf := ⟨80, 80, 1000, false, [cmQ]⟩
def qA (o : List UInt8) (p : ByteArray) (n lk at' : Nat) : Ed := ⟨[], false, false, n, p, emp, o, 0, [], [false], at', 0, lk, false, 0⟩
theorem q_first (l : List UInt8) (hl : okL 80 l) : (ed0 cQ).feed mf cQ (l ++ [10]) = qA (l ++ [10]) (txt l) 1 1 1 := by
  rw [line_fed (ed0 cQ) (ed0_rz cQ) l ⟨hl.1, hl.2, hl.2⟩]
  rw [show (9999 : Nat) = 9998 + 1 from rfl, w1_cmd _ _ (by simp [rd, cQ])]
  rw [show (9998 : Nat) = 9997 + 1 from rfl, w2_1 _ _ ⟨[], false, false, 1, txt l, emp, [], 0, [], [false], 1, 2, 1, false, 0⟩ (by
    simp [Ed.command, Ed.choose, Ed.selects, Ed.meets, Ed.jump, cmK, cmQ, rd, cQ, ed0])]
  rw [show (9997 : Nat) = 9996 + 1 from rfl, w1_end _ _ rfl, show (9996 : Nat) = 9995 + 1 from rfl, w3]
  rw [show (9995 : Nat) = 9994 + 1 from rfl, w4 _ _ (by simp [Ed.printSpace, cQ, Ed.print, Ed.printComing, Ed.printAll]), show (9994 : Nat) = 9993 + 1 from rfl, w0_wait _ _ (by simp [Ed.printSpace, cQ, Ed.print, Ed.printComing, Ed.printAll, Ed.atHand, Ed.tooLong])]
  simp [Ed.printSpace, cQ, Ed.print, Ed.printComing, Ed.printAll, qA, row_txt]
theorem q_second (l o : List UInt8) (p : ByteArray) (lk at' : Nat) (hl : okL 80 l) : ((qA o p 1 lk at').feed mf cQ (l ++ [10])).state = 2 ∧ ((qA o p 1 lk at').feed mf cQ (l ++ [10])).out = o ++ l ++ [10] := by
  rw [line_fed (qA o p 1 lk at') ⟨rfl, rfl, rfl, rfl, rfl⟩ l ⟨hl.1, hl.2, hl.2⟩]
  rw [show (9999 : Nat) = 9998 + 1 from rfl, w1_cmd _ _ (by simp [rd, cQ])]
  rw [show (9998 : Nat) = 9997 + 1 from rfl, w2_4 _ _ ⟨[], false, false, 2, txt l, emp, o, 0, [], [false], 0, 3, 1, false, 2⟩ (by
    simp [Ed.command, Ed.choose, Ed.selects, Ed.meets, Ed.jump, Ed.doIt, cmK, cmQ, rd, cQ, qA])]
  rw [show (9997 : Nat) = 9996 + 1 from rfl, w3]
  rw [show (9996 : Nat) = 9995 + 1 from rfl, w4_stop _ _ (by simp [Ed.printSpace, cQ, Ed.print, Ed.printComing, Ed.printAll])]
  simp [Ed.printSpace, cQ, Ed.print, Ed.printComing, Ed.printAll, row_txt]
theorem feed_over (cf : Cf) : ∀ (l : List UInt8) (E : Ed), E.state ≠ 0 → E.feed mf cf l = E
  | [], E, _ => rfl
  | b :: l, E, h => by
    have e : E.feed1 mf cf b = E := by
      unfold Ed.feed1
      rw [if_neg (by simp [Ed.takes, h])]
    rw [feed_cons, e, feed_over cf l E h]
theorem end_over (cf : Cf) (E : Ed) (h : E.state ≠ 0) : E.endIt mf cf = E := by
  unfold Ed.endIt
  rw [if_neg (by simp [Ed.takes, h])]
theorem two_made (ls : List (List UInt8)) (hl : ∀ l ∈ ls, okL 80 l) : (made mf scQ false (joinN ls)).out = joinN (ls.take 2) ∧ (made mf scQ false (joinN ls)).state = if 2 ≤ ls.length then 2 else 1 := by
  have ec : cfO scQ 80 80 1000 false = cQ := cf_of read_scQ 80 80 1000 false
  unfold made fin
  rw [ec]
  match ls with
  | [] =>
    rw [show joinN [] = [] from rfl, feed_nil, end_none _ (ed0_rz cQ)]
    exact ⟨rfl, rfl⟩
  | [a] =>
    rw [joinN_cons, show joinN [] = [] from rfl, List.append_nil, q_first a (hl a (by simp)), end_none _ ⟨rfl, rfl, rfl, rfl, rfl⟩]
    exact ⟨by simp [qA, joinN], rfl⟩
  | a :: b :: r =>
    obtain ⟨h1, h2⟩ := q_second (mf := mf) b (a ++ [10]) (txt a) 1 1 (hl b (by simp))
    have h3 : ((qA (a ++ [10]) (txt a) 1 1 1).feed mf cQ (b ++ [10])).state ≠ 0 := by rw [h1]; decide
    rw [joinN_cons, joinN_cons, feed_app, q_first a (hl a (by simp)), feed_app, feed_over cQ _ _ h3, end_over cQ _ h3, h1, h2]
    exact ⟨by simp [joinN], by simp⟩


/- Each first of two. -/
def scO : ByteArray := ⟨#[110, 59, 100]⟩
theorem read_scO : readR scO = ([cmK 3, cmK 1], 0, 0) := by rfl
def cO : Cf := ⟨80, 80, 1000, false, [cmK 3, cmK 1]⟩
def oA (o : List UInt8) (p : ByteArray) (n lk at' : Nat) : Ed := ⟨[], false, false, n, p, emp, o, 0, [], [false, false], at', 0, lk, false, 0⟩
def oB (o : List UInt8) (p : List UInt8) (n : Nat) : Ed := ⟨[], false, false, n, txt p, emp, o, 0, [], [false, false], 0, 3, 1, false, 0⟩
def oC (nx o : List UInt8) (p : List UInt8) (n : Nat) : Ed := ⟨nx, false, false, n, txt p, emp, o, 0, [], [false, false], 0, 4, 1, false, 0⟩
theorem o_first (l o : List UInt8) (p : ByteArray) (n lk at' : Nat) (hl : okL 80 l) : (oA o p n lk at').feed mf cO (l ++ [10]) = oB o l (n + 1) := by
  rw [line_fed (oA o p n lk at') ⟨rfl, rfl, rfl, rfl, rfl⟩ l ⟨hl.1, hl.2, hl.2⟩]
  rw [show (9999 : Nat) = 9998 + 1 from rfl, w1_cmd _ _ (by simp [rd, cO])]
  rw [show (9998 : Nat) = 9997 + 1 from rfl, w2_0 _ _ (oB o l (n + 1)) (by
    simp [Ed.command, Ed.choose, Ed.selects, Ed.meets, Ed.jump, Ed.doIt, Ed.doNext, Ed.known, Ed.more, cmK, rd, cO, oA, oB])]
theorem o_bytes : ∀ (l nx o p : List UInt8) (n : Nat), (∀ b ∈ l, b ≠ 10) → nx.length + l.length ≤ 80 → (oC nx o p n).feed mf cO l = oC (nx ++ l) o p n
  | [], nx, o, p, n, _, _ => by rw [feed_nil, List.append_nil]
  | b :: l, nx, o, p, n, hb, hl => by
    have hb0 := hb b (by simp)
    simp only [List.length_cons] at hl
    have e : (oC nx o p n).feed1 mf cO b = oC (nx ++ [b]) o p n := by
      have hnx : ¬ 80 < nx.length + 1 := by omega
      unfold Ed.feed1
      rw [if_pos (by simp [Ed.takes, oC])]
      unfold Ed.work
      have ea : (oC nx o p n).add b = oC (nx ++ [b]) o p n := by simp [Ed.add, hb0, oC]
      rw [ea, if_neg (by simp [oC]), show (10000 : Nat) = 9999 + 1 from rfl, w2_0 _ _ (oC (nx ++ [b]) o p n) (by
        simp [Ed.command, Ed.choose, Ed.doIt, Ed.doNext, Ed.atHand, Ed.tooLong, cmK, cO, oC, hnx])]
    rw [feed_cons, e, o_bytes l (nx ++ [b]) o p n (fun c hc => hb c (by simp [hc])) (by simp; omega)]
    simp
theorem o_more (b : UInt8) (o p : List UInt8) (n : Nat) (hb : b ≠ 10) : (oB o p n).feed1 mf cO b = oC [b] (o ++ p ++ [10]) p n := by
  unfold Ed.feed1
  rw [if_pos (by simp [Ed.takes, oB])]
  unfold Ed.work
  have ea : (oB o p n).add b = ⟨[b], false, false, n, txt p, emp, o, 0, [], [false, false], 0, 3, 1, false, 0⟩ := by simp [Ed.add, hb, oB]
  rw [ea, if_neg (by simp), show (10000 : Nat) = 9999 + 1 from rfl, w2_0 _ _ (oC [b] (o ++ p ++ [10]) p n) (by
    simp [Ed.command, Ed.choose, Ed.selects, Ed.meets, Ed.known, Ed.more, Ed.doIt, Ed.doNext, Ed.atHand, Ed.tooLong, cmK, cO, oC, Ed.printSpace, Ed.printComing, Ed.printAll, Ed.print, row_txt])]
theorem o_reads (nx o p : List UInt8) (n f : Nat) (hn : nx.length ≤ 80) : Ed.workF mf cO (f + 5) 2 ⟨nx, true, false, n, txt p, emp, o, 0, [], [false, false], 0, 4, 1, false, 0⟩ = oA o (txt nx) (n + 1) 1 1 := by
  have hsz : ¬ 80 < (txt nx).size := by rw [txt_size]; omega
  have hnx : ¬ 80 < nx.length := by omega
  rw [show f + 5 = (f + 4) + 1 from rfl, w2_1 _ _ ⟨[], false, false, n + 1, txt nx, emp, o, 0, [], [false, false], 1, 4, 0, false, 0⟩ (by
    simp [Ed.command, Ed.choose, Ed.doIt, Ed.doNext, Ed.atHand, Ed.readBy, Ed.tooLong, Ed.read, Ed.way, Ed.become, hsz, hnx, cmK, cO, Ed.jump])]
  rw [show f + 4 = (f + 3) + 1 from rfl, w1_cmd _ _ (by simp [cO])]
  rw [show f + 3 = (f + 2) + 1 from rfl, w2_3 _ _ ⟨[], false, false, n + 1, txt nx, emp, o, 0, [], [false, false], 1, 3, 1, false, 0⟩ (by
    simp [Ed.command, Ed.choose, Ed.selects, Ed.meets, cmK, cO, Ed.jump, Ed.doIt])]
  rw [show f + 2 = (f + 1) + 1 from rfl, w4 _ _ (by simp [Ed.printComing, Ed.printAll]), w0_wait _ _ (by simp [Ed.printComing, Ed.printAll, Ed.atHand, Ed.tooLong])]
  rfl
theorem o_empty (o p : List UInt8) (n f : Nat) : Ed.workF mf cO (f + 1) 2 ⟨[], true, false, n, txt p, emp, o, 0, [], [false, false], 0, 3, 1, false, 0⟩ = Ed.workF mf cO (f + 1) 2 ⟨[], true, false, n, txt p, emp, o ++ p ++ [10], 0, [], [false, false], 0, 4, 1, false, 0⟩ := by
  have e : Ed.command mf cO ⟨[], true, false, n, txt p, emp, o, 0, [], [false, false], 0, 3, 1, false, 0⟩ = Ed.command mf cO ⟨[], true, false, n, txt p, emp, o ++ p ++ [10], 0, [], [false, false], 0, 4, 1, false, 0⟩ := by
    simp [Ed.command, Ed.choose, Ed.selects, Ed.meets, Ed.known, Ed.more, Ed.doIt, Ed.doNext, cmK, cO, Ed.printSpace, Ed.printComing, Ed.printAll, Ed.print, row_txt]
  simp only [Ed.workF, e]
theorem o_second (l o p : List UInt8) (n : Nat) (hl : okL 80 l) : (oB o p n).feed mf cO (l ++ [10]) = oA (o ++ p ++ [10]) (txt l) (n + 1) 1 1 := by
  cases l with
  | nil =>
    rw [List.nil_append, feed_cons, feed_nil]
    unfold Ed.feed1
    rw [if_pos (by simp [Ed.takes, oB])]
    unfold Ed.work
    have ea : (oB o p n).add 10 = ⟨[], true, false, n, txt p, emp, o, 0, [], [false, false], 0, 3, 1, false, 0⟩ := by simp [Ed.add, oB]
    rw [ea, if_neg (by simp), show (10000 : Nat) = 9999 + 1 from rfl, o_empty, show (9999 + 1 : Nat) = 9995 + 5 from rfl, o_reads _ _ _ _ _ (by simp)]
  | cons b l =>
    have hb0 := hl.1 b (by simp)
    have hl2 := hl.2
    simp only [List.length_cons] at hl2
    rw [List.cons_append, feed_cons, o_more b o p n hb0, feed_app, o_bytes l [b] _ p n (fun c hc => hl.1 c (by simp [hc])) (by simp; omega), feed_cons, feed_nil]
    unfold Ed.feed1
    rw [if_pos (by simp [Ed.takes, oC])]
    unfold Ed.work
    have ea : (oC ([b] ++ l) (o ++ p ++ [10]) p n).add 10 = ⟨b :: l, true, false, n, txt p, emp, o ++ p ++ [10], 0, [], [false, false], 0, 4, 1, false, 0⟩ := by simp [Ed.add, oC]
    rw [ea, if_neg (by simp), show (10000 : Nat) = 9995 + 5 from rfl, o_reads _ _ _ _ _ (by simp; omega)]
theorem o_end (o p : List UInt8) (n : Nat) : ((oB o p n).endIt mf cO).state = 1 ∧ ((oB o p n).endIt mf cO).out = o ++ p ++ [10] := by
  have h : (oB o p n).endIt mf cO = Ed.workF mf cO (9999 + 1) 2 ⟨[], false, true, n, txt p, emp, o, 0, [], [false, false], 0, 3, 1, false, 0⟩ := by
    unfold Ed.endIt
    rw [if_pos (by simp [Ed.takes, oB])]
    unfold Ed.work
    rw [if_neg (by simp [oB])]
    rfl
  rw [h, w2_4 _ _ ⟨[], false, true, n, txt p, emp, o, 0, [], [false, false], 0, 3, 1, false, 0⟩ (by
    simp [Ed.command, Ed.choose, Ed.selects, Ed.meets, cmK, cO, Ed.known, Ed.more, Ed.jump, Ed.doIt, Ed.doNext])]
  rw [show (9999 : Nat) = 9998 + 1 from rfl, w3, show (9998 : Nat) = 9997 + 1 from rfl, w4 _ _ (by simp [Ed.printSpace, cO, Ed.print, Ed.printComing, Ed.printAll]), show (9997 : Nat) = 9996 + 1 from rfl, w0_end _ _ (by simp [Ed.printSpace, cO, Ed.print, Ed.printComing, Ed.printAll, Ed.atHand]) (by simp [Ed.printSpace, cO, Ed.print, Ed.printComing, Ed.printAll, Ed.more])]
  simp [Ed.printSpace, cO, Ed.print, Ed.printComing, Ed.printAll, row_txt]
theorem o_lines : ∀ (ls : List (List UInt8)) (o p : List UInt8) (q : ByteArray) (n lk at' i : Nat), (∀ l ∈ ls, okL 80 l) →
    (i % 2 = 0 → (((oA o q n lk at').feed mf cO (joinN ls)).endIt mf cO).state = 1 ∧ (((oA o q n lk at').feed mf cO (joinN ls)).endIt mf cO).out = o ++ oddF i ls) ∧
    (i % 2 = 1 → (((oB o p n).feed mf cO (joinN ls)).endIt mf cO).state = 1 ∧ (((oB o p n).feed mf cO (joinN ls)).endIt mf cO).out = o ++ p ++ [10] ++ oddF i ls)
  | [], o, p, q, n, lk, at', i, _ => by
    refine ⟨fun _ => ?_, fun _ => ?_⟩
    · rw [show joinN [] = [] from rfl, feed_nil, end_none _ ⟨rfl, rfl, rfl, rfl, rfl⟩]
      exact ⟨rfl, by simp [oA, oddF]⟩
    · rw [show joinN [] = [] from rfl, feed_nil]
      have := o_end (mf := mf) o p n
      exact ⟨this.1, by rw [this.2]; simp [oddF]⟩
  | l :: ls, o, p, q, n, lk, at', i, hl => by
    have h1 := hl l (by simp)
    have h2 := fun m hm => hl m (List.mem_cons_of_mem _ hm)
    refine ⟨fun hi => ?_, fun hi => ?_⟩
    · have := (o_lines ls o l emp (n + 1) 1 1 (i + 1) h2).2 (by omega)
      rw [joinN_cons, feed_app, o_first l o q n lk at' h1]
      exact ⟨this.1, by rw [this.2, oddF, if_pos hi]; simp⟩
    · have := (o_lines ls (o ++ p ++ [10]) [] (txt l) (n + 1) 1 1 (i + 1) h2).1 (by omega)
      rw [joinN_cons, feed_app, o_second l o p n h1]
      exact ⟨this.1, by rw [this.2, oddF, if_neg (by omega)]; simp⟩
theorem makes_O (ls : List (List UInt8)) (hl : ∀ l ∈ ls, okL 80 l) : Makes mf scO false (joinN ls) (oddF 0 ls) := by
  refine ⟨opens_of read_scO _ _ _ alw_wide, ?_⟩
  have ec : cfO scO 80 80 1000 false = cO := cf_of read_scO 80 80 1000 false
  unfold made fin
  rw [ec, show ed0 cO = oA [] emp 0 0 0 from rfl]
  have := (o_lines (mf := mf) ls [] [] emp 0 0 0 0 hl).1 rfl
  simpa using this

/- The last one. -/
def cmL1 : Cm := { cmK 1 with fst := ⟨2, 0, emp⟩, neg := true }
def scL : ByteArray := ⟨#[36, 33, 100]⟩
theorem read_scL : readR scL = ([cmL1], 0, 0) := by rfl
def cL : Cf := ⟨80, 80, 1000, false, [cmL1]⟩
def lB (p : List UInt8) (n : Nat) : Ed := ⟨[], false, false, n, txt p, emp, [], 0, [], [false], 0, 2, 1, false, 0⟩
def lC (nx : List UInt8) (p : List UInt8) (n : Nat) : Ed := ⟨nx, false, false, n, txt p, emp, [], 0, [], [false], 0, 0, 1, false, 0⟩
theorem l_read (en : Bool) (p q : List UInt8) (n f : Nat) (sg lk : Nat) : Ed.workF mf cL (f + 2) 1 ⟨[], false, false, n, txt p, emp, [], 0, [], [false], 0, sg, 0, false, 0⟩ = lB p n := by
  rw [show f + 2 = (f + 1) + 1 from rfl, w1_cmd _ _ (by simp [cL])]
  rw [w2_0 _ _ (lB p n) (by
    simp [Ed.command, Ed.choose, Ed.selects, Ed.meets, Ed.known, Ed.more, cmK, cmL1, cL, lB])]
theorem l_first (l : List UInt8) (hl : okL 80 l) : (ed0 cL).feed mf cL (l ++ [10]) = lB l 1 := by
  rw [line_fed (ed0 cL) (ed0_rz cL) l ⟨hl.1, hl.2, hl.2⟩]
  exact l_read false l l 1 9997 0 0
theorem l_more (b : UInt8) (p : List UInt8) (n : Nat) (hb : b ≠ 10) : (lB p n).feed1 mf cL b = lC [b] p n := by
  unfold Ed.feed1
  rw [if_pos (by simp [Ed.takes, lB])]
  unfold Ed.work
  have ea : (lB p n).add b = ⟨[b], false, false, n, txt p, emp, [], 0, [], [false], 0, 2, 1, false, 0⟩ := by simp [Ed.add, hb, lB]
  rw [ea, if_neg (by simp), show (10000 : Nat) = 9999 + 1 from rfl, w2_3 _ _ ⟨[b], false, false, n, txt p, emp, [], 0, [], [false], 0, 3, 1, false, 0⟩ (by
    simp [Ed.command, Ed.choose, Ed.selects, Ed.meets, Ed.known, Ed.more, Ed.doIt, cmK, cmL1, cL])]
  rw [show (9999 : Nat) = 9998 + 1 from rfl, w4 _ _ (by simp [Ed.printComing, Ed.printAll]), show (9998 : Nat) = 9997 + 1 from rfl, w0_wait _ _ (by simp [Ed.printComing, Ed.printAll, Ed.atHand, Ed.tooLong, cL])]
  rfl
theorem l_nl (nx p : List UInt8) (n f sg lk : Nat) (hn : nx.length ≤ 80) : Ed.workF mf cL (f + 3) 0 ⟨nx, true, false, n, txt p, emp, [], 0, [], [false], 0, sg, lk, false, 0⟩ = lB nx (n + 1) := by
  rw [show f + 3 = (f + 2) + 1 from rfl, w0_line _ _ (by simp [Ed.atHand]) (by simp [Ed.more]) hn hn]
  exact l_read false nx nx (n + 1) f 0 0
theorem l_line (l p : List UInt8) (n : Nat) (hl : okL 80 l) : (lB p n).feed mf cL (l ++ [10]) = lB l (n + 1) := by
  cases l with
  | nil =>
    rw [List.nil_append, feed_cons, feed_nil]
    unfold Ed.feed1
    rw [if_pos (by simp [Ed.takes, lB])]
    unfold Ed.work
    have ea : (lB p n).add 10 = ⟨[], true, false, n, txt p, emp, [], 0, [], [false], 0, 2, 1, false, 0⟩ := by simp [Ed.add, lB]
    rw [ea, if_neg (by simp), show (10000 : Nat) = 9999 + 1 from rfl, w2_3 _ _ ⟨[], true, false, n, txt p, emp, [], 0, [], [false], 0, 3, 1, false, 0⟩ (by
      simp [Ed.command, Ed.choose, Ed.selects, Ed.meets, Ed.known, Ed.more, Ed.doIt, cmK, cmL1, cL])]
    rw [show (9999 : Nat) = 9998 + 1 from rfl, w4 _ _ (by simp [Ed.printComing, Ed.printAll])]
    exact l_nl [] p n 9995 3 1 (by simp)
  | cons b l =>
    have hb0 := hl.1 b (by simp)
    have hl2 := hl.2
    simp only [List.length_cons] at hl2
    have hb := feed_bytes (mf := mf) (cf := cL) l (lC [b] p n) rfl rfl rfl rfl (fun c hc => hl.1 c (by simp [hc])) (by simp [lC, cL]; omega)
    rw [List.cons_append, feed_cons, l_more b p n hb0, feed_app, hb, feed_cons, feed_nil]
    unfold Ed.feed1
    rw [if_pos (by simp [Ed.takes, lC])]
    unfold Ed.work
    have ea : Ed.add { lC [b] p n with next := (lC [b] p n).next ++ l } 10 = ⟨b :: l, true, false, n, txt p, emp, [], 0, [], [false], 0, 0, 1, false, 0⟩ := by simp [Ed.add, lC]
    rw [ea, if_pos rfl]
    exact l_nl (b :: l) p n 9997 0 1 (by simp; omega)
theorem l_lines : ∀ (ls : List (List UInt8)) (p : List UInt8) (n : Nat), (∀ l ∈ ls, okL 80 l) → ∃ p' n', (lB p n).feed mf cL (joinN ls) = lB p' n' ∧ p' ++ [10] = lastOf (p :: ls)
  | [], p, n, _ => ⟨p, n, rfl, rfl⟩
  | l :: ls, p, n, hl => by
    obtain ⟨p', n', e1, e2⟩ := l_lines ls l (n + 1) fun m hm => hl m (List.mem_cons_of_mem _ hm)
    refine ⟨p', n', ?_, ?_⟩
    · rw [joinN_cons, feed_app, l_line l p n (hl l (by simp)), e1]
    · rw [e2]
      rfl
theorem l_end (p : List UInt8) (n : Nat) : ((lB p n).endIt mf cL).state = 1 ∧ ((lB p n).endIt mf cL).out = p ++ [10] := by
  have h : (lB p n).endIt mf cL = Ed.workF mf cL (9999 + 1) 2 ⟨[], false, true, n, txt p, emp, [], 0, [], [false], 0, 2, 1, false, 0⟩ := by
    unfold Ed.endIt
    rw [if_pos (by simp [Ed.takes, lB])]
    unfold Ed.work
    rw [if_neg (by simp [lB])]
    rfl
  rw [h, w2_1 _ _ ⟨[], false, true, n, txt p, emp, [], 0, [], [false], 1, 2, 1, false, 0⟩ (by
    simp [Ed.command, Ed.choose, Ed.selects, Ed.meets, cmK, cmL1, cL, Ed.known, Ed.more, Ed.jump])]
  rw [show (9999 : Nat) = 9998 + 1 from rfl, w1_end _ _ rfl, show (9998 : Nat) = 9997 + 1 from rfl, w3, show (9997 : Nat) = 9996 + 1 from rfl, w4 _ _ (by simp [Ed.printSpace, cL, Ed.print, Ed.printComing, Ed.printAll]), show (9996 : Nat) = 9995 + 1 from rfl, w0_end _ _ (by simp [Ed.printSpace, cL, Ed.print, Ed.printComing, Ed.printAll, Ed.atHand]) (by simp [Ed.printSpace, cL, Ed.print, Ed.printComing, Ed.printAll, Ed.more])]
  simp [Ed.printSpace, cL, Ed.print, Ed.printComing, Ed.printAll, row_txt]
theorem makes_L (ls : List (List UInt8)) (hl : ∀ l ∈ ls, okL 80 l) : Makes mf scL false (joinN ls) (lastOf ls) := by
  refine ⟨opens_of read_scL _ _ _ alw_wide, ?_⟩
  have ec : cfO scL 80 80 1000 false = cL := cf_of read_scL 80 80 1000 false
  unfold made fin
  rw [ec]
  cases ls with
  | nil => exact ⟨rfl, rfl⟩
  | cons l ls =>
    obtain ⟨p', n', e1, e2⟩ := l_lines (mf := mf) ls l 1 fun m hm => hl m (List.mem_cons_of_mem _ hm)
    rw [joinN_cons, feed_app, l_first l (hl l (by simp)), e1, ← e2]
    exact l_end p' n'

/- The order turned. -/
def cmG1 : Cm := { cmK 8 with fst := ⟨1, 1, emp⟩, neg := true }
def scB : ByteArray := ⟨#[49, 33, 71, 59, 104, 59, 36, 33, 100]⟩
theorem read_scB : readR scB = ([cmG1, cmK 9, cmL1], 0, 0) := by rfl
def cB : Cf := ⟨80, 80, 1000, false, [cmG1, cmK 9, cmL1]⟩
def bB (p : List UInt8) (n : Nat) : Ed := ⟨[], false, false, n, txt p, txt p, [], 0, [], [false, false, false], 2, 2, 3, false, 0⟩
def bC (nx : List UInt8) (p : List UInt8) (n : Nat) : Ed := ⟨nx, false, false, n, txt p, txt p, [], 0, [], [false, false, false], 2, 0, 3, false, 0⟩
theorem b_rest (p : List UInt8) (hd : ByteArray) (n f sg : Nat) (hp : p.length ≤ 80) : Ed.workF mf cB (f + 4) 1 ⟨[], false, false, n, txt p, hd, [], 0, [], [false, false, false], 1, sg, 1, false, 0⟩ = bB p n := by
  have hsz : ¬ 80 < (txt p).size := by rw [txt_size]; omega
  rw [show f + 4 = (f + 3) + 1 from rfl, w1_cmd _ _ (by simp [cB])]
  rw [show f + 3 = (f + 2) + 1 from rfl, w2_1 _ _ ⟨[], false, false, n, txt p, txt p, [], 0, [], [false, false, false], 2, 3, 2, false, 0⟩ (by
    simp [Ed.command, Ed.choose, Ed.selects, Ed.meets, Ed.known, Ed.more, Ed.doIt, Ed.edit, Ed.holds, hsz, Ed.jump, cmK, cmG1, cB])]
  rw [show f + 2 = (f + 1) + 1 from rfl, w1_cmd _ _ (by simp [cB])]
  rw [w2_0 _ _ (bB p n) (by
    simp [Ed.command, Ed.choose, Ed.selects, Ed.meets, Ed.known, Ed.more, cmK, cmL1, cB, bB])]
theorem b_first (l : List UInt8) (hl : okL 80 l) : (ed0 cB).feed mf cB (l ++ [10]) = bB l 1 := by
  rw [line_fed (ed0 cB) (ed0_rz cB) l ⟨hl.1, hl.2, hl.2⟩]
  rw [show (9999 : Nat) = 9998 + 1 from rfl, w1_cmd _ _ (by simp [rd, cB])]
  rw [show (9998 : Nat) = 9997 + 1 from rfl, w2_1 _ _ ⟨[], false, false, 1, txt l, emp, [], 0, [], [false, false, false], 1, 2, 1, false, 0⟩ (by
    simp [Ed.command, Ed.choose, Ed.selects, Ed.meets, Ed.jump, cmK, cmG1, rd, cB, ed0])]
  exact b_rest l emp 1 9993 2 hl.2
theorem b_nl (nx p : List UInt8) (n f sg lk at' : Nat) (hn : nx.length + 1 + p.length ≤ 80) (h1 : 1 ≤ n) : Ed.workF mf cB (f + 7) 0 ⟨nx, true, false, n, txt p, txt p, [], 0, [], [false, false, false], at', sg, lk, false, 0⟩ = bB (nx ++ 10 :: p) (n + 1) := by
  have hsz : ¬ 80 < (txt (nx ++ 10 :: p)).size := by rw [txt_size, List.length_append, List.length_cons]; omega
  have h2 : ¬ 1 = n + 1 := by omega
  have h3 : n ≠ 0 := by omega
  rw [show f + 7 = (f + 6) + 1 from rfl, w0_line _ _ (by simp [Ed.atHand]) (by simp [Ed.more]) (by show nx.length ≤ 80; omega) (by show nx.length ≤ 80; omega)]
  rw [show f + 6 = (f + 5) + 1 from rfl, w1_cmd _ _ (by simp [rd, cB])]
  rw [show f + 5 = (f + 4) + 1 from rfl, w2_1 _ _ ⟨[], false, false, n + 1, txt (nx ++ 10 :: p), txt p, [], 0, [], [false, false, false], 1, 3, 1, false, 0⟩ (by
    simp [Ed.command, Ed.choose, Ed.selects, Ed.meets, Ed.jump, Ed.doIt, Ed.edit, Ed.grow, Ed.become, join_two, hsz, h2, h3, cmK, cmG1, rd, cB])]
  exact b_rest _ _ _ f 3 (by rw [List.length_append, List.length_cons]; omega)
theorem b_more (b : UInt8) (p : List UInt8) (n : Nat) (hb : b ≠ 10) : (bB p n).feed1 mf cB b = bC [b] p n := by
  unfold Ed.feed1
  rw [if_pos (by simp [Ed.takes, bB])]
  unfold Ed.work
  have ea : (bB p n).add b = ⟨[b], false, false, n, txt p, txt p, [], 0, [], [false, false, false], 2, 2, 3, false, 0⟩ := by simp [Ed.add, hb, bB]
  rw [ea, if_neg (by simp), show (10000 : Nat) = 9999 + 1 from rfl, w2_3 _ _ ⟨[b], false, false, n, txt p, txt p, [], 0, [], [false, false, false], 2, 3, 3, false, 0⟩ (by
    simp [Ed.command, Ed.choose, Ed.selects, Ed.meets, Ed.known, Ed.more, Ed.doIt, cmK, cmL1, cB])]
  rw [show (9999 : Nat) = 9998 + 1 from rfl, w4 _ _ (by simp [Ed.printComing, Ed.printAll]), show (9998 : Nat) = 9997 + 1 from rfl, w0_wait _ _ (by simp [Ed.printComing, Ed.printAll, Ed.atHand, Ed.tooLong, cB])]
  rfl
theorem b_line (l p : List UInt8) (n : Nat) (hl : ∀ b ∈ l, b ≠ 10) (hs : l.length + 1 + p.length ≤ 80) (h1 : 1 ≤ n) : (bB p n).feed mf cB (l ++ [10]) = bB (l ++ 10 :: p) (n + 1) := by
  cases l with
  | nil =>
    rw [List.nil_append, feed_cons, feed_nil]
    unfold Ed.feed1
    rw [if_pos (by simp [Ed.takes, bB])]
    unfold Ed.work
    have ea : (bB p n).add 10 = ⟨[], true, false, n, txt p, txt p, [], 0, [], [false, false, false], 2, 2, 3, false, 0⟩ := by simp [Ed.add, bB]
    rw [ea, if_neg (by simp), show (10000 : Nat) = 9999 + 1 from rfl, w2_3 _ _ ⟨[], true, false, n, txt p, txt p, [], 0, [], [false, false, false], 2, 3, 3, false, 0⟩ (by
      simp [Ed.command, Ed.choose, Ed.selects, Ed.meets, Ed.known, Ed.more, Ed.doIt, cmK, cmL1, cB])]
    rw [show (9999 : Nat) = 9998 + 1 from rfl, w4 _ _ (by simp [Ed.printComing, Ed.printAll])]
    exact b_nl [] p n 9991 3 3 2 hs h1
  | cons b l =>
    have hb0 := hl b (by simp)
    simp only [List.length_cons] at hs
    have hb := feed_bytes (mf := mf) (cf := cB) l (bC [b] p n) rfl rfl rfl rfl (fun c hc => hl c (by simp [hc])) (by simp [bC, cB]; omega)
    rw [List.cons_append, feed_cons, b_more b p n hb0, feed_app, hb, feed_cons, feed_nil]
    unfold Ed.feed1
    rw [if_pos (by simp [Ed.takes, bC])]
    unfold Ed.work
    have ea : Ed.add { bC [b] p n with next := (bC [b] p n).next ++ l } 10 = ⟨b :: l, true, false, n, txt p, txt p, [], 0, [], [false, false, false], 2, 0, 3, false, 0⟩ := by simp [Ed.add, bC]
    rw [ea, if_pos rfl]
    exact b_nl (b :: l) p n 9993 0 3 2 (by simpa using hs) h1
theorem b_lines : ∀ (ls : List (List UInt8)) (p : List UInt8) (n : Nat), (∀ l ∈ ls, okL 10 l) → 1 ≤ n → p.length + 11 * ls.length ≤ 80 → ∃ p' n', (bB p n).feed mf cB (joinN ls) = bB p' n' ∧ p' ++ [10] = joinN ls.reverse ++ (p ++ [10])
  | [], p, n, _, _, _ => ⟨p, n, rfl, by simp [joinN]⟩
  | l :: ls, p, n, hl, h1, hs => by
    have h2 := hl l (by simp)
    have h3 := h2.2
    simp only [List.length_cons] at hs
    obtain ⟨p', n', e1, e2⟩ := b_lines ls (l ++ 10 :: p) (n + 1) (fun m hm => hl m (List.mem_cons_of_mem _ hm)) (by omega) (by rw [List.length_append, List.length_cons]; omega)
    refine ⟨p', n', ?_, ?_⟩
    · rw [joinN_cons, feed_app, b_line l p n h2.1 (by omega) h1, e1]
    · rw [e2, List.reverse_cons, joinN_snoc]
      simp
theorem b_end (p : List UInt8) (n : Nat) : ((bB p n).endIt mf cB).state = 1 ∧ ((bB p n).endIt mf cB).out = p ++ [10] := by
  have h : (bB p n).endIt mf cB = Ed.workF mf cB (9999 + 1) 2 ⟨[], false, true, n, txt p, txt p, [], 0, [], [false, false, false], 2, 2, 3, false, 0⟩ := by
    unfold Ed.endIt
    rw [if_pos (by simp [Ed.takes, bB])]
    unfold Ed.work
    rw [if_neg (by simp [bB])]
    rfl
  rw [h, w2_1 _ _ ⟨[], false, true, n, txt p, txt p, [], 0, [], [false, false, false], 3, 2, 3, false, 0⟩ (by
    simp [Ed.command, Ed.choose, Ed.selects, Ed.meets, cmK, cmL1, cB, Ed.known, Ed.more, Ed.jump])]
  rw [show (9999 : Nat) = 9998 + 1 from rfl, w1_end _ _ rfl, show (9998 : Nat) = 9997 + 1 from rfl, w3, show (9997 : Nat) = 9996 + 1 from rfl, w4 _ _ (by simp [Ed.printSpace, cB, Ed.print, Ed.printComing, Ed.printAll]), show (9996 : Nat) = 9995 + 1 from rfl, w0_end _ _ (by simp [Ed.printSpace, cB, Ed.print, Ed.printComing, Ed.printAll, Ed.atHand]) (by simp [Ed.printSpace, cB, Ed.print, Ed.printComing, Ed.printAll, Ed.more])]
  simp [Ed.printSpace, cB, Ed.print, Ed.printComing, Ed.printAll, row_txt]
theorem makes_B (ls : List (List UInt8)) (hl : ∀ l ∈ ls, okL 10 l) (hn : ls.length ≤ 6) : Makes mf scB false (joinN ls) (joinN ls.reverse) := by
  refine ⟨opens_of read_scB _ _ _ alw_wide, ?_⟩
  have ec : cfO scB 80 80 1000 false = cB := cf_of read_scB 80 80 1000 false
  unfold made fin
  rw [ec]
  cases ls with
  | nil => exact ⟨rfl, rfl⟩
  | cons l ls =>
    have h1 := hl l (by simp)
    have h2 := h1.2
    simp only [List.length_cons] at hn
    obtain ⟨p', n', e1, e2⟩ := b_lines (mf := mf) ls l 1 (fun m hm => hl m (List.mem_cons_of_mem _ hm)) (by omega) (by omega)
    rw [joinN_cons, feed_app, b_first l ⟨h1.1, by omega⟩, e1, List.reverse_cons, joinN_snoc, ← e2]
    exact b_end p' n'
end
end Ee
end Go.Proofs.YtppjlpihaocdiabGreatDoor

set_option linter.unusedSimpArgs false
set_option linter.unusedVariables false
namespace Go.Proofs.YtppjlpihaocdiabGreatDoor
namespace Ee
open Go.RowKit
open Rs (Cm Wh Pc own_of CmdsIn readR)

theorem okL_mono {m k : Nat} {l : List UInt8} (h : okL m l) (hk : m ≤ k) : okL k l := ⟨h.1, Nat.le_trans h.2 hk⟩
theorem okL_line (m : Nat) (l : List UInt8) : okL m (lineF m l) := ⟨fun b hb => lineF_mem hb, lineF_len _ _⟩

theorem lins_okL {m : Nat} {ls : List (List UInt8)} (h : Lins m ls) : ∀ l ∈ ls, okL m l := fun l hl => ⟨(h l hl).2, (h l hl).1⟩
theorem in_small {m k : Nat} {ls : List (List UInt8)} (h : Lins m ls) (hl : ls.length ≤ k) (hk : k ≤ 20) (hm : m ≤ 80) : (joinN ls).length ≤ 2000 := by
  have h1 := joinN_len m ls fun l hl => (h l hl).1
  have h2 : ls.length * (m + 1) ≤ 20 * 81 := Nat.mul_le_mul (by omega) (by omega)
  omega

structure Tu (ls : List (List UInt8)) (i : Nat) (b l o t n : ByteArray) : Prop where
  b : b = txt (joinN (ls.take i).reverse)
  l : l = txt (lastOf (ls.take i))
  o : o = txt (oddF 0 (ls.take i))
  t : t = txt (joinN ((ls.take i).take 2))
  n : n = txt (Ee.numF 0 (ls.take i))

theorem odd_len : ∀ (ls : List (List UInt8)) (i : Nat), (oddF i ls).length ≤ (joinN ls).length
  | [], i => by simp [oddF, joinN]
  | l :: ls, i => by
    have := odd_len ls (i + 1)
    rw [oddF, joinN_cons, List.length_append, List.length_append]
    split
    · omega
    · simp
      omega
theorem num_len : ∀ (ls : List (List UInt8)) (i : Nat), (Ee.numF i ls).length = 2 * ls.length
  | [], i => by simp [Ee.numF]
  | l :: ls, i => by
    have := num_len ls (i + 1)
    rw [Ee.numF, List.length_append, this, List.length_cons]
    simp
    omega
theorem joinN_rev (ls : List (List UInt8)) : (joinN ls.reverse).length = (joinN ls).length := by
  induction ls with
  | nil => rfl
  | cons l ls ih =>
    rw [List.reverse_cons, joinN_snoc, joinN_cons]
    simp only [List.length_append, ih, List.length_singleton]
    omega
theorem joinN_take (ls : List (List UInt8)) (i : Nat) : (joinN (ls.take i)).length ≤ (joinN ls).length := by
  have e : joinN ls = joinN (ls.take i) ++ joinN (ls.drop i) := by
    unfold joinN
    rw [← List.flatMap_append, List.take_append_drop]
  rw [e, List.length_append]
  omega
theorem Tu.small {ls : List (List UInt8)} {i : Nat} {b l o t n : ByteArray} (h : Tu ls i b l o t n) (hj : (joinN ls).length ≤ 2000) (hi : i ≤ 20) : b.size ≤ 2000 ∧ o.size ≤ 2000 ∧ t.size ≤ 2000 ∧ n.size ≤ 40 := by
  have h1 := joinN_take ls i
  have h2 := odd_len (ls.take i) 0
  have h3 := joinN_take (ls.take i) 2
  have h4 := num_len (ls.take i) 0
  have h5 : (ls.take i).length ≤ i := by rw [List.length_take]; omega
  rw [h.b, h.o, h.t, h.n, txt_size, txt_size, txt_size, txt_size, joinN_rev]
  omega
theorem take_snoc {ls : List (List UInt8)} {i : Nat} (h : i < ls.length) : ls.take (i + 1) = ls.take i ++ [ls[i]] := by rw [List.take_add_one, List.getElem?_eq_getElem h, Option.toList_some]
theorem nl_txt : (⟨#[10]⟩ : ByteArray) = txt [10] := rfl
theorem Tu.step {ls : List (List UInt8)} {i : Nat} {b l o t n o' t' : ByteArray} (h : Tu ls i b l o t n) (hi : i < ls.length) (ho : o' = if i % 2 = 0 then o ++ txt ls[i] ++ ⟨#[10]⟩ else o) (ht : t' = if i < 2 then t ++ txt ls[i] ++ ⟨#[10]⟩ else t) :
    Tu ls (i + 1) (txt ls[i] ++ ⟨#[10]⟩ ++ b) (txt ls[i] ++ ⟨#[10]⟩) o' t' (n ++ txt [UInt8.ofNat (49 + i)] ++ ⟨#[10]⟩) := by
  have hlen : (ls.take i).length = i := by rw [List.length_take]; omega
  refine ⟨?_, ?_, ?_, ?_, ?_⟩
  · rw [take_snoc hi, back_snoc, h.b, nl_txt, txt_append, txt_append]
  · rw [take_snoc hi, lastOf_snoc, nl_txt, txt_append]
  · rw [take_snoc hi, oddF_snoc, hlen, Nat.zero_add, ho, h.o, nl_txt, txt_append, txt_append]
    split
    · simp
    · simp
  · rw [take_snoc hi, two_snoc, hlen, ht, h.t, nl_txt, txt_append, txt_append]
    split
    · simp
    · simp
  · rw [take_snoc hi, numF_snoc, hlen, Nat.zero_add, h.n, nl_txt, txt_append, txt_append]
    simp
theorem Tu.zero (ls : List (List UInt8)) : Tu ls 0 ⟨#[]⟩ ⟨#[]⟩ ⟨#[]⟩ ⟨#[]⟩ ⟨#[]⟩ := ⟨rfl, rfl, rfl, rfl, rfl⟩

set_option maxRecDepth 100000 in
set_option maxHeartbeats 8000000 in
theorem turned_any (mf : Mf) (hm : MfOk mf) (ao : Option Addr) (n cap : Nat) (w : World) (hI : Strs w ao n) (ht : Tab w) :
    Calls Tryz.prog 3 #[.slice ao n cap] w fun e w' => e = .returned (.bool true) ∧ Below w.heap.size w w' := by
  have HT : Hid (Tab w) := ht
  have HMK : Hid (∀ (s : ByteArray) (q : Bool) (inp want : ByteArray) (W : World), s.size ≤ maxLen → inp.size ≤ 1048576 → Tab W → Makes mf s q (row inp) (row want) → Calls Tryz.prog 7 #[.string s, .bool q, .string inp, .string want] W fun e w' => e = .returned (.bool true) ∧ Below W.heap.size W w') := fun s q inp want W h1 h2 h3 h4 => makes_true mf hm s inp want q W h1 h2 h3 h4
  have HED : Hid (∀ (inp : ByteArray) (W : World), inp.size ≤ 1048576 → Tab W → Calls Tryz.prog 8 #[.string scQ, .agg #[.int .i64 80, .int .i64 80, .int .i64 1000, .bool false], .string inp] W (EQ mf scQ inp 80 80 1000 false W)) := fun inp W h1 h2 => edited_any mf hm scQ inp 80 80 1000 false W (by decide) h1 h2
  have hL := lines_any ao n cap 6 10 w hI (by omega) (by omega)
  clear ht hm hI
  go_enter Tryz.func3, Tryz.ntmps3
  go_wp2_with fail
  refine hL.mono ?_
  rintro e w1 ⟨lv, ls, rfl, hb1, hown, hlen, hlins⟩
  have HB1 : Hid (Below w.heap.size w w1) := hb1
  have HLs : Hid (∀ l ∈ ls, okL 10 l) := lins_okL hlins
  have hjl : (joinN ls).length ≤ 2000 := in_small hlins hlen (by omega) (by omega)
  have hform : ∃ ao2 cp2, lv = .slice ao2 ls.length cp2 ∧ ∀ i, i < ls.length → ∃ g, ao2 = some ⟨g, 0, none⟩ ∧ g < w1.heap.size ∧ ∀ (hi : i < ls.length), w1.cell? ⟨g, i, none⟩ = some (.string (txt ls[i])) := by
    rcases own_form2 hown with ⟨e, e0⟩ | ⟨g, cp, e, hcap⟩
    · exact ⟨none, 0, by rw [e, e0], fun i hi => by omega⟩
    · refine ⟨_, _, e, fun i hi => ⟨g, rfl, ?_, fun hi => ?_⟩⟩
      · have := hown.lt g (by rw [e]; rfl)
        exact this.2
      · subst e
        have hcell := hown.cellAt i (by omega)
        rw [hcell]
        simp [sv, List.getElem?_eq_getElem hi]
  obtain ⟨ao2, cp2, rfl, hcells⟩ := hform
  have HCE : Hid (∀ i, i < ls.length → ∃ g, ao2 = some ⟨g, 0, none⟩ ∧ g < w1.heap.size ∧ ∀ (hi : i < ls.length), w1.cell? ⟨g, i, none⟩ = some (.string (txt ls[i]))) := hcells
  clear hL hb1 hown hlins hcells
  have HT0 : Hid (Tu ls 0 ⟨#[]⟩ ⟨#[]⟩ ⟨#[]⟩ ⟨#[]⟩ ⟨#[]⟩) := Tu.zero ls
  go_wp2_with fail
  go_loopw [5, 6, 7, 8, 9, 10] (fun x5 x6 x7 x8 x9 x10 wr => ∃ (i : Nat) (b l o t m : ByteArray), i ≤ ls.length ∧ x5 = .string b ∧ x6 = .string l ∧ x7 = .string o ∧ x8 = .string t ∧ x9 = .string m ∧ x10 = .int .i64 i ∧ Hid (Tu ls i b l o t m) ∧ Hid (Below w1.heap.size w1 wr)) (fun _ _ _ _ _ x10 _ => ls.length + 1 - (intOf x10).toNat)
  case atStart => exact ⟨0, ⟨#[]⟩, ⟨#[]⟩, ⟨#[]⟩, ⟨#[]⟩, ⟨#[]⟩, by omega, rfl, rfl, rfl, rfl, rfl, rfl, HT0.out, Below.refl _ _⟩
  case round =>
    obtain ⟨i, b, l, o, t, m, hi, rfl, rfl, rfl, rfl, rfl, rfl, HTu, HBr⟩ := hrel
    by_cases hlt : i < ls.length
    · obtain ⟨s1, s2, s3, s4⟩ := HTu.out.small hjl (by omega)
      obtain ⟨g, hao, hg, hc⟩ := HCE.out i hlt
      have hcr : wr.cell? ⟨g, i, none⟩ = some (.string (txt ls[i])) := (World.cell?_of_block (w := w1) (w' := wr) (a := ⟨g, i, none⟩) (HBr.out.block g hg)).trans (hc hlt)
      have hxs : (txt ls[i]).size ≤ 10 := by
        rw [txt_size]
        exact (HLs.out ls[i] (List.getElem_mem hlt)).2
      have HSt : Hid (∀ o' t' : ByteArray, (o' = if i % 2 = 0 then o ++ txt ls[i] ++ ⟨#[10]⟩ else o) → (t' = if i < 2 then t ++ txt ls[i] ++ ⟨#[10]⟩ else t) → Tu ls (i + 1) (txt ls[i] ++ ⟨#[10]⟩ ++ b) (txt ls[i] ++ ⟨#[10]⟩) o' t' (m ++ txt [UInt8.ofNat (49 + i)] ++ ⟨#[10]⟩)) := fun o' t' h1 h2 => HTu.out.step hlt h1 h2
      have hcv : ∀ (w9 : World), Sem.run Tryz.prog (convert 25 9 (.slice (some ⟨w9.heap.size, 0, none⟩) 1 1)) (w9.alloc (.cells #[.int .u8 (49 + (i : Int))] 5)) = .ok (.string (txt [UInt8.ofNat (49 + i)])) (w9.alloc (.cells #[.int .u8 (49 + (i : Int))] 5)) := fun w9 => by
        rw [run_convert_bytes_arg (P := Tryz.prog) _ 25 5 Tryz.underlying25 Tryz.underlying5 w9.heap.size 0 1 1 [49 + (i : Int)] rfl (fun q hq => by
          rw [cell_of_row _ w9.heap.size (0 + q) _ 5 (0, 0) (heap_alloc_last w9 _)]
          obtain rfl : q = 0 := by omega
          rfl) 9 Tryz.underlying9]
        unfold strOfNums
        simp only [List.map_cons, List.map_nil]
        rw [show (49 + (i : Int)).toNat = 49 + i by omega]
        rfl
      have hds : (txt [UInt8.ofNat (49 + i)]).size = 1 := rfl
      have hns : (⟨#[10]⟩ : ByteArray).size = 1 := rfl
      have HB2 : Hid (Below w1.heap.size w1 (wr.alloc (.cells #[.int .u8 (49 + (i : Int))] 5))) := HBr.out.trans ((below_alloc wr _).mono HBr.out.size)
      generalize txt [UInt8.ofNat (49 + i)] = D at *
      generalize txt ls[i] = X at *
      have z1 : (X ++ (⟨#[10]⟩ : ByteArray)).size = X.size + 1 := by rw [ByteArray.size_append, hns]
      have z3 : (o ++ X).size = o.size + X.size := ByteArray.size_append
      have z5 : (t ++ X).size = t.size + X.size := ByteArray.size_append
      have z7 : (m ++ D).size = m.size + 1 := by rw [ByteArray.size_append, hds]
      have a1 : ∀ W : World, (Op.stringOp .add X ⟨#[10]⟩).run Tryz.prog W = .ok (.string (X ++ ⟨#[10]⟩)) W := fun W => run_string_add_sum (P := Tryz.prog) (w := W) _ _ (by omega)
      have a2 : ∀ W : World, (Op.stringOp .add (X ++ ⟨#[10]⟩) b).run Tryz.prog W = .ok (.string (X ++ ⟨#[10]⟩ ++ b)) W := fun W => run_string_add_sum (P := Tryz.prog) (w := W) _ _ (by omega)
      have a3 : ∀ W : World, (Op.stringOp .add o X).run Tryz.prog W = .ok (.string (o ++ X)) W := fun W => run_string_add_sum (P := Tryz.prog) (w := W) _ _ (by omega)
      have a4 : ∀ W : World, (Op.stringOp .add (o ++ X) ⟨#[10]⟩).run Tryz.prog W = .ok (.string (o ++ X ++ ⟨#[10]⟩)) W := fun W => run_string_add_sum (P := Tryz.prog) (w := W) _ _ (by omega)
      have a5 : ∀ W : World, (Op.stringOp .add t X).run Tryz.prog W = .ok (.string (t ++ X)) W := fun W => run_string_add_sum (P := Tryz.prog) (w := W) _ _ (by omega)
      have a6 : ∀ W : World, (Op.stringOp .add (t ++ X) ⟨#[10]⟩).run Tryz.prog W = .ok (.string (t ++ X ++ ⟨#[10]⟩)) W := fun W => run_string_add_sum (P := Tryz.prog) (w := W) _ _ (by omega)
      have a7 : ∀ W : World, (Op.stringOp .add m D).run Tryz.prog W = .ok (.string (m ++ D)) W := fun W => run_string_add_sum (P := Tryz.prog) (w := W) _ _ (by omega)
      have a8 : ∀ W : World, (Op.stringOp .add (m ++ D) ⟨#[10]⟩).run Tryz.prog W = .ok (.string (m ++ D ++ ⟨#[10]⟩)) W := fun W => run_string_add_sum (P := Tryz.prog) (w := W) _ _ (by omega)
      subst hao
      have hi6 : i < 6 := by omega
      clear hc z1 z3 z5 z7 s1 s2 s3 s4 hxs hds hns
      by_cases hev : i % 2 = 0
      · have qm : (Int.tmod (i : Int) 2 == 0) = true := by
          rw [Int.tmod_eq_emod_of_nonneg (by omega)]
          simp
          omega
        by_cases h2 : i < 2
        · have HF := HSt.out (o ++ X ++ ⟨#[10]⟩) (t ++ X ++ ⟨#[10]⟩) (by rw [if_pos hev]) (by rw [if_pos h2])
          have HF' : Hid (Tu ls (i + 1) (X ++ ⟨#[10]⟩ ++ b) (X ++ ⟨#[10]⟩) (o ++ X ++ ⟨#[10]⟩) (t ++ X ++ ⟨#[10]⟩) (m ++ D ++ ⟨#[10]⟩)) := HF
          clear HF
          go_wp2_with fail
          go_roundw
          case rel => exact ⟨i + 1, _, _, _, _, _, by omega, rfl, rfl, rfl, rfl, rfl, by go_num, HF'.out, HB2.out⟩
          case measure => simp [intOf]; omega
        · have HF := HSt.out (o ++ X ++ ⟨#[10]⟩) t (by rw [if_pos hev]) (by rw [if_neg h2])
          have HF' : Hid (Tu ls (i + 1) (X ++ ⟨#[10]⟩ ++ b) (X ++ ⟨#[10]⟩) (o ++ X ++ ⟨#[10]⟩) t (m ++ D ++ ⟨#[10]⟩)) := HF
          clear HF
          go_wp2_with fail
          go_roundw
          case rel => exact ⟨i + 1, _, _, _, _, _, by omega, rfl, rfl, rfl, rfl, rfl, by go_num, HF'.out, HB2.out⟩
          case measure => simp [intOf]; omega
      · have qm : (Int.tmod (i : Int) 2 == 0) = false := by
          rw [Int.tmod_eq_emod_of_nonneg (by omega)]
          simp
          omega
        by_cases h2 : i < 2
        · have HF := HSt.out o (t ++ X ++ ⟨#[10]⟩) (by rw [if_neg hev]) (by rw [if_pos h2])
          have HF' : Hid (Tu ls (i + 1) (X ++ ⟨#[10]⟩ ++ b) (X ++ ⟨#[10]⟩) o (t ++ X ++ ⟨#[10]⟩) (m ++ D ++ ⟨#[10]⟩)) := HF
          clear HF
          go_wp2_with fail
          go_roundw
          case rel => exact ⟨i + 1, _, _, _, _, _, by omega, rfl, rfl, rfl, rfl, rfl, by go_num, HF'.out, HB2.out⟩
          case measure => simp [intOf]; omega
        · have HF := HSt.out o t (by rw [if_neg hev]) (by rw [if_neg h2])
          have HF' : Hid (Tu ls (i + 1) (X ++ ⟨#[10]⟩ ++ b) (X ++ ⟨#[10]⟩) o t (m ++ D ++ ⟨#[10]⟩)) := HF
          clear HF
          go_wp2_with fail
          go_roundw
          case rel => exact ⟨i + 1, _, _, _, _, _, by omega, rfl, rfl, rfl, rfl, rfl, by go_num, HF'.out, HB2.out⟩
          case measure => simp [intOf]; omega
    · have hiN : i = ls.length := by omega
      have hin : (txt (joinN ls)).size ≤ 1048576 := by rw [txt_size]; omega
      have hB0 : Hid (Below w.heap.size w wr) := HB1.out.trans (HBr.out.mono HB1.out.size)
      have et : ls.take i = ls := by rw [hiN, List.take_length]
      have e1 : b = txt (joinN ls.reverse) := by rw [HTu.out.b, et]
      have e2 : l = txt (lastOf ls) := by rw [HTu.out.l, et]
      have e3 : o = txt (oddF 0 ls) := by rw [HTu.out.o, et]
      have e4 : m = txt (Ee.numF 0 ls) := by rw [HTu.out.n, et]
      have e5 : t = txt (joinN (ls.take 2)) := by rw [HTu.out.t, et]
      have H1 : Hid (∀ W, Tab W → Calls Tryz.prog 7 #[.string ⟨#[49, 33, 71, 59, 104, 59, 36, 33, 100]⟩, .bool false, .string (txt (joinN ls)), .string b] W fun e w' => e = .returned (.bool true) ∧ Below W.heap.size W w') := fun W hW => HMK.out scB false _ _ W (by decide) hin hW (by
        rw [e1, row_txt, row_txt]
        exact makes_B ls HLs.out hlen)
      have H2 : Hid (∀ W, Tab W → Calls Tryz.prog 7 #[.string ⟨#[36, 33, 100]⟩, .bool false, .string (txt (joinN ls)), .string l] W fun e w' => e = .returned (.bool true) ∧ Below W.heap.size W w') := fun W hW => HMK.out scL false _ _ W (by decide) hin hW (by
        rw [e2, row_txt, row_txt]
        exact makes_L ls (fun l hl => okL_mono (HLs.out l hl) (by omega)))
      have H3 : Hid (∀ W, Tab W → Calls Tryz.prog 7 #[.string ⟨#[110, 59, 100]⟩, .bool false, .string (txt (joinN ls)), .string o] W fun e w' => e = .returned (.bool true) ∧ Below W.heap.size W w') := fun W hW => HMK.out scO false _ _ W (by decide) hin hW (by
        rw [e3, row_txt, row_txt]
        exact makes_O ls (fun l hl => okL_mono (HLs.out l hl) (by omega)))
      have H4 : Hid (∀ W, Tab W → Calls Tryz.prog 7 #[.string ⟨#[61]⟩, .bool true, .string (txt (joinN ls)), .string m] W fun e w' => e = .returned (.bool true) ∧ Below W.heap.size W w') := fun W hW => HMK.out scN true _ _ W (by decide) hin hW (by
        rw [e4, row_txt, row_txt]
        exact makes_N ls (fun l hl => okL_mono (HLs.out l hl) (by omega)) (by omega))
      have H5 : Hid (∀ W, Tab W → Calls Tryz.prog 8 #[.string ⟨#[50, 113]⟩, .agg #[.int .i64 80, .int .i64 80, .int .i64 1000, .bool false], .string (txt (joinN ls))] W fun e w' => e = .returned (.tuple #[.string t, .int .i64 (((if 2 ≤ ls.length then 2 else 1 : Nat)) : Int), .bool true]) ∧ Below W.heap.size W w') := fun W hW => by
        refine (HED.out (txt (joinN ls)) W hin hW).mono ?_
        rintro e w' ⟨hb, h⟩
        refine ⟨?_, hb⟩
        have ho : opens scQ 80 80 1000 = true := opens_of read_scQ _ _ _ alw_wide
        obtain ⟨k1, k2⟩ := two_made (mf := mf) ls (fun l hl => okL_mono (HLs.out l hl) (by omega))
        unfold made at k1 k2
        rcases h with ⟨h1, _⟩ | ⟨h1, h2⟩
        · rw [ho] at h1
          cases h1
        · rw [h2, row_txt, k1, k2, e5]
      have HWD : Hid (∀ W, Calls Tryz.prog 9 #[.bool false] W fun e w' => e = .returned (.agg #[.int .i64 80, .int .i64 80, .int .i64 1000, .bool false]) ∧ Below W.heap.size W w') := fun W => wide_any false W
      clear HMK HED HLs HCE HTu HBr e1 e2 e3 e4 e5 et hin HT0 hjl
      subst hiN
      generalize txt (joinN ls) = J at *
      go_wp2_with fail
      refine (H1.out wr (HT.out.below hB0.out)).mono ?_
      rintro e w3 ⟨rfl, hb3⟩
      have HB3 : Hid (Below w.heap.size w w3) := hB0.out.trans (hb3.mono hB0.out.size)
      clear hb3
      go_wp2_with fail
      refine (H2.out w3 (HT.out.below HB3.out)).mono ?_
      rintro e w4 ⟨rfl, hb4⟩
      have HB4 : Hid (Below w.heap.size w w4) := HB3.out.trans (hb4.mono HB3.out.size)
      clear hb4
      go_wp2_with fail
      refine (H3.out w4 (HT.out.below HB4.out)).mono ?_
      rintro e w5 ⟨rfl, hb5⟩
      have HB5 : Hid (Below w.heap.size w w5) := HB4.out.trans (hb5.mono HB4.out.size)
      clear hb5
      go_wp2_with fail
      refine (H4.out w5 (HT.out.below HB5.out)).mono ?_
      rintro e w6 ⟨rfl, hb6⟩
      have HB6 : Hid (Below w.heap.size w w6) := HB5.out.trans (hb6.mono HB5.out.size)
      clear hb6
      go_wp2_with fail
      refine (HWD.out w6).mono ?_
      rintro e w7 ⟨rfl, hb7⟩
      have HB7 : Hid (Below w.heap.size w w7) := HB6.out.trans (hb7.mono HB6.out.size)
      clear hb7
      go_wp2_with fail
      refine (H5.out w7 (HT.out.below HB7.out)).mono ?_
      rintro e w8 ⟨rfl, hb8⟩
      have HB8 : Hid (Below w.heap.size w w8) := HB7.out.trans (hb8.mono HB7.out.size)
      clear hb8 H1 H2 H3 H4 H5
      have qt : (t.toList == t.toList) = true := by simp
      by_cases h2 : 2 ≤ ls.length
      · rw [if_pos h2]
        go_wp2_with fail
        go_ret
        exact ⟨rfl, HB8.out⟩
      · rw [if_neg h2]
        go_wp2_with fail
        go_ret
        exact ⟨rfl, HB8.out⟩
end Ee
end Go.Proofs.YtppjlpihaocdiabGreatDoor
