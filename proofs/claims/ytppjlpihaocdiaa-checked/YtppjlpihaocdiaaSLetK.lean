/- Several texts in one. -/
import Derived.Test.YtppjlpihaocdiaaSSpecK
import Derived.Test.YtppjlpihaocdiaaRefWK
import Derived.Test.YtppjlpihaocdiaaRefRowLawsK
/- The document's walk over a script, in memory: what lies where; the plain steps. -/
set_option linter.unusedSimpArgs false
set_option linter.unusedVariables false
namespace Go.Proofs.Ytppjlpihaocdiaa
namespace Sk
open Go.RowKit

def r256 (f : Nat → Bool) : List Value := (List.range 256).map fun k => Value.bool (f k)

/-- The 274 cells of the walk over a script. -/
def scL (x : Sc) (pv lv bv : Value) : List Value :=
  .int .i64 x.mode :: .int .i64 x.op :: .int .i64 x.pat.m :: .int .i64 x.pat.o :: .int .i64 x.pat.a :: .int .i64 x.pat.l :: .int .i64 x.part :: .int .i64 x.count :: .int .i64 x.zero :: .int .i64 x.least ::
  .bool x.goal :: .bool x.all :: .bool x.print :: .bool x.numbers :: (r256 x.row ++ [.int .i64 x.rows, pv, lv, bv])

theorem scL_length (x : Sc) (pv lv bv : Value) : (scL x pv lv bv).length = 274 := by simp [scL, r256]

def ints (l : List Nat) : List Value := l.map fun n : Nat => Value.int .i64 (n : Int)
def str (l : List Nat) : ByteArray := ⟨(l.map UInt8.ofNat).toArray⟩
def lbL (l : List Lb) : List Value := l.flatMap fun q => [Value.string (str q.name), .int .i64 q.at', .bool q.goal]

/-- What is noted beside the cells: three rows that grow. -/
structure Notes (w : World) (b : Nat) (x : Sc) (pv lv bv : Value) : Prop where
  o1 : w.ownsRow (b + 1) 3 1 pv x.patAt.length (ints x.patAt)
  o2 : w.ownsRow (b + 1) 3 1 lv x.patLen.length (ints x.patLen)
  o3 : w.ownsRow (b + 1) 63 3 bv x.labels.length (lbL x.labels)
  d12 : ∀ k, pv.ownBlock = some k → lv.ownBlock ≠ some k
  d13 : ∀ k, pv.ownBlock = some k → bv.ownBlock ≠ some k
  d23 : ∀ k, lv.ownBlock = some k → bv.ownBlock ≠ some k

/-- The numbers of the walk are small. -/
structure Sm (x : Sc) : Prop where
  op : x.op ≤ 5
  count : x.count ≤ 1000
  zero : x.zero ≤ 1
  least : x.least ≤ 1
  rows : x.rows ≤ 1000
  part : x.part ≤ 2
  mode : x.mode ≤ 21
  pat : Small x.pat

/-- The walk over a script lies at block b. -/
def ScAt (w : World) (b : Nat) (x : Sc) : Prop := ∃ pv lv bv, Row w b (scL x pv lv bv) ∧ Notes w b x pv lv bv

/-- What a step leaves. -/
def Sd (b : Nat) (w : World) (r : Option Sc) (e : Ending) (w' : World) : Prop :=
  ∃ q, e = .returned (.bool q) ∧ Below b w w' ∧ ((∃ x', r = some x' ∧ q = true ∧ ScAt w' b x') ∨ (r = none ∧ q = false))

theorem Notes.sole {w w' : World} {b : Nat} {x : Sc} {pv lv bv : Value} (h : Notes w b x pv lv bv) (hs : Sole b w w') : Notes w' b x pv lv bv := by
  obtain ⟨o1, o2, o3, d1, d2, d3⟩ := h
  have key : ∀ {e : TypeId} {sz n : Nat} {v : Value} {xs : List Value}, w.ownsRow (b + 1) e sz v n xs → w'.ownsRow (b + 1) e sz v n xs := by
    intro e sz n v xs ho
    obtain ⟨h1, h2⟩ := ho
    refine ⟨h1, ?_⟩
    rcases h2 with h2 | ⟨g, cap, cur, hv, hg, hh, r⟩
    · exact .inl h2
    · exact .inr ⟨g, cap, cur, hv, hg, by rw [hs.block g (by omega)]; exact hh, r⟩
  exact ⟨key o1, key o2, key o3, d1, d2, d3⟩

/-- Some cells of the walk are written: the rows beside it stay. -/
theorem ScAt.put {w w' : World} {b : Nat} {x x' : Sc} {pv lv bv : Value} (hn : Notes w b x pv lv bv) (hs : Sole b w w') (hr : Row w' b (scL x' pv lv bv)) (e1 : x'.patAt = x.patAt) (e2 : x'.patLen = x.patLen) (e3 : x'.labels = x.labels) : ScAt w' b x' := by
  obtain ⟨o1, o2, o3, d1, d2, d3⟩ := hn.sole hs
  exact ⟨pv, lv, bv, hr, by rw [e1]; exact o1, by rw [e2]; exact o2, by rw [e3]; exact o3, d1, d2, d3⟩

theorem Sole.below {w w' : World} {b : Nat} (h : Sole b w w') : Below b w w' := ⟨h.os, h.tape, h.output, by rw [h.size]; exact Nat.le_refl _, fun k hk => h.block k (by omega)⟩

/-- One cell among the first fourteen. -/
theorem Row.head {w : World} {b : Nat} {x x' : Sc} {pv lv bv : Value} (h : Row w b (scL x pv lv bv)) (k : Nat) (v : Value) (hk : k < 274) (he : (scL x pv lv bv).set k v = scL x' pv lv bv) : Row (w.setCell ⟨b, k, none⟩ v) b (scL x' pv lv bv) := by
  have := h.put k (by rw [scL_length]; exact hk) v
  rw [he] at this
  exact this

theorem Sd.yes {b : Nat} {w w' : World} {x x' : Sc} {pv lv bv : Value} {r : Option Sc} (hn : Notes w b x pv lv bv) (hs : Sole b w w') (hr : Row w' b (scL x' pv lv bv)) (e : r = some x') (e1 : x'.patAt = x.patAt := by rfl) (e2 : x'.patLen = x.patLen := by rfl) (e3 : x'.labels = x.labels := by rfl) : Sd b w r (.returned (.bool true)) w' :=
  ⟨true, rfl, Sole.below hs, .inl ⟨x', e, rfl, ScAt.put hn hs hr e1 e2 e3⟩⟩
theorem Sd.no {b : Nat} {w w' : World} {r : Option Sc} (hs : Below b w w') (e : r = none) : Sd b w r (.returned (.bool false)) w' := ⟨false, rfl, hs, .inr ⟨e, rfl⟩⟩

set_option maxHeartbeats 1000000 in
theorem separates_any (b : Nat) (x : Sc) (c : Nat) (w : World) (hx : ScAt w b x) (hm : Sm x) (hc : c < 256) :
    Calls Try.prog 44 #[.pointer (some ⟨b, 0, none⟩), .int .u8 c] w (Sd b w (separates x c)) := by
  obtain ⟨pv, lv, bv, hR, hN⟩ := hx
  have HR : Hid (Row w b (scL x pv lv bv)) := hR
  have HN : Hid (Notes w b x pv lv bv) := hN
  have m0 := hR.cell (k := 0) rfl
  have f0 := hR.frozen (k := 0) (by rw [scL_length]; omega)
  have m1 := hR.cell (k := 1) rfl
  have f1 := hR.frozen (k := 1) (by rw [scL_length]; omega)
  have h5 := hm.op
  clear hR hN hm
  by_cases h32 : c = 32
  · subst h32
    go_enter Try.func44, Try.ntmps44
    go_wp2_with fail
    go_ret
    exact Sd.yes (x' := { x with mode := 7 }) HN.out ((Sole.refl _ _).setCell _ _) (Row.head HR.out 0 _ (by omega) rfl) rfl
  · by_cases h59 : c = 59
    · subst h59
      go_enter Try.func44, Try.ntmps44
      go_wp2_with fail
      go_ret
      exact Sd.yes (x' := { x with mode := 0 }) HN.out ((Sole.refl _ _).setCell _ _) (Row.head HR.out 0 _ (by omega) rfl) rfl
    · by_cases h10 : c = 10
      · subst h10
        go_enter Try.func44, Try.ntmps44
        go_wp2_with fail
        go_ret
        exact Sd.yes (x' := { x with mode := 0 }) HN.out ((Sole.refl _ _).setCell _ _) (Row.head HR.out 0 _ (by omega) rfl) rfl
      · have q1 : ((c : Int) == 32) = false := by simp; omega
        have q2 : ((c : Int) == 59) = false := by simp; omega
        have q3 : ((c : Int) == 10) = false := by simp; omega
        by_cases h125 : c = 125
        · subst h125
          by_cases ho : 0 < x.op
          · have hoi : decide ((0 : Int) < (x.op : Int)) = true := by simp; omega
            have HE : Hid (((x.op : Int) - 1) = ((x.op - 1 : Nat) : Int)) := by rw [Hid]; omega
            have HS : Hid (separates x 125 = some { x with op := x.op - 1, mode := 7 }) := by unfold separates; rw [Hid, if_neg (by omega), if_neg (by omega), if_pos ⟨rfl, ho⟩]
            go_enter Try.func44, Try.ntmps44
            go_wp2_with fail
            go_ret
            rw [HS.out, HE.out]
            exact Sd.yes (x' := { x with op := x.op - 1, mode := 7 }) HN.out (((Sole.refl _ _).setCell _ _).setCell _ _) (Row.head (x := { x with op := x.op - 1 }) (Row.head HR.out 1 _ (by omega) rfl) 0 _ (by omega) rfl) rfl
          · have hoi : decide ((0 : Int) < (x.op : Int)) = false := by simp; omega
            have hoi2 : decide (0 < x.op) = false := by simp; omega
            have HS : Hid (separates x 125 = none) := by unfold separates; rw [Hid, if_neg (by omega), if_neg (by omega), if_neg (fun h => ho h.2)]
            clear ho
            go_enter Try.func44, Try.ntmps44
            go_wp2_with fail
            go_ret
            rw [HS.out]
            exact Sd.no (Below.refl _ _) rfl
        · have q4 : ((c : Int) == 125) = false := by simp; omega
          have HS : Hid (separates x c = none) := by unfold separates; rw [Hid, if_neg h32, if_neg (by omega), if_neg (fun h => h125 h.1)]
          go_enter Try.func44, Try.ntmps44
          go_wp2_with fail
          go_ret
          rw [HS.out]
          exact Sd.no (Below.refl _ _) rfl
end Sk
end Go.Proofs.Ytppjlpihaocdiaa

/- The document's walk over a script: the second row of y. -/
set_option linter.unusedSimpArgs false
set_option linter.unusedVariables false
namespace Go.Proofs.Ytppjlpihaocdiaa
namespace Sk
open Go.RowKit

theorem scL_rows (x : Sc) (pv lv bv : Value) : (scL x pv lv bv)[270]? = some (.int .i64 x.rows) := by
  have h : (r256 x.row ++ [Value.int .i64 x.rows, pv, lv, bv])[256]? = some (.int .i64 x.rows) := by
    rw [List.getElem?_append_right (by simp [r256])]
    simp [r256]
  exact h

theorem scL_row (x : Sc) (pv lv bv : Value) (v : Nat) (hv : v < 256) : (scL x pv lv bv)[v + 14]? = some (.bool (x.row v)) := by
  have h : (r256 x.row ++ [Value.int .i64 x.rows, pv, lv, bv])[v]? = some (.bool (x.row v)) := by
    rw [List.getElem?_append_left (by simp [r256]; omega)]
    simp [r256, hv]
  exact h

theorem Sole.dn {b : Nat} {w w' : World} (h : Sole b w w') (n : Nat) : Sole b w (w'.drewN n) := ⟨h.os, h.tape, h.output, h.size, h.block⟩
theorem Row.dn {w : World} {b : Nat} {cs : List Value} (h : Row w b cs) (n : Nat) : Row (w.drewN n) b cs := h.of_block rfl

set_option maxHeartbeats 2000000 in
theorem inThen_any (b : Nat) (x : Sc) (c : Nat) (w : World) (hx : ScAt w b x) (hm : Sm x) (hc : c < 256) :
    Calls Try.prog 50 #[.pointer (some ⟨b, 0, none⟩), .int .u8 c] w (Sd b w (inThen x c)) := by
  have HX : Hid (ScAt w b x) := hx
  have HM : Hid (Sm x) := hm
  obtain ⟨pv, lv, bv, hR, hN⟩ := hx
  have HR : Hid (Row w b (scL x pv lv bv)) := hR
  have HN : Hid (Notes w b x pv lv bv) := hN
  have m0 := hR.cell (k := 0) rfl
  have f0 := hR.frozen (k := 0) (by rw [scL_length]; omega)
  have m7 := hR.cell (k := 7) rfl
  have f7 := hR.frozen (k := 7) (by rw [scL_length]; omega)
  have m270 := hR.cell (k := 270) (scL_rows x pv lv bv)
  have hmo := hm.mode
  have hco := hm.count
  have hro := hm.rows
  clear hR hN hm
  have HE : Hid (((x.count : Int) + 1) = ((x.count + 1 : Nat) : Int)) := by rw [Hid]; omega
  by_cases h20 : x.mode = 20
  · have e20 : (x.mode : Int) = 20 := by omega
    rcases bool_or (inB rowEscs c) with hq | hq
    · have HQ : Hid (inB rowEscs c = true) := hq
      have hT : inThen x c = some (thenMore { x with mode := 19 }) := by unfold inThen; rw [if_pos h20, if_pos hq]
      clear h20 hq
      have hRc := Row.head (x' := { x with mode := 19, count := x.count + 1 }) (Row.head (x' := { x with mode := 19 }) HR.out 0 (.int .i64 19) (by omega) rfl) 7 (.int .i64 ((x.count + 1 : Nat) : Int)) (by omega) rfl
      have HRc : Hid _ := hRc
      clear hRc
      by_cases hcr : x.count + 1 = x.rows
      · have HS : Hid (inThen x c = some { x with count := x.count + 1, mode := 21 }) := by rw [Hid, hT]; unfold thenMore; rw [if_pos hcr]
        have q9 : ((x.count : Int) + 1 == (x.rows : Int)) = true := by simp; omega
        clear hT hcr
        go_enter Try.func50, Try.ntmps50
        go_wp2_with fail
        refine (in_any rowEscs c _ (by decide)).mono ?_
        rw [HQ.out]
        rintro e w1 ⟨rfl, rfl⟩
        go_wp2_with fail
        go_quiet (fail)
        go_wp2_with fail
        go_ret
        rw [HS.out, HE.out]
        exact Sd.yes (x' := { x with count := x.count + 1, mode := 21 }) HN.out ((Sole.dn (((Sole.refl _ _).setCell _ _).setCell _ _) _).setCell _ _) (Row.head (Row.dn HRc.out _) 0 _ (by omega) rfl) rfl
      · have HS : Hid (inThen x c = some { x with mode := 19, count := x.count + 1 }) := by rw [Hid, hT]; unfold thenMore; rw [if_neg hcr]
        have q9 : ((x.count : Int) + 1 == (x.rows : Int)) = false := by simp; omega
        have q8 : ¬ (x.count : Int) + 1 = (x.rows : Int) := by omega
        clear hT hcr
        go_enter Try.func50, Try.ntmps50
        go_wp2_with fail
        refine (in_any rowEscs c _ (by decide)).mono ?_
        rw [HQ.out]
        rintro e w1 ⟨rfl, rfl⟩
        go_wp2_with fail
        go_quiet (fail)
        go_wp2_with fail
        go_ret
        rw [HS.out, HE.out]
        exact Sd.yes (x' := { x with mode := 19, count := x.count + 1 }) HN.out (Sole.dn (((Sole.refl _ _).setCell _ _).setCell _ _) _) (Row.dn HRc.out _) rfl
    · have HQ : Hid (inB rowEscs c = false) := hq
      have HS : Hid (inThen x c = none) := by unfold inThen; rw [Hid, if_pos h20, if_neg (by rw [hq]; simp)]
      clear h20 hq
      go_enter Try.func50, Try.ntmps50
      go_wp2_with fail
      refine (in_any rowEscs c _ (by decide)).mono ?_
      rw [HQ.out]
      rintro e w1 ⟨rfl, rfl⟩
      go_wp2_with fail
      go_ret
      rw [HS.out]
      exact Sd.no (Sole.below ((Sole.refl _ _).setCell _ _)) rfl
  · have e20 : ((x.mode : Int) == 20) = false := by simp; omega
    have hT0 : inThen x c = if c = 92 then some { x with mode := 20 } else if c = 47 ∨ c = 10 then none else some (thenMore x) := by unfold inThen; rw [if_neg h20]
    clear h20
    by_cases h92 : c = 92
    · subst h92
      have HS : Hid (inThen x 92 = some { x with mode := 20 }) := by rw [Hid, hT0, if_pos rfl]
      clear hT0
      go_enter Try.func50, Try.ntmps50
      go_wp2_with fail
      go_ret
      rw [HS.out]
      exact Sd.yes (x' := { x with mode := 20 }) HN.out ((Sole.refl _ _).setCell _ _) (Row.head HR.out 0 _ (by omega) rfl) rfl
    by_cases h47 : c = 47
    · subst h47
      have HS : Hid (inThen x 47 = none) := by rw [Hid, hT0, if_neg (by omega), if_pos (.inl rfl)]
      clear hT0
      go_enter Try.func50, Try.ntmps50
      go_wp2_with fail
      go_ret
      rw [HS.out]
      exact Sd.no (Below.refl _ _) rfl
    by_cases h10 : c = 10
    · subst h10
      have HS : Hid (inThen x 10 = none) := by rw [Hid, hT0, if_neg (by omega), if_pos (.inr rfl)]
      clear hT0
      go_enter Try.func50, Try.ntmps50
      go_wp2_with fail
      go_ret
      rw [HS.out]
      exact Sd.no (Below.refl _ _) rfl
    have hT : inThen x c = some (thenMore x) := by rw [hT0, if_neg h92, if_neg (by omega)]
    have q1 : ((c : Int) == 92) = false := by simp; omega
    have q2 : ((c : Int) == 47) = false := by simp; omega
    have q3 : ((c : Int) == 10) = false := by simp; omega
    clear hT0
    have hRc := Row.head (x' := { x with count := x.count + 1 }) HR.out 7 (.int .i64 ((x.count + 1 : Nat) : Int)) (by omega) rfl
    have HRc : Hid _ := hRc
    clear hRc
    by_cases hcr : x.count + 1 = x.rows
    · have HS : Hid (inThen x c = some { x with count := x.count + 1, mode := 21 }) := by rw [Hid, hT]; unfold thenMore; rw [if_pos hcr]
      have q9 : ((x.count : Int) + 1 == (x.rows : Int)) = true := by simp; omega
      clear hT hcr
      go_enter Try.func50, Try.ntmps50
      go_wp2_with fail
      go_quiet (fail)
      go_wp2_with fail
      go_ret
      rw [HS.out, HE.out]
      exact Sd.yes (x' := { x with count := x.count + 1, mode := 21 }) HN.out ((Sole.dn ((Sole.refl _ _).setCell _ _) _).setCell _ _) (Row.head (Row.dn HRc.out _) 0 _ (by omega) rfl) rfl
    · have HS : Hid (inThen x c = some { x with count := x.count + 1 }) := by rw [Hid, hT]; unfold thenMore; rw [if_neg hcr]
      have q9 : ((x.count : Int) + 1 == (x.rows : Int)) = false := by simp; omega
      have q8 : ¬ (x.count : Int) + 1 = (x.rows : Int) := by omega
      clear hT hcr
      go_enter Try.func50, Try.ntmps50
      go_wp2_with fail
      go_quiet (fail)
      go_wp2_with fail
      go_ret
      rw [HS.out, HE.out]
      exact Sd.yes (x' := { x with count := x.count + 1 }) HN.out (Sole.dn ((Sole.refl _ _).setCell _ _) _) (Row.dn HRc.out _) rfl
end Sk
end Go.Proofs.Ytppjlpihaocdiaa

/- The document's walk over a script: letters, addresses. -/
set_option linter.unusedSimpArgs false
set_option linter.unusedVariables false
namespace Go.Proofs.Ytppjlpihaocdiaa
namespace Sk
open Go.RowKit

set_option maxHeartbeats 2000000 in
theorem letter_any (b : Nat) (x : Sc) (c : Nat) (w : World) (hx : ScAt w b x) (hm : Sm x) (hc : c < 256) :
    Calls Try.prog 69 #[.pointer (some ⟨b, 0, none⟩), .int .u8 c] w (Sd b w (letter x c)) := by
  obtain ⟨pv, lv, bv, hR, hN⟩ := hx
  have HR : Hid (Row w b (scL x pv lv bv)) := hR
  have HN : Hid (Notes w b x pv lv bv) := hN
  have m0 := hR.cell (k := 0) rfl
  have f0 := hR.frozen (k := 0) (by rw [scL_length]; omega)
  have m1 := hR.cell (k := 1) rfl
  have f1 := hR.frozen (k := 1) (by rw [scL_length]; omega)
  have m7 := hR.cell (k := 7) rfl
  have f7 := hR.frozen (k := 7) (by rw [scL_length]; omega)
  have m9 := hR.cell (k := 9) rfl
  have f9 := hR.frozen (k := 9) (by rw [scL_length]; omega)
  have m10 := hR.cell (k := 10) rfl
  have f10 := hR.frozen (k := 10) (by rw [scL_length]; omega)
  have h5 := hm.op
  clear hR hN hm
  by_cases h123 : c = 123
  · subst h123
    have HE : Hid (((x.op : Int) + 1) = ((x.op + 1 : Nat) : Int)) := by rw [Hid]; omega
    have hRR := Row.head (x' := { x with op := x.op + 1, mode := 0 }) (Row.head (x' := { x with op := x.op + 1 }) HR.out 1 (.int .i64 ((x.op + 1 : Nat) : Int)) (by omega) rfl) 0 (.int .i64 0) (by omega) rfl
    have HRR : Hid _ := hRR
    clear hRR
    by_cases ho : x.op + 1 ≤ 5
    · have HS : Hid (letter x 123 = some { x with op := x.op + 1, mode := 0 }) := by unfold letter; rw [Hid, if_pos rfl, if_pos ho]
      have hoi : ((x.op : Int) + 1 ≤ 5) := by omega
      go_enter Try.func69, Try.ntmps69
      go_wp2_with fail
      go_ret
      rw [HS.out, HE.out]
      exact ⟨_, rfl, Sole.below (((Sole.refl _ _).setCell _ _).setCell _ _), .inl ⟨_, rfl, by first | (simp; done) | (simp; omega), ScAt.put HN.out (((Sole.refl _ _).setCell _ _).setCell _ _) HRR.out rfl rfl rfl⟩⟩
    · have HS : Hid (letter x 123 = none) := by unfold letter; rw [Hid, if_pos rfl, if_neg ho]
      have hoi : ¬ ((x.op : Int) + 1 ≤ 5) := by omega
      go_enter Try.func69, Try.ntmps69
      go_wp2_with fail
      go_ret
      rw [HS.out]
      exact ⟨_, rfl, Sole.below (((Sole.refl _ _).setCell _ _).setCell _ _), .inr ⟨rfl, by first | (simp; done) | (simp; omega)⟩⟩
  · have q1 : ((c : Int) == 123) = false := by simp; omega
    rcases bool_or (inB plainLetters c) with hp | hp
    · have HP : Hid (inB plainLetters c = true) := hp
      have HS : Hid (letter x c = some { x with mode := 7 }) := by unfold letter; rw [Hid, if_neg h123, if_pos hp]
      clear hp
      go_enter Try.func69, Try.ntmps69
      go_wp2_with fail
      refine (in_any plainLetters c _ (by decide)).mono ?_
      rw [HP.out]
      rintro e w1 ⟨rfl, rfl⟩
      go_wp2_with fail
      go_ret
      rw [HS.out]
      exact Sd.yes (x' := { x with mode := 7 }) HN.out ((Sole.refl _ _).setCell _ _) (Row.head HR.out 0 _ (by omega) rfl) rfl
    · have HP : Hid (inB plainLetters c = false) := hp
      rcases bool_or (inB textLetters c) with ht | ht
      · have HT : Hid (inB textLetters c = true) := ht
        have HS : Hid (letter x c = some { x with mode := 8 }) := by unfold letter; rw [Hid, if_neg h123, if_neg (by rw [hp]; simp), if_pos ht]
        clear hp ht
        go_enter Try.func69, Try.ntmps69
        go_wp2_with fail
        refine (in_any plainLetters c _ (by decide)).mono ?_
        rw [HP.out]
        rintro e w1 ⟨rfl, rfl⟩
        go_wp2_with fail
        refine (in_any textLetters c _ (by decide)).mono ?_
        rw [HT.out]
        rintro e w1 ⟨rfl, rfl⟩
        go_wp2_with fail
        go_ret
        rw [HS.out]
        exact Sd.yes (x' := { x with mode := 8 }) HN.out ((Sole.refl _ _).setCell _ _) (Row.head HR.out 0 _ (by omega) rfl) rfl
      · have HT : Hid (inB textLetters c = false) := ht
        have HL : Hid (letter x c = if c = 98 ∨ c = 116 then some { x with mode := 10, least := 0, count := 0, goal := false } else if c = 115 then some { x with mode := 11 } else if c = 121 then some { x with mode := 16 } else none) := by unfold letter; rw [Hid, if_neg h123, if_neg (by rw [hp]; simp), if_neg (by rw [ht]; simp)]
        clear hp ht
        go_enter Try.func69, Try.ntmps69
        go_wp2_with fail
        refine (in_any plainLetters c _ (by decide)).mono ?_
        rw [HP.out]
        rintro e w1 ⟨rfl, rfl⟩
        go_wp2_with fail
        refine (in_any textLetters c _ (by decide)).mono ?_
        rw [HT.out]
        rintro e w1 ⟨rfl, rfl⟩
        have hRR := Row.head (x' := { x with mode := 10, least := 0, count := 0, goal := false }) (Row.head (x' := { x with mode := 10, least := 0, count := 0 }) (Row.head (x' := { x with mode := 10, least := 0 }) (Row.head (x' := { x with mode := 10 }) HR.out 0 (.int .i64 10) (by omega) rfl) 9 (.int .i64 0) (by omega) rfl) 7 (.int .i64 0) (by omega) rfl) 10 (.bool false) (by omega) rfl
        have HRR : Hid _ := hRR
        clear hRR
        by_cases h98 : c = 98
        · subst h98
          have HS : Hid (letter x 98 = some { x with mode := 10, least := 0, count := 0, goal := false }) := by rw [Hid, HL.out, if_pos (.inl rfl)]
          go_wp2_with fail
          go_ret
          rw [HS.out]
          exact Sd.yes (x' := { x with mode := 10, least := 0, count := 0, goal := false }) HN.out (((((Sole.refl _ _).setCell _ _).setCell _ _).setCell _ _).setCell _ _) HRR.out rfl
        by_cases h116 : c = 116
        · subst h116
          have HS : Hid (letter x 116 = some { x with mode := 10, least := 0, count := 0, goal := false }) := by rw [Hid, HL.out, if_pos (.inr rfl)]
          go_wp2_with fail
          go_ret
          rw [HS.out]
          exact Sd.yes (x' := { x with mode := 10, least := 0, count := 0, goal := false }) HN.out (((((Sole.refl _ _).setCell _ _).setCell _ _).setCell _ _).setCell _ _) HRR.out rfl
        by_cases h115 : c = 115
        · subst h115
          have HS : Hid (letter x 115 = some { x with mode := 11 }) := by rw [Hid, HL.out, if_neg (by omega), if_pos rfl]
          go_wp2_with fail
          go_ret
          rw [HS.out]
          exact Sd.yes (x' := { x with mode := 11 }) HN.out ((Sole.refl _ _).setCell _ _) (Row.head HR.out 0 _ (by omega) rfl) rfl
        by_cases h121 : c = 121
        · subst h121
          have HS : Hid (letter x 121 = some { x with mode := 16 }) := by rw [Hid, HL.out, if_neg (by omega), if_neg (by omega), if_pos rfl]
          go_wp2_with fail
          go_ret
          rw [HS.out]
          exact Sd.yes (x' := { x with mode := 16 }) HN.out ((Sole.refl _ _).setCell _ _) (Row.head HR.out 0 _ (by omega) rfl) rfl
        · have q2 : ((c : Int) == 98) = false := by simp; omega
          have q3 : ((c : Int) == 116) = false := by simp; omega
          have q4 : ((c : Int) == 115) = false := by simp; omega
          have q5 : ((c : Int) == 121) = false := by simp; omega
          have HS : Hid (letter x c = none) := by rw [Hid, HL.out, if_neg (by omega), if_neg (by omega), if_neg (by omega)]
          go_wp2_with fail
          go_ret
          rw [HS.out]
          exact Sd.no (Below.refl _ _) rfl

set_option maxHeartbeats 2000000 in
theorem addressed_any (b : Nat) (x : Sc) (c : Nat) (w : World) (hx : ScAt w b x) (hm : Sm x) (hc : c < 256) :
    Calls Try.prog 42 #[.pointer (some ⟨b, 0, none⟩), .int .u8 c] w (Sd b w (addressed x c)) := by
  have HX : Hid (ScAt w b x) := hx
  have HM : Hid (Sm x) := hm
  obtain ⟨pv, lv, bv, hR, hN⟩ := hx
  have HR : Hid (Row w b (scL x pv lv bv)) := hR
  have HN : Hid (Notes w b x pv lv bv) := hN
  have m0 := hR.cell (k := 0) rfl
  have f0 := hR.frozen (k := 0) (by rw [scL_length]; omega)
  have hmo := hm.mode
  clear hR hN hm
  have HLT := letter_any b x c w HX.out HM.out hc
  have HLet : Hid (Calls Try.prog 69 #[.pointer (some ⟨b, 0, none⟩), .int .u8 c] w (Sd b w (letter x c))) := HLT
  clear HLT
  by_cases h32 : c = 32
  · subst h32
    by_cases hmd : x.mode = 4 ∨ x.mode = 2 ∨ x.mode = 5 ∨ x.mode = 1
    · by_cases h5 : x.mode = 5
      · have HS : Hid (addressed x 32 = some x) := by unfold addressed; rw [Hid, if_pos ⟨rfl, hmd⟩, if_pos h5]
        have e5 : (x.mode : Int) = 5 := by omega
        clear hmd h5
        go_enter Try.func42, Try.ntmps42
        go_wp2_with fail
        go_ret
        rw [HS.out]
        exact ⟨true, rfl, Below.refl _ _, .inl ⟨x, rfl, rfl, HX.out⟩⟩
      · have HS : Hid (addressed x 32 = some { x with mode := 4 }) := by unfold addressed; rw [Hid, if_pos ⟨rfl, hmd⟩, if_neg h5]
        obtain e5 | e5 | e5 : (x.mode : Int) = 4 ∨ (x.mode : Int) = 2 ∨ (x.mode : Int) = 1 := by omega
        all_goals
          clear hmd h5
          go_enter Try.func42, Try.ntmps42
          go_wp2_with fail
          go_ret
          rw [HS.out]
          exact Sd.yes (x' := { x with mode := 4 }) HN.out ((Sole.refl _ _).setCell _ _) (Row.head HR.out 0 _ (by omega) rfl) rfl
    · have HS : Hid (addressed x 32 = letter x 32) := by unfold addressed; rw [Hid, if_neg (fun h => hmd h.2), if_neg (by omega)]
      have e1 : ((x.mode : Int) == 4) = false := by simp; omega
      have e2 : ((x.mode : Int) == 2) = false := by simp; omega
      have e3 : ((x.mode : Int) == 5) = false := by simp; omega
      have e4 : ((x.mode : Int) == 1) = false := by simp; omega
      clear hmd
      go_enter Try.func42, Try.ntmps42
      go_wp2_with fail
      refine HLet.out.mono ?_
      rw [← HS.out]
      intro e w' h
      obtain ⟨q, rfl, h1, h2⟩ := h
      have H1 : Hid (Below b w w') := h1
      have H2 : Hid ((∃ x', addressed x 32 = some x' ∧ q = true ∧ ScAt w' b x') ∨ (addressed x 32 = none ∧ q = false)) := h2
      clear h1 h2
      go_wp2_with fail
      go_ret
      exact ⟨q, rfl, H1.out, H2.out⟩
  · have q1 : ((c : Int) == 32) = false := by simp; omega
    by_cases h33 : c = 33
    · subst h33
      by_cases h5 : x.mode = 5
      · have HS : Hid (addressed x 33 = letter x 33) := by unfold addressed; rw [Hid, if_neg (by omega), if_neg (fun h => h.2 h5)]
        have e5 : (x.mode : Int) = 5 := by omega
        clear h5
        go_enter Try.func42, Try.ntmps42
        go_wp2_with fail
        refine HLet.out.mono ?_
        rw [← HS.out]
        intro e w' h
        obtain ⟨q, rfl, h1, h2⟩ := h
        have H1 : Hid (Below b w w') := h1
        have H2 : Hid ((∃ x', addressed x 33 = some x' ∧ q = true ∧ ScAt w' b x') ∨ (addressed x 33 = none ∧ q = false)) := h2
        clear h1 h2
        go_wp2_with fail
        go_ret
        exact ⟨q, rfl, H1.out, H2.out⟩
      · have HS : Hid (addressed x 33 = some { x with mode := 5 }) := by unfold addressed; rw [Hid, if_neg (by omega), if_pos ⟨rfl, h5⟩]
        have e3 : ((x.mode : Int) == 5) = false := by simp; omega
        have e4 : ((x.mode : Int) != 5) = true := by simp; omega
        clear h5
        go_enter Try.func42, Try.ntmps42
        go_wp2_with fail
        go_ret
        rw [HS.out]
        exact Sd.yes (x' := { x with mode := 5 }) HN.out ((Sole.refl _ _).setCell _ _) (Row.head HR.out 0 _ (by omega) rfl) rfl
    · have q2 : ((c : Int) == 33) = false := by simp; omega
      have HS : Hid (addressed x c = letter x c) := by unfold addressed; rw [Hid, if_neg (fun h => h32 h.1), if_neg (fun h => h33 h.1)]
      go_enter Try.func42, Try.ntmps42
      go_wp2_with fail
      refine HLet.out.mono ?_
      rw [← HS.out]
      intro e w' h
      obtain ⟨q, rfl, h1, h2⟩ := h
      have H1 : Hid (Below b w w') := h1
      have H2 : Hid ((∃ x', addressed x c = some x' ∧ q = true ∧ ScAt w' b x') ∨ (addressed x c = none ∧ q = false)) := h2
      clear h1 h2
      go_wp2_with fail
      go_ret
      exact ⟨q, rfl, H1.out, H2.out⟩
end Sk
end Go.Proofs.Ytppjlpihaocdiaa

