/- Several texts in one. -/
import Derived.Test.YtppjlpihaocdiabGreatDoorEhBH
/- A part of the proof. -/
set_option linter.unusedSimpArgs false
set_option linter.unusedVariables false
namespace Go.Proofs.YtppjlpihaocdiabGreatDoor
namespace Ee
open Go.RowKit
open Rs (Cm Wh Pc own_of CmdsIn readR)
set_option maxHeartbeats 1000000 in
theorem wide_any (q : Bool) (w : World) :
    Calls Tryz.prog 9 #[.bool q] w fun e w' => e = .returned (.agg #[.int .i64 80, .int .i64 80, .int .i64 1000, .bool q]) ∧ Below w.heap.size w w' := by
  go_enter Tryz.func9, Tryz.ntmps9
  go_wp2_with fail
  refine bodyPost_ret (v := .agg #[.int .i64 80, .int .i64 80, .int .i64 1000, .bool q]) (by simp [results, Tryz.results9, go_sem]) rfl ?_
  exact ⟨rfl, below_alloc w _⟩
def made (mf : Mf) (s : ByteArray) (q : Bool) (l : List UInt8) : Ed := fin mf (cfO s 80 80 1000 q) l
def Makes (mf : Mf) (s : ByteArray) (q : Bool) (l : List UInt8) (want : List UInt8) : Prop := opens s 80 80 1000 = true ∧ (made mf s q l).state = 1 ∧ (made mf s q l).out = want
set_option maxRecDepth 100000 in
set_option maxHeartbeats 4000000 in
theorem makes_true (mf : Mf) (hm : MfOk mf) (s inp want : ByteArray) (q : Bool) (w : World) (hs : s.size ≤ maxLen) (hi : inp.size ≤ 1048576) (ht : Tab w) (hk : Makes mf s q (row inp) (row want)) :
    Calls Tryz.prog 7 #[.string s, .bool q, .string inp, .string want] w fun e w' => e = .returned (.bool true) ∧ Below w.heap.size w w' := by
  have HED : Hid (∀ W, Tab W → Calls Tryz.prog 8 #[.string s, .agg #[.int .i64 80, .int .i64 80, .int .i64 1000, .bool q], .string inp] W fun e w' => e = .returned (.tuple #[.string want, .int .i64 1, .bool true]) ∧ Below W.heap.size W w') := fun W hW => by
    refine (edited_any mf hm s inp 80 80 1000 q W hs hi hW).mono ?_
    rintro e w' ⟨hb, h⟩
    rcases h with ⟨h1, _⟩ | ⟨h1, h2⟩
    · rw [hk.1] at h1
      cases h1
    · refine ⟨?_, hb⟩
      have e1 : txt (fin mf (cfO s 80 80 1000 q) (row inp)).out = want := by
        have := hk.2.2
        unfold made at this
        rw [this]
        rfl
      have e2 : (fin mf (cfO s 80 80 1000 q) (row inp)).state = 1 := hk.2.1
      rw [h2, e1, e2]
      rfl
  have HT : Hid (Tab w) := ht
  have hW := wide_any q w
  clear hk ht hs hi hm
  go_enter Tryz.func7, Tryz.ntmps7
  go_wp2_with fail
  refine hW.mono ?_
  rintro e w1 ⟨rfl, hb1⟩
  have HB1 : Hid (Below w.heap.size w w1) := hb1
  have hE := HED.out w1 (HT.out.below hb1)
  clear hW hb1
  go_wp2_with fail
  refine hE.mono ?_
  rintro e w2 ⟨rfl, hb2⟩
  have HB2 : Hid (Below w.heap.size w w2) := HB1.out.trans (hb2.mono HB1.out.size)
  clear hE hb2
  go_wp2_with fail
  go_ret
  exact ⟨rfl, HB2.out⟩
end Ee
end Go.Proofs.YtppjlpihaocdiabGreatDoor

/- A part of the proof. -/
set_option linter.unusedSimpArgs false
set_option linter.unusedVariables false
namespace Go.Proofs.YtppjlpihaocdiabGreatDoor
namespace Ee
open Rs (Cm Wh Pc)
section
variable {mf : Mf} {cf : Cf}
theorem feed_nil (E : Ed) : E.feed mf cf [] = E := rfl
theorem feed_cons (E : Ed) (b : UInt8) (l : List UInt8) : E.feed mf cf (b :: l) = (E.feed1 mf cf b).feed mf cf l := rfl
theorem feed_app (E : Ed) (l m : List UInt8) : E.feed mf cf (l ++ m) = (E.feed mf cf l).feed mf cf m := by simp [Ed.feed]
theorem w0_wait (f : Nat) (E : Ed) (h : E.atHand cf = false) : E.workF mf cf (f + 1) 0 = { E with stage := 0 } := by
  have h' : Ed.atHand cf { E with stage := 0 } = false := h
  simp [Ed.workF, Ed.begin, h']
theorem w0_end (f : Nat) (E : Ed) (h : E.atHand cf = true) (hm : E.more = false) : E.workF mf cf (f + 1) 0 = { E with stage := 0, state := 1 } := by
  have h' : Ed.atHand cf { E with stage := 0 } = true := h
  have hm' : Ed.more { E with stage := 0 } = false := hm
  simp [Ed.workF, Ed.begin, h', hm']
def rd (E : Ed) (l : List UInt8) : Ed := { E with next := [], whole := false, number := E.number + 1, pat := txt l, looked := 0, put := false, at' := 0, stage := 0 }
theorem w0_line (f : Nat) (E : Ed) (h : E.atHand cf = true) (hm : E.more = true) (hl : E.next.length ≤ cf.line) (hs : E.next.length ≤ cf.space) : E.workF mf cf (f + 1) 0 = (rd E E.next).workF mf cf f 1 := by
  have h' : Ed.atHand cf { E with stage := 0 } = true := h
  have hm' : Ed.more { E with stage := 0 } = true := hm
  have ht : Ed.tooLong cf { E with stage := 0 } = false := by simp [Ed.tooLong]; omega
  have hsp : ¬ cf.space < (txt E.next).size := by rw [txt_size]; omega
  simp [Ed.workF, Ed.begin, h', hm', Ed.readBy, ht, Ed.read, Ed.way, Ed.become, hsp, rd]
theorem w1_end (f : Nat) (E : Ed) (h : E.at' = cf.cmds.length) : E.workF mf cf (f + 1) 1 = E.workF mf cf f 3 := by simp [Ed.workF, h]
theorem w1_cmd (f : Nat) (E : Ed) (h : E.at' ≠ cf.cmds.length) : E.workF mf cf (f + 1) 1 = { E with stage := 1 }.workF mf cf f 2 := by simp [Ed.workF, h]
theorem w2_0 (f : Nat) (E E' : Ed) (h : E.command mf cf = (E', 0)) : E.workF mf cf (f + 1) 2 = E' := by simp [Ed.workF, h]
theorem w2_1 (f : Nat) (E E' : Ed) (h : E.command mf cf = (E', 1)) : E.workF mf cf (f + 1) 2 = E'.workF mf cf f 1 := by simp [Ed.workF, h]
theorem w2_2 (f : Nat) (E E' : Ed) (h : E.command mf cf = (E', 2)) : E.workF mf cf (f + 1) 2 = { E' with at' := 0 }.workF mf cf f 1 := by simp [Ed.workF, h]
theorem w2_3 (f : Nat) (E E' : Ed) (h : E.command mf cf = (E', 3)) : E.workF mf cf (f + 1) 2 = E'.workF mf cf f 4 := by simp [Ed.workF, h]
theorem w2_4 (f : Nat) (E E' : Ed) (h : E.command mf cf = (E', 4)) : E.workF mf cf (f + 1) 2 = E'.workF mf cf f 3 := by simp [Ed.workF, h]
theorem w3 (f : Nat) (E : Ed) : E.workF mf cf (f + 1) 3 = (E.printSpace cf).workF mf cf f 4 := by simp [Ed.workF]
theorem w4 (f : Nat) (E : Ed) (h : E.printComing.state = 0) : E.workF mf cf (f + 1) 4 = E.printComing.workF mf cf f 0 := by simp [Ed.workF, h]
theorem w4_stop (f : Nat) (E : Ed) (h : E.printComing.state ≠ 0) : E.workF mf cf (f + 1) 4 = E.printComing := by simp [Ed.workF, h]
theorem feed_bytes : ∀ (l : List UInt8) (E : Ed), E.stage = 0 → E.state = 0 → E.ended = false → E.whole = false → (∀ b ∈ l, b ≠ 10) → E.next.length + l.length ≤ cf.line → E.feed mf cf l = { E with next := E.next ++ l }
  | [], E, _, _, _, _, _, _ => by rw [feed_nil, List.append_nil]
  | b :: l, E, h1, h2, h3, h4, hb, hl => by
    have hb0 := hb b (by simp)
    have e : E.feed1 mf cf b = { E with next := E.next ++ [b] } := by
      have ht : E.takes = true := by simp [Ed.takes, h2, h3]
      have ea : E.add b = { E with next := E.next ++ [b] } := by simp [Ed.add, hb0]
      have hh : Ed.atHand cf { E with next := E.next ++ [b] } = false := by
        simp only [List.length_cons] at hl
        simp [Ed.atHand, Ed.tooLong, h3, h4]
        omega
      unfold Ed.feed1
      rw [if_pos ht, ea]
      unfold Ed.work
      rw [if_pos h1]
      rw [show (10000 : Nat) = 9999 + 1 from rfl, w0_wait _ _ hh]
      cases E
      simp_all
    rw [feed_cons, e, feed_bytes l { E with next := E.next ++ [b] } h1 h2 h3 h4 (fun c hc => hb c (by simp [hc])) (by simp at hl ⊢; omega)]
    simp
structure Rz (E : Ed) : Prop where
  next : E.next = []
  whole : E.whole = false
  ended : E.ended = false
  stage : E.stage = 0
  state : E.state = 0
structure Lk (cf : Cf) (l : List UInt8) : Prop where
  nl : ∀ b ∈ l, b ≠ 10
  line : l.length ≤ cf.line
  space : l.length ≤ cf.space
theorem line_fed (E : Ed) (h : Rz E) (l : List UInt8) (hl : Lk cf l) : E.feed mf cf (l ++ [10]) = (rd E l).workF mf cf 9999 1 := by
  have e0 := feed_bytes (mf := mf) (cf := cf) l E h.stage h.state h.ended h.whole hl.nl (by rw [h.next]; simpa using hl.line)
  rw [feed_app, e0, h.next, List.nil_append]
  have ht : Ed.takes { E with next := l } = true := by simp [Ed.takes, h.state, h.ended]
  have ea : Ed.add { E with next := l } 10 = { E with next := l, whole := true } := by simp [Ed.add]
  rw [feed_cons, feed_nil]
  unfold Ed.feed1
  rw [if_pos ht, ea]
  unfold Ed.work
  rw [if_pos h.stage, show (10000 : Nat) = 9999 + 1 from rfl, w0_line _ _ (by simp [Ed.atHand]) (by simp [Ed.more]) hl.line hl.space]
  rfl
theorem end_none (E : Ed) (h : Rz E) : E.endIt mf cf = { E with ended := true, state := 1 } := by
  have ht : E.takes = true := by simp [Ed.takes, h.state, h.ended]
  unfold Ed.endIt
  rw [if_pos ht]
  unfold Ed.work
  rw [if_pos h.stage, show (10000 : Nat) = 9999 + 1 from rfl, w0_end _ _ (by simp [Ed.atHand]) (by simp [Ed.more, h.next, h.whole])]
  have := h.stage
  cases E
  simp_all
theorem end_tail (E : Ed) (h : Rz E) (l : List UInt8) (hl : Lk cf l) (h0 : l ≠ []) : (E.feed mf cf l).endIt mf cf = (rd { E with ended := true } l).workF mf cf 9999 1 := by
  have e0 := feed_bytes (mf := mf) (cf := cf) l E h.stage h.state h.ended h.whole hl.nl (by rw [h.next]; simpa using hl.line)
  rw [e0, h.next, List.nil_append]
  have ht : Ed.takes { E with next := l } = true := by simp [Ed.takes, h.state, h.ended]
  unfold Ed.endIt
  rw [if_pos ht]
  unfold Ed.work
  rw [if_pos h.stage, show (10000 : Nat) = 9999 + 1 from rfl, w0_line _ _ (by simp [Ed.atHand]) (by simp [Ed.more, h0]) hl.line hl.space]
  rfl
structure Prompt (mf : Mf) (cf : Cf) (G : Ed → Ed) (J : Ed → Prop) (ok : List UInt8 → Prop) : Prop where
  run : ∀ (E : Ed) (l : List UInt8), J E → ok l → E.next = [] → E.whole = false → E.state = 0 → ∃ k, k ≤ 5000 ∧ ∀ f, (rd E l).workF mf cf (f + k) 1 = (G (rd E l)).workF mf cf f 0
  next : ∀ (E : Ed) (l : List UInt8), J E → ok l → (G (rd E l)).next = [] ∧ (G (rd E l)).whole = false ∧ (G (rd E l)).ended = E.ended ∧ (E.state = 0 → (G (rd E l)).state = 0)
  keep : ∀ (E : Ed) (l : List UInt8), J E → ok l → J { G (rd E l) with stage := 0 }
  free : ∀ (E : Ed) (b : Bool), J E → J { E with ended := b }
  lk : ∀ l, ok l → Lk cf l
def cyc (G : Ed → Ed) (E : Ed) (l : List UInt8) : Ed := { G (rd E l) with stage := 0 }
theorem Prompt.line {G : Ed → Ed} {J : Ed → Prop} {ok : List UInt8 → Prop} (P : Prompt mf cf G J ok) (E : Ed) (h : Rz E) (hJ : J E) (l : List UInt8) (hl : ok l) : E.feed mf cf (l ++ [10]) = cyc G E l ∧ Rz (cyc G E l) ∧ J (cyc G E l) := by
  obtain ⟨k, hk, hr⟩ := P.run E l hJ hl h.next h.whole h.state
  obtain ⟨n1, n2, n3, n4⟩ := P.next E l hJ hl
  refine ⟨?_, ⟨n1, n2, n3.trans h.ended, rfl, n4 h.state⟩, P.keep E l hJ hl⟩
  rw [line_fed E h l (P.lk l hl)]
  have e : 9999 = (9999 - k - 1 + 1) + k := by omega
  rw [e, hr, w0_wait _ _ (by simp [Ed.atHand, Ed.tooLong, n1, n2, n3, h.ended])]
  rfl
theorem Prompt.lines {G : Ed → Ed} {J : Ed → Prop} {ok : List UInt8 → Prop} (P : Prompt mf cf G J ok) : ∀ (ls : List (List UInt8)) (E : Ed), Rz E → J E → (∀ l ∈ ls, ok l) → E.feed mf cf (joinN ls) = ls.foldl (cyc G) E ∧ Rz (ls.foldl (cyc G) E) ∧ J (ls.foldl (cyc G) E)
  | [], E, h, hJ, _ => ⟨rfl, h, hJ⟩
  | l :: ls, E, h, hJ, hl => by
    obtain ⟨e1, e2, e3⟩ := P.line E h hJ l (hl l (by simp))
    obtain ⟨d1, d2, d3⟩ := P.lines ls (cyc G E l) e2 e3 fun m hm => hl m (by simp [hm])
    have e : joinN (l :: ls) = (l ++ [10]) ++ joinN ls := by simp [joinN]
    refine ⟨?_, d2, d3⟩
    rw [e, feed_app, e1, d1]
    rfl
theorem Prompt.tail {G : Ed → Ed} {J : Ed → Prop} {ok : List UInt8 → Prop} (P : Prompt mf cf G J ok) (E : Ed) (h : Rz E) (hJ : J E) (l : List UInt8) (hl : ok l) (h0 : l ≠ []) : (E.feed mf cf l).endIt mf cf = { cyc G { E with ended := true } l with state := 1 } := by
  have hJ' := P.free E true hJ
  obtain ⟨k, hk, hr⟩ := P.run { E with ended := true } l hJ' hl h.next h.whole h.state
  obtain ⟨n1, n2, n3, n4⟩ := P.next { E with ended := true } l hJ' hl
  rw [end_tail E h l (P.lk l hl) h0]
  have e : 9999 = (9999 - k - 1 + 1) + k := by omega
  rw [e, hr, w0_end _ _ (by simp [Ed.atHand, n3]) (by simp [Ed.more, n1, n2])]
  rfl
theorem ed0_rz (cf : Cf) : Rz (ed0 cf) := ⟨rfl, rfl, rfl, rfl, rfl⟩
theorem Prompt.all {G : Ed → Ed} {J : Ed → Prop} {ok : List UInt8 → Prop} (P : Prompt mf cf G J ok) (h0 : J (ed0 cf)) (ls : List (List UInt8)) (hl : ∀ l ∈ ls, ok l) : fin mf cf (joinN ls) = { ls.foldl (cyc G) (ed0 cf) with ended := true, state := 1 } := by
  obtain ⟨d1, d2, d3⟩ := P.lines ls (ed0 cf) (ed0_rz cf) h0 hl
  unfold fin
  rw [d1, end_none _ d2]
theorem Prompt.allT {G : Ed → Ed} {J : Ed → Prop} {ok : List UInt8 → Prop} (P : Prompt mf cf G J ok) (h0 : J (ed0 cf)) (ls : List (List UInt8)) (hl : ∀ l ∈ ls, ok l) (t : List UInt8) (ht : ok t) (ht0 : t ≠ []) : fin mf cf (joinN ls ++ t) = { cyc G { ls.foldl (cyc G) (ed0 cf) with ended := true } t with state := 1 } := by
  obtain ⟨d1, d2, d3⟩ := P.lines ls (ed0 cf) (ed0_rz cf) h0 hl
  unfold fin
  rw [feed_app, d1, P.tail _ d2 d3 t ht ht0]
end
end Ee
end Go.Proofs.YtppjlpihaocdiabGreatDoor

/- A part of the proof. -/
set_option linter.unusedSimpArgs false
set_option linter.unusedVariables false
namespace Go.Proofs.YtppjlpihaocdiabGreatDoor
namespace Ee
open Rs (Cm Wh Pc readR)
def cmK (k : Nat) : Cm := ⟨k, ⟨0, 0, emp⟩, ⟨0, 0, emp⟩, false, 0, emp, emp, [], 0, false, false, emp, emp⟩
theorem cf_of {s : ByteArray} {cs : List Cm} {e : Nat} {p : Int} (h : readR s = (cs, e, p)) (a b c : Int) (q : Bool) : cfO s a b c q = ⟨a.toNat, b.toNat, c.toNat, q, cs⟩ := by unfold cfO; rw [h]
theorem opens_of {s : ByteArray} {cs : List Cm} {p : Int} (h : readR s = (cs, 0, p)) (a b c : Int) (hl : alw a b c = true) : opens s a b c = true := by unfold opens; rw [h]; simpa using hl
theorem alw_wide : alw 80 80 1000 = true := by decide
def okL (m : Nat) (l : List UInt8) : Prop := (∀ b ∈ l, b ≠ 10) ∧ l.length ≤ m
section
variable {mf : Mf}
def gE (q : Bool) (E : Ed) : Ed := { E with out := if q = true then E.out else E.out ++ row E.pat ++ [10], coming := [] }
theorem prompt_E (a b c : Nat) (q : Bool) (m : Nat) (ha : m ≤ a) (hb : m ≤ b) : Prompt mf ⟨a, b, c, q, []⟩ (gE q) (fun E => E.coming = []) (okL m) where
  run := fun E l hJ _ _ _ hs => ⟨3, by omega, fun f => by
    rw [show f + 3 = (f + 2) + 1 from rfl, w1_end _ _ rfl, w3]
    have e : (Ed.printSpace ⟨a, b, c, q, []⟩ (rd E l)).printComing = gE q (rd E l) := by
      cases q <;> simp [Ed.printSpace, Ed.printComing, gE, rd, hJ, Ed.print, Ed.printAll]
    rw [w4 _ _ (by rw [e]; exact hs), e]⟩
  next := fun E l _ _ => ⟨rfl, rfl, rfl, fun h => h⟩
  keep := fun E l _ _ => rfl
  free := fun E b h => h
  lk := fun l h => ⟨h.1, Nat.le_trans h.2 ha, Nat.le_trans h.2 hb⟩
theorem fold_E (q : Bool) : ∀ (ls : List (List UInt8)) (E : Ed), (ls.foldl (cyc (gE q)) E).out = if q = true then E.out else E.out ++ joinN ls
  | [], E => by cases q <;> simp [joinN]
  | l :: ls, E => by
    rw [List.foldl_cons, fold_E q ls]
    cases q <;> simp [cyc, gE, rd, joinN, row_txt]
end
end Ee
end Go.Proofs.YtppjlpihaocdiabGreatDoor

