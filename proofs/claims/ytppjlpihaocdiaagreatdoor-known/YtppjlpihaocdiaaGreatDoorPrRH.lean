/- A part of the proof. -/
import Derived.Test.YtppjlpihaocdiaaGreatDoorPrOH
import Derived.Test.YtppjlpihaocdiaaGreatDoorPrIH
import Derived.Deep.RegionLaw
import Derived.Deep.Onto
import Derived.BigRegion
set_option linter.unusedSimpArgs false
set_option linter.unusedVariables false
namespace Go.Proofs.YtppjlpihaocdiaaGreatDoor
namespace Rs
open Go.RowKit
def TempIn (w : World) (lo hi : Nat) (ps : List Pc) (v : Value) : Prop :=
  v.oneCell' = true ∧ hi ≤ w.heap.size ∧ ∀ w' : World, (∀ k, lo < k → k < hi → w'.heap[k]? = w.heap[k]?) → w'.ownsRow (lo + 1) 293 2 v ps.length (pcL ps)
theorem TempAt.tempIn {w w' : World} {lo lo' hi : Nat} {ps : List Pc} {v : Value} (h : TempAt w lo hi ps v) (hl : lo' < lo) (k : Keep lo' hi w w') : TempIn w' lo' w'.heap.size ps v :=
  ⟨h.1, Nat.le_refl _, fun w'' hw => World.ownsRow.mono (h.2.2 w'' fun q h1 h2 => (hw q (by omega) (Nat.lt_of_lt_of_le h2 k.size)).trans (k.same q (by omega) h2)) (by omega)⟩
structure Pts where
  a1 : Option Addr
  l1 : Nat
  c1 : Nat
  r1 : Int
  g1 : Int
  a2 : Option Addr
  l2 : Nat
  c2 : Nat
  r2 : Int
  g2 : Int
  a3 : Option Addr
  l3 : Nat
  c3 : Nat
  r3 : Int
  g3 : Int
  tv : Value
def pts0 : Pts := ⟨none, 0, 0, 0, 0, none, 0, 0, 0, 0, none, 0, 0, 0, 0, .slice none 0 0⟩
def cmL (x : Cm) (q : Pts) : List Value :=
  [.int .i64 (x.kind : Int), .int .i64 (x.fst.sort : Int), .int .i64 (x.fst.num : Int), .slice q.a1 q.l1 q.c1, .int .i64 q.r1, .int .i64 q.g1,
   .int .i64 (x.snd.sort : Int), .int .i64 (x.snd.num : Int), .slice q.a2 q.l2 q.c2, .int .i64 q.r2, .int .i64 q.g2,
   .bool x.neg, .int .i64 (x.goal : Int), .string x.text,
   .slice q.a3 q.l3 q.c3, .int .i64 q.r3, .int .i64 q.g3, q.tv, .int .i64 (x.num : Int), .bool x.all, .bool x.prt, .string x.frm, .string x.too]
theorem cmL_length (x : Cm) (q : Pts) : (cmL x q).length = 23 := rfl
structure CmAt (w : World) (lo hi : Nat) (x : Cm) (q : Pts) : Prop where
  fst : WhAt w lo hi x.fst q.a1 q.l1 q.c1 q.r1 q.g1
  snd : WhAt w lo hi x.snd q.a2 q.l2 q.c2 q.r2 q.g2
  pat : x.kind = 19 → PatAt w lo hi x.pat (.slice q.a3 q.l3 q.c3) (.int .i64 q.r3) (.int .i64 q.g3)
  temp : x.kind = 19 → TempIn w lo hi x.temp q.tv
  one : q.tv.oneCell' = true
theorem CmAt.keep {u w : World} {lo hi : Nat} {x : Cm} {q : Pts} (h : CmAt u lo hi x q) (k : Keep lo hi u w) : CmAt w lo hi x q :=
  ⟨fun e => (h.fst e).of k.same k.size, fun e => (h.snd e).of k.same k.size, fun e => (h.pat e).of k.same k.size, fun e => ⟨(h.temp e).1, k.size, fun w' hw => (h.temp e).2.2 w' fun i h1 h2 => (hw i h1 h2).trans (k.same i h1 h2)⟩, h.one⟩
def CmsAt (w : World) (b : Nat) (cv lv : Value) (xs : List Value) (cs : List Cm) : Prop := ∀ (k : Nat) (x : Cm), cs[k]? = some x →
  ∃ lo hi q, b ≤ lo ∧ hi ≤ w.heap.size ∧ (∀ g, cv.ownBlock = some g → g ≤ lo ∨ hi ≤ g) ∧ (∀ g, lv.ownBlock = some g → g ≤ lo ∨ hi ≤ g) ∧ CmAt w lo hi x q ∧ ∀ o v, (cmL x q)[o]? = some v → xs[k * 23 + o]? = some v
def labL (l : List Lab) : List Value := l.flatMap fun x => [Value.string x.name, .int .i64 (x.at' : Int), .int .i64 (x.cmd : Int), .bool x.want]
theorem labL_snoc (l : List Lab) (x : Lab) : labL (l ++ [x]) = labL l ++ [Value.string x.name, .int .i64 (x.at' : Int), .int .i64 (x.cmd : Int), .bool x.want] := by simp [labL]
structure Rk (w : World) (b : Nat) (s : ByteArray) (p : RSt) (cv lv : Value) : Prop where
  cu : Cu w b s p.at' p.long
  c2 : w.cell? ⟨b, 2, none⟩ = some (.int .i64 (p.op : Int))
  c3 : w.cell? ⟨b, 3, none⟩ = some cv
  c4 : w.cell? ⟨b, 4, none⟩ = some lv
  f2 : w.frozen? ⟨b, 2, none⟩ = false
  f3 : w.frozen? ⟨b, 3, none⟩ = false
  f4 : w.frozen? ⟨b, 4, none⟩ = false
  own : ∃ xs, w.ownsRow (b + 1) 200 23 cv p.cmds.length xs ∧ CmsAt w b cv lv xs p.cmds
  lab : w.ownsRow (b + 1) 191 4 lv p.labs.length (labL p.labs)
  apart : ∀ k, cv.ownBlock = some k → lv.ownBlock ≠ some k
structure Fq (b : Nat) (cv cv' lv lv' : Value) (w w' : World) : Prop where
  os : w'.os = w.os
  tape : w'.tape = w.tape
  output : w'.output = w.output
  size : w.heap.size ≤ w'.heap.size
  block : ∀ k, k < w.heap.size → k ≠ b → some k ≠ cv.ownBlock → some k ≠ lv.ownBlock → w'.heap[k]? = w.heap[k]?
  cl : cv'.ownBlock = cv.ownBlock ∨ ∀ k, cv'.ownBlock = some k → w.heap.size ≤ k
  ll : lv'.ownBlock = lv.ownBlock ∨ ∀ k, lv'.ownBlock = some k → w.heap.size ≤ k
theorem Fq.refl (b : Nat) (cv lv : Value) (w : World) : Fq b cv cv lv lv w w := ⟨rfl, rfl, rfl, Nat.le_refl _, fun _ _ _ _ _ => rfl, .inl rfl, .inl rfl⟩
theorem Fq.trans {b : Nat} {cv cv' cv'' lv lv' lv'' : Value} {u v w : World} (h : Fq b cv cv' lv lv' u v) (k : Fq b cv' cv'' lv' lv'' v w) : Fq b cv cv'' lv lv'' u w := by
  refine ⟨k.os.trans h.os, k.tape.trans h.tape, k.output.trans h.output, Nat.le_trans h.size k.size, fun i hi hb h1 h2 => ?_, ?_, ?_⟩
  · refine (k.block i (Nat.lt_of_lt_of_le hi h.size) hb ?_ ?_).trans (h.block i hi hb h1 h2)
    · rcases h.cl with e | e
      · rw [e]; exact h1
      · intro hh; have := e i hh.symm; omega
    · rcases h.ll with e | e
      · rw [e]; exact h2
      · intro hh; have := e i hh.symm; omega
  · rcases k.cl with e | e
    · rw [e]; exact h.cl
    · exact .inr fun j hj => Nat.le_trans h.size (e j hj)
  · rcases k.ll with e | e
    · rw [e]; exact h.ll
    · exact .inr fun j hj => Nat.le_trans h.size (e j hj)
theorem Fq.mw {b : Nat} {cv lv : Value} {w w' : World} (h : Mw b w w') : Fq b cv cv lv lv w w' := ⟨h.os, h.tape, h.output, h.size, fun k hk hb _ _ => h.block k hk hb, .inl rfl, .inl rfl⟩
theorem Rk.mw {w w' : World} {b : Nat} {s : ByteArray} {p : RSt} {cv lv : Value} {j : Nat} {lg : Int} (h : Rk w b s p cv lv) (hm : Mw b w w') (hc : Cu w' b s j lg) : Rk w' b s { p with at' := j, long := lg } cv lv := by
  obtain ⟨cu, c2, c3, c4, f2, f3, f4, ⟨xs, own, cms⟩, lab, apart⟩ := h
  refine ⟨hc, (hm.cell 2 (by omega) (by omega)).trans c2, (hm.cell 3 (by omega) (by omega)).trans c3, (hm.cell 4 (by omega) (by omega)).trans c4, (hm.frz 2).trans f2, (hm.frz 3).trans f3, (hm.frz 4).trans f4, ⟨xs, own_of own fun k hk => hm.block k (own.lt k hk).2 (by have := (own.lt k hk).1; omega), fun k x hx => ?_⟩, own_of lab fun k hk => hm.block k (lab.lt k hk).2 (by have := (lab.lt k hk).1; omega), apart⟩
  obtain ⟨lo, hi, q, a1, a2, a3, a4, a5, a6⟩ := cms k x hx
  exact ⟨lo, hi, q, a1, Nat.le_trans a2 hm.size, a3, a4, a5.keep ⟨fun i h1 h2 => hm.block i (by omega) (by omega), Nat.le_trans a2 hm.size⟩, a6⟩
theorem Rk.lt {w : World} {b : Nat} {s : ByteArray} {p : RSt} {cv lv : Value} (h : Rk w b s p cv lv) : b < w.heap.size := h.cu.lt
end Rs
end Go.Proofs.YtppjlpihaocdiaaGreatDoor
