/- The tree that the program reads out of a pattern, as a plain function; no Go text. -/
import Derived.Test.YtppjlpihaocdiaaRefSpec
set_option linter.unusedVariables false
namespace Go.Proofs.Ytppjlpihaocdiaa

/-- Where a reading stands: the place, the brackets so far, the nodes so far. -/
structure PSt where
  at' : Nat
  g : Nat
  l : List Nd

def noSet : Nat → Bool := fun _ => false
def leaf (k : Nat) (S : Nat → Bool) : Nd := ⟨k, S, [], 0, 0, 0⟩
def grpN (z num : Nat) : Nd := ⟨3, noSet, [z], num, 0, 0⟩
def repN (z lo : Nat) (hi : Int) : Nd := ⟨6, noSet, [z], 0, lo, hi⟩
def rowN (k : Nat) (zs : List Nat) : Nd := ⟨k, noSet, zs, 0, 0, 0⟩

/-- An end of a range, and the place behind it. -/
def innV (s : ByteArray) (i : Nat) : Nat × Nat := if byt s i = 92 then (val (byt s (i + 1)), i + 2) else (byt s i, i + 1)

/-- A range: its ends, and the place behind it. -/
def betV (s : ByteArray) (i : Nat) : Nat × Nat × Nat :=
  if pk s (innV s i).2 = 45 then ((innV s i).1, (innV s ((innV s i).2 + 1)).1, (innV s ((innV s i).2 + 1)).2) else ((innV s i).1, (innV s i).1, (innV s i).2)

/-- One range more. -/
def addR (S : Nat → Bool) (lo hi : Nat) : Nat → Bool := fun c => S c || (decide (lo ≤ c) && decide (c ≤ hi))

/-- The ranges of a set, up to its end. -/
def setL (s : ByteArray) : Nat → Nat → (Nat → Bool) → Nat × (Nat → Bool)
  | 0, i, S => (i, S)
  | f + 1, i, S => if pk s (betV s i).2.2 = 93 then ((betV s i).2.2 + 1, addR S (betV s i).1 (betV s i).2.1) else setL s f (betV s i).2.2 (addR S (betV s i).1 (betV s i).2.1)

/-- A set: the place behind it, and what it holds. -/
def setV (s : ByteArray) (i : Nat) : Nat × (Nat → Bool) :=
  if pk s (i + 1) = 94 then ((setL s s.size (i + 2) noSet).1, fun c => !(setL s s.size (i + 2) noSet).2 c) else setL s s.size (i + 1) noSet

def addN (p : PSt) (j : Nat) (d : Nd) : PSt × Nat := (⟨j, p.g, p.l ++ [d]⟩, p.l.length)

section
variable (ch : PSt → PSt × Nat) (s : ByteArray)

/-- A single part. -/
def oneF (p : PSt) : PSt × Nat :=
  let c := byt s p.at'
  if c = 94 then addN p (p.at' + 1) (leaf 1 noSet)
  else if c = 36 then addN p (p.at' + 1) (leaf 2 noSet)
  else if c = 46 then addN p (p.at' + 1) (leaf 0 fun _ => true)
  else if c = 40 then
    let r := ch ⟨p.at' + 1, p.g + 1, p.l⟩
    addN r.1 (r.1.at' + 1) (grpN r.2 p.g)
  else if c = 91 then addN p (setV s p.at').1 (leaf 0 (setV s p.at').2)
  else if c = 92 then addN p (p.at' + 2) (leaf 0 (addR noSet (val (byt s (p.at' + 1))) (val (byt s (p.at' + 1)))))
  else addN p (p.at' + 1) (leaf 0 (addR noSet c c))

/-- A part with its repetition. -/
def partF (p : PSt) : PSt × Nat :=
  let r := oneF ch s p
  let c := pk s r.1.at'
  if c = 42 then addN r.1 (r.1.at' + 1) (repN r.2 0 (-1))
  else if c = 43 then addN r.1 (r.1.at' + 1) (repN r.2 1 (-1))
  else if c = 63 then addN r.1 (r.1.at' + 1) (repN r.2 0 1)
  else if c = 123 then
    let lo := byt s (r.1.at' + 1) - 48
    if pk s (r.1.at' + 2) = 44 then addN r.1 (r.1.at' + 5) (repN r.2 lo ((byt s (r.1.at' + 3) - 48 : Nat) : Int))
    else addN r.1 (r.1.at' + 3) (repN r.2 lo (lo : Int))
  else r

/-- One node of several; one alone needs no parent. -/
def joinF (k : Nat) (zs : List Nat) (p : PSt) : PSt × Nat := match zs with
  | [z] => (p, z)
  | zs => addN p p.at' (rowN k zs)

def startsP (i : Nat) : Bool := decide (i < s.size) && !inB noStart (byt s i)

/-- A row of parts. -/
def wayL : Nat → PSt → List Nat → PSt × Nat
  | 0, p, _ => (p, 0)
  | f + 1, p, zs =>
    let r := partF ch s p
    if startsP s r.1.at' = true then wayL f r.1 (zs ++ [r.2]) else joinF 5 (zs ++ [r.2]) r.1

def wayF (p : PSt) : PSt × Nat := wayL ch s s.size p []

/-- Ways between bars. -/
def choiceL : Nat → PSt → List Nat → PSt × Nat
  | 0, p, _ => (p, 0)
  | f + 1, p, zs =>
    let r := wayF ch s p
    if pk s r.1.at' = 124 then choiceL f ⟨r.1.at' + 1, r.1.g, r.1.l⟩ (zs ++ [r.2]) else joinF 4 (zs ++ [r.2]) r.1

def choiceF (p : PSt) : PSt × Nat := choiceL ch s s.size p []
end

/-- A whole pattern, to a depth. -/
def choiceN (s : ByteArray) : Nat → PSt → PSt × Nat
  | 0, p => (p, 0)
  | n + 1, p => choiceF (choiceN s n) s p

/-- The tree of a pattern: its nodes, its root, its brackets. -/
def treeOf (s : ByteArray) : PSt × Nat := choiceN s 41 ⟨0, 0, []⟩

end Go.Proofs.Ytppjlpihaocdiaa
