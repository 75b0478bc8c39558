/- A part of the proof. -/
import Derived.Test.YtppjlpihaocdiaaGreatDoorDecAH
import Derived.Lib.ItoaNum
set_option linter.unusedVariables false
namespace Go.Proofs.YtppjlpihaocdiaaGreatDoor
namespace Ee
open Rs (Cm Wh Pc)
structure Cf where
  line : Nat
  space : Nat
  fuel : Nat
  quiet : Bool
  cmds : List Cm
structure Ed where
  next : List UInt8
  whole : Bool
  ended : Bool
  number : Nat
  pat : ByteArray
  hold : ByteArray
  out : List UInt8
  taken : Nat
  coming : List ByteArray
  opn : List Bool
  at' : Nat
  stage : Nat
  looked : Nat
  put : Bool
  state : Nat
def emp : ByteArray := ⟨#[]⟩
def newline : ByteArray := ⟨#[10]⟩
def txt (l : List UInt8) : ByteArray := ⟨l.toArray⟩
def row (t : ByteArray) : List UInt8 := t.data.toList
def ed0 (cf : Cf) : Ed := ⟨[], false, false, 0, emp, emp, [], 0, [], List.replicate cf.cmds.length false, 0, 0, 0, false, 0⟩
def Mf : Type := ByteArray → ByteArray → Nat → Option (List (Int × Int))
def Ed.more (E : Ed) : Bool := E.whole || decide (E.next ≠ [])
def Ed.known (E : Ed) : Bool := E.more || E.ended
def Ed.tooLong (cf : Cf) (E : Ed) : Bool := decide (cf.line < E.next.length)
def Ed.atHand (cf : Cf) (E : Ed) : Bool := E.whole || E.ended || E.tooLong cf
def Ed.takes (E : Ed) : Bool := decide (E.state = 0) && !E.ended
def Ed.add (E : Ed) (b : UInt8) : Ed := if b = 10 then { E with whole := true } else { E with next := E.next ++ [b] }
def Ed.print (E : Ed) (t : ByteArray) : Ed := { E with out := E.out ++ row t ++ [10] }
def Ed.printSpace (cf : Cf) (E : Ed) : Ed := if cf.quiet = true then E else E.print E.pat
def Ed.printAll (E : Ed) : List ByteArray → Ed
  | [] => E
  | t :: r => (E.print t).printAll r
def Ed.printComing (E : Ed) : Ed := { E.printAll E.coming with coming := [] }
def Ed.read (E : Ed) : Ed := { E with next := [], whole := false, number := E.number + 1 }
def Ed.become (cf : Cf) (E : Ed) (t : ByteArray) : Option Ed := if cf.space < t.size then none else some { E with pat := t }
def Ed.grow (cf : Cf) (E : Ed) (t : ByteArray) : Option Ed := E.become cf (E.pat ++ newline ++ t)
def Ed.holds (cf : Cf) (E : Ed) (t : ByteArray) : Option Ed := if cf.space < t.size then none else some { E with hold := t }
def Ed.way (cf : Cf) (join : Bool) (E : Ed) (t : ByteArray) : Option Ed := if join = true then E.grow cf t else E.become cf t
def Ed.readBy (cf : Cf) (join : Bool) (E : Ed) : Ed × Bool :=
  if E.tooLong cf = true then ({ E with state := 3 }, false)
  else match E.read.way cf join (txt E.next) with
    | none => ({ E.read with state := 4 }, false)
    | some E' => ({ E' with looked := 0, put := false }, true)
def Ed.begin (cf : Cf) (E : Ed) : Ed × Bool :=
  if E.atHand cf = true then
    if E.more = true then E.readBy cf false else ({ E with state := 1 }, false)
  else (E, false)
section
variable (mf : Mf)
def hits (p t : ByteArray) : Bool := (mf p t 0).isSome
def Ed.meets (E : Ed) (w : Wh) : Bool × Bool :=
  if w.sort = 1 then (decide (w.num = E.number), true)
  else if w.sort = 2 then (!E.more, E.known)
  else if w.sort = 3 then (hits mf w.pat E.pat, true)
  else (true, true)
def Ed.closes (E : Ed) (w : Wh) (o : Bool) : Bool × Bool :=
  if w.sort = 1 then (decide (w.num ≤ E.number), true)
  else if w.sort = 3 then (o && hits mf w.pat E.pat, true)
  else E.meets mf w
def Ed.selects (E : Ed) (c : Cm) : Ed × Bool × Bool :=
  if c.snd.sort = 0 then (E, E.meets mf c.fst)
  else
    let o := E.opn.getD E.at' false
    if o = false ∧ ((E.meets mf c.fst).1 = false ∨ (E.meets mf c.fst).2 = false) then (E, false, (E.meets mf c.fst).2)
    else
      let r := E.closes mf c.snd o
      (if r.2 = true then { E with opn := E.opn.set E.at' (!r.1) } else E, r.2, r.2)
def nextM (p t : ByteArray) (to : Nat) : Option (List (Int × Int)) :=
  match mf p t to with
  | some sp => if (sp.getD 0 (-1, -1)).2 = (to : Int) then mf p t (to + 1) else some sp
  | none => none
def fillT (t : ByteArray) (sp : List (Int × Int)) : List Pc → List UInt8 → List UInt8
  | [], out => out
  | x :: r, out =>
    if x.grp = -1 then fillT t sp r (out ++ [x.byte.toUInt8])
    else
      let g := sp.getD x.grp.toNat (-1, -1)
      if 0 ≤ g.1 then fillT t sp r (out ++ row (t.extract g.1.toNat g.2.toNat)) else fillT t sp r out
def replL (c : Cm) (t : ByteArray) : Nat → Option (List (Int × Int)) → Nat → Nat → List UInt8 → List UInt8 × Nat
  | 0, _, n, done, out => (out ++ row (t.extract done t.size), n)
  | f + 1, none, n, done, out => (out ++ row (t.extract done t.size), n)
  | f + 1, some sp, n, done, out =>
    let m := sp.getD 0 (-1, -1)
    if n + 1 < c.num then replL c t f (nextM mf c.pat t m.2.toNat) (n + 1) done out
    else
      let out' := fillT t sp c.temp (out ++ row (t.extract done m.1.toNat))
      if c.all = true then replL c t f (nextM mf c.pat t m.2.toNat) (n + 1) m.2.toNat out'
      else (out' ++ row (t.extract m.2.toNat t.size), n + 1)
def repl (c : Cm) (t : ByteArray) : ByteArray × Bool :=
  let r := replL mf c t (t.size + 3) (mf c.pat t 0) 0 0 []
  (txt r.1, decide (c.num ≤ r.2))
def Ed.subst (cf : Cf) (E : Ed) (c : Cm) : Option Ed :=
  let r := repl mf c E.pat
  if r.2 = true then
    match E.become cf r.1 with
    | none => none
    | some E1 => some (if c.prt = true then { E1 with put := true }.print r.1 else { E1 with put := true })
  else some E
def firstLine (t : ByteArray) : ByteArray := t.extract 0 (Rs.eol t 0)
def dropLine (t : ByteArray) : Option ByteArray := if Rs.eol t 0 < t.size then some (t.extract (Rs.eol t 0 + 1) t.size) else none
def trans1 (frm too : ByteArray) (b : UInt8) : UInt8 := if (row frm).findIdx (· == b) < (row frm).length then (row too).getD ((row frm).findIdx (· == b)) 0 else b
def trans (frm too t : ByteArray) : ByteArray := txt ((row t).map (trans1 frm too))
def itoa (n : Nat) : ByteArray := ⟨(Lib.itoa (n : Int)).toArray⟩
def Ed.edit (cf : Cf) (E : Ed) (c : Cm) : Option Ed :=
  if c.kind = 5 then some (E.print E.pat)
  else if c.kind = 6 then some (E.print (firstLine E.pat))
  else if c.kind = 12 then some (E.print (itoa E.number))
  else if c.kind = 14 then some { E with coming := E.coming ++ [c.text] }
  else if c.kind = 15 then some (E.print c.text)
  else if c.kind = 7 then E.become cf E.hold
  else if c.kind = 8 then E.grow cf E.hold
  else if c.kind = 9 then E.holds cf E.pat
  else if c.kind = 10 then E.holds cf (E.hold ++ newline ++ E.pat)
  else if c.kind = 11 then some { E with pat := E.hold, hold := E.pat }
  else if c.kind = 19 then E.subst mf cf c
  else if c.kind = 20 then some { E with pat := trans c.frm c.too E.pat }
  else some E
def Ed.jump (E : Ed) (k : Nat) : Ed × Nat := ({ E with at' := k }, 1)
def Ed.stop (E : Ed) (k : Nat) : Ed × Nat := ({ E with state := k }, 0)
def Ed.doNext (cf : Cf) (E : Ed) (join : Bool) : Ed × Nat :=
  if E.stage = 3 ∧ E.known = false then (E, 0)
  else if E.stage = 3 ∧ E.more = false then (E, 4)
  else
    let E1 := if E.stage = 3 then { (if join = true then E else (E.printSpace cf).printComing) with stage := 4 } else E
    if E1.atHand cf = true then
      let r := E1.readBy cf join
      if r.2 = true then r.1.jump (r.1.at' + 1) else (r.1, 0)
    else (E1, 0)
def Ed.doIt (cf : Cf) (E : Ed) (c : Cm) : Ed × Nat :=
  if c.kind = 1 then (E, 3)
  else if c.kind = 2 then (match dropLine E.pat with
    | none => (E, 3)
    | some t => ({ E with pat := t }.printComing, 2))
  else if c.kind = 16 then (E.print c.text, 3)
  else if c.kind = 3 ∨ c.kind = 4 then E.doNext cf (decide (c.kind = 4))
  else if c.kind = 13 then ({ E with state := 2 }, 4)
  else if c.kind = 17 then E.jump c.goal
  else if c.kind = 18 then (if E.put = true then { E with put := false }.jump c.goal else E.jump (E.at' + 1))
  else match E.edit mf cf c with
    | none => E.stop 4
    | some E1 => E1.jump (E1.at' + 1)
def noCm : Cm := Rs.cm0
def Ed.choose (cf : Cf) (E : Ed) (c : Cm) : Ed × Nat :=
  if E.stage = 2 then
    let r := E.selects mf c
    if r.2.2 = false then (r.1, 0)
    else if r.2.1 = c.neg then r.1.jump (if c.kind = 0 then c.goal else r.1.at' + 1)
    else { r.1 with stage := 3 }.doIt mf cf c
  else E.doIt mf cf c
def Ed.command (cf : Cf) (E : Ed) : Ed × Nat :=
  let c := cf.cmds.getD E.at' noCm
  if E.stage = 1 then (if E.looked = cf.fuel then E.stop 5 else { E with looked := E.looked + 1, stage := 2 }.choose mf cf c)
  else E.choose mf cf c
def Ed.workF (cf : Cf) : Nat → Nat → Ed → Ed
  | 0, _, E => E
  | f + 1, 0, E =>
    let r := { E with stage := 0 }.begin cf
    if r.2 = true then { r.1 with at' := 0 }.workF cf f 1 else r.1
  | f + 1, 1, E => if E.at' = cf.cmds.length then E.workF cf f 3 else { E with stage := 1 }.workF cf f 2
  | f + 1, 2, E =>
    let r := E.command mf cf
    if r.2 = 0 then r.1
    else if r.2 = 1 then r.1.workF cf f 1
    else if r.2 = 2 then { r.1 with at' := 0 }.workF cf f 1
    else if r.2 = 3 then r.1.workF cf f 4
    else r.1.workF cf f 3
  | f + 1, 3, E => (E.printSpace cf).workF cf f 4
  | f + 1, _, E => if E.printComing.state = 0 then E.printComing.workF cf f 0 else E.printComing
def Ed.work (cf : Cf) (E : Ed) : Ed := E.workF mf cf 10000 (if E.stage = 0 then 0 else 2)
def Ed.feed1 (cf : Cf) (E : Ed) (b : UInt8) : Ed := if E.takes = true then (E.add b).work mf cf else E
def Ed.feed (cf : Cf) (E : Ed) (l : List UInt8) : Ed := l.foldl (Ed.feed1 mf cf) E
def Ed.endIt (cf : Cf) (E : Ed) : Ed := if E.takes = true then { E with ended := true }.work mf cf else E
end
def Ed.ready (E : Ed) : Nat := E.out.length - E.taken
def Ed.takeN (E : Ed) (n : Int) : Nat := min n.toNat E.ready
def Ed.take (E : Ed) (n : Int) : Ed × ByteArray :=
  let k := E.takeN n
  let t := txt ((E.out.drop E.taken).take k)
  if E.out.length ≤ 2 * (E.taken + k) then ({ E with out := E.out.drop (E.taken + k), taken := 0 }, t) else ({ E with taken := E.taken + k }, t)
end Ee
end Go.Proofs.YtppjlpihaocdiaaGreatDoor
