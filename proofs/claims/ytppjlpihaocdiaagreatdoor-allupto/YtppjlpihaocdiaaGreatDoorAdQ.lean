import Derived.Lib.ItoaNum
import Derived.Test.YtppjlpihaocdiaaGreatDoorAcQ
set_option linter.all false
namespace Go.Proofs.YtppjlpihaocdiaaGreatDoor
open Go.RowKit
variable{w u v:ae}{a b c d e:Nat}{s t:ag}{x y z:af}{p D:Int}{l:List af}{f:Bool}{g:List Nat}{h:Nat->Prop}{o:Option Addr}{r:List UInt8}{A:Nat->Bool}{B:Nat->Nat->Bool}{C:Nat->Nat->Prop}(i:Nat)(S T:ag)(V X:af)(j k m n:Nat)(Z:Int)(W:ae)
structure Cf where
 line:Nat
 space:Nat
 dt:Nat
 quiet:Bool
 U:List Cm
structure Ed where
 next:List UInt8
 whole:Bool
 dq:Bool
 number:Nat
 L:ag
 bt:ag
 out:List UInt8
 ca:Nat
 cy:List ag
 bo:List Bool
 H:Nat
 bg:Nat
 cx:Nat
 put:Bool
 ck:Nat
def Bm:ag:=⟨#[]⟩
def gp:ag:=⟨#[10]⟩
def ce(l:List UInt8):ag:=⟨l.toArray⟩
def Qjj(t:ag):List UInt8:=t.data.toList
def fy(cf:Cf):Ed:=⟨[],false,false,0,Bm,Bm,[],0,[],List.replicate cf.U.length false,0,0,0,false,0⟩
def Mf:Type:=ag->ag->Nat->Option (List<|Int×Int)
def Ed.more(E:Ed):Bool:=E.whole||decide (E.next≠[])
def Ed.known(E:Ed):Bool:=E.more||E.dq
def Ed.sk(cf:Cf)(E:Ed):Bool:=decide (cf.line<E.next.length)
def Ed.mh(cf:Cf)(E:Ed):Bool:=E.whole||E.dq||E.sk cf
def Ed.ru(E:Ed):Bool:=decide (E.ck=0)&& !E.dq
def Ed.add(E:Ed)(b:UInt8):Ed:=if b=10 then {E with whole:=true} else {E with next:=E.next++[b]}
def Ed.print(E:Ed)(t:ag):Ed:={E with out:=E.out++Qjj t++[10]}
def Ed.ja(cf:Cf)(E:Ed):Ed:=if cf.quiet=true then E else E.print E.L
def Ed.lp(E:Ed):List ag->Ed
 | []=>E
 |t::r=>(E.print t).lp r
def Ed.fq(E:Ed):Ed:={E.lp E.cy with cy:=[]}
def Ed.read(E:Ed):Ed:={E with next:=[],whole:=false,number:=E.number+1}
def Ed.kz(cf:Cf)(E:Ed)(t:ag):Option Ed:=if cf.space<t.size then none else some {E with L:=t}
def Ed.grow(cf:Cf)(E:Ed)(t:ag):Option Ed:=E.kz cf<|E.L++gp++t
def Ed.holds(cf:Cf)(E:Ed)(t:ag):Option Ed:=if cf.space<t.size then none else some {E with bt:=t}
def Ed.vu(cf:Cf)(join:Bool)(E:Ed)(t:ag):Option Ed:=if join=true then E.grow cf t else E.kz cf t
def Ed.ej(cf:Cf)(join:Bool)(E:Ed):Ed×Bool:=
 if E.sk cf=true then({E with ck:=3},false)
 else match E.read.vu cf join (ce E.next)with
  |none=>({E.read with ck:=4},false)
  |some E'=>({E' with cx:=0,put:=false},true)
def Ed.mi(cf:Cf)(E:Ed):Ed×Bool:=
 if E.mh cf=true then
  if E.more=true then E.ej cf false else({E with ck:=1},false)
 else(E,false)
section
variable (mf:Mf)
def vk(p t:ag):Bool:=(mf p t 0).isSome
def Ed.jl(E:Ed)(w:Wh):Bool×Bool:=
 if w.sort=1 then(decide (w.num=E.number),true)
 else if w.sort=2 then(!E.more,E.known)
 else if w.sort=3 then(vk mf w.L E.L,true)
 else(true,true)
def Ed.qa(E:Ed)(w:Wh)(o:Bool):Bool×Bool:=
 if w.sort=1 then(decide (w.num<=E.number),true)
 else if w.sort=3 then(o&&vk mf w.L E.L,true)
 else E.jl mf w
def Ed.gz(E:Ed)(c:Cm):Ed×Bool×Bool:=
 if c.snd.sort=0 then(E,E.jl mf c.fst)
 else
  let o:=E.bo.getD E.H false
  if o=false/\((E.jl mf c.fst).1=false\/(E.jl mf c.fst).2=false)then(E,false,(E.jl mf c.fst).2)
  else
   let r:=E.qa mf c.snd o
   (if r.2=true then {E with bo:=E.bo.set E.H<|!r.1} else E,r.2,r.2)
def mz(p t:ag)(to:Nat):Option (List<|Int×Int):=
 match mf p t to with
 |some sp=>if(sp.getD 0 (-1,-1)).2=(to:Int)then mf p t (to+1)else some sp
 |none=>none
def iq(t:ag)(sp:List (Int×Int)):List Pc->List UInt8->List UInt8
 | [],out=>out
 |x::r,out=>
  if x.jw=-1 then iq t sp r (out++[x.byte.toUInt8])
  else
   let g:=sp.getD x.jw.toNat (-1,-1)
   if 0<=g.1 then iq t sp r (out++Qjj (t.extract g.1.toNat g.2.toNat))else iq t sp r out
def replL(c:Cm)(t:ag):Nat->Option (List<|Int×Int)->Nat->Nat->List UInt8->List UInt8×Nat
 |0,_,n,done,out=>(out++Qjj (t.extract done t.size),n)
 |f+1,none,n,done,out=>(out++Qjj (t.extract done t.size),n)
 |f+1,some sp,n,done,out=>
  let m:=sp.getD 0 (-1,-1)
  if n+1<c.num then replL c t f (mz mf c.L t m.2.toNat) (n+1) done out
  else
   let out':=iq t sp c.gj<|out++Qjj (t.extract done m.1.toNat)
   if c.all=true then replL c t f (mz mf c.L t m.2.toNat) (n+1) m.2.toNat out'
   else(out'++Qjj (t.extract m.2.toNat t.size),n+1)
def sf(c:Cm)(t:ag):ag×Bool:=
 let r:=replL mf c t (t.size+3) (mf c.L t 0) 0 0 []
 (ce r.1,decide (c.num<=r.2))
def Ed.subst(cf:Cf)(E:Ed)(c:Cm):Option Ed:=
 let r:=sf mf c E.L
 if r.2=true then
  match E.kz cf r.1 with
  |none=>none
  |some E1=>some<|if c.kr=true then {E1 with put:=true}.print r.1 else {E1 with put:=true}
 else some E
def qh(t:ag):ag:=t.extract 0<|ci t 0
def xk(t:ag):Option ag:=if ci t 0<t.size then some (t.extract (ci t 0+1) t.size)else none
def yw(la oo:ag)(b:UInt8):UInt8:=if(Qjj la).findIdx (·==b)<(Qjj la).length then(Qjj oo).getD ((Qjj la).findIdx (·==b)) 0 else b
def trans(la oo t:ag):ag:=ce<|(Qjj t).map<|yw la oo
def itoa(n:Nat):ag:=⟨(Lib.itoa (n:Int)).toArray⟩
def Ed.ea(cf:Cf)(E:Ed)(c:Cm):Option Ed:=
 if c.R=5 then some (E.print E.L)
 else if c.R=6 then some (E.print<|qh E.L)
 else if c.R=12 then some (E.print<|itoa E.number)
 else if c.R=14 then some {E with cy:=E.cy++[c.text]}
 else if c.R=15 then some (E.print c.text)
 else if c.R=7 then E.kz cf E.bt
 else if c.R=8 then E.grow cf E.bt
 else if c.R=9 then E.holds cf E.L
 else if c.R=10 then E.holds cf (E.bt++gp++E.L)
 else if c.R=11 then some {E with L:=E.bt,bt:=E.L}
 else if c.R=19 then E.subst mf cf c
 else if c.R=20 then some {E with L:=trans c.la c.oo E.L}
 else some E
def Ed.fv(E:Ed)(k:Nat):Ed×Nat:=({E with H:=k},1)
def Ed.stop(E:Ed)(k:Nat):Ed×Nat:=({E with ck:=k},0)
def Ed.ix(cf:Cf)(E:Ed)(join:Bool):Ed×Nat:=
 if E.bg=3/\E.known=false then(E,0)
 else if E.bg=3/\E.more=false then(E,4)
 else
  let E1:=if E.bg=3 then {(if join=true then E else(E.ja cf).fq)with bg:=4} else E
  if E1.mh cf=true then
   let r:=E1.ej cf join
   if r.2=true then r.1.fv (r.1.H+1)else(r.1,0)
  else(E1,0)
def Ed.cz(cf:Cf)(E:Ed)(c:Cm):Ed×Nat:=
 if c.R=1 then(E,3)
 else if c.R=2 then(match xk E.L with
  |none=>(E,3)
  |some t=>({E with L:=t}.fq,2))
 else if c.R=16 then(E.print c.text,3)
 else if c.R=3\/c.R=4 then E.ix cf (decide (c.R=4))
 else if c.R=13 then({E with ck:=2},4)
 else if c.R=17 then E.fv c.cn
 else if c.R=18 then(if E.put=true then {E with put:=false}.fv c.cn else E.fv (E.H+1))
 else match E.ea mf cf c with
  |none=>E.stop 4
  |some E1=>E1.fv<|E1.H+1
def Ek:Cm:=wd
def Ed.choose(cf:Cf)(E:Ed)(c:Cm):Ed×Nat:=
 if E.bg=2 then
  let r:=E.gz mf c
  if r.2.2=false then(r.1,0)
  else if r.2.1=c.neg then r.1.fv (if c.R=0 then c.cn else r.1.H+1)
  else {r.1 with bg:=3}.cz mf cf c
 else E.cz mf cf c
def Ed.dv(cf:Cf)(E:Ed):Ed×Nat:=
 let c:=cf.U.getD E.H Ek
 if E.bg=1 then(if E.cx=cf.dt then E.stop 5 else {E with cx:=E.cx+1,bg:=2}.choose mf cf c)
 else E.choose mf cf c
def Ed.hu(cf:Cf):Nat->Nat->Ed->Ed
 |0,_,E=>E
 |f+1,0,E=>
  let r:={E with bg:=0}.mi cf
  if r.2=true then {r.1 with H:=0}.hu cf f 1 else r.1
 |f+1,1,E=>if E.H=cf.U.length then E.hu cf f 3 else {E with bg:=1}.hu cf f 2
 |f+1,2,E=>
  let r:=E.dv mf cf
  if r.2=0 then r.1
  else if r.2=1 then r.1.hu cf f 1
  else if r.2=2 then {r.1 with H:=0}.hu cf f 1
  else if r.2=3 then r.1.hu cf f 4
  else r.1.hu cf f 3
 |f+1,3,E=>(E.ja cf).hu cf f 4
 |f+1,_,E=>if E.fq.ck=0 then E.fq.hu cf f 0 else E.fq
def Ed.work(cf:Cf)(E:Ed):Ed:=E.hu mf cf 10000<|if E.bg=0 then 0 else 2
def Ed.sc(cf:Cf)(E:Ed)(b:UInt8):Ed:=if E.ru=true then(E.add b).work mf cf else E
def Ed.ly(cf:Cf)(E:Ed)(l:List UInt8):Ed:=l.foldl (Ed.sc mf cf) E
def Ed.rh(cf:Cf)(E:Ed):Ed:=if E.ru=true then {E with dq:=true}.work mf cf else E
end
def Ed.ud(E:Ed):Nat:=E.out.length-E.ca
def Ed.vr(E:Ed)(n:Int):Nat:=min n.toNat E.ud
def Ed.take(E:Ed)(n:Int):Ed×ag:=
 let k:=E.vr n
 let t:=ce<|(E.out.drop E.ca).take k
 if E.out.length<=2*(E.ca+k)then({E with out:=E.out.drop<|E.ca+k,ca:=0},t)else({E with ca:=E.ca+k},t)
