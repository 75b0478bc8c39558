import Derived.WalkSpells
import Derived.Deep.MidRow
import Derived.Deep.WholeRow
import Derived.Deep.Light
import Derived.Test.YtppjlpihaocdiaaGreatDoorHd
set_option linter.all false
set_option maxRecDepth 100000
set_option maxHeartbeats 16000000
namespace Go.Proofs.YtppjlpihaocdiaaGreatDoor
open Go.RowKit
variable{w u v:ae}{a b c d e:Nat}{s t:ag}{x y z:af}{p D:Int}{l:List af}{f:Bool}{g:List Nat}{h:Nat->Prop}{o:Option Addr}{r:List UInt8}{A:Nat->Bool}{B:Nat->Nat->Bool}{C:Nat->Nat->Prop}(i:Nat)(S T:ag)(V X:af)(j k m n:Nat)(Z:Int)(W:ae)
structure bf(b:Nat)(w w':ae):Prop where
 os:w'.os=w.os
 tape:w'.tape=w.tape
 output:w'.output=w.output
 size:w'.heap.size=w.heap.size
 block:∀k,k≠b->w'.heap[k]?=w.heap[k]?
structure bd(w:ae)(b:Nat)(cs:List af):Prop where
 km:w.rangeAt b 0 cs
 free:w.there b 0 cs.length
def bd.cell{w:ae}(d:bd w b l){k:Nat}(c:l[k]?=some x):w.cell? (O b k)=some x:=by
 have:=d.km k x c;simpa using this
def bd.xc{w:ae}{x:af}(d:bd w b l)(k:Nat)(c:l[k]?=some x:=by exact rfl):w.cell? (O b k)=some x:=d.cell c
def bd.frozen{w:ae}(d:bd w b l){k:Nat}(c:k<l.length):w.frozen? (O b k)=false:=by
 have:=(d.free k c).2;simpa using this
def bd.lt{w:ae}(f:bd w b l)(d:0<l.length:=by omega):b<w.heap.size:=by
 obtain⟨c,e⟩:∃c,l[0]?=some c:=⟨l[0],dy d⟩;exact dw w _<|f.cell e
def bd.cw{w w':ae}(e:bd w b l)(f:w'.heap[b]?=w.heap[b]?):bd w' b l:=by
 have g:∀c,w'.cell? (O b c)=w.cell? (O b c):=λc=>ac c f
 have i:∀c,w'.frozen? (O b c)=w.frozen? (O b c):=λc=>ad c f
 exact⟨λd k j=>(g _).trans<|e.km d k j,λd h=>⟨by rw[g];exact(e.free d h).1,by rw[i];exact(e.free d h).2⟩⟩
def bd.below{w d:ae}(g:bd w b l)(e:Below c w d)(f:b<c:=by omega):bd d b l:=g.cw<|e.block b f
def bd.bj{w w':ae}{b a:Nat}(e:bd w b l)(d:bf a w w')(c:b≠a:=by omega):bd w' b l:=e.cw<|d.block b c
def bd.new(w:ae)(b:List af)(c:TypeId):bd (w.alloc<|.cells b.toArray c) w.heap.size b:=by
 have g:=heap_alloc_last w<|.cells b.toArray c;have e:∀d,(w.alloc<|.cells b.toArray c).cell? (O w.heap.size d)=b[d]? :=λd=>by
  rw[yya _ w.heap.size d b.toArray c (0,0) g];simp
 refine⟨λf k h=>by rw[qo,e];exact h,λf i=>⟨?_,?_⟩⟩
 .rw[qo,e];simp[i]
 have j:=frozen?_alloc_cells w b.toArray c<|O w.heap.size<|0+f;rw[j];simp[World.frozen?]
def bd.put{w:ae}(h:bd w b l)(d:Nat)(j:d<l.length)(n:af):bd (w.setCell (O b d) n) b (l.set d n):=by
 have o:∃m,w.cell? (O b d)=some m:=⟨l[d],h.cell<|dy j⟩;let⟨m,k⟩:=o;refine⟨λi p f=> ?_,λi g=>⟨?_,?_⟩⟩
 .rw[qo];by_cases e:i=d
  .subst e;rw[qz (h:=k)];rw[zv j]at f;exact f
  rw[jm (h:=λc=>e<|by injection c with _ c _;exact c.symm)];rw[xe<|λc=>e c.symm]at f;exact h.cell f
 .rw[qo];rw[tj]at g;by_cases e:i=d
  .subst e;rw[qz (h:=k)];rfl
  rw[jm (h:=λc=>e<|by injection c with _ c _;exact c.symm)];rw[h.cell<|dy g];rfl
 rw[tj]at g;rw[jf,qo];exact h.frozen g
def bf.refl(w:ae):bf i w w:=⟨rfl,rfl,rfl,rfl,λ_ _=>rfl⟩
def bf.trans{b:Nat}{g h w:ae}(c:bf b g h)(d:bf b h w):bf b g w:=
 ⟨d.os.trans c.os,d.tape.trans c.tape,d.output.trans c.output,d.size.trans c.size,λf e=>(d.block f e).trans<|c.block f e⟩
def bf.setCell{b:Nat}{c w:ae}(e:bf b c w)(f:Nat)(g:af):bf b c (w.setCell (O b f) g):=
 e.trans ⟨rfl,rfl,rfl,by simp[World.setCell],λh d=>er _ _ _ _ d⟩
def xxs{b f:Nat}{w:ae}{g:af}:bf b w (w.setCell (O b f) g):=(bf.refl _ _).setCell _ _
def bf.setCells(c:Nat):∀(d:List af)(b:Nat)(w:ae),bf c w (w.setCells c b d)
 | [],b,w=>by simp only[World.setCells];exact .refl _ _
 |v::d,b,w=>by
  simp only[World.setCells];exact((bf.refl c w).setCell b v).trans<|bf.setCells c d (b+1) _
def Below.bj{a w w':ae}(e:Below b a w)(d:bf c w w')(g:b<=c:=by omega):Below b a w':=
 e.trans ⟨d.os,d.tape,d.output,by rw[d.size];exact ah,λf h=>d.block f Q⟩
section
variable {P:Program} {ops:Array Oper} {rest:List Oper} {op:Oper} {a:Act} {w:ae} {K:Exit->Act->ae->Prop}
def gm(g:op.dst=some i)(j:op.guard=none)(c:TypeId)(m:op.op=.alloc c)(b:List af)
  (n:(P.info? c).map (λe=>(e.zero,e.size))=some (some<|.agg b.toArray,b.length))
  (l:∀d,d.heap.size=w.heap.size+1->bd d w.heap.size b->Below w.heap.size w d->wpList P ops K rest (a.put (some i)<|ab w.heap.size 0) d):wpList P ops K (op::rest) a w:=by
 have o:=l (w.alloc<|.cells b.toArray c) qD (bd.new w b c)<|(bp _ _).alloc ah _;refine zyg j λf p=> ?_
 have k:=(zero_of_info n).1;unfold Oper.wp execOp;have h:f (a.put op.dst<|ab w.heap.size 0) (w.alloc<|.cells b.toArray c):=by rw[g];exact p _ _ o
 simp only[m,Instr.alloc,newVar,yzz,Sem.run_pure,Result.andThen_ok,k];exact h
def ti(g:op.dst=some i)(j:op.guard=none)(c:TypeId)(e:Operand)(k:op.op=.box c e)(b:List af)(m:a.eval e=.agg b.toArray)
  (l:∀d,d.heap.size=w.heap.size+1->bd d w.heap.size b->Below w.heap.size w d->wpList P ops K rest (a.put (some i)<|ab w.heap.size 0) d):wpList P ops K (op::rest) a w:=by
 have n:=l (w.alloc<|.cells b.toArray c) qD (bd.new w b c)<|(bp _ _).alloc ah _;refine zyg j λf o=> ?_
 unfold Oper.wp execOp;have h:f (a.put op.dst<|ab w.heap.size 0) (w.alloc<|.cells b.toArray c):=by rw[g];exact o _ _ n
 simp only[k,m,Instr.box,newVar,yzz,Sem.run_pure,Result.andThen_ok];exact h
def ir(g:op.dst=some i)(h:op.guard=none)(c:TypeId)(f:Operand)(l:op.op=.load c f)(d:Nat)(m:a.eval f= ab d 0)(b:List af)(e:TypeDesc)
  (n:bd w d b) (o:P.underlying c=some e) (hd:e.isRow=true) (k:(P.info? c).map (·.size)=some b.length)
  (j:wpList P ops K rest (a.put (some i)<|.agg b.toArray) w):wpList P ops K (op::rest) a w:=
 wpList_load_mid h c f l d 0 m b e n.km o hd k (by rw[g];exact j)
def bd.store{w:ae}(f:bd w b l)(c:List af)(e:c.length=l.length):bd (w.setCells b 0 c) b c:=by
 have d:w.there b 0 c.length:=by rw[e];exact f.free
 exact⟨World.rangeAt_setCells_same w b 0 c d,World.there_setCells d b 0 c⟩
def hw(k:op.guard=none)(d:TypeId)(f g:Operand)(n:op.op=.store d f g)(c:Nat)(o:a.eval f= ab c 0)(b:List af)(p:a.eval g=.agg b.toArray)(h:List af)
  (i:bd w c h) (j:b.length=h.length) (m:(P.info? d).map (·.size)=some b.length) (q:∀s∈b,s.oneCell'=true)
  (l:∀e,bd e c b->bf c w e->wpList P ops K rest (a.put op.dst undef) e):wpList P ops K (op::rest) a w:=by
 have r:w.there c 0 b.toArray.size:=by
  have:=i.free;rw[<-j]at this;simpa using this
 refine wpList_store_mid k d f g n c 0 b.toArray o p r (qK m) (all_oneCell_toArray q) ?_;have:=l (w.setCells c 0 b) (i.store b j)<|bf.setCells c b 0 w;simpa using this
def wb{h:Func}{g:Ending->ae->Prop}(f:Tmp)(d:TypeId)(i:h.results=#[.cell f d])(hd:a.defers=[])(c:Nat)(m:a.tmps.getD f undef= ab c 0)(b:List af)(e:TypeDesc)
  (n:bd w c b) (o:P.underlying d=some e) (j:e.isRow=true) (l:(P.info? d).map (·.size)=some b.length) (p:g (.returned<|.agg b.toArray) w):bodyPost P h g .ret a w:=by
 refine yyd (v:=.agg b.toArray) ?_ hd p;have q:=run_loadVar_mid (P:=P) w c 0 d b e n.km o j l;simp only[results,i];have k:a.tmps[f]?.getD undef= ab c 0:=qK m
 simp[yzz,Result.andThen,k,asAddr,q]
end
