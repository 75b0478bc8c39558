import Derived.Laws.Cover3
import Derived.Lib.ConvBytes
import Derived.Deep.RegionHeldLaw
import Derived.Test.YtppjlpihaocdiaaGreatDoorAuQ
set_option linter.all false
set_option maxRecDepth 100000
set_option maxHeartbeats 16000000
namespace Go.Proofs.YtppjlpihaocdiaaGreatDoor
open Go.RowKit Go.Proofs.Tryz
variable{w u v:ae}{a b c d e:Nat}{s t:ag}{x y z:af}{p D:Int}{l:List af}{f:Bool}{g:List Nat}{h:Nat->Prop}{o:Option Addr}{r:List UInt8}{A:Nat->Bool}{B:Nat->Nat->Bool}{C:Nat->Nat->Prop}(i:Nat)(S T:ag)(V X:af)(j k m n:Nat)(Z:Int)(W:ae)
def ss(a:Below w.heap.size w u):Below w.heap.size w u.drew:=⟨a.os,a.tape,a.output,a.size,a.block⟩
def aes(f:Mf)(D:fj f)(K:Nat)(qa:Cf)(h:Ed)(R:Ev)(c:ag)(i j k:af)(d:ae)(z:At d K qa h R)(E:Pt d c i j k)(r:h.L.size<=80):
  Calls prog 201 #[.pointer<|some ⟨K,5,none⟩,.agg #[i,j,k]] d λl T=>l=.returned (.bool<|vk f c h.L)/\Below d.heap.size d T:=by
 have U:=z.lt;have M:=z.xc 5;have F:=J E;have H:=J D;have s:Y (vk f c h.L=(f c h.L 0).isSome):=rfl;have V:∀(e:ae),(binOp .neq 41 (.slice none 0 0)<|.slice none 0 0).run prog e=.ok (.bool false) e:=λe=>run_neq_slice_nil (P:=prog) (w:=e) _ _ none 0 0 underlying41
 have W:∀(e:ae)(C:Addr)(B x:Nat),(binOp .neq 41 (.slice (some C) B x)<|.slice none 0 0).run prog e=.ok (.bool true) e:=λe C B x=>run_neq_slice_nil (P:=prog) (w:=e) _ _ (some C) B x underlying41
 generalize h.L=g at M r s|-;rcases a:f c g 0 with _|S
 .have t:=J a;have u:Y (vk f c g=false):=by rw[Y,s.out,a];rfl
  go_in;go_wp21;go_region_with (first
   |(go_at_call 43;(have b:=Vo c g i j k (d.alloc<|.cells #[i,j,k] 88).drew (F.below<|ss<|mj d _) r;go_call b;rintro l A ⟨v,rfl,n,o⟩;have w:=J n;have p:=(ss<|mj d _).trans (o.mono qD);clear b n o))
   |(go_at_call 44;(have b:=Gg f H c g v 0 A w;go_call b;rintro l P ⟨m,L,rfl,q⟩;have y:=p.trans<|m.mono p.size;rw[t.out]at q;obtain rfl:L=.slice none 0 0:=q;clear b m)))
  all_goals
   go_wp21;go_ret;exact⟨by rw[u.out];rfl,y⟩
 have t:=J a;have u:Y (vk f c g=true):=by rw[Y,s.out,a];rfl
 go_in;go_wp21;go_region_with (first
  |(go_at_call 43;(have b:=Vo c g i j k (d.alloc<|.cells #[i,j,k] 88).drew (F.below<|ss<|mj d _) r;go_call b;rintro l A ⟨v,rfl,n,o⟩;have w:=J n;have p:=(ss<|mj d _).trans (o.mono qD);clear b n o))
  |(go_at_call 44;(have b:=Gg f H c g v 0 A w;go_call b;rintro l P ⟨m,L,rfl,q⟩;have y:=p.trans<|m.mono p.size;rw[t.out]at q;obtain⟨X,rfl,n,o⟩:=q;clear b m n o)))
 all_goals
  go_wp21;go_ret;exact⟨by rw[u.out];rfl,y⟩
structure Fw(w:ae)(g o:Nat)(x:Wh)(v0 v1 v2:af):Prop where
 lt:g<w.heap.size
 c0:w.cell? (O g o)=some (I x.sort)
 c1:w.cell? (O g<|o+1)=some (I x.num)
 c2:w.cell? (O g<|o+2)=some v0
 c3:w.cell? (O g<|o+3)=some v1
 c4:w.cell? (O g<|o+4)=some v2
 pt:x.sort=3->Pt w x.L v0 v1 v2
def Fw.below{d f:ae}{b k:Nat}{l:Wh}{h i j:af}(a:Fw d b k l h i j)(g:Below d.heap.size d f):Fw f b k l h i j:=by
 have c:∀e,f.cell? (O b e)=d.cell? (O b e):=λe=>ac e<|g.block b a.lt
 exact⟨ew a.lt g.size,(c _).trans a.c0,(c _).trans a.c1,(c _).trans a.c2,(c _).trans a.c3,(c _).trans a.c4,λm=>(a.pt m).below g⟩
def Nx(a:Nat):Below W.heap.size W (W.drewN a):=⟨rfl,rfl,rfl,ah,λ_ _=>rfl⟩
def Ms(w:ae)(r:Bool×Bool)(e:Ending)(w':ae):Prop:=e=.returned (.tuple #[.bool r.1,.bool r.2])/\Below w.heap.size w w'
def aet(g:Mf)(z:fj g)(j:Nat)(m:Cf)(a:Ed)(o:Ev)(x y:Nat)(b:Wh)(A B C:af)(e:ae)(p:At e j m a o)(k:Fw e x y b A B C)(D:a.L.size<=80):
  Calls prog 167 #[.pointer<|some ⟨j,0,none⟩,.pointer<|some ⟨x,y,none⟩] e (Ms e<|a.jl g b):=by
 have E:=J z;have L:=p.xc 4;have q:=k.c0;have M:=k.c1;have r:=k.c2;have s:=k.c3;have t:=k.c4;by_cases d:b.sort=1
 .have c:Y (a.jl g b=(decide (b.num=a.number),true)):=by rw[Y,Ed.jl,G d]
  rw[d]at q;have l:((b.num:Int)==a.number)=decide (b.num=a.number):=by
   by_cases h:b.num=a.number
   .rw[h];simp
   simp[h];omega
  have u:(b.num==a.number)=decide (b.num=a.number):=by
   by_cases h:b.num=a.number
   .rw[h];simp
   simp[h]
  generalize f:decide (b.num=a.number)=i at l u c;obtain G|G:=df i<;>subst G
  all_goals
   go_in;go_wp21;go_region
   all_goals go_wp21
   all_goals go_ret2
   all_goals (rw[c.out];exact⟨rfl,Nx e 1⟩)
 by_cases i:b.sort=2
 .have c:Y (a.jl g b=(!a.more,a.known)):=by rw[Y,Ed.jl,N d,G i]
  rw[i]at q;generalize v:a.more=mo at c;generalize w:a.known=F at c;have K:Y (∀l,At l j m a o->Calls prog 116 #[.pointer<|some ⟨j,0,none⟩] l (Qzt l<|.tuple #[.bool mo,.bool F])):=λl H=>by
   have:=Kx j m a o l H;rw[v,w]at this;exact this
  go_in;go_wp21;go_call K as h v ⟨rfl,n,rfl⟩;go_wp21;go_ret2;rw[c.out];exact⟨rfl,Nx e n⟩
 by_cases l:b.sort=3
 .have c:Y (a.jl g b=(vk g b.L a.L,true)):=by rw[Y,Ed.jl,N d,N i,G l]
  have F:=J<|k.pt l;rw[l]at q;go_in;go_wp21;go_region_with (first
   |(go_at_call 201;(have w:=aes g E j m a o b.L A B C e.drew p.drew (F.below<|ss<|bp _ _) D;go_call w;rintro h v ⟨rfl,f⟩;have H:Y (Below e.heap.size e v):=⟨f.os,f.tape,f.output,f.size,f.block⟩;clear w f)))
  all_goals
   go_wp21;go_ret2;rw[c.out];exact⟨rfl,H⟩
 have c:Y (a.jl g b=(true,true)):=by rw[Y,Ed.jl,N d,N i,N l]
 have f:((b.sort:Int)==1)=false:=qB
 have u:((b.sort:Int)==2)=false:=qB
 have w:((b.sort:Int)==3)=false:=qB
 go_in;go_wp21;go_ret2;rw[c.out];exact⟨rfl,bp _ _⟩
def Qze(d:Mf)(A:fj d)(l:Nat)(m:Cf)(b:Ed)(u:Ev)(n s:Nat)(a:Wh)(p q r:af)(i:Bool)(e:ae)(o:At e l m b u)(g:Fw e n s a p q r)(B:b.L.size<=80):
  Calls prog 168 #[.pointer<|some ⟨l,0,none⟩,.pointer<|some ⟨n,s,none⟩,.bool i] e (Ms e<|b.qa d a i):=by
 have C:=J A;have K:=o.xc 4;have v:=g.c0;have D:=g.c1;have w:=g.c2;have x:=g.c3;have y:=g.c4;by_cases h:a.sort=1
 .have f:Y (b.qa d a i=(decide (a.num<=b.number),true)):=by rw[Y,Ed.qa,G h]
  rw[h]at v;have k:decide ((a.num:Int)<=b.number)=decide (a.num<=b.number):=by
   rw[decide_eq_decide];omega
  generalize c:decide (a.num<=b.number)=j at k f;obtain G|G:=df j<;>subst G
  all_goals
   go_in;go_wp21;go_region
   all_goals go_wp21
   all_goals go_ret2
   all_goals (rw[f.out];exact⟨rfl,Nx e 1⟩)
 by_cases j:a.sort=3
 .have f:Y (b.qa d a i=(i&&vk d a.L b.L,true)):=by rw[Y,Ed.qa,N h,G j]
  have E:=J<|g.pt j;rw[j]at v;obtain H|H:=df i<;>subst H
  .go_in;go_wp21;go_region_with (first
    |(go_at_call 201;(have k:=aes d C l m b u a.L p q r e.drew o.drew (E.below<|ss<|bp _ _) B;go_call k;rintro F z ⟨rfl,c⟩;have t:Y (Below e.heap.size e z):=⟨c.os,c.tape,c.output,c.size,c.block⟩;clear k c)))
   all_goals
    go_wp21;go_ret2;rw[f.out];exact⟨rfl,t⟩
  go_in;go_wp21;go_region
  all_goals go_wp21
  all_goals go_ret2
  all_goals (rw[f.out];exact⟨rfl,Nx e 1⟩)
 have f:Y (b.qa d a i=b.jl d a):=by rw[Y,Ed.qa,N h,N j]
 have E:((a.sort:Int)==1)=false:=qB
 have L:((a.sort:Int)==3)=false:=qB
 have k:=aet d C l m b u n s a p q r e o g B;generalize b.jl d a=M at k f;go_in;go_wp21;go_call k;rintro F z ⟨rfl,c⟩;have t:=J c;go_wp21;go_ret2;rw[f.out];exact⟨rfl,t⟩
structure ox(n:Nat)(x:Cm):Prop where
 p1:x.fst.sort=3->x.fst.L.size<=40
 p2:x.snd.sort=3->x.snd.L.size<=40
 p3:x.R=19->x.L.size<=40
 tm:x.R=19->∀p∈x.gj,(p.jw=-1/\p.byte<256)\/(0<=p.jw/\p.jw<=eo x.L)
 tl:x.gj.length<=400
 yy:x.R=20->x.la.size=x.oo.size
 ys:x.la.size<=400
 tx:x.text.size<=400
 gl:x.cn<=n
 nu:x.num<=9
structure ni(w:ae)(g o:Nat)(x:Cm)(q:fw):Prop where
 lt:g<w.heap.size
 cell:∀i u,(ff x q)[i]?=some u->w.cell? (O g<|o+i)=some u
 fst:Fw w g (o+1) x.fst (.slice q.a1 q.l1 q.c1) (I q.r1) (I q.g1)
 snd:Fw w g (o+6) x.snd (.slice q.a2 q.l2 q.c2) (I q.r2) (I q.g2)
 L:x.R=19->Pt w x.L (.slice q.a3 q.l3 q.c3) (I q.r3) (I q.g3)
 gj:x.R=19->w.ownsRow 0 293 2 q.tv x.gj.length (rq x.gj)
def At.cmd{d:Cf}{t:Ed}{q:Ev}(u:At w a d t q){h:Cm}(n:d.U[b]?=some h)(o:ox d.U.length h):
  ∃f m j,q.cm= aa f d.U.length m/\¬ib a q f/\ni w f (b*23) h j:=by
 obtain⟨_,xs,r,v,x⟩:=u.cm;have y:b<d.U.length:=by
  obtain e|e:=hb b d.U.length
  .exact e
  rw[je e]at n;cases n
 obtain⟨D,E,j,A,B,i,z⟩:=x b h n;obtain⟨f,m,e,_,l⟩:=r.form Q;have c:∀g k,(ff h j)[g]?=some k->w.cell? (O f<|b*23+g)=some k:=λg k p=>by
  have C:g<23:=by
   obtain e|e:=hb g 23
   .exact e
   rw[je<|by rw[abe];exact e]at p;cases p
  have s:=r;rw[e]at s;rw[s.cellAt (b*23+g) (by
   omega)]
  exact z g k p
 exact⟨f,m,j,e,v f<|by rw[e];rfl,l,c,⟨l,c 1 _ rfl,c 2 _ rfl,c 3 _ rfl,c 4 _ rfl,c 5 _ rfl,λe=>jz.pt (i.fst e)<|o.p1 e⟩,⟨l,c 6 _ rfl,c 7 _ rfl,c 8 _ rfl,c 9 _ rfl,c 10 _ rfl,λe=>jz.pt (i.snd e)<|o.p2 e⟩,λe=>jz.pt (i.L e)<|o.p3 e,λe=>World.ownsRow.mono ((i.gj e).2.2 w λ_ _ _=>rfl) Q⟩
theorem At.Ep{l:Cf}{d:Ed}{i:Ev}{f o k:Nat}{x:Bool}(c:At w a l d i)(b:i.op= aa f d.bo.length o:=by omega):Ok w a l i {d with bo:=d.bo.set k x} (w.setCell (O f k)<|.bool x):=by
 have e:bf f w (w.setCell (O f k)<|.bool x):=(bf.refl _ _).setCell _ _;have j:i.op.ownBlock=some f:=by rw[b];rfl
 have p:a≠f:=λb=>c.ap.b4 (by rw[b];exact j)
 have m:∀h,¬ib a i h->(w.setCell (O f k)<|.bool x).heap[h]?=w.heap[h]? :=λh g=>e.block h<|λb=>g<|.inr<|.inr<|.inr<|.inr<|by rw[b];exact j
 refine⟨i,⟨c.row.cw<|e.block a p,mc e c.nx<|λb=>c.ap.d14 f b j,mc e c.ot<|λb=>c.ap.d24 f b j,mc e c.cg<|λb=>c.ap.d34 f b j,?_,c.cm.keep (λh _ g=>m h g) (yh e.size.symm)<|λ_ g=> .inl g,c.ap⟩,⟨e.os,e.tape,e.output,yh e.size.symm,λh _ g=>m h g,λ_ g=> .inl g,rfl⟩⟩;have n:=c.op;rw[b]at n;have:=(n.stored k<|.bool x).1;have q:(d.bo.set k x).length=d.bo.length:=tj;have r:ov (d.bo.set k x)=(ov d.bo).set k (.bool x):=by simp[ov,List.map_set]
 grind
def Zn(w:ae)(b:Nat)(cf:Cf)(v:Ev)(r:Ed×Bool×Bool)(e:Ending)(w':ae):Prop:=e=.returned (.tuple #[.bool r.2.1,.bool r.2.2])/\Ok w b cf v r.1 w'
def Ok.below{a g:ae}{e:Nat}{f:Cf}{c:Ed}{b:Ev}(h:At a e f c b)(d:Below a.heap.size a g):Ok a e f b c g:=⟨b,h.below d,Fe.below d⟩
theorem aug(d:Mf)(P:fj d)(k:Nat)(z:Cf)(a:Ed)(B:Ev)(v w:Nat)(b:Cm)(a8:fw)(g:ae)(p:At g k z a B)(C:ni g v w b a8)(V:a.L.size<=80)(W:a.H<a.bo.length):
  Calls prog 120 #[.pointer<|some ⟨k,0,none⟩,.pointer<|some ⟨v,w,none⟩] g (Zn g k z B<|a.gz d b):=by
 have r:=p;have A:Y (∀e,Below g.heap.size g e->Calls prog 167 #[.pointer<|some ⟨k,0,none⟩,.pointer<|some ⟨v,w+1,none⟩] e (Ms e<|a.jl d b.fst)):=λe m=>aet d P k z a B v (w+1) b.fst _ _ _ e (p.below m) (C.fst.below m) V
 have L:Y (∀D e,Below g.heap.size g e->Calls prog 168 #[.pointer<|some ⟨k,0,none⟩,.pointer<|some ⟨v,w+6,none⟩,.bool D] e (Ms e<|a.qa d b.snd D)):=λD e m=>Qze d P k z a B v (w+6) b.snd _ _ _ D e (p.below m) (C.snd.below m) V
 have a5:=C.cell 6 _ rfl;have R:=p.xc 13;have S:=p.xc 14;let⟨x,a2,l,_,_⟩:=p.op.form Q;have qb:=J l;rw[l]at R;have mo:g.cell? (O x a.H)=some (.bool<|a.bo.getD a.H false):=by
  have u:=p.op;rw[l]at u;rw[u.cellAt a.H Q];simp[ov,List.getD,dy W]
 have o:Y (a.gz d b=if b.snd.sort=0 then(a,a.jl d b.fst)else
  if a.bo.getD a.H false=false/\((a.jl d b.fst).1=false\/(a.jl d b.fst).2=false)then(a,false,(a.jl d b.fst).2)
  else(if(a.qa d b.snd<|a.bo.getD a.H false).2=true then {a with bo:=a.bo.set a.H<|!(a.qa d b.snd<|a.bo.getD a.H false).1} else a,(a.qa d b.snd<|a.bo.getD a.H false).2,(a.qa d b.snd<|a.bo.getD a.H false).2)):=rfl
 have E:Y (∀e,Below g.heap.size g e->e.cell? (O k 13)=some (aa x a.bo.length a2)/\e.cell? (O k 14)=some (I a.H)/\e.cell? (O x a.H)=some (.bool<|a.bo.getD a.H false)/\e.frozen? (O x a.H)=false):=λe m=>by
  have c:=r.below m;have u:=c.op;rw[qb.out]at u;exact⟨(c.xc 13).trans<|congrArg some qb,c.xc 14,by rw[u.cellAt a.H Q];simp[ov,List.getD,dy W],u.frozenAt a.H⟩
 have H:Y (∀e b,Below g.heap.size g e->Ok g k z B {a with bo:=a.bo.set a.H b} (e.setCell (O x a.H)<|.bool b).drew):=λe b m=>by
  let⟨j,c,h⟩:=(r.below m).Ep qb (k:=a.H) (x:=b);exact⟨j,c.drew,((Fe.below m).trans h).drewN 1⟩
 by_cases q:b.snd.sort=0
 .have h:Y (a.gz d b=(a,a.jl d b.fst)):=by rw[Y,o.out,G q]
  rw[q]at a5;generalize a.jl d b.fst=j at A h;go_in;go_wp21;go_call A _ (bp _ _)as l n ⟨rfl,c⟩;go_wp21;go_ret2;rw[h.out];exact⟨rfl,Ok.below r c⟩
 have aA:((b.snd.sort:Int)==0)=false:=qB
 generalize a9:a.bo.getD a.H false=U at mo o E;rcases f:a.qa d b.snd U with⟨X,a0⟩;obtain Z|Z:=df U<;>subst Z
 .go_in;go_wp21;go_region
  all_goals
   go_wp21;refine(L true _<|ss<|bp _ _).mono ?_;rw[f];rintro l n ⟨rfl,c⟩;have j:Y (Below g.heap.size g n):=⟨c.os,c.tape,c.output,c.size,c.block⟩;obtain F|F:=df a0<;>subst F
   .let⟨a3,a4,a7,a6⟩:=E n j;have h:Y (a.gz d b=({a with bo:=a.bo.set a.H<|!X},true,true)):=by rw[Y,o.out,N q,N qD,f];rfl
    go_wp21;go_region
    all_goals go_wp21
    all_goals go_ret2
    all_goals (rw[h.out];exact⟨rfl,H n _ j⟩)
   have h:Y (a.gz d b=(a,false,false)):=by rw[Y,o.out,N q,N qD,f];rfl
   go_wp21;go_ret2;rw[h.out];exact⟨rfl,Ok.below r j⟩
 rcases i:a.jl d b.fst with⟨K,y⟩;by_cases T:K=false\/y=false
 .have h:Y (a.gz d b=(a,false,y)):=by rw[Y,o.out,N q,i,G ⟨rfl,T⟩]
  obtain s|s:=df K<;>subst s
  .obtain t|t:=df y<;>subst t
   .simp at T
   go_in;go_wp21;go_region
   all_goals
    go_wp21;refine(A _<|ss<|bp _ _).mono ?_;rw[i];rintro l n ⟨rfl,c⟩;have j:Y (Below g.heap.size g n):=⟨c.os,c.tape,c.output,c.size,c.block⟩;go_wp21;go_ret2;rw[h.out];exact⟨rfl,Ok.below r j⟩
  go_in;go_wp21;go_region
  all_goals
   go_wp21;refine(A _<|ss<|bp _ _).mono ?_;rw[i];rintro l n ⟨rfl,c⟩;have j:Y (Below g.heap.size g n):=⟨c.os,c.tape,c.output,c.size,c.block⟩;go_wp21;go_ret2;rw[h.out];exact⟨rfl,Ok.below r j⟩
 have s:K=true:=by cases K<;>simp_all
 have t:y=true:=by cases y<;>simp_all
 subst s;subst t;go_in;go_wp21;go_region
 all_goals
  go_wp21;refine(A _<|ss<|bp _ _).mono ?_;rw[i];rintro l n ⟨rfl,c⟩;have j:Y (Below g.heap.size g n):=⟨c.os,c.tape,c.output,c.size,c.block⟩;go_wp21;refine(L false _ j).mono ?_;rw[f];rintro l a1 ⟨rfl,c⟩;have M:=j.trans<|c.mono j.size;obtain F|F:=df a0<;>subst F
  .let⟨a3,a4,a7,a6⟩:=E a1 M;have h:Y (a.gz d b=({a with bo:=a.bo.set a.H<|!X},true,true)):=by rw[Y,o.out,N q,i,N qD,f];rfl
   go_wp21;go_region
   all_goals go_wp21
   all_goals go_ret2
   all_goals (rw[h.out];exact⟨rfl,H a1 _ M⟩)
  have h:Y (a.gz d b=(a,false,false)):=by rw[Y,o.out,N q,i,N qD,f];rfl
  go_wp21;go_ret2;rw[h.out];exact⟨rfl,Ok.below r M⟩
def aoa(f:Cf)(a:Ed)(j:Ev)(c:ae)(e:At c i f a j)(g:a.L.size<=1000000):
  Calls prog 204 #[.pointer<|some ⟨i,5,none⟩] c (Qzt c<|.string<|qh a.L):=by
 have o:=e.xc 5;have d:Y (qh a.L=a.L.extract 0 (ci a.L 0)):=rfl;have b:=Xr a.L c g;generalize a.L.extract 0 (ci a.L 0)=k at b d;generalize a.L.extract (ci a.L 0+1) a.L.size=l at b;generalize decide (ci a.L 0<a.L.size)=m at b;rw[d.out];go_in;go_wp21;go_call b;rintro n p ⟨rfl,h,rfl⟩;go_wp21;go_ret;exact⟨rfl,h,rfl⟩
def am4(j:Cf)(a:Ed)(l:Ev)(e:ae)(g:At e i j a l)(q:a.L.size<=1000000):
  Calls prog 202 #[.pointer<|some ⟨i,5,none⟩] e λf p=>(xk a.L=none/\f=.returned (.bool false)/\Ok e i j l a p)\/∃o,xk a.L=some o/\f=.returned (.bool true)/\Ok e i j l {a with L:=o} p:=by
 have u:=g.xc 5;have v:=g.cd 5;have d:Y (xk a.L=if ci a.L 0<a.L.size then some (a.L.extract (ci a.L 0+1) a.L.size)else none):=rfl;have b:=Xr a.L e q;generalize a.L.extract 0 (ci a.L 0)=t at b;generalize n:a.L.extract (ci a.L 0+1) a.L.size=m at b d;by_cases c:ci a.L 0<a.L.size
 .have hd:decide (ci a.L 0<a.L.size)=true:=qK c
  rw[hd]at b;have h:Y (xk a.L=some m):=by rw[Y,d.out,G c]
  go_in;go_wp21;go_call b;rintro f r ⟨rfl,k,rfl⟩;go_wp21;go_ret;exact .inr ⟨m,h,rfl,((Ok.refl g).drewN k).put<|λw s=>⟨(bf.refl _ _).setCell _ _,jx s.row 5 _ Q rfl⟩⟩
 have hd:decide (ci a.L 0<a.L.size)=false:=qK c
 rw[hd]at b;have h:Y (xk a.L=none):=by rw[Y,d.out,N c]
 go_in;go_wp21;go_call b;rintro f r ⟨rfl,k,rfl⟩;go_wp21;go_ret;exact .inl ⟨h,rfl,(Ok.refl g).drewN k⟩
def anv(d:Cf)(a:Ed)(e:Ev)(c:ae)(b:At c i d a e):
  Calls prog 207 #[.pointer<|some ⟨i,7,none⟩,.pointer<|some ⟨i,5,none⟩] c λg h=>g=.returned (.tuple #[])/\Ok c i d e {a with L:=a.bt,bt:=a.L} h:=by
 have j:=b.xc 5;have k:=b.cd 5;have l:=b.xc 7;have m:=b.cd 7;have f:Y (Ok c i d e {a with L:=a.bt,bt:=a.L} ((c.setCell (O i 7)<|.string a.L).setCell (O i 5)<|.string a.bt).drew):=
  (b.put (E':={a with L:=a.bt,bt:=a.L}) (xxs.setCell _ _)<|jx (E:={a with bt:=a.L}) (jx b.row 7 _ Q rfl) 5 _ Q rfl).drewN 1
 go_in;go_wp21;go_region
 all_goals
  go_wp21;go_returns;exact⟨rfl,f⟩
def Sy(b:ag):bd (Lib.bytesWorld W 5 b) W.heap.size (bv<|Qjj b):=by
 have h:∀a f,(bv<|Qjj b)[a]?=some f->(Lib.bytesWorld W 5 b).cell? (O W.heap.size a)=some f:=λa f c=>by
  have d:a<b.size:=by
   obtain e|e:=hb a b.size
   .exact e
   rw[je<|by rw[Bk,jn];exact e]at c;cases c
  rw[Lib.bytesWorld_cell W 5 b a d];rw[<-c];have g:a<b.data.toList.length:=qK d
  simp[bv,Qjj,List.getD,dy g]
 refine⟨λa f c=>by rw[qo];exact h a f c,λa d=>?_⟩;have c:=dy d;rw[qo];refine⟨by rw[h a _ c];rfl,?_⟩;have g:a<b.size:=by rw[Bk,jn]at d;exact d
 have i:b.size<=(Lib.bytesCells W 5 b).size:=by simp[Lib.bytesCells]
 simp[World.frozen?,Lib.bytesWorld_at_new];omega
def Sx(a:ag):Below W.heap.size W (Lib.bytesWorld W 5 a):=⟨rfl,rfl,rfl,by rw[Lib.bytesWorld_size];omega,λc b=>Lib.bytesWorld_at_old W _ a c b⟩
theorem awm{a:UInt8}(e:∀b∈Qjj s,b≠a):yw s t a=a:=by
 have d:(Qjj s).findIdx (·==a)=(Qjj s).length:=List.findIdx_eq_length.2 λb c=>qE
 rw[yw,N<|by rw[d];omega]
def awn{c:UInt8}(d:a<(Qjj s).length)(b:(Qjj s)[a]?=some c)(h:∀f g,f<a->(Qjj s)[f]?=some g->g≠c):yw s t c=(Qjj t).getD a 0:=by
 have i:(Qjj s).findIdx (·==c)=a:=by
  rw[List.findIdx_eq d];rw[dy d]at b;injection b with b;refine⟨by simp[b],λe j=> ?_⟩;have:=h e (Qjj s)[e] j<|dy _;simpa using this
 rw[yw,i,G d]
def tk(la oo:ag)(l:List UInt8)(k:Nat):List UInt8:=(l.take k).map (yw la oo)++l.drop k
def Et(a:List UInt8)(b:Nat):(tk S T a b).length=a.length:=by simp[tk];omega
def Yx(a:List UInt8):tk S T a 0=a:=by simp[tk]
def Yv(a:List UInt8)(b:Nat)(c:b=a.length):tk S T a b=a.map (yw S T):=by subst c;simp[tk]
theorem Qs(b:List UInt8)(a:Nat)(c:a<b.length):(tk S T b a)[a]?=some b[a]:=by
 rw[tk,sn qB];grind
def Yw(b:List UInt8)(a:Nat)(c:a<b.length):tk S T b (a+1)=(tk S T b a).set a (yw S T b[a]):=by
 unfold tk;rw[yzj,dy c,yxg,yys,yyj _ _ qB];have d:=Dn c;rw[d];simp[yi<|yyh c,-List.getElem_cons_drop]
theorem Yc{e:Type}(b:List e)(c:Nat)(d:e)(a:b[c]?=some d):b.set c d=b:=by
 apply yyy;grind
def Sw(c:List UInt8)(b:Nat)(a:UInt8):bv (c.set b a)=(bv c).set b (.int .u8 a.toNat):=by simp[bv,List.map_set]
def auv(b:bf a w u):Below a w u:=⟨b.os,b.tape,b.output,yh b.size.symm,λc d=>b.block c Q⟩
def awv(a:UInt8):((a.toNat:Int).toNat).toUInt8=a:=qD
theorem Sn{a cap:Nat}(e:bd w a (bv r)):(convert 99 9<|aa a r.length cap).run prog w=.ok (.string<|ce r) w:=
 yyt (P:=prog) w 99 9 5 (O a 0) cap r underlying99 underlying5 underlying9 (λb c=>by
  have d:((O a 0):Addr).add b=(O a b):=by unfold Addr.add;split<;>simp_all
  rw[d];exact e.cell<|by simp[bv,dy c])
def awp(s:Cf)(a:Ed)(v:Ev)(e:ae)(c d:ag)(o:At e i s a v)(W:a.L.size<=1000000)(U:c.size=d.size)(R:c.size<=1000000):
  Calls prog 209 #[.pointer<|some ⟨i,5,none⟩,.string c,.string d] e λf M=>f=.returned (.tuple #[])/\Ok e i s v {a with L:=trans c d a.L} M:=by
 have Z:=o.xc 5;obtain⟨m,t,qa,K,L⟩:∃m t,(convert 9 99<|.string a.L).run prog e=.ok (aa e.heap.size a.L.size t) m/\bd m e.heap.size (bv<|Qjj a.L)/\Below e.heap.size e m:=
  ⟨_,_,Lib.run_convert_string_bytes (P:=prog) e 9 99 5 a.L underlying9 underlying99 underlying5,Sy e a.L,Sx e a.L⟩
 have n:Y ((Qjj a.L).length=a.L.size):=jn _;go_in;go_wp21;go_loopw [18] (λw wr=>∃(b:Nat),b<=a.L.size/\w=I b/\Y (bd wr e.heap.size<|bv<|tk c d (Qjj a.L) b)/\Y (Below e.heap.size e wr)) (λw _=>a.L.size+1-(intOf w).toNat)
 .exact⟨0,Q,rfl,by rw[Yx];exact K,L⟩
 obtain⟨b,V,rfl,j,k⟩:=hrel;by_cases z:b<a.L.size
 .have g:b<(Qjj a.L).length:=by rw[n.out];exact z
  have E:wr.cell? (O e.heap.size b)=some (.int .u8 (((Qjj a.L)[b]).toNat:Int)):=j.cell (by rw[bv,zyc,Qs _ _ _ _ g];rfl);have T:=j.frozen (k:=b) (by rw[Bk,Et,n.out];exact z);have q:Y (tk c d (Qjj a.L) (b+1)=(tk c d (Qjj a.L) b).set b (yw c d (Qjj a.L)[b])):=Yw _ _ _ _ g;have x:Y ((tk c d (Qjj a.L) b)[b]?=some (Qjj a.L)[b]):=Qs _ _ _ _ g;have C:Y (b<(bv<|tk c d (Qjj a.L) b).length):=by rw[Y,Bk,Et];exact g
  generalize(Qjj a.L)[b]=h at E q x;have F:h.toNat<256:=yxj h;have p:=λH=>Uv c h.toNat H F
  have g:=awv h;rw[g]at p;have g:=J p;obtain⟨f,y⟩|⟨p,r,f,A,B⟩:=Uw h c.data.toList
  .rw[f]at g;have u:Y (tk c d (Qjj a.L) (b+1)=tk c d (Qjj a.L) b):=by rw[Y,q.out,awm y,Yc _ _ _ x.out]
   go_wp21;go_call g as f X ⟨rfl,l⟩;subst l;go_wp21;go_roundw
   .exact⟨b+1,Q,qJ,by rw[u.out];exact j,k⟩
   simp[intOf];omega
  rw[f]at g;have S:p<c.size:=qK r
  have D:p<d.size:=Q
  have u:Y (bv (tk c d (Qjj a.L)<|b+1)=(bv<|tk c d (Qjj a.L) b).set b (.int .u8 ((d[p]).toNat:Int))):=by
   rw[Y,q.out,awn r A B,Sw];have P:p<d.data.toList.length:=qK D
   simp[Qjj,List.getD,dy P];rfl
  go_wp21;go_call g as f X ⟨rfl,l⟩;subst l;go_wp21;go_roundw
  .exact⟨b+1,Q,qJ,by rw[u.out];exact j.put b C _,k.trans<|auv xxs⟩
  simp[intOf];omega
 have r:b=a.L.size:=Q
 subst r;have x:Y (trans c d a.L=ce (tk c d (Qjj a.L) a.L.size)):=by rw[Y,Yv _ _ _ _ n.symm];rfl
 have p:=Sn (cap:=t) j;rw[Et,n.out,<-x.out]at p;have B:=(o.below k).xc 5;have A:=(o.below k).cd 5;generalize g:trans c d a.L=h at p;have q:Y (Ok e i s v {a with L:=h} (wr.setCell (O i 5)<|.string h)):=(Ok.below o k).put (λC y=>⟨(bf.refl _ _).setCell _ _,jx y.row 5 _ Q rfl⟩);have u:=J g;go_wp21;go_returns;exact⟨rfl,by rw[u.out];exact q⟩
def Br(e:Cf)(a:Ed)(f:Ev)(d:ae)(b:Nat)(c:At d i e a f):
  Calls prog 169 #[.pointer<|some ⟨i,0,none⟩,.int .i64 b] d λh j=>h=.returned (.int .i64 ((a.fv b).2:Int))/\Ok d i e f (a.fv b).1 j:=by
 have l:=c.xc 14;have k:=c.cd 14;have g:Y (a.fv b=({a with H:=b},1)):=rfl;rw[g.out];go_in;go_wp21;go_ret;exact⟨rfl,c.put xxs<|jx c.row 14 _ Q rfl⟩
def aix(e:Cf)(a:Ed)(f:Ev)(d:ae)(b:Nat)(c:At d i e a f):
  Calls prog 119 #[.pointer<|some ⟨i,0,none⟩,.int .i64 b] d λh j=>h=.returned (.int .i64 ((a.stop b).2:Int))/\Ok d i e f (a.stop b).1 j:=by
 have l:=c.xc 20;have k:=c.cd 20;have g:Y (a.stop b=({a with ck:=b},0)):=rfl;rw[g.out];go_in;go_wp21;go_ret;exact⟨rfl,c.put xxs<|jx c.row 20 _ Q rfl⟩
def Step(w:ae)(b:Nat)(cf:Cf)(v:Ev)(r:Ed×Nat)(e:Ending)(w':ae):Prop:=e=.returned (.int .i64 r.2)/\Ok w b cf v r.1 w'
def asf(g:Cf)(a:Ed)(h:Ev)(k n:Nat)(b:Cm)(r:fw)(d:ae)(l:At d i g a h)(j:ni d k n b r)(v:a.H<=1000000):
  Calls prog 121 #[.pointer<|some ⟨i,0,none⟩,.pointer<|some ⟨k,n,none⟩] d (Step d i g h<|a.fv<|if b.R=0 then b.cn else a.H+1):=by
 have p:d.cell? (O k n)=some (I b.R):=j.cell 0 _ rfl;have t:=j.cell 12 _ rfl;have u:=l.xc 14;by_cases e:b.R=0
 .rw[e]at p;have c:=Br i g a h d b.cn l;rw[G e];generalize a.fv b.cn=s at c|-;go_in;go_wp21;go_call c;rintro o q ⟨rfl,f⟩;have m:=J f;go_wp21;go_ret;exact⟨rfl,m⟩
 have w:((b.R:Int)==0)=false:=qB
 have c:=Br i g a h d (a.H+1) l;rw[N e];generalize a.fv (a.H+1)=s at c|-;go_in;go_wp21;go_call c;rintro o q ⟨rfl,f⟩;have m:=J f;go_wp21;go_ret;exact⟨rfl,m⟩
def Vs(L:Nat)(e:Int×Int):Prop:=e=(-1,-1)\/∃i j:Nat,e=((i:Int),(j:Int))/\i<=j/\j<=L
def Vc(L:Nat)(c:co):Prop:=∀e∈c,Vs L e
theorem aas{l:Nat->Nat->Nat->Prop}{k:Nat->Nat->Nat->co->co->Prop}{h:Nat}(j:∀x f a c e,f<=a->a<=h->Vc h c->k x f a c e->Vc h e):∀(i:List Nat) {f a:Nat} {c e:co},f<=a->a<=h->Vc h c->altG l k i f a c e->Vc h e
 | [],f,a,c,e,_,_,hc,g=>by rw[show e=c from g];exact hc
 |x::i,f,a,c,e,b,d,hc,g=>by
  obtain⟨_,g⟩|⟨_,g⟩:=g
  .grind
  exact aas j i b d hc g
def ag8{p:Nat->Nat->Nat->Prop}{k:Nat->Nat->Nat->co->co->Prop}{f:Nat}(j:∀x e b a c,e<=b->b<=f->Vc f a->k x e b a c->Vc f c):∀(i:List Nat) {e b:Nat} {a c:co},e<=b->b<=f->Vc f a->ik p k i e b a c->Vc f c
 | [],e,b,a,c,_,_,hc,h=>by rw[show c=a from h];exact hc
 |x::i,e,b,a,c,n,d,hc,h=>by
  let⟨q,l,g,m,o⟩:=h;exact ag8 j i g.2.1 d (j x e q a l g.1 (bq g.2.1 d) hc m) o
theorem agz{r:Nat->Nat->Nat->Prop}{n:Nat->Nat->Nat->co->co->Prop}{h i q:Nat}{o:Int}(l:∀i g b a c,g<=b->b<=h->Vc h a->n i g b a c->Vc h c):∀(f j:Nat) {g b:Nat} {a c:co},g<=b->b<=h->Vc h a->repP r n i q o f j g b a c->Vc h c
 |0,j,g,b,a,c,_,_,hc,e=>by rw[show c=a from e];exact hc
 |f+1,j,g,b,a,c,k,d,hc,e=>by
  obtain⟨_,e⟩|⟨_,u,p,m,s,t⟩:=e
  .grind
  exact agz l f (j+1) m.2.1 d (l i g u a p m.1 (bq m.2.1 d) hc s) t
def af8(h:ag)(l:List Nd):∀(f o d c:Nat)(i e:co),d<=c->c<=h.size->Vc h.size i->md h l f o d c i e->Vc h.size e
 |0,_,_,_,_,_,_,_,_,a=>a.elim
 |f+1,o,d,c,i,e,b,g,hc,a=>by
  let⟨p,n,a⟩:=a;have j:∀m d c i e,d<=c->c<=h.size->Vc h.size i->md h l f m d c i e->Vc h.size e:=λm d c i e=>af8 h l f m d c i e
  split at a
  .refine j _ d c _ e b g (λn k=> ?_) a;obtain k|k:=List.mem_or_eq_of_mem_set k
   .exact hc n k
   exact .inr ⟨d,c,k,b,g⟩
  split at a
  .exact aas j _ b g hc a
  split at a
  .exact ag8 j _ b g hc a
  split at a
  .exact agz j _ _ b g hc a
  rw[a];exact hc
def sq.vs{g f:ag}{i:Nat}{e:List (Int×Int)}(l:sq g f i e):(∃c d:Nat,e[0]?=some ((c:Int),(d:Int))/\i<=c/\c<=d/\d<=f.size)/\e.length=eo g+1/\Vc f.size e:=by
 obtain⟨c,d,j,rfl,b,k,m⟩:=l;refine⟨⟨c,d,rfl,b.1,b.2.1,b.2.2.1⟩,by rw[xv,k],λh a=> ?_⟩;obtain a|a:=vc.1 a
 .exact .inr ⟨c,d,a,b.2.1,b.2.2.1⟩
 exact af8 f _ _ _ c d (tc<|eo g) j b.2.1 b.2.2.1 (λh a=> .inl<|by simp[tc]at a;exact a.2) m h a
def Mh{b:List (Int×Int)}(f:rx w a b)(c:b[0]?=some (p,D)):w.cell? (O a 0)=some (I p)/\w.cell? (O a 1)=some (I D):=by
 let⟨d,e,_,_⟩:=f 0 p D c;exact⟨d,e⟩
def aie{c:Option (List<|Int×Int)}(d:Hu w c x a)(e:b<=a):Hu w c x b:=by
 cases c with
 |none=>exact d
 |some j=>
  let⟨f,g,h,i⟩:=d;exact⟨f,g,bq e h,i⟩
def acx(e:Mf)(E:fj e)(g c:ag)(q b:Nat)(h:Int)(a:ae)(K:Tb a g c q)(X:b<=c.size)(a4:c.size<=80):
  Calls prog 247 #[.pointer<|some ⟨q,0,none⟩,.agg #[.int .i64 h,.int .i64 b]] a λs L=>Below a.heap.size a L/\∃n,s=.returned n/\Hu L (mz e g c b) n a.heap.size:=by
 have Z:∀(l:ae),(binOp .neq 41 (.slice none 0 0)<|.slice none 0 0).run prog l=.ok (.bool false) l:=λl=>run_neq_slice_nil (P:=prog) (w:=l) _ _ none 0 0 underlying41
 have a0:∀(l:ae)(h:Addr)(D C:Nat),(binOp .neq 41 (.slice (some h) D C)<|.slice none 0 0).run prog l=.ok (.bool true) l:=λl h D C=>run_neq_slice_nil (P:=prog) (w:=l) _ _ (some h) D C underlying41
 have u:=J K;have r:=J E;have A:Y (mz e g c b=match e g c b with|some z=>if(z.getD 0 (-1,-1)).2=(b:Int)then e g c (b+1)else some z|none=>none):=rfl;clear K E;rcases f:e g c b with _|z
 .have v:=J f;have t:Y (mz e g c b=none):=by rw[Y,A.out,f]
  clear f;go_in;go_wp21;have i:=Gg e r g c q b (a.alloc<|.cells #[I h, I b] 48) (u.below<|mj a _);go_call i;rintro s m ⟨d,n,rfl,j⟩;rw[v.out]at j;obtain rfl:n=.slice none 0 0:=j;have o:=(mj a _).trans (d.mono qD);clear i d;go_wp21;go_region
  all_goals
   go_wp21;go_ret;exact⟨ss o,_,rfl,by rw[t.out];rfl⟩
 have v:=J f;let⟨⟨V,k,w,a1,a2,a3⟩,p,_⟩:=(r.sj f).vs;have F:=J w;have x:z.getD 0 (-1,-1)=((V:Int),(k:Int)):=by rw[List.getD,w];rfl
 have W:1<=z.length:=Q
 clear p;by_cases H:k=b
 .have t:Y (mz e g c b=e g c (b+1)):=by rw[Y,A.out,f];simp only;rw[x,G<|by simp[H]]
  subst H;go_in;go_wp21;have i:=Gg e r g c q k (a.alloc<|.cells #[I h, I k] 48) (u.below<|mj a _);go_call i;rintro s m ⟨d,n,rfl,j⟩;rw[v.out]at j;obtain⟨B,rfl,y,p⟩:=j;have o:=(mj a _).trans (d.mono qD);let⟨S,T⟩:=Mh p F;have U:m.cell? (O a.heap.size 1)=some (I k):=by
   rw[ac 1<|d.block a.heap.size qD];exact yya _ a.heap.size 1 #[I h, I k] 48 (0,0)<|heap_alloc_last a _
  have P:=J<|(u.below<|mj a _).below d;go_wp21;go_region
  all_goals
   go_wp21;have i:=Gg e r g c q (k+1) m.drew (P.below<|ss<|bp _ _);go_call i;rintro s a5 ⟨d,n,rfl,j⟩;have qa:=(ss o).trans<|d.mono o.size;have R:=o.size;have M:=J<|aie j R;go_wp21;go_ret;exact⟨qa,_,rfl,by rw[t.out];exact M⟩
 have t:Y (mz e g c b=some z):=by rw[Y,A.out,f];simp only;rw[x,N qB]
 have qa:((k:Int)==b)=false:=qB
 go_in;go_wp21;have i:=Gg e r g c q b (a.alloc<|.cells #[I h, I b] 48) (u.below<|mj a _);go_call i;rintro s m ⟨d,n,rfl,j⟩;rw[v.out]at j;obtain⟨B,rfl,y,p⟩:=j;have o:=(mj a _).trans (d.mono qD);let⟨S,T⟩:=Mh p F;have U:m.cell? (O a.heap.size 1)=some (I b):=by
  rw[ac 1<|d.block a.heap.size qD];exact yya _ a.heap.size 1 #[I h, I b] 48 (0,0)<|heap_alloc_last a _
 have M:a.heap.size<=B:=by simp at y;omega
 have P:=J p;go_wp21;go_region
 all_goals
  go_wp21;go_ret;exact⟨ss o,_,rfl,by rw[t.out];exact⟨B,rfl,M,P⟩⟩
def zi(t:ag)(sp:List (Int×Int))(out:List UInt8)(x:Pc):List UInt8:=
 if x.jw=-1 then out++[x.byte.toUInt8]
 else if 0<=(sp.getD x.jw.toNat (-1,-1)).1 then out++Qjj (t.extract (sp.getD x.jw.toNat (-1,-1)).1.toNat (sp.getD x.jw.toNat (-1,-1)).2.toNat)else out
def Ge(c:ag)(a:List (Int×Int)):∀(b:List Pc)(f:List UInt8),iq c a b f=b.foldl (zi c a) f
 | [],f=>rfl
 |x::b,f=>by
  rw[iq,List.foldl_cons,zi];by_cases e:x.jw=-1
  .rw[G e,G e];exact Ge c a b _
  rw[N e,N e];simp only;by_cases d:0<=(a.getD x.jw.toNat (-1,-1)).1
  .rw[G d,G d];exact Ge c a b _
  rw[N d,N d];exact Ge c a b _
def an6(a:List (Int×Int))(b:List Pc)(d:Pc)(c:List UInt8):iq S a (b++[d]) c=zi S a (iq S a b c) d:=by
 rw[Ge,Ge,yxk];rfl
def pd:(S.extract j k).size<=S.size:=by
 rw[lw];omega
def an5(a:List (Int×Int))(c:List UInt8)(b:Pc):(zi S a c b).length<=c.length+(S.size+1):=by
 unfold zi;split
 .simp
 split
 .rw[ga,jn];have:=pd S (a.getD b.jw.toNat (-1,-1)).1.toNat (a.getD b.jw.toNat (-1,-1)).2.toNat;omega
 omega
def Il(b:ag)(c:List (Int×Int)):∀(d:List Pc)(a:List UInt8),(iq b c d a).length<=a.length+d.length*(b.size+1)
 | [],a=>by simp[iq]
 |x::d,a=>by
  have f:=Il b c d<|zi b c a x;have g:=an5 b c a x;have e:iq b c (x::d) a=iq b c d (zi b c a x):=by rw[Ge,Ge];rfl
  rw[e,xv,Nat.succ_mul];omega
theorem af4:∀(a:List Pc)(b:Nat)(c:Pc),a[b]?=some c->(rq a)[b*2]?=some (I c.jw)/\(rq a)[b*2+1]?=some (.int .u8 c.byte)
 | [],b,c,h=>by simp at h
 |y::a,0,c,h=>by
  have:y=c:=qK h
  subst this;exact⟨rfl,rfl⟩
 |y::a,b+1,c,h=>by
  have d:=af4 a b c (qK h);have e:rq (y::a)=I y.jw:: .int .u8 y.byte::rq a:=rfl;grind
def ara(f:w.heap.size=a)(b:af)(d:TypeId):∀c e,[b][c]?=some e->(w.alloc<|.cells #[b] d).cell? (((O a 0):Addr).add c)=some e:=by
 subst f;exact cell_one_new w b d
def aln(a:i<256):((i.toUInt8).toNat:Int)=i:=qB
structure Qzq(B:Nat)(w wr:ae)(ov ov':af)(l:List UInt8):Prop where
 gn:Gn w wr ov ov'
 own:wr.ownsRow B 5 1 ov' l.length (bv l)
 le:B<=wr.heap.size
def Qzq.two{f wr:ae}{ov b:af}(e:Qzq a f wr ov b r)(c d:Obj):((wr.alloc c).alloc d).ownsRow a 5 1 b r.length (bv r):=(e.own.alloc c).alloc d
def Hz(a b:Obj):Below W.heap.size W ((W.alloc a).alloc b):=(mj W a).trans<|(mj _ b).mono qD
def Qzq.grown{b:Nat}{k wr j e:ae}{ov c a:af}{n d:List UInt8}(i:Qzq b k wr ov c n)(f:Below wr.heap.size wr j)(g:j.grownBy e c.ownBlock)(m:a.ownBlock=c.ownBlock\/∃h,a.ownBlock=some h/\wr.heap.size<=h)(l:e.ownsRow b 5 1 a d.length (bv d)):Qzq b k e ov a d:=
 ⟨i.gn.trans<|Gn.grown f g m,l,bq i.le<|bq f.size g.size⟩
def Qzq.tw{h wr g:ae}{ov f:af}(b:Qzq a h wr ov f r)(c:Below wr.heap.size wr g):Qzq a h g ov f r:=
 ⟨b.gn.trans<|Gn.below c λe d=> .inl d,da b.own λe d=>c.block e (b.own.lt e d).2,bq b.le c.size⟩
structure Jm(w:ae)(ov tv:af)(gj:List Pc)(ob:Nat)(sp:List (Int×Int))(L:Nat):Prop where
 own:w.ownsRow 0 293 2 tv gj.length (rq gj)
 td:∀k,ov.ownBlock=some k->tv.ownBlock≠some k
 oa:rx w ob sp
 ol:ob<w.heap.size
 od:ov.ownBlock≠some ob
 ok:∀p∈gj,(p.jw=-1/\p.byte<256)\/(0<=p.jw/\p.jw<sp.length)
 vs:Vc L sp
def Jm.gn{j wr:ae}{ov f i:af}{h:List Pc}{g:List (Int×Int)}(c:Jm j ov i h a g b)(d:Gn j wr ov f):Jm wr f i h a g b:=
 ⟨Bu d c.own c.td,Bn d c.own c.td,c.oa.cw<|d.block a c.ol c.od,ew c.ol d.size,λe=>by
  obtain e|e:=d.H a e
  .exact c.od e
  have:=c.ol;omega,c.ok,c.vs⟩
theorem an7(ov a5:af)(g:List UInt8)(c:List Pc)(f:ag)(m:Nat)(b:List (Int×Int))(k:ae)(qa:Jm k ov a5 c m b f.size)(a6:k.ownsRow i 5 1 ov g.length (bv g))(aB:i<=k.heap.size)(aL:f.size<=80)(aK:g.length<=100000000)(aJ:c.length<=1000):
  Calls prog 248 #[ov,a5,.string f,.slice (some ⟨m,0,none⟩) b.length b.length] k λe aC=>∃S,e=.returned S/\Qzq i k aC ov S (iq f b c g):=by
 let⟨a4,T,U,V,W⟩:=yyf Ei;have a9:Y (Qzq i k k ov ov g):=⟨Gn.refl _ _,a6,aB⟩;have a7:=yq qa.own;let⟨aA,a8,a⟩:=a7;have F:=J a;clear a6;rw[a];clear a;go_in;go_wp21;go_loopw [0,14] (λaD n wr=>∃(a:Nat),a<=c.length/\n=I a/\Y (Qzq i k wr ov aD<|iq f b (c.take a) g)) (λ_ n _=>c.length+1-(intOf n).toNat)
 .exact⟨0,Q,rfl,a9⟩
 obtain⟨a,aI,rfl,j⟩:=hrel;by_cases B:a<c.length
 .have h:=J<|dy B;have w:=J<|qa.ok _<|yzn B;have v:=qa.gn j.gn;let⟨P,L,e,_,_⟩:=v.own.form Q;have M:aA=some ⟨P,0,none⟩/\a8=L:=by
   have:=F;rw[e]at this;injection this with F l d;exact⟨F.symm,d.symm⟩
  obtain⟨rfl,rfl⟩:=M;have d:=v.own;rw[e]at d;let⟨l,o⟩:=af4 c a _ h;have H:wr.cell? (O P<|a*2)=some (I c[a].jw):=by rw[d.cellAt (a*2) Q];exact l
  have K:wr.cell? (O P<|a*2+1)=some (.int .u8 (c[a].byte:Int)):=by rw[d.cellAt (a*2+1) Q];exact o
  clear d l o e;have o:Y (iq f b (c.take<|a+1) g=zi f b (iq f b (c.take a) g) c[a]):=by
   rw[Y,yzj,h.out,yxg,an6]
  generalize c[a]=n at w H K o;clear h;have d:=Il f b (c.take a) g;generalize p:iq f b (c.take a) g=h at j o d;have aE:h.length<=200000000:=by
   have l:(c.take a).length<=1000:=by rw[yxb];omega
   have q:(c.take a).length*(f.size+1)<=1000*81:=yzy l Q;omega
  clear d p;let⟨X,z⟩:=n;obtain⟨p,a3⟩|⟨p,Z⟩:=w
  .simp only at p a3 H K;subst p;have t:Y (iq f b (c.take<|a+1) g=h++[z.toUInt8]):=by rw[Y,o.out];rfl
   have u:=J<|aln z a3;go_wp2_with (at_builtin;(refine wpList_append_lies _ rfl _ _ 99 rfl i 5 a4 (.int .u8 0) 1 1 underlying99 T U V W rfl Q u0 h.length (bv h) rfl (j.two _ _) ⟨wr.heap.size+1,0,none⟩ 1 1 [.int .u8 z] rfl rfl (ara qD _ _) (λn l=>by simp at l;subst l;rfl) Q qH Q (by have:=j.le;simp;omega) (wr.heap.size+2) qD ?_;intro d L R r q s x;have C:Qzq i k R ov (aa d (h.length+1) L) (h++[z.toUInt8]):=j.grown (Hz wr _ _) q (by obtain e|e:=s;exact .inl e.symm;exact .inr ⟨d,rfl,Q⟩) (by rw[aa2,ga,u.out];exact r);clear r q s));go_roundw
   .exact⟨a+1,Q,qJ,by rw[t.out];exact C⟩
   simp[intOf];omega
  simp only at p Z H K;obtain⟨d,rfl⟩:∃d:Nat,X=(d:Int):=⟨X.toNat,Q⟩;have a0:d<b.length:=Q
  have aM:((d:Int)==-1)=false:=qD
  have x:=J<|dy a0;have A:=J<|v.vs _<|yzn a0;have u:Y (iq f b (c.take<|a+1) g=if 0<=(b[d]).1 then h++Qjj (f.extract (b[d]).1.toNat (b[d]).2.toNat)else h):=by
   rw[Y,o.out];unfold zi;have l:b.getD d (-1,-1)=b[d]:=by rw[List.getD,x.out];rfl
   have M:((d:Int)).toNat=d:=qD
   simp only[M,l];rw[N]
  let⟨y,a2,_,_⟩:=v.oa d (b[d]).1 (b[d]).2 x;have a1:=v.ol;have D:∀l,(wr.alloc l).cell? (O m<|d*2)=some (I (b[d]).1):=λl=>(ac (d*2)<|im _ _ _ a1).trans y
  have E:∀l,(wr.alloc l).cell? (O m<|d*2+1)=some (I (b[d]).2):=λl=>(ac (d*2+1)<|im _ _ _ a1).trans a2
  generalize b[d]=s2 at A u D E;obtain rfl|⟨x,y,rfl,aF,aH⟩:=A
  .have t:Y (iq f b (c.take<|a+1) g=h):=by rw[Y,u.out];rfl
   simp only at D E;go_wp21;go_roundw
   .exact⟨a+1,Q,qJ,by rw[t.out];exact j.tw<|Hz wr _ _⟩
   simp[intOf];omega
  have t:Y (iq f b (c.take<|a+1) g=h++Qjj (f.extract x y)):=by rw[Y,u.out];simp
  simp only at D E;have aG:=pd f x y;go_wp2_with (at_builtin;(refine Zg _ rfl _ _ 99 9 rfl i 5 a4 underlying99 underlying9 T U V W u0 h.length (bv h) rfl (j.two _ _) (f.extract x y) rfl qH Q (by have:=j.le;simp;omega) (wr.heap.size+2) qD ?_;intro a2 R r q s;have C:Qzq i k R ov a2 (h++Qjj (f.extract x y)):=j.grown (Hz wr _ _) q (by obtain e|e:=s;all_goals simp_all) (by rw[Ic,ga,jn,<-Mn];exact r);clear r q s));go_roundw
  .exact⟨a+1,Q,qJ,by rw[t.out];exact C⟩
  simp[intOf];omega
 have h:a=c.length:=Q
 have d:Y (c.take a=c):=by rw[Y,h];exact yzc
 go_wp21;go_ret;refine⟨_,rfl,?_⟩;have:=j.out;simp_all
structure Jq(w:ae)(g o:Nat)(x:Cm)(q:fw):Prop where
 lt:g<w.heap.size
 c0:w.cell? (O g o)=some (.slice q.a3 q.l3 q.c3)
 c1:w.cell? (O g<|o+1)=some (I q.r3)
 c2:w.cell? (O g<|o+2)=some (I q.g3)
 c3:w.cell? (O g<|o+3)=some q.tv
 c4:w.cell? (O g<|o+4)=some (I x.num)
 c5:w.cell? (O g<|o+5)=some (.bool x.all)
 c6:w.cell? (O g<|o+6)=some (.bool x.kr)
 L:Pt w x.L (.slice q.a3 q.l3 q.c3) (I q.r3) (I q.g3)
 gj:w.ownsRow 0 293 2 q.tv x.gj.length (rq x.gj)
def ni.put{d:Cm}{q:fw}(c:ni w a b d q)(e:d.R=19:=by omega):Jq w a (b+14) d q:=
 ⟨c.lt,c.cell 14 _ rfl,c.cell 15 _ rfl,c.cell 16 _ rfl,c.cell 17 _ rfl,c.cell 18 _ rfl,c.cell 19 _ rfl,c.cell 20 _ rfl,c.L e,c.gj e⟩
def Jq.cells{c w':ae}{g b:Nat}{f:Cm}{h:fw}(e:Jq c g b f h)(i:w'.heap[g]?=c.heap[g]?):w'.cell? (O g<|b+3)=some h.tv/\w'.cell? (O g<|b+4)=some (I f.num)/\w'.cell? (O g<|b+5)=some (.bool f.all):=by
 have d:∀a,w'.cell? (O g a)=c.cell? (O g a):=λa=>ac a i
 exact⟨(d _).trans e.c3,(d _).trans e.c4,(d _).trans e.c5⟩
structure Rp(w wr:ae)(p t:ag)(tb:Nat)(ov:af)(out:List UInt8)(u:af)(cur:Option (List<|Int×Int)):Prop where
 below:Below w.heap.size w wr
 own:wr.ownsRow w.heap.size 5 1 ov out.length (bv out)
 sp:Hu wr cur u w.heap.size
 od:∀k,u.ownBlock=some k->ov.ownBlock≠some k
 ol:∀k,u.ownBlock=some k->k<wr.heap.size
def afp{b:List (Int×Int)}(d:rx w a b)(e:a<w.heap.size->u.heap[a]?=w.heap[a]?):rx u a b:=by
 by_cases c:a<w.heap.size
 .exact d.cw<|e c
 intro f g h i
 have:=dw w _ (d f g h i).1;exact cb this c
def Rp.grown{l wr m:ae}{ov k n:af}{u j:List UInt8}{g:Option (List<|Int×Int)}(b:Rp l wr s t a ov u n g)(d:Gn wr m ov k)(v:m.ownsRow l.heap.size 5 1 k j.length (bv j)):Rp l m s t a k j n g:=by
 refine⟨⟨d.os.trans b.below.os,d.tape.trans b.below.tape,d.output.trans b.below.output,bq b.below.size d.size,λc f=>?_⟩,v,?_,λc f q=>?_,λc f=>ew (b.ol c f) d.size⟩
 .rw[d.block c (ew f b.below.size) (λe=>by have:=(b.own.lt c e).1;omega),b.below.block c f]
 .have h:=b.sp;have hd:=b.od
  revert h
  cases g with
  |none=>exact λh=>h
  |some x=>
   rintro⟨i,rfl,o,p⟩;exact⟨i,rfl,o,afp p λr=>d.block i r<|hd i rfl⟩
 obtain e|e:=d.H c q
 .exact b.od c f e
 have:=b.ol c f;omega
def Rp.next{m wr h:ae}{ov u u2:af}{cur f:Option (List<|Int×Int)}(g:Rp m wr s t a ov r u cur)(k:Below wr.heap.size wr h)(c:Hu h f u2 wr.heap.size)(q:∀e,f=some e->e≠[]):Rp m h s t a ov r u2 f:=by
 have l:=g.below.size;refine⟨g.below.trans<|k.mono l,da g.own λd b=>k.block d (g.own.lt d b).2,?_,λd b p=>?_,λd b=>?_⟩
 .exact aie c l
 .have n:=(g.own.lt d p).2
  revert c
  cases f with
  |none=>intro c;rw[show u2=.slice none 0 0 from c]at b;cases b
  |some e=>
   rintro⟨i,rfl,o,j⟩;have b:i=d:=by simpa[Value.ownBlock]using b
   omega
 revert c
 cases f with
 |none=>intro c;rw[show u2=.slice none 0 0 from c]at b;cases b
 |some e=>
  rintro⟨i,rfl,o,j⟩;have b:i=d:=by simpa[Value.ownBlock]using b
  subst b;have v:=q e rfl;cases e with
  |nil=>exact cb rfl v
  |cons n e=>
   let⟨x,y⟩:=n;exact dw h _ (j 0 x y rfl).1
def qn(cur:Option (List<|Int×Int)):Nat:=match cur with
 |none=>0
 |some sp=>(sp.getD 0 (-1,-1)).2.toNat
theorem Le{h:Mf}(j:fj h){d:List (Int×Int)}(b:mz h s t a=some d):a<qn (some d)/\qn (some d)<=t.size:=by
 unfold mz at b;rcases hf:h s t a with _|f
 .grind
 rw[hf]at b;simp only at b;let⟨⟨l,e,m,o,p,q⟩,_,_⟩:=(j.sj hf).vs;have i:f.getD 0 (-1,-1)=((l:Int),(e:Int)):=by rw[List.getD,m];rfl
 rw[i]at b;split at b
 .let⟨⟨g,c,k,r,u,v⟩,_,_⟩:=(j.sj b).vs;have n:d.getD 0 (-1,-1)=((g:Int),(c:Int)):=by rw[List.getD,k];rfl
  simp only[qn,n];omega
 rename_i c;cases b
 simp only[qn,i];omega
theorem Vz{c:Mf}(d:fj c){f:List (Int×Int)}(b:mz c s t a=some f):∃g,a<=g/\sq s t g f:=by
 unfold mz at b;rcases hf:c s t a with _|e
 .grind
 rw[hf]at b;simp only at b;split at b
 .exact⟨a+1,Q,d.sj b⟩
 cases b
 exact⟨a,ah,d.sj hf⟩
def Xe(g:Mf)(f:Cm)(a:ag)(c d b:Nat)(e:List UInt8):replL g f a c none d b e=(e++Qjj (a.extract b a.size),d):=by
 cases c<;>rfl
theorem Xf(d:Mf)(b:Cm)(a:ag)(i:Nat)(f:List (Int×Int))(e g:Nat)(h:List UInt8)(j c:Nat)(k:f.getD 0 (-1,-1)=((j:Int),(c:Int))):
  replL d b a (i+1) (some f) e g h=if e+1<b.num then replL d b a i (mz d b.L a c) (e+1) g h else if b.all=true then replL d b a i (mz d b.L a c) (e+1) c (iq a f b.gj<|h++Qjj (a.extract g j))else(iq a f b.gj (h++Qjj (a.extract g j))++Qjj (a.extract c a.size),e+1):=by
 rw[replL];grind
def Uc{b:List (Int×Int)}(c:sq s t a b):b≠[]:=by
 obtain⟨d,e,f,rfl,_⟩:=c;simp
structure Lp(mf:Mf)(x:Cm)(t:ag)(R:List UInt8×Nat)(cur:Option (List<|Int×Int))(n d f:Nat)(out:List UInt8):Prop where
 eq:replL mf x t f cur n d out=R
 Kf:d<=t.size
 Wb:n<=81
 Li:out.length<=n*33000
 cur:∀sp,cur=some sp->(∃pl,d<=pl/\sq x.L t pl sp)/\n<=qn (some sp)/\qn (some sp)<=t.size/\t.size<qn (some sp)+f
theorem atm(f:Mf)(b4:fj f)(a:ag)(l L:Nat)(b:Cm)(aG:fw)(X:ae)(w:Jq X l L b aG)(a8:a.size<=80)(cA:b.num<=9)(b5:∀W∈b.gj,(W.jw=-1/\W.byte<256)\/(0<=W.jw/\W.jw<=eo b.L))(bK:b.gj.length<=400):
  Calls prog 234 #[.string a,.pointer<|some ⟨l,L,none⟩] X λe c9=>Below X.heap.size X c9/\e=.returned (.tuple #[.string (sf f b a).1,.bool (sf f b a).2]):=by
 let⟨aH,aI,aJ,aK,aL⟩:=yyf Ei;have cC:∀(s:ae),(binOp .neq 41 (.slice none 0 0)<|.slice none 0 0).run prog s=.ok (.bool false) s:=λs=>run_neq_slice_nil (P:=prog) (w:=s) _ _ none 0 0 underlying41
 have cE:∀(s:ae)(b:Addr)(h aM:Nat),(binOp .neq 41 (.slice (some b) h aM)<|.slice none 0 0).run prog s=.ok (.bool true) s:=λs b h aM=>run_neq_slice_nil (P:=prog) (w:=s) _ _ (some b) h aM underlying41
 have H:=J b4;have bL:=J b5;have M:=w.lt;have j:=w.c0;have b6:=w.c1;have b7:=w.c2;clear b4 b5;obtain⟨t,g⟩:∃t,Y (replL f b a (a.size+3) (f b.L a 0) 0 0 []=t):=⟨_,rfl⟩;have b8:Y (sf f b a=(ce t.1,decide (b.num<=t.2))):=by rw[Y,<-g.out];rfl
 go_in;go_wp21;have p:=Vo b.L a _ _ _ X w.L a8;go_call p;rintro e y ⟨qa,rfl,d,c⟩;have aN:=J d;have z:=c;clear p d c j b6 b7;go_wp21;have p:=Gg f H b.L a qa 0 y aN;go_call p;rintro e bM ⟨c,bN,rfl,k⟩;have b9:Rp y bM b.L a qa (.slice none 0 0) [] bN (f b.L a 0):=Rp.next (cur:=none) (u:=.slice none 0 0) ⟨bp _ _,yyc y _ _ 1,rfl,(λj u=>by cases u),(λj u=>by cases u)⟩ c k<|λi a9=>Uc<|H.sj a9
 have bA:Y (Lp f b a t (f b.L a 0) 0 0 (a.size+3) []):=⟨g,Q,Q,qD,λi a9=>by
  let⟨⟨o,d,R,aA,P,bD⟩,_,_⟩:=(H.sj a9).vs;have Z:i.getD 0 (-1,-1)=((o:Int),(d:Int)):=by rw[List.getD,R];rfl
  refine⟨⟨0,ah,H.sj a9⟩,?_⟩;simp only[qn,Z];omega⟩
 clear p c k;generalize c:f b.L a 0=bO at b9 bA;clear c g;go_wp21;go_loopw [7,8,9,10] (λbP aO bQ bR wr=>∃(h g aB:Nat)(c:List UInt8)(aC:Option (List<|Int×Int)),aO=I h/\bQ=I g/\Y (Rp y wr b.L a qa bP c bR aC)/\Y (Lp f b a t aC h g aB c)) (λ_ aO _ _ _=>100-(intOf aO).toNat)
 .exact⟨0,0,a.size+3,[],bO,rfl,rfl,b9,bA⟩
 obtain⟨h,g,aB,c,aC,rfl,rfl,v,S⟩:=hrel;have T:=z.trans<|v.below.mono z.size;have bS:=S.Li;have b6:=S.Wb;have hd:=S.Kf;have b7:c.length<=2673000:=bq bS Q;obtain _|i:=aC
 .have aP:u10=.slice none 0 0:=v.sp;have q:Y (t=(c++Qjj (a.extract g a.size),h)):=by rw[Y,<-S.out.eq,Xe]
  subst aP;go_wp21;let⟨K,B,C⟩:=w.cells (w':=wr)<|(T).block l M;clear K C;have bT:=pd a g a.size;have aQ:wr.drew.cell? (O l<|L+4)=some (I b.num):=B;go_region_held_law (λs=>s.cell? (O l<|L+4)=some (I b.num)) (first|exact aQ|exact aR)
   ((refine aiv _ (by rfl) _ _ 99 9 (by rfl) y.heap.size 5 aH underlying99 underlying9 aI aJ aK aL u7 c.length (bv c) (by rfl) (v.own.drew) (a.extract g a.size) (by rfl) qH Q (by have:=v.below.size;simp;omega) wr.heap.size qD ?_;intro aS a0 a1 k aT;have aU:=Nz y.heap.size aS (c++Qjj (a.extract g a.size)) a0 (by rw[Ic,ga,jn,<-Mn];exact a1);have aR:=(ac (L+4)<|k.block l (ew M (T).size) (λe=>by have:=(v.own.lt l e.symm).1;have:=z.size;omega)).trans B;have aV:=(T).trans ⟨k.os,k.tape,k.output,(by have:=(T).size;exact k.size),λj u=>k.block j (ew u (T).size) (λe=>by have:=(v.own.lt j e.symm).1;have:=z.size;omega)⟩;generalize a2:ce (c++Qjj (a.extract g a.size))=bU at aU;have aW:=J a2;clear a1 k aT a2))
  all_goals go_wp21
  all_goals go_ret2
  all_goals exact⟨aV,by rw[b8.out,<-aW.out];rw[q.out];simp⟩
 let⟨⟨aX,bV,x⟩,bW,bX,bY⟩:=S.out.cur i rfl;let⟨⟨o,d,R,bZ,cF,aY⟩,r,n⟩:=x.vs;have Z:i.getD 0 (-1,-1)=((o:Int),(d:Int)):=by rw[List.getD,R];rfl
 have F:qn (some i)=d:=by simp only[qn,Z];simp
 rw[F]at bW bX bY;have cG:=bq bV bZ;obtain⟨A,rfl⟩:∃A,aB=A+1:=⟨aB-1,Q⟩;let⟨U,aP,_,m⟩:=v.out.sp;subst aP;have cH:=J m;have cI:=v.ol U rfl;let⟨bE,bF⟩:=Mh m R;have c0:=J R;have c1:=J n;have c2:=J r;have cJ:1<=i.length:=Q
 have aD:Y (∀q,mz f b.L a d=some q->(∃aX,d<=aX/\sq b.L a aX q)/\d<qn (some q)/\qn (some q)<=a.size):=λq D=>⟨Vz H D,Le H D⟩
 have aE:Y (t=if h+1<b.num then replL f b a A (mz f b.L a d) (h+1) g c else if b.all=true then replL f b a A (mz f b.L a d) (h+1) d (iq a i b.gj<|c++Qjj (a.extract g o))else(iq a i b.gj (c++Qjj (a.extract g o))++Qjj (a.extract d a.size),h+1)):=by
  rw[Y,<-S.out.eq];exact Xf f b a A i h g c o d Z
 let⟨K,B,C⟩:=w.cells (w':=wr)<|T.block l M;clear m R n r Z F x;by_cases a3:h+1<b.num
 .have a4:Y (t=replL f b a A (mz f b.L a d) (h+1) g c):=by rw[Y,aE.out,G a3]
  have c3:decide (h+1<b.num)=true:=qK a3
  have c4:decide ((h:Int)+1<(b.num:Int))=true:=qB
  have p:=acx f H b.L a qa d (o:Int) wr (aN.below v.below) aY a8;go_wp21;go_call p;rintro e w3 ⟨a5,u3,rfl,a6⟩;clear p;have aZ:=v.next a5 a6 (λq D=>by let⟨⟨a7,_,b0⟩,_⟩:=aD.out q D;exact Uc b0)
  have b1:Y (Lp f b a t (mz f b.L a d) (h+1) g A c):=⟨a4.symm,hd,Q,Q,λq D=>by
   let⟨⟨a7,aA,P⟩,bD,b2⟩:=aD.out q D;exact⟨⟨a7,Q,P⟩,Q,b2,Q⟩⟩
  clear a5 a6;go_wp21;go_roundw
  .exact⟨h+1,g,A,c,_,qJ,rfl,aZ,b1⟩
  simp[intOf];omega
 have c3:decide (h+1<b.num)=false:=qK a3
 have c4:decide ((h:Int)+1<(b.num:Int))=false:=qB
 have cK:=pd a g o;have bG:Y (∀j,aG.tv.ownBlock=some j->j<X.heap.size):=λj u=>(w.gj.lt j u).2
 go_wp2_with (at_builtin;(refine Zg _ rfl _ _ 99 9 rfl y.heap.size 5 aH underlying99 underlying9 aI aJ aK aL u7 c.length (bv c) rfl v.own (a.extract g o) rfl qH Q v.below.size wr.heap.size rfl ?_;intro b3 aF m r n;have c5:=Gn.grown (bp _ _) r (by obtain e|e:=n;exact .inl e;simp_all);have x:Rp y aF b.L a qa b3 (c++Qjj (a.extract g o)) (aa U i.length i.length) (some i):=v.grown c5 (by rw[Ic,ga,jn,<-Mn];exact m);clear m r n bE bF K B C;have bH:=z.trans<|x.below.mono z.size;let⟨K,B,C⟩:=w.cells (w':=aF)<|bH.block l M));have bI:Y (Jm aF b3 aG.tv b.gj U i a.size):=⟨da w.gj λj u=>bH.block j<|bG j u,λj u c6=>by have aA:=bG j c6;have P:=(x.own.lt j u).1;have:=z.size;omega,by let⟨cM,r,_,P⟩:=x.sp;simp_all,x.ol U rfl,x.od U rfl,λW c7=>by have:=bL W c7;have:=c2.out;omega,c1⟩;have cN:(c++Qjj (a.extract g o)).length<=2673100:=by rw[ga,jn];omega
 have n:=Il a i b.gj<|c++Qjj (a.extract g o);have p:=an7 y.heap.size b3 aG.tv (c++Qjj (a.extract g o)) b.gj a U i aF bI x.own x.below.size a8 Q Q;have bJ:(iq a i b.gj<|c++Qjj (a.extract g o)).length<=(h+1)*33000:=by
  have aA:b.gj.length*(a.size+1)<=400*81:=yzy bK Q;rw[ga,jn]at n;omega
 generalize iq a i b.gj (c++Qjj (a.extract g o))=m at p bJ aE;clear n;go_call p;rintro e F ⟨c8,rfl,E⟩;clear p;have n:=x.grown E.gn E.own;have V:=z.trans<|n.below.mono z.size;let⟨bE,bF⟩:=Mh (bI.gn E.gn).oa c0;clear E K B C;let⟨K,B,C⟩:=w.cells (w':=F)<|V.block l M;obtain E|E:=df b.all
 .have a4:Y (t=replL f b a A (mz f b.L a d) (h+1) d m):=by rw[Y,aE.out,N a3,G E]
  rw[E]at C;have p:=acx f H b.L a qa d (o:Int) F (aN.below n.below) aY a8;go_wp21;go_call p;rintro e w3 ⟨a5,u3,rfl,a6⟩;clear p;have aZ:=n.next a5 a6 (λq D=>by let⟨⟨a7,_,b0⟩,_⟩:=aD.out q D;exact Uc b0)
  have b1:Y (Lp f b a t (mz f b.L a d) (h+1) d A m):=⟨a4.symm,aY,Q,bJ,λq D=>by
   let⟨⟨a7,aA,P⟩,bD,b2⟩:=aD.out q D;exact⟨⟨a7,Q,P⟩,Q,b2,Q⟩⟩
  clear a5 a6;go_wp21;go_roundw
  .exact⟨h+1,d,A,m,_,qJ,rfl,aZ,b1⟩
  simp[intOf];omega
 have a4:Y (t=(m++Qjj (a.extract d a.size),h+1)):=by rw[Y,aE.out,N a3,N<|by rw[E];simp]
 rw[E]at C;have cP:m.length<=2706000:=Q
 go_wp21;let⟨K,B,C⟩:=w.cells (w':=F)<|(V).block l M;clear K C;have bT:=pd a d a.size;have aQ:F.drew.cell? (O l<|L+4)=some (I b.num):=B;go_region_held_law (λs=>s.cell? (O l<|L+4)=some (I b.num)) (first|exact aQ|exact aR)
  ((refine aiv _ (by rfl) _ _ 99 9 (by rfl) y.heap.size 5 aH underlying99 underlying9 aI aJ aK aL c8 (m).length (bv<|m) (by rfl) (n.own.drew) (a.extract d a.size) (by rfl) qH Q (by have:=n.below.size;simp;omega) F.heap.size qD ?_;intro aS a0 a1 k aT;have aU:=Nz y.heap.size aS (m++Qjj (a.extract d a.size)) a0 (by rw[Ic,ga,jn,<-Mn];exact a1);have aR:=(ac (L+4)<|k.block l (ew M (V).size) (λe=>by have:=(n.own.lt l e.symm).1;have:=z.size;omega)).trans B;have aV:=(V).trans ⟨k.os,k.tape,k.output,(by have:=(V).size;exact k.size),λj u=>k.block j (ew u (V).size) (λe=>by have:=(n.own.lt j e.symm).1;have:=z.size;omega)⟩;generalize a2:ce (m++Qjj (a.extract d a.size))=bU at aU;have aW:=J a2;clear a1 k aT a2))
 all_goals go_wp21
 all_goals go_ret2
 all_goals exact⟨aV,by rw[b8.out,<-aW.out];rw[a4.out];simp;omega⟩
