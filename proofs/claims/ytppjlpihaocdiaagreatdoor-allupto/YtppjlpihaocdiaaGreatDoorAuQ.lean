import Derived.Lib.LaidTab
import Derived.Test.YtppjlpihaocdiaaGreatDoorAoQ
import Derived.Test.YtppjlpihaocdiaaGreatDoorAqQ
set_option linter.all false
set_option maxRecDepth 100000
set_option maxHeartbeats 16000000
namespace Go.Proofs.YtppjlpihaocdiaaGreatDoor
open Go.RowKit Go.Proofs.Tryz
variable{w u v:ae}{a b c d e:Nat}{s t:ag}{x y z:af}{p D:Int}{l:List af}{f:Bool}{g:List Nat}{h:Nat->Prop}{o:Option Addr}{r:List UInt8}{A:Nat->Bool}{B:Nat->Nat->Bool}{C:Nat->Nat->Prop}(i:Nat)(S T:ag)(V X:af)(j k m n:Nat)(Z:Int)(W:ae)
def bv(l:List UInt8):List af:=l.map λb=>Value.int .u8 b.toNat
def sv(l:List ag):List af:=l.map Value.string
def ov(l:List Bool):List af:=l.map Value.bool
structure Ev where
 nx:af
 ot:af
 cg:af
 cm:af
 op:af
def pb(cf:Cf)(E:Ed)(v:Ev):List af:=
 [I cf.line,v.nx,.bool E.whole,.bool E.dq,I E.number,.string E.L,I cf.space,.string E.bt,I cf.space,v.ot,I E.ca,v.cg,v.cm,v.op,
  I E.H,I E.bg,I E.cx,I cf.dt,.bool E.put,.bool cf.quiet,I E.ck]
def Eb(b:Cf)(a:Ed)(c:Ev):(pb b a c).length=21:=rfl
def ib(b:Nat)(v:Ev)(k:Nat):Prop:=k=b\/v.nx.ownBlock=some k\/v.ot.ownBlock=some k\/v.cg.ownBlock=some k\/v.op.ownBlock=some k
structure aj0(b:Nat)(v:Ev):Prop where
 b1:v.nx.ownBlock≠some b
 b2:v.ot.ownBlock≠some b
 b3:v.cg.ownBlock≠some b
 b4:v.op.ownBlock≠some b
 d12:∀k,v.nx.ownBlock=some k->v.ot.ownBlock≠some k
 d13:∀k,v.nx.ownBlock=some k->v.cg.ownBlock≠some k
 d14:∀k,v.nx.ownBlock=some k->v.op.ownBlock≠some k
 d23:∀k,v.ot.ownBlock=some k->v.cg.ownBlock≠some k
 d24:∀k,v.ot.ownBlock=some k->v.op.ownBlock≠some k
 d34:∀k,v.cg.ownBlock=some k->v.op.ownBlock≠some k
def Tw(w:ae)(X:Nat->Prop):Prop:=Lib.TabIs prog w "internal/strconv.uint64pow10" .u64 Lib.pow10Tab/\∀g,prog.globalNamed "internal/strconv.uint64pow10" =some g->g<w.heap.size/\¬X g
theorem Tw.keep{f w':ae}{g X':Nat->Prop}(k:Tw f g)(i:∀b,b<f.heap.size->¬g b->w'.heap[b]? =f.heap[b]?)(j:f.heap.size<=w'.heap.size)(l:∀b,X' b->g b\/f.heap.size<=b):Tw w' X':=by
 obtain ⟨h,d⟩:=k;refine ⟨?_,fun a c=>⟨ew (d a c).1 j,fun m=> ?_⟩⟩
 .unfold Lib.TabIs at h ⊢;rw [←h];unfold World.var?;cases c:prog.globalNamed "internal/strconv.uint64pow10" with
  |none=>rfl
  |some a=>grind
 grind
def Mt(w:ae)(X:Nat->Prop)(cm:af)(cs:List Cm):Prop:=
 ∃xs,w.ownsRow 0 200 23 cm cs.length xs/\(∀g,cm.ownBlock=some g->¬X g)/\∀(k:Nat)(x:Cm),cs[k]?=some x->
  ∃l h q,h<=w.heap.size/\(∀j,l<j->j<h->¬X j)/\mq w l h x q/\∀o u,(ff x q)[o]?=some u->xs[k*23+o]?=some u
def zy(w:ae)(X:Nat->Prop)(cm:af)(cs:List Cm):Prop:=Tw w X/\Mt w X cm cs
structure At(w:ae)(b:Nat)(cf:Cf)(E:Ed)(v:Ev):Prop where
 row:bd w b (pb cf E v)
 nx:w.ownsRow 0 5 1 v.nx E.next.length (bv E.next)
 ot:w.ownsRow 0 5 1 v.ot E.out.length (bv E.out)
 cg:w.ownsRow 0 9 1 v.cg E.cy.length (sv E.cy)
 op:w.ownsRow 0 4 1 v.op E.bo.length (ov E.bo)
 cm:zy w (ib b v) v.cm cf.U
 ap:aj0 b v
structure Fe(b:Nat)(v v':Ev)(w w':ae):Prop where
 os:w'.os=w.os
 tape:w'.tape=w.tape
 output:w'.output=w.output
 size:w.heap.size<=w'.heap.size
 block:∀k,k<w.heap.size->¬ib b v k->w'.heap[k]?=w.heap[k]?
 rp:∀k,ib b v' k->ib b v k\/w.heap.size<=k
 cm:v'.cm=v.cm
def Fe.refl(a:Ev)(b:ae):Fe i a a b b:=⟨rfl,rfl,rfl,ah,λ_ _ _=>rfl,λ_ c=> .inl c,rfl⟩
theorem Fe.trans{b:Nat}{j k g:Ev}{i l m:ae}(a:Fe b j k i l)(c:Fe b k g l m):Fe b j g i m:=by
 refine⟨c.os.trans a.os,c.tape.trans a.tape,c.output.trans a.output,bq a.size c.size,λd f h=>?_,λd f=>?_,c.cm.trans a.cm⟩
 .refine(c.block d (ew f a.size)<|λn=>?_).trans<|a.block d f h;obtain e|e:=a.rp d n
  all_goals grind
 obtain e|e:=c.rp d f
 .exact a.rp d e
 exact .inr<|bq a.size e
def Fe.drewN{c d:Ev}(b:Fe a c d w u)(e:Nat):Fe a c d w (u.drewN e):=⟨b.os,b.tape,b.output,b.size,b.block,b.rp,b.cm⟩
theorem Mt.keep{c w':ae}{d X':Nat->Prop}{m:af}{l:List Cm}(z:Mt c d m l)(n:∀a,a<c.heap.size->¬d a->w'.heap[a]?=c.heap[a]?)(o:c.heap.size<=w'.heap.size)(p:∀a,X' a->d a\/c.heap.size<=a):Mt w' X' m l:=by
 let⟨xs,f,q,D⟩:=z;have x:=f;refine⟨xs,da f λa r=>n a (f.lt a r).2<|q a r,λh k g=>?_,λa C y=>?_⟩
 .obtain e|e:=p h g
  .exact q h k e
  have:=(x.lt h k).2;omega
 let⟨A,u,B,s,t,v,w⟩:=D a C y;refine⟨A,u,B,bq s o,λb i j g=>?_,v.keep ⟨λb i j=>n b Q<|t b i j,bq s o⟩,w⟩;grind
def zy.keep{b w':ae}{c X':Nat->Prop}{d:af}{g:List Cm}(i:zy b c d g)(e:∀a,a<b.heap.size->¬c a->w'.heap[a]?=b.heap[a]?)(f:b.heap.size<=w'.heap.size)(h:∀a,X' a->c a\/b.heap.size<=a):zy w' X' d g:=⟨i.1.keep e f h,i.2.keep e f h⟩
def At.lt{b:ae}{a:Nat}{d:Cf}{c:Ed}{f:Ev}(e:At b a d c f):a<b.heap.size:=e.row.lt (by rw[Eb];omega)
def At.tw{g:Cf}{f:Ed}{h:Ev}(c:At w a g f h)(i:w.heap.size<=u.heap.size)(e:∀b,b<w.heap.size->u.heap[b]?=w.heap[b]?):At u a g f h:=
 ⟨c.row.cw<|e a c.lt,da c.nx λb d=>e b (c.nx.lt b d).2,da c.ot λb d=>e b (c.ot.lt b d).2,da c.cg λb d=>e b (c.cg.lt b d).2,da c.op λb d=>e b (c.op.lt b d).2,c.cm.keep (λb d _=>e b d) i<|λb d=> .inl d,c.ap⟩
def At.drewN{c:Cf}{b:Ed}{d:Ev}(e:At w a c b d)(f:Nat):At (w.drewN f) a c b d:=e.tw ah<|λ_ _=>rfl
def At.drew{c:Cf}{b:Ed}{d:Ev}(e:At w a c b d):At w.drew a c b d:=e.tw ah<|λ_ _=>rfl
def Fe.below{e:Ev}(b:Below w.heap.size w u):Fe a e e w u:=⟨b.os,b.tape,b.output,b.size,λd c _=>b.block d c,λd c=> .inl c,rfl⟩
def At.below{d:Cf}{b:Ed}{e:Ev}(f:At w a d b e)(c:Below w.heap.size w u):At u a d b e:=f.tw c.size c.block
def Ok(w:ae)(b:Nat)(cf:Cf)(v:Ev)(E':Ed)(w':ae):Prop:=∃v',At w' b cf E' v'/\Fe b v v' w w'
def Ok.refl{b:ae}{d:Nat}{e:Cf}{c:Ed}{a:Ev}(f:At b d e c a):Ok b d e a c b:=⟨a,f,Fe.refl _ _ _⟩
def Ok.drewN{f g:ae}{c:Nat}{d:Cf}{b:Ed}{e:Ev}(k:Ok f c d e b g)(a:Nat):Ok f c d e b (g.drewN a):=by
 let⟨h,i,j⟩:=k;exact⟨h,i.drewN a,j.drewN a⟩
def At.put{j:Cf}{g E':Ed}{h:Ev}(e:At w a j g h)(c:bf a w u)(l:bd u a (pb j E' h))(m:E'.next=g.next:=by rfl)(i:E'.out=g.out:=by rfl)(n:E'.cy=g.cy:=by rfl)(o:E'.bo=g.bo:=by rfl):Ok w a j h E' u:=by
 have d:∀b,¬ib a h b->u.heap[b]?=w.heap[b]? :=λb d=>c.block b<|λf=>d<|.inl f
 refine⟨h,⟨l,?_,?_,?_,?_,?_,e.ap⟩,⟨c.os,c.tape,c.output,yh c.size.symm,λb _ k=>d b k,λb d=> .inl d,rfl⟩⟩
 .rw[m];exact da e.nx λb d=>c.block b<|λf=>e.ap.b1<|by rw[<-f];exact d
 .rw[i];exact da e.ot λb d=>c.block b<|λf=>e.ap.b2<|by rw[<-f];exact d
 .rw[n];exact da e.cg λb d=>c.block b<|λf=>e.ap.b3<|by rw[<-f];exact d
 .rw[o];exact da e.op λb d=>c.block b<|λf=>e.ap.b4<|by rw[<-f];exact d
 exact e.cm.keep (λb _ k=>d b k) (yh c.size.symm)<|λb d=> .inl d
theorem jx{b:Cf}{E e:Ed}{f g:Ev}(j:bd w a (pb b E f))(c:Nat)(d:af)(h:c<21)(i:(pb b E f).set c d=pb b e g):bd (w.setCell (O a c) d) a (pb b e g):=by
 have:=j.put c (by rw[Eb];exact h) d;grind
def Ok.trans{i e g:ae}{b:Nat}{a:Cf}{f c:Ed}{h:Ev}(n:Ok i b a h f e)(p:∀d,At e b a f d->Ok e b a d c g):Ok i b a h c g:=by
 let⟨d,k,l⟩:=n;let⟨j,m,o⟩:=p d k;exact⟨j,m,l.trans o⟩
def yq{d:TypeId}{xs:List af}(h:w.ownsRow a d b x c xs):∃e f,x=.slice e c f:=by
 obtain⟨d,g⟩|⟨j,i,_,d,_⟩:=h.2
 .exact⟨none,0,by rw[d,g]⟩
 exact⟨_,_,d⟩
def At.cell{e:ae}{b:Nat}{c:Cf}{a:Ed}{d:Ev}(h:At e b c a d){k:Nat}{f:af}(g:(pb c a d)[k]?=some f):e.cell? (O b k)=some f:=h.row.cell g
def At.xc{e:ae}{b:Nat}{c:Cf}{a:Ed}{d:Ev}{f:af}(h:At e b c a d)(k:Nat)(g:(pb c a d)[k]?=some f:=by exact rfl):e.cell? (O b k)=some f:=h.row.cell g
def At.cd{e:Cf}{c:Ed}{g:Ev}(f:At w a e c g)(b:Nat)(d:b<21:=by omega):w.frozen? (O a b)=false:=f.row.frozen (by rw[Eb];exact d)
def Qzt(w:ae)(x:af)(e:Ending)(w':ae):Prop:=e=.returned x/\∃n,w'=w.drewN n
def Yy(b:Cf)(a:Ed)(m:Ev)(h:ae)(c:At h i b a m):Calls prog 165 #[.pointer<|some ⟨i,0,none⟩] h (Qzt h<|.bool<|a.sk b):=by
 have o:=c.xc 0;have j:=c.xc 1;let⟨p,n,g⟩:=yq c.nx;rw[g]at j;have d:Y (a.sk b=decide (b.line<a.next.length)):=rfl;by_cases e:b.line<a.next.length
 .have f:Y (a.sk b=true):=by rw[Y,d.out];simpa using e
  have l:decide (b.line<a.next.length)=true:=qB
  go_in;go_wp21;go_region;go_wp21;go_ret;exact⟨(by rw[f.out];rfl),1,rfl⟩
 have f:Y (a.sk b=false):=by rw[Y,d.out];simpa using e
 have l:decide (b.line<a.next.length)=false:=qB
 go_in;go_wp21;go_region;go_wp21;go_ret;exact⟨(by rw[f.out];rfl),1,rfl⟩
def Kx(n:Cf)(E:Ed)(p:Ev)(h:ae)(c:At h i n E p):Calls prog 116 #[.pointer<|some ⟨i,0,none⟩] h (Qzt h<|.tuple #[.bool E.more,.bool E.known]):=by
 have j:=c.xc 1;have o:=c.xc 2;have q:=c.xc 3;let⟨s,t,f⟩:=yq c.nx;rw[f]at j;have a:Y (E.more=(E.whole||decide (E.next≠[]))):=rfl;have e:Y (E.known=(E.more||E.dq)):=rfl;have g:decide (E.next≠[])=decide (0<E.next.length):=by
  rw[decide_eq_decide,List.length_pos_iff]
 have b:=J g;generalize E.next.length=g at j b
 generalize k:E.whole=f at o a;generalize l:E.dq=r at q e;clear k l;have k:Y (E.more=(f||decide (0<g))):=by rw[Y,a.out,b.out]
 clear a b;by_cases l:0<g
 .have m:decide ((g:Int)>0)=true:=qB
  have a:Y (E.more=true):=by rw[Y,k.out];simp[l]
  have b:Y (E.known=true):=by rw[Y,e.out,a.out];rfl
  obtain d|d:=df f<;>subst d
  all_goals (
   go_in;go_wp21;go_region
   all_goals go_wp21
   all_goals go_ret2
   all_goals exact⟨(by rw[a.out,b.out];rfl),1,rfl⟩)
 have a:Y (E.more=f):=by rw[Y,k.out];simp[l]
 obtain d|d:=df f<;>subst d
 .have b:Y (E.known=true):=by rw[Y,e.out,a.out];rfl
  go_in;go_wp21;go_region
  all_goals go_wp21
  all_goals go_ret2
  all_goals exact⟨(by rw[a.out,b.out];rfl),1,rfl⟩
 have b:Y (E.known=r):=by rw[Y,e.out,a.out];rfl
 go_in;go_wp21;go_region
 all_goals go_wp21
 all_goals go_ret2
 all_goals exact⟨(by rw[a.out,b.out];rfl),1,rfl⟩
def Jv(a:Cf)(E:Ed)(h:Ev)(g:ae)(f:At g i a E h):Calls prog 115 #[.pointer<|some ⟨i,0,none⟩] g (Qzt g<|.bool<|E.mh a):=by
 have k:=f.xc 2;have l:=f.xc 3;have c:Y (E.mh a=(E.whole||E.dq||E.sk a)):=rfl;generalize b:E.whole=m at k c;generalize j:E.dq=o at l c;obtain d|d:=df m<;>subst d
 .have b:Y (E.mh a=true):=by rw[Y,c.out];rfl
  go_in;go_wp21;go_ret;exact⟨(by rw[b.out];rfl),0,rfl⟩
 obtain d|d:=df o<;>subst d
 .have b:Y (E.mh a=true):=by rw[Y,c.out];rfl
  go_in;go_wp21;go_ret;exact⟨(by rw[b.out];rfl),0,rfl⟩
 have b:Y (E.mh a=E.sk a):=by rw[Y,c.out];rfl
 go_in;go_wp21;go_call Yy as e r ⟨rfl,n,rfl⟩;go_wp21;go_ret;exact⟨(by rw[b.out];rfl),n,rfl⟩
def ai2(h:Cf)(a:Ed)(m:Ev)(f:ae)(e:At f i h a m):Calls prog 48 #[.pointer<|some ⟨i,0,none⟩] f (Qzt f<|.bool a.ru):=by
 have k:=e.xc 3;have j:=e.xc 20;have b:Y (a.ru=(decide (a.ck=0)&& !a.dq)):=rfl;generalize a.ck=g at j b;generalize a.dq=l at k b;by_cases d:g=0
 .subst d;have c:Y (a.ru= !l):=by rw[Y,b.out];simp
  go_in;go_wp21;go_ret;exact⟨(by rw[c.out];rfl),0,rfl⟩
 have c:Y (a.ru=false):=by rw[Y,b.out];simp[d]
 have n:((g:Int)==0)=false:=qB
 go_in;go_wp21;go_ret;exact⟨(by rw[c.out];rfl),0,rfl⟩
structure Gn(w w2:ae)(v v':af):Prop where
 os:w2.os=w.os
 tape:w2.tape=w.tape
 output:w2.output=w.output
 size:w.heap.size<=w2.heap.size
 block:∀k,k<w.heap.size->v.ownBlock≠some k->w2.heap[k]?=w.heap[k]?
 H:∀k,v'.ownBlock=some k->v.ownBlock=some k\/w.heap.size<=k
def Gn.refl(a:af):Gn W W a a:=⟨rfl,rfl,rfl,ah,λ_ _ _=>rfl,λ_ b=> .inl b⟩
theorem Gn.trans{j k w3:ae}{h i f:af}(a:Gn j k h i)(c:Gn k w3 i f):Gn j w3 h f:=by
 refine⟨c.os.trans a.os,c.tape.trans a.tape,c.output.trans a.output,bq a.size c.size,λb d g=> ?_,λb d=> ?_⟩
 .refine(c.block b (ew d a.size)<|λe=> ?_).trans<|a.block b d g;obtain e|e:=a.H b e
  all_goals grind
 obtain e|e:=c.H b d
 .exact a.H b e
 exact .inr<|bq a.size e
def Gn.below(a:Below w.heap.size w u)(c:∀b,y.ownBlock=some b->x.ownBlock=some b\/w.heap.size<=b):Gn w u x y:=⟨a.os,a.tape,a.output,a.size,λb d _=>a.block b d,c⟩
theorem Gn.grown{g v':af}(b:Below w.heap.size w u)(c:u.grownBy v g.ownBlock)(h:v'.ownBlock=g.ownBlock\/∃e,v'.ownBlock=some e/\w.heap.size<=e):Gn w v g v':=by
 refine⟨c.os.trans b.os,c.tape.trans b.tape,c.output.trans b.output,bq b.size c.size,λf a i=> ?_,λf a=> ?_⟩
 .rw[c.block f (ew a b.size)<|λd=>i d.symm,b.block f a]
 grind
def Aa(w:ae)(b:Nat)(cf:Cf)(v v':Ev)(E':Ed)(w':ae):Prop:=At w' b cf E' v'/\Fe b v v' w w'
def Aa.ok{c:Cf}{e f:Ev}{b:Ed}(d:Aa w a c e f b u):Ok w a c e b u:=⟨f,d.1,d.2⟩
def Bu{e:TypeId}{xs:List af}(h:Gn w u x y)(f:w.ownsRow a e b z c xs)(hd:∀d,x.ownBlock=some d->z.ownBlock≠some d):u.ownsRow a e b z c xs:=
 da f λd g=>h.block d (f.lt d g).2<|λe=>hd d e g
def Bn{e:TypeId}{xs:List af}(i:Gn w u x y)(g:w.ownsRow a e b z c xs)(hd:∀d,x.ownBlock=some d->z.ownBlock≠some d):∀d,y.ownBlock=some d->z.ownBlock≠some d:=by
 intro d h f
 obtain e|e:=i.H d h
 .exact hd d e f
 have:=(g.lt d f).2;omega
def mc{e:TypeId}{xs:List af}(h:bf a w u)(f:w.ownsRow b e c x d xs)(hd:x.ownBlock≠some a):u.ownsRow b e c x d xs:=
 da f λi g=>h.block i<|λe=>hd<|by rw[<-e];exact g
def At.gnx{h w2:ae}{k:Cf}{j:Ed}{g:Ev}{nv:af}{l:List UInt8}(b:At h a k j g)(c:Gn h w2 g.nx nv)(r:w2.ownsRow 0 5 1 nv l.length (bv l)):
  bd w2 a (pb k j g)/\Aa h a k g {g with nx:=nv} {j with next:=l} (w2.setCell (O a 1) nv):=by
 have s:=b.lt;have o:=b.row.cw<|c.block a s b.ap.b1;have f:bf a w2 (w2.setCell (O a 1) nv):=(bf.refl _ _).setCell _ _;have m:nv.ownBlock≠some a:=λe=>by
  obtain e|e:=c.H a e
  .exact b.ap.b1 e
  omega
 have i:∀d,d<h.heap.size->¬ib a g d->(w2.setCell (O a 1) nv).heap[d]?=h.heap[d]? :=λd t p=>
  (f.block d<|λe=>p<|.inl e).trans (c.block d t<|λe=>p<|.inr<|.inl e)
 have q:∀d,ib a {g with nx:=nv} d->ib a g d\/h.heap.size<=d:=λd i=>by
  obtain e|e|e|e|e:=i
  .exact .inl<|.inl e
  .obtain e|e:=c.H d e
   .exact .inl<|.inr<|.inl e
   exact .inr e
  .exact .inl<|.inr<|.inr<|.inl e
  .exact .inl<|.inr<|.inr<|.inr<|.inl e
  exact .inl<|.inr<|.inr<|.inr<|.inr e
 have n:h.heap.size<=(w2.setCell (O a 1) nv).heap.size:=by rw[f.size];exact c.size
 refine⟨o,⟨jx o 1 nv Q rfl,?_,?_,?_,?_,b.cm.keep i n q,⟨m,b.ap.b2,b.ap.b3,b.ap.b4,Bn c b.ot b.ap.d12,Bn c b.cg b.ap.d13,Bn c b.op b.ap.d14,b.ap.d23,b.ap.d24,b.ap.d34⟩⟩,⟨f.os.trans c.os,f.tape.trans c.tape,f.output.trans c.output,n,i,q,rfl⟩⟩
 .exact mc f r m
 .exact mc f (Bu c b.ot b.ap.d12) b.ap.b2
 .exact mc f (Bu c b.cg b.ap.d13) b.ap.b3
 exact mc f (Bu c b.op b.ap.d14) b.ap.b4
def At.Kl{j w2:ae}{n:Cf}{m:Ed}{h:Ev}{nv:af}{l:List UInt8}(b:At j a n m h)(d:Gn j w2 h.ot nv)(s:w2.ownsRow 0 5 1 nv l.length (bv l)):
  bd w2 a (pb n m h)/\Aa j a n h {h with ot:=nv} {m with out:=l} (w2.setCell (O a 9) nv):=by
 have t:=b.lt;have q:=b.row.cw<|d.block a t b.ap.b2;have f:bf a w2 (w2.setCell (O a 9) nv):=(bf.refl _ _).setCell _ _;have o:nv.ownBlock≠some a:=λe=>by
  obtain e|e:=d.H a e
  .exact b.ap.b2 e
  omega
 have k:∀c,c<j.heap.size->¬ib a h c->(w2.setCell (O a 9) nv).heap[c]?=j.heap[c]? :=λc i g=>
  (f.block c<|λe=>g<|.inl e).trans (d.block c i<|λe=>g<|.inr<|.inr<|.inl e)
 have r:∀c,ib a {h with ot:=nv} c->ib a h c\/j.heap.size<=c:=λc k=>by
  obtain e|e|e|e|e:=k
  .exact .inl<|.inl e
  .exact .inl<|.inr<|.inl e
  .obtain e|e:=d.H c e
   .exact .inl<|.inr<|.inr<|.inl e
   exact .inr e
  .exact .inl<|.inr<|.inr<|.inr<|.inl e
  exact .inl<|.inr<|.inr<|.inr<|.inr e
 have p:j.heap.size<=(w2.setCell (O a 9) nv).heap.size:=by rw[f.size];exact d.size
 refine⟨q,⟨jx q 9 nv Q rfl,?_,?_,?_,?_,b.cm.keep k p r,⟨b.ap.b1,o,b.ap.b3,b.ap.b4,(λc i g=>Bn d b.nx (λc i g=>b.ap.d12 c g i) c g i),b.ap.d13,b.ap.d14,Bn d b.cg b.ap.d23,Bn d b.op b.ap.d24,b.ap.d34⟩⟩,⟨f.os.trans d.os,f.tape.trans d.tape,f.output.trans d.output,p,k,r,rfl⟩⟩
 .exact mc f (Bu d b.nx<|λc i g=>b.ap.d12 c g i) b.ap.b1
 .exact mc f s o
 .exact mc f (Bu d b.cg b.ap.d23) b.ap.b3
 exact mc f (Bu d b.op b.ap.d24) b.ap.b4
def At.gcg{j w2:ae}{n:Cf}{m:Ed}{i:Ev}{nv:af}{l:List ag}(b:At j a n m i)(f:Gn j w2 i.cg nv)(s:w2.ownsRow 0 9 1 nv l.length (sv l)):
  bd w2 a (pb n m i)/\Aa j a n i {i with cg:=nv} {m with cy:=l} (w2.setCell (O a 11) nv):=by
 have t:=b.lt;have q:=b.row.cw<|f.block a t b.ap.b3;have h:bf a w2 (w2.setCell (O a 11) nv):=(bf.refl _ _).setCell _ _;have o:nv.ownBlock≠some a:=λe=>by
  obtain e|e:=f.H a e
  .exact b.ap.b3 e
  omega
 have k:∀c,c<j.heap.size->¬ib a i c->(w2.setCell (O a 11) nv).heap[c]?=j.heap[c]? :=λc g d=>
  (h.block c<|λe=>d<|.inl e).trans (f.block c g<|λe=>d<|.inr<|.inr<|.inr<|.inl e)
 have r:∀c,ib a {i with cg:=nv} c->ib a i c\/j.heap.size<=c:=λc k=>by
  obtain e|e|e|e|e:=k
  .exact .inl<|.inl e
  .exact .inl<|.inr<|.inl e
  .exact .inl<|.inr<|.inr<|.inl e
  .obtain e|e:=f.H c e
   .exact .inl<|.inr<|.inr<|.inr<|.inl e
   exact .inr e
  exact .inl<|.inr<|.inr<|.inr<|.inr e
 have p:j.heap.size<=(w2.setCell (O a 11) nv).heap.size:=by rw[h.size];exact f.size
 refine⟨q,⟨jx q 11 nv Q rfl,?_,?_,?_,?_,b.cm.keep k p r,⟨b.ap.b1,b.ap.b2,o,b.ap.b4,b.ap.d12,(λc g d=>Bn f b.nx (λc g d=>b.ap.d13 c d g) c d g),b.ap.d14,(λc g d=>Bn f b.ot (λc g d=>b.ap.d23 c d g) c d g),b.ap.d24,Bn f b.op b.ap.d34⟩⟩,⟨h.os.trans f.os,h.tape.trans f.tape,h.output.trans f.output,p,k,r,rfl⟩⟩
 .exact mc h (Bu f b.nx<|λc g d=>b.ap.d13 c d g) b.ap.b1
 .exact mc h (Bu f b.ot<|λc g d=>b.ap.d23 c d g) b.ap.b2
 .exact mc h s o
 exact mc h (Bu f b.op b.ap.d34) b.ap.b4
def aa2(b:List UInt8)(a:UInt8):bv (b++[a])=bv b++[.int .u8 a.toNat]:=by simp[bv]
def Ic(a b:List UInt8):bv (a++b)=bv a++bv b:=by simp[bv]
def Bk(a:List UInt8):(bv a).length=a.length:=by simp[bv]
def jn:(Qjj S).length=S.size:=by simp[Qjj]
def Mn:Lib.strCells S=bv (Qjj S):=rfl
theorem Nz(a:List UInt8)(b:ae)(f:b.ownsRow i 5 1 V a.length (bv a)):(convert 99 9 V).run prog b=.ok (.string<|ce a) b:=by
 let⟨r,l⟩:=f;obtain⟨rfl,m⟩|⟨e,g,j,rfl,_,n,p,_,q,k⟩:=l
 .have:a=[]:=Ex.1 m;subst this;rw[run_convert_bytes_string (P:=prog) b 99 9 5 none 0 0 underlying99 underlying5 underlying9];rfl
 exact yyt (P:=prog) b 99 9 5 (O e 0) g a underlying99 underlying5 underlying9 (λc o=>by
  have h:((O e 0):Addr).add c=(O e c):=by unfold Addr.add;split<;>simp_all
  rw[h,yya b e c j 5 (0,0) n];have d:(bv a)[c]?=some (.int .u8 (a[c].toNat:Int)):=by simp[bv,dy o]
  rw[<-k,Cg]at d;split at d
  .simpa using d
  cases d)
def mj(b:Obj):Below W.heap.size W (W.alloc b):=⟨rfl,rfl,rfl,qD,λc a=>im _ _ _ a⟩
def At.added{f h:ae}{k:Obj}{g:Nat}{j:Cf}{a:Ed}{d:Ev}{c:UInt8}{b i:Nat}(o:At f g j a d)
  (l:h.ownsRow 0 5 1 (aa b (a.next.length+1) i) (a.next.length+1) (bv a.next++[.int .u8 c.toNat])) (n:(f.alloc k).grownBy h d.nx.ownBlock) (m:d.nx.ownBlock=some b\/b=f.heap.size+1):
  bd h g (pb j a d)/\Aa f g j d {d with nx:= aa b (a.next.length+1) i} {a with next:=a.next++[c]} (h.setCell (O g 1)<|aa b (a.next.length+1) i):=by
 refine o.gnx (Gn.grown (mj f k) n ?_) (by rw[aa2,ga];exact l);obtain e|e:=m
 .exact .inl e.symm
 exact .inr ⟨b,rfl,Q⟩
def as8(l:Cf)(a:Ed)(j:Ev)(d:ae)(b:UInt8)(c:At d i l a j)(A:a.next.length<=70368744177664):
  Calls prog 49 #[.pointer<|some ⟨i,0,none⟩,.int .u8 b.toNat] d λf w=>f=.returned (.tuple #[])/\Ok d i l j (a.add b) w:=by
 let⟨v,r,s,t,u⟩:=yyf Ei;have x:=c.xc 1;have y:=c.cd 1;have p:=c.xc 2;have q:=c.cd 2;by_cases e:b=10
 .subst e;have h:Y (a.add 10={a with whole:=true}):=rfl;go_in;go_wp21;go_returns;refine⟨rfl,?_⟩;rw[h.out];exact c.put xxs<|jx c.row 2 _ Q rfl
 have h:Y (a.add b={a with next:=a.next++[b]}):=by rw[Y,Ed.add,N e]
 have B:((b.toNat:Int)==10)=false:=by
  have:b.toNat≠10:=λf=>e<|UInt8.toNat.inj f
  simp;omega
 go_in;go_wp2_with (at_builtin;(refine wpList_append_lies _ rfl _ _ 99 rfl 0 5 v (.int .u8 0) 1 1 underlying99 r s t u rfl Q j.nx a.next.length (bv a.next) rfl (c.nx.alloc _) (O d.heap.size 0) 1 1 [.int .u8 b.toNat] rfl rfl (cell_one_new d _ _) (λH o=>by simp at o;subst o;rfl) Q qH Q Q (d.heap.size+1) qD ?_;intro C z D m k n g;have g:=J<|c.added m k n;have E:=g.1.xc 1;have F:=g.1.frozen (k:=1) (by rw[Eb];omega);clear m k n x y p q));go_returns;exact⟨rfl,by rw[h.out];exact g.2.ok⟩
def At.printed{h:Obj}{g:Cf}{d:Ed}{f:Ev}(k:At w a g d f)
  (l:w.grownBy u f.ot.ownBlock) (i:x.ownBlock=f.ot.ownBlock\/x.ownBlock=some w.heap.size)
  (j:v.ownsRow 0 5 1 (aa b (d.out.length+s.size+1) c) (d.out.length+s.size+1) (bv d.out++Lib.strCells s++[.int .u8 10])) (n:(u.alloc h).grownBy v x.ownBlock) (m:x.ownBlock=some b\/b=u.heap.size+1):
  bd v a (pb g d f)/\Aa w a g f {f with ot:= aa b (d.out.length+s.size+1) c} (d.print s) (v.setCell (O a 9)<|aa b (d.out.length+s.size+1) c):=by
 have o:Gn w u f.ot x:=Gn.grown (bp _ _) l (by
  obtain e|e:=i
  .exact .inl e
  exact .inr ⟨_,e,ah⟩)
 have p:Gn u v x (aa b (d.out.length+s.size+1) c):=Gn.grown (mj u h) n (by
  obtain e|e:=m
  .exact .inl e.symm
  exact .inr ⟨b,rfl,Q⟩)
 refine k.Kl (l:=d.out++Qjj s++[10]) (o.trans p) ?_;rw[Ic,Ic,ga,ga,jn,<-Mn];exact j
def En(l:Cf)(a:Ed)(d:Ev)(e:ae)(b:ag)(c:At e i l a d)(A:a.out.length<=70368744177664:=by omega)(B:b.size<=1000000:=by omega):
  Calls prog 123 #[.pointer<|some ⟨i,9,none⟩,.string b] e λu x=>u=.returned (.tuple #[])/\∃v,Aa e i l d {d with ot:=v} (a.print b) x:=by
 let⟨h,o,p,q,r⟩:=yyf Ei;have f:=c.xc 9;have m:=c.cd 9 Q;go_in;go_wp2_with (at_builtin;first
  |(have g:=f;refine Zg _ rfl _ _ 99 9 rfl 0 5 h underlying99 underlying9 o p q r d.ot a.out.length (bv a.out) rfl c.ot b rfl qH Q Q e.heap.size rfl ?_;intro s g j t k;have w:=J j;have y:=J k;clear j k f m)
  |(refine wpList_append_lies _ rfl _ _ 99 rfl 0 5 h (.int .u8 0) 1 1 underlying99 o p q r rfl Q s (a.out.length+b.size) (bv a.out++Lib.strCells b) rfl (w.alloc _) (O g.heap.size 0) 1 1 [.int .u8 10] rfl rfl (cell_one_new g _ _) (λH j=>by simp at j;subst j;rfl) Q qH Q Q (g.heap.size+1) qD ?_;intro C z D m k n f;have f:=J<|c.printed t y m k n;have E:=f.1.xc 9;have F:=f.1.frozen (k:=9) (by rw[Eb];omega);clear m k n))
 go_returns;exact⟨rfl,_,f.2⟩
def afs{h:TypeId}{xs:List af}(k:w.ownsRow a h b (.slice o c d) c xs):w.ownsRow a h b (.slice o 0 d) 0 []:=by
 refine⟨qD,?_⟩;obtain⟨e,s⟩|⟨j,r,i,e,l,m,t,n,p,u⟩:=k.2
 .left;injection e with f q g;subst f;subst g;exact⟨rfl,rfl⟩
 right;injection e with f q g;subst f;subst g;exact⟨j,_,i,rfl,l,m,ey _,n,p,qD⟩
def abj(a:Option Addr)(d c b:Nat):(Value.slice a d b).ownBlock=(Value.slice a c b).ownBlock:=by cases a<;>rfl
def El{h:TypeId}{xs:List af}(j:w.ownsRow a h b x c xs):(x=.slice none 0 0/\c=0)\/∃e f,x= aa e c f/\c<=f:=by
 obtain⟨d,i⟩|⟨e,g,l,d,m,n,k,o,p,q⟩:=j.2
 .exact .inl ⟨d,i⟩
 exact .inr ⟨e,g,d,k⟩
def At.aa9{g:Cf}{d:Ed}{e:Ev}(j:At w a g d e)(i:e.nx=.slice o b c)(l:b=d.next.length):Ok w a g e d.read (((w.setCell (O a 1)<|.slice o 0 c).setCell (O a 2)<|.bool false).setCell (O a 4)<|I<|(d.number:Int)+1):=by
 have f:=j.nx;rw[i]at f;subst l;let⟨n,k⟩:=j.gnx (w2:=w) (nv:=.slice o 0 c) (l:=[]) ⟨rfl,rfl,rfl,ah,λ_ _ _=>rfl,λq m=> .inl<|by rw[i,abj o d.next.length 0 c];exact m⟩<|afs f;refine k.ok.trans λp h=> ?_
 exact h.put (E':=d.read) (xxs.setCell _ _)<|jx (E:={d with next:=[],whole:=false}) (jx h.row 2 _ Q rfl) 4 _ Q<|by simp[pb,Ed.read]
def ahw(j:Cf)(b:Ed)(f:Ev)(g:ae)(a:At g i j b f)(r:b.number<=70368744177664)(s:b.next.length<=70368744177664):
  Calls prog 166 #[.pointer<|some ⟨i,0,none⟩] g λc n=>c=.returned (.string<|ce b.next)/\Ok g i j f b.read n:=by
 have d:=Nz 0 f.nx b.next g a.nx
 have k:=a.xc 1;have t:=a.cd 1;have u:=a.xc 2;have v:=a.cd 2;have w:=a.xc 4;have x:=a.cd 4;obtain⟨c,l⟩|⟨o,q,c,p⟩:=El a.nx
 .have e:Y (f.nx=.slice none 0 0/\0=b.next.length):=⟨c,l.symm⟩;rw[c]at k d;generalize h:ce b.next=m at d|-
  go_in;go_wp21;go_ret;exact⟨rfl,a.aa9 e.1 e.2⟩
 have e:=J c;rw[c]at k d;generalize h:ce b.next=m at d|-
 go_in;go_wp21;go_ret;exact⟨rfl,a.aa9 e rfl⟩
def rv(w:ae)(b:Nat)(cf:Cf)(v:Ev)(E:Ed)(r:Option Ed)(e:Ending)(w':ae):Prop:=
 (r=none/\e=.returned (.bool false)/\Ok w b cf v E w')\/∃E',r=some E'/\e=.returned (.bool true)/\Ok w b cf v E' w'
def Jw(a:Cf)(c:Ed)(h:Ev)(g:ae)(b:ag)(d:At g i a c h):
  Calls prog 118 #[.pointer<|some ⟨i,5,none⟩,.string b] g (rv g i a h c<|c.kz a b):=by
 have k:=d.xc 5;have l:=d.cd 5;have m:=d.xc 6;by_cases e:a.space<b.size
 .have j:decide (a.space<b.size)=true:=qB
  have f:Y (c.kz a b=none):=by rw[Y,Ed.kz,G e]
  go_in;go_wp21;go_ret;exact .inl ⟨f,rfl,Ok.refl d⟩
 have j:decide (a.space<b.size)=false:=qB
 have f:Y (c.kz a b=some {c with L:=b}):=by rw[Y,Ed.kz,N e]
 go_in;go_wp21;go_ret;exact .inr ⟨_,f,rfl,d.put xxs<|jx d.row 5 _ Q rfl⟩
def adi(a:Cf)(c:Ed)(h:Ev)(g:ae)(b:ag)(d:At g i a c h):
  Calls prog 118 #[.pointer<|some ⟨i,7,none⟩,.string b] g (rv g i a h c<|c.holds a b):=by
 have k:=d.xc 7;have l:=d.cd 7;have m:=d.xc 8;by_cases e:a.space<b.size
 .have j:decide (a.space<b.size)=true:=qB
  have f:Y (c.holds a b=none):=by rw[Y,Ed.holds,G e]
  go_in;go_wp21;go_ret;exact .inl ⟨f,rfl,Ok.refl d⟩
 have j:decide (a.space<b.size)=false:=qB
 have f:Y (c.holds a b=some {c with bt:=b}):=by rw[Y,Ed.holds,N e]
 go_in;go_wp21;go_ret;exact .inr ⟨_,f,rfl,d.put xxs<|jx d.row 7 _ Q rfl⟩
def adb(d:Cf)(a:Ed)(m:Ev)(n:ae)(c:ag)(p:At n i d a m)(u:a.L.size<=1000000)(v:c.size<=4000000):
  Calls prog 203 #[.pointer<|some ⟨i,5,none⟩,.string c] n (rv n i d m a<|a.grow d c):=by
 have w:=p.xc 5;have q:∀b:ae,(Op.stringOp .add a.L ⟨#[10]⟩).run prog b=.ok (.string<|a.L++⟨#[10]⟩) b:=λb=>yzx (P:=prog) (w:=b) _ _ Q<|by simp[ByteArray.size]
 have o:∀b:ae,(Op.stringOp .add (a.L++⟨#[10]⟩) c).run prog b=.ok (.string<|a.L++⟨#[10]⟩++c) b:=λb=>yzx (P:=prog) (w:=b) _ _ (by rw[uh];show(((a.L).size+1:Nat):Int)<=_;omega) Q
 have h:Y (a.grow d c=a.kz d (a.L++⟨#[10]⟩++c)):=rfl;generalize a.L++(⟨#[10]⟩:ag)=r at q o h;generalize r++c=s at o h;go_in;go_wp21;go_call Jw as e y l;rw[<-h.out]at l;obtain⟨f,rfl,g⟩|⟨t,f,rfl,g⟩:=l
 .have j:=J g;have k:=J f;go_wp21;go_ret;exact .inl ⟨k,rfl,j⟩
 have j:=J g;have k:=J f;go_wp21;go_ret;exact .inr ⟨t,k,rfl,j⟩
def apc(g:Cf)(a:Ed)(k:Ev)(l:ae)(c:ag)(n:At l i g a k)(t:a.bt.size<=1000000)(u:c.size<=4000000):
  Calls prog 203 #[.pointer<|some ⟨i,7,none⟩,.string c] l (rv l i g k a<|a.holds g<|a.bt++gp++c):=by
 have v:=n.xc 7;have o:∀b:ae,(Op.stringOp .add a.bt ⟨#[10]⟩).run prog b=.ok (.string<|a.bt++⟨#[10]⟩) b:=λb=>yzx (P:=prog) (w:=b) _ _ Q<|by simp[ByteArray.size]
 have m:∀b:ae,(Op.stringOp .add (a.bt++⟨#[10]⟩) c).run prog b=.ok (.string<|a.bt++⟨#[10]⟩++c) b:=λb=>yzx (P:=prog) (w:=b) _ _ (by rw[uh];show(((a.bt).size+1:Nat):Int)<=_;omega) Q
 have d:gp=⟨#[10]⟩:=rfl;rw[d];generalize a.bt++(⟨#[10]⟩:ag)=q at o m|-;generalize q++c=r at m|-;go_in;go_wp21;go_call adi as e y p;obtain⟨d,rfl,f⟩|⟨s,d,rfl,f⟩:=p
 .have h:=J f;have j:=J d;go_wp21;go_ret;exact .inl ⟨j,rfl,h⟩
 have h:=J f;have j:=J d;go_wp21;go_ret;exact .inr ⟨s,j,rfl,h⟩
def Ux:(prog.info? 9).map (λa=>(a.zero,a.size,a.bytes))=some (some<|.string ⟨#[]⟩,1,16):=qF
def Dl(b:List ag)(a:ag):sv (b++[a])=sv b++[.string a]:=by simp[sv]
def At.aqg{h:Obj}{g:Cf}{d:Ed}{f:Ev}(l:At w a g d f)
  (i:u.ownsRow 0 9 1 (aa b (d.cy.length+1) c) (d.cy.length+1) (sv d.cy++[.string s])) (k:(w.alloc h).grownBy u f.cg.ownBlock) (j:f.cg.ownBlock=some b\/b=w.heap.size+1):
  bd u a (pb g d f)/\Ok w a g f {d with cy:=d.cy++[s]} (u.setCell (O a 11)<|aa b (d.cy.length+1) c):=by
 have:=l.gcg (l:=d.cy++[s]) (Gn.grown (v':= aa b (d.cy.length+1) c) (mj w h) k (by
  obtain e|e:=j
  .exact .inl e.symm
  exact .inr ⟨b,rfl,Q⟩)) (by rw[Dl,ga];exact i)
 exact⟨this.1,this.2.ok⟩
def aqf(j:Cf)(a:Ed)(f:Ev)(b:ae)(e:ag)(c:At b i j a f)(B:a.cy.length<=1099511627776):
  Calls prog 206 #[.pointer<|some ⟨i,9,none⟩,.string e] b λm u=>m=.returned (.tuple #[])/\Ok b i j f {a with cy:=a.cy++[e]} u:=by
 let⟨r,n,o,p,q⟩:=yyf Ux;have s:=c.xc 11;have t:=c.cd 11;go_in;go_wp2_with (at_builtin;(refine wpList_append_lies _ rfl _ _ 62 rfl 0 9 r (.string ⟨#[]⟩) 1 16 underlying62 n o p q rfl Q f.cg a.cy.length (sv a.cy) rfl (c.cg.alloc _) (O b.heap.size 0) 1 1 [.string e] rfl rfl (cell_one_new b _ _) (λz l=>by simp at l;subst l;rfl) Q qH Q Q (b.heap.size+1) qD ?_;intro v A w h g k d;have d:=J<|c.aqg h g k;have x:=d.1.xc 11;have y:=d.1.frozen (k:=11) (by rw[Eb];omega);clear h g k s t));go_returns;exact⟨rfl,d.2⟩
def Lm(a:Ed)(c:ag):∀(b:List ag)(a:Ed),(a.lp<|b++[c])=(a.lp b).print c
 | [],a=>rfl
 |x::b,a=>by simp only[List.cons_append,Ed.lp];exact Lm a c b _
def fz(l:List ag):Nat:=(l.map λt=>t.size+1).sum
def Wu:∀(b:List ag)(a:Ed),∃c,a.lp b={a with out:=c}/\c.length=a.out.length+fz b
 | [],a=>⟨a.out,rfl,by simp[fz]⟩
 |x::b,a=>by
  let⟨c,d,e⟩:=Wu b<|a.print x;refine⟨c,by rw[Ed.lp,d];rfl,?_⟩;rw[e];simp only[Ed.print,ga,jn,qx,fz,vw,List.sum_cons];omega
def Qw(a b:List ag):fz (a++b)=fz a+fz b:=by simp[fz]
def aba{f:Cf}{b:Ed}{d:Ev}{n c:Nat}(h:At w a f b d)(g:d.cg=.slice o n c)(i:n=b.cy.length):Ok w a f d {b with cy:=[]} (w.setCell (O a 11)<|.slice o 0 c):=by
 have e:=h.cg;rw[g]at e;subst i;exact(h.gcg (w2:=w) (nv:=.slice o 0 c) (l:=[]) ⟨rfl,rfl,rfl,ah,λ_ _ _=>rfl,λk j=> .inl<|by rw[g,abj o b.cy.length 0 c];exact j⟩<|afs e).2.ok
def Ww(a:Ed):∃b,a.fq={a with out:=b,cy:=[]}/\b.length=a.out.length+fz a.cy:=by
 let⟨b,c,d⟩:=Wu a.cy a;exact⟨b,by rw[Ed.fq,c],d⟩
theorem Wv(h:Cf)(a:Ed)(c:Ev)(f:ae)(k:At f i h a c)(y:a.out.length+fz a.cy<=70368744177664)(z:∀W∈a.cy,W.size<=1000000):
  Calls prog 75 #[.pointer<|some ⟨i,9,none⟩] f λd X=>d=.returned (.tuple #[])/\Ok f i h c a.fq X:=by
 have K:a.cy.length<=fz a.cy:=by
  have:∀b:List ag,b.length<=fz b:=λb=>by
   induction b with
   |nil=>simp[fz]
   |cons m b e=>simp only[fz,vw,List.sum_cons,xv]at e|-;omega
  exact this _
 obtain⟨d,A⟩|⟨v,E,d,a0⟩:=El k.cg
 .have j:Y (c.cg=.slice none 0 0/\0=a.cy.length):=⟨d,A.symm⟩;have w:=k.xc 11;have b:=k.cd 11;rw[d]at w;have B:Y (a.fq={a with cy:=[]}):=by
   have n:=Ex.1 A;rw[Y,Ed.fq,n];rfl
  clear d A y z;go_in;go_wp21;go_loopw [9] (λm wr=>m=I 0/\wr=f) (λ_ _=>0)
  .grind
  obtain⟨rfl,rfl⟩:=hrel;go_wp21;go_returns;exact⟨rfl,by rw[B.out];exact aba k j.1 j.2⟩
 have j:=J d;have w:=k.xc 11;rw[d]at w;have T:=J z;have U:=J y;clear d z;generalize b:a.cy.length=e at w j;have x:=J b;have a1:e<=70368744177664:=Q
 clear b y K;go_in;go_wp21;go_loopw [9] (λm wr=>∃(b:Nat)(o:af),b<=e/\m=I b/\Y (Aa f i h c {c with ot:=o} (a.lp<|a.cy.take b) wr)) (λm _=>e+1-(intOf m).toNat)
 .exact⟨0,c.ot,Q,rfl,k,Fe.refl _ _ _⟩
 obtain⟨b,o,a2,rfl,L⟩:=hrel;let⟨l,g,q⟩:=Wu (a.cy.take b) a;have M:Y (fz (a.cy.take b)+fz (a.cy.drop b)=fz a.cy):=by rw[Y,<-Qw,yzh]
 have C:=J g;have P:=J q;have g:Y (Aa f i h c {c with ot:=o} {a with out:=l} wr):=by rw[Y,<-C.out];exact L
 by_cases qa:b<e
 .have a3:decide ((b:Int)<e)=true:=qB
  have F:b<a.cy.length:=by rw[x.out];exact qa
  have D:=J<|dy F;have H:=J<|yzn F;have t:=g.1.cg;have V:wr.cell? (O v b)=some (.string a.cy[b]):=by
   have n:({c with ot:=o}:Ev).cg= aa v e E:=j;rw[n]at t;have p:({a with out:=l}:Ed).cy.length=e:=x;rw[p]at t;have:=t.cellAt b Q;rw[this];show(sv a.cy)[b]?=_
   simp[sv,D.out]
  generalize S:a.cy[b]=t at V D H;have R:Y (a.lp (a.cy.take<|b+1)=({a with out:=l}:Ed).print t):=by
   rw[Y,yzj,D.out,yxg,Lm a,C.out]
  have F:=T t H;have q:l.length<=70368744177664:=by have:=P.out;have:=M.out;have:=U.out;omega
  go_wp21;go_call En i h {a with out:=l} {c with ot:=o} _ t g.1 q F as d Z ⟨rfl,r,s,u⟩;have S:Y (Aa f i h c {c with ot:=r} (a.lp<|a.cy.take<|b+1) Z):=by
   rw[Y,R.out];exact⟨s,g.2.trans u⟩
  go_wp21;go_roundw
  .grind
  simp[intOf];omega
 have D:b=e:=Q
 subst D;have B:Y (a.fq={({a with out:=l}:Ed)with cy:=[]}):=by
  rw[Y,Ed.fq];have n:a.cy.take b=a.cy:=by rw[<-x.out];exact yzc
  have p:=C.out;rw[n]at p;rw[p]
 have V:wr.cell? (O i 11)=some (aa v b E):=by
  have:=g.1.xc 11;rw[this];exact congrArg some j
 have S:=g.1.cd 11;have t:Y (Ok f i h c a.fq<|wr.setCell (O i 11)<|aa v 0 E):=by
  rw[Y,B.out];let⟨R,F,H⟩:=aba (n:=b) g.1 j x.symm;exact⟨R,F,g.2.trans H⟩
 go_wp21;go_returns;exact⟨rfl,t⟩
def yx(a:List UInt8):(ce a).size=a.length:=by simp[ce,ByteArray.size]
def Ok.put{j e g:ae}{b:Nat}{d:Cf}{a E':Ed}{i:Ev}(o:Ok j b d i a e)(h:∀c,At e b d a c->bf b e g/\bd g b (pb d E' c))(k:E'.next=a.next:=by rfl)(l:E'.out=a.out:=by rfl)(m:E'.cy=a.cy:=by rfl)(n:E'.bo=a.bo:=by rfl):Ok j b d i E' g:=
 o.trans λc f=>f.put (h c f).1 (h c f).2 k l m n
def Ok.cell{l c:ae}{d:Nat}{e:Cf}{b:Ed}{j:Ev}(i:Ok l d e j b c){k:Nat}{f:af}(g:∀a,(pb e b a)[k]?=some f):c.cell? (O d k)=some f:=by
 let⟨a,h,_⟩:=i;exact h.cell<|g a
def Ok.cd{j b:ae}{c:Nat}{f:Cf}{d:Ed}{i:Ev}(h:Ok j c f i d b)(a:Nat)(e:a<21:=by omega):b.frozen? (O c a)=false:=by
 let⟨k,g,_⟩:=h;exact g.cd a e
def xxm(i:Nat)(b:Cf)(a:Ed)(e:Ev)(f:ae)(k:At f i b a e)(B:a.number<=70368744177664)(C:a.next.length<=4000000)(t:Bool)(n:Nat)(h:n=118\/n=203)(l:∀(z:Ev)(w:ae)(u:ag),At w i b a.read z->u.size<=4000000->Calls prog n #[.pointer<|some ⟨i,5,none⟩,.string u] w (rv w i b z a.read<|a.read.vu b t u)):
  Calls prog 117 #[.pointer<|some ⟨i,0,none⟩,.func (.func n) #[.pointer<|some ⟨i,5,none⟩] #[]] f λj K=>j=.returned (.bool (a.ej b t).2)/\Ok f i b e (a.ej b t).1 K:=by
 obtain rfl|rfl:=h
 all_goals
  have v:=k.cd 20;have w:=k.xc 20;have g:=Yy i b a e f k;by_cases aA:a.sk b=true
  .have m:Y (a.ej b t=({a with ck:=3},false)):=by rw[Y,Ed.ej,G aA]
   rw[aA]at g;rw[m.out];go_in;go_wp21;go_call g;rintro j D ⟨rfl,x,rfl⟩;go_wp21;go_ret;exact⟨rfl,(Ok.refl k).drewN x|>.put (λy n=>⟨(bf.refl _ _).setCell _ _,jx n.row 20 _ Q rfl⟩)⟩
  have c:a.sk b=false:=qK aA
  rw[c]at g;have h:Y (a.ej b t=match a.read.vu b t (ce a.next)with|none=>({a.read with ck:=4},false)|some d=>({d with cx:=0,put:=false},true)):=by rw[Y,Ed.ej,c];rfl
  go_in;go_wp21;go_call g;rintro j D ⟨rfl,x,rfl⟩;have L:=k.drewN x;go_wp21;go_call ahw as j H ⟨rfl,q⟩;let⟨z,F,c⟩:=q;have A:Y (Fe i e z f H):=⟨c.os,c.tape,c.output,c.size,c.block,c.rp,c.cm⟩;have E:(ce a.next).size<=4000000:=by rw[yx];exact C
  generalize c:ce a.next=u at E h|-
  have c:=l z H u F E;go_wp21;go_call c;rintro j w3 q;obtain⟨o,rfl,p⟩|⟨d,o,rfl,p⟩:=q
  .have m:Y (a.ej b t=({a.read with ck:=4},false)):=by rw[Y,h.out];rw[o]
   have c:Y (Ok f i b e a.read w3):=by
    let⟨r,s,t⟩:=p;exact⟨r,s,A.trans t⟩
   have v:=c.cd 20;have w:=c.cell (k:=20)<|λ_=>rfl;go_wp21;go_ret;rw[m.out];exact⟨rfl,c.put<|λy n=>⟨(bf.refl _ _).setCell _ _,jx n.row 20 _ Q rfl⟩⟩
  have m:Y (a.ej b t=({d with cx:=0,put:=false},true)):=by rw[Y,h.out];rw[o]
  have c:Y (Ok f i b e d w3):=by
   let⟨r,s,t⟩:=p;exact⟨r,s,A.trans t⟩
  have M:=c.cd 16;have P:=c.cell (k:=16)<|λ_=>rfl;have U:=c.cd 18;have R:=c.cell (k:=18)<|λ_=>rfl;go_wp21;go_ret;rw[m.out];exact⟨rfl,c.put<|λy n=>⟨xxs.setCell _ _,jx (E:={d with cx:=0}) (jx n.row 16 _ Q rfl) 18 _ Q rfl⟩⟩
def Xc(b:Cf)(a:Ed)(e:Ev)(f:ae)(k:At f i b a e)(B:a.number<=70368744177664)(C:a.next.length<=4000000):
  Calls prog 117 #[.pointer<|some ⟨i,0,none⟩,.func (.func 118) #[.pointer<|some ⟨i,5,none⟩] #[]] f λj K=>j=.returned (.bool (a.ej b false).2)/\Ok f i b e (a.ej b false).1 K:=xxm i b a e f k B C false 118 (.inl rfl) λz w u F _=>Jw i b a.read z w u F
def agu(b:Cf)(a:Ed)(e:Ev)(f:ae)(k:At f i b a e)(C:a.number<=70368744177664)(D:a.next.length<=4000000)(E:a.L.size<=1000000):
  Calls prog 117 #[.pointer<|some ⟨i,0,none⟩,.func (.func 203) #[.pointer<|some ⟨i,5,none⟩] #[]] f λj L=>j=.returned (.bool (a.ej b true).2)/\Ok f i b e (a.ej b true).1 L:=xxm i b a e f k C D true 203 (.inr rfl) λz w u F A=>adb i b a.read z w u F E A
def So(b:Cf)(a:Ed)(k:Ev)(o:ae)(e:At o i b a k)(x:a.number<=70368744177664)(y:a.next.length<=4000000):
  Calls prog 72 #[.pointer<|some ⟨i,0,none⟩] o λg w=>g=.returned (.bool (a.mi b).2)/\Ok o i b k (a.mi b).1 w:=by
 have z:=e.cd 20;have A:=e.xc 20;have c:=Jv i b a k o e;by_cases d:a.mh b=true
 .rw[d]at c;by_cases l:a.more=true
  .have n:Y (a.mi b=a.ej b false):=by rw[Y,Ed.mi,G d,G l]
   have p:=J l;rw[n.out];go_in;go_wp21;go_call c;rintro g m ⟨rfl,j,rfl⟩;have f:=Kx i b a k _<|e.drewN j;rw[p.out]at f;go_wp21;go_call f;rintro g m ⟨rfl,q,rfl⟩;have r:=Xc i b a k _ (e.drewN<|j+q) x y;go_wp21;go_call r;rintro g m ⟨rfl,s⟩;have u:Y (Ok o i b k (a.ej b false).1 m):=by
    let⟨t,v,h⟩:=s;exact⟨t,v,⟨h.os,h.tape,h.output,h.size,h.block,h.rp,h.cm⟩⟩
   go_wp21;go_ret;exact⟨rfl,u⟩
  have h:a.more=false:=qK l
  have n:Y (a.mi b=({a with ck:=1},false)):=by rw[Y,Ed.mi,G d,N l]
  have p:=J h;rw[n.out];go_in;go_wp21;go_call c;rintro g m ⟨rfl,j,rfl⟩;have f:=Kx i b a k _<|e.drewN j;rw[p.out]at f;go_wp21;go_call f;rintro g m ⟨rfl,q,rfl⟩;go_wp21;go_ret;exact⟨rfl,(Ok.refl e).drewN (j+q)|>.put (λt f=>⟨(bf.refl _ _).setCell _ _,jx f.row 20 _ Q rfl⟩)⟩
 have f:a.mh b=false:=qK d
 rw[f]at c;have n:Y (a.mi b=(a,false)):=by rw[Y,Ed.mi,N d]
 rw[n.out];go_in;go_wp21;go_call c;rintro g m ⟨rfl,j,rfl⟩;go_wp21;go_ret;exact⟨rfl,(Ok.refl e).drewN j⟩
def agc(c:Cf)(b:Ed)(d:Ev)(e:ae)(f:At e i c b d)(o:b.out.length<=70368744177664)(p:b.L.size<=1000000):
  Calls prog 74 #[.pointer<|some ⟨i,0,none⟩] e λj t=>j=.returned (.tuple #[])/\Ok e i c d (b.ja c) t:=by
 have m:=f.xc 19;have v:=f.xc 5;have g:Y (b.ja c=if c.quiet=true then b else b.print b.L):=rfl;generalize h:c.quiet=s at m g;clear h;obtain k|k:=df s<;>subst k
 .rw[g.out,G rfl];go_in;go_wp21;go_returns;exact⟨rfl,Ok.refl f⟩
 rw[g.out,N qD];have l:=λh (q:At h i c b d)=>En i c b d h b.L q o p
 have n:=J l;clear l;go_in;go_wp21;go_region_with (first
  |(go_at_call 123;(go_call n e.drew f.drew as j r ⟨rfl,u,a⟩;have l:Y (Ok e i c d (b.print b.L) r):=⟨_,a.1,⟨a.2.os,a.2.tape,a.2.output,a.2.size,a.2.block,a.2.rp,a.2.cm⟩⟩;clear a)))
 all_goals
  go_wp21;go_returns;exact⟨rfl,l⟩
section
structure Dd where
 rest:ag
 dq:Bool
 number:Nat
 L:ag
 bt:ag
 ef:List ag
 out:ag
 bo:List Bool
 put:Bool
 dt:Nat
 ck:Nat
 ji:Bool
structure Dw where
 B:Nat
 b:Nat
 rb:Nat
 cf:Cf
def Ii(p:Dw)(D:Dd)(cv pv:af):List af:=
 [ab p.rb 0,I p.cf.line,I p.cf.space,I p.cf.dt,.bool p.cf.quiet,.string ⟨#[]⟩,.bool D.dq,.string D.rest,I D.number,.string D.L,.string D.bt,cv,.string D.out,pv,.bool D.put,I D.dt,I D.ck,.bool D.ji]
structure DE(p:Dw)(w:ae)(D:Dd)(cv pv:af):Prop where
 row:bd w p.b (Ii p D cv pv)
 cg:w.ownsRow p.B 9 1 cv D.ef.length (sv D.ef)
 op:w.ownsRow p.B 4 1 pv D.bo.length (ov D.bo)
 le:p.B<=p.b
 a1:cv.ownBlock≠some p.b
 a2:pv.ownBlock≠some p.b
 a3:∀k,cv.ownBlock=some k->pv.ownBlock≠some k
structure Fz(p:Dw)(c0 cv pv:af)(w w':ae):Prop where
 os:w'.os=w.os
 tape:w'.tape=w.tape
 output:w'.output=w.output
 size:w.heap.size<=w'.heap.size
 block:∀k,k<w.heap.size->k≠p.b->c0.ownBlock≠some k->pv.ownBlock≠some k->w'.heap[k]?=w.heap[k]?
 rp:∀k,cv.ownBlock=some k->c0.ownBlock=some k\/w.heap.size<=k
def DQ(p:Dw)(c0:af)(w w':ae)(D:Dd)(cv pv:af):Prop:=DE p w' D cv pv/\Fz p c0 cv pv w w'
section
variable {p:Dw} {w w1 w2:ae} {D D' D'':Dd} {c0 c2 cv pv:af}
def DE.cell(c:DE p w D cv pv){k:Nat}{a:af}(b:(Ii p D cv pv)[k]?=some a):w.cell? (O p.b k)=some a:=c.row.cell b
def DE.xc{a:af}(c:DE p w D cv pv)(k:Nat)(b:(Ii p D cv pv)[k]?=some a:=by exact rfl):w.cell? (O p.b k)=some a:=c.row.cell b
def DE.cd(c:DE p w D cv pv)(a:Nat)(b:a<18:=by omega):w.frozen? (O p.b a)=false:=c.row.frozen<|by exact b
def DE.lt(a:DE p w D cv pv):p.b<w.heap.size:=a.row.lt (by show 0<18;omega)
def DE.set(a:DE p w D cv pv)(b:Nat)(c:af)(f:b<18)(g:(Ii p D cv pv).set b c=Ii p D' cv pv)(h:D'.ef=D.ef:=by rfl)(i:D'.bo=D.bo:=by rfl):DE p (w.setCell (O p.b b) c) D' cv pv:=by
 have d:bf p.b w (w.setCell (O p.b b) c):=(bf.refl _ w).setCell b c;have e:=a.row.put b f c;rw[g]at e;exact⟨e,by rw[h];exact mc d a.cg a.a1,by rw[i];exact mc d a.op a.a2,a.le,a.a1,a.a2,a.a3⟩
def DE.same(a:DE p w D cv pv)(c:∀b,b<w.heap.size->w1.heap[b]?=w.heap[b]?):DE p w1 D cv pv:=
 ⟨a.row.cw<|c _ a.lt,da a.cg λb d=>c b (a.cg.lt b d).2,da a.op λb d=>c b (a.op.lt b d).2,a.le,a.a1,a.a2,a.a3⟩
def DE.below(b:DE p w D cv pv)(a:Below w.heap.size w w1):DE p w1 D cv pv:=b.same a.block
def alf(e:Below a w w1)(d:a<=b):Below a w (w1.setCell (O b c) x):=Below.bj e ((bf.refl _ w1).setCell c x) d
def Nw(b:Below a w w1)(c:Nat):Below a w (w1.drewN c):=⟨b.os,b.tape,b.output,b.size,b.block⟩
def DE.q(a:DE p w D cv pv):DQ p cv w w D cv pv:=⟨a,rfl,rfl,rfl,ah,λ_ _ _ _ _=>rfl,λ_ a=> .inl a⟩
theorem DQ.trans(a:DQ p c0 w w1 D cv pv)(b:DQ p cv w1 w2 D' c2 pv):DQ p c0 w w2 D' c2 pv:=by
 refine⟨b.1,b.2.os.trans a.2.os,b.2.tape.trans a.2.tape,b.2.output.trans a.2.output,bq a.2.size b.2.size,λc d f g h=>?_,λc d=>?_⟩
 .refine(b.2.block c (ew d a.2.size) f (λe=>?_) h).trans<|a.2.block c d f g h;obtain e|e:=a.2.rp c e
  all_goals grind
 obtain e|e:=b.2.rp c d
 .exact a.2.rp c e
 exact .inr<|bq a.2.size e
def DQ.below(b:DQ p c0 w w1 D cv pv)(a:Below w1.heap.size w1 w2):DQ p c0 w w2 D cv pv:=b.trans ⟨b.1.below a,a.os,a.tape,a.output,a.size,λd c _ _ _=>a.block d c,λ_ b=> .inl b⟩
def DQ.drewN(a:DQ p c0 w w1 D cv pv)(b:Nat):DQ p c0 w (w1.drewN b) D cv pv:=a.below ⟨rfl,rfl,rfl,ah,λ_ _=>rfl⟩
def DQ.put(c:DQ p c0 w w1 D cv pv)(hd:DE p (w1.setCell (O p.b a) x) D' cv pv):DQ p c0 w (w1.setCell (O p.b a) x) D' cv pv:=
 have b:bf p.b w1 (w1.setCell (O p.b a) x):=(bf.refl _ w1).setCell a x
 c.trans ⟨hd,b.os,b.tape,b.output,yh b.size.symm,λe _ d _ _=>b.block e d,λ_ c=> .inl c⟩
def DE.qg(c:DE p w D cv pv)(d:w.heap.size<=a):a≠p.b/\cv.ownBlock≠some a/\pv.ownBlock≠some a:=
 ⟨λb=>by have:=c.lt;omega,λb=>by have:=(c.cg.lt a b).2;omega,λb=>by have:=(c.op.lt a b).2;omega⟩
def DQ.keep{c:Dd}(e:DQ p cv w1 w2 D c2 pv)(a:DE p u c cv pv){g:Nat}(b:u.heap.size<=g:=by omega)(d:g<w1.heap.size:=by omega):w2.heap[g]?=w1.heap[g]? :=
 e.2.block g d (a.qg b).1 (a.qg b).2.1 (a.qg b).2.2
def DQ.low(b:DQ p cv w w1 D c2 pv)(a:DE p w D' cv pv):Below p.B w w1:=
 ⟨b.2.os,b.2.tape,b.2.output,b.2.size,λd e=>b.2.block d (ew e<|bq a.le<|yyh a.lt) (λc=>by have:=a.le;omega) (λc=>by have:=(a.cg.lt d c).1;omega) (λc=>by have:=(a.op.lt d c).1;omega)⟩
def DQ.rest(a:DQ p c0 w w1 D cv pv)(b:ag):DQ p c0 w (w1.setCell (O p.b 7)<|.string b) {D with rest:=b} cv pv:=a.put<|a.1.set 7 _ Q rfl
def DQ.num(a:DQ p c0 w w1 D cv pv)(b:Nat):DQ p c0 w (w1.setCell (O p.b 8)<|I b) {D with number:=b} cv pv:=a.put<|a.1.set 8 _ Q rfl
def DQ.L(a:DQ p c0 w w1 D cv pv)(b:ag):DQ p c0 w (w1.setCell (O p.b 9)<|.string b) {D with L:=b} cv pv:=a.put<|a.1.set 9 _ Q rfl
def DQ.bt(a:DQ p c0 w w1 D cv pv)(b:ag):DQ p c0 w (w1.setCell (O p.b 10)<|.string b) {D with bt:=b} cv pv:=a.put<|a.1.set 10 _ Q rfl
def DQ.out(a:DQ p c0 w w1 D cv pv)(x:ag):DQ p c0 w (w1.setCell (O p.b 12)<|.string x) {D with out:=x} cv pv:=a.put<|a.1.set 12 _ Q rfl
def DQ.Pz(a:DQ p c0 w w1 D cv pv)(b:Bool):DQ p c0 w (w1.setCell (O p.b 14)<|.bool b) {D with put:=b} cv pv:=a.put<|a.1.set 14 _ Q rfl
def DQ.dt(a:DQ p c0 w w1 D cv pv)(b:Nat):DQ p c0 w (w1.setCell (O p.b 15)<|I b) {D with dt:=b} cv pv:=a.put<|a.1.set 15 _ Q rfl
def DQ.ck(a:DQ p c0 w w1 D cv pv)(b:Nat):DQ p c0 w (w1.setCell (O p.b 16)<|I b) {D with ck:=b} cv pv:=a.put<|a.1.set 16 _ Q rfl
def DQ.ji(a:DQ p c0 w w1 D cv pv)(b:Bool):DQ p c0 w (w1.setCell (O p.b 17)<|.bool b) {D with ji:=b} cv pv:=a.put<|a.1.set 17 _ Q rfl
end
def Dd.print(D:Dd)(s:ag):Dd:={D with out:=D.out++s++gp}
def Eo(p:Dw)(D:Dd)(cv pv:af)(a:ag)(w:ae)(c:DE p w D cv pv)(e:D.out.size+a.size<=1099511000000:=by omega):
  Calls prog 138 #[.pointer<|some ⟨p.b,0,none⟩,.string a] w λg h=>g=.returned (.tuple #[])/\DQ p cv w h (D.print a) cv pv:=by
 have l:=c.xc 12;have j:=c.cd 12;have d:(D.out++a).size=D.out.size+a.size:=uh;have i:∀b:ae,(Op.stringOp .add D.out a).run prog b=.ok (.string<|D.out++a) b:=λb=>yye (P:=prog) (w:=b) _ _ Q
 have k:∀b:ae,(Op.stringOp .add (D.out++a) ⟨#[10]⟩).run prog b=.ok (.string<|D.out++a++⟨#[10]⟩) b:=λb=>yye (P:=prog) (w:=b) _ _ (by rw[d];show _+1<=_;omega)
 have f:Y _:=c.q.out<|D.out++a++gp;go_in;go_wp21;go_returns;exact⟨rfl,f⟩
def Dd.room(p:Dw)(D:Dd)(s:ag):Dd:=if p.cf.space<s.size then {D with ck:=4} else D
def Xk(p:Dw)(D:Dd)(cv pv:af)(a:ag)(w:ae)(b:DE p w D cv pv):
  Calls prog 183 #[.pointer<|some ⟨p.b,0,none⟩,.string a] w λg i=>g=.returned (.bool<|decide<|a.size<=p.cf.space)/\DQ p cv w i (D.room p a) cv pv:=by
 have m:=b.xc 2;have k:=b.xc 16;have j:=b.cd 16;by_cases c:p.cf.space<a.size
 .have f:decide (p.cf.space<a.size)=true:=qB
  have h:decide (a.size<=p.cf.space)=false:=qB
  have d:Y (DQ p cv w (w.setCell (O p.b 16)<|I 4) (D.room p a) cv pv):=by rw[Dd.room,G c];exact b.q.ck 4
  have l:=d.1.xc 2;have e:Y (decide (a.size<=p.cf.space)=false):=by rw[Y];simp;omega
  go_in;go_wp21;go_ret;exact⟨by rw[e.out];rfl,d⟩
 have f:decide (p.cf.space<a.size)=false:=qB
 have h:decide (a.size<=p.cf.space)=true:=qB
 have d:Y (DQ p cv w w (D.room p a) cv pv):=by rw[Y,Dd.room,N c];exact b.q
 have e:Y (decide (a.size<=p.cf.space)=true):=by rw[Y];simp;omega
 go_in;go_wp21;go_ret;exact⟨by rw[e.out];rfl,d⟩
end
def apo:(prog.info? 122).map (λa=>(a.zero,a.size,a.bytes))=some (some<|.agg #[.string ⟨#[]⟩, I 0,.bool false],3,32):=qF
def aqm{e b i c:Nat}{g:Sc}{l0:List Qja}{q:Qja}(k:bd w e (gw g x y<|aa b (l0.length+1) i))(v:nw w e g x y (aa b (l0.length+1) i))(u:g.bu=l0++[q])(B:e+1<=b)(j:Obj):
  ez ((w.setCell (O b<|l0.length*3)<|.string<|str q.name++⟨#[UInt8.ofNat c]⟩).alloc j).drew e {g with bu:=l0++[⟨q.name++[c],q.H,q.cn⟩]}/\Below e w ((w.setCell (O b<|l0.length*3)<|.string<|str q.name++⟨#[UInt8.ofNat c]⟩).alloc j).drew:=by
 rw[<-aiy];have l:=nw.aei (c:=c) u v;have C:=k.lt (by rw[dm];omega);have m:bd (w.setCell (O b<|l0.length*3)<|.string<|str<|q.name++[c]) e (gw g x y<|aa b (l0.length+1) i):=k.cw (er _ _ _ _ qC);have n:Below e w (w.setCell (O b<|l0.length*3)<|.string<|str<|q.name++[c]):=⟨rfl,rfl,rfl,by simp[World.setCell],λa d=>er w (O b<|l0.length*3) _ a qC⟩;have z:(w.setCell (O b<|l0.length*3)<|.string<|str<|q.name++[c]).heap.size=w.heap.size:=qD
 generalize w.setCell (O b<|l0.length*3) (.string<|str<|q.name++[c])=h at m l n z|-;have f:∀a,a<h.heap.size->((h.alloc j).drew).heap[a]?=h.heap[a]? :=λa d=>im h _ a d
 refine⟨⟨x,y,_,m.cw<|f e Q,?_⟩,n.trans ⟨rfl,rfl,rfl,qD,λa d=>f a Q⟩⟩;let⟨o,p,r,A,s,t⟩:=l;exact⟨Qzo o λa d=>f a (o.lt a d).2,Qzo p λa d=>f a (p.lt a d).2,Qzo r λa d=>f a (r.lt a d).2,A,s,t⟩
def ame(a:Nat)(g:a<256):(convert 99 9<|aa W.heap.size 1 1).run prog ((W.alloc<|Obj.cells #[.int .u8 a] 5).drew)=.ok (.string ⟨#[UInt8.ofNat a]⟩) ((W.alloc<|Obj.cells #[.int .u8 a] 5).drew):=by
 have:=yyt (P:=prog) ((W.alloc<|Obj.cells #[.int .u8 a] 5).drew) 99 9 5 (O W.heap.size 0) 1 [UInt8.ofNat a] underlying99 underlying5 underlying9 (λf c=>by
  have b:f=0:=qK c
  subst b;have e:=Qjb (u:=W) (H:=W.heap.size) rfl (.int .u8 a) 5 0 (.int .u8 a) rfl;have d:((UInt8.ofNat a).toNat:Int)=a:=by
   have:(UInt8.ofNat a).toNat=a:=qB
   rw[this]
  simp only[List.getElem_cons_zero,d];exact e)
 exact this
def Gr.three{m:Obj}{b i c e:Nat}{a:Sc}{h j bv:af}(d:Gr w u b a h j bv)(n:v.ownsRow (b+1) 122 3 (aa c (a.bu.length+1) e) (a.bu.length+1) (xb a.bu++[.string ⟨#[]⟩, I i,.bool a.cn]))
  (f:(u.alloc m).drew.grownBy v bv.ownBlock) (o:bv.ownBlock=some c\/c=u.heap.size+1):
  bd v b (gw a h j bv)/\Gr w (v.setCell (O b 273)<|aa c (a.bu.length+1) e) b {a with bu:=a.bu++[⟨[],i,a.cn⟩]} h j (aa c (a.bu.length+1) e):=by
 have g:(u.alloc m).grownBy v bv.ownBlock:=⟨f.os,f.tape,f.output,f.size,f.block⟩;have k:=bd.grown d.row (by rw[dm];omega) d.xn.o3 g;have l:bf b v (v.setCell (O b 273)<|aa c (a.bu.length+1) e):=(bf.refl _ _).setCell _ _;refine⟨k,?_,(d.xn.aq1 (q:=⟨[],i,a.cn⟩) n g o).bj l,(d.below.trans<|Below.grown d.xn.o3 (d.row.lt<|by rw[dm];omega) g).trans<|bf.below l⟩;have:=k.put 273 (by rw[dm];omega)<|aa c (a.bu.length+1) e;rw[aub]at this;exact this
def aq3(a:Sc)(b d:Nat)(c:ae)(B:ez c i a)(C:Sm a)(K:97<=b)(L:b<=122)(j:a.bm=0)(P:a.bu.length<=1000)(R:d<=900):
  Calls prog 84 #[.pointer<|some ⟨i,0,none⟩,.int .u8 b,.int .i64 d] c (Sd i c<|named a b d):=by
 let⟨D,M,t,u,v⟩:=yyf apo;let⟨k,l,bv,e,f⟩:=B;have n:Y (Gr c (c.setCell (O i 7)<|I 1) i {a with bm:=1} k l bv):=by
  have g:=bd.head (x':={a with bm:=1}) e 7 (I 1) Q rfl;have s1:bf i c (c.setCell (O i 7)<|I 1):=(bf.refl _ _).setCell _ _;let⟨h,m,o,p,q,r⟩:=f.bj s1;exact⟨g,⟨h,m,o,p,q,r⟩,bf.below s1⟩
 have U:=e.lt (by rw[dm];omega);have o:=e.xc 7;rw[j]at o;have E:=e.xf 7;have w:=e.xc 10;have x:=e.xf 10;have q:=e.cell<|Jd a k l bv;have r:=e.xf 273;have S:(97:Int)<=b:=Q
 have T:(b:Int)<=122:=Q
 have z:Y (named a b d=some {a with bm:=1,bu:=a.bu++[⟨[b],d,a.cn⟩]}):=by
  rw[named,Y,G ⟨K,L,Q⟩,G j,Nl,j];rfl
 go_in;go_wp21;go_region_law
  ((refine step_append_lies _ (by rfl) _ _ _ (by rfl) (i+1) 122 D _ 3 32 underlying117 M t u v rfl Q bv a.bu.length (xb a.bu) (by rfl) ((n.xn.o3.alloc _).drew)
     (O c.heap.size 0) 1 1 [.string ⟨#[]⟩, I d,.bool a.cn] (by rfl) (by rfl) (World.news_of_block (cs:=#[.string ⟨#[]⟩, I d,.bool a.cn]) (t:=122) (fr:=(0,0)) (by have:=yyb (c.setCell (O i 7)<|I 1)<|Obj.cells #[.string ⟨#[]⟩, I d,.bool a.cn] 122;rw[show(c.setCell (O i 7)<|I 1).heap.size=c.heap.size by simp]at this;exact this)) (by simp[Value.oneCell'])
     Q qH Q qB (c.heap.size+1) qD ?_;intro f m p e g s y;have h:Y _:=Gr.three (i:=d) n e g (qK s);have F:=h.1.cell<|Jd _ k l bv;have H:=h.1.xf 273;have A:Y _:=e;clear e g s y))
 all_goals go_wp21
 all_goals (
  have g:(p.setCell (O i 273)<|aa f (a.bu.length+1) m).ownsRow (i+1) 122 3 (aa f (a.bu.length+1) m) (a.bu.length+1) (xb<|a.bu++[⟨[],d,a.cn⟩]):=by
   have:=h.2.xn.o3;simp only[ga,qx]at this;exact this
  have e:Y _:=h.2;generalize p.setCell (O i 273) (aa f (a.bu.length+1) m)=h at e g|-;have x:=e.row.lt (by rw[dm];omega);have s:=(g.lt f rfl).1;have y:=(g.lt f rfl).2;have q:=e.row.cell<|Jd _ _ _ _;have A:h.cell? (O f<|a.bu.length*3)=some (.string<|str []):=by
   rw[g.cellAt (a.bu.length*3) Q,Ku,sn<|by rw[Ir];omega,Ir];simp
  have E:h.frozen? (O f<|a.bu.length*3)=false:=g.frozenAt _;have F:=ame h b Q;have w:∀g:ae,(Op.stringOp .add (str []) ⟨#[UInt8.ofNat b]⟩).run prog g=.ok (.string<|str []++⟨#[UInt8.ofNat b]⟩) g:=λg=>yzx (P:=prog) (w:=g) _ _ qG<|by simp[ByteArray.size]
  go_region;go_wp21;go_ret;rw[z.out];have o:=aqm (c:=b) (l0:=a.bu) (q:=⟨[],d,a.cn⟩) e.row e.xn rfl s<|Obj.cells #[.int .u8 b] 5;exact⟨true,rfl,e.below.trans o.2,.inl ⟨_,rfl,rfl,o.1⟩⟩)
def ez.drew{b:Sc}(i:ez w a b):ez w.drew a b:=by
 let⟨c,d,bv,e,f,g,h,j,k,l⟩:=i;exact⟨c,d,bv,e.cw rfl,Qzo f λ_ _=>rfl,Qzo g λ_ _=>rfl,Qzo h λ_ _=>rfl,j,k,l⟩
def aq5(a:Sc)(b k:Nat)(c:ae)(x:ez c i a)(t:Sm a)(v:b<256)(d:¬(97<=b/\b<=122/\a.bm<8)):
  Calls prog 84 #[.pointer<|some ⟨i,0,none⟩,.int .u8 b,.int .i64 k] c (Sd i c<|named a b k):=by
 have w:=J x;let⟨D,E,bv,f,g⟩:=x;have F:=f.xc 7;have K:=f.xc 9;have C:∀(B:Prop),B->Y (named a b k=if a.bm<a.gf then none else qk a b):=λ_ _=>by rw[Y,named,N d]
 have p:=C True trivial;by_cases o:a.bm<a.gf
 have g:Y (named a b k=none):=by rw[Y,p.out,G o]
 have z:decide (a.bm<a.gf)=true:=qB
 rotate_left
 have g:Y (named a b k=qk a b):=by rw[Y,p.out,N o]
 have z:decide (a.bm<a.gf)=false:=qB
 all_goals
  by_cases f:97<=b
  have m:decide ((b:Int)>=97)=true:=qB
  by_cases h:b<=122
  have n:¬a.bm<8:=λu=>d ⟨f,h,u⟩
  have r:decide ((b:Int)<=122)=true:=qB
  have A:decide ((a.bm:Int)<8)=false:=qB
  rotate_left
  have r:decide ((b:Int)<=122)=false:=qB
  rotate_left
  have m:decide ((b:Int)>=97)=false:=qB
  all_goals
   go_in;go_wp21;go_region;go_wp21
   first
    |go_ret;rw[g.out];exact Sd.no ⟨rfl,rfl,rfl,ah,λ_ _=>rfl⟩ rfl
    |go_call Lz i a b c.drew w.drew t v as e s ⟨q,rfl,j,l⟩;have n:Y (Sd i c (qk a b) (.returned<|.bool q) s):=⟨q,rfl,Below.trans (b:=c.drew) ⟨rfl,rfl,rfl,ah,λ_ _=>rfl⟩ j,l⟩;go_wp21;go_ret;rw[g.out];exact n
def aq2(a:Sc)(b d:Nat)(e:ae)(f:ez e i a)(g:Sm a)(m:b<256)(n:a.bm≠0->a.bu≠[])(j:a.bu.length<=1000)(k:d<=900)(l:∀o∈a.bu,(str o.name).size<=1000):
  Calls prog 84 #[.pointer<|some ⟨i,0,none⟩,.int .u8 b,.int .i64 d] e (Sd i e<|named a b d):=by
 by_cases c:97<=b/\b<=122/\a.bm<8
 .by_cases h:a.bm=0
  .exact aq3 i a b d e f g c.1 c.2.1 h j k
  exact aq4 i a b d e f g c.1 c.2.1 c.2.2 h (n h) j k l
 exact aq5 i a b d e f g m c
def au8(a:Sc)(b c:Nat)(d:ae)(g:ez d i a)(k:Sm a)(m:b<256)(n:a.fp.length<=1000)(j:a.db.length<=1000)(l:c<=900)(p:a.ax=10->a.bm≠0->a.bu≠[])(x:a.bu.length<=1000)(y:∀j∈a.bu,(str j.name).size<=1000)(f:a.ax<=5\/a.ax=7\/a.ax=10\/13<=a.ax/\a.ax<=20/\a.ax≠16):
  Calls prog 53 #[.pointer<|some ⟨i,0,none⟩,.int .u8 b,.int .i64 c] d (Sd i d<|bx a b c):=by
 have o:=J g;let⟨u,v,bv,e,h⟩:=g;have q:=e.xc 0;have w:=e.xf 0;obtain f|f|f|f|f|f|f|f|f|f|f|f|f|f|f:a.ax=0\/a.ax=1\/a.ax=2\/a.ax=3\/a.ax=4\/a.ax=5\/a.ax=7\/a.ax=10\/a.ax=13\/a.ax=14\/a.ax=15\/a.ax=17\/a.ax=18\/a.ax=19\/a.ax=20:=Q
 all_goals
  rw[f]at q;first|have p:=J (p f)|clear p
  have f:=J f;go_in;go_wp21;first|go_call Qzv|go_call amh|go_call aaq|refine((aig i a b c d o m n j l).mono λ_ _ e=>e.sd).mono ?_|go_call Np|go_call Lz|refine(aq2 i a b c d o.out k m p x l y).mono ?_|refine(ado i a b d o.out k m).mono ?_|refine(aoq i a b d o.out k m).mono ?_|refine(adn i a b d o.out k m).mono ?_|refine(adp i a b d o.out k m).mono ?_
  intro s r e
  have h:=J e;obtain⟨t,rfl,_⟩:=h.out;go_wp21;go_ret;simp[bx,f.out];exact h
