import Derived.Deep.DeepCutAuto
import Derived.Test.YtppjlpihaocdiaaGreatDoorAfQ
set_option linter.all false
set_option maxRecDepth 100000
set_option maxHeartbeats 16000000
namespace Go.Proofs.YtppjlpihaocdiaaGreatDoor
open Go.RowKit Go.Proofs.Tryz
variable{w u v:ae}{a b c d e:Nat}{s t:ag}{x y z:af}{p D:Int}{l:List af}{f:Bool}{g:List Nat}{h:Nat->Prop}{o:Option Addr}{r:List UInt8}{A:Nat->Bool}{B:Nat->Nat->Bool}{C:Nat->Nat->Prop}(i:Nat)(S T:ag)(V X:af)(j k m n:Nat)(Z:Int)(W:ae)
section
def MV(a b:af):Sem af:=Instr.makeSlice 143 a b
def aac:Instr.makeSlice 143 V X=MV V X:=rfl
attribute [local go_sem↓] aac
def apr:(prog.info? 152).map (λa=>(a.zero,a.size,a.bytes))=some (some<|.slice none 0 0,1,24):=qF
theorem at7(l:i<=100000):∃c:Array af,(∀b,b<i->c[b]?=some (.slice none 0 0))/\∀a,(MV (I i)<|I i).run prog a=.ok (aa a.heap.size i i) (a.alloc<|.cells c 152):=by
 obtain⟨h,d,e,f,g⟩:=yyf apr;refine⟨madeCells (Value.slice none 0 0).cells<|i*1,λb m=>Pj _ _ ?_ ?_ _ b Q,λa=>?_⟩
 .intro k j
  have:k=0:=by simp[Value.cells]at j;omega
  subst this;rfl
 .simp[Value.cells]
 have:=yxt (P:=prog) a 143 152 h _ underlying143 d e .i64 .i64 i i Q (yzw _) (by rw[g];omega) Q;rw[f]at this;rw[<-aac];grind
theorem Be.qg{e:Nd}(l:Be w a c d e)(y:w.heap.size<=b):Be w b c d e:=by
 obtain⟨m,k,n,o,p,q,r,f,s,t⟩:=l;refine⟨m,k,n,o,p,q,r,?_,s,t⟩;obtain f|⟨u,v,z,h⟩:=f
 .exact .inl f
 by_cases i:e.ba=[]
 .exact .inl i
 obtain⟨g,x⟩:∃g,e.ba[0]?=some g:=by
  grind
 have:=dw w _<|h 0 g x;exact .inr ⟨u,v,qE,h⟩
def pz.put{f:Pp}{r:Nat->Nat->Nat->Nat->Bool}{m:Nat->Nat}{s:Nat->Nat->Nat->Bool}(d:pz w f a r m)(t:a<f.bc.length)(z:Rw w (f.vb+1) b c f.s.size s):
  pz (w.setCell (O f.vb a)<|aa b c c) f (a+1) (λe=>if e=a then s else r e) (λe=>if e=a then c else m e):=by
 have k:∀g,g≠f.vb->(w.setCell (O f.vb a)<|aa b c c).heap[g]?=w.heap[g]? :=λg o=>er _ _ _ _ o
 have j:∀h n,h≠f.vb->(w.setCell (O f.vb a)<|aa b c c).cell? (O h n)=w.cell? (O h n):=λh n A=>ac n<|k h A
 have v:∀{e h:Nat},e≠h->((O f.vb e):Addr)≠(O f.vb h):=λD i=>D<|by injection i
 refine⟨(j _ _ d.vt).trans d.c0,(j _ _ d.vt).trans d.c1,(j _ _ d.vt).trans d.c2,(j _ _ d.vt).trans d.c3,(j _ _ d.vt).trans d.c4,d.vt,d.vn,λe C hd=>(d.node e C hd).of d.vn λg _ o=>k g o,λe x=>?_,λe x=>?_,t,d.js,d.ko⟩
 .obtain⟨⟨u,l⟩,y⟩:=d.slot e x;refine⟨?_,by rw[jf];exact y⟩;by_cases i:e=a
  .subst i;exact⟨_,qz _ _ _ l⟩
  exact⟨u,by rw[jm (h:=v Q)];exact l⟩
 by_cases i:e=a
 .subst i;obtain⟨⟨u,l⟩,y⟩:=d.slot e t;rw[G rfl,G rfl];exact⟨b,qz _ _ _ l,z.of λg p q=>k g Q⟩
 obtain⟨B,p,q⟩:=d.row e Q;rw[N i,N i];exact⟨B,by rw[jm (h:=v Q)];exact p,q.of λg p q=>k g Q⟩
structure yl(w:ae)(nb:Nat)(bc:List Nd)(eu:Nat):Prop where
 node:∀(a:Nat)(d:Nd),bc[a]?=some d->Be w w.heap.size nb a d
 wf:∀(a:Nat)(d:Nd),bc[a]?=some d->ww a eu d
 ko:bc.length<=200
 sj:0<bc.length
def yl.Wf{c:List Nd}(e:yl w a c b):Wf c:=λf d hd=>⟨(e.wf f d hd).sub,λg=>by obtain⟨i,h⟩:=(e.wf f d hd).one<|.inr g;rw[h];simp⟩
def aah{b:List Nd}(f:Wf b){e:Nd}(hd:b[a]?=some e)(c d:Nat):Rel s (bi s b) e c d↔bi s b a c d:=(oy f hd c d).symm
def aq8(b a c:Obj):(((W.alloc b).alloc a).alloc c).drew.heap[W.heap.size+1]?=some a/\(((W.alloc b).alloc a).alloc c).drew.heap[W.heap.size+1+1]?=some c/\Below W.heap.size W (((W.alloc b).alloc a).alloc c).drew:=by
 have d:(W.alloc b).heap.size=W.heap.size+1:=qD
 have e:((W.alloc b).alloc a).heap.size=W.heap.size+1+1:=qD
 refine⟨?_,?_,((((bp _ _).alloc ah _).alloc Q _).alloc Q _).drew⟩
 .show(((W.alloc b).alloc a).alloc c).heap[W.heap.size+1]?=_
  rw[im _ _ _ Q,<-d];exact yyb _ a
 show(((W.alloc b).alloc a).alloc c).heap[W.heap.size+1+1]?=_
 rw[<-e];exact yyb _ c
theorem av6{c k l h d b:Nat}{a:List Nd}{j:Array af}{p:Nat->Nat->Nat->Nat->Bool}{r:Nat->Nat}(i:yl w c a h)(t:s.size<=80)(v:Below w.heap.size w u)
  (x:∀o,o<a.length->j[o]?=some (.slice none 0 0)) (m:u.heap[b]?=some (.cells j 152))
  (y:u.heap[d]?=some (.cells #[aa c a.length k,I l,I h,.string s, aa b a.length a.length] 145))
  (z:w.heap.size<=b) (C:w.heap.size<=d) (A:d≠b):pz u ⟨a,s,l,h,d,c,b,k⟩ 0 p r:=by
 have g:∀e,u.cell? (O d e)=(#[aa c a.length k,I l,I h,.string s, aa b a.length a.length]:Array af)[e]? :=λe=>yya u d e _ 145 (0,0) y
 have D:=(i.node 0 _<|dy i.sj).lt;refine⟨g 0,g 1,g 2,g 3,g 4,A,qE,λf q hd=>?_,λf n=>⟨⟨.slice none 0 0,?_⟩,?_⟩,λf n=>Q,ey _,t,i.ko⟩
 .exact((i.node f q hd).qg z).of Q λe B _=>v.block e B
 .rw[yya u b f j 152 (0,0) m];exact x f n
 simp[World.frozen?,m]
theorem aqq(b:List Nd)(c:ae)(w:yl c j b n)(aM:S.size<=80):
  Calls prog 43 #[.agg #[.slice (some ⟨j,0,none⟩) b.length k,.int .i64 m,.int .i64 n],.string S] c
   λp a9=>∃a8,p=.returned (.pointer<|some ⟨a8,0,none⟩)/\∃aZ h l,pz a9 ⟨b,S,m,n,a8,j,aZ,k⟩ b.length h l/\(∀e a,b[e]?=some a->Cn S (bi S b) a (l e) (h e))/\Below c.heap.size c a9:=by
 have z:=w;have b1:=w.ko;have b0:=w.sj;obtain⟨aA,d,i⟩:=at7 b.length Q;have aB:=J d;clear w d;go_in;go_wp21;go_region
 all_goals go_wp21
 obtain⟨g,B,d⟩:=aq8 c (.cells #[aa j b.length k,I m,I n] 88) (.cells aA 152)<|.cells #[aa j b.length k,I m,I n,.string S, aa (c.heap.size+1) b.length b.length] 145;have f:pz _ ⟨b,S,m,n,c.heap.size+1+1,j,c.heap.size+1,k⟩ 0 (λ_ _ _ _=>false) (λ_=>0):=av6 z aM d aB g B Q Q Q;have aC:Y _:=f;have aD:Y _:=d;clear g B d f i;go_loopw [19] (λM wr=>∃(d:Nat)(h:Nat->Nat->Nat->Nat->Bool)(l:Nat->Nat),d<=b.length/\M=I d/\Y (pz wr ⟨b,S,m,n,c.heap.size+1+1,j,c.heap.size+1,k⟩ d h l)/\Y (∀e a,e<d->b[e]?=some a->Cn S (bi S b) a (l e) (h e))/\Y (Below c.heap.size c wr)) (λM _=>b.length+1-(intOf M).toNat)
 case atStart=>exact⟨0,_,_,ey _,rfl,aC,λe a w=>Q,aD⟩
 obtain⟨d,h,l,b2,rfl,A,E,H⟩:=hrel;by_cases x:d<b.length
 .obtain⟨a,hd⟩:∃a,b[d]?=some a:=⟨_,dy x⟩;have R:=J hd;obtain⟨o,v,q,s,t,u,aO,g,aP,f⟩:=A.out.node d a hd;have B:Y (Kids wr (c.heap.size+1) o a.ba):=g;have Z:=f 0 _ rfl;have a0:=f 1 _ rfl;have a1:=f 2 _ rfl;have a2:=f 3 _ rfl;have a3:=f 4 _ rfl;have a4:=f 5 _ rfl;have a5:=f 6 _ rfl;have a6:=f 7 _ rfl;have a7:=f 8 _ rfl;simp only[yzp]at Z a0 a1 a2 a3 a4 a5 a6 a7;have X:=A.out.c4;simp only at X;clear g f hd;go_wp21;have y:Below wr.heap.size wr (wr.alloc<|.cells #[I<|jr a.R,.slice o a.ba.length v,.int .u64 q,.int .u64 s,.int .u64 t,.int .u64 u,I<|na a,I a.lo,I a.hi] 151):=(bp _ _).alloc ah _;have T:(wr.alloc<|.cells #[I<|jr a.R,.slice o a.ba.length v,.int .u64 q,.int .u64 s,.int .u64 t,.int .u64 u,I<|na a,I a.lo,I a.hi] 151).heap.size=wr.heap.size+1:=qD
  have F:=yyb wr<|.cells #[I<|jr a.R,.slice o a.ba.length v,.int .u64 q,.int .u64 s,.int .u64 t,.int .u64 u,I<|na a,I a.lo,I a.hi] 151;generalize(wr.alloc<|.cells #[I<|jr a.R,.slice o a.ba.length v,.int .u64 q,.int .u64 s,.int .u64 t,.int .u64 u,I<|na a,I a.lo,I a.hi] 151)=i at y T F;have g:∀L,i.cell? (O wr.heap.size L)=_:=λL=>yya i wr.heap.size L _ 151 (0,0) F
  have aQ:=g 0;have aR:=g 1;have aS:=g 2;have aT:=g 3;have aU:=g 4;have aV:=g 5;have aW:=g 6;have aX:=g 7;have aY:=g 8;simp only[List.getElem?_toArray,List.getElem?_cons_zero,yzb]at aQ aR aS aT aU aV aW aX aY;have D:=A.out.below y;have aE:=D.below (bp i.heap.size i).drew;have aF:Y (Kids i.drew (c.heap.size+1) o a.ba):=B.of λK aL _=>y.block K aL
  have aK:=D.c4;simp only at aK;have V:=H.out.trans<|y.mono H.out.size;have aG:c.heap.size+1<i.heap.size:=D.vlt b0;have aH:=z.wf d a R;have aI:Y (∀f,f<d->Tl S.size (h f 0) (bi S b f)):=λf C=>by
   obtain⟨aJ,W⟩:∃a,b[f]?=some a:=⟨_,dy<|Nat.lt_trans C x⟩;exact(E.out f aJ C W).whole.iff λK aN=>aah z.Wf W K aN
  have aJ:Y (∀f,f<d->nj S.size (bi S b f)):=λf C=>vz S z.Wf d f C
  clear Z a0 a1 a2 a3 a4 a5 a6 a7 X y F g T;go_region_with (first
   |(go_at_call 65;(go_call av0 ⟨b,S,m,n,c.heap.size+1+1,j,c.heap.size+1,k⟩ d (c.heap.size+1+1) n a o v q s t u (bi S b) h l _ aE aG ah aI aJ aH aO aF aP as p w3 ⟨r,T,rfl,U,F,P,qa⟩;have X:Rw w3 (c.heap.size+1+1) r T S.size U:=F;have W:Cn S (bi S b) a T U:=P;have y:=(bp i.heap.size i).drew.trans qa;have g:=D.below y;have Z:=g;obtain⟨⟨a3,s5⟩,a2⟩:=g.slot d x;simp only at s5 a2;have a1:=g.c4;simp only at a1;have a0:=V.trans<|y.mono V.size;clear F P qa y g)))
  all_goals
   go_wp21;go_roundw
   case rel=>
    refine⟨d+1,_,_,x,qJ,Z.put x X,λe y F g=>?_,a0.setCell qC _⟩;by_cases p:e=d
    .subst p;have:=R;rw[this]at g;grind
    rw[N p,N p];exact E.out e y Q g
   simp[intOf];omega
 have f:d=b.length:=Q
 subst f;go_wp21;go_ret;exact⟨_,rfl,_,h,l,A.out,λe a hd=>E.out e a (jy.1 hd).1 hd,H.out⟩
end
section
section
variable (m:Nat->Nat->Nat->Prop) (g:Nat->Nat->Nat->co->co->Prop)
def repP(x lo:Nat)(hi:Int):Nat->Nat->Nat->Nat->co->co->Prop
 |0,_,_,_,c,c'=>c'=c
 |f+1,done,i,j,c,c'=>(¬i<j/\((done<lo/\g x i j c c')\/(¬done<lo/\c'=c)))\/
   (i<j/\∃t c1,pr (λt=>m x i t/\Zt (m x) lo hi (done+1) t j) i j t/\g x i t c c1/\repP x lo hi f (done+1) t j c1 c')
end
def altG.congr{m:Nat->Nat->Nat->Prop}{g a:Nat->Nat->Nat->co->co->Prop}:∀{l:List Nat},(∀x∈l,g x=a x)->altG m g l=altG m a l
 | [],_=>by funext i j c b;rfl
 |x::xs,h=>by
  funext i j c b;simp only[altG];rw[h x qD,altG.congr (l:=xs) λe d=>h e<|xw _ d]
def ik.congr{m:Nat->Nat->Nat->Prop}{g a:Nat->Nat->Nat->co->co->Prop}:∀{l:List Nat},(∀x∈l,g x=a x)->ik m g l=ik m a l
 | [],_=>by funext i j c b;rfl
 |x::xs,h=>by
  funext i j c b;simp only[ik];rw[h x qD,ik.congr (l:=xs) λe d=>h e<|xw _ d]
def repP.congr{m:Nat->Nat->Nat->Prop}{g e:Nat->Nat->Nat->co->co->Prop}{b l:Nat}{k:Int}(h:g b=e b):∀f,repP m g b l k f=repP m e b l k f
 |0=>by funext a i j c d;rfl
 |f+1=>by
  funext a i j c d;simp only[repP];rw[h,repP.congr h f]
def md(s:ag)(bc:List Nd):Nat->Nat->Nat->Nat->co->co->Prop
 |0,_,_,_,_,_=>False
 |f+1,n,i,j,c,c'=>∃d,bc[n]?=some d/\
   (if d.R=3 then md s bc f (d.ba.getD 0 0) i j (c.set d.num ((i:Int),(j:Int))) c'
   else if d.R=4 then altG (bi s bc) (md s bc f) d.ba i j c c'
   else if d.R=5 then ik (bi s bc) (md s bc f) d.ba i j c c'
   else if d.R=6 then repP (bi s bc) (md s bc f) (d.ba.getD 0 0) d.lo d.hi (d.lo+s.size+1) 0 i j c c'
   else c'=c)
theorem zk{a:List Nat}(b:a≠[]):a.getD 0 0∈a:=by
 grind
theorem af6(l:ag)(b:List Nd)(p:Wf b)(q:∀(a:Nat)(d:Nd),b[a]?=some d->d.R=3->d.ba≠[]):∀(f k a:Nat),a<f->a<k->md l b f a=md l b k a
 |0,_,_,h,_=>Q
 |_,0,_,_,h=>Q
 |f+1,k+1,a,h,v=>by
  funext i j c w;simp only[md];apply propext;refine yzo λd=>yyr λhd=>?_
  let⟨r,t⟩:=p a d hd;have n:∀e∈d.ba,md l b f e=md l b k e:=λe s=>af6 l b p q f k e qE qE
  split
  .rename_i o;rw[n _<|zk<|q a d hd o]
  split
  .rw[altG.congr n]
  split
  .rw[ik.congr n]
  split
  .rename_i o;rw[repP.congr<|n _<|zk<|t o]
  exact Iff.rfl
def jg(s:ag)(bc:List Nd)(n:Nat):Nat->Nat->co->co->Prop:=md s bc (n+1) n
theorem yk{c:List Nd}(n:Wf c)(o:∀(a:Nat)(b:Nd),c[a]?=some b->b.R=3->b.ba≠[]){b:Nd}(hd:c[a]?=some b)(f h:Nat)(d e:co):jg s c a f h d e↔
   (if b.R=3 then jg s c (b.ba.getD 0 0) f h (d.set b.num ((f:Int),(h:Int))) e
   else if b.R=4 then altG (bi s c) (jg s c) b.ba f h d e
   else if b.R=5 then ik (bi s c) (jg s c) b.ba f h d e
   else if b.R=6 then repP (bi s c) (jg s c) (b.ba.getD 0 0) b.lo b.hi (b.lo+s.size+1) 0 f h d e
   else e=d):=by
 let⟨r,t⟩:=n a b hd;have j:∀i∈b.ba,md s c a i=jg s c i:=λi u=>af6 s c n o a (i+1) i (r i u) Q
 have q:jg s c a f h d e↔(if b.R=3 then md s c a (b.ba.getD 0 0) f h (d.set b.num ((f:Int),(h:Int))) e
   else if b.R=4 then altG (bi s c) (md s c a) b.ba f h d e
   else if b.R=5 then ik (bi s c) (md s c a) b.ba f h d e
   else if b.R=6 then repP (bi s c) (md s c a) (b.ba.getD 0 0) b.lo b.hi (b.lo+s.size+1) 0 f h d e
   else e=d):=by
  show(∃p,c[a]?=some p/\_)↔_
  constructor
  .grind
  intro k;exact⟨b,hd,k⟩
 rw[q];split
 .rename_i k;rw[j _<|zk<|o a b hd k]
 split
 .rw[altG.congr j]
 split
 .rw[ik.congr j]
 split
 .rename_i k;rw[repP.congr<|j _<|zk<|t k]
 exact Iff.rfl
end
structure Fo(ob:Nat)(w w':ae):Prop where
 os:w'.os=w.os
 tape:w'.tape=w.tape
 output:w'.output=w.output
 size:w.heap.size<=w'.heap.size
 block:∀k,k<w.heap.size->k≠ob->w'.heap[k]?=w.heap[k]?
def Fo.trans{c:Nat}{g h i:ae}(a:Fo c g h)(b:Fo c h i):Fo c g i:=
 ⟨b.os.trans a.os,b.tape.trans a.tape,b.output.trans a.output,bq a.size b.size,λf d e=>(b.block f (ew d a.size) e).trans<|a.block f d e⟩
def Fo.wm(b:Below w.heap.size w u):Fo a w u:=⟨b.os,b.tape,b.output,b.size,λd c _=>b.block d c⟩
def Fo.set(b:Fo a w u)(f:Nat)(v:af):Fo a w (u.setCell (O a f) v):=
 ⟨b.os,b.tape,b.output,by rw[kg];exact b.size,λe d c=>by rw[er _ _ _ _ c];exact b.block e d c⟩
def Fo.fi(c:Fo a w u)(i:w.heap.size<=b)(g:Nat)(h:af):Fo a w (u.setCell (O b g) h):=
 ⟨c.os,c.tape,c.output,by rw[kg];exact c.size,λf d e=>by rw[er _ _ _ _ qC];exact c.block f d e⟩
def rx(w:ae)(ob:Nat)(l:List (Int×Int)):Prop:=∀(q:Nat)(x y:Int),l[q]?=some (x,y)->w.cell? (O ob<|q*2)=some (I x)/\w.cell? (O ob<|q*2+1)=some (I y)/\w.frozen? (O ob<|q*2)=false/\w.frozen? (O ob<|q*2+1)=false
theorem rx.cw{c w':ae}{g:List (Int×Int)}(j:rx c a g)(d:w'.heap[a]?=c.heap[a]?):rx w' a g:=by
 intro n o p h
 let⟨i,k,l,m⟩:=j n o p h;have e:∀b,w'.cell? (O a b)=c.cell? (O a b):=λb=>ac b d
 have f:∀b,w'.frozen? (O a b)=c.frozen? (O a b):=λb=>ad b d
 grind
theorem rx.put{b q:Nat}{e:List (Int×Int)}(m:rx w b e)(o p:Int)(n:q<e.length:=by omega):rx ((w.setCell (O b<|q*2)<|I o).setCell (O b<|q*2+1)<|I p) b (e.set q (o,p)):=by
 intro d s t c
 have a:∀{k l:Nat},k≠l->((O b k):Addr)≠(O b l):=λr f=>r<|by injection f
 by_cases f:d=q
 .subst f;rw[zv n]at c;cases c
  let⟨g,h,i,j⟩:=m d _ _<|dy n;refine⟨?_,?_,?_,?_⟩
  .rw[jm (h:=a Q)];exact qz _ _ _ g
  .refine qz _ _ _ (u:=I (e[d]).2) ?_;rw[jm (h:=a Q)];exact h
  all_goals simp_all
 rw[xe Q]at c;let⟨g,h,i,j⟩:=m d _ _ c;refine⟨?_,?_,?_,?_⟩
 .rw[jm (h:=a Q),jm (h:=a Q)];exact g
 .rw[jm (h:=a Q),jm (h:=a Q)];exact h
 all_goals simp_all
structure Ctx(p:Pp)(T:Nat->Nat->Nat->Nat->Bool)(m:Nat->Nat)(w0:ae)(ob:Nat):Prop where
 tb:pz w0 p p.bc.length T m
 ri:∀(a:Nat)(d:Nd),p.bc[a]?=some d->Cn p.s (bi p.s p.bc) d (m a) (T a)
 pn:∀(a:Nat)(d:Nd),p.bc[a]?=some d->ww a p.eu d
 ob:w0.heap.size<=ob
 g9:p.eu<=9
def Ctx.wf{e:Pp}{f:Nat->Nat->Nat->Nat->Bool}{i:Nat->Nat}(c:Ctx e f i w a):Wf e.bc:=λd b hd=>⟨(c.pn d b hd).sub,λh=>by let⟨j,g⟩:=(c.pn d b hd).one<|.inr h;rw[g];simp⟩
def Ctx.h3{d:Pp}{e:Nat->Nat->Nat->Nat->Bool}{i:Nat->Nat}(h:Ctx d e i w a):∀(c:Nat)(b:Nd),d.bc[c]?=some b->b.R=3->b.ba≠[]:=λc b hd g=>by let⟨j,f⟩:=(h.pn c b hd).one<|.inl g;rw[f];simp
def Ctx.tl{c:Pp}{d:Nat->Nat->Nat->Nat->Bool}{i:Nat->Nat}(f:Ctx c d i w a)(e:b<c.bc.length):Tl c.s.size (d b 0) (bi c.s c.bc b):=
 (f.ri b _<|dy e).whole.iff λg h=>aah f.wf (dy e) g h
def Ctx.st{b:Pp}{d:Nat->Nat->Nat->Nat->Bool}{f:Nat->Nat}(e:Ctx b d f w a)(c:Nat):nj b.s.size (bi b.s b.bc c):=vz b.s e.wf (c+1) c Q
structure uk(p:Pp)(w0:ae)(ob:Nat)(mt:Int×Int)(c:co)(w:ae):Prop where
 b:Below w0.heap.size w0 w
 o:rx w ob (mt::c)
 l:c.length=p.eu
def uk.lt{d:Pp}{mt:Int×Int}{b:co}(c:uk d w a mt b u):a<u.heap.size:=dw u _ (c.o 0 _ _ rfl).1
def uk.below{e:Pp}{mt:Int×Int}{c:co}(b:uk e w a mt c u)(d:Below u.heap.size u v):uk e w a mt c v:=
 ⟨b.b.trans<|d.mono b.b.size,b.o.cw<|d.block _ b.lt,b.l⟩
def Fa(p:Pp)(T:Nat->Nat->Nat->Nat->Bool)(m:Nat->Nat)(w0:ae)(ob N:Nat):Prop:=
 ∀(a i j:Nat)(mt:Int×Int)(c:co)(w:ae),a<N->a<p.bc.length->uk p w0 ob mt c w->bi p.s p.bc a i j->i<=j->j<=p.s.size->
  Calls prog 108 #[.pointer<|some ⟨p.tb,0,none⟩,.int .i64 a,.agg #[.int .i64 i,.int .i64 j],.slice (some ⟨ob,0,none⟩) (p.eu+1)<|p.eu+1] w
   λe w'=>e=.returned (.tuple #[])/\∃c',uk p w0 ob mt c' w'/\jg p.s p.bc a i j c c'/\Fo ob w w'
structure Hv(w:ae)(p:Pp)(x g c:Nat):Prop where
 c4:w.cell? (O p.tb 4)=some (aa p.vb p.bc.length p.bc.length)
 row:∃r mm,w.cell? (O p.vb x)=some (aa r mm mm)/\1<=mm/\w.cell? (O r 0)=some (aa g (p.s.size+1) c)
 x:x<p.bc.length
 ko:p.bc.length<=200
def Hv.below{j:Pp}(e:Hv w j a b c)(k:Below w.heap.size w u):Hv u j a b c:=by
 have g:∀d f h,w.cell? (O d f)=some h->u.cell? (O d f)=some h:=λd f h i=>(ac f<|k.block _<|dw w _ i).trans i
 let⟨p,l,m,n,o⟩:=e.row;exact⟨g _ _ _ e.c4,⟨p,l,g _ _ _ m,n,g _ _ _ o⟩,e.x,e.ko⟩
def pz.Ze{b:Pp}{g:Nat->Nat->Nat->Nat->Bool}{l:Nat->Nat}(f:pz w b b.bc.length g l)(h:a<b.bc.length):∃c e,Hv w b a c e/\fx w c b.s.size (g a 0):=by
 let⟨m,i,d⟩:=f.row a h;let⟨c,e,j,n,k⟩:=d.H 0 d.m1;exact⟨c,e,⟨f.c4,⟨m,_,i,d.m1,j⟩,h,f.ko⟩,k⟩
theorem Qy(a:Pp)(e d c:Nat)(b:ae)(g:Hv b a e d c):
  Calls prog 66 #[.pointer<|some ⟨a.tb,0,none⟩,.int .i64 e] b λf h=>f=.returned (.slice (some ⟨d,0,none⟩) (a.s.size+1) c)/\h=b:=by
 let⟨j,⟨p,k,l,i,m⟩,n,o⟩:=g;go_in;go_wp21;go_ret;simp_all
def Lf(w:ae)(b:Nat)(i j:Int):Prop:=w.cell? (O b 0)=some (I i)/\w.cell? (O b 1)=some (I j)/\w.frozen? (O b 0)=false
def Lf.of(c:Lf w a p D)(d:u.heap[a]?=w.heap[a]?):Lf u a p D:=by
 have e:∀b,u.cell? (O a b)=w.cell? (O a b):=λb=>ac b d
 exact⟨(e 0).trans c.1,(e 1).trans c.2.1,(ad 0 d).trans c.2.2⟩
def Lf.new(c d:Int)(a:TypeId):Lf (W.alloc<|.cells #[I c,I d] a) W.heap.size c d:=by
 have b:=yyb W<|.cells #[I c,I d] a;generalize(W.alloc<|.cells #[I c,I d] a)=e at b;exact⟨by rw[yya e _ 0 _ a (0,0) b];rfl,by rw[yya e _ 1 _ a (0,0) b];rfl,by simp[World.frozen?,b]⟩
def aoz(a:Pp)(s:Nat->Nat->Nat->Nat->Bool)(V:Nat->Nat)(k:ae)(l F:Nat)(o:Ctx a s V k l)(P:Fa a s V k l F)
  (e:List Nat) (n aK b c:Nat) (mt:Int×Int) (i:co) (f:ae) (qa:∀q∈e,q<F/\q<a.bc.length) (aY:e.length<=1000) (a5:n<k.heap.size) (R:∀(d q:Nat),e[d]?=some q->k.cell? (O n d)=some (I q))
  (x:uk a k l mt i f) (a6:b<=c) (aI:c<=a.s.size):
  Calls prog 160 #[.pointer<|some ⟨a.tb,0,none⟩,.slice (some ⟨n,0,none⟩) e.length aK,.agg #[.int .i64 b,.int .i64 c],.slice (some ⟨l,0,none⟩) (a.eu+1)<|a.eu+1] f
   λj W=>j=.returned (.tuple #[])/\∃g,uk a k l mt g W/\altG (bi a.s a.bc) (jg a.s a.bc) e b c i g/\Fo l f W:=by
 have a4:=J P;have a7:=J qa;have a2:=J R;have aS:=o.tb.js;have h:Below f.heap.size f (f.alloc<|.cells #[I b,I c] 48):=(bp _ _).alloc ah _;have a8:(f.alloc<|.cells #[I b,I c] 48).heap.size=f.heap.size+1:=qD
 have m:=Lf.new f b c 48;go_in;go_wp21;generalize(f.alloc<|.cells #[I b,I c] 48)=X at h a8 m;have C:=h;have D:=J m;have y:=x.below h;go_loopw [12] (λB wr=>∃d:Nat,d<=e.length/\B=I d/\Y (∀g,altG (bi a.s a.bc) (jg a.s a.bc) (e.drop d) b c i g->altG (bi a.s a.bc) (jg a.s a.bc) e b c i g)/\Y (Below X.heap.size X wr)) (λB _=>e.length+1-(intOf B).toNat)
 .exact⟨0,ey _,rfl,λg p=>p,bp _ _⟩
 obtain⟨d,aZ,rfl,w,m⟩:=hrel;by_cases A:d<e.length
 .obtain⟨h,r⟩:∃h,e[d]?=some h:=⟨_,dy A⟩;have a3:=J r;let⟨a9,t⟩:=a7.out h<|qy r;have u:=y.below m;have a1:=m.size;have aJ:=(ac d<|u.b.block n a5).trans<|a2 d h r;let⟨aH,aG,E,v⟩:=(o.tb.below u.b).Ze t;have aA:=E.below (bp wr.heap.size wr).drew;obtain⟨Z,a0,aM,aN,aO,aP,aQ⟩:=v.cell b Q;have aB:=J (D.of<|m.block f.heap.size Q);let⟨S,T,U⟩:=aB.out;have aW:(b:Int)<a.s.size+1:=Q
  have aX:(0:Int)<=b:=Q
  go_upto_region 4 with fail
  go_cut [25] (λaC aL=>aC=.bool (s h 0 b c)/\Below wr.heap.size wr aL)
  case first=>
   go_region_with (first
    |(go_at_call 66;(go_call Qy as j v ⟨rfl,E⟩;subst v))
    |(go_at_call 193;(go_call Gj as j w3 ⟨rfl,H⟩;have r:=(bp wr.heap.size wr).drew.trans H;clear H)))
   all_goals (go_wp21;go_meet;exact⟨rfl,r⟩)
  obtain⟨rfl,r⟩:=hcut;have v:=m.trans<|r.mono a1;have r:e.drop d=h::e.drop (d+1):=by
   have j:=a3.out;rw[dy A]at j;have E:e[d]=h:=qK j
   rw[Dn A,E]
  have E:=J r;rcases df (s h 0 b c)with z|z
  .have r:=J ((o.tl t b Q c).1 z);rw[z];have aD:=J (D.of<|v.block f.heap.size Q);let⟨S,T,U⟩:=aD.out;go_wp21;go_call a4.out h b c mt i _ a9 t (y.below v) r.out a6 aI as j b0 ⟨rfl,g,L,M,K⟩;have aE:=J M;have aF:=((Fo.wm C).trans<|Fo.wm v).trans K;go_wp21;go_returns;exact⟨rfl,g,L,w g<|by rw[E.out];exact .inl ⟨r,aE⟩,aF⟩
  have r:Y (¬bi a.s a.bc h b c):=λp=>by
   have:=(o.tl t b Q c).2 p;rw[z]at this;cases this
  rw[z];go_wp21;go_roundw
  .exact⟨d+1,Q,qJ,λg p=>w g<|by rw[E.out];exact .inr ⟨r,p⟩,v⟩
  simp[intOf];omega
 have h:d=e.length:=Q
 subst h;go_wp21;have u:=y.below m;go_returns;exact⟨rfl,i,u,w i<|by rw[List.drop_length];rfl,(Fo.wm C).trans<|Fo.wm m⟩
section
def app(u:List (Nat×(Int×Int)))(c:co):co:=u.foldl (λc p=>c.set p.1 p.2) c
def akz(b c:List (Nat×(Int×Int)))(a:co):app (b++c) a=app c (app b a):=by unfold app;rw[yxk]
def Ju:∀(b:List (Nat×(Int×Int))) (a:co),(app b a).length=a.length
 | [],_=>rfl
 |p::b,a=>by
  show(app b<|a.set p.1 p.2).length=_
  rw[Ju b,tj]
theorem aat(b:Nat):∀(c:List (Nat×(Int×Int))),(∀a:co,(app c a)[b]?=a[b]?)\/∃f,∀a:co,b<a.length->(app c a)[b]?=some f
 | []=> .inl λ_=>rfl
 |p::c=>by
  obtain d|⟨f,d⟩:=aat b c
  .by_cases h:p.1=b
   .refine .inr ⟨p.2,λa e=> ?_⟩;show(app c<|a.set p.1 p.2)[b]?=_
    rw[d,h,zv e]
   refine .inl λa=> ?_
   show(app c<|a.set p.1 p.2)[b]?=_
   rw[d,xe h]
  refine .inr ⟨f,λa e=> ?_⟩;show(app c<|a.set p.1 p.2)[b]?=_
  grind
theorem ak0(b:List (Nat×(Int×Int)))(c:co):app b (app b c)=app b c:=by
 apply yyy;intro e
 obtain a|⟨f,a⟩:=aat e b
 .rw[a]
 by_cases d:e<c.length
 .grind
 rw[je<|by rw[Ju,Ju];omega,je<|by rw[Ju];omega]
def Ov(R:co->co->Prop):Prop:=∃u,∀c c',R c c'↔c'=app u c
def zc(R:co->co->Prop):Prop:=∃c c',R c c'
def Ov.same{c d:co->co->Prop}(h:Ov c)(f:∀a b,d a b↔c a b):Ov d:=by
 let⟨i,e⟩:=h;exact⟨i,λa b=>(f a b).trans<|e a b⟩
def Ov.none:Ov λa b=>b=a:=⟨[],λ_ _=>Iff.rfl⟩
theorem Ov.then{c d:co->co->Prop}(b:Ov c)(j:Ov d):Ov λe f=>∃a,c e a/\d a f:=by
 let⟨n,h⟩:=b;let⟨o,i⟩:=j;refine⟨n++o,λe f=> ?_⟩;rw[akz];simp_all
def Ov.again{a:co->co->Prop}(f:Ov a){d b:co}(e:a d b):a b b:=by
 let⟨h,c⟩:=f;rw[(c _ _).1 e];exact(c _ _).2 (ak0 h d).symm
section
variable {m:Nat->Nat->Nat->Prop} {g:Nat->Nat->Nat->co->co->Prop}
def altG.ov(i:∀x b c,zc (g x b c)->Ov (g x b c)):∀{l:List Nat} {b c:Nat},zc (altG m g l b c)->Ov (altG m g l b c)
 | [],_,_,_=>Ov.none
 |x::xs,b,c,⟨e,f,a⟩=>by
  obtain⟨d,h⟩|⟨d,h⟩:=a
  .exact(i x b c ⟨e,f,h⟩).same λe f=>⟨λa=>a.elim (λa=>a.2)<|λa=>cb d a.1,λa=> .inl ⟨d,a⟩⟩
  exact(altG.ov i (l:=xs) ⟨e,f,h⟩).same λe f=>⟨λa=>a.elim (λa=>cb a.1 d)<|λa=>a.2,λa=> .inr ⟨d,a⟩⟩
theorem ik.ov(f:∀x a c,zc (g x a c)->Ov (g x a c)):∀{l:List Nat} {a c:Nat},zc (ik m g l a c)->Ov (ik m g l a c)
 | [],_,_,_=>Ov.none
 |x::xs,a,c,⟨h,i,t,b,k,n,h3⟩=>by
  refine((f x a t ⟨h,b,n⟩).then (ik.ov f (l:=xs) ⟨b,i,h3⟩)).same λh i=>⟨?_,?_⟩
  .rintro⟨p,b,o,d,e⟩;have j:=o.one k;grind
  rintro⟨b,d,e⟩;exact⟨t,b,k,d,e⟩
theorem ng.ov(q:∀e b d,zc (g e b d)->Ov (g e b d)){e p:Nat}{o:Int}:∀{f done b d:Nat},zc (ng m g e p o f done b d)->Ov (ng m g e p o f done b d)
 |0,_,_,_,_=>Ov.none
 |f+1,done,b,d,⟨i,j,a⟩=>by
  obtain⟨h,n⟩|⟨h,s,c,r,u,v⟩:=a
  .exact Ov.none.same λi j=>⟨λa=>a.elim (λa=>a.2)<|λa=>cb a.1 h,λa=> .inl ⟨h,a⟩⟩
  refine((q e b s ⟨i,c,u⟩).then (ng.ov q (f:=f) ⟨c,j,v⟩)).same λi j=>⟨?_,?_⟩
  .rintro(⟨n,_⟩|⟨_,x,c,w,k,l⟩)
   .exact cb h n
   have t:=w.one r;grind
  rintro⟨c,k,l⟩;exact .inr ⟨h,s,c,r,k,l⟩
end
def Ov.behind{a:co->co->Prop}{p:Nat×(Int×Int)}(e:Ov a):Ov λb c=>a (b.set p.1 p.2) c:=by
 let⟨f,d⟩:=e;exact⟨p::f,λb c=>d _ _⟩
theorem lz.ov(h:ag)(i:List Nd):∀(f o c e:Nat),zc (lz h i f o c e)->Ov (lz h i f o c e)
 |0,_,_,_,⟨_,_,b⟩=>b.elim
 |f+1,o,c,e,⟨k,j,d,hd,b⟩=>by
  have l:∀n c e,zc (lz h i f n c e)->Ov (lz h i f n c e):=λn c e=>lz.ov h i f n c e
  have p:Ov λk j=>(if d.R=3 then lz h i f (d.ba.getD 0 0) c e (k.set d.num ((c:Int),(e:Int))) j
   else if d.R=4 then altG (bi h i) (lz h i f) d.ba c e k j
   else if d.R=5 then ik (bi h i) (lz h i f) d.ba c e k j
   else if d.R=6 then ng (bi h i) (lz h i f) (d.ba.getD 0 0) d.lo d.hi (d.lo+h.size+1) 0 c e k j
   else j=k):=by
   split at b
   .rename_i a;simp only[G a];exact(l _ _ _ ⟨_,_,b⟩).behind (p:=(d.num,((c:Int),(e:Int))))
   rename_i a;simp only[N a];split at b
   .rename_i a;simp only[G a];exact altG.ov l ⟨_,_,b⟩
   rename_i a;simp only[N a];split at b
   .rename_i a;simp only[G a];exact ik.ov l ⟨_,_,b⟩
   rename_i a;simp only[N a];split at b
   .rename_i a;simp only[G a];exact ng.ov l ⟨_,_,b⟩
   rename_i a;simp only[N a];exact Ov.none
  refine p.same λk j=>⟨?_,λb=>⟨d,hd,b⟩⟩
  rintro⟨q,a,b⟩;grind
section
variable {m:Nat->Nat->Nat->Prop} {g g':Nat->Nat->Nat->co->co->Prop}
def altG.mono(f:∀x d e b c,g x d e b c->g' x d e b c):∀{h:List Nat} {d e:Nat} {b c:co},altG m g h d e b c->altG m g' h d e b c
 | [],_,_,_,_,a=>a
 |x::xs,d,e,b,c,a=>a.imp (λa=>⟨a.1,f _ _ _ _ _ a.2⟩)<|λa=>⟨a.1,altG.mono f a.2⟩
def ik.mono(k:∀x i j c h,g x i j c h->g' x i j c h):∀{l:List Nat} {i j:Nat} {c h:co},ik m g l i j c h->ik m g' l i j c h
 | [],_,_,_,_,a=>a
 |x::xs,i,j,c,h,⟨t,b,d,e,f⟩=>⟨t,b,d,k _ _ _ _ _ e,ik.mono k f⟩
def repP.mono(i:∀h d e b c,g h d e b c->g' h d e b c){h k:Nat}{j:Int}:∀{f done d e:Nat} {b c:co},repP m g h k j f done d e b c->repP m g' h k j f done d e b c
 |0,_,_,_,_,_,a=>a
 |f+1,done,d,e,b,c,a=>a.imp (λa=>⟨a.1,a.2.imp (λa=>⟨a.1,i _ _ _ _ _ a.2⟩) id⟩)<|λ⟨a,q,l,n,o,p⟩=>⟨a,q,l,n,i _ _ _ _ _ o,repP.mono i p⟩
def ng.ee(k:∀d a b,zc (g d a b)->Ov (g d a b)){d s:Nat}{r:Int}{a b:Nat}(p:¬a<b):∀{f done:Nat} {c i:co},g d a b c c->ng m g d s r f done a b c i->i=c
 |0,_,_,_,_,e=>e
 |f+1,done,c,i,l,e=>by
  obtain⟨_,e⟩|⟨x,j,t,h,n,u⟩:=e
  .exact e
  have q:a=b:=by
   have:=h.1;have:=h.2.1;omega
  have v:j=a:=by
   have:=h.1;have:=h.2.1;omega
  subst q;subst v;let⟨y,o⟩:=k d j j ⟨_,_,l⟩;have w:t=c:=by rw[(o _ _).1 n,<-(o _ _).1 l]
  subst w;exact ng.ee k p n u
def ag0(o:∀d b c,zc (g d b c)->Ov (g d b c)){d q:Nat}{p:Int}:∀{f done b c:Nat} {l n:co},ng m g d q p f done b c l n->repP m g d q p f done b c l n
 |0,_,_,_,_,_,a=>a
 |f+1,done,b,c,l,n,a=>by
  obtain⟨h,a⟩|⟨h,k,t,e,j,r⟩:=a
  .exact .inl ⟨λa=>h<|.inl a,.inr ⟨λa=>h<|.inr a,a⟩⟩
  by_cases i:b<c
  .exact .inr ⟨i,k,t,e,j,ag0 o r⟩
  have hd:=h.resolve_left i;have s:b=c:=by
   have:=e.1;have:=e.2.1;omega
  have u:k=b:=by
   have:=e.1;have:=e.2.1;omega
  subst s;subst u;have v:=(o d k k ⟨_,_,j⟩).again j;have w:=ng.ee o i v r;subst w;exact .inl ⟨i,.inl ⟨hd,j⟩⟩
end
theorem ac0(k:ag)(j:List Nd):∀(f o b c:Nat)(e i:co),lz k j f o b c e i->md k j f o b c e i
 |0,_,_,_,_,_,h=>h
 |f+1,o,b,c,e,i,⟨d,hd,h⟩=>by
  have n:∀l b c e i,lz k j f l b c e i->md k j f l b c e i:=λl b c e i=>ac0 k j f l b c e i
  refine⟨d,hd,?_⟩;split at h
  .grind
  rename_i a;rw[N a];split at h
  .rename_i a;rw[G a];exact altG.mono n h
  rename_i a;rw[N a];split at h
  .rename_i a;rw[G a];exact ik.mono n h
  rename_i a;rw[N a];split at h
  .rename_i a;rw[G a];exact repP.mono n<|ag0 (λl b c=>lz.ov k j f l b c) h
  grind
end
section
def dSetL(s:ag):Nat->Nat->(Nat->Bool)->Nat×(Nat->Bool)
 |0,i,S=>(i,S)
 |f+1,i,S=>if pk s i=93 then(i+1,S)else dSetL s f (kf s i).2.2 (kx S (kf s i).1 (kf s i).2.1)
def vh(s:ag)(i:Nat):Nat×(Nat->Bool):=
 if pk s (i+1)=94 then((dSetL s (s.size+1) (i+2) dp).1,λc=> !(dSetL s (s.size+1) (i+2) dp).2 c)else dSetL s (s.size+1) (i+1) dp
section
variable (ch:bs->bs×Nat) (s:ag)
def ep(p:bs):bs×Nat:=
 let c:=au s p.H
 if c=94 then cp p (p.H+1) (gb 1 dp)
 else if c=36 then cp p (p.H+1) (gb 2 dp)
 else if c=46 then cp p (p.H+1) (gb 0 λ_=>true)
 else if c=40 then
  let r:=ch ⟨p.H+1,p.g+1,p.l⟩
  cp r.1 (r.1.H+1) (qc r.2 p.g)
 else if c=91 then cp p (vh s p.H).1 (gb 0 (vh s p.H).2)
 else if c=92 then cp p (p.H+2) (gb 0<|kx dp (val<|au s<|p.H+1)<|val<|au s<|p.H+1)
 else cp p (p.H+1) (gb 0<|kx dp c c)
def ki(p:bs):bs×Nat:=
 let r:=ep ch s p
 let c:=pk s r.1.H
 if c=42 then cp r.1 (r.1.H+1) (gr r.2 0<|-1)
 else if c=43 then cp r.1 (r.1.H+1) (gr r.2 1<|-1)
 else if c=63 then cp r.1 (r.1.H+1) (gr r.2 0 1)
 else if c=123 then
  let lo:=au s (r.1.H+1)-48
  if pk s (r.1.H+2)=44 then cp r.1 (r.1.H+5) (gr r.2 lo ((au s (r.1.H+3)-48:Nat):Int))
  else cp r.1 (r.1.H+3) (gr r.2 lo (lo:Int))
 else r
def qs:Nat->bs->List Nat->bs×Nat
 |0,p,_=>(p,0)
 |f+1,p,zs=>
  if pk s p.H=124\/pk s p.H=41\/p.H=s.size then cp p p.H (ct 5 zs)
  else
   let r:=ki ch s p
   qs f r.1 (zs++[r.2])
def ip(p:bs):bs×Nat:=qs ch s (s.size+1) p []
def sw:Nat->bs->List Nat->bs×Nat
 |0,p,_=>(p,0)
 |f+1,p,zs=>
  let r:=ip ch s p
  if pk s r.1.H=124 then sw f ⟨r.1.H+1,r.1.g,r.1.l⟩ (zs++[r.2])else cp r.1 r.1.H (ct 4<|zs++[r.2])
def Od(p:bs):bs×Nat:=sw ch s (s.size+1) p []
end
def dz(s:ag):Nat->bs->bs×Nat
 |0,p=>(p,0)
 |n+1,p=>Od (dz s n) s p
def jv(s:ag):bs×Nat:=dz s 41 ⟨0,0,[]⟩
theorem aek(s:ag){b k:List Nd}(l:Wf b):∀(f c:Nat),c<b.length->se s (b++k) f c=se s b f c
 |0,_,_=>rfl
 |f+1,c,hn=>by
  funext i j;simp only[se];rw[oq hn];cases hd:b[c]? with
  |none=>rfl
  |some d=>
   let⟨o,p⟩:=l c d hd;have e:∀a∈d.ba,se s (b++k) f a=se s b f a:=λa h=>aek s l f a qE
   have q:(d.ba.map λa=>se s (b++k) f a)=d.ba.map λa=>se s b f a:=yyz e
   simp only;rw[q];split
   .rfl
   split
   .rfl
   split
   .rfl
   split
   .rfl
   split
   .grind
   apply propext;exact yzo λa=>yyr λh=>by rw[e a h]
def My(s:ag){b e:List Nd}(c:Wf b)(d:a<b.length):bi s (b++e) a=bi s b a:=aek s c (a+1) a d
section
variable {m m':Nat->Nat->Nat->Prop} {g g':Nat->Nat->Nat->co->co->Prop}
def altG.Dy:∀{l:List Nat},(∀x∈l,m x=m' x)->(∀x∈l,g x=g' x)->altG m g l=altG m' g' l
 | [],_,_=>by funext i j c d;rfl
 |x::xs,h,b=>by
  funext i j c d;simp only[altG];rw[h x qD,b x qD,altG.Dy (l:=xs) (λe a=>h e<|xw _ a)<|λe a=>b e<|xw _ a]
def ik.Dy:∀{l:List Nat},(∀x∈l,m x=m' x)->(∀x∈l,g x=g' x)->ik m g l=ik m' g' l
 | [],_,_=>by funext i j c d;rfl
 |x::xs,h,b=>by
  funext i j c d;simp only[ik];have f:=yyz λe a=>h e<|xw _ a
  rw[h x qD,b x qD,f,ik.Dy (l:=xs) (λe a=>h e<|xw _ a)<|λe a=>b e<|xw _ a]
def repP.Dy{b l:Nat}{k:Int}(h:m b=m' b)(e:g b=g' b):∀f,repP m g b l k f=repP m' g' b l k f
 |0=>by funext a i j c d;rfl
 |f+1=>by
  funext a i j c d;simp only[repP];rw[h,e,repP.Dy h e f]
end
theorem af5(s:ag){b p:List Nd}(l:Wf b)(q:∀(e:Nat)(d:Nd),b[e]?=some d->d.R=3->d.ba≠[]):∀(f e:Nat),e<b.length->md s (b++p) f e=md s b f e
 |0,_,_=>rfl
 |f+1,e,hn=>by
  funext i j c u;simp only[md];apply propext;rw[oq hn];refine yzo λd=>yyr λhd=> ?_
  let⟨r,t⟩:=l e d hd;have h:∀a∈d.ba,md s (b++p) f a=md s b f a:=λa n=>af5 s l q f a qE
  have o:∀a∈d.ba,bi s (b++p) a=bi s b a:=λa n=>My s l qE
  split
  .rename_i k;rw[h _<|zk<|q e d hd k]
  split
  .rw[altG.Dy o h]
  split
  .rw[ik.Dy o h]
  split
  .rename_i k;rw[repP.Dy (o _<|zk<|t k)<|h _<|zk<|t k]
  exact Iff.rfl
def aad(s:ag){b h:List Nd}(d:Wf b)(e:∀(a:Nat)(c:Nd),b[a]?=some c->c.R=3->c.ba≠[])(f:a<b.length):jg s (b++h) a=jg s b a:=af5 s d e (a+1) a f
def ad2(s:ag)(a:Nat):a<(hy s a).2:=by
 unfold hy;split<;>simp
def Jy(s:ag)(a:Nat):a<(kf s a).2.2:=by
 have b:=ad2 s a;unfold kf;split
 .have:=ad2 s<|(hy s a).2+1;simp only;omega
 exact b
def Tn(s:ag):∀(f c:Nat)(d:Nat->Bool),pk s c≠93->s.size<c+f->(setL s f c d).1<=s.size->dSetL s (f+1) c d=setL s f c d
 |0,c,d,_,a,h3=>by
  have:c<=s.size:=h3;omega
 |f+1,c,d,b,a,h3=>by
  have h:=Jy s c;rw[dSetL,N b];rw[setL]at h3|-;split
  .rename_i e;rw[dSetL,G e]
  rename_i e;rw[N e]at h3;exact Tn s f _ _ e Q h3
def abv{s:ag}(d:pk s (a+1)=94->pk s (a+2)≠93)(e:pk s (a+1)≠93)(b:(sh s a).1<=s.size):vh s a=sh s a:=by
 unfold vh;unfold sh at b|-;split
 .rename_i c;rw[G c]at b;rw[Tn s s.size (a+2) dp (d c) Q b]
 rename_i c;rw[N c]at b;exact Tn s s.size (a+1) dp e Q b
end
