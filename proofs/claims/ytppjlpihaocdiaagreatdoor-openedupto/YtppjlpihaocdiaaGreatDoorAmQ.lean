import Derived.Lib.LaidTab
import Derived.Test.YtppjlpihaocdiaaGreatDoorAlQ
set_option linter.all false
set_option maxRecDepth 100000
set_option maxHeartbeats 16000000
namespace Go.Proofs.YtppjlpihaocdiaaGreatDoor
open Go.RowKit Go.Proofs.Tryz
variable{w u v:ae}{a b c d e:Nat}{s t:ag}{x y z:af}{p D:Int}{l:List af}{f:Bool}{g:List Nat}{h:Nat->Prop}{o:Option Addr}{r:List UInt8}{A:Nat->Bool}{B:Nat->Nat->Bool}{C:Nat->Nat->Prop}(i:Nat)(S T:ag)(V X:af)(j k m n:Nat)(Z:Int)(W:ae)
def bv(l:List UInt8):List af:=l.map λb=>Value.int .u8 b.toNat
def sv(l:List ag):List af:=l.map Value.string
def ov(l:List Bool):List af:=l.map Value.bool
structure Ev where
 nx:af
 ot:af
 cg:af
 cm:af
 op:af
def pb(cf:Cf)(E:Ed)(v:Ev):List af:=
 [I cf.line,v.nx,.bool E.whole,.bool E.dq,I E.number,.string E.L,I cf.space,.string E.bt,I cf.space,v.ot,I E.ca,v.cg,v.cm,v.op,
  I E.H,I E.bg,I E.cx,I cf.dt,.bool E.put,.bool cf.quiet,I E.ck]
def Eb(b:Cf)(a:Ed)(c:Ev):(pb b a c).length=21:=rfl
def ib(b:Nat)(v:Ev)(k:Nat):Prop:=k=b\/v.nx.ownBlock=some k\/v.ot.ownBlock=some k\/v.cg.ownBlock=some k\/v.op.ownBlock=some k
structure aj0(b:Nat)(v:Ev):Prop where
 b1:v.nx.ownBlock≠some b
 b2:v.ot.ownBlock≠some b
 b3:v.cg.ownBlock≠some b
 b4:v.op.ownBlock≠some b
 d12:∀k,v.nx.ownBlock=some k->v.ot.ownBlock≠some k
 d13:∀k,v.nx.ownBlock=some k->v.cg.ownBlock≠some k
 d14:∀k,v.nx.ownBlock=some k->v.op.ownBlock≠some k
 d23:∀k,v.ot.ownBlock=some k->v.cg.ownBlock≠some k
 d24:∀k,v.ot.ownBlock=some k->v.op.ownBlock≠some k
 d34:∀k,v.cg.ownBlock=some k->v.op.ownBlock≠some k
def Tw(w:ae)(X:Nat->Prop):Prop:=Lib.TabIs prog w "internal/strconv.uint64pow10" .u64 Lib.pow10Tab/\∀g,prog.globalNamed "internal/strconv.uint64pow10" =some g->g<w.heap.size/\¬X g
def Tw.keep{f w':ae}{g X':Nat->Prop}(k:Tw f g)(i:∀b,b<f.heap.size->¬g b->w'.heap[b]? =f.heap[b]?)(j:f.heap.size<=w'.heap.size)(l:∀b,X' b->g b\/f.heap.size<=b):Tw w' X':=by
 obtain ⟨h,d⟩:=k;refine ⟨?_,fun a c=>⟨ew (d a c).1 j,fun m=> ?_⟩⟩
 .unfold Lib.TabIs at h ⊢;rw [←h];unfold World.var?;cases c:prog.globalNamed "internal/strconv.uint64pow10" with
  |none=>rfl
  |some a=>simp only [Option.bind_some];rw [i a (d a c).1 (d a c).2]
 rcases l a m with e|e
 .exact (d a c).2 e
 have:=(d a c).1;omega
def Mt(w:ae)(X:Nat->Prop)(cm:af)(cs:List Cm):Prop:=
 ∃xs,w.ownsRow 0 200 23 cm cs.length xs/\(∀g,cm.ownBlock=some g->¬X g)/\∀(k:Nat)(x:Cm),cs[k]?=some x->
  ∃l h q,h<=w.heap.size/\(∀j,l<j->j<h->¬X j)/\mq w l h x q/\∀o u,(ff x q)[o]?=some u->xs[k*23+o]?=some u
def zy(w:ae)(X:Nat->Prop)(cm:af)(cs:List Cm):Prop:=Tw w X/\Mt w X cm cs
structure At(w:ae)(b:Nat)(cf:Cf)(E:Ed)(v:Ev):Prop where
 row:bd w b (pb cf E v)
 nx:w.ownsRow 0 5 1 v.nx E.next.length (bv E.next)
 ot:w.ownsRow 0 5 1 v.ot E.out.length (bv E.out)
 cg:w.ownsRow 0 9 1 v.cg E.cy.length (sv E.cy)
 op:w.ownsRow 0 4 1 v.op E.bo.length (ov E.bo)
 cm:zy w (ib b v) v.cm cf.U
 ap:aj0 b v
structure Fe(b:Nat)(v v':Ev)(w w':ae):Prop where
 os:w'.os=w.os
 tape:w'.tape=w.tape
 output:w'.output=w.output
 size:w.heap.size<=w'.heap.size
 block:∀k,k<w.heap.size->¬ib b v k->w'.heap[k]?=w.heap[k]?
 rp:∀k,ib b v' k->ib b v k\/w.heap.size<=k
 cm:v'.cm=v.cm
def Fe.refl(a:Ev)(b:ae):Fe i a a b b:=⟨rfl,rfl,rfl,ah,λ_ _ _=>rfl,λ_ c=> .inl c,rfl⟩
def Fe.trans{b:Nat}{j k g:Ev}{i l m:ae}(a:Fe b j k i l)(c:Fe b k g l m):Fe b j g i m:=by
 refine⟨c.os.trans a.os,c.tape.trans a.tape,c.output.trans a.output,bq a.size c.size,λd f h=>?_,λd f=>?_,c.cm.trans a.cm⟩
 .refine(c.block d (ew f a.size)<|λn=>?_).trans<|a.block d f h;rcases a.rp d n with e|e
  .exact h e
  omega
 rcases c.rp d f with e|e
 .exact a.rp d e
 exact .inr<|bq a.size e
def Fe.drewN{c d:Ev}(b:Fe a c d w u)(e:Nat):Fe a c d w (u.drewN e):=⟨b.os,b.tape,b.output,b.size,b.block,b.rp,b.cm⟩
def Mt.keep{c w':ae}{d X':Nat->Prop}{m:af}{l:List Cm}(z:Mt c d m l)(n:∀a,a<c.heap.size->¬d a->w'.heap[a]?=c.heap[a]?)(o:c.heap.size<=w'.heap.size)(p:∀a,X' a->d a\/c.heap.size<=a):Mt w' X' m l:=by
 have⟨xs,f,q,D⟩:=z;have x:=f;refine⟨xs,da f λa r=>n a (f.lt a r).2<|q a r,λh k g=>?_,λa C y=>?_⟩
 .rcases p h g with e|e
  .exact q h k e
  have:=(x.lt h k).2;omega
 have⟨A,u,B,s,t,v,w⟩:=D a C y;refine⟨A,u,B,bq s o,λb i j g=>?_,v.keep ⟨λb i j=>n b (by omega)<|t b i j,bq s o⟩,w⟩;rcases p b g with e|e
 .exact t b i j e
 omega
def zy.keep{b w':ae}{c X':Nat->Prop}{d:af}{g:List Cm}(i:zy b c d g)(e:∀a,a<b.heap.size->¬c a->w'.heap[a]?=b.heap[a]?)(f:b.heap.size<=w'.heap.size)(h:∀a,X' a->c a\/b.heap.size<=a):zy w' X' d g:=⟨i.1.keep e f h,i.2.keep e f h⟩
def At.lt{b:ae}{a:Nat}{d:Cf}{c:Ed}{f:Ev}(e:At b a d c f):a<b.heap.size:=e.row.lt (by rw[Eb];omega)
def At.tw{g:Cf}{f:Ed}{h:Ev}(c:At w a g f h)(i:w.heap.size<=u.heap.size)(e:∀b,b<w.heap.size->u.heap[b]?=w.heap[b]?):At u a g f h:=
 ⟨c.row.cw<|e a c.lt,da c.nx λb d=>e b (c.nx.lt b d).2,da c.ot λb d=>e b (c.ot.lt b d).2,da c.cg λb d=>e b (c.cg.lt b d).2,da c.op λb d=>e b (c.op.lt b d).2,c.cm.keep (λb d _=>e b d) i<|λb d=> .inl d,c.ap⟩
def At.drewN{c:Cf}{b:Ed}{d:Ev}(e:At w a c b d)(f:Nat):At (w.drewN f) a c b d:=e.tw ah<|λ_ _=>rfl
def At.drew{c:Cf}{b:Ed}{d:Ev}(e:At w a c b d):At w.drew a c b d:=e.tw ah<|λ_ _=>rfl
def Fe.below{e:Ev}(b:Below w.heap.size w u):Fe a e e w u:=⟨b.os,b.tape,b.output,b.size,λd c _=>b.block d c,λd c=> .inl c,rfl⟩
def At.below{d:Cf}{b:Ed}{e:Ev}(f:At w a d b e)(c:Below w.heap.size w u):At u a d b e:=f.tw c.size c.block
def Ok(w:ae)(b:Nat)(cf:Cf)(v:Ev)(E':Ed)(w':ae):Prop:=∃v',At w' b cf E' v'/\Fe b v v' w w'
def Ok.refl{b:ae}{d:Nat}{e:Cf}{c:Ed}{a:Ev}(f:At b d e c a):Ok b d e a c b:=⟨a,f,Fe.refl _ _ _⟩
def Ok.drewN{f g:ae}{c:Nat}{d:Cf}{b:Ed}{e:Ev}(k:Ok f c d e b g)(a:Nat):Ok f c d e b (g.drewN a):=by
 have⟨h,i,j⟩:=k;exact⟨h,i.drewN a,j.drewN a⟩
def At.put{j:Cf}{g E':Ed}{h:Ev}(e:At w a j g h)(c:bf a w u)(l:bd u a (pb j E' h))(m:E'.next=g.next:=by rfl)(i:E'.out=g.out:=by rfl)(n:E'.cy=g.cy:=by rfl)(o:E'.bo=g.bo:=by rfl):Ok w a j h E' u:=by
 have d:∀b,¬ib a h b->u.heap[b]?=w.heap[b]? :=λb d=>c.block b<|λf=>d<|.inl f
 refine⟨h,⟨l,?_,?_,?_,?_,?_,e.ap⟩,⟨c.os,c.tape,c.output,yh c.size.symm,λb _ k=>d b k,λb d=> .inl d,rfl⟩⟩
 .rw[m];exact da e.nx λb d=>c.block b<|λf=>e.ap.b1<|by rw[<-f];exact d
 .rw[i];exact da e.ot λb d=>c.block b<|λf=>e.ap.b2<|by rw[<-f];exact d
 .rw[n];exact da e.cg λb d=>c.block b<|λf=>e.ap.b3<|by rw[<-f];exact d
 .rw[o];exact da e.op λb d=>c.block b<|λf=>e.ap.b4<|by rw[<-f];exact d
 exact e.cm.keep (λb _ k=>d b k) (yh c.size.symm)<|λb d=> .inl d
def jx{b:Cf}{E e:Ed}{f g:Ev}(j:bd w a (pb b E f))(c:Nat)(d:af)(h:c<21)(i:(pb b E f).set c d=pb b e g):bd (w.setCell (O a c) d) a (pb b e g):=by
 have:=j.put c (by rw[Eb];exact h) d;rw[i]at this;exact this
def Ok.trans{i e g:ae}{b:Nat}{a:Cf}{f c:Ed}{h:Ev}(n:Ok i b a h f e)(p:∀d,At e b a f d->Ok e b a d c g):Ok i b a h c g:=by
 have⟨d,k,l⟩:=n;have⟨j,m,o⟩:=p d k;exact⟨j,m,l.trans o⟩
def No(d:j<=S.size):j<=(cq S j Z).1:=by
 unfold cq;split
 .have a:=Qx S j Z d;simp only;split
  .split
   .rename_i b;have⟨e,_⟩:=ho (s:=S) (i:=(dc S j Z).1) (by rw[b];decide);have c:=Qx S ((dc S j Z).1+1) (dc S j Z).2.2.1;split
    .have:=An S dh (dc S ((dc S j Z).1+1) (dc S j Z).2.2.1).1 c.1;simp only;omega
    simp only;omega
   have:=An S dh (dc S j Z).1 a.1;simp only;omega
  simp only;omega
 exact ah
def Tg(b3:Hr i)(e:Nat)(b:ag)(a:cj)(o q:af)(j:ae)(B:Rk j e b a o q)(bP:a.U.length<=a.H)(bQ:a.bh.length<=a.H)(aQ:a.op<=5)(b1:6<=a.op+1+i):
  Calls prog 112 #[.pointer<|some ⟨e,0,none⟩] j (um 1 e b a o q j<|iw (Qqf b i) b a):=by
 have y:=B;have aN:=J b3;have b2:=B.lt;have bA:=B.cu.rc.le;have bO:=B.cu.rc.li;have b7:=B.cu;have c:∀h,o.ownBlock=some h->h<=j.heap.size:=λh s=>by obtain⟨xs,bD,_⟩:=B.own;have:=(bD.lt h s).2;omega
 have d:∀h,q.ownBlock=some h->h<=j.heap.size:=λh s=>by have:=(B.wj.lt h s).2;omega
 have aC:=J c;have aD:=J d;obtain⟨⟨n,r,u,_,_⟩,t,k⟩:=B.cu;clear B b3 c d;have x:Y (iw (Qqf b i) b a=if(cq b a.H a.bk).2.2.2.2=true then(if pk b (cq b a.H a.bk).1=33 then(if pk b (skip b dh<|(cq b a.H a.bk).1+1)=58 then({a with H:=skip b dh<|(cq b a.H a.bk).1+1,bk:=(cq b a.H a.bk).2.2.2.1},false)else lm (Qqf b i) b {a with H:=skip b dh<|(cq b a.H a.bk).1+1,bk:=(cq b a.H a.bk).2.2.2.1} {ve (cq b a.H a.bk).2.1 (cq b a.H a.bk).2.2.1 with neg:=true})else if pk b (cq b a.H a.bk).1=58 then(if(cq b a.H a.bk).1=a.H then(cj.qu {a with H:=(cq b a.H a.bk).1,bk:=(cq b a.H a.bk).2.2.2.1} b ((cq b a.H a.bk).1+1) false,decide ((cq b a.H a.bk).1+1<eg b 8 ((cq b a.H a.bk).1+1)))else({a with H:=(cq b a.H a.bk).1,bk:=(cq b a.H a.bk).2.2.2.1},false))else lm (Qqf b i) b {a with H:=(cq b a.H a.bk).1,bk:=(cq b a.H a.bk).2.2.2.1} (ve (cq b a.H a.bk).2.1 (cq b a.H a.bk).2.2.1))else({a with H:=(cq b a.H a.bk).1,bk:=(cq b a.H a.bk).2.2.2.1},false)):=rfl;generalize c:iw (Qqf b i) b a=p at x;clear c;have aR:=No b a.H a.bk bA;generalize c:cq b a.H a.bk=b5 at x aR;have b6:=J c;clear c;obtain⟨c,z,A,g,bJ⟩:=b5;simp only at x aR;go_in;go_wp21;refine(akn e b a.H a.bk _ b7).mono ?_;rw[b6.out];rintro d l ⟨v,a6,F,aA,a4,a2,a7,a3,a8,a5,rfl,aO,aP,f⟩;have aS:=J f;have bE:=aP.rc.le;have bR:=aO.size;clear f n r u t k;simp only;go_upto_region 3 with(first
  |(refine gm 4 rfl rfl 200 rfl _ Zi ?_;intro bT aG r k)
  |(refine hw rfl 200 (.tmp 4) (.tmp 14) rfl _ rfl _ rfl _ r rfl (uy _ _) (ur _ _ rfl) ?_;intro w3 aT f))
 have aJ:=(aO.trans<|Mw.below k<|by omega).bj f (by omega) b2;have P:Cu w3 e b c g:=(aP.below k).bj f (by omega);have aU:Y (du j.heap.size l.heap.size l w3):=⟨λL n aG=>(f.block L<|by omega).trans<|k.block L aG,by rw[f.size];omega⟩;have bS:l.heap.size<w3.heap.size:=by rw[f.size];omega
 clear r k f;cases bJ with
 |false=>
  have u:Y (p=({a with H:=c,bk:=g},false)):=by rw[Y,x.out];rfl
  clear x;go_wp21;go_ret;rw[u.out];exact .inr ⟨rfl,rfl,P.rc,(Fq.mw aJ).below y⟩
 |true=>
  obtain⟨f,k⟩:=aS rfl;have aV:Y (∀{b4:ae} {aF:Cm},du j.heap.size l.heap.size l b4->aF.R=0->aF.fst=z->aF.snd=A->mq b4 j.heap.size l.heap.size aF (yn v a6 F aA a4 a2 a7 a3 a8 a5)):=λL b0 n aG=>⟨by rw[n];exact λd=>(f d).of L.same L.size,by rw[aG];exact λd=>(k d).of L.same L.size,λd=>by rw[b0]at d;omega,λd=>by rw[b0]at d;omega,rfl⟩
  clear f k aS;by_cases M:pk b c=((33:Nat):Int)
  .have aI:=J M;obtain⟨aW,_⟩:=ho (s:=b) (i:=c) (by rw[M];decide);have r:Y (p=if pk b (skip b dh<|c+1)=58 then({a with H:=skip b dh<|c+1,bk:=g},false)else lm (Qqf b i) b {a with H:=skip b dh<|c+1,bk:=g} {ve z A with neg:=true}):=by rw[Y,x.out,G rfl,G<|by rw[M];rfl]
   have bF:=An b dh (c+1) (by omega);have aX:=si b dh (c+1) (by omega);generalize f:skip b dh (c+1)=t at r bF aX;have b8:=J f;clear f M x;go_wp21;go_call sr e b c 33 _ P.rc (by omega) aI as d w4 ⟨rfl,m⟩;have C:=aJ.trans<|.mv m;have D:=P.mv m (by omega);have Q:=aT.cw (m.only.block _<|by omega);have aE:=aU.mw (.mv m) (by omega);clear m;have k:=Q.xc 11;have w:=Q.frozen (k:=11) (by show 11<23;omega);have bG:Mw e j (w4.setCell (O l.heap.size 11)<|.bool true):=C.fi (by omega) b2 _;have aY:Cu (w4.setCell (O l.heap.size 11)<|.bool true) e b (c+1) g:=D.fi (by omega) _;have bH:bd (w4.setCell (O l.heap.size 11)<|.bool true) l.heap.size (ff {ve z A with neg:=true} (yn v a6 F aA a4 a2 a7 a3 a8 a5)):=bd.put Q 11 (by show 11<23;omega) _;have b9:du j.heap.size l.heap.size l (w4.setCell (O l.heap.size 11)<|.bool true):=aE.set (by omega);go_wp21;refine(Mb e b dh (c+1) _ aY.rc).mono ?_;rw[b8.out];rintro d bN ⟨rfl,f⟩;have R:=bG.trans<|.mv f;have S:=aY.mv f aX;have bI:bd bN l.heap.size (ff {ve z A with neg:=true} (yn v a6 F aA a4 a2 a7 a3 a8 a5)):=bH.cw (f.only.block _<|by omega);have aZ:=b9.mw (.mv f) (by omega);clear f k w;by_cases k:pk b t=((58:Nat):Int)
   .have E:=J k;have u:Y (p=({a with H:=t,bk:=g},false)):=by rw[Y,r.out,G<|by rw[k];rfl]
    clear k r;obtain⟨bK,bL,bM,_,_⟩:=S.rc;have w:((t:Int)==a.H)=false:=hh (by omega);go_wp2_with (go_at_call 110;refine(iz e b t _ S.rc).mono ?_;rw[E.out];rintro d aH ⟨rfl,f,rfl⟩);go_ret;rw[u.out];exact .inr ⟨rfl,rfl,S.rc.drewN f,(Fq.mw<|R.drewN f).below y⟩
   have u:Y (p=lm (Qqf b i) b {a with H:=t,bk:=g} {ve z A with neg:=true}):=by rw[Y,r.out,N<|λd=>k<|by rw[d];rfl]
   clear r;have aK:(pk b (t)==58)=false:=hh (λd=>k<|by rw[d];rfl);obtain⟨aB,K⟩:∃aB,pk b (t)=aB:=⟨_,rfl⟩;have E:=J K;rw[K]at aK;clear k K;go_wp2_with (first|(refine ir 44 rfl rfl 200 (.tmp 4) rfl _ rfl _ _ (bI.cw rfl) underlying200 rfl (uy _ _) ?_)|(go_at_call 110;refine(iz e b (t) _ S.rc).mono ?_;rw[E.out];rintro d aH ⟨rfl,f,rfl⟩));go_call ajl i aN e b {a with H:=t,bk:=g} o q _ (y.mw (R.drewN f)<|S.drewN f) ({ve z A with neg:=true}) (yn v a6 F aA a4 a2 a7 a3 a8 a5) j.heap.size l.heap.size ⟨aV (aZ.drewN f) rfl rfl rfl,by omega,(aZ.drewN f).size,λh s=> .inl<|aC h s,λh s=> .inl<|aD h s⟩ aC aD (R.drewN f).size (by show a.U.length<=t;omega) (by show a.bh.length<=t;omega) aQ b1 as d a9 H;rw[<-u.out]at H;unfold um at H;rcases H with⟨n,rfl,⟨aL,aM,T,U⟩,V,W,X,Z,a0⟩|⟨n,rfl,a1,v⟩
   .have w:Y (um 1 e b a o q j p (.returned<|.bool true) a9):=.inl ⟨n,rfl,⟨aL,aM,T,(Fq.mw<|R.drewN f).trans U⟩,V,W,X,(by simp only at Z;omega),a0⟩;clear T U W X Z a0 V n;go_wp21;go_ret;exact w
   have w:Y (um 1 e b a o q j p (.returned<|.bool false) a9):=.inr ⟨n,rfl,a1,((Fq.mw<|R.drewN f).below y).trans v⟩;clear a1 v n;go_wp21;go_ret;exact w
  have aI:=J M;have r:Y (p=if pk b c=58 then(if c=a.H then(cj.qu {a with H:=c,bk:=g} b (c+1) false,decide (c+1<eg b 8 (c+1)))else({a with H:=c,bk:=g},false))else lm (Qqf b i) b {a with H:=c,bk:=g} (ve z A)):=by rw[Y,x.out,G rfl,N<|λd=>M<|by rw[d];rfl]
  clear M x;go_wp21;go_call qq e b c 33 _ P.rc (by omega) aI as d w4 ⟨rfl,m⟩;have C:=aJ.trans<|.mv m;have D:=P.mv m bE;have Q:=aT.cw (m.only.block _<|by omega);have aE:=aU.mw (.mv m) (by omega);clear m;by_cases k:pk b c=((58:Nat):Int)
  .have E:=J k;obtain⟨aW,_⟩:=ho (s:=b) (i:=c) (by rw[k];decide);obtain⟨bK,bL,bM,_,_⟩:=D.rc;by_cases t:c=a.H
   .have u:Y (p=(cj.qu {a with H:=c,bk:=g} b (c+1) false,decide (c+1<eg b 8 (c+1)))):=by rw[Y,r.out,G<|by rw[k];rfl,G t]
    have aZ:((c:Int)==a.H)=true:=by rw[t];simp
    have b8:Y (∀S,Rk (w4.drewN S) e b {a with H:=c,bk:=g} o q):=λS=>y.mw (C.drewN S)<|D.drewN S
    have bF:=Am b 8 (c+1) (by omega);have bG:a.U.length<=c:=by omega
    have bH:a.bh.length<=c:=by omega
    have bI:a.H<=c:=by omega
    clear k r t;go_wp2_with (go_at_call 110;refine(iz e b c _ D.rc).mono ?_;rw[E.out];rintro d aH ⟨rfl,f,rfl⟩);go_call aqt e b {a with H:=c,bk:=g} o q _ (b8 f) aW (by show a.bh.length<=1000;omega) (by show a.U.length<=1000;omega)as d b9 ⟨F,rfl,aX,R⟩;have aY:=(Fq.mw<|C.drewN f).trans R;clear R;have w:Y (um 1 e b a o q j p (.returned<|.bool<|decide<|c+1<eg b 8 (c+1)) b9):=by
     rw[u.out];by_cases R:c+1<eg b 8 (c+1)
     .exact .inl ⟨by simpa using R,by rw[decide_eq_true R],⟨o,F,aX,aY⟩,rfl,(by show a.U.length<=eg b 8 (c+1);omega),(by show(a.bh++[_]).length<=eg b 8 (c+1);rw[ga,qx];omega),(by show a.H+1<=eg b 8 (c+1);omega),ah⟩
     exact .inr ⟨by simpa using R,by rw[wu R],aX.cu.rc,aY.below y⟩
    simp only;generalize decide (c+1<eg b 8 (c+1))=R at w|-;go_wp21;go_ret;exact w
   have u:Y (p=({a with H:=c,bk:=g},false)):=by rw[Y,r.out,G<|by rw[k];rfl,N t]
   have aZ:((c:Int)==a.H)=false:=hh (by omega);clear k r;go_wp2_with (go_at_call 110;refine(iz e b c _ D.rc).mono ?_;rw[E.out];rintro d aH ⟨rfl,f,rfl⟩);go_ret;rw[u.out];exact .inr ⟨rfl,rfl,D.rc.drewN f,(Fq.mw<|C.drewN f).below y⟩
  have u:Y (p=lm (Qqf b i) b {a with H:=c,bk:=g} (ve z A)):=by rw[Y,r.out,N<|λd=>k<|by rw[d];rfl]
  clear r;have aK:(pk b (c)==58)=false:=hh (λd=>k<|by rw[d];rfl);obtain⟨aB,K⟩:∃aB,pk b (c)=aB:=⟨_,rfl⟩;have E:=J K;rw[K]at aK;clear k K;go_wp2_with (first|(refine ir 44 rfl rfl 200 (.tmp 4) rfl _ rfl _ _ (Q.cw rfl) underlying200 rfl (uy _ _) ?_)|(go_at_call 110;refine(iz e b (c) _ D.rc).mono ?_;rw[E.out];rintro d aH ⟨rfl,f,rfl⟩));go_call ajl i aN e b {a with H:=c,bk:=g} o q _ (y.mw (C.drewN f)<|D.drewN f) (ve z A) (yn v a6 F aA a4 a2 a7 a3 a8 a5) j.heap.size l.heap.size ⟨aV (aE.drewN f) rfl rfl rfl,by omega,(aE.drewN f).size,λh s=> .inl<|aC h s,λh s=> .inl<|aD h s⟩ aC aD (C.drewN f).size (by show a.U.length<=c;omega) (by show a.bh.length<=c;omega) aQ b1 as d a9 H;rw[<-u.out]at H;unfold um at H;rcases H with⟨n,rfl,⟨aL,aM,T,U⟩,V,W,X,Z,a0⟩|⟨n,rfl,a1,v⟩
  .have w:Y (um 1 e b a o q j p (.returned<|.bool true) a9):=.inl ⟨n,rfl,⟨aL,aM,T,(Fq.mw<|C.drewN f).trans U⟩,V,W,X,(by simp only at Z;omega),a0⟩;clear T U W X Z a0 V n;go_wp21;go_ret;exact w
  have w:Y (um 1 e b a o q j p (.returned<|.bool false) a9):=.inr ⟨n,rfl,a1,((Fq.mw<|C.drewN f).below y).trans v⟩;clear a1 v n;go_wp21;go_ret;exact w
def Dr.drewN{b:bs}(c:Dr w a s b x h)(d:Nat):Dr (w.drewN d) a s b x h:=
 c.grow ⟨rfl,rfl,rfl,ah,λ_ _=>rfl⟩
def Qzf.set{d v:af}{xs:List af}{c:List Nd}(f:Qzf w a d xs c h):Qzf (w.setCell (O a b) v) a d xs c h:=f.of λg _ e _ _=>er _ _ _ _ e
def Dr.ux{c:bs}(k:Dr w a s c x h){v:Int}(b:Nat)(g:v=b:=by omega)(i:b<=s.size:=by omega):Dr (w.setCell (O a 4)<|I v) a s ⟨b,c.g,c.l⟩ x h:=by
 have⟨o,p,q,r,t,u,y,z,A,n,e,xs,d,f⟩:=k;subst g;have j:(w.setCell (O a 4)<|I b).ownsRow (a+1) 271 261 x c.l.length xs:=Qqo d λm l=>er _ _ _ _ (by have:=(d.lt m l).1;simp only;omega)
 exact⟨by go_simp,by go_simp,by go_simp,by go_simp,by go_simp,by go_simp,by go_simp,by go_simp,by go_simp,i,e,xs,j,f.set⟩
def Dr.Iy{b:bs}(j:Dr w a s b x h){v:Int}(c:Nat)(g:v=c:=by omega):Dr (w.setCell (O a 1)<|I v) a s ⟨b.H,c,b.l⟩ x h:=by
 have⟨n,o,p,q,r,t,u,y,z,i,e,xs,d,f⟩:=j;subst g;have k:(w.setCell (O a 1)<|I c).ownsRow (a+1) 271 261 x b.l.length xs:=Qqo d λm l=>er _ _ _ _ (by have:=(d.lt m l).1;simp only;omega)
 exact⟨by go_simp,by go_simp,by go_simp,by go_simp,by go_simp,by go_simp,by go_simp,by go_simp,by go_simp,i,e,xs,k,f.set⟩
def eh.drewN(b:eh a w u)(c:Nat):eh a w (u.drewN c):=b.trans ⟨rfl,rfl,rfl,rfl,λ_ _=>rfl⟩
def Iq(e:bs)(j:Nat->Prop)(a:ag)(o:af)(g:Nat)(f:ae)(l:Dr f i a e o j):
  Calls prog 212 #[.pointer<|some ⟨i,0,none⟩,.int .u8 g] f λk t=>k=.returned (.bool<|decide (pk a e.H=(g:Int)))/\∃n,t=f.drewN n:=by
 have⟨b,y,z⟩:=e;have⟨h,c,m,x,p,q,r,s,u,v,w,d⟩:=l;simp only at c p v;by_cases d:b<a.size
 .have c:=J<|fh d;have h:((a[b]).toNat:Int)=(au a b:Int):=oz a b d;have m:(0:Int)<=b:=by omega
  have q:(b:Int)<a.size:=by omega
  generalize au a b=r at h c;go_in;go_wp21;go_quiet (fail);go_wp21;go_ret;refine⟨pp ?_,_,rfl⟩;rw[c.out];rfl
 have c:=J<|qj d
 go_in;go_wp21;go_quiet (fail);go_wp21;go_ret;refine⟨pp ?_,_,rfl⟩;rw[c.out];simp
def Qqh(c:bs)(l:Nat->Prop)(b:ag)(p:af)(f:ae)(q:Dr f i b c p l)(o:c.H<b.size)(h:au b c.H=92->c.H+1<b.size):
  Calls prog 268 #[.pointer<|some ⟨i,0,none⟩] f λm r=>m=.returned (.int .i64 ((hy b c.H).1:Nat))/\Dr r i b ⟨(hy b c.H).2,c.g,c.l⟩ p l/\eh i f r:=by
 have j:=q;have⟨a,H,K⟩:=c;have⟨t,d,e,z,u,g,k,n,A,v,y,s⟩:=q;simp only at d u v o h j|-;have s:((b[a]).toNat:Int)=(au b a:Int):=oz b a o;have B:(0:Int)<=a:=by omega
 have C:(a:Int)<b.size:=by omega
 by_cases d:au b a=92
 .have e:Y (hy b a=(val<|au b<|a+1,a+2)):=by unfold hy;rw[Y,G d]
  have n:=h d;have x:((b[a+1]).toNat:Int)=(au b (a+1):Int):=oz b (a+1) n;have g:=ms b<|a+1;have w:Y ((b[a+1]'n).toNat=au b (a+1)):=by rw[Y];omega
  have D:(0:Int)<=a+1:=by omega
  have E:(a:Int)+1<(b.size:Int):=by omega
  rw[d]at s;generalize k:au b (a+1)=t at e x g w;go_in;go_wp21;go_quiet (fail);go_wp21;go_quiet (fail);go_wp21;go_call Ew as m F ⟨rfl,rfl⟩;go_wp21;go_ret;rw[e.out];refine⟨rfl,?_,?_⟩
  .exact((((j.drewN _).ux (v:=(a:Int)+1) (a+1)).drewN _).ux (v:=(a:Int)+1+1) (a+2))
  exact(eh.drewN ((eh.drewN (eh.refl i f) _).setCell 4 _) _).setCell 4 _
 have e:Y (hy b a=(au b a,a+1)):=by unfold hy;rw[Y,N d]
 have n:((au b a:Int)==92)=false:=by simp;omega
 have g:=ms b a;generalize k:au b a=t at e s n g;go_in;go_wp21;go_quiet (fail);go_wp21;go_ret;rw[e.out];refine⟨Lu<|by simp only,?_,?_⟩
 .exact(j.drewN _).ux (v:=(a:Int)+1) (a+1)
 exact(eh.drewN (eh.refl i f) _).setCell 4 _
section
def ky(f:Nat->Bool):List af:=(List.range 256).map λk=>Value.bool<|f k
def vg(a:Nat->Bool):(ky a).length=256:=by simp[ky]
def Hx(a:Nat->Bool){k:Nat}(b:k<256:=by omega):(ky a)[k]?=some (.bool<|a k):=by simp[ky,b]
def Sl(f:Nat->Bool)(d:Nat)(e:Bool):(ky f).set d (.bool e)=ky λa=>if a=d then e else f a:=by
 apply yyy;intro a
 by_cases b:a<256
 .rw[Hx _ b];by_cases c:a=d
  .subst c;rw[zv<|by rw[vg];exact b,G rfl]
  rw[xe<|λg=>c g.symm,Hx _ b,N c]
 rw[je<|by rw[tj,vg];omega,je<|by rw[vg];omega]
def aav(c:Nat->Bool):∀b∈ky c,b.oneCell'=true:=by
 intro b a
 simp only[ky,yzg]at a;obtain⟨d,_,rfl⟩:=a;rfl
def Nu{b g:Nat->Bool}(d:∀a,a<256->b a=g a):ky b=ky g:=by
 unfold ky;apply yyz;intro a c
 rw[d a<|by simpa using c]
def adw:(prog.info? 116).map (λa=>(a.zero,a.size))=some (some<|.agg (ky λ_=>false).toArray,(ky λ_=>false).length):=by kernel_rfl
def He(a:Nat->Bool):(prog.info? 116).map (·.size)=some (ky a).length:=by
 rw[vg];kernel_rfl
def ry(w:ae)(b:Nat):Nat:=match w.cell? (O b 4)with|some (.int _ q)=>q.toNat|_=>0
def Fx(c:w.cell? (O a 4)=some (I b)):ry w a=b:=by simp[ry,c]
def Fr.bj{e wr w':ae}(c:Qql a x y e wr)(d:bf b wr w')(j:e.heap.size<=b:=by omega):Qql a x y e w':=
 ⟨d.os.trans c.os,d.tape.trans c.tape,d.output.trans c.output,by rw[d.size];exact c.size,λf g h i=>(d.block f<|by omega).trans<|c.block f g h i,c.km⟩
def bd.only(e:bd w a l)(d:eh b w u)(c:a≠b:=by omega):bd u a l:=e.cw<|d.block a c
def ad1:(hy S j).1<256:=by
 unfold hy;split
 .have:=Mp<|ms S<|j+1;simp only;omega
 exact ms S j
def ak5:(kf S j).1=(hy S j).1:=by
 unfold kf;split<;>rfl
structure Ac(s:ag)(j:Nat):Prop where
 rn:∃m o a l,run s j=some ⟨m,o,a,l⟩/\4<=m/\m<=7/\(m=4->au s j≠94)/\(au s j=93->m=6\/m=7)
 lt:j<s.size
 n45:au s j≠45
def Ac.Pe(c:iu s)(j:Ac s a)(i:au s a≠93):(hy s a).2<s.size/\(pk s (hy s a).2=45->(hy s a).2+1<s.size/\(hy s<|(hy s a).2+1).2<=s.size):=by
 have⟨⟨t,u,v,w,k,l,x,m,_⟩,n,o⟩:=j;have⟨p,d⟩:=Pf c k n l (by omega) i o m;rw[N]at d;have e:=c.qd d p (by simp) (by simp);refine⟨e,λb=> ?_⟩;have q:au s (hy s a).2=45:=by rw[fh e]at b;omega
 have⟨_,f⟩:=(Cc c d e).2 q;have g:=c.qd f (by omega) (by simp) (by simp);have h:=Cc c f g;have⟨r,y⟩:=Pf c f g (by omega) (by omega) (λb=>by have:=(h.1 b).1;omega) (λb=>by have:=(h.2 b).1;omega) (λb=>by omega);exact⟨g,r⟩
def Ac.next(f:iu s)(p:Ac s a)(g:au s a≠93):Ac s (kf s a).2.2:=by
 have⟨⟨u,h,i,v,j,k,l,m,_⟩,n,o⟩:=p;have⟨c,q,r,d,b⟩:=aay f j n k l g o m;have t:=Cc f d c;refine⟨⟨q,h,i,r,d,by omega,by omega,λe=>by omega,λ_=>by omega⟩,c,λe=> ?_⟩;have:=(t.2 e).1;rcases b with b|⟨_,b⟩
 .omega
 rw[fh c]at b;omega
def Ac.first(h:iu s)(g:run s (a+1)=some ⟨4,b,c,d⟩)(p:a<s.size):Ac s (if pk s (a+1)=94 then a+2 else a+1)/\a+1<s.size:=by
 have f:=h.qd g (by omega) (by simp) (by simp);have j:=Cc h g f;have m:au s (a+1)≠93:=λe=>by have:=(j.1 e).1;omega
 have n:au s (a+1)≠45:=λe=>by have:=(j.2 e).1;omega
 refine⟨?_,f⟩;split
 .rename_i e;have o:au s (a+1)=94:=by rw[fh f]at e;omega
  have i:run s (a+2)=some ⟨5,b,c,d⟩:=by
   show run s (a+1+1)=_
   rw[lf g,Ml (by simp)<|by simp,o];rfl
  have k:=h.qd i (by omega) (by simp) (by simp);have l:=Cc h i k;exact⟨⟨5,b,c,d,i,by omega,by omega,λe=>by omega,λe=>by have:=(l.1 e).1;omega⟩,k,λe=>by have:=(l.2 e).1;omega⟩
 rename_i e;exact⟨⟨4,b,c,d,g,by omega,by omega,λ_=>Ix f e,λe=>cb e m⟩,f,n⟩
def ags(e:Nat->Bool)(c b:Nat)(f:c<=b):(ky λa=>e a||(decide (c<=a)&&decide (a<b))).set b (.bool true)=ky λa=>e a||(decide (c<=a)&&decide (a<b+1)):=by
 rw[Sl];apply Nu;intro a _
 by_cases d:a=b
 .subst d;simp[f]
 have:(a<b)↔(a<b+1):=by omega
 simp[d,this]
def as6(c:Nat->Bool)(d:Bool)(b:Nat):(ky λa=>if a<b then c a !=d else c a).set b (.bool<|c b !=d)=ky λa=>if a<b+1 then c a !=d else c a:=by
 rw[Sl];apply Nu;intro a _
 by_cases e:a=b
 .subst e;simp
 have:(a<b)↔(a<b+1):=by omega
 simp[e,this]
structure SR(w wr:ae)(b:Nat)(s:ag)(g:Nat)(l:List Nd)(nv:af)(X:Nat->Prop)(j j0:Nat)(S:Nat->Bool):Prop where
 z:bd wr w.heap.size (ky λ_=>false)
 r:bd wr (w.heap.size+1) (ky S)
 d:Dr wr b s ⟨j,g,l⟩ nv (λk=>X k\/w.heap.size<=k)
 fr:Qql b nv nv w wr
def SR.only{c wr j:ae}{a:Nat}{i:ag}{f:Nat}{h:List Nd}{b:af}{e:Nat->Prop}{o l m:Nat}{k:Nat->Bool}(g:SR c wr a i f h b e o m k)(d:eh a wr j)(p:a<c.heap.size)(hd:Dr j a i ⟨l,f,h⟩ b (λn=>e n\/c.heap.size<=n)):SR c j a i f h b e l m k:=
 ⟨bd.only g.z d,bd.only g.r d,hd,g.fr.trans<|eh.fr d b⟩
def SR.put{d wr g:ae}{l:List Nd}{k c:Nat}{m j:Nat->Bool}(f:SR d wr a s b l x h k c m)(e:bf (d.heap.size+1) wr g)(n:bd g (d.heap.size+1) (ky j))(i:a<d.heap.size)(o:x.ownBlock≠some (d.heap.size+1)):SR d g a s b l x h k c j:=
 ⟨f.z.bj e,n,f.d.bj e (by omega) o<|.inr<|by omega,Fr.bj f.fr e⟩
attribute [local go_sem↓] Go.wp_at_zero Go.wp_at_succ
def Qzh(r:List Nd)(w:Nat->Prop)(a:ag)(l:af)(m:ae)(V:Dr m i a ⟨j+1,k,r⟩ l w)(a9:iu a)(bE aY aZ:Nat)(aK:run a (j+1)=some ⟨4,bE,aY,aZ⟩)(aJ:j<a.size):
  Calls prog 260 #[.pointer<|some ⟨i,0,none⟩] m λt aX=>t=.returned (.agg (ky (vh a j).2).toArray)/\Dr aX i a ⟨(vh a j).1,k,r⟩ l w/\Qql i l l m aX:=by
 have aL:=V;have aM:=J a9;have y:=V.lt;have bF:=V.li;have aA:Y (l.ownBlock≠some (m.heap.size+1)):=by
  obtain⟨xs,aB,_⟩:=V.own;exact λt=>by have:=(aB.lt _ t).2;omega
 obtain⟨b,bG⟩:=Ac.first a9 aK aJ
 obtain⟨u,z⟩:∃u,u=decide (pk a (j+1)=((94:Nat):Int)):=⟨_,rfl⟩;have h:Y (Ac a<|if u=true then j+2 else j+1):=by
  rw[Y,z];simpa using b
 have g:Y (vh a j=if u=true then((dSetL a (a.size+1) (j+2) dp).1,λc=> !(dSetL a (a.size+1) (j+2) dp).2 c)else dSetL a (a.size+1) (j+1) dp):=by
  rw[Y,z];unfold vh;simp
 have b0:=J z;clear V a9 aK b z;go_in;go_wp2_with (first
  |(refine gm 2 rfl rfl 116 rfl _ adw ?_;intro bH b1 q n)
  |(refine gm 3 rfl rfl 116 rfl _ adw ?_;intro W X f b;rw[b1]at f b X;have Z:=J b;clear b))
 have d:=n.trans (Z.mono<|by omega);have F:Y (SR m W i a k r l w (j+1) (j+1) dp):=⟨q.below Z.out<|by omega,f,(aL.tu _<|λb aC p=>p.elim id<|λp=>by omega).grow d,Below.Qqr d l⟩;go_call Iq i ⟨j+1,k,r⟩ _ a l 94 _ F.d as t w3 ⟨rfl,U,rfl⟩;rw[<-b0.out];have M:=F.out.only (eh.drewN (eh.refl i W) U) y<|F.out.d.drewN U;have s:Y (∃o w4,o=(if u=true then j+2 else j+1)/\(w4=if u=true then(W.drewN U).setCell (O i 4) (I<|(j:Int)+1+1)else W.drewN U)):=⟨_,_,rfl,rfl⟩;obtain⟨o,w4,e,a0⟩:=s.out;have bI:=J e;have aD:Y (SR m w4 i a k r l w o o dp):=by
  rw[Y,a0,e];split
  .have:=M.only ((eh.refl i<|W.drewN U).setCell 4 _) y (M.d.ux (v:=(j:Int)+1+1) (j+2) (by omega)<|by omega);exact⟨this.z,this.r,this.d,this.fr⟩
  exact M
 have aN:Y (Ac a o):=by rw[Y,e];exact h.out
 have aO:Y (vh a j=((dSetL a (a.size+1) o dp).1,λc=>(dSetL a (a.size+1) o dp).2 c !=u)):=by
  rw[Y,g.out,e];split
  .rename_i p;rw[p];congr 1;funext c;cases(dSetL a (a.size+1) (j+2) dp).2 c<;>rfl
  rename_i p;have:u=false:=by simpa using p
  rw[this];generalize dSetL a (a.size+1) (j+1) dp=x;obtain⟨H,C⟩:=x;simp only;congr 1;funext c;cases C c<;>rfl
 have P:=M.d.c4;have a1:=M.d.f4;clear e s g h q f n Z F d;rcases df u with z|z
 all_goals
  rw[z]at a0|-;have b2:=J z;clear z;simp only[Ax,yyv,if_true]at a0;go_wp21;rw[<-a0];clear a0 P a1;go_loopw [] (λwr=>∃a2 f x,SR m wr i a k r l w a2 o f/\Ac a a2/\a.size<x+a2/\a2<=a.size/\Y (dSetL a (a.size+1) o dp=dSetL a x a2 f)) (λwr=>a.size-ry wr i)
  case atStart=>exact⟨o,dp,a.size+1,aD.out,aN.out,by omega,aD.d.le,rfl⟩
  obtain⟨e,f,x,d,a6,bJ,bK,aP⟩:=hrel;have F:=J d;have aQ:=J<|Fx d.d.c4;clear d M aD aN;go_wp21;go_call Iq i ⟨e,k,r⟩ _ a l 93 _ F.d as t bL ⟨rfl,aE,rfl⟩;have Q:=F.out.only (eh.drewN (eh.refl i wr) aE) y<|F.out.d.drewN aE;simp only;by_cases C:pk a e=((93:Nat):Int)
  .have hd:decide (pk a e=((93:Nat):Int))=true:=by simpa using C
   rw[hd];have g:Y (dSetL a (a.size+1) o dp=(e+1,f)):=by
    rw[aP.out,show x=(x-1)+1 by omega,dSetL,G (show pk a e=93 from C)];rfl
   have H:=a6.lt;have P:=Q.d.c4;have a1:=Q.d.f4;clear hd C;have K:=Q.only ((eh.refl i _).setCell 4 _) y (Q.d.ux (v:=(e:Int)+1) (e+1) (by omega)<|by omega);go_wp21;generalize(wr.drewN aE).setCell (O i 4) (I<|(e:Int)+1)=aF at K|-;clear P a1;go_loopw [10] (λq a3=>∃b:Nat,b<=256/\q=I b/\SR m a3 i a k r l w (e+1) o (λc=>if c<b then f c !=u else f c)) (λq _=>256-(intOf q).toNat)
   case atStart=>exact⟨0,by omega,rfl,by simpa using K⟩
   obtain⟨b,aC,rfl,h⟩:=hrel;by_cases H:b<256
   .have R:=h.r.cell<|Hx _ H;have aR:=h.r.frozen (k:=b) (by rw[vg];exact H);rw[N<|Nat.lt_irrefl b]at R;have aS:(0:Int)<=b:=by omega
    have aT:(b:Int)<256:=by omega
    have a4:Y (∀q,q=(f b !=u)->bd (wr.setCell (O (m.heap.size+1) b)<|.bool q) (m.heap.size+1) (ky λc=>if c<b+1 then f c !=u else f c)):=by
     intro q d
     subst d;have:=h.r.put b (by rw[vg];exact H)<|.bool<|f b !=u;rw[as6]at this;exact this
    rcases df (f b)with d|d
    all_goals
     rw[d]at R;have n:=J d;clear d;go_wp21;go_roundw
     case rel=>exact⟨b+1,by omega,by go_num,h.put xxs (a4.out _<|by simp[n.out,b2.out]) y aA.out⟩
     simp[intOf];omega
   have n:b=256:=by omega
   subst n;have aG:Y (bd wr (m.heap.size+1)<|ky (vh a j).2):=by
    have:=h.r;rw[Nu (g:=(vh a j).2) (λc d=>by rw[aO.out,g.out];simp[d])]at this;exact this
   have s:Y ((vh a j).1=e+1):=by rw[Y,aO.out,g.out]
   have v:=h.z;go_wp2_with (first
    |(refine ir 65 rfl rfl 116 (.tmp 3) rfl _ rfl _ _ aG.out underlying116 rfl (He _) ?_)
    |(refine hw rfl 116 (.tmp 2) (.tmp 65) rfl _ rfl _ rfl _ v (by rw[vg,vg]) (He _) (aav _) ?_;intro b3 D d))
   refine wb 2 116 results260 rfl _ rfl _ _ D underlying116 rfl (He _) ⟨rfl,?_,Fr.bj h.fr d ah⟩;rw[s.out];exact(h.d.bj d (by omega) (by
    obtain⟨xs,aB,_⟩:=aL.own;exact λt=>by have:=(aB.lt _ t).2;omega)<|.inr ah).tu _<|λb _ p=> .inl p
  have hd:decide (pk a e=((93:Nat):Int))=false:=by simpa using C
  rw[hd];have H:=a6.lt;have aU:=J<|Ix H C;have b4:=a6.Pe aM.out aU.out;obtain⟨b5,d⟩:=b4;have aG:=J d;have a7:=a6.next aM.out aU.out
  have a8:Y (dSetL a (a.size+1) o dp=dSetL a (x-1) (kf a e).2.2 (kx f (kf a e).1 (kf a e).2.1)):=by
   rw[Y,aP.out,show x=(x-1)+1 by omega,dSetL,N (show ¬pk a e=93 from C)];rfl
  clear hd C d;go_wp21;refine(Qqh i ⟨e,k,r⟩ _ a l _ Q.d H<|λt=> ?_).mono ?_
  .have:(hy a e).2=e+2:=by unfold hy;rw[G (show au a e=92 from t)]
   show e+1<a.size
   omega
  rintro t aF ⟨rfl,d,g⟩;have K:=Q.only g y d;have b6:=J<|ad1 a e;clear d g;go_wp21;go_call Iq i ⟨(hy a e).2,k,r⟩ _ a l 45 _ K.d as t b3 ⟨rfl,aH,rfl⟩;have S:=K.only (eh.drewN (eh.refl i aF) aH) y<|K.d.drewN aH;simp only;have v:Y (∃g aJ n,kf a e=(g,aJ,n)/\g=(hy a e).1):=⟨(kf a e).1,(kf a e).2.1,(kf a e).2.2,rfl,ak5 a e⟩;obtain⟨g,d,n,s,a5⟩:=v.out;have Z:=J s;rw[s]at a7 a8;simp only at a7 a8;have bM:e<n:=by have:=Jy a e;rw[s]at this;exact this
  have bN:g<256:=by rw[a5];exact b6.out
  clear v;by_cases v:pk a (hy a e).2=((45:Nat):Int)
  .have hd:decide (pk a (hy a e).2=((45:Nat):Int))=true:=by simpa using v
   rw[hd];obtain⟨aV,b7⟩:=aG.out v;have D:d=(hy a<|(hy a e).2+1).1/\n=(hy a<|(hy a e).2+1).2:=by
    unfold kf at s;rw[G (show pk a (hy a e).2=45 from v)]at s;cases s
    exact⟨rfl,rfl⟩
   have bO:d<256:=by rw[D.1];exact ad1 _ _
   have P:=S.d.c4;have a1:=S.d.f4;have L:=J D;have b8:=J a5;clear hd v D s a5;generalize A:(hy a e).2=E at S aV b7 L K b5 P|-;have bP:=J A;clear A;have aW:=S.only ((eh.refl i _).setCell 4 _) y (S.d.ux (v:=(E:Int)+1) (E+1) (by omega)<|by omega);go_wp21;refine(Qqh i ⟨E+1,k,r⟩ _ a l _ aW.d aV<|λt=> ?_).mono ?_
   .have:(hy a<|E+1).2=E+1+2:=by unfold hy;rw[G (show au a (E+1)=92 from t)]
    show E+1+1<a.size
    omega
   rintro t b9 ⟨rfl,B,T⟩;have A:Y (SR m b9 i a k r l w n o f):=by
    rw[L.2];exact aW.only T y B
   clear B T P a1;simp only;rw[<-L.1,<-b8.out];go_wp21;go_loopw [9] (λq a3=>∃b:Nat,g<=b/\(b<=d+1\/b=g)/\q=I b/\SR m a3 i a k r l w n o (λc=>f c||(decide (g<=c)&&decide (c<b)))) (λq _=>d+1-(intOf q).toNat)
   case atStart=>exact⟨g,ah,.inr rfl,rfl,by
    have:(λc=>f c||(decide (g<=c)&&decide (c<g)))=f:=by
     funext c;by_cases p:g<=c
     .have X:¬c<g:=by omega
      simp[X]
     simp[p]
    rw[this];exact A.out⟩
   obtain⟨b,T,aC,rfl,h⟩:=hrel;by_cases bA:b<=d
   .have R:=h.r.cell (Hx _ (k:=b)<|by omega);have aR:=h.r.frozen (k:=b) (by rw[vg];omega);have aS:(0:Int)<=b:=by omega
    have aT:(b:Int)<256:=by omega
    have a4:Y (bd (wr.setCell (O (m.heap.size+1) b)<|.bool true) (m.heap.size+1) (ky λc=>f c||(decide (g<=c)&&decide (c<b+1)))):=by
     have:=h.r.put b (by rw[vg];omega)<|.bool true;rw[ags _ _ _ T]at this;exact this
    generalize aI:(f b||(decide (g<=b)&&decide (b<b)))=bD at R;clear aI;go_wp21;go_roundw
    case rel=>exact⟨b+1,by omega,by omega,by go_num,h.put xxs a4.out y aA.out⟩
    simp[intOf];omega
   have B:Y (SR m wr i a k r l w n o<|kx f g d):=by
    have:kx f g d=(λc=>f c||(decide (g<=c)&&decide (c<b))):=by
     funext c;unfold kx;by_cases p:g<=c
     .have:(c<=d)↔(c<b):=by omega
      simp[p,this]
     simp[p]
    rw[this];exact h
   clear h;go_wp21;go_roundw
   case rel=>exact⟨n,kx f g d,x-1,B.out,a7,by omega,B.d.le,a8.out⟩
   have L:=Fx B.d.c4;have A:=aQ.out;rw[L,A];simp only;omega
  have hd:decide (pk a (hy a e).2=((45:Nat):Int))=false:=by simpa using v
  rw[hd];have D:d=g/\n=(hy a e).2:=by
   unfold kf at s;rw[N (show ¬pk a (hy a e).2=45 from v)]at s;cases s
   exact⟨rfl,rfl⟩
  have A:Y (SR m (aF.drewN aH) i a k r l w n o f):=by rw[D.2];exact S
  have E:=D.1;subst E;clear hd v D s Z;rw[<-a5];clear a5;go_wp21;go_loopw [9] (λq a3=>∃b:Nat,d<=b/\(b<=d+1\/b=d)/\q=I b/\SR m a3 i a k r l w n o (λc=>f c||(decide (d<=c)&&decide (c<b)))) (λq _=>d+1-(intOf q).toNat)
  case atStart=>exact⟨d,ah,.inr rfl,rfl,by
   have:(λc=>f c||(decide (d<=c)&&decide (c<d)))=f:=by
    funext c;by_cases p:d<=c
    .have X:¬c<d:=by omega
     simp[X]
    simp[p]
   rw[this];exact A.out⟩
  obtain⟨b,T,aC,rfl,h⟩:=hrel;by_cases bA:b<=d
  .have R:=h.r.cell (Hx _ (k:=b)<|by omega);have aR:=h.r.frozen (k:=b) (by rw[vg];omega);have aS:(0:Int)<=b:=by omega
   have aT:(b:Int)<256:=by omega
   have a4:Y (bd (wr.setCell (O (m.heap.size+1) b)<|.bool true) (m.heap.size+1) (ky λc=>f c||(decide (d<=c)&&decide (c<b+1)))):=by
    have:=h.r.put b (by rw[vg];omega)<|.bool true;rw[ags _ _ _ T]at this;exact this
   generalize aI:(f b||(decide (d<=b)&&decide (b<b)))=bD at R;clear aI;go_wp21;go_roundw
   case rel=>exact⟨b+1,by omega,by omega,by go_num,h.put xxs a4.out y aA.out⟩
   simp[intOf];omega
  have B:Y (SR m wr i a k r l w n o<|kx f d d):=by
   have:kx f d d=(λc=>f c||(decide (d<=c)&&decide (c<b))):=by
    funext c;unfold kx;by_cases p:d<=c
    .have:(c<=d)↔(c<b):=by omega
     simp[p,this]
    simp[p]
   rw[this];exact h
  clear h;go_wp21;go_roundw
  case rel=>exact⟨n,kx f d d,x-1,B.out,a7,by omega,B.d.le,a8.out⟩
  have L:=Fx B.d.c4;have A:=aQ.out;rw[L,A];simp only;omega
end
section
def Ky(b:Nd)(sv:af):dk b sv=I b.R::(ky b.set++[sv,I b.num,I b.lo,I b.hi]):=rfl
def Vw(b:Nd)(sv:af)(c:Nat):(dk b sv).set 0 (I c)=dk {b with R:=c} sv:=rfl
def Vx(c:Nd)(sv:af)(f:b<256)(e:Bool):(dk c sv).set (b+1) (.bool e)=dk {c with set:=λd=>if d=b then e else c.set d} sv:=by
 rw[Ky,Ky,yyl,List.set_append_left _ _<|by rw[vg];exact f,Sl]
def Po(b:Nd)(sv:af)(c:Nat)(d:af):(dk b sv).set (257+c) d=I b.R::(ky b.set++[sv,I b.num,I b.lo,I b.hi].set c d):=by
 rw[Ky,show 257+c=(256+c)+1 by omega,yyl,yyj _ _<|by rw[vg];omega,vg,show 256+c-256=c by omega]
def ae1(b:Nd)(sv c:af):(dk b sv).set 257 c=dk b c:=Po b sv 0 c
def aq7(b:Nd)(sv:af)(c:Nat):(dk b sv).set 258 (I c)=dk {b with num:=c} sv:=Po b sv 1 _
def ae0(b:Nd)(sv:af)(c:Nat):(dk b sv).set 259 (I c)=dk {b with lo:=c} sv:=Po b sv 2 _
def Kz(b:Nd)(sv:af)(c:Int):(dk b sv).set 260 (I c)=dk {b with hi:=c} sv:=Po b sv 3 _
def bd.as4{w:ae}{f:Nd}{sv:af}(g:bd w b (dk f sv))(d:Nat->Bool):bd (w.setCells b 1<|ky d) b (dk {f with set:=d} sv):=by
 have j:w.there b 1 (ky d).length:=λc k=>by
  have:=g.free (1+c) (by rw[vg]at k;rw[gy];omega);simpa using this
 have i:(dk {f with set:=d} sv).length=(dk f sv).length:=by rw[gy,gy]
 refine⟨λc m e=>?_,by rw[i];exact World.there_setCells g.free b 1 _⟩;rw[qo];by_cases l:c=0
 .subst l;rw[yzr b _ _ _ _<|λ_ _=> .inl<|by show 0<1;omega];exact g.cell e
 by_cases n:c<=256
 .have h:=World.rangeAt_setCells_same w b 1 (ky d) j (c-1) m (by
   rw[show c=(c-1)+1 by omega,La _ _]at e;rw[Hx _];exact e)
  rw[show 1+(c-1)=c by omega]at h;exact h
 rw[yzr b _ _ _ _<|λ_ _=> .inr<|by show 1+(ky d).length<=c;rw[vg];omega];apply g.cell;rw[show c=257+(c-257)by omega,wl]at e|-;exact e
section
variable {P:Program} {ops:Array Oper} {rest:List Oper} {op:Oper} {a:Act} {w:ae} {Q:Exit->Act->ae->Prop}
def Re(f:op.dst=some i)(g:op.guard=none)(b:TypeId)(parts:Array (Nat×Operand))(h:op.op=.build b parts)(d:List af)(l:P.built b (parts.toList.map λc=>(c.1,a.eval c.2))=some d.toArray)
  (j:wpList P ops Q rest (a.put (some i)<|.agg d.toArray) w):wpList P ops Q (op::rest) a w:=by
 refine zyg g λn m=>?_
 have e:P.built b (parts.map λ(k,c)=>(k,a.eval c)).toList=some d.toArray:=by rw[Array.toList_map];exact l
 refine wp_build b parts h (by rw[e];rfl) ?_;rw[e,f];exact m _ _ j
def aw3(j:op.guard=none)(d:TypeId)(f g:Operand)(m:op.op=.store d f g)(b:Nat)(o:a.eval f= ab b 1)(c:Nat->Bool)(p:a.eval g=.agg (ky c).toArray)(h:Nd)(sv:af)
  (i:bd w b (dk h sv)) (l:(P.info? d).map (·.size)=some (ky c).length)
  (k:∀e,bd e b (dk {h with set:=c} sv)->bf b w e->wpList P ops Q rest (a.put op.dst undef) e):wpList P ops Q (op::rest) a w:=by
 have q:w.there b 1 (ky c).toArray.size:=λn r=>by
  have:=i.free (1+n) (by simp[vg]at r;rw[gy];omega);simpa using this
 refine wpList_store_mid j d f g m b 1 (ky c).toArray o p q (by simpa using l) (all_oneCell_toArray<|aav c) ?_;have:=k (w.setCells b 1<|ky c) (bd.as4 i c)<|bf.setCells b _ 1 w;simpa using this
end
def Rg:(prog.info? 271).map (λb=>(b.zero,b.size))=some (some<|.agg (dk ⟨0,dp,[],0,0,0⟩<|.slice none 0 0).toArray,(dk ⟨0,dp,[],0,0,0⟩<|.slice none 0 0).length):=by kernel_rfl
def Qjg(b:Nd)(sv:af):(prog.info? 271).map (·.size)=some (dk b sv).length:=by rw[gy];kernel_rfl
def alg:prog.built 271 [(0,I 0)]=some (dk ⟨0,dp,[],0,0,0⟩<|.slice none 0 0).toArray:=by kernel_rfl
def alh:prog.built 271 [(0,I 4)]=some (dk ⟨4,dp,[],0,0,0⟩<|.slice none 0 0).toArray:=by kernel_rfl
def ali:prog.built 271 [(0,I 5)]=some (dk ⟨5,dp,[],0,0,0⟩<|.slice none 0 0).toArray:=by kernel_rfl
def alj(b:Option Addr):prog.built 271 [(0,I 6),(2,.slice b 1 1)]=some (dk ⟨6,dp,[],0,0,0⟩<|.slice b 1 1).toArray:=by kernel_rfl
def Tp(s:ag):∀(f b:Nat)(c:Nat->Bool),b<=(dSetL s f b c).1
 |0,b,c=>ah
 |f+1,b,c=>by
  have d:=Jy s b;rw[dSetL];split
  .simp only;omega
  have:=Tp s f (kf s b).2.2<|kx c (kf s b).1 (kf s b).2.1;omega
def abw(s:ag)(b:Nat):b<(vh s b).1:=by
 unfold vh;split
 .have:=Tp s (s.size+1) (b+2) dp;simp only;omega
 have:=Tp s (s.size+1) (b+1) dp;omega
section
variable {ch:bs->bs×Nat} {s:ag}
def abh(c:∀b,(ch b).1.l.length+2*b.H<=b.l.length+2*(ch b).1.H+2)(b:bs):(ep ch s b).1.l.length+2*b.H+1<=b.l.length+2*(ep ch s b).1.H:=by
 have d:=c ⟨b.H+1,b.g+1,b.l⟩;have e:=abw s b.H;unfold ep;simp only at d|-
 (repeat' split)<;>simp only[cp,ga,xv,List.length_nil]<;>omega
def abi(c:∀b,(ch b).1.l.length+2*b.H<=b.l.length+2*(ch b).1.H+2)(b:bs):(ki ch s b).1.l.length+2*b.H+1<=b.l.length+2*(ki ch s b).1.H:=by
 have d:=abh (s:=s) c b;unfold ki;simp only
 (repeat' split)<;>first|(simp only[cp,ga,xv,List.length_nil];omega)|omega
def Tf(d:∀b,(ch b).1.l.length+2*b.H<=b.l.length+2*(ch b).1.H+2):∀(f:Nat)(b:bs)(c:List Nat),(qs ch s f b c).1.l.length+2*b.H<=b.l.length+2*(qs ch s f b c).1.H+1
 |0,b,c=>by simp only[qs];omega
 |f+1,b,c=>by
  have e:=abi (s:=s) d b;have g:=Tf d f (ki ch s b).1<|c++[(ki ch s b).2];rw[qs];split
  .simp only[cp,ga,xv,List.length_nil];omega
  simp only;omega
def abg(d:∀b,(ch b).1.l.length+2*b.H<=b.l.length+2*(ch b).1.H+2):∀(f:Nat)(b:bs)(c:List Nat),(sw ch s f b c).1.l.length+2*b.H<=b.l.length+2*(sw ch s f b c).1.H+2
 |0,b,c=>by simp only[sw];omega
 |f+1,b,c=>by
  have g:(ip ch s b).1.l.length+2*b.H<=b.l.length+2*(ip ch s b).1.H+1:=Tf d (s.size+1) b [];have e:=abg d f ⟨(ip ch s b).1.H+1,(ip ch s b).1.g,(ip ch s b).1.l⟩<|c++[(ip ch s b).2];rw[sw];simp only at e|-;split
  .omega
  simp only[cp,ga,xv,List.length_nil];omega
end
def If(s:ag):∀(n:Nat)(b:bs),(dz s n b).1.l.length+2*b.H<=b.l.length+2*(dz s n b).1.H+2
 |0,b=>by simp only[dz];omega
 |n+1,b=>abg (If s n) _ _ _
section
variable {ch:bs->bs×Nat} {s:ag}
def aoy(c:∀b,(ch b).1.g+b.H<=b.g+(ch b).1.H)(b:bs):(ep ch s b).1.g+b.H<=b.g+(ep ch s b).1.H:=by
 have d:=c ⟨b.H+1,b.g+1,b.l⟩;have e:=abw s b.H;unfold ep;simp only at d|-
 (repeat' split)<;>simp only[cp]<;>omega
def ac3(c:∀b,(ch b).1.g+b.H<=b.g+(ch b).1.H)(b:bs):(ki ch s b).1.g+b.H<=b.g+(ki ch s b).1.H:=by
 have d:=aoy (s:=s) c b;unfold ki;simp only
 (repeat' split)<;>first|(simp only[cp];omega)|omega
def Ul(d:∀b,(ch b).1.g+b.H<=b.g+(ch b).1.H):∀(f:Nat)(b:bs)(c:List Nat),(qs ch s f b c).1.g+b.H<=b.g+(qs ch s f b c).1.H
 |0,b,c=>by simp only[qs];omega
 |f+1,b,c=>by
  have e:=ac3 (s:=s) d b;have g:=Ul d f (ki ch s b).1<|c++[(ki ch s b).2];rw[qs];split
  .simp only[cp];omega
  simp only;omega
def ac2(d:∀b,(ch b).1.g+b.H<=b.g+(ch b).1.H):∀(f:Nat)(b:bs)(c:List Nat),(sw ch s f b c).1.g+b.H<=b.g+(sw ch s f b c).1.H
 |0,b,c=>by simp only[sw];omega
 |f+1,b,c=>by
  have g:(ip ch s b).1.g+b.H<=b.g+(ip ch s b).1.H:=Ul d (s.size+1) b [];have e:=ac2 d f ⟨(ip ch s b).1.H+1,(ip ch s b).1.g,(ip ch s b).1.l⟩<|c++[(ip ch s b).2];rw[sw];simp only at e|-;split
  .omega
  simp only[cp];omega
end
def Ox(s:ag):∀(n:Nat)(b:bs),(dz s n b).1.g+b.H<=b.g+(dz s n b).1.H
 |0,b=>by simp only[dz];omega
 |n+1,b=>ac2 (Ox s n) _ _ _
end
section
def Gl.start{b w3 w4:ae}{f:Fp}{h:Option Nat}{g:co}{d:Nd}(c:Gs b b f h g)(i:Below b.heap.size b w3)(j:bf b.heap.size w3 w4)(p:bd w4 b.heap.size (dk d<|.slice o d.ba.length a))(k:Ad b f.N0 d o):Gl b w4 f h g d o a:=by
 have l:=c.fd.lt;have m:=c.fd.kl;have n:=c.fd.el;have s:=c.fd.nf;refine⟨(c.grow i).bj j ah (by omega) (by omega) (by omega) (by omega) (λe=>by have:=(c.ap _ e).2.2.2.2;omega),p,l,m,n,λq e=>(c.ap q e).2.2.2.2,by omega,k.below ?_⟩;have r:=Below.bj i j ah;exact r.mono<|by omega
attribute [local go_sem↓] Ba ze Fb Fh Go.wp_at_zero Go.wp_at_succ
def Um(c:Fp)(b:Nat)(a:Nd)(hd:c.bc[b]?=some a)(k:a.R=0\/a.R=1\/a.R=2)(f:∀(b:Nat)(a:Nd),c.bc[b]?=some a->a.R=3->a.ba≠[]):yj c b:=by
 intro P s t e z j w x A l
 have d:=j.fd;have B:b<c.bc.length:=by
  rcases hb b c.bc.length with h|h
  .exact h
  rw[je h]at hd;cases hd
 have⟨m,n,i,g⟩:=d.tree.node b a hd;have u:=J i;have v:=J g;have⟨y,o⟩:=d.tree.c0;have p:=d.c0;have C:(0:Int)<=b:=by omega
 have D:(b:Int)<c.bc.length:=by omega
 have E:((a.R:Int)==3)=false:=by simp;omega
 have F:((a.R:Int)==4)=false:=by simp;omega
 have H:((a.R:Int)==5)=false:=by simp;omega
 have K:((a.R:Int)==6)=false:=by simp;omega
 have q:Y (Gq c.s c.bc b s t e e):=by
  rw[Y,Jo d.wf f hd,N,N,N,N]
 go_in;go_wp2_with (first
  |(refine wpList_load_mid rfl 271 (.tmp 25) rfl c.nb (b*261) rfl (dk a<|.slice m a.ba.length n) _ u underlying271 rfl (jc _ _) ?_)
  |(refine gm 8 rfl rfl 271 rfl _ xa ?_;intro w3 f l r)
  |(refine hw rfl 271 (.tmp 8) (.tmp 26) rfl _ rfl _ rfl _ l (by rw[gy,gy]) (jc _ _) (vl _ _ _ _) ?_;intro w4 d g;have i:=Gl.start j r g d v;have L:=i.nd.R;clear d g p o))
 go_returns;exact⟨rfl,e,q,rfl,i.gs⟩
def ao6(b:Fp)(c:Nat)(a:Nd)(hd:b.bc[c]?=some a)(v:a.R=3)(m:∀(c:Nat)(a:Nd),b.bc[c]?=some a->a.R=3->a.ba≠[])(f:Nat)(l:a.ba=[f])(x:yj b f)(a4:a.ba.length<=1000)(R:a.num<b.eu)(a5:b.eu<=1000):yj b c:=by
 intro aK g i d s k D E U n
 have A:=k;have e:=k.fd;have aA:c<b.bc.length:=by
  rcases hb c b.bc.length with h|h
  .exact h
  rw[je h]at hd;cases hd
 have⟨S,T,y,u⟩:=e.tree.node c a hd;have K:=J y;have L:=J u;have⟨a6,W⟩:=e.tree.c0;have Q:=e.c0;have aB:(0:Int)<=c:=by omega
 have aC:(c:Int)<b.bc.length:=by omega
 have aG:(a.R:Int)=3:=by omega
 have p:a.ba[0]?=some f:=by rw[l];rfl
 have z:a.ba.getD 0 0=f:=by rw[yz,p];rfl
 have C:Y (∀o,Gq b.s b.bc f g i (d.set a.num ((g:Int),(i:Int))) o->Gq b.s b.bc c g i d o):=by
  intro o h
  rw[Jo e.wf m hd,G v,z];exact h
 have B:Y (bi b.s b.bc f g i):=by
  rw[oy e.wf hd,N,N,N,N,N]at n;have⟨r,j,q⟩:=n;rw[l]at j;obtain rfl:r=f:=by simpa using j
  exact q
 have M:=J p;have P:=J x;obtain⟨j,w⟩:∃j,s=some j:=by
  have⟨j,t,_⟩:=k.cs a.num d[a.num] (dy<|by omega);exact⟨j,t⟩
 have a2:(0:Int)<a.ba.length:=by rw[l];simp
 have q:Y (a.num<d.length):=by rw[Y];omega
 have r:=J w;go_in;go_upto_region 3 with(first
  |(refine wpList_load_mid rfl 271 (.tmp 25) rfl b.nb (c*261) rfl (dk a<|.slice S a.ba.length T) _ K underlying271 rfl (jc _ _) ?_)
  |(refine gm 8 rfl rfl 271 rfl _ xa ?_;intro w3 m X u)
  |(refine hw rfl 271 (.tmp 8) (.tmp 26) rfl _ rfl _ rfl _ X (by rw[gy,gy]) (jc _ _) (vl _ _ _ _) ?_;intro w4 k n;have e:=Gl.start A u n k L;have V:=e.nd.R;clear k n Q W))
 have⟨R,W,z,p⟩:=e.gs.c4;have y:=p j r;subst y;have⟨aF,n,s1,s2,s3,s4⟩:=e.gs.cs a.num d[a.num]<|dy q;rw[r.out]at n;cases n
 have w:=e.nd.cell (k:=258)<|wl a _ 1;have aD:(0:Int)<=a.num:=by omega
 generalize d[a.num].1=aI at s1;generalize d[a.num].2=aJ at s2;have k:=(e.call<|e.gs.base.put q r g i).grow (bp _ _).drew;go_region;generalize((w4.setCell (O j<|a.num*2)<|I g).setCell (O j<|a.num*2+1)<|I i).drew=aL at k|-;have a3:=k.nd.ba;have⟨aH,p,a8,a9⟩:=k.sa 0 f M;subst p;go_wp21;go_call P _ g i _ s k.gs.base (by rw[tj];exact D) E U B as t V ⟨rfl,Z,F,e,H⟩;have w:=k.gs.trans H;have z:=J<|C Z F;have Q:Y (Z.length=d.length):=by rw[Y,e,tj]
 go_wp21;go_returns;exact⟨rfl,Z,z,Q,w⟩
end
section
attribute [local go_sem↓] Ba ze Fb Fh Go.wp_at_zero Go.wp_at_succ
def drop_cons(c:g[a]?=some b):g.drop a=b::g.drop (a+1):=by
 have d:=(jy.1 c).1;rw[Dn d];rw[dy d]at c;cases c
 rfl
def ao5(b:Fp)(g:Nat)(c:Nd)(hd:b.bc[g]?=some c)(U:c.R=4)(A:∀(g:Nat)(c:Nd),b.bc[g]?=some c->c.R=3->c.ba≠[])(H:∀i∈c.ba,i<b.bc.length/\vx b i/\yj b i)(aQ:c.ba.length<=1000):yj b g:=by
 intro aH l f j Z B a6 a7 aG p
 have d:=B.fd;have aX:g<b.bc.length:=by
  rcases hb g b.bc.length with h|h
  .exact h
  rw[je h]at hd;cases hd
 have aL:=d.js;have⟨R,T,m,n⟩:=d.tree.node g c hd;have a8:=J m;have a9:=J n;have⟨aR,q⟩:=d.tree.c0;have o:=d.c0;have aY:(0:Int)<=g:=by omega
 have aZ:(g:Int)<b.bc.length:=by omega
 have b3:(c.R:Int)=4:=by omega
 have a1:Y (∀k,altG (bi b.s b.bc) (Gq b.s b.bc) c.ba l f j k->Gq b.s b.bc g l f j k):=by
  intro k h
  rw[Jo d.wf A hd,N,G U];exact h
 have aA:=J H;have b2:(0:Int)<=f:=by omega
 have aS:(f:Int)<82:=by omega
 clear d m n hd U p A H;go_in;go_wp2_with (first
  |(refine wpList_load_mid rfl 271 (.tmp 25) rfl b.nb (g*261) rfl (dk c<|.slice R c.ba.length T) _ a8 underlying271 rfl (jc _ _) ?_)
  |(refine gm 8 rfl rfl 271 rfl _ xa ?_;intro w3 A a2 a3)
  |(refine hw rfl 271 (.tmp 8) (.tmp 26) rfl _ rfl _ rfl _ a2 (by rw[gy,gy]) (jc _ _) (vl _ _ _ _) ?_;intro w4 d m;have C:=Gl.start B a3 m d a9;have n:=C.nd.R;clear d m o q))
 clear n;go_loopw [9] (λF wr=>∃d:Nat,d<=c.ba.length/\F=I d/\Gl aH wr b Z j c R T/\Y (∀k,altG (bi b.s b.bc) (Gq b.s b.bc) (c.ba.drop d) l f j k->Gq b.s b.bc g l f j k)) (λF _=>c.ba.length-(intOf F).toNat)
 .exact⟨0,ey _,rfl,C,a1⟩
 obtain⟨d,aW,rfl,n,x⟩:=hrel;have t:=n;have s:=n.nd.ba;by_cases aB:d<c.ba.length
 .obtain⟨i,m⟩:∃i,c.ba[d]?=some i:=⟨c.ba[d],dy aB⟩;have o:=qy m;have⟨b4,aC,aT,p⟩:=n.sa d i m;(try simp only[O]at aC);subst aC;have r:=J m;have b0:(0:Int)<=d:=by omega
  have b1:(d:Int)<c.ba.length:=by omega
  have K:=J<|aA i o;clear m o n C B;go_wp21;go_call K.2.1 _ l t.gs.fd (by omega)as e b5 ⟨z,rfl,m,P,Q⟩;have o:=t.fm P Q;have L:=J (m f<|by omega);have M:=o.lt;clear m P Q s p;have s:=o.nd.ba;have⟨aU,a4,aM,a0⟩:=o.sa d i r;cases a4
  rcases df (z f)with a|a
  .have q:=J<|L.1 a;have u:=J a;go_wp2_with (first
    |(refine gm 10 rfl rfl 246 rfl _ ld ?_;intro aI aF D E)
    |(refine hw rfl 246 (.tmp 10) (.tmp 65) rfl _ rfl _ rfl _ D (by rw[ek,ek]) (gh _) (oh _) ?_;intro aJ v p;have m:=(o.grow E).bj p M;have y:=v.cell (qb z (k:=f));rw[u.out]at y;have aN:=m.nd.ba;have⟨aV,a5,aO,aP⟩:=m.sa d i r;cases a5;clear s a0 p))
   go_call K.2.2 _ l f j Z m.gs.base a6 a7 aG q as e b6 ⟨rfl,S,V,W,X⟩;have aD:=m.gs.trans X;have w:=J (x S<|by rw[drop_cons r.out];exact .inl ⟨q,V⟩);have aE:=J W;go_wp21;go_returns;exact⟨rfl,S,w,aE,aD⟩
  have q:Y (¬bi b.s b.bc i l f):=λh=>by rw[L.2 h]at a;cases a
  have u:=J a;go_wp2_with (first
   |(refine gm 10 rfl rfl 246 rfl _ ld ?_;intro aI aF D E)
   |(refine hw rfl 246 (.tmp 10) (.tmp 65) rfl _ rfl _ rfl _ D (by rw[ek,ek]) (gh _) (oh _) ?_;intro aJ v p;have m:=(o.grow E).bj p M;have y:=v.cell (qb z (k:=f));rw[u.out]at y;clear s a0 p))
  go_roundw
  .exact⟨d+1,by omega,by go_num,m,λk h=>x k<|by rw[drop_cons r.out];exact .inr ⟨q,h⟩⟩
  simp[intOf];omega
 have w:=J (x j<|by rw[yym<|by omega];rfl);go_wp21;go_returns;exact⟨rfl,j,w,rfl,t.gs⟩
end
def next{b c:Sc}(e:ed s a=some b)(d:bx b (au s a) a=some c):ed s (a+1)=some c:=by rw[Yj e,d]
def np{b:Sc}(d:ed s a=some b)(f:a<s.size)(c:bx b (au s a) a=none):jt s a:=⟨b,d,by omega,λ_=>c,λe=>by omega⟩
def kj{b:Sc}(d:ed s a=some b)(f:a=s.size)(c:jj b=false):jt s a:=⟨b,d,by omega,λe=>by omega,λ_=>c⟩
def ub(x:ag):List Nat:=x.data.toList.map UInt8.toNat
def ma(l:List ft):List Qja:=(l.filter λx=>decide (x.name.size≠0)).map λx=>⟨ub x.name,x.H, !x.want⟩
def Mx(pa pl:List Nat)(lg:Int):Prop:=
 pa.length=pl.length/\((lg=-1/\∀(k n:Nat),pl[k]?=some n->n<=40)\/
 ∃k a n:Nat,lg=a/\pa[k]?=some a/\pl[k]?=some n/\40<n/\∀k' n':Nat,k'<k->pl[k']?=some n'->n'<=40)
structure Nt(x:Sc)(lg:Int)(bh:List ft):Prop where
 bu:x.bu=ma bh
 bk:Mx x.fp x.db lg
def ah8{c i:ag}{b:Sc}(d:∀g j,bn i g=true->bx b g j=some b):∀(f a:Nat),ed c a=some b->ed c (skipF c i f a)=some b
 |0,a,h=>h
 |f+1,a,h=>by
  unfold skipF;split
  .rename_i e;simp[br]at e;exact ah8 d f (a+1)<|next h<|d _ _ e.2
  exact h
def Md{b:Sc}(d:∀c f,bn t c=true->bx b c f=some b)(e:ed s a=some b):ed s (skip s t a)=some b:=ah8 d _ a e
def ah7(b d:ag):∀(f a:Nat),b.size<=f+a->br b d (skipF b d f a)=false
 |0,a,h=>by
  have c:¬a<b.size:=by omega
  simp[skipF,br,c]
 |f+1,a,h=>by
  unfold skipF;split
  .exact ah7 b d f (a+1)<|by omega
  rename_i c;simpa using c
def Mc:br S T (skip S T j)=false:=ah7 S T _ j<|by omega
def xd(b:br s t a=false):skip s t a=a:=by
 unfold skip;cases s.size-a with
 |zero=>rfl
 |succ c=>rw[skipF,b];rfl
def Ar{i:Nat}(a:br s t i=true):skip s t i=skip s t (i+1):=by
 have b:=vo a;unfold skip;rw[show s.size-i=(s.size-(i+1))+1 by omega,skipF,G a]
def wi:bn dh i=true↔i=32:=by simp[bn,dh];omega
def Ak:bn fc i=true↔i=32\/i=59\/i=10:=by simp[bn,fc];omega
def ads:bn parts i=true↔i=59\/i=10:=by simp[bn,parts];omega
structure Ay(s:ag)(j:Nat)(x:Sc):Prop where
 sep:j<s.size->bx x (au s j) j=qk x (au s j)
 fin:jj x=decide (x.op=0)
def aio(a:Sc)(c:a.ax=7)(b d:Nat):bx a b d=qk a b:=by
 unfold bx;simp[c]
def Mi(a:Sc)(d:a.ax=0)(b c:Nat):bx a b c=begin' a b c:=by
 unfold bx;simp[d]
def Nr{b:Sc}(c:b.ax=7):Ay s a b:=⟨λ_=>aio b c _ _,by simp[jj,c]⟩
def ak8{b:Sc}(f:ed s a=some b)(e:Ay s a b):∃d,ed s (skip s dh a)=some d/\Ay s (skip s dh a) d/\(d=b\/d={b with ax:=7}):=by
 cases c:br s dh a with
 |false=>rw[xd c];exact⟨b,f,e,.inl rfl⟩
 |true=>
  have i:=vo c;have g:au s a=32:=by simp[br]at c;exact(wi _).1 c.2
  have j:=next f (by rw[e.sep i,g];rfl)
  rw[Ar c];refine⟨{b with ax:=7},Md (λh l k=> ?_) j,Nr rfl,.inr rfl⟩;rw[aio _ rfl,(wi h).1 k];rfl
def akp{a b:Sc}(c:b=a\/b={a with ax:=7}):b.op=a.op/\b.bu=a.bu/\b.fp=a.fp/\b.db=a.db:=by
 rcases c with rfl|rfl<;>exact⟨rfl,rfl,rfl,rfl⟩
def Nt.of{a b:Sc}{d:List ft}(c:Nt a p d)(e:b.bu=a.bu:=by omega)(f:b.fp=a.fp:=by omega)(g:b.db=a.db:=by omega):Nt b p d:=⟨e.trans c.bu,by rw[f,g];exact c.bk⟩
structure Ry(s:ag)(i:Nat)(x:Sc):Prop where
 run:ed s i=some x
 le:i<=s.size
 head:x.ax=0\/(Ay s i x/\(i=s.size\/au s i=59\/au s i=10\/(au s i=125/\0<x.op)))
structure aaj(s:ag)(j:Nat)(x:Sc):Prop where
 run:ed s j=some x
 le:j<=s.size
 out:(j=s.size/\jj x=decide (x.op=0))\/(j<s.size/\au s j=125/\0<x.op/\bx x 125 j=some {x with op:=x.op-1,ax:=7})
def ak7{b:Sc}(g:Ry s a b):∃c,ed s (skip s fc a)=some c/\c.op=b.op/\c.bu=b.bu/\c.fp=b.fp/\c.db=b.db/\(c.ax=0\/(skip s fc a=a/\c=b/\Ay s a b/\(a=s.size\/(au s a=125/\0<b.op)))):=by
 have k:∀c:Sc,c.ax=0->∀i l,bn fc i=true->bx c i l=some c:=λc p i l h=>by
  rw[Mi c p];have:=(Ak i).1 h;unfold begin';rw[G this]
 rcases g.head with m|⟨n,o⟩
 .exact⟨b,Md (k b m) g.run,rfl,rfl,rfl,rfl,.inl m⟩
 by_cases d:a<s.size/\(au s a=59\/au s a=10)
 .have j:br s fc a=true:=by simp[br,d.1];exact(Ak _).2 (.inr d.2)
  have f:ed s (a+1)=some {b with ax:=0}:=next g.run (by
   rw[n.sep d.1];unfold qk;rw[N,G d.2])
  rw[Ar j];exact⟨{b with ax:=0},Md (k _ rfl) f,rfl,rfl,rfl,rfl,.inl rfl⟩
 have j:br s fc a=false:=by
  cases h:br s fc a with
  |false=>rfl
  |true=>
   have f:=vo h;have q:bn fc (au s a)=true:=by simp[br]at h;exact h.2
   rw[Ak]at q;rcases o with e|e|e|⟨e,_⟩
   .omega
   .exact cb ⟨f,.inl e⟩ d
   .exact cb ⟨f,.inr e⟩ d
   omega
 rw[xd j];refine⟨b,g.run,rfl,rfl,rfl,rfl,.inr ⟨rfl,rfl,n,?_⟩⟩;rcases o with e|e|e|e
 .exact .inl e
 .by_cases f:a<s.size
  .exact cb ⟨f,.inl e⟩ d
  exact .inl (by have:=g.le;omega)
 .by_cases f:a<s.size
  .exact cb ⟨f,.inr e⟩ d
  exact .inl (by have:=g.le;omega)
 exact .inr e
def Hi(s:ag)(i:Nat)(r:cj×Bool)(op:Nat):Prop:=
 (r.2=true/\r.1.op=op/\i<r.1.H/\r.1.H<=s.size/\∃y,ed s r.1.H=some y/\Ay s r.1.H y/\y.op=op/\Nt y r.1.bk r.1.bh)\/(r.2=false/\jt s r.1.H)
def Nf(s:ag)(row:cj->cj×Bool)(D:Nat):Prop:=∀(p:cj)(x:Sc),Ry s p.H x->x.op=p.op->p.op<=5->6<=p.op+D->Nt x p.bk p.bh->
 ((row p).2=true/\(row p).1.op=p.op/\p.H<=(row p).1.H/\∃y,aaj s (row p).1.H y/\y.op=p.op/\Nt y (row p).1.bk (row p).1.bh)\/((row p).2=false/\jt s (row p).1.H)
def ase:(pk S j=-1\/br S parts j=true\/(decide (0<k)&&decide (pk S j=125))=true)↔(¬j<S.size\/(j<S.size/\(au S j=59\/au S j=10\/(au S j=125/\0<k)))):=by
 by_cases a:j<S.size
 .rw[fh a];have b:¬((au S j:Int)=-1):=by omega
  simp[br,a,b,ads];omega
 rw[qj a];simp[a]
def atr{row:cj->cj×Bool}
  (a9:∀(b:cj)(i:Sc),ed s b.H=some i->i.ax=0->b.H<s.size->¬bn fc (au s b.H)=true->¬(au s b.H=125/\0<b.op)->i.op=b.op->b.op<=5->6<=b.op+1+a->Nt i b.bk b.bh->Hi s b.H (iw row s b) b.op):Nf s (Lv row s) (a+1):=by
 have a1:∀(g:Nat)(b:cj)(i:Sc),s.size+1<=g+b.H->Ry s b.H i->i.op=b.op->b.op<=5->6<=b.op+(a+1)->Nt i b.bk b.bh->
   ((rowL' row s g b).2=true/\(rowL' row s g b).1.op=b.op/\b.H<=(rowL' row s g b).1.H/\∃m,aaj s (rowL' row s g b).1.H m/\m.op=b.op/\Nt m (rowL' row s g b).1.bk (rowL' row s g b).1.bh)\/((rowL' row s g b).2=false/\jt s (rowL' row s g b).1.H):=by
  intro g
  induction g with
  |zero=>intro b i aA n;have:=n.le;omega
  |succ g aB=>
   intro b i aA n x A R F
   have⟨m,B,a0,aK,aJ,aL,u⟩:=ak7 n;have S:=si s fc b.H n.le;have H:=An s fc b.H n.le;have K:=Mc s fc b.H;unfold rowL';simp only;generalize skip s fc b.H=h at B u S K H;have V:=F.of aK aJ aL;by_cases k:pk s h=-1\/uq s {b with H:=h}=true
   .rw[G k];refine .inl ⟨rfl,rfl,H,m,⟨B,S,?_⟩,by rw[a0,x],V⟩;show(h=s.size/\_)\/_
    have d:h<s.size->au s h=125/\0<b.op:=λf=>by
     rcases k with k|k
     .rw[fh f]at k;omega
     simp[uq,fh f]at k;omega
    by_cases f:h<s.size
    .have⟨c,j⟩:=d f;refine .inr ⟨f,c,by omega,?_⟩;rcases u with o|⟨e,rfl,v,_⟩
     .rw[Mi m o];unfold begin';rw[N,G rfl,G]
     have:=v.sep (by rw[<-e];exact f);rw[<-e,c]at this;rw[this];unfold qk;rw[N,N,G ⟨rfl,by omega⟩]
    refine .inl ⟨by omega,?_⟩;rcases u with o|⟨e,rfl,v,_⟩
    .simp[jj,o]
    exact v.fin
   rw[N k];have f:h<s.size:=by
    by_cases f:h<s.size
    .exact f
    exact cb (.inl<|qj f) k
   have W:¬(au s h=125/\0<b.op):=λd=>k<|.inr<|by simp[uq,fh f,d.1,d.2]
   have o:m.ax=0:=by
    rcases u with o|⟨e,rfl,v,O⟩
    .exact o
    rcases O with O|O
    .omega
    exact cb ⟨by rw[e];exact O.1,by omega⟩ W
   have a3:¬bn fc (au s h)=true:=λd=>by simp[br,f,d]at K
   have X:=a9 {b with H:=h} m B o f a3 W (by rw[a0,x]) A (by show 6<=b.op+1+a;omega) V;generalize iw row s {b with H:=h}=a2 at X;have⟨j,aM⟩:=a2;rcases X with⟨p,l,a4,C,aN,U,L,y,M⟩|⟨p,l⟩
   .simp only at p l C U L y M a4;subst p;simp only[if_true];have⟨Z,D,z,a5⟩:=ak8 U L;have⟨E,aG,aF,aH⟩:=akp a5;have T:=si s dh j.H C;have a6:=An s dh j.H C;have P:=Mc s dh j.H;generalize skip s dh j.H=c at D z T a6 P;have Q:=ase s c j.op;by_cases w:pk s c=-1\/br s parts c=true\/uq s {j with H:=c}=true
    .rw[G w];have r:=Q.1 w;have:=aB {j with H:=c} Z (by show s.size+1<=g+c;omega) ⟨D,T,.inr ⟨z,?_⟩⟩ (by show Z.op=j.op;rw[E,y,l]) (by show j.op<=5;omega) (by show 6<=j.op+(a+1);omega) (M.of aG aF aH)
     .rcases this with⟨t,a7,aE,aI,a8,aC,aD⟩|q
      .exact .inl ⟨t,a7.trans l,bq (show b.H<=c by omega) aE,aI,a8,aC.trans l,aD⟩
      exact .inr q
     rcases r with e|⟨_,e|e|e⟩
     .exact .inl (by show c=s.size;omega)
     .exact .inr<|.inl e
     .exact .inr<|.inr<|.inl e
     exact .inr<|.inr<|.inr ⟨e.1,by rw[E,y,<-l];exact e.2⟩
    rw[N w];refine .inr ⟨rfl,?_⟩;show jt s c
    have r:¬(¬c<s.size\/(c<s.size/\(au s c=59\/au s c=10\/(au s c=125/\0<j.op)))):=λd=>w<|Q.2 d
    have t:c<s.size:=by
     by_cases d:c<s.size
     .exact d
     exact cb (.inl d) r
    refine np D t ?_;rw[z.sep t];have a8:¬au s c=32:=λd=>by
     have a7:=(wi _).2 d;simp[br,t,a7]at P
    unfold qk;rw[N a8,N<|λd=>r<|.inr ⟨t,by omega⟩,N<|λd=>r<|.inr ⟨t,.inr<|.inr ⟨d.1,by rw[E,y,<-l]at d;exact d.2⟩⟩]
   simp only at p l;subst p;simp only[Ax,if_false];exact .inr ⟨trivial,l⟩
 intro b i n x A R F
 exact a1 (s.size+1) b i (by omega) n x A R F
def prun(s:ag)(i:Nat):Nat->Option St
 |0=>some ⟨0,0,0,0⟩
 |k+1=>(prun s i k).bind λst=>step st<|au s<|i+k
def agd(c:ag)(a b:Nat):∀k,a+k<=b->run (c.extract a b) k=prun c a k
 |0,_=>rfl
 |k+1,h=>by
  rw[run,prun,agd c a b k<|by omega,ty c a b k]
def Ty(a:St):lx a=true↔a.m=3\/a.m=9\/a.m=10:=by simp[lx];omega
def Oo(a:St):lx a=false↔¬(a.m=3\/a.m=9\/a.m=10):=by
 rw[<-Ty];simp
def aax{g f:St}(b:kh g a=some f):f.m=if a=40 then 0 else if a=91 then 4 else if a=92 then 3 else 1:=by
 unfold kh at b;split at b
 .split at b
  .cases b
  cases b;rename_i c _;simp[c]
 rename_i c;split at b
 .rename_i d;cases b;simp[c,d]
 rename_i d;split at b
 .rename_i e;cases b;simp[c,d,e]
 rename_i e;split at b
 .cases b
 cases b;simp[c,d,e]
def acc{c e:St}(b:step c a=some e)(h:lx c=false):lx e=decide (a=92):=by
 rw[Oo]at h;have f:(e.m=3\/e.m=9\/e.m=10)↔a=92:=by
  unfold step at b;split at b
  .have:=aax b;rw[this];split<;>(try split)<;>(try split)<;>omega
  split at b
  .unfold nr at b;split at b
   .rename_i d;have g:=(Eh a).1 d.2;cases b;simp;omega
   split at b
   .rename_i d;cases b;simp;omega
   split at b
   .rename_i d;cases b;simp;omega
   split at b
   .rename_i d;cases b;simp;omega
   have:=aax b;rw[this];split<;>(try split)<;>(try split)<;>omega
  split at b
  .omega
  split at b
  .unfold rz at b;split at b
   .split at b
    .rename_i d _;cases b
     simp only;split<;>omega
    cases b
   split at b
   .cases b;simp;omega
   split at b
   .cases b;simp;omega
   cases b
  have g:c.m=4\/c.m=5\/c.m=6\/c.m=7\/c.m=8:=by omega
  have⟨k,l,i,j⟩:=c;simp only at g;rcases g with rfl|rfl|rfl|rfl|rfl
  .rw[Ai]at b
   repeat' split at b
   all_goals first
    |(cases b;done)
    |(cases b;simp;omega)
  .rw[Da]at b
   repeat' split at b
   all_goals first
    |(cases b;done)
    |(cases b;simp;omega)
  .rw[Aj]at b
   repeat' split at b
   all_goals first
    |(cases b;done)
    |(cases b;simp;omega)
  .rw[Bp]at b
   repeat' split at b
   all_goals first
    |(cases b;done)
    |(cases b;simp;omega)
  rw[Bq]at b
  repeat' split at b
  all_goals first
   |(cases b;done)
   |(cases b;simp;omega)
 by_cases d:a=92
 .rw[d];simp;rw[Ty];exact f.2 d
 rw[wu d,Oo];exact λb=>d<|f.1 b
def anu{c f:St}(b:step c a=some f)(d:lx c=true):lx f=false:=by
 rw[Ty]at d;rw[Oo];unfold step at b;rcases d with e|e|e
 .simp[e]at b;rw[<-b.2];simp
 .simp[e,oi]at b;rw[<-b.2];simp
 simp[e,oi]at b;rw[<-b.2];simp
def Qk(d:ag)(c:Nat):∀(f b:Nat),c<=b->d.size<f+b->(∀a,prun d c (b-c)=some a->lx a=false)->
  (∀e a,b<=e->e<ic d f b->prun d c (e-c)=some a->au d e=47->lx a=true)/\(ic d f b<d.size->au d (ic d f b)=47/\∀a,prun d c (ic d f b-c)=some a->lx a=false)
 |0,b,r,y,h3=>by
  refine⟨λe a g h=>?_,λg=>?_⟩
  .simp[ic]at h;omega
  simp[ic]at g
 |f+1,b,r,y,h3=>by
  unfold ic;by_cases v:b<d.size
  .rw[G v];by_cases n:au d b=47
   .rw[G n];exact⟨λe a g h=>by omega,λ_=>⟨n,h3⟩⟩
   rw[N n];have q:∀i,c<=i->prun d c (i+1-c)=(prun d c<|i-c).bind λa=>step a (au d i):=λi z=>by
    rw[show i+1-c=(i-c)+1 by omega,prun,show c+(i-c)=i by omega]
   by_cases o:au d b=92
   .rw[G o];have p:∀a,prun d c (b+1-c)=some a->lx a=true:=λa j=>by
     rw[q b r,Ey]at j;have⟨k,g,h⟩:=j;rw[acc h<|h3 k g,o];rfl
    have x:∀a,prun d c (b+2-c)=some a->lx a=false:=λa j=>by
     rw[show b+2=(b+1)+1 from rfl,q (b+1)<|by omega,Ey]at j;have⟨k,g,h⟩:=j;exact anu h<|p k g
    have⟨s,t⟩:=Qk d c f (b+2) (by omega) (by omega) x;refine⟨λe a g h l m=>?_,t⟩;by_cases u:e=b
    .subst u;omega
    by_cases w:e=b+1
    .subst w;exact p a l
    exact s e a (by omega) h l m
   rw[N o];have p:∀a,prun d c (b+1-c)=some a->lx a=false:=λa j=>by
    rw[q b r,Ey]at j;have⟨k,g,h⟩:=j;rw[acc h<|h3 k g];simp[o]
   have⟨s,t⟩:=Qk d c f (b+1) (by omega) (by omega) p;refine⟨λe a g h l m=>?_,t⟩;by_cases u:e=b
   .subst u;exact cb m n
   exact s e a (by omega) h l m
  rw[N v];exact⟨λe a g h=>by omega,λg=>by omega⟩
