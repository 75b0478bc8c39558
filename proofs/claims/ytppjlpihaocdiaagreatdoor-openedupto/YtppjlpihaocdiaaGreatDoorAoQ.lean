import Derived.Deep.RegionHeld3
import Derived.Test.YtppjlpihaocdiaaGreatDoorAnQ
set_option linter.all false
set_option maxRecDepth 100000
set_option maxHeartbeats 16000000
namespace Go.Proofs.YtppjlpihaocdiaaGreatDoor
open Go.RowKit Go.Proofs.Tryz
variable{w u v:ae}{a b c d e:Nat}{s t:ag}{x y z:af}{p D:Int}{l:List af}{f:Bool}{g:List Nat}{h:Nat->Prop}{o:Option Addr}{r:List UInt8}{A:Nat->Bool}{B:Nat->Nat->Bool}{C:Nat->Nat->Prop}(i:Nat)(S T:ag)(V X:af)(j k m n:Nat)(Z:Int)(W:ae)
structure Gn(w w2:ae)(v v':af):Prop where
 os:w2.os=w.os
 tape:w2.tape=w.tape
 output:w2.output=w.output
 size:w.heap.size<=w2.heap.size
 block:∀k,k<w.heap.size->v.ownBlock≠some k->w2.heap[k]?=w.heap[k]?
 H:∀k,v'.ownBlock=some k->v.ownBlock=some k\/w.heap.size<=k
def Gn.refl(a:af):Gn W W a a:=⟨rfl,rfl,rfl,ah,λ_ _ _=>rfl,λ_ b=> .inl b⟩
def Gn.trans{j k w3:ae}{h i f:af}(a:Gn j k h i)(c:Gn k w3 i f):Gn j w3 h f:=by
 refine⟨c.os.trans a.os,c.tape.trans a.tape,c.output.trans a.output,bq a.size c.size,λb d g=> ?_,λb d=> ?_⟩
 .refine(c.block b (ew d a.size)<|λe=> ?_).trans<|a.block b d g;rcases a.H b e with e|e
  .exact g e
  omega
 rcases c.H b d with e|e
 .exact a.H b e
 exact .inr<|bq a.size e
def Gn.below(a:Below w.heap.size w u)(c:∀b,y.ownBlock=some b->x.ownBlock=some b\/w.heap.size<=b):Gn w u x y:=⟨a.os,a.tape,a.output,a.size,λb d _=>a.block b d,c⟩
def Gn.grown{g v':af}(b:Below w.heap.size w u)(c:u.grownBy v g.ownBlock)(h:v'.ownBlock=g.ownBlock\/∃e,v'.ownBlock=some e/\w.heap.size<=e):Gn w v g v':=by
 refine⟨c.os.trans b.os,c.tape.trans b.tape,c.output.trans b.output,bq b.size c.size,λf a i=> ?_,λf a=> ?_⟩
 .rw[c.block f (ew a b.size)<|λd=>i d.symm,b.block f a]
 rcases h with d|⟨e,d,j⟩
 .exact .inl (by rw[<-d];exact a)
 rw[d]at a;injection a with a;subst a;exact .inr j
def Aa(w:ae)(b:Nat)(cf:Cf)(v v':Ev)(E':Ed)(w':ae):Prop:=At w' b cf E' v'/\Fe b v v' w w'
def Aa.ok{c:Cf}{e f:Ev}{b:Ed}(d:Aa w a c e f b u):Ok w a c e b u:=⟨f,d.1,d.2⟩
def Bu{e:TypeId}{xs:List af}(h:Gn w u x y)(f:w.ownsRow a e b z c xs)(hd:∀d,x.ownBlock=some d->z.ownBlock≠some d):u.ownsRow a e b z c xs:=
 da f λd g=>h.block d (f.lt d g).2<|λe=>hd d e g
def Bn{e:TypeId}{xs:List af}(i:Gn w u x y)(g:w.ownsRow a e b z c xs)(hd:∀d,x.ownBlock=some d->z.ownBlock≠some d):∀d,y.ownBlock=some d->z.ownBlock≠some d:=by
 intro d h f
 rcases i.H d h with e|e
 .exact hd d e f
 have:=(g.lt d f).2;omega
def mc{e:TypeId}{xs:List af}(h:bf a w u)(f:w.ownsRow b e c x d xs)(hd:x.ownBlock≠some a):u.ownsRow b e c x d xs:=
 da f λi g=>h.block i<|λe=>hd<|by rw[<-e];exact g
def At.gnx{h w2:ae}{k:Cf}{j:Ed}{g:Ev}{nv:af}{l:List UInt8}(b:At h a k j g)(c:Gn h w2 g.nx nv)(r:w2.ownsRow 0 5 1 nv l.length (bv l)):
  bd w2 a (pb k j g)/\Aa h a k g {g with nx:=nv} {j with next:=l} (w2.setCell (O a 1) nv):=by
 have s:=b.lt;have o:=b.row.cw<|c.block a s b.ap.b1;have f:bf a w2 (w2.setCell (O a 1) nv):=(bf.refl _ _).setCell _ _;have m:nv.ownBlock≠some a:=λe=>by
  rcases c.H a e with e|e
  .exact b.ap.b1 e
  omega
 have i:∀d,d<h.heap.size->¬ib a g d->(w2.setCell (O a 1) nv).heap[d]?=h.heap[d]? :=λd t p=>
  (f.block d<|λe=>p<|.inl e).trans (c.block d t<|λe=>p<|.inr<|.inl e)
 have q:∀d,ib a {g with nx:=nv} d->ib a g d\/h.heap.size<=d:=λd i=>by
  rcases i with e|e|e|e|e
  .exact .inl<|.inl e
  .rcases c.H d e with e|e
   .exact .inl<|.inr<|.inl e
   exact .inr e
  .exact .inl<|.inr<|.inr<|.inl e
  .exact .inl<|.inr<|.inr<|.inr<|.inl e
  exact .inl<|.inr<|.inr<|.inr<|.inr e
 have n:h.heap.size<=(w2.setCell (O a 1) nv).heap.size:=by rw[f.size];exact c.size
 refine⟨o,⟨jx o 1 nv (by omega) rfl,?_,?_,?_,?_,b.cm.keep i n q,⟨m,b.ap.b2,b.ap.b3,b.ap.b4,Bn c b.ot b.ap.d12,Bn c b.cg b.ap.d13,Bn c b.op b.ap.d14,b.ap.d23,b.ap.d24,b.ap.d34⟩⟩,⟨f.os.trans c.os,f.tape.trans c.tape,f.output.trans c.output,n,i,q,rfl⟩⟩
 .exact mc f r m
 .exact mc f (Bu c b.ot b.ap.d12) b.ap.b2
 .exact mc f (Bu c b.cg b.ap.d13) b.ap.b3
 exact mc f (Bu c b.op b.ap.d14) b.ap.b4
def At.Kl{j w2:ae}{n:Cf}{m:Ed}{h:Ev}{nv:af}{l:List UInt8}(b:At j a n m h)(d:Gn j w2 h.ot nv)(s:w2.ownsRow 0 5 1 nv l.length (bv l)):
  bd w2 a (pb n m h)/\Aa j a n h {h with ot:=nv} {m with out:=l} (w2.setCell (O a 9) nv):=by
 have t:=b.lt;have q:=b.row.cw<|d.block a t b.ap.b2;have f:bf a w2 (w2.setCell (O a 9) nv):=(bf.refl _ _).setCell _ _;have o:nv.ownBlock≠some a:=λe=>by
  rcases d.H a e with e|e
  .exact b.ap.b2 e
  omega
 have k:∀c,c<j.heap.size->¬ib a h c->(w2.setCell (O a 9) nv).heap[c]?=j.heap[c]? :=λc i g=>
  (f.block c<|λe=>g<|.inl e).trans (d.block c i<|λe=>g<|.inr<|.inr<|.inl e)
 have r:∀c,ib a {h with ot:=nv} c->ib a h c\/j.heap.size<=c:=λc k=>by
  rcases k with e|e|e|e|e
  .exact .inl<|.inl e
  .exact .inl<|.inr<|.inl e
  .rcases d.H c e with e|e
   .exact .inl<|.inr<|.inr<|.inl e
   exact .inr e
  .exact .inl<|.inr<|.inr<|.inr<|.inl e
  exact .inl<|.inr<|.inr<|.inr<|.inr e
 have p:j.heap.size<=(w2.setCell (O a 9) nv).heap.size:=by rw[f.size];exact d.size
 refine⟨q,⟨jx q 9 nv (by omega) rfl,?_,?_,?_,?_,b.cm.keep k p r,⟨b.ap.b1,o,b.ap.b3,b.ap.b4,(λc i g=>Bn d b.nx (λc i g=>b.ap.d12 c g i) c g i),b.ap.d13,b.ap.d14,Bn d b.cg b.ap.d23,Bn d b.op b.ap.d24,b.ap.d34⟩⟩,⟨f.os.trans d.os,f.tape.trans d.tape,f.output.trans d.output,p,k,r,rfl⟩⟩
 .exact mc f (Bu d b.nx<|λc i g=>b.ap.d12 c g i) b.ap.b1
 .exact mc f s o
 .exact mc f (Bu d b.cg b.ap.d23) b.ap.b3
 exact mc f (Bu d b.op b.ap.d24) b.ap.b4
def At.gcg{j w2:ae}{n:Cf}{m:Ed}{i:Ev}{nv:af}{l:List ag}(b:At j a n m i)(f:Gn j w2 i.cg nv)(s:w2.ownsRow 0 9 1 nv l.length (sv l)):
  bd w2 a (pb n m i)/\Aa j a n i {i with cg:=nv} {m with cy:=l} (w2.setCell (O a 11) nv):=by
 have t:=b.lt;have q:=b.row.cw<|f.block a t b.ap.b3;have h:bf a w2 (w2.setCell (O a 11) nv):=(bf.refl _ _).setCell _ _;have o:nv.ownBlock≠some a:=λe=>by
  rcases f.H a e with e|e
  .exact b.ap.b3 e
  omega
 have k:∀c,c<j.heap.size->¬ib a i c->(w2.setCell (O a 11) nv).heap[c]?=j.heap[c]? :=λc g d=>
  (h.block c<|λe=>d<|.inl e).trans (f.block c g<|λe=>d<|.inr<|.inr<|.inr<|.inl e)
 have r:∀c,ib a {i with cg:=nv} c->ib a i c\/j.heap.size<=c:=λc k=>by
  rcases k with e|e|e|e|e
  .exact .inl<|.inl e
  .exact .inl<|.inr<|.inl e
  .exact .inl<|.inr<|.inr<|.inl e
  .rcases f.H c e with e|e
   .exact .inl<|.inr<|.inr<|.inr<|.inl e
   exact .inr e
  exact .inl<|.inr<|.inr<|.inr<|.inr e
 have p:j.heap.size<=(w2.setCell (O a 11) nv).heap.size:=by rw[h.size];exact f.size
 refine⟨q,⟨jx q 11 nv (by omega) rfl,?_,?_,?_,?_,b.cm.keep k p r,⟨b.ap.b1,b.ap.b2,o,b.ap.b4,b.ap.d12,(λc g d=>Bn f b.nx (λc g d=>b.ap.d13 c d g) c d g),b.ap.d14,(λc g d=>Bn f b.ot (λc g d=>b.ap.d23 c d g) c d g),b.ap.d24,Bn f b.op b.ap.d34⟩⟩,⟨h.os.trans f.os,h.tape.trans f.tape,h.output.trans f.output,p,k,r,rfl⟩⟩
 .exact mc h (Bu f b.nx<|λc g d=>b.ap.d13 c d g) b.ap.b1
 .exact mc h (Bu f b.ot<|λc g d=>b.ap.d23 c d g) b.ap.b2
 .exact mc h s o
 exact mc h (Bu f b.op b.ap.d34) b.ap.b4
def atp(a2:Hr i):Hr (i+1):=by
 intro e a j R S aR w aA aB aW b3
 have a9:=J a2;have b4:=w.lt;have aX:=w.cu.rc.le;have aU:=w.cu.rc.li;clear a2;generalize b:Qqf a (i+1) j=o;have aC:=J b;clear b;go_in;go_wp21;go_loopw [] (λwr=>∃(g:Nat)(b:cj)(q r:af),Y (Rk wr e a b q r)/\Y (Fq e R q S r aR wr)/\Y (b.op=j.op)/\b.U.length<=b.H/\b.bh.length<=b.H/\j.H<=b.H/\j.U.length<=b.U.length/\a.size+1<=g+b.H/\Y (o=rowL' (Qqf a i) a g b)) (λwr=>a.size-xi wr e)
 .exact⟨a.size+1,j,R,S,w,Fq.refl _ _ _ _,rfl,aA,aB,ah,ah,by omega,aC.symm⟩
 obtain⟨g,b,q,r,z,aD,H,aY,aZ,b0,T,b5,c⟩:=hrel;have M:=z.cu.rc.le;have aE:=J<|pu z.cu.rc.c1;have u:Y (o=if pk a (skip a fc b.H)=-1\/uq a {b with H:=skip a fc b.H}=true then({b with H:=skip a fc b.H},true)else if(iw (Qqf a i) a {b with H:=skip a fc b.H}).2=true then(if pk a (skip a dh (iw (Qqf a i) a {b with H:=skip a fc b.H}).1.H)=-1\/br a parts (skip a dh (iw (Qqf a i) a {b with H:=skip a fc b.H}).1.H)=true\/uq a {(iw (Qqf a i) a {b with H:=skip a fc b.H}).1 with H:=skip a dh (iw (Qqf a i) a {b with H:=skip a fc b.H}).1.H}=true then rowL' (Qqf a i) a (g-1) {(iw (Qqf a i) a {b with H:=skip a fc b.H}).1 with H:=skip a dh (iw (Qqf a i) a {b with H:=skip a fc b.H}).1.H} else({(iw (Qqf a i) a {b with H:=skip a fc b.H}).1 with H:=skip a dh (iw (Qqf a i) a {b with H:=skip a fc b.H}).1.H},false))else iw (Qqf a i) a {b with H:=skip a fc b.H}):=by
  rw[Y,c.out]
  conv=>lhs;rw[show g=(g-1)+1 by omega,rowL']
 clear c;have aF:=An a fc b.H M;have U:=si a fc b.H M;generalize d:skip a fc b.H=c at u aF U;have a8:=J d;clear d;go_wp21;refine(Mb e a fc b.H _ z.cu.rc).mono ?_;rw[a8.out];rintro m n ⟨rfl,d⟩;have s:=z.mw (.mv d)<|z.cu.mv d U;have A:=aD.trans<|Fq.mw<|.mv d;clear d;have aV:=H.out;by_cases p:pk a c=-1
 .have B:=J p;have h:Y (o=({b with H:=c},true)):=by rw[Y,u.out,G<|.inl p]
  clear p u;go_wp2_with (go_at_call 110;refine(iz e a c _ s.cu.rc).mono ?_;rw[B.out];rintro m a3 ⟨rfl,L,rfl⟩);go_ret;rw[h.out];exact .inl ⟨rfl,rfl,⟨q,r,s.tw ah<|λ_ _=>rfl,A.trans<|Fq.mw<|(Mw.refl e n).drewN L⟩,H,(by show b.U.length<=c;omega),(by show b.bh.length<=c;omega),(by show j.H+0<=c;omega),T⟩
 obtain⟨b1,_⟩:=ho p;have aG:=hh p;obtain⟨a4,F⟩:∃a4,pk a c=a4:=⟨_,rfl⟩;have B:=J F;rw[F]at aG;have C:Y (∀f,Calls prog 111 #[.pointer<|some ⟨e,0,none⟩] (n.drewN f) λm aS=>m=.returned (.bool<|uq a {b with H:=c})/\∃aO,aS=(n.drewN f).drewN aO):=λf=>Ob e a c b.op _ (s.cu.rc.drewN f) s.c2
 rcases df (uq a {b with H:=c})with l|l
 .have h:Y (o=({b with H:=c},true)):=by rw[Y,u.out,G<|.inr l]
  rw[l]at C;clear p u l F;go_wp2_with (first|(go_at_call 110;refine(iz e a c _ s.cu.rc).mono ?_;rw[B.out];rintro m a3 ⟨rfl,L,rfl⟩)|(go_at_call 111;refine(C _).mono ?_;rintro m aT ⟨rfl,nq,rfl⟩));go_ret;rw[h.out];exact .inl ⟨rfl,rfl,⟨q,r,s.tw ah<|λ_ _=>rfl,A.trans<|Fq.mw<|(Mw.refl e n).drewN _⟩,H,(by show b.U.length<=c;omega),(by show b.bh.length<=c;omega),(by show j.H+0<=c;omega),T⟩
 have h:Y (o=if(iw (Qqf a i) a {b with H:=c}).2=true then(if pk a (skip a dh (iw (Qqf a i) a {b with H:=c}).1.H)=-1\/br a parts (skip a dh (iw (Qqf a i) a {b with H:=c}).1.H)=true\/uq a {(iw (Qqf a i) a {b with H:=c}).1 with H:=skip a dh (iw (Qqf a i) a {b with H:=c}).1.H}=true then rowL' (Qqf a i) a (g-1) {(iw (Qqf a i) a {b with H:=c}).1 with H:=skip a dh (iw (Qqf a i) a {b with H:=c}).1.H} else({(iw (Qqf a i) a {b with H:=c}).1 with H:=skip a dh (iw (Qqf a i) a {b with H:=c}).1.H},false))else iw (Qqf a i) a {b with H:=c}):=by rw[Y,u.out,N<|by rw[l];simp;exact p]
 rw[l]at C;clear p u l F;have aH:Y (∀f,Rk (n.drewN f) e a {b with H:=c} q r):=λf=>s.tw ah<|λ_ _=>rfl
 have D:Y (∀f,Calls prog 112 #[.pointer<|some ⟨e,0,none⟩] (n.drewN f)<|um 1 e a {b with H:=c} q r (n.drewN f)<|iw (Qqf a i) a {b with H:=c}):=λf=>Tg i a9 e a {b with H:=c} q r _ (aH f) (by show b.U.length<=c;omega) (by show b.bh.length<=c;omega) (by show b.op<=5;omega) (by show 6<=b.op+1+i;omega)
 generalize iw (Qqf a i) a {b with H:=c}=a5 at h D;obtain⟨d,b2⟩:=a5;simp only at h;go_wp2_with (first|(go_at_call 110;refine(iz e a c _ s.cu.rc).mono ?_;rw[B.out];rintro m a3 ⟨rfl,L,rfl⟩)|(go_at_call 111;refine(C _).mono ?_;rintro m aT ⟨rfl,nq,rfl⟩));go_call D _ as m w3 a1;unfold um at a1;rcases a1 with⟨y,rfl,⟨a6,a7,x,V⟩,W,aI,aJ,aK,aL⟩|⟨y,rfl,Q,X⟩
 .simp only at y W aI aJ aK aL;subst y;have aM:=(A.trans<|Fq.mw<|(Mw.refl e n).drewN _).trans V;have P:=x.cu.rc.le;have v:Y (o=if Bv a (skip a dh d.H) d.op=true then rowL' (Qqf a i) a (g-1) {d with H:=skip a dh d.H} else({d with H:=skip a dh d.H},false)):=by
   rw[Y,h.out,G rfl];congr 1;simp[Bv,uq,or_assoc]
  have aN:=An a dh d.H P;have Z:=si a dh d.H P;clear V h D;go_wp21;refine(asd e a d.H d.op _ x.cu.rc x.c2).mono ?_;generalize skip a dh d.H=k at v aN Z|-;rintro m w4 ⟨rfl,E⟩;have K:=x.mw (.mv E)<|x.cu.mv E Z;have a0:=aM.trans<|Fq.mw<|.mv E;clear E;rcases df (Bv a k d.op)with t|t
  .have E:Y (o=rowL' (Qqf a i) a (g-1) {d with H:=k}):=by rw[Y,v.out,G t]
   rw[t];clear t v;go_wp21;go_roundw
   .exact⟨g-1,{d with H:=k},a6,a7,K,a0,(by show d.op=j.op;rw[W];exact H),(by show d.U.length<=k;omega),(by show d.bh.length<=k;omega),(by show j.H<=k;omega),(by show j.U.length<=d.U.length;omega),(by show a.size+1<=g-1+k;omega),E⟩
   have aP:=pu K.cu.rc.c1;have aQ:=aE;rw[aP,aQ];show a.size-k<a.size-b.H
   omega
  have E:Y (o=({d with H:=k},false)):=by rw[Y,v.out,t];rfl
  rw[t];clear t v;go_wp21;go_ret;rw[E.out];exact .inr ⟨rfl,rfl,K.cu.rc,a0.below w⟩
 simp only at y Q;subst y;have v:Y (o=(d,false)):=by rw[Y,h.out];rfl
 have k:=((A.trans<|Fq.mw<|(Mw.refl e n).drewN _).below w).trans X;clear X h D;go_wp21;go_ret;rw[v.out];exact .inr ⟨rfl,rfl,Q,k⟩
def ahq:∀N,Hr N
 |0=>λb g f c d h _ _ _ e a=>cb a<|by omega
 |N+1=>atp N<|ahq N
section
def Lb(p:cj):Prop:=∀x∈p.bh,x.want=true->x.cmd<p.U.length
def Lb.more{a:cj}(e:Lb a){i:Nat}{o:Nat}{lg:Int}{cs:List Cm}(b:a.U.length<=cs.length):Lb ⟨i,o,cs,a.bh,lg⟩:=λf c d=>ew (e f c d) b
section
variable {row:cj->cj×Bool} {s:ag}
def ala(g:∀a,Lb a->(row a).2=true->Lb (row a).1){a:cj}{c:Cm}(j:Lb a)(b:(qr row s a c).2=true):Lb (qr row s a c).1:=by
 unfold qr at*
 split
 .rename_i d;rw[G d]at b;cases b
 rename_i d;rw[N d]at b;simp only at*
 split
 .rename_i e;have:=g _ (j.more (i:=a.H+1) (o:=a.op+1) (lg:=a.bk) (cs:=a.U++[c])<|by simp) e.1;intro f h i
  have k:=this f h i;show f.cmd<(setGoal _ _ _).length
  rw[Dj];exact k
 rename_i e;rw[N e]at b;cases b
def ajj(i:∀a,Lb a->(row a).2=true->Lb (row a).1){a:cj}{g:Cm}(b:Lb a)(c:(lm row s a g).2=true):Lb (lm row s a g).1:=by
 unfold lm at*
 split
 .rename_i h;rw[G h]at c;simp only at*
  split
  .rename_i f;rw[G f]at c;exact ala i b c
  rename_i f;rw[N f]at c;split
  .rename_i e;rw[G e]at c;split
   .exact b.more<|by simp
   exact b.more<|by simp
  split
  .intro e d k
   show e.cmd<(a.U++[_]).length
   rw[ga,qx];rcases og.1 (show e∈a.bh++[_] from d)with d|d
   .have:=b e d k;omega
   have j:e=⟨s.extract (a.H+1)<|eg s 8<|a.H+1,a.H+1,a.U.length,true⟩:=by simpa using d
   rw[j];show a.U.length<a.U.length+1
   omega
  split
  .exact b.more<|by simp
  split
  .exact b.more<|by simp
  exact b.more<|by simp
 rename_i h;exact b
def al6(j:∀a,Lb a->(row a).2=true->Lb (row a).1){a:cj}(d:Lb a)(b:(iw row s a).2=true):Lb (iw row s a).1:=by
 unfold iw at*
 simp only at*
 split
 .rename_i k;rw[G k]at b;split
  .rename_i f;rw[G f]at b;split
   .exact d.more ah
   rename_i h;rw[N h]at b;exact ajj j (d.more ah) b
  rename_i f;rw[N f]at b;split
  .split
   .intro e c i
    rcases og.1 (show e∈a.bh++[_] from c)with c|c
    .exact d e c i
    have g:e.want=false:=by
     have g:e=⟨s.extract ((cq s a.H a.bk).1+1)<|eg s 8<|(cq s a.H a.bk).1+1,(cq s a.H a.bk).1+1,a.U.length,false⟩:=by simpa using c
     rw[g]
    rw[g]at i;cases i
   exact d.more ah
  rename_i h;rw[N h]at b;exact ajj j (d.more ah) b
 exact d.more ah
def aha(d:∀b,Lb b->(row b).2=true->Lb (row b).1):∀(f:Nat)(b:cj),Lb b->(rowL' row s f b).2=true->Lb (rowL' row s f b).1
 |0,b,h,a=>h
 |f+1,b,h,a=>by
  unfold rowL' at*
  simp only at*
  split
  .exact h.more ah
  rename_i g;rw[N g]at a;have i:Lb {b with H:=skip s fc b.H}:=h.more ah;split
  .rename_i c;rw[G c]at a;have e:=al6 d i c;split
   .rename_i j;rw[G j]at a;exact aha d f _ (e.more ah) a
   exact e.more ah
  rename_i c;rw[N c]at a;exact cb a c
end
def ahm(s:ag):∀(N:Nat)(b:cj),Lb b->(Qqf s N b).2=true->Lb (Qqf s N b).1
 |0,b,h,a=>h
 |N+1,b,h,a=>aha (ahm s N) (s.size+1) b h a
def rf(w:ae)(b n:Nat)(f:List UInt8->Option Nat):Prop:=∃D:DataW Unit,w.ownsMap prog 9 (plainElem prog 3) b n D/\Maps.IsMap D/\∀(k:List UInt8)(zd:DataW Unit),D.atKey (.string k) zd=match f k with
 |none=>zd
 |some m=> .lit<|.int .i64 m
def rf.made:rf (W.alloc<|.map #[] 0) W.heap.size 0 (λ_=>none):=
 ⟨.map [],World.ownsMap_made W prog 9 _,Maps.isMap_empty,λb a=>rfl⟩
def rf.of{c:List UInt8->Option Nat}(j:rf w a b c)(f:u.heap[a]?=w.heap[a]?):rf u a b c:=by
 have⟨d,⟨g,e,h,i,k,l⟩,m,n⟩:=j;exact⟨d,⟨g,e,f.trans h,i,k,l⟩,m,n⟩
def rf.lt{b:ae}{a f:Nat}{d:List UInt8->Option Nat}(e:rf b a f d):a<b.heap.size:=by
 have⟨g,c,_⟩:=e;exact c.lt
def aw7:(zeroValue 3).run prog W=.ok (I 0) W:=by
 exact(zero_of_info (P:=prog) (t:=3) (v:=I 0) (n:=1)<|by kernel_rfl).1 W
def rf.look{g:List UInt8->Option Nat}(p:rf w a b g)(c:ag)(u:c.size<=maxLen):
  (Instr.lookup 188 (.map<|some a) (.string c) true).run prog w=.ok (match g c.data.toList with|none=> .tuple #[I 0,.bool false]|some e=> .tuple #[I e,.bool true]) w:=by
 obtain⟨y,⟨x,C,v,n,z,rfl⟩,A,j⟩:=p;have q:keyOf prog 9 (.string c)=some (.string c.data.toList):=WideMaps.keyOf_string_mk underlying9 u;rcases Maps.fit_look true (Maps.string_keyed underlying9) underlying188 (aw7 w) v n q with⟨i,_,f⟩|⟨B,D,_,_,i,r,f,_⟩
 .cases h:g c.data.toList with
  |none=>exact i
  |some e=>
   have d:=j c.data.toList<|.map [];rw[f,h]at d;cases d
 have⟨k,o,l,_⟩:=plainElem_int_inv underlying3 r;cases h:g c.data.toList with
 |none=>
  have d:=j c.data.toList<|.map [];rw[f,h,l]at d;cases d
 |some e=>
  have d:=j c.data.toList<|.map [];rw[f,h,l]at d;have m:(DataW.lit (Lit.int .i64 k):DataW Unit)=.lit (.int .i64 e):=d;have t:k=(e:Int):=by
   generalize(e:Int)=E at m;cases m
   rfl
  rw[i,o,t];rfl
def rf.put{g:ae}{d f m:Nat}{h:List UInt8->Option Nat}(o:rf g d f h)(a:ag)(p:a.size<=maxLen:=by omega)(q:f<maxLen:=by omega)(y:m<=1000000:=by omega):
  ∃c,(Instr.mapUpdate 188 (.map<|some d) (.string a)<|I m).run prog g=.ok () c/\rf c d (f+1) (λb=>if b=a.data.toList then some m else h b)/\g.grownBy c (some d):=by
 have⟨x,r,i,t⟩:=o;have j:keyOf prog 9 (.string a)=some (.string a.data.toList):=WideMaps.keyOf_string_mk underlying9 p;have l:(Lit.int .i64 m).wf=true:=WalkArith.wf_i64 (by omega);have⟨c,k,n,u⟩:=r.update (Maps.string_keyed underlying9) underlying188 q j<|plainElem_int underlying3 l;refine⟨c,k,⟨_,n,?_,λb v=> ?_⟩,u⟩
 .exact i.put _ _
 simp only;by_cases e:b=a.data.toList
 .subst e;rw[G rfl,Maps.atKey_put_same i (show WideAt.IsKeyLit (.string a.data.toList)from trivial)]
 rw[N e,Maps.atKey_put_other<|λw=>e<|by injection w];exact t b v
end
def aec:∀(f:List ft)(d:Nat)(c:ft)(b:Nat)(e:af),f[d]?=some c-> [Value.string c.name,I c.H,I c.cmd,.bool c.want][b]?=some e->(Bs f)[d*4+b]?=some e
 | [],d,c,b,e,h,_=>by simp at h
 |y::f,0,c,b,e,h,a=>by
  have:y=c:=by simpa using h
  subst this;have g:b<4:=(jy.1 a).1;show([Value.string y.name,I y.H,I y.cmd,.bool y.want]++Bs f)[0*4+b]?=some e
  rw[oq<|by simp;omega,zyh,qo];exact a
 |y::f,d+1,c,b,e,h,a=>by
  show([Value.string y.name,I y.H,I y.cmd,.bool y.want]++Bs f)[(d+1)*4+b]?=some e
  rw[sn<|by simp;omega];have:=aec f d c b e (by simpa using h) a;rw[show(d+1)*4+b- [Value.string y.name,I y.H,I y.cmd,.bool y.want].length=d*4+b by simp;omega];exact this
def Pk(b:ag):∀(a:List ft)(c:Nat),markF b a c=(markF b a 0).map (·+c)
 | [],c=>rfl
 |x::a,c=>by
  unfold markF;split
  .simp
  rw[Pk b a<|c+1,Pk b a<|0+1];cases markF b a 0 with
  |none=>rfl
  |some d=>simp;omega
def aeq(a:ag):∀(c:List ft)(b:ft),markF a (c++[b]) 0=match markF a c 0 with
  |some f=>some f
  |none=>if b.want=false/\b.name=a then some c.length else none
 | [],b=>by simp[markF]
 |y::c,b=>by
  have g:=aeq a c b;unfold markF;rw[List.cons_append];simp only;by_cases d:y.want=false/\y.name=a
  .rw[G d,G d]
  rw[N d,N d,Pk a (c++[b])<|0+1,Pk a c<|0+1,g];cases markF a c 0 with
  |some f=>rfl
  |none=>
   by_cases e:b.want=false/\b.name=a
   .simp[e]
   simp[e]
def aeo(d:ag):∀(c:List ft)(a b:Nat),markF d c a=some b->b<a+c.length/\a<=b
 | [],a,b,h=>by simp[markF]at h
 |x::c,a,b,h=>by
  unfold markF at h;split at h
  .cases h;exact⟨by simp,ah⟩
  have:=aeo d c (a+1) b h;rw[xv];omega
def ro(l:List ft)(k:List UInt8):Option Nat:=markF ⟨k.toArray⟩ l 0
def bytes_eta:(⟨S.data.toList.toArray⟩:ag)=S:=by
 apply va;simp
def Vr(a:List ft)(b:ag):ro a b.data.toList=markF b a 0:=by rw[ro,bytes_eta]
def Vt(a:List ft)(b:ft):ro (a++[b])=if markF b.name a 0=none/\b.want=false then(λc=>if c=b.name.data.toList then some a.length else ro a c)else ro a:=by
 funext c;rw[ro,aeq];by_cases e:c=b.name.data.toList
 .subst e;rw[bytes_eta];by_cases d:markF b.name a 0=none/\b.want=false
  .rw[G d,d.1];simp[d.2]
  rw[N d,Vr];cases h:markF b.name a 0 with
  |some f=>rfl
  |none=>
   simp only;rw[if_neg];rintro⟨g,_⟩;exact d ⟨h,g⟩
 have d:¬b.name=⟨c.toArray⟩:=λg=>e<|by rw[g]
 have h:(match markF ⟨c.toArray⟩ a 0 with|some f=>some f|none=>if b.want=false/\b.name=⟨c.toArray⟩then some a.length else none)=ro a c:=by
  rw[ro];cases markF ⟨c.toArray⟩ a 0 with
  |some f=>rfl
  |none=>simp[d]
 rw[h];split
 .simp[e]
 rfl
def Rk.aeb{h:cj}(m:Rk w a s h x (aa b c d)){f:ft}(k:h.bh[e]?=some f)(g:Nat)(j:af)(l: [Value.string f.name,I f.H,I f.cmd,.bool f.want][g]?=some j):w.cell? (O b<|e*4+g)=some j:=by
 have n:c=h.bh.length:=by
  rcases m.wj.2 with⟨i,_⟩|⟨_,_,_,i,_⟩
  .cases i
  cases i;rfl
 subst n;have i:=(jy.1 k).1;have o:g<4:=(jy.1 l).1;rw[m.wj.cellAt (e*4+g)<|by omega];exact aec h.bh e f g j k l
def Rk.aej{e:cj}(g:Rk w a s e x y):(e.bh=[]/\∃h b,y=.slice h 0 b)\/∃c b,y= aa c e.bh.length b/\a<c/\c<w.heap.size:=by
 rcases g.wj.2 with⟨d,j⟩|⟨f,i,_,d,_⟩
 .exact .inl ⟨Ex.1 j,none,0,d⟩
 subst d;have:=g.wj.lt f rfl;exact .inr ⟨f,i,rfl,by omega,this.2⟩
def aqu(b:cj)(a0 a3:af)(d:ae)(p:Rk d i S b a0 a3)(aK:b.bh.length<=400)(y:∀c∈b.bh,c.name.size<=400):
  Calls prog 114 #[.pointer<|some ⟨i,0,none⟩] d λs C=>∃u,s=.returned (.map<|some u)/\d.heap.size<=u/\Below d.heap.size d C/\rf C u b.bh.length (ro b.bh):=by
 have K:=p;have aH:=p.lt;have E:=J y;rcases p.aej with⟨a1,aG,F,rfl⟩|⟨A,F,rfl,aD,aC⟩
 .have H:=λd=>run_makeMap (P:=prog) 188 d
  obtain⟨⟨⟨a5,a6,aB,_,_⟩,aA,L⟩,a7,a8,a9,M,P,Q,_,_,_⟩:=p;have q:Y (rf (d.alloc<|.map #[] 0) d.heap.size b.bh.length<|ro b.bh):=by
   rw[a1];exact rf.made d
  clear y;go_in;go_wp21;go_loopw [14] (λe wr=>e=I 0/\wr=d.alloc (.map #[] 0)) (λ_ _=>0)
  case atStart=>exact⟨rfl,rfl⟩
  obtain⟨rfl,rfl⟩:=hrel;go_wp21;go_ret;exact⟨_,rfl,ah,(bp _ _).alloc ah _,q⟩
 have H:=λd=>run_makeMap (P:=prog) 188 d
 obtain⟨⟨⟨a5,a6,aB,_,_⟩,aA,L⟩,a7,a8,a9,M,P,Q,_,_,_⟩:=p;clear y;go_in;go_wp21;go_loopw [14] (λe wr=>∃a:Nat,e=I a/\a<=b.bh.length/\Y (Below d.heap.size d wr)/\Y (rf wr d.heap.size a<|ro<|b.bh.take a)) (λe _=>b.bh.length-(intOf e).toNat)
 case atStart=>exact⟨0,rfl,ey _,(bp _ _).alloc ah _,rf.made d⟩
 obtain⟨a,rfl,aI,r,q⟩:=hrel;by_cases R:a=b.bh.length
 .subst R;go_wp21;go_ret;refine⟨_,rfl,ah,r.out,?_⟩;have:=q;rw[yzc]at this;exact this
 have T:a<b.bh.length:=by omega
 obtain⟨c,h⟩:∃c,b.bh[a]?=some c:=⟨_,dy T⟩;have w:Y (b.bh.take (a+1)=b.bh.take a++[c]):=by rw[Y,yzj,h];rfl
 have aF:=E c<|qy h;have D:c.name.size<=maxLen:=by unfold maxLen;omega
 have f:∀o e,[Value.string c.name,I c.H,I c.cmd,.bool c.want][o]?=some e->wr.cell? (O A<|a*4+o)=some e:=λo e a2=>(r.cell (p:=(O A<|a*4+o)) aC).trans<|K.aeb h o e a2
 have a4:=f 0 _ rfl;have aO:=f 1 _ rfl;have aP:=f 2 _ rfl;have B:=f 3 _ rfl;rw[yzp]at a4;have aL:(0:Int)<=a:=by omega
 have aM:(a:Int)<b.bh.length:=by omega
 have U:=q.lt;have j:Y (rf (wr.alloc<|.cells #[.string c.name,I c.H,I c.cmd,.bool c.want] 191) d.heap.size a<|ro<|b.bh.take a):=q.of<|im _ _ _ U;have m:Below d.heap.size d (wr.alloc<|.cells #[.string c.name,I c.H,I c.cmd,.bool c.want] 191):=r.alloc r.size _;have g:=j.look c.name D;rw[Vr]at g;have V:Y ((b.bh.take a).length=a):=by rw[Y,yxb];omega
 clear f h;cases h:markF c.name (b.bh.take a) 0 with
 |some aN=>
  rw[h]at g;simp only at g;have n:Y (ro (b.bh.take<|a+1)=ro (b.bh.take a)):=by rw[Y,w.out,Vt,N (λf=>by rw[h]at f;cases f.1)]
  clear h;go_wp21;go_roundw
  case rel=>exact⟨a+1,rfl,by omega,m,by rw[Y,n.out];obtain⟨v,x,f⟩:=j;exact⟨v,x.mono<|by omega,f⟩⟩
  simp[intOf];omega
 |none=>
  rw[h]at g;simp only at g;cases l:c.want with
  |true=>
   rw[l]at B g j m;have n:Y (ro (b.bh.take<|a+1)=ro (b.bh.take a)):=by rw[Y,w.out,Vt,N (λf=>by rw[l]at f;cases f.2)]
   clear h l;go_wp21;go_roundw
   case rel=>exact⟨a+1,rfl,by omega,m,by rw[Y,n.out];obtain⟨v,x,f⟩:=j;exact⟨v,x.mono<|by omega,f⟩⟩
   simp[intOf];omega
  |false=>
   rw[l]at B g j m;have n:Y (ro (b.bh.take<|a+1)=λt=>if t=c.name.data.toList then some a else ro (b.bh.take a) t):=by rw[Y,w.out,Vt,G ⟨h,l⟩,V.out]
   obtain⟨Z,aE,z,k⟩:=j.put (m:=a) c.name D (by unfold maxLen;omega) (by omega);have W:Y (rf Z d.heap.size (a+1)<|ro<|b.bh.take<|a+1):=by rw[Y,n.out];exact z
   have X:=m.trans ⟨k.os,k.tape,k.output,k.size,λt aJ=>k.block t (by simp;omega) (λs=>by injection s with s;omega)⟩;clear h l z k;go_wp21;go_roundw
   case rel=>exact⟨a+1,rfl,by omega,X,W⟩
   simp[intOf];omega
section
attribute [local go_sem↓] Ba ze Fb Fh Go.wp_at_zero Go.wp_at_succ
def Rx(R:Nat->Nat->Prop)(pl:Nat)(em:Bool)(i j:Nat):Prop:=R i j/\(em=false->¬(i=pl/\j=pl))
structure Fj(w wr:ae)(p:Fp)(v:af):Prop where
 fd:et wr p
 c4:wr.cell? (O p.fb 4)=some v
 f4:wr.frozen? (O p.fb 4)=false
 fm:Fm p w wr
def Fj.of{w wr c:ae}{b:Fp}(a:Fj w wr b x)(e:et c b)(d:Fm b wr c):Fj w c b x:=
 ⟨e,(ac 4<|d.block _ a.fd.lt a.fd.fk a.fd.fe).trans a.c4,(ad 4<|d.block _ a.fd.lt a.fd.fk a.fd.fe).trans a.f4,a.fm.trans d⟩
def Fj.grow{e wr f:ae}{c:Fp}{d:af}(b:Fj e wr c d)(a:Below wr.heap.size wr f):Fj e f c d:=b.of (b.fd.grow a)<|Below.fm a
def Fj.bj{b wr w':ae}{a:Fp}{g:af}{f:Nat}(c:Fj b wr a g)(d:bf f wr w')(h:b.heap.size<=f:=by omega)(j:a.fb<b.heap.size:=by omega)(k:a.kb<b.heap.size:=by omega)(l:a.eb<b.heap.size:=by omega):Fj b w' a g:=by
 have i:=c.fd.nf;have e:=d.block a.fb (by omega);exact⟨c.fd.bj d,(ac 4 e).trans c.c4,(ad 4 e).trans c.f4,c.fm.bj d h⟩
def Qjc(e:Nat->Bool)(b:Nat)(f:b<82):(dj e).set b (.bool false)=dj (λa=>if a=b then false else e a):=by
 apply yyy;intro a
 by_cases c:a<82
 .rw[qb _ c];by_cases d:b=a
  .subst d;rw[zv<|by rw[ek];exact c];simp
  rw[xe d,qb _ c];simp[Ne.symm d]
 rw[je<|by rw[tj,ek];omega,je<|by rw[ek];omega]
def acl{a:Fp}(c:et w a)(d:w.cell? (O a.fb 4)=some x)(e:w.frozen? (O a.fb 4)=false)(b:Below w.heap.size w u):et u a/\(∃x,u.cell? (O a.fb 4)=some x)/\u.frozen? (O a.fb 4)=false:=
 ⟨c.grow b,⟨x,(ac 4<|b.block _ c.lt).trans d⟩,(ad 4<|b.block _ c.lt).trans e⟩
def aoc(a:Fp)(h:Nat)(p:Bool)(X:af)(x:ae)(c3:h<=a.s.size)(y:et x a)(aV:x.cell? (O a.fb 4)=some X)(aW:x.frozen? (O a.fb 4)=false)(aX:vx a a.root)(aY:yj a a.root)(c4:a.eu<=1000):
  Calls prog 147 #[.pointer<|some ⟨a.fb,0,none⟩,.int .i64 h,.bool p] x
   λt a9=>(Below a.N0 x a9/\et a9 a/\(∃w,a9.cell? (O a.fb 4)=some w)/\a9.frozen? (O a.fb 4)=false)/\((t=.returned (.tuple #[.slice none 0 0,.bool false])/\∀c f,h<=c->c<=a.s.size->¬Rx (bi a.s a.bc a.root) h p c f)\/
    ∃aI c f M aU,t=.returned (.tuple #[.slice (some ⟨aI,0,none⟩) (a.eu+1) M,.bool true])/\a.N0<=aI/\zw a.s.size (Rx (bi a.s a.bc a.root) h p) h c f/\rx a9 aI (((c:Int),(f:Int))::aU)/\aU.length=a.eu/\Gq a.s a.bc a.root c f (tc a.eu) aU):=by
 have c5:=J y;have aZ:=J (vz a.s y.wf (a.root+1) a.root<|by omega);have b0:Y (Fj x x a X):=⟨y,aV,aW,Fm.refl _ _⟩;have c6:=y.js;have R:=y.lt;have S:=y.kl;have aA:=y.el;have bI:=y.nf;have aJ:=y.nk;have aK:=y.ne;have bJ:=J aX;have bK:=J aY;have c7:=y.tree.xm;have⟨b1,b2,b3,b4,b5⟩:=yyf ap2;go_in;go_wp21;go_loopw [8] (λw wr=>∃c:Nat,w=.int .i64 c/\h<=c/\c<=a.s.size+1/\Fj x wr a X/\Y (∀u l,h<=u->u<c->¬Rx (bi a.s a.bc a.root) h p u l)) (λw _=>a.s.size+1-(intOf w).toNat)
 .exact⟨h,rfl,ah,by omega,b0,λu l j v=>by omega⟩
 obtain⟨c,rfl,bL,c8,hF,aL⟩:=hrel;have T:=J hF;have bM:=hF.fd.c0;have bN:=hF.fd.c1;have bO:=hF.fd.tree.c2;by_cases aM:c<=a.s.size
 .go_wp21;have d:=bJ wr c T.fd aM;go_call d;rintro t aB ⟨A,rfl,d,b,k⟩;have Z:=J<|T.of b k;have g:=J d;have c9:=Z.fm.size;have B:=Z.fd.c1;have cA:(0:Int)<=c:=by omega
  have cC:(c:Int)<82:=by omega
  have bP:(c=h/\p=false)\/(((c:Int)==h)=false/\¬(c=h/\p=false))\/(((c:Int)==h)=true/\p=true):=by
   by_cases U:c=h
   .cases p
    .exact .inl ⟨U,rfl⟩
    exact .inr<|.inr ⟨by simp[U],rfl⟩
   exact .inr<|.inl ⟨by simp;omega,λj=>U j.1⟩
  rcases bP with⟨d,b⟩|⟨e,F⟩|⟨e,C⟩
  have e:((c:Int)==h)=true:=by rw[d];simp
  have n:Y (c=h/\p=false):=⟨d,b⟩;have E:(!p)=true:=by rw[b];rfl
  clear d b
  focus go_wp2_with (first
    |(refine gm 9 rfl rfl 246 rfl _ ld ?_;intro b6 b7 m o;have a0:=J m;have a1:=J o;clear m o)
    |(refine hw rfl 246 (.tmp 9) (.tmp 32) rfl _ rfl _ rfl _ a0 (by rw[ek,ek]) (gh _) (oh _) ?_;intro aC d i;have b:=J ((Z.grow a1).bj i (by omega) R S aA);have s:=J d;have q:=b.fd.c1;have z:=d.cell<|qb A (k:=c);have r:=d.frozen (k:=c) (by rw[ek];omega);clear d i B))
  have aD:Y (bd (aC.setCell ⟨aB.heap.size,c,none⟩<|.bool false) aB.heap.size<|dj λk=>if k=c then false else A k):=by
   rw[Y,<-Qjc A c<|by omega];exact s.put c (by rw[ek];omega) _
  have aE:Y (Fj x (aC.setCell ⟨aB.heap.size,c,none⟩<|.bool false) a X):=b.bj xxs (by omega) R S aA;have a2:Y (io (λk=>if k=c then false else A k)<|Rx (bi a.s a.bc a.root) h p c):=λf H=>by
   by_cases a3:f=c
   .subst a3;exact⟨λj=>by simp at j,λj=>cb ⟨n.1,n.1⟩<|j.2 n.2⟩
   show(if f=c then false else A f)=true↔_
   rw[N a3];exact⟨λj=>⟨(g f H).1 j,λ_ v=>a3<|by rw[v.2,n.1]⟩,λj=>(g f H).2 j.1⟩
  generalize(λk=>if k=c then false else A k)=V at*
  rotate_left
  have a2:Y (io A<|Rx (bi a.s a.bc a.root) h p c):=λf H=>⟨λj=>⟨(g f H).1 j,λn v=>F ⟨v.1,n⟩⟩,λj=>(g f H).2 j.1⟩
  clear F
  focus go_wp2_with (first
    |(refine gm 9 rfl rfl 246 rfl _ ld ?_;intro b6 b7 m o;have a0:=J m;have a1:=J o;clear m o)
    |(refine hw rfl 246 (.tmp 9) (.tmp 32) rfl _ rfl _ rfl _ a0 (by rw[ek,ek]) (gh _) (oh _) ?_;intro aC d i;have b:=J ((Z.grow a1).bj i (by omega) R S aA);have s:=J d;have q:=b.fd.c1;have z:=d.cell<|qb A (k:=c);have r:=d.frozen (k:=c) (by rw[ek];omega);clear d i B))
  have aE:=b;have aD:=s;generalize A=V at*
  rotate_left
  have a2:Y (io A<|Rx (bi a.s a.bc a.root) h p c):=λf H=>⟨λj=>⟨(g f H).1 j,λn v=>by rw[C]at n;cases n⟩,λj=>(g f H).2 j.1⟩
  have E:(!p)=false:=by rw[C];rfl
  clear C
  focus go_wp2_with (first
    |(refine gm 9 rfl rfl 246 rfl _ ld ?_;intro b6 b7 m o;have a0:=J m;have a1:=J o;clear m o)
    |(refine hw rfl 246 (.tmp 9) (.tmp 32) rfl _ rfl _ rfl _ a0 (by rw[ek,ek]) (gh _) (oh _) ?_;intro aC d i;have b:=J ((Z.grow a1).bj i (by omega) R S aA);have s:=J d;have q:=b.fd.c1;have z:=d.cell<|qb A (k:=c);have r:=d.frozen (k:=c) (by rw[ek];omega);clear d i B))
  have aE:=b;have aD:=s;generalize A=V at*
  rotate_left
  all_goals
   go_loopw [10] (λw a4=>∃f:Nat,w=.int .i64 ((f:Int)-1)/\c<=f/\f<=a.s.size+1/\Fj x a4 a X/\bd a4 aB.heap.size (dj V)/\Y (∀l,f<=l->l<=a.s.size->¬Rx (bi a.s a.bc a.root) h p c l)) (λw _=>(intOf w+1).toNat)
   .exact⟨a.s.size+1,by congr 1;omega,by omega,ah,aE,aD,λl n v=>by omega⟩
   obtain⟨f,rfl,cE,H,aN,aF,aO⟩:=hrel;have s:=J aN;have b8:=J aF;by_cases cF:c<f
   .obtain⟨d,rfl⟩:∃d,f=d+1:=⟨f-1,by omega⟩;rw[show(((d+1:Nat):Int)-1)=(d:Int)by omega];have aP:=aF.cell<|qb V (k:=d);have cG:(0:Int)<=d:=by omega
    have cH:(d:Int)<82:=by omega
    have a3:(c:Int)<=d:=by omega
    rcases df (V d)with z|z
    .have a5:=J ((a2 d<|by omega).1 z);rw[z]at aP;have aG:=s.c4;have b:=s.f4;have cI:=s.fm.size;have g:Y (Ly x (wr.setCell ⟨a.fb,4,none⟩<|.slice none 0 0) a wr.heap.size 0<|.slice none 0 0):=⟨et.Kl s.fd _,qz _ _ _ aG,by rw[jf];exact b,yyc _ _ _ _,(s.fm.below aJ aK).setCell bI _,λ_=>rfl⟩;clear z aP aG b;have q:=s.c4;have r:=s.f4;have i:=b8.cell<|qb V (k:=d);rw[(a2.out d<|by omega).2 a5.out]at i;go_wp21;have e:Y (∃m,m=wr.heap.size):=⟨_,rfl⟩;have⟨m,b⟩:=e.out;have o:Y (a.fb<m/\a.kb<m/\a.eb<m/\a.N0<=m):=by rw[Y,b];omega
     have aQ:Y (Ly x (wr.setCell ⟨a.fb,4,none⟩<|.slice none 0 0) a m 0<|.slice none 0 0):=by rw[b];exact g
     have aR:Y (m<=(wr.setCell ⟨a.fb,4,none⟩<|.slice none 0 0).heap.size):=by rw[Y,b];simp[World.setCell]
     clear b e g q r i;generalize wr.setCell ⟨a.fb,4,none⟩ (.slice none 0 0)=cJ at aQ aR|-;go_loopw [11] (λw a4=>∃(k:Nat)(B:af),w=.int .i64 k/\k<=a.eu/\Ly x a4 a m k B/\m<=a4.heap.size) (λw _=>a.eu-(intOf w).toNat)
     .exact⟨0,_,rfl,ey _,aQ,aR⟩
     obtain⟨k,B,rfl,cK,b,i⟩:=hrel;have g:=J b;have E:=J i;have bQ:=b.fd.c0;have bR:=b.fd.tree.c1;have bS:=b.c4;clear b i aQ aR;by_cases cM:k<a.eu
     .have q:Y (∀{b:ae} {C M:Nat},b.ownsRow m 48 2 (.slice (some ⟨C,0,none⟩) (k+1) M) (k+1) (flat (List.replicate k ((-1:Int),(-1:Int)))++[.int .i64<|-1,.int .i64<|-1])->(wr.alloc<|.cells #[.int .i64<|-1,.int .i64<|-1] 48).grownBy b B.ownBlock->_):=fun {b C M} n v=>g.more ⟨o.1,o.2.1,o.2.2.1,E⟩ n v
      go_wp2_with (at_builtin;refine wpList_append_lies _ rfl _ _ 41 rfl m 48 b1 _ 2 16 underlying41 b2 b3 b4 b5 rfl (by omega) B k (flat<|List.replicate k ((-1:Int),(-1:Int))) rfl (g.own.alloc _) ⟨wr.heap.size,0,none⟩ 1 1 [.int .i64<|-1,.int .i64<|-1] rfl rfl (World.news_of_block (cs:=#[.int .i64<|-1,.int .i64<|-1]) (t:=48) (fr:=(0,0))<|heap_alloc_last wr _) (λb9 U=>by simp at U;subst U;rfl) (by omega) (by unfold maxLen;omega) (by omega) (by have:=E.out;simp;omega) (wr.heap.size+1) (by simp) ?_;intro C M r i F aS K;have⟨e,a6,a7⟩:=q.out i F;have L:=J e;have P:Y (m<=(r.setCell ⟨a.fb,4,none⟩<|.slice (some ⟨C,0,none⟩) (k+1) M).heap.size):=(by have n:=F.size;have v:=E.out;simp at n;simp[Y,World.setCell];omega);clear e i F aS K);go_roundw
      .exact⟨k+1,_,by go_num,by omega,L,P⟩
      simp[intOf];omega
     have bT:k=a.eu:=by omega
     subst bT;have a8:=g.fd.tree.c2;have⟨b,e⟩:=g.gs ⟨o.1,o.2.1,o.2.2.1⟩ o.2.2.2;have bU:=J b;have bA:=J e;have bD:Y (∀i,B.ownBlock=some i->m<=i/\i<wr.heap.size):=λi a6=>g.own.lt i a6
     clear b e;go_wp21;have b:=bK wr c d (tc a.eu) B.ownBlock bU bA (by omega) (by omega) a5.1;go_call b;clear b;rintro t b ⟨rfl,r,Q,D,e⟩;have bE:=J Q;have a7:Y (r.length=a.eu):=by rw[Y,D];exact bA
     have bV:=J e;have cN:=e.fr.size;have aG:=(bz (w:=wr) (w':=b) (a:=⟨a.fb,4,none⟩)<|e.fr.block a.fb g.fd.lt g.fd.fk g.fd.fe (λt=>by have:=(bD _ t).1;have:=o.1;omega)).trans g.c4;have K:Y (b.frozen? ⟨a.fb,4,none⟩=false/\b.cell? ⟨a.fb,4,none⟩=some B/\et b a):=⟨(hz (w:=wr) (w':=b) (a:=⟨a.fb,4,none⟩)<|e.fr.block a.fb g.fd.lt g.fd.fk g.fd.fe (λt=>by have:=(bD _ t).1;have:=o.1;omega)).trans g.f4,aG,e.fd⟩;have bF:=J (g.bl.trans<|Fg.below e.fr aJ aK (λq t=>(e.ap q t).1) (by have:=E.out;have:=o.2.2.2;omega));have aH:Y (zw a.s.size (Rx (bi a.s a.bc a.root) h p) h c d):=⟨bL,by omega,by omega,a5,λu l P j=>aL u l P j,λl j L=>by
      have:=aZ c l aM L.1;exact aO l (by omega) (by omega) L⟩
     have cP:=e.fd.lt;clear Q D e bQ bR a8 bS;by_cases a8:a.eu=0
     .have aT:=g.nz a8;subst aT;have e:r=[]:=Ex.1 (by rw[a7.out];exact a8);have D:=J e;clear e;have e:=J a8;go_wp21;go_ret2;have Q:a.N0<=b.heap.size:=by have:=E.out;have:=o.2.2.2;omega
      have n:Below b.heap.size b (b.alloc<|.cells #[.int .i64 c,.int .i64 d] 48):=(bp _ _).alloc ah _;refine⟨⟨bF.trans<|n.mono Q,acl K.2.2 K.2.1 K.1 n⟩,.inr ⟨b.heap.size,c,d,1,r,by rw[e.out];rfl,Q,aH,?_,a7,bE⟩⟩;rw[D.out];exact Wq (l:=[((c:Int),(d:Int))])<|aft b _ _
     have⟨q,bW,aT,cR,cS⟩:=g.own.form (by omega);subst aT;have bX:Y (rx b q r):=λi b9 bY a6=>by
      have⟨D,W,aH,e,R,S⟩:=bV.cs i (b9,bY) a6;have:q=D:=by simpa[Value.ownBlock]using W
      subst this;exact⟨aH,e,R,S⟩
     have bZ:q<b.heap.size:=by omega
     have c0:Y (∀f D,(flat r)[f]?=some D->(b.alloc<|.cells #[.int .i64 c,.int .i64 d] 48).cell? ((⟨q,0,none⟩:Addr).add f)=some D):=λf D c1=>by
      have W:(⟨q,0,none⟩:Addr).add f=⟨q,f,none⟩:=by unfold Addr.add;split<;>simp_all
      rw[W,World.cell?_alloc_lt _ _ _<|by exact bZ];exact aot bX f D c1
     go_wp2_with (at_builtin;refine wpList_append_lies _ rfl _ _ 41 rfl b.heap.size 48 b1 _ 2 16 underlying41 b2 b3 b4 b5 rfl (by omega) (.slice (some ⟨b.heap.size,0,none⟩) 1 1) 1 [.int .i64 c,.int .i64 d] rfl (aft b _ _) ⟨q,0,none⟩ a.eu bW (flat r) rfl (by rw[Ui,a7.out]) c0 (aou _) (by omega) (by unfold maxLen;omega) (by omega) (by simp) (b.heap.size+1) (by simp) ?_;intro C M W bG F aS c2;have bH:=J bG;have e:Y ((b.alloc<|.cells #[.int .i64 c,.int .i64 d] 48).grownBy W<|some b.heap.size):=F;clear bG F aS c2);go_ret2;have Q:a.N0<=b.heap.size:=by have:=E.out;have:=o.2.2.2;omega
     have n:Below b.heap.size b (b.alloc<|.cells #[.int .i64 c,.int .i64 d] 48):=(bp _ _).alloc ah _;have v:Below b.heap.size (b.alloc<|.cells #[.int .i64 c,.int .i64 d] 48) W:=⟨e.os,e.tape,e.output,e.size,λi a6=>e.block i (by simp;omega) (λt=>by have:i=b.heap.size:=(by simpa using t);omega)⟩;exact⟨⟨bF.trans<|(n.trans v).mono Q,acl K.2.2 K.2.1 K.1<|n.trans v⟩,.inr ⟨C,c,d,M,r,by first|rfl|(rw[yzq 1 a.eu];rfl),by have:=(bH.lt C rfl).1;omega,aH,Wq (l:=((c:Int),(d:Int))::r) bH,a7,bE⟩⟩
    have a5:Y (¬Rx (bi a.s a.bc a.root) h p c d):=λj=>by rw[(a2.out d<|by omega).2 j]at z;cases z
    rw[z]at aP;clear z;go_wp21;go_roundw
    .exact⟨d,rfl,by omega,by omega,s,b8,λl n v=>by
     by_cases t:l=d
     .subst t;exact a5
     exact aO l (by omega) v⟩
    first|(simp[intOf];done)|(simp[intOf];omega)
   have d:Y (∀u l,h<=u->u<c+1->¬Rx (bi a.s a.bc a.root) h p u l):=λu l P j L=>by
    by_cases t:u=c
    .subst t;have:=aZ u l aM L.1;exact aO l (by omega) (by omega) L
    exact aL u l P (by omega) L
   have a3:¬(c:Int)<=f-1:=by omega
   clear aN aF;go_wp21;go_roundw
   .exact⟨c+1,by go_num,by omega,by omega,s,d⟩
   simp[intOf];omega
 have d:Y (∀c f,h<=c->c<=a.s.size->¬Rx (bi a.s a.bc a.root) h p c f):=λu l P j=>aL u l P<|by omega
 go_wp21;go_ret2;exact⟨⟨T.fm.below aJ aK,T.fd,⟨_,T.c4⟩,T.f4⟩,.inl ⟨rfl,d⟩⟩
end
def ajz:Prop:=∀(p:Fp),Gd p.bc->(∀(n:Nat)(d:Nd),p.bc[n]?=some d->Bc d/\(d.R=3->d.num<p.eu/\∃z,d.ba=[z])/\d.lo<=900)->p.eu<=1000->∀n,n<p.bc.length->yj p n
def Oh(mf:Mf)(pt s:ag)(pl:Nat)(em:Bool):Option (List<|Int×Int):=if em=true then mf pt s pl else mz mf pt s pl
def am1{m:Mf}(x:fj m){c s:ag}(a1:iu c)(V:c.size<=40)(T:(il c).1.g=eo c)(W:(il c).2<(il c).1.l.length)(d:Nat)(U:d<=s.size)(t:Bool):
  ((∀a b,d<=a->a<=s.size->¬Rx (bi s (jv c).1.l (jv c).2) d t a b)->Oh m c s d t=none)/\
  ∀(a b:Nat) (f:co),zw s.size (Rx (bi s (jv c).1.l (jv c).2) d t) d a b->f.length=(jv c).1.g->Gq s (jv c).1.l (jv c).2 a b (tc (jv c).1.g) f->Oh m c s d t=some (((a:Int),(b:Int))::f):=by
 obtain ⟨K,D,a2,X⟩:=Qu a1 V;have Q:=X s;have a3:=vz s D.wf ((il c).2+1) (il c).2 (by omega);rw [←Q.m];have Z:∀j a b,zw s.size (bi s (il c).1.l (il c).2) j a b->∃f,m c s j=some (((a:Int),(b:Int))::f):=fun j a b g=>by
  obtain ⟨f,h,i⟩:=af9 s _ D.wf D.h3 ((il c).2+1) (il c).2 (by omega) W a b (tc (eo c)) g.2.1;exact ⟨f,(x c s j).1 _ ⟨a,b,f,rfl,g,by rw [i];simp [tc],h⟩⟩
 have w:∀j a b f,zw s.size (bi s (il c).1.l (il c).2) j a b->f.length=(jv c).1.g->Gq s (jv c).1.l (jv c).2 a b (tc (jv c).1.g) f->m c s j=some (((a:Int),(b:Int))::f):=fun j a b f g n o=>by
  have i:jg s (jv c).1.l (jv c).2 a b (tc (jv c).1.g) f:=ac0 s _ _ _ _ _ _ _ o;have h:=(Q.g a b (by have:=g.2.1;have:=g.2.2.1;omega) g.2.2.2.1 _ _).2 i;refine (x c s j).1 _ ⟨a,b,f,rfl,g,by rw [n,←K,T], ?_⟩;rw [←T,K];exact h
 have E:∀j,(∀a b,j<=a->a<=s.size->¬bi s (il c).1.l (il c).2 a b)->m c s j=none:=fun j h=>(x c s j).2 fun y ⟨a,b,f,_,g,_⟩=>h a b g.1 (by have:=g.2.1;have:=g.2.2.1;omega) g.2.2.2.1
 cases t
 .have hd:Oh m c s d false=mz m c s d:=rfl;rw [hd,mz];generalize a5:bi s (il c).1.l (il c).2=p at*
  have q:∀a b,p a b->¬(a=d/\b=d)->Rx p d false a b:=fun a b k i=>⟨k,fun _=>i⟩
  have L:∀a b,Rx p d false a b->¬(a=d/\b=d):=fun a b h=>h.2 rfl
  have M:∀(a b:Nat) (f:co),b≠d->m c s d=some (((a:Int),(b:Int))::f)->(match m c s d with|some y=>if (y.getD 0 (-1,-1)).2=(d:Int) then m c s (d+1) else some y|none=>none)=some (((a:Int),(b:Int))::f):=fun a b f R e=>by
   rw [e];show (if (b:Int)=(d:Int) then _ else _)=_
   rw [N (by omega)]
  by_cases F:p d d
  .by_cases H:∃b,d<b/\p d b
   .obtain ⟨u,a4,P⟩:=H;refine ⟨fun h=>cb (q d u P (by omega)) (h d u ah U),fun a b f g n o=> ?_⟩;obtain ⟨a0,z,A,r,B,C⟩:=g;have S:a=d:=by
     rcases hb d a with e|e
     .exact cb (q d u P (by omega)) (B d u ah e)
     omega
    subst S;have R:b≠a:=fun e=>L a b r ⟨rfl,e⟩
    exact M a b f R (w a a b f ⟨ah,z,A,r.1,fun v l k i=>by omega,fun l k i=>C l k (q a l i (by omega))⟩ n o)
   obtain ⟨a4,P⟩:=Z d d d ⟨ah,ah,U,F,fun v l k i=>by omega,fun l k i=>H ⟨l,k,i⟩⟩;rw [P];show (_->(if (d:Int)=(d:Int) then _ else _)=_)/\(∀(a b:Nat) (f:co),_->_->_->(if (d:Int)=(d:Int) then _ else _)=_)
   rw [G rfl];refine ⟨fun h=>E (d+1) fun a b k i u=>h a b (by omega) i (q a b u (by omega)),fun a b f g n o=> ?_⟩;obtain ⟨a0,z,A,r,B,C⟩:=g;have S:a≠d:=fun e=>by
    subst e;have:=L a b r;exact H ⟨b,by omega,r.1⟩
   exact w (d+1) a b f ⟨by omega,z,A,r.1,fun v l k i u=>B v l (by omega) i (q v l u (by omega)),fun l k i=>C l k (q a l i (by omega))⟩ n o
  have l:Rx p d false=p:=by
   funext a b;exact propext ⟨fun h=>h.1,fun h=>q a b h (fun e=>F (by rw [e.1,e.2] at h;exact h))⟩
  rw [l];refine ⟨fun h=>by rw [E d h],fun a b f g n o=>M a b f (fun e=> ?_) (w d a b f g n o)⟩;have k:=g.1;have i:=g.2.1;have r:=g.2.2.2.1;have:a=d:=by omega
  rw [this,e] at r;exact F r
 have l:Rx (bi s (il c).1.l (il c).2) d true=bi s (il c).1.l (il c).2:=by
  funext a b;exact propext ⟨fun h=>h.1,fun h=>⟨h,fun h=>by cases h⟩⟩
 rw [l];exact ⟨fun h=>E d h,fun a b f g n o=>w d a b f g n o⟩
def IX(v u:af):Sem af:=Instr.index 246 v u
def Zu:Instr.index 246 V X=IX V X:=rfl
def ahy(b:Nat->Bool)(a:Nat)(c:a<82)(d:ae):(IX (.agg (dj b).toArray)<|I a).run prog d=.ok (.bool<|b a) d:=by
 have f:=underlying246;have g:=underlying4;have e:=qb b c;have h:(0:Int)<=a:=by omega
 have i:(a:Int)<82:=by omega
 unfold IX Instr.index;simp[yzz,run_underlying f,asIntOf,h,i];rw[G c];simp[part,isAgg,yzz,run_underlying g,e]
section
attribute [local go_sem↓] Ba ze Fb Fh Zu Go.wp_at_zero Go.wp_at_succ
def pr.of(e:a<=c)(f:c<=b)(g:∀d,c<d->d<=b->¬h d)(i:c=a\/h c:=by omega):pr h a b c:=⟨e,f,g,i⟩
structure Qqe(w wr:ae)(p:Fp)(ob:Option Nat)(n i j:Nat)(c:co)(d:Nd)(ao:Option Addr)(cc k a:Nat)(c':co):Prop where
 gl:Gl w wr p ob c' d ao cc
 cl:c'.length=c.length
 ia:i<=a
 aj:a<=j
 ch:ku ((d.ba.drop k).map<|bi p.s p.bc) a j
 gq:∀c'',ik (bi p.s p.bc) (Gq p.s p.bc) (d.ba.drop k) a j c' c''->Gq p.s p.bc n i j c c''
set_option maxHeartbeats 60000000 in
theorem ao7(c:Fp)(k:Nat)(d:Nd)(hd:c.bc[k]?=some d)(a9:d.R=5)(aA:∀(k:Nat)(d:Nd),c.bc[k]?=some d->d.R=3->d.ba≠[])(a4:∀j∈d.ba,j<c.bc.length/\vx c j/\yj c j)(aZ:d.ba.length<=1000):yj c k:=by
 intro t w h F H aB aK b0 bO e
 have a:=aB.fd;have aL:=J a.wf;have bP:k<c.bc.length:=by
  rcases hb k c.bc.length with b|b
  .exact b
  rw[je b]at hd;cases hd
 have bR:=a.js;obtain⟨aM,p,i,V⟩:=a.tree.node k d hd;have b1:=J i;have b2:=J V;obtain⟨bS,f⟩:=a.tree.c0;have l:=a.c0;have bT:(0:Int)<=k:=by omega
 have bU:(k:Int)<c.bc.length:=by omega
 have bV:(d.R:Int)=5:=by omega
 have b3:Y (∀m,ik (bi c.s c.bc) (Gq c.s c.bc) d.ba w h F m->Gq c.s c.bc k w h F m):=by
  intro m b
  rw[Jo a.wf aA hd,N<|by omega,N<|by omega,G a9];exact b
 have b4:Y (ku (d.ba.map<|bi c.s c.bc) w h):=by
  rw[oy a.wf hd,N<|by omega,N<|by omega,N<|by omega,G a9]at e;exact e
 have b5:=J a4;have b6:Y (∀j∈d.ba,j<c.bc.length/\vx c j):=λj x=>⟨(a4 j x).1,(a4 j x).2.1⟩
 have bX:(h:Int)<82:=by omega
 clear a i V hd a9 e aA a4;go_in;go_wp2_with (first
  |(refine wpList_load_mid rfl 271 (.tmp 25) rfl c.nb (k*261) rfl (dk d<|.slice aM d.ba.length p) _ b1 underlying271 rfl (jc _ _) ?_)
  |(refine gm 8 rfl rfl 271 rfl _ xa ?_;intro w3 aA b7 b8)
  |(refine hw rfl 271 (.tmp 8) (.tmp 26) rfl _ rfl _ rfl _ b7 (by rw[gy,gy]) (jc _ _) (vl _ _ _ _) ?_;intro w4 a e;have aC:=Gl.start aB b8 e a b2;have i:=aC.nd.R;clear a e l f))
 clear i;go_loopw [2,11] (λb9 K wr=>∃(e i:Nat)(m:co),e<=d.ba.length/\K=I e/\b9=I i/\Qqe t wr c H k w h F d aM p e i m) (λ_ K _=>d.ba.length-(intOf K).toNat)
 .exact⟨0,w,F,ey _,rfl,rfl,⟨aC,rfl,ah,b0,b4,b3⟩⟩
 obtain⟨e,i,m,bY,rfl,rfl,y⟩:=hrel;have l:=y;have W:=y.gl.nd.ba;have bA:=y.aj;by_cases bD:e<d.ba.length
 .obtain⟨j,x⟩:∃j,d.ba[e]?=some j:=⟨d.ba[e],dy bD⟩;have f:=qy x;obtain⟨u,bE,bZ,n⟩:=y.gl.sa e j x;simp only[O]at bE;subst bE;have a0:=J x;have c0:(0:Int)<=e:=by omega
  have c1:(e:Int)<d.ba.length:=by omega
  have aD:=J<|b5 j f;have aN:Y (∃a,i<=a/\a<=h/\(bi c.s c.bc j i a/\ku ((d.ba.drop<|e+1).map<|bi c.s c.bc) a h)):=by
   have b:=y.ch;rw[drop_cons x]at b;obtain⟨a,X,z⟩:=b;have V:=vz c.s aL (j+1) j (by omega) i a (by omega) X;have o:=nj.chain (L:=c.s.size) (l:=(d.ba.drop<|e+1).map<|bi c.s c.bc) (λv r=>by
    obtain⟨g,_,rfl⟩:=List.mem_map.1 r;exact vz c.s aL (g+1) g<|by omega) a h V.2 z
   exact⟨a,V.1,o.1,X,z⟩
  clear x f y aC aB;go_wp21;go_call aD.2.1 _ i l.gl.gs.fd (by omega)as r bF ⟨a1,rfl,f,g,o⟩;have aO:=l.gl.fm g o;have aP:=J f;have aQ:=aO.lt;clear f g o W n;go_wp2_with (first
    |(refine gm 12 rfl rfl 246 rfl _ ld ?_;intro c2 aR bG bH)
    |(refine hw rfl 246 (.tmp 12) (.tmp 94) rfl _ rfl _ rfl _ bG (by rw[ek,ek]) (gh _) (oh _) ?_;intro c3 aE f;have aS:=(aO.grow bH).bj f aQ;clear f))
  generalize bF.heap.size=L at aE aQ aR|-;go_loopw [13] (λK aT=>∃a:Nat,K=I a/\i<=a/\a<=h/\Gl t aT c H m d (some<|O u 0) p/\bd aT L (dj a1)/\Y (∀f,a<f->f<=h->¬(bi c.s c.bc j i f/\ku ((d.ba.drop<|e+1).map<|bi c.s c.bc) f h))) (λK _=>(intOf K).toNat)
  .exact⟨h,rfl,bA,ah,aS,aE,λf X z=>by omega⟩
  obtain⟨a,rfl,a2,a3,M,Z,a5⟩:=hrel
  have c5:(a:Int)<82:=by omega
  have aU:=Z.lt (by rw[ek];omega);clear aS aE aR;by_cases c7:i<a
  .have aV:decide ((i:Int)<a)=true:=by simp;omega
   have a6:=Z.cell (qb a1 (k:=a)<|by omega);rcases df (a1 a)with o|o
   .have aF:=J o;have bI:=J ((aP a<|by omega).1 o);rw[o]at a6;clear o;have Q:=M.grow (bp _ _).drew;have bJ:=Z.drew;have R:=By Q.nd;have bK:Y (∀n,(λn=>decide (n=a)) n=true->n<=c.s.size):=λn bL=>by
     have:n=a:=by simpa using bL
     omega
    have aW:Y (wr.drew.heap.size=wr.heap.size):=rfl;go_wp21;have bM:Y (IntKind.i64.wrap ((e:Int)+1)=((e+1:Nat):Int)):=by rw[Y,IntWalk.i64_in _<|by omega];omega
    have s:wr.drew.cell? (O L a)=some (.bool true)/\(Bb<|ab t.heap.size 0).run prog wr.drew=.ok (.agg (dk d<|aa u d.ba.length p).toArray) wr.drew:=⟨a6,R⟩;go_region_held3 (λaG=>aG.cell? (O L a)=some (.bool true)/\(Bb<|ab t.heap.size 0).run prog aG=.ok (.agg (dk d<|aa u d.ba.length p).toArray) aG) (first|exact s|exact S|exact T)
     (first
      |(go_at_call 216;have g:=Oj a wr.drew (by omega);go_call g;clear g;rintro r q ⟨rfl,v⟩;have S:q.cell? (O L a)=some (.bool true)/\(Bb<|ab t.heap.size 0).run prog q=.ok (.agg (dk d<|aa u d.ba.length p).toArray) q:=⟨(v.cell (p:=O L a) aU).trans s.1,By<|Q.nd.below v Q.lt⟩)
      |(go_at_call 215;have g:=Qe c d (some<|O u 0) p b6 (λn=>decide (n=a)) (e+1) q (Q.grow v).gs.fd (Q.grow v).sa aZ bK;rw[bM.out];go_call g;clear g;rintro r a7 ⟨aH,rfl,D,U,E⟩;have a8:=λaI=>ahy aH h (by omega) aI;have aX:Y (aH h=true↔ku ((d.ba.drop<|e+1).map<|bi c.s c.bc) a h):=⟨λb=>(by obtain⟨f,aJ,bN⟩:=(D h<|by omega).1 b;have:f=a:=(by simpa using aJ);subst this;exact bN),λb=>(D h<|by omega).2 ⟨a,by simp,b⟩⟩;have g:=(Q.grow v).fm U E;have aY:=(bJ.below v<|by rw[aW.out];exact aU).fm E (by have:=v.size;rw[aW.out]at this;omega) (by have:=M.kl;omega) (by have:=M.el;omega);have T:a7.cell? (O L a)=some (.bool true)/\(Bb<|ab t.heap.size 0).run prog a7=.ok (.agg (dk d<|aa u d.ba.length p).toArray) a7:=⟨(by have:=aY.cell (qb a1 (k:=a)<|by omega);rw[aF.out]at this;exact this),By g.nd⟩;clear D U E))
    clear R a6 s S T;rcases df (aH h)with v|v
    .have D:=J<|aX.1 v;have q:=J<|pr.of a2 a3 a5<|.inr ⟨bI,D⟩;rw[v]at a8|-;clear v a8;have s:=J<|q.holds aN;have W:=g.nd.ba;obtain⟨aI,E,aJ,R⟩:=g.sa e j a0;cases E
     go_wp21;go_call aD.2.2 _ i a m H g.gs.base (by rw[l.cl];exact aK) a2 (by omega) s.1 as r S ⟨rfl,P,A,B,C⟩;have T:Y (Qqe t S c H k w h F d (some<|O u 0) p (e+1) a P):=⟨g.call C,by rw[B];exact l.cl,by have:=l.ia;omega,a3,s.2,λU b=>l.gq U<|by rw[drop_cons a0.out];exact ag7 q A b⟩;clear A B C W R;go_wp21;go_roundw
     .exact⟨e+1,a,P,by omega,by go_num,rfl,T⟩
     simp[intOf];omega
    have D:Y (¬ku ((d.ba.drop<|e+1).map<|bi c.s c.bc) a h):=λb=>by rw[aX.2 b]at v;cases v
    rw[v]at a8|-;clear v a8;go_wp21;go_roundw
    .exact⟨a-1,by rw[Int.ofNat_sub<|by omega];rfl,by omega,by omega,g,aY,λf X z=>by
     by_cases r:f=a
     .subst r;exact λb=>D b.2
     exact a5 f (by omega) z⟩
    simp[intOf];omega
   have aF:Y (¬bi c.s c.bc j i a):=λb=>by rw[(aP.out a<|by omega).2 b]at o;cases o
   rw[o]at a6;clear o;go_wp21;go_quiet (fail);go_wp21;go_roundw
   .exact⟨a-1,by rw[Int.ofNat_sub<|by omega];rfl,by omega,by omega,M.grow ⟨rfl,rfl,rfl,ah,λ_ _=>rfl⟩,Z.cw rfl,λf X z=>by
    by_cases r:f=a
    .subst r;exact λb=>aF b.1
    exact a5 f (by omega) z⟩
   simp[intOf];omega
  have aV:decide ((i:Int)<a)=false:=by simp;omega
  have n:decide (i<a)=false:=by simp;omega
  have o:a=i:=by omega
  have q:=J<|pr.of a2 a3 a5<|.inl o;clear Z o;go_wp21;go_quiet (fail);have g:Gl t (wr.drewN nq) c H m d (some<|O u 0) p:=M.grow ⟨rfl,rfl,rfl,ah,λ_ _=>rfl⟩;generalize wr.drewN nq=a7 at g|-;clear aV n;have s:=J<|q.holds aN;have W:=g.nd.ba;obtain⟨aI,E,aJ,R⟩:=g.sa e j a0;cases E
  go_wp21;go_call aD.2.2 _ i a m H g.gs.base (by rw[l.cl];exact aK) a2 (by omega) s.1 as r S ⟨rfl,P,A,B,C⟩;have T:Y (Qqe t S c H k w h F d (some<|O u 0) p (e+1) a P):=⟨g.call C,by rw[B];exact l.cl,by have:=l.ia;omega,a3,s.2,λU b=>l.gq U<|by rw[drop_cons a0.out];exact ag7 q A b⟩;clear A B C W R;go_wp21;go_roundw
  .exact⟨e+1,a,P,by omega,by go_num,rfl,T⟩
  simp[intOf];omega
 have a:Y (Gq c.s c.bc k w h F m):=by
  have b:=y.gq m;rw[List.drop_eq_nil_of_le<|by omega]at b;exact b rfl
 clear y;go_wp21;go_returns;exact⟨rfl,m,a,l.cl,l.gl.gs⟩
end
section
attribute [local go_sem↓] Ba ze Fb Fh Zu Go.wp_at_zero Go.wp_at_succ
structure Rt(w wr:ae)(p:Fp)(ob:Option Nat)(n i j:Nat)(c:co)(d:Nd)(ao:Option Addr)(cc x dn a:Nat)(c':co)(f:Nat):Prop where
 gl:Gl w wr p ob c' d ao cc
 cl:c'.length=c.length
 ia:i<=a
 aj:a<=j
 dl:dn<=d.lo+a
 tr:un (bi p.s p.bc x) d.lo d.hi dn (λk=>k=a) j
 fu:(d.lo-dn)+(j-a)<f
 gq:∀c'',ng (bi p.s p.bc) (Gq p.s p.bc) x d.lo d.hi f dn a j c' c''->Gq p.s p.bc n i j c c''
def akd:un C a p b (λe=>decide (e=c)=true) d↔un C a p b (λj=>j=c) d:=by
 constructor
 .rintro⟨e,f,g,h,i⟩;exact⟨e,f,g,by simpa using h,i⟩
 rintro⟨e,f,g,h,i⟩;exact⟨e,f,g,by simpa using h,i⟩
def ao8(c:Fp)(q:Nat)(b:Nd)(hd:c.bc[q]?=some b)(aN:b.R=6)(aO:∀(q:Nat)(b:Nd),c.bc[q]?=some b->b.R=3->b.ba≠[])(k:Nat)(aH:b.ba[0]?=some k)(b4:k<c.bc.length/\vx c k/\yj c k)(aP:Bc b)(c4:b.lo<=900):yj c q:=by
 intro w L g a0 B aQ aR bI c5 d
 have a:=aQ.fd;have bJ:=J a.wf;have c6:q<c.bc.length:=by
  rcases hb q c.bc.length with e|e
  .exact e
  rw[je e]at hd;cases hd
 have c8:=a.js;have⟨b5,r,i,h⟩:=a.tree.node q b hd;have bK:=J i;have bL:=J h;have⟨c9,l⟩:=a.tree.c0;have j:=a.c0;have cA:(0:Int)<=q:=by omega
 have cC:(q:Int)<c.bc.length:=by omega
 have cE:(b.R:Int)=6:=by omega
 have f:b.ba.getD 0 0=k:=by rw[yz,aH];rfl
 have bM:Y (∀p,ng (bi c.s c.bc) (Gq c.s c.bc) k b.lo b.hi (b.lo+c.s.size+1) 0 L g a0 p->Gq c.s c.bc q L g a0 p):=by
  intro p e
  rw[Jo a.wf aO hd,N,N,N,G aN,f];exact e
 have bN:Y (un (bi c.s c.bc k) b.lo b.hi 0 (λa1=>a1=L) g):=by
  rw[oy a.wf hd,N,N,N,N,G aN,f]at d;exact d.toR
 have a2:=J b4;have a8:=J aH;have cF:(0:Int)<b.ba.length:=by
  have:=(jy.1 aH).1;omega
 have cH:(g:Int)<82:=by omega
 clear a i h hd aN d aO b4 aH f;go_in;go_wp2_with (first
  |(refine wpList_load_mid rfl 271 (.tmp 25) rfl c.nb (q*261) rfl (dk b<|.slice b5 b.ba.length r) _ bK underlying271 rfl (jc _ _) ?_)
  |(refine gm 8 rfl rfl 271 rfl _ xa ?_;intro w3 aO bO bP)
  |(refine hw rfl 271 (.tmp 8) (.tmp 26) rfl _ rfl _ rfl _ bO (by rw[gy,gy]) (jc _ _) (vl _ _ _ _) ?_;intro w4 a d;have aS:=Gl.start aQ bP d a bL;have f:=aS.nd.R;clear a d j l))
 clear f;go_loopw [2,14] (λaT D wr=>∃(i d:Nat)(p:co)(t:Nat),D=I i/\aT=I d/\Rt w wr c B q L g a0 b b5 r k i d p t) (λaT D _=>(b.lo-(intOf D).toNat)+(g-(intOf aT).toNat))
 .exact⟨0,L,a0,b.lo+c.s.size+1,rfl,rfl,⟨aS,rfl,ah,bI,by omega,bN,by omega,bM⟩⟩
 obtain⟨i,d,p,t,rfl,rfl,F⟩:=hrel;have f:=F;have M:=F.gl.nd.ba;have b6:=F.gl.nd.cell (k:=259)<|wl b _ 2;have b7:=F.aj;have cI:=F.dl;by_cases aI:d<g\/i<b.lo
 .have⟨x,bQ,cJ,b8⟩:=F.gl.sa 0 k a8;simp only[O]at bQ;subst bQ;have aU:=J aI;have l:=J (awb (L:=c.s.size) (vz c.s bJ (k+1) k<|by omega) (by omega) F.tr aI);have bR:(d<g)\/(¬d<g/\i<b.lo):=by omega
  clear F aS aQ aI;rcases bR with bS|bS
  .have aJ:decide ((d:Int)<g)=true:=by simp;omega
   go_wp21;go_call a2.2.1 _ d f.gl.gs.fd (by omega)as E aV ⟨R,rfl,V,Z,W⟩;have a9:=f.gl.fm Z W;have aW:=J V;have aA:=a9.lt;clear V Z W M b8 b6;go_wp2_with (first
     |(refine gm 15 rfl rfl 246 rfl _ ld ?_;intro bT aB aX aY)
     |(refine hw rfl 246 (.tmp 15) (.tmp 147) rfl _ rfl _ rfl _ aX (by rw[ek,ek]) (gh _) (oh _) ?_;intro bU a3 aC;have aD:=(a9.grow aY).bj aC aA;clear aC))
   generalize aV.heap.size=P at a3 aA aB|-;clear aJ;go_loopw [16] (λD aE=>∃a:Nat,D=I a/\d<=a/\a<=g/\Gl w aE c B p b (some<|O x 0) r/\bd aE P (dj R)/\Y (∀h,a<h->h<=g->¬(bi c.s c.bc k d h/\un (bi c.s c.bc k) b.lo b.hi (i+1) (λa1=>a1=h) g))) (λD _=>(intOf D).toNat)
   .exact⟨g,rfl,b7,ah,aD,a3,λh aZ aF=>by omega⟩
   obtain⟨a,rfl,a4,a5,H,Q,a7⟩:=hrel
   have bW:(a:Int)<82:=by omega
   have b0:=Q.lt (by rw[ek];omega);clear aD a3 aB;by_cases bY:d<a
   .have aK:decide ((d:Int)<a)=true:=by simp;omega
    have aL:=Q.cell (qb R (k:=a));rcases df (R a)with C|C
    .have b1:=J C;have bZ:=J ((aW a<|by omega).1 C);rw[C]at aL;clear C;have K:=H.grow (bp _ _).drew;have c0:=Q.drew;have A:=By K.nd;have c1:Y (∀u,(λu=>decide (u=a)) u=true->u<=c.s.size):=λu c2=>by
      have:u=a:=by simpa using c2
      omega
     have b9:Y (wr.drew.heap.size=wr.heap.size):=rfl;go_wp21;have c3:Y (IntKind.i64.wrap ((i:Int)+1)=((i+1:Nat):Int)):=by rw[Y,IntWalk.i64_in _<|by omega];omega
     have o:wr.drew.cell? (O P a)=some (.bool true)/\(Bb<|ab w.heap.size 0).run prog wr.drew=.ok (.agg (dk b<|aa x b.ba.length r).toArray) wr.drew:=⟨aL,A⟩;go_region_held3 (λb2=>b2.cell? (O P a)=some (.bool true)/\(Bb<|ab w.heap.size 0).run prog b2=.ok (.agg (dk b<|aa x b.ba.length r).toArray) b2) (first|exact o|exact S|exact T)
      (first
       |(go_at_call 216;have j:=Oj a wr.drew;go_call j;clear j;rintro E n ⟨rfl,m⟩;have S:n.cell? (O P a)=some (.bool true)/\(Bb<|ab w.heap.size 0).run prog n=.ok (.agg (dk b<|aa x b.ba.length r).toArray) n:=⟨(m.cell (p:=O P a) b0).trans o.1,By<|K.nd.below m K.lt⟩)
       |(go_at_call 217;have j:=aja c b (some<|O x 0) r k a8 ⟨a2.1,a2.2.1⟩ (λu=>decide (u=a)) (i+1) n (K.grow m).gs.fd (K.grow m).sa aP.ba aP.lo aP.hi (by omega) c1;rw[c3.out];go_call j;clear j;rintro E aG ⟨bA,rfl,U,X,v⟩;have aM:=λa6=>ahy bA g (by omega) a6;have bD:=J ((U g<|by omega).trans akd);have j:=(K.grow m).fm X v;have bE:=(c0.below m<|by rw[b9.out];exact b0).fm v (by have:=m.size;rw[b9.out]at this;omega) (by have:=H.kl;omega) (by have:=H.el;omega);have T:aG.cell? (O P a)=some (.bool true)/\(Bb<|ab w.heap.size 0).run prog aG=.ok (.agg (dk b<|aa x b.ba.length r).toArray) aG:=⟨(by have:=bE.cell (qb R (k:=a));rw[b1.out]at this;exact this),By j.nd⟩;clear U X v))
     clear A aL o S T;rcases df (bA g)with o|o
     .have b3:=J<|bD.1 o;have m:=J<|pr.of a4 a5 a7<|.inr ⟨bZ,b3⟩;rw[o]at aM|-;clear o aM;have v:=J<|m.holds ⟨l.choose,l.choose_spec.1,l.choose_spec.2.1,l.choose_spec.2.2.1,l.choose_spec.2.2.2.1⟩;have n:Y (i<b.lo\/d<a):=by
       have⟨h,u1,u2,u3,u4,u5⟩:=l;rcases u5 with u5|u5
       .exact .inl u5
       right;rcases hb d a with e|e
       .exact e
       exact cb ⟨u3,u4⟩<|m.2.2.1 h (by omega) u2
      have M:=j.nd.ba;have⟨bF,S,bG,T⟩:=j.sa 0 k a8;cases S
      go_wp21;go_call a2.2.2 _ d a p B j.gs.base (by rw[f.cl];exact aR) a4 (by omega) v.1 as E U ⟨rfl,A,s,y,z⟩;have X:Y (Rt w U c B q L g a0 b (some<|O x 0) r k (i+1) a A<|t-1):=⟨j.call z,by rw[y];exact f.cl,by have:=f.ia;omega,a5,by have:=f.dl;have:=n.out;omega,v.2,by have:=f.fu;have:=n.out;omega,λa6 e=>f.gq a6<|by rw[show t=(t-1)+1 by have:=f.fu;omega];exact Xd aU m s e⟩;clear s y z M T;go_wp21;go_roundw
      .exact⟨i+1,a,A,t-1,by go_num,rfl,X⟩
      simp[intOf];omega
     have b3:Y (¬un (bi c.s c.bc k) b.lo b.hi (i+1) (λa1=>a1=a) g):=λe=>by rw[bD.2 e]at o;cases o
     rw[o]at aM|-;clear o aM;go_wp21;go_roundw
     .exact⟨a-1,by rw[yxy<|by omega];rfl,by omega,by omega,j,bE,λh aZ aF=>by
      by_cases E:h=a
      .subst E;exact λe=>b3 e.2
      exact a7 h (by omega) aF⟩
     simp[intOf];omega
    have b1:Y (¬bi c.s c.bc k d a):=λe=>by rw[(aW.out a<|by omega).2 e]at C;cases C
    rw[C]at aL;clear C;go_wp21;go_quiet (fail);go_wp21;go_roundw
    .exact⟨a-1,by rw[yxy<|by omega];rfl,by omega,by omega,H.grow ⟨rfl,rfl,rfl,ah,λ_ _=>rfl⟩,Q.cw rfl,λh aZ aF=>by
     by_cases E:h=a
     .subst E;exact λe=>b1 e.1
     exact a7 h (by omega) aF⟩
    simp[intOf];omega
   have aK:decide ((d:Int)<a)=false:=by simp;omega
   have u:decide (d<a)=false:=by simp;omega
   have C:a=d:=by omega
   have m:=J<|pr.of a4 a5 a7<|.inl C;clear Q C;go_wp21;go_quiet (fail);have j:Gl w (wr.drewN nq) c B p b (some<|O x 0) r:=H.grow ⟨rfl,rfl,rfl,ah,λ_ _=>rfl⟩;generalize wr.drewN nq=aG at j|-;clear aK u;have v:=J<|m.holds ⟨l.choose,l.choose_spec.1,l.choose_spec.2.1,l.choose_spec.2.2.1,l.choose_spec.2.2.2.1⟩;have n:Y (i<b.lo\/d<a):=by
    have⟨h,u1,u2,u3,u4,u5⟩:=l;rcases u5 with u5|u5
    .exact .inl u5
    right;rcases hb d a with e|e
    .exact e
    exact cb ⟨u3,u4⟩<|m.2.2.1 h (by omega) u2
   have M:=j.nd.ba;have⟨bF,S,bG,T⟩:=j.sa 0 k a8;cases S
   go_wp21;go_call a2.2.2 _ d a p B j.gs.base (by rw[f.cl];exact aR) a4 (by omega) v.1 as E U ⟨rfl,A,s,y,z⟩;have X:Y (Rt w U c B q L g a0 b (some<|O x 0) r k (i+1) a A<|t-1):=⟨j.call z,by rw[y];exact f.cl,by have:=f.ia;omega,a5,by have:=f.dl;have:=n.out;omega,v.2,by have:=f.fu;have:=n.out;omega,λa6 e=>f.gq a6<|by rw[show t=(t-1)+1 by have:=f.fu;omega];exact Xd aU m s e⟩;have bH:=n.out;clear s y z M T;go_wp21;go_roundw
   .exact⟨i+1,a,A,t-1,by go_num,rfl,X⟩
   simp[intOf];omega
  have aJ:decide ((d:Int)<g)=false:=by simp;omega
  have o:decide (d<g)=false:=by simp;omega
  have K:decide ((i:Int)<b.lo)=true:=by simp;omega
  go_wp21;go_call a2.2.1 _ d f.gl.gs.fd (by omega)as E aV ⟨R,rfl,V,Z,W⟩;have a9:=f.gl.fm Z W;have aA:=a9.lt;clear V Z W M b8 b6;go_wp2_with (first
    |(refine gm 15 rfl rfl 246 rfl _ ld ?_;intro bT aB aX aY)
    |(refine hw rfl 246 (.tmp 15) (.tmp 147) rfl _ rfl _ rfl _ aX (by rw[ek,ek]) (gh _) (oh _) ?_;intro bU a3 aC;have aD:=(a9.grow aY).bj aC aA;clear aC))
  generalize aV.heap.size=P at a3 aA aB|-;clear aJ;clear K o;go_loopw [16] (λD aE=>∃a:Nat,D=I a/\d<=a/\a<=g/\Gl w aE c B p b (some<|O x 0) r/\bd aE P (dj R)/\Y (∀h,a<h->h<=g->¬(bi c.s c.bc k d h/\un (bi c.s c.bc k) b.lo b.hi (i+1) (λa1=>a1=h) g))) (λD _=>(intOf D).toNat)
  .exact⟨g,rfl,b7,ah,aD,a3,λh aZ aF=>by omega⟩
  obtain⟨a,rfl,a4,a5,H,Q,a7⟩:=hrel
  clear aD a3 aB;by_cases bY:d<a
  .exfalso;omega
  have aK:decide ((d:Int)<a)=false:=by simp;omega
  have u:decide (d<a)=false:=by simp;omega
  have C:a=d:=by omega
  have m:=J<|pr.of a4 a5 a7<|.inl C;clear Q C;go_wp21;go_quiet (fail);have j:Gl w (wr.drewN nq) c B p b (some<|O x 0) r:=H.grow ⟨rfl,rfl,rfl,ah,λ_ _=>rfl⟩;generalize wr.drewN nq=aG at j|-;clear aK u;have v:=J<|m.holds ⟨l.choose,l.choose_spec.1,l.choose_spec.2.1,l.choose_spec.2.2.1,l.choose_spec.2.2.2.1⟩;have n:Y (i<b.lo\/d<a):=by
   have⟨h,u1,u2,u3,u4,u5⟩:=l;rcases u5 with u5|u5
   .exact .inl u5
   right;rcases hb d a with e|e
   .exact e
   exact cb ⟨u3,u4⟩<|m.2.2.1 h (by omega) u2
  have M:=j.nd.ba;have⟨bF,S,bG,T⟩:=j.sa 0 k a8;cases S
  go_wp21;go_call a2.2.2 _ d a p B j.gs.base (by rw[f.cl];exact aR) a4 (by omega) v.1 as E U ⟨rfl,A,s,y,z⟩;have X:Y (Rt w U c B q L g a0 b (some<|O x 0) r k (i+1) a A<|t-1):=⟨j.call z,by rw[y];exact f.cl,by have:=f.ia;omega,a5,by have:=f.dl;have:=n.out;omega,v.2,by have:=f.fu;have:=n.out;omega,λa6 e=>f.gq a6<|by rw[show t=(t-1)+1 by have:=f.fu;omega];exact Xd aU m s e⟩;clear s y z M T;go_wp21;go_roundw
  .exact⟨i+1,a,A,t-1,by go_num,rfl,X⟩
  simp[intOf];omega
 have a:=J<|F.gq p<|atj aI
 have o:decide (d<g)=false:=by simp;omega
 have h:decide (i<b.lo)=false:=by simp;omega
 clear F;go_wp21;go_returns;exact⟨rfl,p,a,f.cl,f.gl.gs⟩
end
def ac6(a:Fp)(e:Gd a.bc)(l:∀(c:Nat)(f:Nd),a.bc[c]?=some f->Bc f/\(f.R=3->f.num<a.eu/\∃k,f.ba=[k])/\f.lo<=900)(n:a.eu<=1000):∀(N c:Nat),c<N->c<a.bc.length->yj a c
 |0,c,h,_=>by omega
 |N+1,c,h,hn=>by
  have hd:=dy hn;have⟨m,q⟩:=e.wf c _ hd;have⟨i,r,s⟩:=l c _ hd;have t:∀d,d<a.bc.length->vx a d:=λd g=>Uk a e.wf (λc f hd=>(l c f hd).1) (d+1) d (by omega) g
  have j:∀d∈a.bc[c].ba,d<a.bc.length/\vx a d/\yj a d:=λd g=>by
   have:=m d g;exact⟨by omega,t d<|by omega,ac6 a e l n N d (by omega)<|by omega⟩
  have v:=i.R;obtain b|b|b|b|b|b|b:a.bc[c].R=0\/a.bc[c].R=1\/a.bc[c].R=2\/a.bc[c].R=3\/a.bc[c].R=4\/a.bc[c].R=5\/a.bc[c].R=6:=by omega
  .exact Um a c _ hd (.inl b) e.h3
  .exact Um a c _ hd (.inr<|.inl b) e.h3
  .exact Um a c _ hd (.inr<|.inr b) e.h3
  .have⟨p,k,o⟩:=r b;exact ao6 a c _ hd b e.h3 k o (j k<|by rw[o];simp).2.2 i.ba p n
  .exact ao5 a c _ hd b e.h3 j i.ba
  .exact ao7 a c _ hd b e.h3 j i.ba
  have p:=q b;obtain⟨d,g⟩:∃d,a.bc[c].ba[0]?=some d:=by
   cases m:a.bc[c].ba with
   |nil=>exact cb m p
   |cons o u=>exact⟨o,rfl⟩
  exact ao8 a c _ hd b e.h3 d g (j d<|qy g) i s
def aks:ajz:=λf d b c a e=>ac6 f d b c (a+1) a (by omega) e
def ez.drew{b:Sc}(i:ez w a b):ez w.drew a b:=by
 have⟨c,d,bv,e,f,g,h,j,k,l⟩:=i;exact⟨c,d,bv,e.cw rfl,Qzo f λ_ _=>rfl,Qzo g λ_ _=>rfl,Qzo h λ_ _=>rfl,j,k,l⟩
def aq5(a:Sc)(b k:Nat)(c:ae)(x:ez c i a)(t:Sm a)(v:b<256)(d:¬(97<=b/\b<=122/\a.bm<8)):
  Calls prog 84 #[.pointer<|some ⟨i,0,none⟩,.int .u8 b,.int .i64 k] c (Sd i c<|named a b k):=by
 have w:=J x;have⟨D,E,bv,f,g⟩:=x;have F:=f.xc 7;have K:=f.xc 9;have C:∀(B:Prop),B->Y (named a b k=if a.bm<a.gf then none else qk a b):=λ_ _=>by rw[Y,named,N d]
 have p:=C True trivial;by_cases o:a.bm<a.gf
 have g:Y (named a b k=none):=by rw[Y,p.out,G o]
 have z:decide (a.bm<a.gf)=true:=by simp;omega
 rotate_left
 have g:Y (named a b k=qk a b):=by rw[Y,p.out,N o]
 have z:decide (a.bm<a.gf)=false:=by simp;omega
 all_goals
  by_cases f:97<=b
  have m:decide ((b:Int)>=97)=true:=by simp;omega
  by_cases h:b<=122
  have n:¬a.bm<8:=λu=>d ⟨f,h,u⟩
  have r:decide ((b:Int)<=122)=true:=by simp;omega
  have A:decide ((a.bm:Int)<8)=false:=by simp;omega
  rotate_left
  have r:decide ((b:Int)<=122)=false:=by simp;omega
  rotate_left
  have m:decide ((b:Int)>=97)=false:=by simp;omega
  all_goals
   go_in;go_wp21;go_region;go_wp21
   first
    |go_ret;rw[g.out];exact Sd.no ⟨rfl,rfl,rfl,ah,λ_ _=>rfl⟩ rfl
    |go_call Lz i a b c.drew w.drew t v as e s ⟨q,rfl,j,l⟩;have n:Y (Sd i c (qk a b) (.returned<|.bool q) s):=⟨q,rfl,Below.trans (b:=c.drew) ⟨rfl,rfl,rfl,ah,λ_ _=>rfl⟩ j,l⟩;go_wp21;go_ret;rw[g.out];exact n
def aq2(a:Sc)(b d:Nat)(e:ae)(f:ez e i a)(g:Sm a)(m:b<256)(n:a.bm≠0->a.bu≠[])(j:a.bu.length<=1000)(k:d<=900)(l:∀o∈a.bu,(str o.name).size<=1000):
  Calls prog 84 #[.pointer<|some ⟨i,0,none⟩,.int .u8 b,.int .i64 d] e (Sd i e<|named a b d):=by
 by_cases c:97<=b/\b<=122/\a.bm<8
 .by_cases h:a.bm=0
  .exact aq3 i a b d e f g c.1 c.2.1 h j k
  exact aq4 i a b d e f g c.1 c.2.1 c.2.2 h (n h) j k l
 exact aq5 i a b d e f g m c
def au8(a:Sc)(b c:Nat)(d:ae)(g:ez d i a)(k:Sm a)(m:b<256)(n:a.fp.length<=1000)(j:a.db.length<=1000)(l:c<=900)(p:a.ax=10->a.bm≠0->a.bu≠[])(x:a.bu.length<=1000)(y:∀j∈a.bu,(str j.name).size<=1000)(f:a.ax<=5\/a.ax=7\/a.ax=10\/13<=a.ax/\a.ax<=20/\a.ax≠16):
  Calls prog 53 #[.pointer<|some ⟨i,0,none⟩,.int .u8 b,.int .i64 c] d (Sd i d<|bx a b c):=by
 have o:=J g;have⟨u,v,bv,e,h⟩:=g;have q:=e.xc 0;have w:=e.xf 0;obtain f|f|f|f|f|f|f|f|f|f|f|f|f|f|f:a.ax=0\/a.ax=1\/a.ax=2\/a.ax=3\/a.ax=4\/a.ax=5\/a.ax=7\/a.ax=10\/a.ax=13\/a.ax=14\/a.ax=15\/a.ax=17\/a.ax=18\/a.ax=19\/a.ax=20:=by omega
 all_goals
  rw[f]at q;first|have p:=J (p f)|clear p
  have f:=J f;go_in;go_wp21;first|go_call Qzv|go_call amh|go_call aaq|refine((aig i a b c d o m n j l).mono λ_ _ e=>e.sd).mono ?_|go_call Np|go_call Lz|refine(aq2 i a b c d o.out k m p x l y).mono ?_|refine(ado i a b d o.out k m).mono ?_|refine(aoq i a b d o.out k m).mono ?_|refine(adn i a b d o.out k m).mono ?_|refine(adp i a b d o.out k m).mono ?_
  intro s r e
  have h:=J e;obtain⟨t,rfl,_⟩:=h.out;go_wp21;go_ret;unfold bx;simp[f.out];exact h
def avq(b:Sc)(a c:Nat)(h:ae)(l:ez h i b)(n:a<256)(g:b.ax=8):
  Calls prog 53 #[.pointer<|some ⟨i,0,none⟩,.int .u8 a,.int .i64 c] h (Sd i h<|bx b a c):=by
 have f:Y (bx b a c=if a=32 then some {b with ax:=9} else none):=by rw[Y];unfold bx;simp[g]
 have⟨o,p,bv,e,k⟩:=l;have m:=e.xc 0;rw[g]at m;have q:=e.xf 0;by_cases d:a=32
 .subst d;go_in;go_wp21;go_ret;rw[f.out];exact Sd.yes (x':={b with ax:=9}) k xxs (bd.head e 0 _ (by omega) rfl) rfl
 have r:((a:Int)==32)=false:=by simp;omega
 have j:Y (bx b a c=none):=by rw[Y,f.out,N d]
 go_in;go_wp21;go_ret;rw[j.out];exact Sd.no (bf.below<|(bf.refl _ _).setCell _ _) rfl
def avr(a:Sc)(b c:Nat)(h:ae)(j:ez h i a)(o:b<256)(g:a.ax=9):
  Calls prog 53 #[.pointer<|some ⟨i,0,none⟩,.int .u8 b,.int .i64 c] h (Sd i h<|bx a b c):=by
 have f:Y (bx a b c=some (if b=10 then {a with ax:=0} else a)):=by rw[Y];unfold bx;simp[g]
 have m:=J j;have⟨p,q,bv,e,l⟩:=j;have n:=e.xc 0;rw[g]at n;have r:=e.xf 0;by_cases d:b=10
 .subst d;go_in;go_wp21;go_ret;rw[f.out];exact Sd.yes (x':={a with ax:=0}) l xxs (bd.head e 0 _ (by omega) rfl) rfl
 have s:((b:Int)==10)=false:=by simp;omega
 have k:Y (bx a b c=some a):=by rw[Y,f.out,N d]
 go_in;go_wp21;go_ret;rw[k.out];exact⟨true,rfl,bp _ _,.inl ⟨a,rfl,rfl,m⟩⟩
def avl(b:Sc)(a c:Nat)(h:ae)(l:ez h i b)(n:a<256)(g:b.ax=21):
  Calls prog 53 #[.pointer<|some ⟨i,0,none⟩,.int .u8 a,.int .i64 c] h (Sd i h<|bx b a c):=by
 have f:Y (bx b a c=if a=47 then some {b with ax:=7} else none):=by rw[Y];unfold bx;simp[g]
 have⟨o,p,bv,e,k⟩:=l;have m:=e.xc 0;rw[g]at m;have q:=e.xf 0;by_cases d:a=47
 .subst d;go_in;go_wp21;go_ret;rw[f.out];exact Sd.yes (x':={b with ax:=7}) k xxs (bd.head e 0 _ (by omega) rfl) rfl
 have r:((a:Int)==47)=false:=by simp;omega
 have j:Y (bx b a c=none):=by rw[Y,f.out,N d]
 go_in;go_wp21;go_ret;rw[j.out];exact Sd.no (bf.below<|(bf.refl _ _).setCell _ _) rfl
def avb(a:Sc)(c b:Nat)(f:ae)(s:ez f i a)(u:c<256)(p:a.fp.length<=1000)(m:a.db.length<=1000)(z:b<=900)(h:a.ax=11):
  Calls prog 53 #[.pointer<|some ⟨i,0,none⟩,.int .u8 c,.int .i64 b] f (Sd i f<|bx a c b):=by
 have j:Y (bx a c b=if c=47 then some (pattern {a with ax:=12} (b+1))else none):=by rw[Y];unfold bx;simp[h]
 have⟨v,w,bv,d,k⟩:=s;have o:Y (ez (f.setCell (O i 0)<|I 12) i {a with ax:=12}):=ez.put k xxs (bd.head d 0 _ (by omega) rfl) rfl rfl rfl;have t:=d.xc 0;rw[h]at t;have x:=d.xf 0;have q:Y (((b:Int)+1)=((b+1:Nat):Int)):=by rw[Y];omega
 by_cases d:c=47
 .subst d;go_in;go_wp21;rw[q.out];go_call Yi i {a with ax:=12} (b+1) _ o p m (by omega)as e n ⟨rfl,g,l⟩;have k:=(bf.below<|(bf.refl _ _).setCell _ _).trans g;have r:=J l;go_wp21;go_ret;rw[j.out];exact⟨true,rfl,k,.inl ⟨_,rfl,rfl,r⟩⟩
 have y:((c:Int)==47)=false:=by simp;omega
 have r:Y (bx a c b=none):=by rw[Y,j.out,N d]
 go_in;go_wp21;rw[q.out];go_call Yi i {a with ax:=12} (b+1) _ o p m (by omega)as e n ⟨rfl,g,l⟩;have k:=(bf.below<|(bf.refl _ _).setCell _ _).trans g;go_wp21;go_ret;rw[r.out];exact Sd.no k rfl
def avs(b:Sc)(c t:Nat)(g:ae)(D:ez g i b)(s:Sm b)(x:c<256)(n:b.db≠[])(v:∀T∈b.db,T<=1000)(w:b.db.length<=1000)(h:b.ax=6\/b.ax=12):
  Calls prog 53 #[.pointer<|some ⟨i,0,none⟩,.int .u8 c,.int .i64 t] g (Sd i g<|bx b c t):=by
 have o:=J D;have y:Y (bx b c t=(pi b c).1.map λL=>if(pi b c).2=true then {L with ax:=if b.ax=12 then 13 else 2} else L):=by
  rw[Y];unfold bx;rcases h with h|h<;>simp[h]
 have M:Y ((pi b c).2=true->(pi b c).1=if whole b.L=true then some b else none):=λa=>by
  unfold pi at a|-;split at a
  .rename_i d;rw[G d]
  cases a
 have⟨Q,R,bv,q,P⟩:=D;have E:=q.xc 0;have U:=q.xf 0;have F:Y (∀r:ae,∀f:Bool,f=whole b.L->(pi b c).2=true->bd r i (gw {b with ax:=if b.ax=12 then 13 else 2} Q R bv)->bf i g r->Sd i g (bx b c t) (.returned<|.bool f) r):=λr f k a S K=>by
  rw[y.out,M.out a];rcases df (whole b.L)with u|u
  .rw[u,G rfl,k,u];refine Sd.yes P K S ?_;rw[a];rfl
  rw[u,N Bool.false_ne_true,k,u];exact Sd.no (bf.below K) rfl
 rcases h with h|h
 all_goals
  rw[h]at E;rcases df (pi b c).2 with a|a
  .have d:=J a;clear a;go_in;go_wp21;go_call Pa as e H ⟨f,rfl,p,j,_⟩;obtain⟨rfl,k⟩:=j d;have C:=J k;clear k j p;rw[d.out];go_wp21;go_ret;exact F _ _ C d (by (first|rw[G h]|rw[N]);exact bd.head q 0 _ (by omega) rfl)<|(bf.refl _ _).setCell _ _
  have d:=J a;clear a;go_in;go_wp21;go_call Pa as e H ⟨f,rfl,p,_,j⟩;have z:Y _:=j d;clear j;rw[d.out];go_wp21;go_ret;rw[y.out];rcases z with⟨A,l,m,B⟩|⟨l,m⟩
  .exact⟨f,rfl,p,.inl ⟨A,by rw[l];simp[d.out],m,B⟩⟩
  exact⟨f,rfl,p,.inr ⟨by rw[l];rfl,m⟩⟩
def ajy:zeroCells116=(hj λ_=>false).toArray:=by kernel_rfl
def Qjf:(prog.info? 116).map (·.size)=some 256:=by kernel_rfl
def ah1(a:Sc)(b c bv:af)(d:Nat->Bool):(gw a b c bv).take 14++hj d++(gw a b c bv).drop (14+(hj d).length)=gw {a with row:=d} b c bv:=by
 have f:(hj d).length=256:=by simp[hj]
 have e:(hj a.row).length=256:=by simp[hj]
 rw[f];have g:(gw a b c bv).drop (14+256)=[I a.rows,b,c,bv]:=by
  have:(hj a.row++[I a.rows,b,c,bv]).drop 256=[I a.rows,b,c,bv]:=by
   rw[List.drop_append,e];simp[e]
  exact this
 rw[g];have h:(gw a b c bv).take 14=[I a.ax,I a.op,I a.L.m,I a.L.o,I a.L.a,I a.L.l,I a.part,I a.bm,I a.zero,I a.gf,.bool a.cn,.bool a.all,.bool a.print,.bool a.uw]:=rfl;rw[h,nt];rfl
def avf(a:Sc)(f k:Nat)(g:ae)(u:ez g i a)(E:f<256)(n:a.ax=16):
  Calls prog 53 #[.pointer<|some ⟨i,0,none⟩,.int .u8 f,.int .i64 k] g (Sd i g<|bx a f k):=by
 have r:Y (bx a f k=if f=47 then some {a with ax:=17,row:=λ_=>false,rows:=0} else none):=by rw[Y];unfold bx;simp[n]
 have⟨d,e,bv,c,D⟩:=u;have t:bd (g.setCell (O i 0)<|I 17) i (gw {a with ax:=17} d e bv):=bd.head c 0 _ (by omega) rfl;have l:Y (∀b:ae,bd b i (gw {a with ax:=17,row:=λ_=>false} d e bv)->b.cell? (O i 270)=some (I a.rows)/\b.frozen? (O i 270)=false):=λb m=>⟨m.cell (k:=270)<|Xu {a with ax:=17,row:=λ_=>false} d e bv,m.xf 270⟩
 have v:=c.xc 0;rw[n]at v;have F:=c.xf 0;have s:Y (∀b:ae,bd b i (gw {a with ax:=17,row:=λ_=>false} d e bv)->bf i (g.setCell (O i 0)<|I 17) b->bd (b.setCell (O i 270)<|I 0) i (gw {a with ax:=17,row:=λ_=>false,rows:=0} d e bv)/\bf i g (b.setCell (O i 270)<|I 0)):=λb m w=>by
  refine⟨?_,(xxs.trans w).trans<|(bf.refl _ _).setCell _ _⟩;have:=m.put 270 (by rw[dm];omega)<|I ((0:Nat):Int);rw[Xs]at this;exact this
 by_cases o:f=47
 .subst o;go_in;go_wp2_with (refine Av rfl 116 (.tmp 121) (.tmp 119) rfl i 14 rfl (hj λ_=>false) (by show Value.agg zeroCells116=_;rw[ajy]) (gw {a with ax:=17} d e bv) (gw {a with ax:=17,row:=λ_=>false} d e bv) t (by rw[dm];simp[hj]) (ah1 _ _ _ _ _) (by rw[Qjf];simp[hj]) (by intro C j;simp[hj]at j;rw[<-j.2];rfl) ?_;intro x c h;have p:Y _:=c;have q:Y _:=h;have y:=(l _ c).1;have z:=(l _ c).2;clear c h);go_ret;rw[r.out];have⟨A,B⟩:=s _ p q;exact Sd.yes (x':={a with ax:=17,row:=λ_=>false,rows:=0}) D B A rfl
 have B:((f:Int)==47)=false:=by simp;omega
 have A:Y (bx a f k=none):=by rw[Y,r.out,N o]
 go_in;go_wp2_with (refine Av rfl 116 (.tmp 121) (.tmp 119) rfl i 14 rfl (hj λ_=>false) (by show Value.agg zeroCells116=_;rw[ajy]) (gw {a with ax:=17} d e bv) (gw {a with ax:=17,row:=λ_=>false} d e bv) t (by rw[dm];simp[hj]) (ah1 _ _ _ _ _) (by rw[Qjf];simp[hj]) (by intro C j;simp[hj]at j;rw[<-j.2];rfl) ?_;intro x c h;have p:Y _:=c;have q:Y _:=h;have y:=(l _ c).1;have z:=(l _ c).2;clear c h);go_ret;rw[A.out];exact Sd.no (bf.below (s _ p q).2) rfl
