import Derived.Test.YtppjlpihaocdiaaGreatDoorAtQ
import Derived.Test.YtppjlpihaocdiaaGreatDoorAyQ
import Derived.Test.YtppjlpihaocdiaaGreatDoorAzQ
set_option linter.all false
set_option maxRecDepth 100000
set_option maxHeartbeats 16000000
namespace Go.Proofs.YtppjlpihaocdiaaGreatDoor
open Go.RowKit Go.Proofs.Tryz
variable{w u v:ae}{a b c d e:Nat}{s t:ag}{x y z:af}{p D:Int}{l:List af}{f:Bool}{g:List Nat}{h:Nat->Prop}{o:Option Addr}{r:List UInt8}{A:Nat->Bool}{B:Nat->Nat->Bool}{C:Nat->Nat->Prop}(i:Nat)(S T:ag)(V X:af)(j k m n:Nat)(Z:Int)(W:ae)
section
def Nm(s:ag)(p:cj):Prop:=∀x∈p.bh,x.name.size<=s.size
def Nm.qu{s:ag}{p:cj}(f:Nm s p)(a:Nat)(d:Bool):Nm s (p.qu s a d):=λc b=>by
 rcases og.1 (show c∈p.bh++[_] from b)with b|b
 .exact f c b
 have e:c=⟨s.extract a<|eg s 8 a,a,p.U.length,d⟩:=qK b
 rw[e];simp[lw];omega
section
variable {row:cj->cj×Bool} {s:ag}
def alb(e:∀a,Nm s a->Nm s (row a).1){a:cj}{c:Cm}(d:Nm s a):Nm s (qr row s a c).1:=by
 unfold qr;split
 .exact d
 simp only;have b:=e {a with H:=a.H+1,op:=a.op+1,U:=a.U++[c]} d;split
 .exact b
 exact b
def ajk(b:∀p,Nm s p->Nm s (row p).1){p:cj}{c:Cm}(a:Nm s p):Nm s (lm row s p c).1:=by
 unfold lm;split
 .simp only;split
  .exact alb b a
  split
  .split
   .exact a
   exact a
  split
  .exact a.qu (p.H+1) true
  split
  .exact a
  split
  .exact a
  exact a
 exact a
def al7(b:∀p,Nm s p->Nm s (row p).1){p:cj}(a:Nm s p):Nm s (iw row s p).1:=by
 unfold iw;simp only;split
 .split
  .split
   .exact a
   exact ajk b (p:={p with H:=skip s dh<|(cq s p.H p.bk).1+1,bk:=(cq s p.H p.bk).2.2.2.1}) a
  split
  .split
   .exact Nm.qu (p:={p with H:=(cq s p.H p.bk).1,bk:=(cq s p.H p.bk).2.2.2.1}) a _ false
   exact a
  exact ajk b (p:={p with H:=(cq s p.H p.bk).1,bk:=(cq s p.H p.bk).2.2.2.1}) a
 exact a
def ahb(c:∀a,Nm s a->Nm s (row a).1):∀(f:Nat)(a:cj),Nm s a->Nm s (rowL' row s f a).1
 |0,a,h=>h
 |f+1,a,h=>by
  unfold rowL';simp only;split
  .exact h
  have b:=al7 c (p:={a with H:=skip s fc a.H}) h;split
  .split
   .exact ahb c f _ b
   exact b
  exact b
end
def ahn(s:ag):∀(N:Nat)(a:cj),Nm s a->Nm s (Qqf s N a).1
 |0,a,h=>h
 |N+1,a,h=>ahb (ahn s N) (s.size+1) a h
def jb(s:ag):List Cm×Nat×Int:=
 if 400<s.size then([],1,0)
 else if(hq s).2=false then([],3,((hq s).1.H:Int))
 else if(hq s).1.bk≠-1 then([],2,(hq s).1.bk)
 else match joinL (hq s).1.bh (hq s).1.U.length (hq s).1.bh 0 (hq s).1.U with
  | .error i=>([],4,(i:Int))
  | .ok cs=>(cs,0,0)
def Ci(w:ae)(lo:Nat)(v:af)(cs:List Cm):Prop:=∃xs,w.ownsRow lo 200 23 v cs.length xs/\∀(k:Nat)(x:Cm),cs[k]?=some x->
 ∃l h q,lo<=l/\h<=w.heap.size/\(∀g,v.ownBlock=some g->g<=l\/h<=g)/\mq w l h x q/\∀o u,(ff x q)[o]?=some u->xs[k*23+o]?=some u
def Ff(s:ag)(w:ae):Ending->ae->Prop:=λe w'=>∃v,e=.returned (.tuple #[v,.int .i64 ((jb s).2.1:Int),.int .i64 (jb s).2.2])/\Below w.heap.size w w'/\
 ((jb s).2.1≠0->v=.slice none 0 0)/\((jb s).2.1=0->Ci w' w.heap.size v (jb s).1)
def atb(s:ag)(g:ae)(a7:s.size<=maxLen):Calls prog 45 #[.string s] g (Ff s g):=by
 unfold maxLen at a7;by_cases qa:400<s.size
 .have d:Y (jb s=([],1,0)):=by rw[Y,jb,G qa]
  have hd:decide ((s.size:Int)>400)=true:=qB
  go_in;go_wp21;go_returns;exact(by rw[Ff,d.out];exact⟨_,rfl,bp _ _,λ_=>rfl,λb=>cb b qD⟩)
 have C:s.size<=400:=Q
 have u:Y (Nm s (hq s).1):=ahn s 7 ⟨0,0,[],[],-1⟩ (λj f=>by simp at f);have y:Y ((hq s).2=true->Lb (hq s).1):=ahm s 7 ⟨0,0,[],[],-1⟩ (λj f=>by simp at f);have d:Y (jb s=if(hq s).2=false then([],3,((hq s).1.H:Int))else if(hq s).1.bk≠-1 then([],2,(hq s).1.bk)else match joinL (hq s).1.bh (hq s).1.U.length (hq s).1.bh 0 (hq s).1.U with
  | .error n=>([],4,(n:Int))
  | .ok k=>(k,0,0)):=by rw[Y,jb,N qa]
 have D:Y (∀{w:Nat} {i o:af} {z:ae},Rk z w s ⟨0,0,[],[],-1⟩ i o->Calls prog 69 #[.pointer<|some ⟨w,0,none⟩] z (um 0 w s ⟨0,0,[],[],-1⟩ i o z<|hq s)):=λb=>ahq 7 _ s ⟨0,0,[],[],-1⟩ _ _ _ b (ey _) (ey _) qD qD
 have E:Y (Rk (g.alloc<|.cells #[.string s, I 0, I 0,.slice none 0 0,.slice none 0 0, I<|-1] 162) g.heap.size s ⟨0,0,[],[],-1⟩ (.slice none 0 0)<|.slice none 0 0):=
  ⟨⟨⟨qI,qI,qI,ey _,C⟩,qI,qI⟩,qI,qI,qI,qI,qI,qI,⟨[],yyc _ _ _ _,λx j f=>by simp at f⟩,yyc _ _ _ _,λx a=>by cases a⟩
 have F:Below g.heap.size g (g.alloc<|.cells #[.string s, I 0, I 0,.slice none 0 0,.slice none 0 0, I<|-1] 162):=(bp _ _).alloc ah _;generalize hq s=S at u y d D;obtain⟨a,ok⟩:=S;simp only at u y d;generalize c:jb s=v at d;have p:=J c;clear c;go_in;go_wp21;go_call D E as a5 R l;unfold um at l;obtain⟨m,rfl,⟨i,o,A,H⟩,M,U,V,P,a2⟩|⟨m,rfl,K,h⟩:=l
 .simp only at m U V;subst m;have W:=A;have c:=F.trans<|H.below E;have aE:a.H<=s.size:=A.cu.rc.le;obtain⟨⟨⟨aA,aB,aC,_,_⟩,aM,aF⟩,aJ,aK,aL,aG,aH,aI,_,_,_⟩:=A;clear H;by_cases q:a.bk=-1
  .have a6:(a.bk !=-1)=false:=by rw[q];rfl
   have e:Y (v=match joinL a.bh a.U.length a.bh 0 a.U with
    | .error n=>([],4,(n:Int))
    | .ok k=>(k,0,0)):=by rw[Y,d.out,N qG,N<|λb=>b q]
   clear d;have L:=J (ap4 g.heap.size s a i o R W (y rfl) Q Q<|λj f=>bq (u j f) C);generalize joinL a.bh a.U.length a.bh 0 a.U=T at L e;go_wp21;refine L.mono ?_;rintro a5 aD l;cases T with
   |error n=>
    obtain⟨rfl,h⟩:=l;have B:=c.trans h;have r:=J e;clear h e;go_wp21;go_returns;exact(by rw[Ff,p.out,r.out];exact⟨_,rfl,B,λ_=>rfl,λb=>cb b qD⟩)
   |ok k=>
    obtain⟨rfl,h,t⟩:=l;have B:=c.trans h;have r:=J e;have X:Y (Ci aD g.heap.size i k):=by
     obtain⟨xs,Z,a0⟩:=t.own;refine⟨xs,World.ownsRow.mono Z Q,λx j f=> ?_⟩;obtain⟨a8,b,a9,a1,M,P,a2,a3,a4⟩:=a0 x j f;exact⟨a8,b,a9,a1,M,P,a3,a4⟩
    have Z:=t.c3;clear h e t;go_wp21;go_returns;exact(by rw[Ff,p.out,r.out];exact⟨_,rfl,B,λb=>cb rfl b,λ_=>X⟩)
  have a6:(a.bk !=-1)=true:=qK q
  have e:Y (v=([],2,a.bk)):=by rw[Y,d.out,N qG,G q]
  clear d;go_wp21;go_quiet (fail);go_wp21;go_returns;exact(by rw[Ff,p.out,e.out];exact⟨_,rfl,⟨c.os,c.tape,c.output,c.size,c.block⟩,λ_=>rfl,λb=>cb b qD⟩)
 simp only at m K;subst m;have c:=F.trans h;have e:Y (v=([],3,(a.H:Int))):=by rw[Y,d.out,G rfl]
 obtain⟨aA,aB,aC,_,_⟩:=K;clear h d;go_wp21;go_quiet (fail);go_wp21;go_returns;exact(by rw[Ff,p.out,e.out];exact⟨_,rfl,⟨c.os,c.tape,c.output,c.size,c.block⟩,λ_=>rfl,λb=>cb b qD⟩)
end
section
attribute [local go_sem↓] Ba ze Fb Fh Zu Go.wp_at_zero Go.wp_at_succ
structure Rt(w wr:ae)(p:Fp)(ob:Option Nat)(n i j:Nat)(c:co)(d:Nd)(ao:Option Addr)(cc x dn a:Nat)(c':co)(f:Nat):Prop where
 gl:Gl w wr p ob c' d ao cc
 cl:c'.length=c.length
 ia:i<=a
 aj:a<=j
 dl:dn<=d.lo+a
 tr:un (bi p.s p.bc x) d.lo d.hi dn (λk=>k=a) j
 fu:(d.lo-dn)+(j-a)<f
 gq:∀c'',ng (bi p.s p.bc) (Gq p.s p.bc) x d.lo d.hi f dn a j c' c''->Gq p.s p.bc n i j c c''
def akd:un C a p b (λe=>decide (e=c)=true) d↔un C a p b (λj=>j=c) d:=by
 constructor
 .rintro⟨e,f,g,h,i⟩;exact⟨e,f,g,qK h,i⟩
 rintro⟨e,f,g,h,i⟩;exact⟨e,f,g,qK h,i⟩
def ao8(c:Fp)(q:Nat)(b:Nd)(hd:c.bc[q]?=some b)(aN:b.R=6)(aO:∀(q:Nat)(b:Nd),c.bc[q]?=some b->b.R=3->b.ba≠[])(k:Nat)(aH:b.ba[0]?=some k)(b4:k<c.bc.length/\vx c k/\yj c k)(aP:Bc b)(c4:b.lo<=900):yj c q:=by
 intro w L g a0 B aQ aR bI c5 d
 have a:=aQ.fd;have bJ:=J a.wf;have c6:q<c.bc.length:=by
  obtain e|e:=hb q c.bc.length
  .exact e
  rw[je e]at hd;cases hd
 have c8:=a.js;let⟨b5,r,i,h⟩:=a.tree.node q b hd;have bK:=J i;have bL:=J h;let⟨c9,l⟩:=a.tree.c0;have j:=a.c0;have cA:(0:Int)<=q:=Q
 have cC:(q:Int)<c.bc.length:=Q
 have cE:(b.R:Int)=6:=Q
 have f:b.ba.getD 0 0=k:=by rw[yz,aH];rfl
 have bM:Y (∀p,ng (bi c.s c.bc) (Gq c.s c.bc) k b.lo b.hi (b.lo+c.s.size+1) 0 L g a0 p->Gq c.s c.bc q L g a0 p):=by
  intro p e
  rw[Jo a.wf aO hd,N,N,N,G aN,f];exact e
 have bN:Y (un (bi c.s c.bc k) b.lo b.hi 0 (λa1=>a1=L) g):=by
  rw[oy a.wf hd,N,N,N,N,G aN,f]at d;exact d.toR
 have a2:=J b4;have a8:=J aH;have cF:(0:Int)<b.ba.length:=by
  have:=(jy.1 aH).1;omega
 have cH:(g:Int)<82:=Q
 clear a i h hd aN d aO b4 aH f;go_in;go_wp2_with (first
  |(refine wpList_load_mid rfl 271 (.tmp 25) rfl c.nb (q*261) rfl (dk b<|.slice b5 b.ba.length r) _ bK underlying271 rfl (jc _ _) ?_)
  |(refine gm 8 rfl rfl 271 rfl _ xa ?_;intro w3 aO bO bP)
  |(refine hw rfl 271 (.tmp 8) (.tmp 26) rfl _ rfl _ rfl _ bO (by rw[gy,gy]) (jc _ _) (vl _ _ _ _) ?_;intro w4 a d;have aS:=Gl.start aQ bP d a bL;have f:=aS.nd.R;clear a d j l))
 clear f;go_loopw [2,14] (λaT D wr=>∃(i d:Nat)(p:co)(t:Nat),D=I i/\aT=I d/\Rt w wr c B q L g a0 b b5 r k i d p t) (λaT D _=>(b.lo-(intOf D).toNat)+(g-(intOf aT).toNat))
 .exact⟨0,L,a0,b.lo+c.s.size+1,rfl,rfl,⟨aS,rfl,ah,bI,Q,bN,Q,bM⟩⟩
 obtain⟨i,d,p,t,rfl,rfl,F⟩:=hrel;have f:=F;have M:=F.gl.nd.ba;have b6:=F.gl.nd.cell (k:=259)<|wl b _ 2;have b7:=F.aj;have cI:=F.dl;by_cases aI:d<g\/i<b.lo
 .let⟨x,bQ,cJ,b8⟩:=F.gl.sa 0 k a8;simp only[O]at bQ;subst bQ;have aU:=J aI;have l:=J (awb (L:=c.s.size) (vz c.s bJ (k+1) k Q) Q F.tr aI);have bR:(d<g)\/(¬d<g/\i<b.lo):=Q
  clear F aS aQ aI;obtain bS|bS:=bR
  .have aJ:decide ((d:Int)<g)=true:=qB
   go_wp21;go_call a2.2.1 _ d f.gl.gs.fd Q as E aV ⟨R,rfl,V,Z,W⟩;have a9:=f.gl.fm Z W;have aW:=J V;have aA:=a9.lt;clear V Z W M b8 b6;go_wp2_with (first
     |(refine gm 15 rfl rfl 246 rfl _ ld ?_;intro bT aB aX aY)
     |(refine hw rfl 246 (.tmp 15) (.tmp 147) rfl _ rfl _ rfl _ aX (by rw[ek,ek]) (gh _) (oh _) ?_;intro bU a3 aC;have aD:=(a9.grow aY).bj aC aA;clear aC))
   generalize aV.heap.size=P at a3 aA aB|-;clear aJ;go_loopw [16] (λD aE=>∃a:Nat,D=I a/\d<=a/\a<=g/\Gl w aE c B p b (some<|O x 0) r/\bd aE P (dj R)/\Y (∀h,a<h->h<=g->¬(bi c.s c.bc k d h/\un (bi c.s c.bc k) b.lo b.hi (i+1) (λa1=>a1=h) g))) (λD _=>(intOf D).toNat)
   .exact⟨g,rfl,b7,ah,aD,a3,λh aZ aF=>Q⟩
   obtain⟨a,rfl,a4,a5,H,qa,a7⟩:=hrel
   have bW:(a:Int)<82:=Q
   have b0:=qa.lt (by rw[ek];omega);clear aD a3 aB;by_cases bY:d<a
   .have aK:decide ((d:Int)<a)=true:=qB
    have aL:=qa.cell (qb R (k:=a));rcases df (R a)with C|C
    .have b1:=J C;have bZ:=J ((aW a Q).1 C);rw[C]at aL;clear C;have K:=H.grow (bp _ _).drew;have c0:=qa.drew;have A:=By K.nd;have c1:Y (∀u,(λu=>decide (u=a)) u=true->u<=c.s.size):=λu c2=>by
      have:u=a:=qK c2
      omega
     have b9:Y (wr.drew.heap.size=wr.heap.size):=rfl;go_wp21;have c3:Y (IntKind.i64.wrap ((i:Int)+1)=((i+1:Nat):Int)):=by rw[Y,IntWalk.i64_in _ Q];omega
     have o:wr.drew.cell? (O P a)=some (.bool true)/\(Bb<|ab w.heap.size 0).run prog wr.drew=.ok (.agg (dk b<|aa x b.ba.length r).toArray) wr.drew:=⟨aL,A⟩;go_region_held3 (λb2=>b2.cell? (O P a)=some (.bool true)/\(Bb<|ab w.heap.size 0).run prog b2=.ok (.agg (dk b<|aa x b.ba.length r).toArray) b2) (first|exact o|exact S|exact T)
      (first
       |(go_at_call 216;have j:=Oj a wr.drew;go_call j;clear j;rintro E n ⟨rfl,m⟩;have S:n.cell? (O P a)=some (.bool true)/\(Bb<|ab w.heap.size 0).run prog n=.ok (.agg (dk b<|aa x b.ba.length r).toArray) n:=⟨(m.cell (p:=O P a) b0).trans o.1,By<|K.nd.below m K.lt⟩)
       |(go_at_call 217;have j:=aja c b (some<|O x 0) r k a8 ⟨a2.1,a2.2.1⟩ (λu=>decide (u=a)) (i+1) n (K.grow m).gs.fd (K.grow m).sa aP.ba aP.lo aP.hi Q c1;rw[c3.out];go_call j;clear j;rintro E aG ⟨bA,rfl,U,X,v⟩;have aM:=λa6=>ahy bA g Q a6;have bD:=J ((U g Q).trans akd);have j:=(K.grow m).fm X v;have bE:=(c0.below m<|by rw[b9.out];exact b0).fm v (by have:=m.size;rw[b9.out]at this;omega) (by have:=H.kl;omega) (by have:=H.el;omega);have T:aG.cell? (O P a)=some (.bool true)/\(Bb<|ab w.heap.size 0).run prog aG=.ok (.agg (dk b<|aa x b.ba.length r).toArray) aG:=⟨(by have:=bE.cell (qb R (k:=a));rw[b1.out]at this;exact this),By j.nd⟩;clear U X v))
     clear A aL o S T;rcases df (bA g)with o|o
     .have b3:=J<|bD.1 o;have m:=J<|pr.of a4 a5 a7<|.inr ⟨bZ,b3⟩;rw[o]at aM|-;clear o aM;have v:=J<|m.holds ⟨l.choose,l.choose_spec.1,l.choose_spec.2.1,l.choose_spec.2.2.1,l.choose_spec.2.2.2.1⟩;have n:Y (i<b.lo\/d<a):=by
       let⟨h,u1,u2,u3,u4,u5⟩:=l;obtain u5|u5:=u5
       .exact .inl u5
       right;obtain e|e:=hb d a
       .exact e
       exact cb ⟨u3,u4⟩<|m.2.2.1 h Q u2
      have M:=j.nd.ba;let⟨bF,S,bG,T⟩:=j.sa 0 k a8;cases S
      go_wp21;go_call a2.2.2 _ d a p B j.gs.base (by rw[f.cl];exact aR) a4 Q v.1 as E U ⟨rfl,A,s,y,z⟩;have X:Y (Rt w U c B q L g a0 b (some<|O x 0) r k (i+1) a A<|t-1):=⟨j.call z,by rw[y];exact f.cl,by have:=f.ia;omega,a5,by have:=f.dl;have:=n.out;omega,v.2,by have:=f.fu;have:=n.out;omega,λa6 e=>f.gq a6<|by rw[show t=(t-1)+1 by have:=f.fu;omega];exact Xd aU m s e⟩;clear s y z M T;go_wp21;go_roundw
      .exact⟨i+1,a,A,t-1,qJ,rfl,X⟩
      simp[intOf];omega
     have b3:Y (¬un (bi c.s c.bc k) b.lo b.hi (i+1) (λa1=>a1=a) g):=λe=>by rw[bD.2 e]at o;cases o
     rw[o]at aM|-;clear o aM;go_wp21;go_roundw
     .exact⟨a-1,by rw[yxy Q];rfl,Q,Q,j,bE,λh aZ aF=>by
      by_cases E:h=a
      .subst E;exact λe=>b3 e.2
      exact a7 h Q aF⟩
     simp[intOf];omega
    have b1:Y (¬bi c.s c.bc k d a):=λe=>by rw[(aW.out a Q).2 e]at C;cases C
    rw[C]at aL;clear C;go_wp21;go_quiet (fail);go_wp21;go_roundw
    .exact⟨a-1,by rw[yxy Q];rfl,Q,Q,H.grow ⟨rfl,rfl,rfl,ah,λ_ _=>rfl⟩,qa.cw rfl,λh aZ aF=>by
     by_cases E:h=a
     .subst E;exact λe=>b1 e.1
     exact a7 h Q aF⟩
    simp[intOf];omega
   have aK:decide ((d:Int)<a)=false:=qB
   have u:decide (d<a)=false:=qB
   have C:a=d:=Q
   have m:=J<|pr.of a4 a5 a7<|.inl C;clear qa C;go_wp21;go_quiet (fail);have j:Gl w (wr.drewN nq) c B p b (some<|O x 0) r:=H.grow ⟨rfl,rfl,rfl,ah,λ_ _=>rfl⟩;generalize wr.drewN nq=aG at j|-;clear aK u;have v:=J<|m.holds ⟨l.choose,l.choose_spec.1,l.choose_spec.2.1,l.choose_spec.2.2.1,l.choose_spec.2.2.2.1⟩;have n:Y (i<b.lo\/d<a):=by
    let⟨h,u1,u2,u3,u4,u5⟩:=l;obtain u5|u5:=u5
    .exact .inl u5
    right;obtain e|e:=hb d a
    .exact e
    exact cb ⟨u3,u4⟩<|m.2.2.1 h Q u2
   have M:=j.nd.ba;let⟨bF,S,bG,T⟩:=j.sa 0 k a8;cases S
   go_wp21;go_call a2.2.2 _ d a p B j.gs.base (by rw[f.cl];exact aR) a4 Q v.1 as E U ⟨rfl,A,s,y,z⟩;have X:Y (Rt w U c B q L g a0 b (some<|O x 0) r k (i+1) a A<|t-1):=⟨j.call z,by rw[y];exact f.cl,by have:=f.ia;omega,a5,by have:=f.dl;have:=n.out;omega,v.2,by have:=f.fu;have:=n.out;omega,λa6 e=>f.gq a6<|by rw[show t=(t-1)+1 by have:=f.fu;omega];exact Xd aU m s e⟩;have bH:=n.out;clear s y z M T;go_wp21;go_roundw
   .exact⟨i+1,a,A,t-1,qJ,rfl,X⟩
   simp[intOf];omega
  have aJ:decide ((d:Int)<g)=false:=qB
  have o:decide (d<g)=false:=qB
  have K:decide ((i:Int)<b.lo)=true:=qB
  go_wp21;go_call a2.2.1 _ d f.gl.gs.fd Q as E aV ⟨R,rfl,V,Z,W⟩;have a9:=f.gl.fm Z W;have aA:=a9.lt;clear V Z W M b8 b6;go_wp2_with (first
    |(refine gm 15 rfl rfl 246 rfl _ ld ?_;intro bT aB aX aY)
    |(refine hw rfl 246 (.tmp 15) (.tmp 147) rfl _ rfl _ rfl _ aX (by rw[ek,ek]) (gh _) (oh _) ?_;intro bU a3 aC;have aD:=(a9.grow aY).bj aC aA;clear aC))
  generalize aV.heap.size=P at a3 aA aB|-;clear aJ;clear K o;go_loopw [16] (λD aE=>∃a:Nat,D=I a/\d<=a/\a<=g/\Gl w aE c B p b (some<|O x 0) r/\bd aE P (dj R)/\Y (∀h,a<h->h<=g->¬(bi c.s c.bc k d h/\un (bi c.s c.bc k) b.lo b.hi (i+1) (λa1=>a1=h) g))) (λD _=>(intOf D).toNat)
  .exact⟨g,rfl,b7,ah,aD,a3,λh aZ aF=>Q⟩
  obtain⟨a,rfl,a4,a5,H,qa,a7⟩:=hrel
  clear aD a3 aB;by_cases bY:d<a
  .exfalso;omega
  have aK:decide ((d:Int)<a)=false:=qB
  have u:decide (d<a)=false:=qB
  have C:a=d:=Q
  have m:=J<|pr.of a4 a5 a7<|.inl C;clear qa C;go_wp21;go_quiet (fail);have j:Gl w (wr.drewN nq) c B p b (some<|O x 0) r:=H.grow ⟨rfl,rfl,rfl,ah,λ_ _=>rfl⟩;generalize wr.drewN nq=aG at j|-;clear aK u;have v:=J<|m.holds ⟨l.choose,l.choose_spec.1,l.choose_spec.2.1,l.choose_spec.2.2.1,l.choose_spec.2.2.2.1⟩;have n:Y (i<b.lo\/d<a):=by
   let⟨h,u1,u2,u3,u4,u5⟩:=l;obtain u5|u5:=u5
   .exact .inl u5
   right;obtain e|e:=hb d a
   .exact e
   exact cb ⟨u3,u4⟩<|m.2.2.1 h Q u2
  have M:=j.nd.ba;let⟨bF,S,bG,T⟩:=j.sa 0 k a8;cases S
  go_wp21;go_call a2.2.2 _ d a p B j.gs.base (by rw[f.cl];exact aR) a4 Q v.1 as E U ⟨rfl,A,s,y,z⟩;have X:Y (Rt w U c B q L g a0 b (some<|O x 0) r k (i+1) a A<|t-1):=⟨j.call z,by rw[y];exact f.cl,by have:=f.ia;omega,a5,by have:=f.dl;have:=n.out;omega,v.2,by have:=f.fu;have:=n.out;omega,λa6 e=>f.gq a6<|by rw[show t=(t-1)+1 by have:=f.fu;omega];exact Xd aU m s e⟩;clear s y z M T;go_wp21;go_roundw
  .exact⟨i+1,a,A,t-1,qJ,rfl,X⟩
  simp[intOf];omega
 have a:=J<|F.gq p<|atj aI
 have o:decide (d<g)=false:=qB
 have h:decide (i<b.lo)=false:=qB
 clear F;go_wp21;go_returns;exact⟨rfl,p,a,f.cl,f.gl.gs⟩
end
def aep{e:ag}:∀(f:List ft)(d:Nat),markF e f d=none->∀a∈f,¬(a.want=false/\a.name=e)
 | [],d,h,a,c=>by simp at c
 |b::r,d,h,a,c=>by
  unfold markF at h;split at h
  .cases h
  rename_i g;obtain rfl|c:=vc.1 c
  .exact g
  exact aep r (d+1) h a c
theorem Vq{i:ag}:∀(l:List ft)(f g:Nat),markF i l f=some g->∃e,g=f+e/\(∃d,l[e]?=some d/\d.want=false/\d.name=i)/\∀a c,a<e->l[a]?=some c->¬(c.want=false/\c.name=i)
 | [],f,g,h=>by simp[markF]at h
 |b::r,f,g,h=>by
  unfold markF at h;split at h
  .simp_all
  rename_i j;let⟨e,q,⟨d,n,o⟩,p⟩:=Vq r (f+1) g h;refine⟨e+1,Q,⟨d,qK n,o⟩,λa c m k=> ?_⟩;grind
def map_inj{g i:Type}{e:g->i}(f:∀a d,e a=e d->a=d):∀(b c:List g),b.map e=c.map e->b=c
 | [],[],_=>rfl
 | [],d::c,h=>by simp at h
 |a::b,[],h=>by simp at h
 |a::b,d::c,h=>by
  simp only[vw,yxs]at h;rw[f _ _ h.1,map_inj f b c h.2]
theorem ae4(b:ub s=ub t):s=t:=by
 have:=map_inj (λc d a=>yzt.1 a) _ _ b;apply va;simp_all
theorem Pm{f:List ft}{e:Qja}:e∈ma f↔∃a∈f,a.name.size≠0/\e=⟨ub a.name,a.H, !a.want⟩:=by
 grind[ma]
def aed(a b:List ft):ma (a++b)=ma a++ma b:=by
 unfold ma;rw[yze,yys]
theorem ak2{j:Sc}{b c:List ft}{a:ft}(w:j.bu=ma (b++a::c))(x:a.name.size≠0):
  j.bu[(ma b).length]?=some ⟨ub a.name,a.H, !a.want⟩/\(vd j (ma b).length↔markF a.name (b++a::c) 0=none\/∃f,markF a.name (b++a::c) 0=some f/\a.want=false/\f≠b.length):=by
 have H:ma (a::c)=⟨ub a.name,a.H, !a.want⟩::ma c:=by
  have:=aed [a] c;have d:=Ph [] a;rw[N x]at d;rw[show a::c=[a]++c from rfl,this];simp only[List.nil_append]at d;rw[d];rfl
 have u:j.bu=ma b++(⟨ub a.name,a.H, !a.want⟩::ma c):=by rw[w,aed,H]
 have o:j.bu[(ma b).length]?=some ⟨ub a.name,a.H, !a.want⟩:=by rw[u];simp
 refine⟨o,?_⟩;constructor
 .rintro⟨P,z,h⟩;rw[o]at z;cases z
  simp only at h;cases y:markF a.name (b++a::c) 0 with
  |none=>exact .inl rfl
  |some f=>
   refine .inr ⟨f,rfl,?_⟩;let⟨L,k,⟨i,d,l,g⟩,p⟩:=Vq _ _ _ y;rw[qo]at k;subst k;obtain⟨K,m,q,D,A,B,C⟩|h:=h
   .refine⟨qK K,λM=> ?_⟩;have e:q∈ma b:=by
     rw[u,oq D]at A;exact qy A
    let⟨r,s,E,t⟩:=Pm.1 e;subst t;simp only at B C;let⟨F,n⟩:=yxv s;have v:=(jy.1 n).1;exact p F r Q qE ⟨qK B,ae4 C⟩
   exfalso;apply h;have e:(⟨ub i.name,i.H, !i.want⟩:Qja)∈j.bu:=by
    rw[w];exact Pm.2 ⟨i,qy d,by rw[g];exact x,rfl⟩
   let⟨m,n⟩:=yxv e;grind
 rintro(h|⟨f,y,z,B⟩)
 .refine⟨_,o,.inr ?_⟩;rintro⟨m,q,d,l,g⟩;have e:q∈ma (b++a::c):=by rw[<-w];exact qy d
  let⟨r,s,E,t⟩:=Pm.1 e;subst t;exact aep _ _ h r s ⟨qK l,ae4 g⟩
 refine⟨_,o,.inl ⟨by simp[z],?_⟩⟩;let⟨L,k,⟨i,d,l,g⟩,p⟩:=Vq _ _ _ y;rw[qo]at k;subst k;have v:f<b.length:=by
  by_cases A:f<b.length
  .exact A
  exfalso;exact p b.length a Q qD ⟨z,rfl⟩
 rw[oq v]at d;have e:=Pm.2 ⟨i,qy d,by rw[g];exact x,rfl⟩;let⟨m,n⟩:=yxv e;have A:=(jy.1 n).1;exact⟨m,_,A,by rw[u,oq A];exact n,by simp[l],by simp[g]⟩
theorem Vb{i:Sc}{e:List ft}(g:Nat)(w:i.bu=ma e):∀(c a:List ft)(h:List Cm),e=a++c->
  (∀d,joinL e g c a.length h=.error d->∃(b:Nat)(m:Qja),i.bu[b]?=some m/\d=m.H/\vd i b/\∀f,(ma a).length<=f->f<b->¬vd i f)/\
  (∀k,joinL e g c a.length h=.ok k->∀b,(ma a).length<=b->¬vd i b)
 | [],a,h,u=>by
  refine⟨λd t=>by simp[joinL]at t,λk t b A n=> ?_⟩;let⟨m,n,_⟩:=n;grind
 |l::c,a,h,u=>by
  have D:e=(a++[l])++c:=by rw[u];simp
  have C:(a++[l]).length=a.length+1:=qD
  by_cases o:l.name.size=0
  .have B:ma (a++[l])=ma a:=by rw[Ph,G o,xu]
   have v:joinL e g (l::c) a.length h=joinL e g c (a++[l]).length (if l.want=true then setGoal h l.cmd g else h):=by rw[joinL,G o,C]
   rw[v,<-B];exact Vb g w c (a++[l]) _ D
  have B:ma (a++[l])=ma a++[⟨ub l.name,l.H, !l.want⟩]:=by rw[Ph,N o]
  have F:i.bu=ma (a++l::c):=by rw[w,u]
  let⟨A,x⟩:=ak2 F o;rw[<-u]at x;have P:∀y,¬vd i (ma a).length->
    (∀d,joinL e g c (a++[l]).length y=.error d->∃(b:Nat)(m:Qja),i.bu[b]?=some m/\d=m.H/\vd i b/\∀f,(ma a).length<=f->f<b->¬vd i f)/\(∀k,joinL e g c (a++[l]).length y=.ok k->∀b,(ma a).length<=b->¬vd i b):=λy E=>by
   let⟨p,z⟩:=Vb g w c (a++[l]) y D;grind
  cases p:markF l.name e 0 with
  |none=>
   have v:joinL e g (l::c) a.length h=.error l.H:=by rw[joinL,N o,p]
   grind
  |some z=>
   have v:joinL e g (l::c) a.length h=if l.want=false/\z≠a.length then .error l.H else joinL e g c (a++[l]).length (if l.want=true then setGoal h l.cmd ((e[z]?.map ft.cmd).getD 0)else h):=by rw[joinL,N o,p,C]
   grind
def ata:Fk S ((jb S).2.1:Int) (jb S).2.2:=by
 unfold jb;by_cases h:400<S.size
 .rw[G h];exact .inl ⟨h,rfl,rfl⟩
 rw[N h];have j:S.size<=400:=Q
 obtain⟨b,A,i,f⟩|⟨b,i⟩:=atv S
 .rw[N<|by rw[b];simp];refine .inr<|.inr ⟨j,A,i,?_⟩;generalize hq S=p at b f;let⟨a,ok⟩:=p;simp only at b f|-;let⟨C,d⟩:=f.bk;obtain⟨e,d⟩|⟨c,q,t,e,u,v,w,x⟩:=d
  .rw[N<|by rw[e];simp];have g:=Vb a.U.length f.bu a.bh [] a.U rfl;simp only[List.length_nil]at g;have y:(ma []).length=0:=rfl;rw[y]at g;cases k:joinL a.bh a.U.length a.bh 0 a.U with
   |error s=>
    let⟨c,r,z,B,l,m⟩:=g.1 s k;exact .inr<|.inl ⟨d,rfl,c,r,z,by rw[B],l,λn o=>m n (ey _) o⟩
   |ok l=>exact .inr<|.inr ⟨d,rfl,rfl,λc=>g.2 l k c<|ey _⟩
  rw[G<|by rw[e];omega];exact .inl ⟨rfl,q,e,c,u,⟨t,v,w⟩,x⟩
 rw[G b];exact .inr<|.inl ⟨j,rfl,_,rfl,i⟩
