import Derived.Deep.RegionHeldLaw
import Derived.Test.YtppjlpihaocdiaaGreatDoorApQ
set_option linter.all false
set_option maxRecDepth 100000
set_option maxHeartbeats 16000000
namespace Go.Proofs.YtppjlpihaocdiaaGreatDoor
open Go.RowKit Go.Proofs.Tryz
variable{w u v:ae}{a b c d e:Nat}{s t:ag}{x y z:af}{p D:Int}{l:List af}{f:Bool}{g:List Nat}{h:Nat->Prop}{o:Option Addr}{r:List UInt8}{A:Nat->Bool}{B:Nat->Nat->Bool}{C:Nat->Nat->Prop}(i:Nat)(S T:ag)(V X:af)(j k m n:Nat)(Z:Int)(W:ae)
def yx(a:List UInt8):(ce a).size=a.length:=by simp[ce,ByteArray.size]
def Ok.put{j e g:ae}{b:Nat}{d:Cf}{a E':Ed}{i:Ev}(o:Ok j b d i a e)(h:∀c,At e b d a c->bf b e g/\bd g b (pb d E' c))(k:E'.next=a.next:=by rfl)(l:E'.out=a.out:=by rfl)(m:E'.cy=a.cy:=by rfl)(n:E'.bo=a.bo:=by rfl):Ok j b d i E' g:=
 o.trans λc f=>f.put (h c f).1 (h c f).2 k l m n
def Ok.cell{l c:ae}{d:Nat}{e:Cf}{b:Ed}{j:Ev}(i:Ok l d e j b c){k:Nat}{f:af}(g:∀a,(pb e b a)[k]?=some f):c.cell? (O d k)=some f:=by
 have⟨a,h,_⟩:=i;exact h.cell<|g a
def Ok.cd{j b:ae}{c:Nat}{f:Cf}{d:Ed}{i:Ev}(h:Ok j c f i d b)(a:Nat)(e:a<21:=by omega):b.frozen? (O c a)=false:=by
 have⟨k,g,_⟩:=h;exact g.cd a e
def xxm(i:Nat)(b:Cf)(a:Ed)(e:Ev)(f:ae)(k:At f i b a e)(B:a.number<=70368744177664)(C:a.next.length<=4000000)(t:Bool)(n:Nat)(h:n=118\/n=203)(l:∀(z:Ev)(w:ae)(u:ag),At w i b a.read z->u.size<=4000000->Calls prog n #[.pointer<|some ⟨i,5,none⟩,.string u] w (rv w i b z a.read<|a.read.vu b t u)):
  Calls prog 117 #[.pointer<|some ⟨i,0,none⟩,.func (.func n) #[.pointer<|some ⟨i,5,none⟩] #[]] f λj K=>j=.returned (.bool (a.ej b t).2)/\Ok f i b e (a.ej b t).1 K:=by
 obtain rfl|rfl:=h
 all_goals
  have v:=k.cd 20;have w:=k.xc 20;have g:=Yy i b a e f k;by_cases aA:a.sk b=true
  .have m:Y (a.ej b t=({a with ck:=3},false)):=by rw[Y,Ed.ej,G aA]
   rw[aA]at g;rw[m.out];go_in;go_wp21;go_call g;rintro j D ⟨rfl,x,rfl⟩;go_wp21;go_ret;exact⟨rfl,(Ok.refl k).drewN x|>.put (λy n=>⟨(bf.refl _ _).setCell _ _,jx n.row 20 _ (by omega) rfl⟩)⟩
  have c:a.sk b=false:=by simpa using aA
  rw[c]at g;have h:Y (a.ej b t=match a.read.vu b t (ce a.next)with|none=>({a.read with ck:=4},false)|some d=>({d with cx:=0,put:=false},true)):=by rw[Y,Ed.ej,c];rfl
  go_in;go_wp21;go_call g;rintro j D ⟨rfl,x,rfl⟩;have L:=k.drewN x;go_wp21;go_call ahw as j H ⟨rfl,q⟩;have⟨z,F,c⟩:=q;have A:Y (Fe i e z f H):=⟨c.os,c.tape,c.output,c.size,c.block,c.rp,c.cm⟩;have E:(ce a.next).size<=4000000:=by rw[yx];exact C
  generalize c:ce a.next=u at E h|-
  have c:=l z H u F E;go_wp21;go_call c;rintro j w3 q;rcases q with⟨o,rfl,p⟩|⟨d,o,rfl,p⟩
  .have m:Y (a.ej b t=({a.read with ck:=4},false)):=by rw[Y,h.out];rw[o]
   have c:Y (Ok f i b e a.read w3):=by
    have⟨r,s,t⟩:=p;exact⟨r,s,A.trans t⟩
   have v:=c.cd 20;have w:=c.cell (k:=20)<|λ_=>rfl;go_wp21;go_ret;rw[m.out];exact⟨rfl,c.put<|λy n=>⟨(bf.refl _ _).setCell _ _,jx n.row 20 _ (by omega) rfl⟩⟩
  have m:Y (a.ej b t=({d with cx:=0,put:=false},true)):=by rw[Y,h.out];rw[o]
  have c:Y (Ok f i b e d w3):=by
   have⟨r,s,t⟩:=p;exact⟨r,s,A.trans t⟩
  have M:=c.cd 16;have P:=c.cell (k:=16)<|λ_=>rfl;have Q:=c.cd 18;have R:=c.cell (k:=18)<|λ_=>rfl;go_wp21;go_ret;rw[m.out];exact⟨rfl,c.put<|λy n=>⟨xxs.setCell _ _,jx (E:={d with cx:=0}) (jx n.row 16 _ (by omega) rfl) 18 _ (by omega) rfl⟩⟩
def Xc(b:Cf)(a:Ed)(e:Ev)(f:ae)(k:At f i b a e)(B:a.number<=70368744177664)(C:a.next.length<=4000000):
  Calls prog 117 #[.pointer<|some ⟨i,0,none⟩,.func (.func 118) #[.pointer<|some ⟨i,5,none⟩] #[]] f λj K=>j=.returned (.bool (a.ej b false).2)/\Ok f i b e (a.ej b false).1 K:=xxm i b a e f k B C false 118 (.inl rfl) λz w u F _=>Jw i b a.read z w u F
def agu(b:Cf)(a:Ed)(e:Ev)(f:ae)(k:At f i b a e)(C:a.number<=70368744177664)(D:a.next.length<=4000000)(E:a.L.size<=1000000):
  Calls prog 117 #[.pointer<|some ⟨i,0,none⟩,.func (.func 203) #[.pointer<|some ⟨i,5,none⟩] #[]] f λj L=>j=.returned (.bool (a.ej b true).2)/\Ok f i b e (a.ej b true).1 L:=xxm i b a e f k C D true 203 (.inr rfl) λz w u F A=>adb i b a.read z w u F E A
def So(b:Cf)(a:Ed)(k:Ev)(o:ae)(e:At o i b a k)(x:a.number<=70368744177664)(y:a.next.length<=4000000):
  Calls prog 72 #[.pointer<|some ⟨i,0,none⟩] o λg w=>g=.returned (.bool (a.mi b).2)/\Ok o i b k (a.mi b).1 w:=by
 have z:=e.cd 20;have A:=e.xc 20;have c:=Jv i b a k o e;by_cases d:a.mh b=true
 .rw[d]at c;by_cases l:a.more=true
  .have n:Y (a.mi b=a.ej b false):=by rw[Y,Ed.mi,G d,G l]
   have p:=J l;rw[n.out];go_in;go_wp21;go_call c;rintro g m ⟨rfl,j,rfl⟩;have f:=Kx i b a k _<|e.drewN j;rw[p.out]at f;go_wp21;go_call f;rintro g m ⟨rfl,q,rfl⟩;have r:=Xc i b a k _ (e.drewN<|j+q) x y;go_wp21;go_call r;rintro g m ⟨rfl,s⟩;have u:Y (Ok o i b k (a.ej b false).1 m):=by
    have⟨t,v,h⟩:=s;exact⟨t,v,⟨h.os,h.tape,h.output,h.size,h.block,h.rp,h.cm⟩⟩
   go_wp21;go_ret;exact⟨rfl,u⟩
  have h:a.more=false:=by simpa using l
  have n:Y (a.mi b=({a with ck:=1},false)):=by rw[Y,Ed.mi,G d,N l]
  have p:=J h;rw[n.out];go_in;go_wp21;go_call c;rintro g m ⟨rfl,j,rfl⟩;have f:=Kx i b a k _<|e.drewN j;rw[p.out]at f;go_wp21;go_call f;rintro g m ⟨rfl,q,rfl⟩;go_wp21;go_ret;exact⟨rfl,(Ok.refl e).drewN (j+q)|>.put (λt f=>⟨(bf.refl _ _).setCell _ _,jx f.row 20 _ (by omega) rfl⟩)⟩
 have f:a.mh b=false:=by simpa using d
 rw[f]at c;have n:Y (a.mi b=(a,false)):=by rw[Y,Ed.mi,N d]
 rw[n.out];go_in;go_wp21;go_call c;rintro g m ⟨rfl,j,rfl⟩;go_wp21;go_ret;exact⟨rfl,(Ok.refl e).drewN j⟩
def agc(c:Cf)(b:Ed)(d:Ev)(e:ae)(f:At e i c b d)(o:b.out.length<=70368744177664)(p:b.L.size<=1000000):
  Calls prog 74 #[.pointer<|some ⟨i,0,none⟩] e λj t=>j=.returned (.tuple #[])/\Ok e i c d (b.ja c) t:=by
 have m:=f.xc 19;have v:=f.xc 5;have g:Y (b.ja c=if c.quiet=true then b else b.print b.L):=rfl;generalize h:c.quiet=s at m g;clear h;rcases df s with k|k<;>subst k
 .rw[g.out,G rfl];go_in;go_wp21;go_returns;exact⟨rfl,Ok.refl f⟩
 rw[g.out,N<|by simp];have l:=λh (q:At h i c b d)=>En i c b d h b.L q o p
 have n:=J l;clear l;go_in;go_wp21;go_region_with (first
  |(go_at_call 123;(go_call n e.drew f.drew as j r ⟨rfl,u,a⟩;have l:Y (Ok e i c d (b.print b.L) r):=⟨_,a.1,⟨a.2.os,a.2.tape,a.2.output,a.2.size,a.2.block,a.2.rp,a.2.cm⟩⟩;clear a)))
 all_goals
  go_wp21;go_returns;exact⟨rfl,l⟩
section
def Nm(s:ag)(p:cj):Prop:=∀x∈p.bh,x.name.size<=s.size
def Nm.qu{s:ag}{p:cj}(f:Nm s p)(a:Nat)(d:Bool):Nm s (p.qu s a d):=λc b=>by
 rcases og.1 (show c∈p.bh++[_] from b)with b|b
 .exact f c b
 have e:c=⟨s.extract a<|eg s 8 a,a,p.U.length,d⟩:=by simpa using b
 rw[e];simp[lw];omega
section
variable {row:cj->cj×Bool} {s:ag}
def alb(e:∀a,Nm s a->Nm s (row a).1){a:cj}{c:Cm}(d:Nm s a):Nm s (qr row s a c).1:=by
 unfold qr;split
 .exact d
 simp only;have b:=e {a with H:=a.H+1,op:=a.op+1,U:=a.U++[c]} d;split
 .exact b
 exact b
def ajk(b:∀p,Nm s p->Nm s (row p).1){p:cj}{c:Cm}(a:Nm s p):Nm s (lm row s p c).1:=by
 unfold lm;split
 .simp only;split
  .exact alb b a
  split
  .split
   .exact a
   exact a
  split
  .exact a.qu (p.H+1) true
  split
  .exact a
  split
  .exact a
  exact a
 exact a
def al7(b:∀p,Nm s p->Nm s (row p).1){p:cj}(a:Nm s p):Nm s (iw row s p).1:=by
 unfold iw;simp only;split
 .split
  .split
   .exact a
   exact ajk b (p:={p with H:=skip s dh<|(cq s p.H p.bk).1+1,bk:=(cq s p.H p.bk).2.2.2.1}) a
  split
  .split
   .exact Nm.qu (p:={p with H:=(cq s p.H p.bk).1,bk:=(cq s p.H p.bk).2.2.2.1}) a _ false
   exact a
  exact ajk b (p:={p with H:=(cq s p.H p.bk).1,bk:=(cq s p.H p.bk).2.2.2.1}) a
 exact a
def ahb(c:∀a,Nm s a->Nm s (row a).1):∀(f:Nat)(a:cj),Nm s a->Nm s (rowL' row s f a).1
 |0,a,h=>h
 |f+1,a,h=>by
  unfold rowL';simp only;split
  .exact h
  have b:=al7 c (p:={a with H:=skip s fc a.H}) h;split
  .split
   .exact ahb c f _ b
   exact b
  exact b
end
def ahn(s:ag):∀(N:Nat)(a:cj),Nm s a->Nm s (Qqf s N a).1
 |0,a,h=>h
 |N+1,a,h=>ahb (ahn s N) (s.size+1) a h
def jb(s:ag):List Cm×Nat×Int:=
 if 400<s.size then([],1,0)
 else if(hq s).2=false then([],3,((hq s).1.H:Int))
 else if(hq s).1.bk≠-1 then([],2,(hq s).1.bk)
 else match joinL (hq s).1.bh (hq s).1.U.length (hq s).1.bh 0 (hq s).1.U with
  | .error i=>([],4,(i:Int))
  | .ok cs=>(cs,0,0)
def Ci(w:ae)(lo:Nat)(v:af)(cs:List Cm):Prop:=∃xs,w.ownsRow lo 200 23 v cs.length xs/\∀(k:Nat)(x:Cm),cs[k]?=some x->
 ∃l h q,lo<=l/\h<=w.heap.size/\(∀g,v.ownBlock=some g->g<=l\/h<=g)/\mq w l h x q/\∀o u,(ff x q)[o]?=some u->xs[k*23+o]?=some u
def Ff(s:ag)(w:ae):Ending->ae->Prop:=λe w'=>∃v,e=.returned (.tuple #[v,.int .i64 ((jb s).2.1:Int),.int .i64 (jb s).2.2])/\Below w.heap.size w w'/\
 ((jb s).2.1≠0->v=.slice none 0 0)/\((jb s).2.1=0->Ci w' w.heap.size v (jb s).1)
def atb(s:ag)(g:ae)(a7:s.size<=maxLen):Calls prog 45 #[.string s] g (Ff s g):=by
 unfold maxLen at a7;by_cases Q:400<s.size
 .have d:Y (jb s=([],1,0)):=by rw[Y,jb,G Q]
  have hd:decide ((s.size:Int)>400)=true:=by simp;omega
  go_in;go_wp21;go_returns;exact(by unfold Ff;rw[d.out];exact⟨_,rfl,bp _ _,λ_=>rfl,λb=>cb b<|by simp⟩)
 have C:s.size<=400:=by omega
 have u:Y (Nm s (hq s).1):=ahn s 7 ⟨0,0,[],[],-1⟩ (λj f=>by simp at f);have y:Y ((hq s).2=true->Lb (hq s).1):=ahm s 7 ⟨0,0,[],[],-1⟩ (λj f=>by simp at f);have d:Y (jb s=if(hq s).2=false then([],3,((hq s).1.H:Int))else if(hq s).1.bk≠-1 then([],2,(hq s).1.bk)else match joinL (hq s).1.bh (hq s).1.U.length (hq s).1.bh 0 (hq s).1.U with
  | .error n=>([],4,(n:Int))
  | .ok k=>(k,0,0)):=by rw[Y,jb,N Q]
 have D:Y (∀{w:Nat} {i o:af} {z:ae},Rk z w s ⟨0,0,[],[],-1⟩ i o->Calls prog 69 #[.pointer<|some ⟨w,0,none⟩] z (um 0 w s ⟨0,0,[],[],-1⟩ i o z<|hq s)):=λb=>ahq 7 _ s ⟨0,0,[],[],-1⟩ _ _ _ b (ey _) (ey _) (by simp)<|by simp
 have E:Y (Rk (g.alloc<|.cells #[.string s, I 0, I 0,.slice none 0 0,.slice none 0 0, I<|-1] 162) g.heap.size s ⟨0,0,[],[],-1⟩ (.slice none 0 0)<|.slice none 0 0):=
  ⟨⟨⟨by go_simp,by go_simp,by go_simp,ey _,C⟩,by go_simp,by go_simp⟩,by go_simp,by go_simp,by go_simp,by go_simp,by go_simp,by go_simp,⟨[],yyc _ _ _ _,λx j f=>by simp at f⟩,yyc _ _ _ _,λx a=>by cases a⟩
 have F:Below g.heap.size g (g.alloc<|.cells #[.string s, I 0, I 0,.slice none 0 0,.slice none 0 0, I<|-1] 162):=(bp _ _).alloc ah _;generalize hq s=S at u y d D;obtain⟨a,ok⟩:=S;simp only at u y d;generalize c:jb s=v at d;have p:=J c;clear c;go_in;go_wp21;go_call D E as a5 R l;unfold um at l;rcases l with⟨m,rfl,⟨i,o,A,H⟩,M,U,V,P,a2⟩|⟨m,rfl,K,h⟩
 .simp only at m U V;subst m;have W:=A;have c:=F.trans<|H.below E;have aE:a.H<=s.size:=A.cu.rc.le;obtain⟨⟨⟨aA,aB,aC,_,_⟩,aM,aF⟩,aJ,aK,aL,aG,aH,aI,_,_,_⟩:=A;clear H;by_cases q:a.bk=-1
  .have a6:(a.bk !=-1)=false:=by rw[q];rfl
   have e:Y (v=match joinL a.bh a.U.length a.bh 0 a.U with
    | .error n=>([],4,(n:Int))
    | .ok k=>(k,0,0)):=by rw[Y,d.out,N<|by decide,N<|λb=>b q]
   clear d;have L:=J (ap4 g.heap.size s a i o R W (y rfl) (by omega) (by omega)<|λj f=>bq (u j f) C);generalize joinL a.bh a.U.length a.bh 0 a.U=T at L e;go_wp21;refine L.mono ?_;rintro a5 aD l;cases T with
   |error n=>
    obtain⟨rfl,h⟩:=l;have B:=c.trans h;have r:=J e;clear h e;go_wp21;go_returns;exact(by unfold Ff;rw[p.out,r.out];exact⟨_,rfl,B,λ_=>rfl,λb=>cb b<|by simp⟩)
   |ok k=>
    obtain⟨rfl,h,t⟩:=l;have B:=c.trans h;have r:=J e;have X:Y (Ci aD g.heap.size i k):=by
     obtain⟨xs,Z,a0⟩:=t.own;refine⟨xs,World.ownsRow.mono Z<|by omega,λx j f=> ?_⟩;obtain⟨a8,b,a9,a1,M,P,a2,a3,a4⟩:=a0 x j f;exact⟨a8,b,a9,a1,M,P,a3,a4⟩
    have Z:=t.c3;clear h e t;go_wp21;go_returns;exact(by unfold Ff;rw[p.out,r.out];exact⟨_,rfl,B,λb=>cb rfl b,λ_=>X⟩)
  have a6:(a.bk !=-1)=true:=by simpa using q
  have e:Y (v=([],2,a.bk)):=by rw[Y,d.out,N<|by decide,G q]
  clear d;go_wp21;go_quiet (fail);go_wp21;go_returns;exact(by unfold Ff;rw[p.out,e.out];exact⟨_,rfl,⟨c.os,c.tape,c.output,c.size,c.block⟩,λ_=>rfl,λb=>cb b<|by simp⟩)
 simp only at m K;subst m;have c:=F.trans h;have e:Y (v=([],3,(a.H:Int))):=by rw[Y,d.out,G rfl]
 obtain⟨aA,aB,aC,_,_⟩:=K;clear h d;go_wp21;go_quiet (fail);go_wp21;go_returns;exact(by unfold Ff;rw[p.out,e.out];exact⟨_,rfl,⟨c.os,c.tape,c.output,c.size,c.block⟩,λ_=>rfl,λb=>cb b<|by simp⟩)
end
structure ya(pt:ag):Prop where
 w:iu pt
 z:pt.size<=40
 g:(il pt).1.g=eo pt
 r:(il pt).2<(il pt).1.l.length
def wa(w:ae)(B:Nat)(tv:af)(pt:ag):Prop:=∃tb nb,tv= ab tb 0/\Co w B tb nb (jv pt).1.l (jv pt).1.g (jv pt).2
def Ez(w:ae)(N0 fb:Nat)(pt s:ag):Prop:=∃tb nb kb eb,et w ⟨N0,tb,nb,fb,kb,eb,(jv pt).1.g,(jv pt).2,(jv pt).1.l,s⟩/\(∃v,w.cell? (O fb 4)=some v)/\w.frozen? (O fb 4)=false
def wa.up(g:wa w a x s)(b:Below a w u):wa u a x s:=by
 obtain⟨c,d,e,f⟩:=g;exact⟨c,d,e,f.below b⟩
def wa.mono(h:wa w a x s)(d:a<=b:=by omega):wa w b x s:=by
 obtain⟨i,j,g,c⟩:=h;refine⟨i,j,g,c.c0,c.c1,c.c2,ew c.xm d,ew c.Ao d,λn f hd=>?_,c.Vp,c.ko⟩;obtain⟨k,e,l,m⟩:=c.node n f hd;refine⟨k,e,l,λp v o=>?_⟩;obtain⟨q,r,t,u⟩:=m p v o;exact⟨q,r,ew t d,u⟩
def aeg(b:ya S)(h:wa W j V S)(g:j<=W.heap.size)(i:T.size<=80):
  Calls prog 146 #[V,.string T] W λd f=>∃a,d=.returned (.pointer<|some ⟨a,0,none⟩)/\Ez f W.heap.size a S T/\Below W.heap.size W f:=by
 obtain⟨c,e,rfl,o⟩:=h.mono g;go_call aqh T c e _ _ _ W o i (Qu b.w b.z).2.2.1.wf as d t ⟨a,k,l,rfl,m,n,p,r⟩;exact⟨a,rfl,⟨c,e,k,l,m,⟨_,n⟩,p⟩,r⟩
def Uo(d:ya s):(jv s).1.g<=1000:=by
 have e:=d.w;have h:=d.z;have f:=Ox s 41 ⟨0,0,[]⟩;obtain⟨c,_⟩:=Cy e 41 ⟨0,0,[]⟩ ⟨0,0,[]⟩ ⟨0,0,0,0⟩ rfl rfl ⟨λb a hd=>by simp at hd,λb a hd=>by simp at hd⟩ ⟨λb a hd=>by simp at hd,λb a hd=>by simp at hd⟩ rfl rfl (ey _) (by show s.size-0<41;omega);have g:=c.le;rw[c.H]at g;have i:(jv s).1.g+0<=0+(dz s 41 ⟨0,0,[]⟩).1.H:=f;omega
def Hl(w':ae)(N0:Nat)(r:Option (List<|Int×Int))(e:Ending):Prop:=match r with
 |none=>e=.returned (.tuple #[.slice none 0 0,.bool false])
 |some sp=>∃ob cap,e=.returned (.tuple #[.slice (some ⟨ob,0,none⟩) sp.length cap,.bool true])/\N0<=ob/\rx w' ob sp
def Ub{s:Mf}(x:fj s)(b c:ag)(d f e:Nat)(g:Bool)(h:ae)(a:ya b)(l:Ez h d f b c)(q:e<=c.size):
  Calls prog 147 #[.pointer<|some ⟨f,0,none⟩,.int .i64 e,.bool g] h λp i=>Below d h i/\Ez i d f b c/\Hl i d (Oh s b c e g) p:=by
 obtain⟨t,u,v,w,hF,⟨T,y⟩,z⟩:=l;have n:=Qu a.w a.z;have r:=am2 a.w a.z;have j:=hF.tree.Vp;have hd:=am1 x (s:=c) a.w a.z a.g a.r e q g;go_call aoc ⟨d,t,u,f,v,w,(jv b).1.g,(jv b).2,(jv b).1.l,c⟩ e g T h q hF y z (Uk _ n.2.2.1.wf (λm k hd=>(r m k hd).1) _ (jv b).2 j j) (aks _ n.2.2.1 (λm k hd=>r m k hd) (Uo a) (jv b).2 j) (Uo a)as p i ⟨⟨F,A,H,B⟩,l⟩;refine⟨F,⟨t,u,v,w,A,H,B⟩,?_⟩;rcases l with⟨rfl,R⟩|⟨C,P,Q,S,D,rfl,E,K,L,o,M⟩
 .rw[hd.1 R];exact rfl
 rw[hd.2 P Q D K o M];exact⟨C,S,by rw[xv,o],E,L⟩
def Dd.lp(D:Dd):List ag->Dd
 | []=>D
 |t::r=>(D.print t).lp r
def Dd.pw(D:Dd):Dd:={D.lp D.ef with ef:=[]}
def Dd.jk(p:Dw)(D:Dd):Dd:=(if p.cf.quiet=true then D else D.print D.L).pw
def Qzu(c:ag):∀(b:List ag)(a:Dd),a.lp (b++[c])=(a.lp b).print c
 | [],a=>rfl
 |x::b,a=>by simp only[List.cons_append,Dd.lp];exact Qzu c b _
def Em:∀(b:List ag)(a:Dd),∃c,a.lp b={a with out:=c}/\c.size=a.out.size+fz b
 | [],a=>⟨a.out,rfl,by simp[fz]⟩
 |x::b,a=>by
  have⟨c,d,e⟩:=Em b<|a.print x;refine⟨c,by rw[Dd.lp,d];rfl,?_⟩;rw[e];simp only[Dd.print,uh,fz,vw,List.sum_cons];have:gp.size=1:=rfl;omega
def DE.nil{b:Dw}{c:Dd}(a:DE b w c x y):DE b (w.setCell (O b.b 11)<|.slice none 0 0) {c with ef:=[]} (.slice none 0 0) y:=
 ⟨a.row.put 11 (by show 11<18;omega) _,yyc _ _ _ _,mc ((bf.refl _ w).setCell 11 _) a.op a.a2,a.le,by simp[Value.ownBlock],a.a2,by simp[Value.ownBlock]⟩
def DQ.nil{c:Dw}{h a:ae}{e:Dd}{f i g:af}(d:DQ c f h a e i g):DQ c f h (a.setCell (O c.b 11)<|.slice none 0 0) {e with ef:=[]} (.slice none 0 0) g:=
 have b:bf c.b a (a.setCell (O c.b 11)<|.slice none 0 0):=(bf.refl _ a).setCell 11 _
 d.trans ⟨d.1.nil,b.os,b.tape,b.output,yh b.size.symm,λk _ j _ _=>b.block k j,λ_ d=>by simp[Value.ownBlock]at d⟩
def Uj(f:Dw)(a:Dd)(h j:af)(k:ae)(s:DE f k a h j)(v:a.out.size+fz a.ef<=1099511000000):
  Calls prog 93 #[.pointer<|some ⟨f.b,0,none⟩] k λc R=>c=.returned (.tuple #[])/\DQ f h k R a.pw (.slice none 0 0) j:=by
 have C:=J s.q;have e:a.ef.length<=fz a.ef:=by
  have:∀b:List ag,b.length<=fz b:=λb=>by
   induction b with
   |nil=>simp[fz]
   |cons o b d=>simp only[fz,vw,List.sum_cons,xv]at d|-;omega
  exact this _
 have⟨D,Q,c⟩:=yq s.cg;obtain⟨d,b⟩:∃d,d=a.ef.length:=⟨_,rfl⟩;have t:=J b;rw[<-b]at c;have T:d<=1099511000000:=by omega
 have u:=J c;have E:=J v;clear s c e b v;go_in;go_wp21;go_loopw [2] (λo wr=>∃(b:Nat)(e:ag),b<=d/\o=I b/\Y (DQ f h k wr {a with out:=e} h j)/\Y (a.lp (a.ef.take b)={a with out:=e}/\e.size=a.out.size+fz (a.ef.take b))) (λo _=>d+1-(intOf o).toNat)
 .exact⟨0,a.out,by omega,rfl,C,rfl,by simp[fz]⟩
 obtain⟨b,e,U,rfl,i,n⟩:=hrel;have P:=i.1.xc 11;rw[u.out]at P;by_cases p:b<d
 .have F:decide (b<d)=true:=by simpa using p
  have m:b<a.ef.length:=by rw[<-t.out];exact p
  have q:=i.1.cg;rcases El q with⟨_,H⟩|⟨r,S,c,_⟩
  .have g:a.ef.length=0:=H;omega
  have g:=t.symm;rw[u.out]at c;have w:D=some (O r 0):=by injection c
  have V:wr.cell? (O r b)=some (.string a.ef[b]):=by
   have l:wr.ownsRow f.B 9 1 (aa r a.ef.length Q) a.ef.length (sv a.ef):=by
    rw[g];unfold aa;rw[<-w,<-u.out,<-g];exact q
   rw[l.cellAt b<|by omega];simp[sv,m]
  simp only[O]at w;subst w;have L:Y (fz (a.ef.take b)+fz (a.ef.drop b)=fz a.ef):=by rw[Y,<-Qw,yzh]
  have M:Y (fz (a.ef.drop b)=(a.ef[b]).size+1+fz (a.ef.drop<|b+1)):=by
   rw[Y,Dn m];simp only[fz,vw,List.sum_cons]
  have x:Y (a.ef.take (b+1)=a.ef.take b++[a.ef[b]]):=by rw[Y,yzj,dy m];rfl
  have y:Y (fz (a.ef.take<|b+1)=fz (a.ef.take b)+(a.ef[b].size+1)):=by rw[Y,x.out,Qw];simp[fz]
  clear q c g;generalize a.ef[b]=l at*
  have z:e.size+l.size<=1099511000000:=by have:=L.out;have:=M.out;have:=n.2;have:=E.out;omega
  go_wp21;go_call Eo f {a with out:=e} h j l wr i.1 z as c W ⟨rfl,K⟩;have A:=J<|i.trans K;have B:Y (a.lp (a.ef.take<|b+1)={a with out:=e++l++gp}/\(e++l++gp).size=a.out.size+fz (a.ef.take<|b+1)):=by
   refine⟨by rw[x.out,Qzu,n.1];rfl,?_⟩;rw[uh,uh,n.2,y.out];have:gp.size=1:=rfl;omega
  go_wp21;go_roundw
  .exact⟨b+1,_,by omega,by go_num,A,B⟩
  simp[intOf];omega
 have l:b=d:=by omega
 subst l;have q:=i.1.cd 11;have m:Y (DQ f h k (wr.setCell (O f.b 11)<|.slice none 0 0) a.pw (.slice none 0 0) j):=by
  have g:=n.1;rw[t.out,yzc]at g;rw[Y,Dd.pw,g];exact i.nil
 go_wp21;go_returns;exact⟨rfl,m⟩
def Ua(c:Dw)(a:Dd)(d g:af)(f:ae)(j:DE c f a d g)(l:a.out.size+a.L.size+1+fz a.ef<=1099511000000:=by omega):
  Calls prog 94 #[.pointer<|some ⟨c.b,0,none⟩] f λe n=>e=.returned (.tuple #[])/\DQ c d f n (a.jk c) (.slice none 0 0) g:=by
 have o:=j.xc 4;have w:=j.xc 9;have p:Y (∀h i,DQ c d f h i d g->i.out.size+fz i.ef<=1099511000000->a.jk c=i.pw->Calls prog 93 #[.pointer<|some ⟨c.b,0,none⟩] h λe n=>e=.returned (.tuple #[])/\DQ c d f n (a.jk c) (.slice none 0 0) g):=λh i q s t=>by
  go_call Uj c i d g h q.1 s as e r ⟨rfl,b⟩;rw[t];exact⟨rfl,q.trans b⟩
 cases b:c.cf.quiet
 .rw[b]at o;have u:Y (a.jk c=(a.print a.L).pw):=by rw[Y,Dd.jk,b];rfl
  have m:=Eo c a d g a.L f j;have k:(a.print a.L).out.size=a.out.size+a.L.size+1:=by
   show(a.out++a.L++gp).size=_
   rw[uh,uh];rfl
  have v:Y ((a.print a.L).out.size+fz (a.print a.L).ef<=1099511000000):=by rw[Y,k];exact l
  go_in;go_wp21;go_call m;rintro e h ⟨rfl,b⟩;have k:=p h _ b v u;go_wp21;go_call k;rintro e r ⟨rfl,b⟩;have m:=J b;go_wp21;go_returns;exact⟨rfl,m⟩
 rw[b]at o;have k:=p f a j.q (by omega) (by rw[Dd.jk,b];rfl);go_in;go_wp21;go_call k;rintro e r ⟨rfl,b⟩;have m:=J b;go_wp21;go_returns;exact⟨rfl,m⟩
def qm(c:Nat)(D:Dd):ag:=if c=103\/c=120 then D.bt else if c=71 then D.L++gp++D.bt else D.L
def ql(c:Nat)(D:Dd):ag:=if c=104\/c=120 then D.L else if c=72 then D.bt++gp++D.L else D.bt
def Dd.wq(p:Dw)(c:Nat)(D:Dd):Dd:=
 if(qm c D).size<=p.cf.space/\(ql c D).size<=p.cf.space then {D with L:=qm c D,bt:=ql c D} else {D with ck:=4}
def auw(c:Dw)(a:Dd)(e j:af)(b:Nat)(i:ae)(k:DE c i a e j)(S:a.L.size<=1000)(R:a.bt.size<=1000)(Q:b<256):
  Calls prog 144 #[.pointer<|some ⟨c.b,0,none⟩,.int .u8 b] i λr E=>r=.returned (.bool<|decide<|(qm b a).size<=c.cf.space/\(ql b a).size<=c.cf.space)/\DQ c e i E (a.wq c b) e j:=by
 have y:=k.xc 9;have D:=k.xc 10;have z:∀d:ae,(Op.stringOp .add a.L ⟨#[10]⟩).run prog d=.ok (.string<|a.L++gp) d:=λd=>yye (P:=prog) (w:=d) _ _ (by show _+1<=_;omega)
 have A:∀d:ae,(Op.stringOp .add a.bt ⟨#[10]⟩).run prog d=.ok (.string<|a.bt++gp) d:=λd=>yye (P:=prog) (w:=d) _ _ (by show _+1<=_;omega)
 have f:(a.L++gp).size=a.L.size+1:=by rw[uh];rfl
 have g:(a.bt++gp).size=a.bt.size+1:=by rw[uh];rfl
 have B:∀d:ae,(Op.stringOp .add (a.L++gp) a.bt).run prog d=.ok (.string<|a.L++gp++a.bt) d:=λd=>yye (P:=prog) (w:=d) _ _<|by omega
 have C:∀d:ae,(Op.stringOp .add (a.bt++gp) a.L).run prog d=.ok (.string<|a.bt++gp++a.L) d:=λd=>yye (P:=prog) (w:=d) _ _<|by omega
 clear f g;go_in;go_upto_block 0 with fail
 go_cut [5,6] (λK L H=>K=.string (qm b a)/\L=.string (ql b a)/\H=i)
 case first=>
  have o:b=103\/b=104\/b=120\/b=71\/b=72\/(b≠103/\b≠104/\b≠120/\b≠71/\b≠72):=by omega
  rcases o with rfl|rfl|rfl|rfl|rfl|⟨f,g,h,l,m⟩
  all_goals try (go_wp21;go_meet;exact⟨rfl,rfl,rfl⟩)
  have u:((b:Int)==103)=false:=hh;have v:((b:Int)==104)=false:=hh;have p:((b:Int)==120)=false:=hh;have q:((b:Int)==71)=false:=hh;have s:((b:Int)==72)=false:=hh;have n:Y (qm b a=a.L/\ql b a=a.bt):=by
   rw[Y,qm,ql];simp[f,g,h,l,m]
  clear f g h l m;go_wp21;go_meet;exact⟨by rw[n.1],by rw[n.2],rfl⟩
 obtain⟨rfl,rfl,f⟩:=hcut;have w:=f.symm;subst w;clear f z A B C;have h:a.wq c b=(if(qm b a).size<=c.cf.space/\(ql b a).size<=c.cf.space then {a with L:=qm b a,bt:=ql b a} else {a with ck:=4}):=rfl;obtain⟨f,l⟩:∃f,f=qm b a:=⟨_,rfl⟩;obtain⟨g,n⟩:∃g,g=ql b a:=⟨_,rfl⟩;have m:Y (f=qm b a/\g=ql b a):=⟨l,n⟩;rw[<-l,<-n]at h|-;have s:=J h;clear l n h;have l:=Xk c a e j f i k;go_wp21;go_call l;rintro r F ⟨rfl,h⟩;have x:=J h;have n:=Xk c _ e j g F h.1;clear l h;go_wp21;go_call n;rintro r q ⟨rfl,h⟩;have t:=J<|x.trans h;clear n h;by_cases h:f.size<=c.cf.space
 .by_cases l:g.size<=c.cf.space
  .have u:decide (f.size<=c.cf.space)=true:=by simpa using h
   have v:decide (g.size<=c.cf.space)=true:=by simpa using l
   have n:DQ c e i q a e j:=by
    have:=t;rwa[Dd.room,Dd.room,N,N]at this
   have y:=n.1.xc 9;have D:=n.1.xc 10;have P:=n.1.cd 9;have M:=n.1.cd 10;have o:Y (DQ c e i ((q.setCell (O c.b 9)<|.string f).setCell (O c.b 10)<|.string g) (a.wq c b) e j):=by
    rw[Y,s.out,G ⟨h,l⟩];exact(n.L f).bt g
   have p:Y (decide ((qm b a).size<=c.cf.space/\(ql b a).size<=c.cf.space)=true):=by rw[Y,<-m.1,<-m.2];simp[h,l]
   clear n h l;go_wp21;go_ret;exact⟨by rw[p.out];rfl,o⟩
  have u:decide (f.size<=c.cf.space)=true:=by simpa using h
  have v:decide (g.size<=c.cf.space)=false:=by simpa using l
  have o:Y (DQ c e i q (a.wq c b) e j):=by
   have:=t;rw[Y,s.out,N<|λk=>l k.2];rwa[Dd.room,G,show a.room c f=a from N (by omega)]at this
  have p:Y (decide ((qm b a).size<=c.cf.space/\(ql b a).size<=c.cf.space)=false):=by rw[Y,<-m.1,<-m.2];simp;omega
  clear h l;go_wp21;go_ret;exact⟨by rw[p.out];rfl,o⟩
 have u:decide (f.size<=c.cf.space)=false:=by simpa using h
 have o:Y (DQ c e i q (a.wq c b) e j):=by
  have:=t;rw[Y,s.out,N<|λk=>h k.1];rw[show a.room c f={a with ck:=4} from G (by omega),Dd.room]at this;split at this<;>exact this
 have p:Y (decide ((qm b a).size<=c.cf.space/\(ql b a).size<=c.cf.space)=false):=by rw[Y,<-m.1,<-m.2];simp;omega
 clear h;go_wp21;go_ret;exact⟨by rw[p.out];rfl,o⟩
structure Dc where
 di:Nat
 fst:Wh
 snd:Wh
 neg:Bool
 cn:Nat
 text:ag
 L:ag
 all:Bool
 kr:Bool
 num:Nat
 one:ag
 two:ag
def ig(c:Dc)(ta tb tt:af):List af:=
 [.int .u8 c.di,I c.fst.sort,I c.fst.num,ta,I c.snd.sort,I c.snd.num,tb,.bool c.neg,I c.cn,.string c.text,tt,.bool c.all,.bool c.kr,I c.num,.string c.one,.string c.two]
def Dd.kj(c:Dc)(D:Dd):Dd×Int:=
 let D1:=if c.di=99 then D.print c.text else D
 if c.di=68/\ci D1.L 0<D1.L.size then({D1 with L:=D1.L.extract (ci D1.L 0+1) D1.L.size},-3)else(D1,-2)
def anp(g:Dw)(a:Dd)(k q t u v:af)(b:Dc)(c:ae)(z:DE g c a k q)(L:a.L.size<=1000)(D:a.out.size+b.text.size<=1099511000000)(M:b.di<256):
  Calls prog 136 #[.pointer<|some ⟨g.b,0,none⟩,.agg (ig b t u v).toArray] c λs K=>s=.returned (.int .i64 (a.kj b).2)/\DQ g k c K (a.kj b).1 k q:=by
 go_in;by_cases i:b.di=99
 .have E:((b.di:Int)==99)=true:=by simp[i]
  have h:Y (a.kj b=(a.print b.text,-2)):=by
   rw[Y,Dd.kj];simp[i]
  go_wp2_with (refine ti 3 rfl rfl 177 (.tmp 1) rfl (ig b t u v) rfl ?_;intro l B d n;have m:=d.xc 0;have w:=d.xc 9;have j:=J<|z.q.below n;have x:=j.1.xc 9;clear d n);have f:=Eo g a k q b.text l j.1 D;go_call f;rintro s p ⟨rfl,e⟩;have y:=(ac 0<|e.keep (g:=c.heap.size) z ah).trans m;have C:=J<|j.trans e;have F:p.cell? (O g.b 9)=some (.string a.L):=e.1.xc 9;clear e m w x f;have o:=Tj a.L p;go_wp21;go_call o;rintro s r ⟨rfl,e⟩;have H:=(ac 0<|e.block _<|dw p _ y).trans y;have f:=J<|C.below e;clear e o y F;go_wp21;go_ret;rw[h.out];exact⟨rfl,f⟩
 have E:((b.di:Int)==99)=false:=hh;go_wp2_with (refine ti 3 rfl rfl 177 (.tmp 1) rfl (ig b t u v) rfl ?_;intro l B d n;have m:=d.xc 0;have w:=d.xc 9;have j:=J<|z.q.below n;have x:=j.1.xc 9;clear d n);have o:=Tj a.L l;go_call o;rintro s r ⟨rfl,e⟩;have H:=(ac 0<|e.block _<|dw l _ m).trans m;have f:=J<|j.below e;have n:=f.1.xc 9;have p:=f.1.cd 9;clear e o m w x;by_cases hd:b.di=68
 .have A:((b.di:Int)==68)=true:=by simp[hd]
  by_cases e:ci a.L 0<a.L.size
  .have h:Y (a.kj b=({a with L:=a.L.extract (ci a.L 0+1) a.L.size},-3)):=by
    rw[Y,Dd.kj];simp[i,hd,e]
   have d:Dz a.L=(ci a.L 0:Int):=G e;have o:decide ((ci a.L 0:Int)<0)=false:=by simp
   rw[d];have m:Y (DQ g k c (r.setCell (O g.b 9)<|.string<|a.L.extract (ci a.L 0+1) a.L.size) {a with L:=a.L.extract (ci a.L 0+1) a.L.size} k q):=f.L _;generalize ci a.L 0=w at*
   clear d;go_wp21;go_ret;rw[h.out];exact⟨rfl,m⟩
  have h:Y (a.kj b=(a,-2)):=by
   rw[Y,Dd.kj];simp[i,hd,e]
  have d:Dz a.L=-1:=N e;rw[d];go_wp21;go_ret;rw[h.out];exact⟨rfl,f⟩
 have h:Y (a.kj b=(a,-2)):=by
  rw[Y,Dd.kj];simp[i,hd]
 go_wp21;go_ret;rw[h.out];exact⟨rfl,f⟩
def Dd.next(p:Dw)(join:Bool)(D:Dd):Dd×Int:=
 if D.yg=true then(D.last,-4)
 else if D.zm=true then({D.jk p with ck:=1},-4)
 else
  let D1:=if join=true then D else D.jk p
  let t:=if join=true then D.L++gp else⟨#[]⟩
  (D1.oe p t,if D1.rm p t=true then-1 else-4)
def ard(b:Dw)(a:Dd)(e f:af)(c:Bool)(E:Nat)(q:ae)(Q:((E:Int)==110)= !c)(F:DE b q a e f)(R:a.L.size<=900)(y:a.out.size+a.L.size+1+fz a.ef<=1099511000000)(M:a.ji=false)(z:a.rest.size<=1099511000000)(A:a.number<=1099511000000):
  Calls prog 137 #[.pointer<|some ⟨b.b,0,none⟩,.int .u8 E] q λi w=>i=.returned (.int .i64 (a.next b c).2)/\∃K,DQ b e q w (a.next b c).1 K f:=by
 have g:=Vi b a e f q F;have B:Y (∀d,DE b d a e f->Calls prog 94 #[.pointer<|some ⟨b.b,0,none⟩] d λi w=>i=.returned (.tuple #[])/\DQ b e d w (a.jk b) (.slice none 0 0) f):=λd p=>Ua b a e f d p y
 have H:Y ((a.jk b).rest=a.rest/\(a.jk b).number=a.number):=by
  have:=Em;rw[Y,Dd.jk,Dd.pw];split
  .have⟨h,p,_⟩:=Em a.ef a;rw[p];exact⟨rfl,rfl⟩
  have⟨h,p,_⟩:=Em (a.print a.L).ef<|a.print a.L;rw[p];exact⟨rfl,rfl⟩
 clear F y;go_in;go_wp21;go_call g;rintro i d ⟨rfl,h⟩;have t:=J h;clear g h;cases r:a.yg
 .have k:a.last=a:=by rw[Dd.last,r];rfl
  have g:Y (DQ b e q d a e f):=by rw[Y,<-k];exact t
  have x:=g.1.xc 17;have S:=g.1.xc 9;rw[M]at x;clear k t;cases C:a.zm
  .have j:Y (a.next b c=((if c=true then a else a.jk b).oe b<|if c=true then a.L++gp else⟨#[]⟩,if(if c=true then a else a.jk b).rm b (if c=true then a.L++gp else⟨#[]⟩)=true then-1 else-4)):=by rw[Y,Dd.next,r,C];rfl
   have T:∀s:ae,(Op.stringOp .add a.L ⟨#[10]⟩).run prog s=.ok (.string<|a.L++gp) s:=λs=>yye (P:=prog) (w:=s) _ _ (by show _+1<=_;omega)
   have L:(a.L++gp).size<=1000:=by rw[uh];show _+1<=_;omega
   cases c
   .rw[N<|by decide,N<|by decide]at j;have l:=B d g.1;go_wp21;go_call l;rintro i D ⟨rfl,h⟩;have v:=J<|g.trans h;have m:=Vn b (a.jk b) (.slice none 0 0) f ⟨#[]⟩ false D h.1 (by rw[H.1];exact z) (by show 0<=_;omega) (by rw[H.2];exact A);clear h l;generalize(a.jk b).oe b ⟨#[]⟩=P at*
    generalize(a.jk b).rm b ⟨#[]⟩=u at*
    go_wp21;go_call m;rintro i w3 ⟨rfl,n⟩;have o:=J<|v.trans n;clear n m;cases u
    all_goals
     go_wp21;go_ret;rw[j.out];exact⟨rfl,_,o⟩
   rw[G rfl,G rfl]at j;have m:=Vn b a e f (a.L++gp) false d g.1 z L A;generalize a.oe b (a.L++gp)=P at*
   generalize a.rm b (a.L++gp)=u at*
   go_wp21;go_call m;rintro i w3 ⟨rfl,n⟩;have o:=J<|g.trans n;clear n m;cases u
   all_goals
    go_wp21;go_ret;rw[j.out];exact⟨rfl,_,o⟩
  have j:Y (a.next b c=({a.jk b with ck:=1},-4)):=by rw[Y,Dd.next,r,C];rfl
  have l:=B d g.1;go_wp21;go_call l;rintro i D ⟨rfl,h⟩;have v:=J<|g.trans h;have m:=h.1.xc 16;have n:=h.1.cd 16;have o:=J<|v.ck 1;clear h l;go_wp21;go_ret;rw[j.out];exact⟨rfl,_,o⟩
 have j:Y (a.next b c=(a.last,-4)):=by rw[Y,Dd.next,r];rfl
 have k:a.last={a with ji:=true}:=by rw[Dd.last,r];rfl
 have x:d.cell? (O b.b 17)=some (.bool true):=by
  have:=t.1;rw[k]at this;exact this.xc 17
 clear k;go_wp21;go_ret;rw[j.out];exact⟨rfl,_,t⟩
def Dd.rr(mf:Mf)(x:Wh)(D:Dd):Bool:=
 if x.sort=1 then decide (x.num=D.number)else if x.sort=2 then D.zm else if x.sort=3 then vk mf x.L D.L else true
def Dd.lu(x:Wh)(D:Dd):Dd:=if x.sort=2 then D.last else D
def DQ.part{h:Dw}{i j:Dd}(b:DQ h x w u i x y)(g:DE h w j x y)(c:Below a u v)(f:w.heap.size<=a:=by omega):DQ h x w v i x y:=
 ⟨⟨b.1.row.cw<|c.block _<|ew g.lt f,da b.1.cg λd e=>c.block d<|ew (g.cg.lt d e).2 f,da b.1.op λd e=>c.block d<|ew (g.op.lt d e).2 f,b.1.le,b.1.a1,b.1.a2,b.1.a3⟩,
  c.os.trans b.2.os,c.tape.trans b.2.tape,c.output.trans b.2.output,bq b.2.size c.size,λd e k l m=>(c.block d<|ew e f).trans<|b.2.block d e k l m,b.2.rp⟩
def Tz{b:Option (List<|Int×Int)}{d:Ending}(e:Hl w a b d):∃f c,d=.returned (.tuple #[f,.bool c])/\c=b.isSome:=by
 cases b with
 |none=>exact⟨_,_,e,rfl⟩
 |some i=>
  have⟨j,h,g,_⟩:=e;exact⟨_,_,g,rfl⟩
def au0{n:Mf}(E:fj n)(g:Dw)(b:Dd)(x y i:af)(a:Wh)(h:ae)(m:DE g h b x y)(z:a.sort<=3)(F:a.sort=3->ya a.L/\wa h g.B i a.L)(Q:b.L.size<=80)(a0:a.num<=10000):
  Calls prog 134 #[.pointer<|some ⟨g.b,0,none⟩,.agg #[.int .i64 a.sort,.int .i64 a.num,i]] h λe S=>e=.returned (.bool<|b.rr n a)/\DQ g x h S (b.lu a) x y:=by
 have L:=J E;have D:=J F;clear E F;go_in;have M:a.sort=0\/a.sort=1\/a.sort=2\/a.sort=3:=by omega
 rcases M with e|e|e|e
 .have k:Y (b.rr n a=true/\b.lu a=b):=by rw[Y,Dd.rr,Dd.lu,e];exact⟨rfl,rfl⟩
  rw[e];go_wp2_with (refine ti 3 rfl rfl 175 (.tmp 1) rfl [I ((0:Nat):Int), I a.num,i] rfl ?_;intro l v c f;have r:=c.xc 0;have t:=c.xc 1;have o:=c.xc 2;have d:=J<|m.q.below f;have u:=d.1.xc 8;have p:=d.1.xc 9;clear c f);go_ret;rw[k.1,k.2];exact⟨rfl,d⟩
 .have k:Y (b.rr n a=decide (a.num=b.number)/\b.lu a=b):=by rw[Y,Dd.rr,Dd.lu,e];exact⟨rfl,rfl⟩
  rw[e];have w:Y (∀q:Bool,q=((a.num:Int)==b.number)->q=decide (a.num=b.number)):=λq A=>by
   rw[A];by_cases z:a.num=b.number
   .simp[z]
   rw[hh<|by omega,wu z]
  go_wp2_with (refine ti 3 rfl rfl 175 (.tmp 1) rfl [I ((1:Nat):Int), I a.num,i] rfl ?_;intro l v c f;have r:=c.xc 0;have t:=c.xc 1;have o:=c.xc 2;have d:=J<|m.q.below f;have u:=d.1.xc 8;have p:=d.1.xc 9;clear c f);go_quiet (fail);go_wp21;go_ret;rw[k.1,k.2];exact⟨by rw[<-w.out _ rfl];rfl,d.drewN _⟩
 .have k:Y (b.rr n a=b.zm/\b.lu a=b.last):=by rw[Y,Dd.rr,Dd.lu,e];exact⟨rfl,rfl⟩
  rw[e];go_wp2_with (refine ti 3 rfl rfl 175 (.tmp 1) rfl [I ((2:Nat):Int), I a.num,i] rfl ?_;intro l v c f;have r:=c.xc 0;have t:=c.xc 1;have o:=c.xc 2;have d:=J<|m.q.below f;have u:=d.1.xc 8;have p:=d.1.xc 9;clear c f);have A:=Vi g b x y l d.1;refine A.mono ?_;rintro e q ⟨rfl,B⟩;have w:=J<|d.trans B;clear B A;go_wp21;go_ret;rw[k.1,k.2];exact⟨rfl,w⟩
 have k:Y (b.rr n a=(n a.L b.L 0).isSome/\b.lu a=b):=by rw[Y,Dd.rr,Dd.lu,e];exact⟨rfl,rfl⟩
 obtain⟨A,B⟩:=D e;have C:=J B;rw[e];clear B D;go_wp2_with (refine ti 3 rfl rfl 175 (.tmp 1) rfl [I ((3:Nat):Int), I a.num,i] rfl ?_;intro l v c f;have r:=c.xc 0;have t:=c.xc 1;have o:=c.xc 2;have d:=J<|m.q.below f;have u:=d.1.xc 8;have p:=d.1.xc 9;clear c);have T:=bq m.le<|yyh m.lt;have V:=m.lt;have c:l.drew.cell? (O h.heap.size 2)=some i/\l.drew.cell? (O g.b 9)=some (.string b.L):=⟨o,p⟩;have H:Y (wa l.drew g.B i a.L):=C.up ⟨f.os,f.tape,f.output,f.size,λR Z=>f.block R<|by omega⟩;have B:=J<|d.drewN 1;have W:l.drew.heap.size=h.heap.size+1:=v;clear r t o u p C f d;go_region_held_law (λt=>t.cell? (O h.heap.size 2)=some i/\t.cell? (O g.b 9)=some (.string b.L)) (first|exact c|exact d|exact o)
  (first
  |(go_at_call 146;(go_call aeg a.L b.L i g.B l.drew A H (by omega) Q as e q ⟨P,rfl,hf,j⟩;have w:=J<|B.below j;have p:=J hf;have d:q.cell? (O h.heap.size 2)=some i/\q.cell? (O g.b 9)=some (.string b.L):=⟨(j.cell (p:=O h.heap.size 2)<|by show h.heap.size<_;omega).trans c.1,(j.cell (p:=O g.b 9)<|by show g.b<_;omega).trans c.2⟩;have X:=j.size;clear hf j))
  |(go_at_call 147;(go_call Ub L a.L b.L l.drew.heap.size P 0 true q A p (ey _)as e U ⟨s,_,K⟩;have o:U.cell? (O h.heap.size 2)=some i/\U.cell? (O g.b 9)=some (.string b.L):=⟨(s.cell (p:=O h.heap.size 2)<|by show h.heap.size<_;omega).trans d.1,(s.cell (p:=O g.b 9)<|by show g.b<_;omega).trans d.2⟩;obtain⟨u,f,rfl,r⟩:∃u f,e=.returned (.tuple #[u,.bool f])/\f=(n a.L b.L 0).isSome:=Tz K;have C:=J r;clear K r)))
 have f:=J (w.part m s<|by omega);clear c d o B H p w s;go_wp21;go_ret;rw[k.1,k.2,<-C.out];exact⟨rfl,f⟩
def Fy(b:Nat)(a:ae):∀n,Below b a (a.drewN n)
 |0=>bp _ _
 |n+1=>(Fy b a n).trans (c:=(a.drewN n).drew) ⟨rfl,rfl,rfl,ah,λ_ _=>rfl⟩
def aaw(a:decide (s=t)=false):(s.toList==t.toList)=false:=by
 rcases df (s.toList==t.toList)with e|e
 .exfalso;rw[ra,yyn,yyn]at e;have:s=t:=va<|yzd.1 e;simp[this]at a
 exact e
def ints_at(c:g[a]?=some b):(ints g)[a]?=some (I b):=by simp[ints,c]
def aly(g:ag)(f:ae)(aP:g.size<=maxLen):
  Calls prog 37 #[.string g] f λd aX=>∃t v:Int,d=.returned (.tuple #[.int .i64 t,.int .i64 v])/\Fk g t v/\Below f.heap.size f aX:=by
 unfold maxLen at aP;by_cases aG:400<g.size
 .go_in;go_wp21;go_ret2;exact⟨1,0,rfl,.inl ⟨aG,rfl,rfl⟩,bp _ _⟩
 have z:g.size<=400:=by omega
 go_in;go_wp21;go_loopw [5] (λi wr=>∃(a:Nat)(b:Sc),a<=g.size/\i=I a/\Y (ed g a=some b)/\Y (ez wr f.heap.size b)/\Y (Below f.heap.size f wr)) (λi _=>g.size-(intOf i).toNat)
 .exact⟨0,yu,ey _,rfl,rfl,ez.new f,(bp _ _).alloc ah _⟩
 obtain⟨a,b,k,rfl,s,o,r⟩:=hrel;by_cases w:a<g.size
 .have e:=J<|Cx g a w;go_wp21;go_call Qo f.heap.size b (g[a]'w).toNat a _ o.out (Ue a b s.out) (yxj _) (by omega)as d a7 ⟨m,rfl,u,hd⟩;have A:=J<|r.trans u;clear u;rcases hd with⟨j,c,rfl,h⟩|⟨c,rfl⟩
  .have l:Y (ed g (a+1)=some j):=by rw[Y,Yj s.out,<-e.out];exact c
   have a2:=J h;clear c h;go_wp21;go_roundw
   .exact⟨a+1,j,by omega,by go_num,l,a2,A⟩
   simp[intOf];omega
  have a0:Y (jt g a):=⟨b,s,k,λ_=>by rw[<-e.out];exact c,λd=>by omega⟩;clear c;go_wp21;go_ret2;exact⟨3,a,rfl,.inr<|.inl ⟨z,rfl,a,rfl,a0⟩,A⟩
 have aK:a=g.size:=by omega
 subst aK;have R:=Ue _ b s;have aZ:=R.pl;have b0:=R.lb;go_wp21;go_call avy f.heap.size b _ o.out (R.sm<|by omega)as d a7 ⟨rfl,aE,W⟩;have a2:Y (ez a7 f.heap.size b):=by rw[W];exact o.drewN aE
 have A:Y (Below f.heap.size f a7):=by rw[W];exact r.trans<|Fy _ _ aE
 clear W o r;rcases df (jj b)with X|X
 .have a1:Y (Ng g b):=⟨s,X⟩;rw[X];clear X;go_wp21;go_loopw [8] (λi wr=>∃(c:Nat),c<=b.db.length/\i=I c/\Y (∀a j:Nat,a<c->b.db[a]?=some j->j<=40)/\Y (ez wr f.heap.size b)/\Y (Below f.heap.size f wr)) (λi _=>b.db.length-(intOf i).toNat)
  .exact⟨0,ey _,rfl,λa j k=>by omega,a2,A⟩
  obtain⟨c,aO,rfl,C,o,r⟩:=hrel;have⟨T,S,bv,l,e⟩:=o.out;obtain⟨P,D,rfl⟩:∃P D,S=.slice P b.db.length D:=by
   rcases e.o2.2 with⟨d,Q⟩|⟨Z,aN,_,d,_⟩
   .exact⟨none,0,by rw[d,Q]⟩
   exact⟨_,_,d⟩
  have aH:=l.cell<|Lx b T _ bv;by_cases w:c<b.db.length
  .have a4:=R.pe;have⟨Z,a8,d,x,U⟩:=e.o2.form (by omega);simp only[Value.slice.injEq]at d;obtain⟨rfl,_,rfl⟩:=d;obtain⟨a6,V,rfl,n,B⟩:=e.o1.form (by omega);have a3:=l.cell<|Xt b _ _ bv;obtain⟨j,q⟩:∃j,b.db[c]?=some j:=⟨_,dy w⟩;obtain⟨h,p⟩:∃h,b.fp[c]?=some h:=⟨_,dy (show c<b.fp.length by omega)⟩;have a9:wr.cell? (O Z c)=some (I j):=by rw[e.o2.cellAt c<|by omega];exact ints_at q
   have a5:wr.cell? (O a6 c)=some (I h):=by rw[e.o1.cellAt c<|by omega];exact ints_at p
   have aS:(0:Int)<=c:=by omega
   have aT:(c:Int)<b.db.length:=by omega
   have aU:(c:Int)<b.fp.length:=by omega
   clear l e n B x U;by_cases E:40<j
   .have M:decide ((j:Int)>40)=true:=by simp;omega
    have B:Y (Fc b h):=⟨c,p,⟨j,q,E⟩,λF H k n=>C.out F H k n⟩;clear q p C;go_wp21;go_region;go_wp21;go_ret2;exact⟨2,h,rfl,.inr<|.inr ⟨z,b,a1,.inl ⟨rfl,h,rfl,B⟩⟩,r.trans<|Fy _ _ 1⟩
   have M:decide ((j:Int)>40)=false:=by simp;omega
   have F:Y (∀a B:Nat,a<c+1->b.db[a]?=some B->B<=40):=λa B k n=>by
    by_cases d:a=c
    .subst d;rw[q]at n;cases n;omega
    exact C a B (by omega) n
   clear q p C E;go_wp21;go_roundw
   .exact⟨c+1,by omega,by go_num,F,o,r⟩
   simp[intOf];omega
  have aA:Y (Mz b):=λa j k=>C a j (by have:=(jy.1 k).1;omega) k
  clear l e;go_wp21;clear aH;go_loopw [9] (λi wr=>∃(c:Nat),c<=b.bu.length/\i=I c/\Y (∀a:Nat,a<c->¬vd b a)/\Y (ez wr f.heap.size b)/\Y (Below f.heap.size f wr)) (λi _=>b.bu.length-(intOf i).toNat)
  .exact⟨0,ey _,rfl,λa k=>by omega,o,r⟩
  obtain⟨c,aO,rfl,V,a3,a4⟩:=hrel;clear o r;have⟨T,S,bv,l,e⟩:=a3.out;obtain⟨P,D,rfl⟩:∃P D,bv=.slice P b.bu.length D:=by
   rcases e.o3.2 with⟨d,Q⟩|⟨Z,aN,_,d,_⟩
   .exact⟨none,0,by rw[d,Q]⟩
   exact⟨_,_,d⟩
  have a9:=l.cell<|Jd b T S _;by_cases w:c<b.bu.length
  .have⟨Z,a8,d,x,U⟩:=e.o3.form (by omega);simp only[Value.slice.injEq]at d;obtain⟨rfl,_,rfl⟩:=d;obtain⟨m,n⟩:∃m,b.bu[c]?=some m:=⟨_,dy w⟩;have E:=J n;have aL:=J<|ak3 R.nc n;clear l e n;go_wp21;clear a9 x U;go_loopw [10,11,12] (λaW aV i wr=>∃(a:Nat),a<=b.bu.length/\i=I a/\aW=.bool (Au b.bu c a)/\aV=.bool (zr b.bu c a)/\Y (ez wr f.heap.size b)/\Y (Below f.heap.size f wr)) (λ_ _ i _=>b.bu.length-(intOf i).toNat)
   .exact⟨0,ey _,rfl,rfl,rfl,a3,a4⟩
   obtain⟨a,b1,rfl,rfl,rfl,F,H⟩:=hrel;clear a3 a4;have⟨T,S,bv,l,e⟩:=F.out;obtain⟨b2,a8,rfl,x,U⟩:=e.o3.form (by omega);have a9:=l.cell<|Jd b T S _;have aC:=e.wj E 0 _ rfl;have b3:=e.wj E 1 _ rfl;have aQ:=e.wj E 2 _ rfl;rw[yzp]at aC;have aS:(0:Int)<=c:=by omega
   have aT:(c:Int)<b.bu.length:=by omega
   by_cases aM:a<b.bu.length
   .obtain⟨h,p⟩:∃h,b.bu[a]?=some h:=⟨_,dy aM⟩;have aD:=e.wj p 0 _ rfl;have aR:=e.wj p 2 _ rfl;rw[yzp]at aD;have aU:(0:Int)<=a:=by omega
    have b4:(a:Int)<b.bu.length:=by omega
    have a5:Y (Di b.bu c a=(h.cn&&decide (str h.name=str m.name))):=by rw[Y,Di,p,E.out]
    have n:Y (Au b.bu c (a+1)=(Au b.bu c a||((h.cn&&decide (str h.name=str m.name))&&decide (a<c)))):=by rw[Y,Au,a5.out]
    have q:Y (zr b.bu c (a+1)=(zr b.bu c a||(h.cn&&decide (str h.name=str m.name)))):=by rw[Y,zr,a5.out]
    generalize Au b.bu c a=M at n|-;generalize zr b.bu c a=B at q|-;generalize str h.name=aF at aD n q;generalize str m.name=nq at aC n q;generalize h.cn=a6 at aR n q;clear l e p a5 x;rcases df (decide (a<c))with aB|aB
    all_goals have aI:decide ((a:Int)<c)=decide (a<c):=by simp
    all_goals rw[aB]at aI n
    all_goals (
     rcases df a6 with a5|a5
     .subst a5;rcases df (decide (aF=nq))with y|y
      .rw[y]at n q;have aJ:aF=nq:=by simpa using y
       subst aJ;clear y;rcases df M with K|K<;>rcases df B with L|L<;>subst K<;>subst L
       all_goals (
        go_wp21;go_region;go_wp21;go_roundw
        .exact⟨a+1,by omega,by go_num,by rw[n.out];rfl,by rw[q.out];rfl,F.drew,H.trans<|Fy _ _ 1⟩
        simp[intOf];omega)
      have aY:=aaw y;rw[y]at n q;rcases df M with K|K<;>rcases df B with L|L<;>subst K<;>subst L
      all_goals (
       go_wp21;go_region;go_wp21;go_roundw
       .exact⟨a+1,by omega,by go_num,by rw[n.out];rfl,by rw[q.out];rfl,F.drew,H.trans<|Fy _ _ 1⟩
       simp[intOf];omega)
     subst a5;rcases df M with K|K<;>rcases df B with L|L<;>subst K<;>subst L
     all_goals (
      go_wp21;go_region;go_wp21;go_roundw
      .exact⟨a+1,by omega,by go_num,by rw[n.out];rfl,by rw[q.out];rfl,F.drew,H.trans<|Fy _ _ 1⟩
      simp[intOf];omega))
   have aD:a=b.bu.length:=by omega
   subst aD;have n:=aL;generalize Au b.bu c b.bu.length=M at n|-;generalize zr b.bu c b.bu.length=B at n|-;have aF:Y (∀t v:Int,vd b c->t=4->v=m.H->Fk g t v):=λt v u aI Q=> .inr<|.inr ⟨z,b,a1,.inr<|.inl ⟨aA,aI,c,m,E,Q,u,V⟩⟩
   have aB:Y (¬vd b c->∀a:Nat,a<c+1->¬vd b a):=λu a k=>by
    by_cases d:a=c
    .subst d;exact u
    exact V a<|by omega
   generalize m.cn=aJ at aQ n;clear l e x;rcases df aJ with a5|a5<;>rcases df M with K|K<;>rcases df B with L|L<;>subst a5<;>subst K<;>subst L
   all_goals (
    simp only[Bool.and_true,Bool.and_false,Bool.true_and,Bool.false_and,Bool.or_true,yzs,Bool.true_or,Bool.false_or,Bool.not_true,Bool.not_false,iff_true,iff_false,Ax]at n;have q:Y _:=n;clear n;go_wp21
    first
     |(go_region
       go_wp21;go_ret2;exact⟨4,m.H,rfl,aF _ _ q rfl rfl,H.trans<|Fy _ _ 1⟩)
     |(go_roundw
       case rel=>exact⟨c+1,by omega,by go_num,aB q,F,H⟩
       simp[intOf];omega))
  have n:Y (∀a,¬vd b a):=λa k=>by
   by_cases d:a<c
   .exact V a d k
   have⟨B,q,_⟩:=k;have:=(jy.1 q).1;omega
  clear l e V;go_wp21;go_ret2;exact⟨0,0,rfl,.inr<|.inr ⟨z,b,a1,.inr<|.inr ⟨aA,rfl,rfl,n⟩⟩,a4⟩
 have a0:Y (jt g g.size):=⟨b,s,ah,λc=>cb c<|Nat.lt_irrefl _,λ_=>X⟩;rw[X];clear X;go_wp21;go_ret2;exact⟨3,g.size,rfl,.inr<|.inl ⟨z,rfl,g.size,rfl,a0⟩,A⟩
def iv(l:List Nat):List af:=l.map λ(n:Nat)=>I n
structure Hq(w:ae)(rb n:Nat)(ns:List ag)(gs:List Nat):Prop where
 ls:∃ao cap,w.cell? (O rb 2)=some (.slice ao n cap)
 nm:∃v,w.cell? (O rb 3)=some v/\w.ownsRow 0 9 1 v ns.length (sv ns)
 gl:∃v,w.cell? (O rb 4)=some v/\w.ownsRow 0 3 1 v gs.length (iv gs)
 len:gs.length=ns.length
 ye:ns.length<=1000
def goalF(n:Nat)(t:ag):List ag->List Nat->Nat
 |a::r,g::q=>if a=t then g else goalF n t r q
 |_,_=>n
def ao9(c:List ag)(b:List Nat)(a:Nat)(e:a<c.length)(d:a<b.length):goalF i S (c.drop a) (b.drop a)=if c[a]=S then b[a] else goalF i S (c.drop<|a+1) (b.drop<|a+1):=by
 rw[Dn e,Dn d,goalF]
def ac8(c:List ag)(d:List Nat)(h:ag)(f:ae)(M:Hq f i j c d)(R:j<=1000):
  Calls prog 141 #[.pointer<|some ⟨i,0,none⟩,.string h] f λg P=>g=.returned (.int .i64 (goalF j h c d:Int))/\Below f.heap.size f P:=by
 have⟨⟨S,x,T⟩,⟨U,V,l⟩,⟨W,X,m⟩,e,o⟩:=M;obtain⟨b,a⟩:∃b,b=c.length:=⟨_,rfl⟩;have s:Y (c.length=b/\d.length=b):=⟨a.symm,by rw[e,a]⟩;have⟨t,B,u⟩:=yq l;have⟨v,C,w⟩:=yq m;rw[<-a]at u;rw[e,<-a]at w;subst u w;have y:Y (f.ownsRow 0 9 1 (.slice t b B) b<|sv c):=by rw[Y];rw[a]at l|-;exact l
 have z:Y (f.ownsRow 0 3 1 (.slice v b C) b<|iv d):=by rw[Y];rw[e,<-a]at m;exact m
 have Q:b<=1000:=by omega
 obtain⟨k,n⟩:∃k,k=goalF j h c d:=⟨_,rfl⟩;rw[<-n];have D:=J n;clear l m e o a n;go_in;go_wp21;go_loop [5] (λr=>∃(a:Nat),a<=b/\r=I a/\Y (k=goalF j h (c.drop a) (d.drop a))) (λr=>b+1-(intOf r).toNat)
 .exact⟨0,by omega,rfl,D⟩
 obtain⟨a,Z,rfl,q⟩:=hrel;by_cases A:a<b
 .have n:a<c.length:=by rw[s.1];exact A
  have o:a<d.length:=by rw[s.2];exact A
  have p:=ao9 j h c d a n o;obtain⟨E,rfl⟩:∃e,t=some (O e 0):=by
   rcases El y with⟨g,F⟩|⟨e,x,g,_⟩
   .omega
   exact⟨e,by injection g⟩
  obtain⟨H,rfl⟩:∃e,v=some (O e 0):=by
   rcases El z with⟨g,F⟩|⟨e,x,g,_⟩
   .omega
   exact⟨e,by injection g⟩
  have K:f.cell? (O E a)=some (.string c[a]):=by rw[y.cellAt a<|by omega];simp[sv,n]
  have L:f.cell? (O H a)=some (I d[a]):=by rw[z.cellAt a<|by omega];simp[iv,o]
  have a0:(a:Int)<b:=by omega
  by_cases l:c[a]=h
  .have m:Y (k=d[a]):=by rw[Y,q.out,p,G l]
   rw[l]at K;clear p l;generalize d[a]=e at*
   go_wp2;go_ret;exact⟨by rw[m.out];rfl,bp _ _⟩
  have a1:=aaw (by simpa using l);have m:Y (k=goalF j h (c.drop<|a+1) (d.drop<|a+1)):=by rw[Y,q.out,p,N l]
  generalize c[a]=a2 at*
  go_wp2;go_round
  .exact⟨a+1,by omega,by go_num,m⟩
  simp[intOf];omega
 have m:Y (k=j):=by rw[Y,q.out,yym<|by rw[s.1];omega];rfl
 go_wp2;go_ret;exact⟨by rw[m.out];rfl,bp _ _⟩
def Fu(w:ae)(B:Nat)(tv:af)(x:Wh):Prop:=x.sort<=3/\x.num<=10000/\(x.sort=3->ya x.L/\wa w B tv x.L)
structure xf(w:ae)(B:Nat)(c:Dc)(ta tb tt:af):Prop where
 one:ta.oneCell'=true/\tb.oneCell'=true/\tt.oneCell'=true
 fst:Fu w B ta c.fst
 snd:Fu w B tb c.snd
 L:c.di=115->ya c.L/\wa w B tt c.L
structure RdC(w:ae)(B rb lb:Nat)(cs:List Dc):Prop where
 ls:∃ao cap,w.cell? (O rb 2)=some (.slice ao cs.length cap)/\(0<cs.length->ao=some (O lb 0))
 H:∀(k:Nat)(c:Dc),cs[k]?=some c->∃ta tb tt,w.rangeAt lb (k*16) (ig c ta tb tt)/\xf w B c ta tb tt
 rl:rb<B
 ll:lb<B
 ye:cs.length<=1000
def DE.opk{i:Dw}{d:Dd}(h:DE i w d x y)(g:y= aa a d.bo.length b)(f:c<d.bo.length):w.cell? (O a c)=some (.bool<|d.bo.getD c false)/\w.frozen? (O a c)=false:=by
 have e:=h.op;rw[g]at e;exact⟨by rw[e.cellAt c<|by omega];simp[ov,List.getD,dy f],e.frozenAt c⟩
def DQ.Ep{m:Dw}{n g:ae}{c:Dd}{i j f:af}{e o:Nat}(a:DQ m i n g c j f)(b:f= aa e c.bo.length o)(k:Nat)(x:Bool):DQ m i n (g.setCell (O e k)<|.bool x) {c with bo:=c.bo.set k x} j f:=by
 have d:bf e g (g.setCell (O e k)<|.bool x):=(bf.refl _ _).setCell _ _;have h:f.ownBlock=some e:=by rw[b];rfl
 have l:=a.1.op;rw[b]at l;have q:=(l.stored k<|.bool x).1;have r:ov (c.bo.set k x)=(ov c.bo).set k (.bool x):=by simp[ov,List.map_set]
 refine a.trans ⟨⟨a.1.row.cw<|d.block _ λb=>a.1.a2<|by rw[b];exact h,mc d a.1.cg<|λb=>a.1.a3 e b h,?_,a.1.le,a.1.a1,a.1.a2,a.1.a3⟩,d.os,d.tape,d.output,yh d.size.symm,λp _ _ _ s=>d.block p<|λb=>s<|by rw[b];exact h,λ_ a=> .inl a⟩;show World.ownsRow _ _ _ 1 f (c.bo.set k x).length (ov<|c.bo.set k x)
 rw[tj,r,b];exact q
def Dd.gz(mf:Mf)(c:Dc)(k:Nat)(D:Dd):Dd×Bool:=
 if c.snd.sort=0 then(D.lu c.fst,D.rr mf c.fst !=c.neg)
 else if D.bo.getD k false=true then
  let D1:=D.lu c.snd
  let st:= !(D.rr mf c.snd)&& !(decide (c.snd.sort=1)&&decide (c.snd.num<=D.number))
  ({D1 with bo:=D1.bo.set k st}, !c.neg)
 else
  let D1:=D.lu c.fst
  if D1.ji=true\/D.rr mf c.fst=false then(D1,c.neg)
  else
   let D2:=if c.snd.sort=2 then D1.last else D1
   let st:= !(decide (c.snd.sort=2)&&D1.zm)&& !(decide (c.snd.sort=1)&&decide (c.snd.num<=D.number))
   ({D2 with bo:=D2.bo.set k st}, !c.neg)
def Dx(c:Dc)(a b d:af):(prog.info? 177).map (·.size)=some (ig c a b d).length:=by kernel_rfl
def Kc:List af:=[.int .u8 0,I 0,I 0,.pointer none,I 0,I 0,.pointer none,.bool false,I 0,.string ⟨#[]⟩,.pointer none,.bool false,.bool false,I 0,.string ⟨#[]⟩,.string ⟨#[]⟩]
def Td:(prog.info? 177).map (λa=>(a.zero,a.size))=some (some<|.agg Kc.toArray,Kc.length):=by kernel_rfl
def Oe(g:Dc)(b c d:af)(a:b.oneCell'=true/\c.oneCell'=true/\d.oneCell'=true):∀f∈ig g b c d,f.oneCell'=true:=by
 intro f e
 simp only[ig,vc,za,or_false]at e;rcases e with rfl|rfl|rfl|rfl|rfl|rfl|rfl|rfl|rfl|rfl|rfl|rfl|rfl|rfl|rfl|rfl<;>first|rfl|exact a.1|exact a.2.1|exact a.2.2
def Vj(a:Dd):a.last.bo=a.bo/\a.last.number=a.number:=by unfold Dd.last;split<;>exact⟨rfl,rfl⟩
def aif(b:Wh)(a:Dd):(a.lu b).bo=a.bo/\(a.lu b).number=a.number:=by
 unfold Dd.lu;split
 .exact Vj a
 exact⟨rfl,rfl⟩
def auh{i:Mf}(a5:fj i)(j:Dw)(b:Dd)(m r:af)(a8 c:Nat)(B:List Dc)(a:Dc)(k:ae)(x:DE j k b m r)(S:RdC k j.B j.rb a8 B)(F:B[c]?=some a)(aI:b.L.size<=80)(a4:c<b.bo.length)(aS:b.number<=1099511000000):
  Calls prog 91 #[.pointer<|some ⟨j.b,0,none⟩,.int .i64 c] k λe D=>e=.returned (.bool (b.gz i a c).2)/\DQ j m k D (b.gz i a c).1 m r:=by
 have⟨aR,aN,aL,aC⟩:=S.ls;have⟨u,v,y,d,z⟩:=S.H c a F;have P:Y (∀A t H,DQ j m k A b m r->bd A k.heap.size (ig a u v y)->Fu k j.B H t->Calls prog 134 #[.pointer<|some ⟨j.b,0,none⟩,.agg #[.int .i64 t.sort,.int .i64 t.num,H]] A λe D=>e=.returned (.bool<|b.rr i t)/\DQ j m k D (b.lu t) m r/\bd D k.heap.size (ig a u v y)):=λA t H U a9 K=>
  (au0 a5 j b m r H t A U.1 K.1 (λe=>⟨(K.2.2 e).1,(K.2.2 e).2.up<|U.low x⟩) aI K.2.1).mono λe D ⟨w,h⟩=>⟨w,U.trans h,a9.cw<|h.keep x ah<|a9.lt<|by show 0<16;omega⟩
 have a0:=x;have aD:=J d;have aY:=x.xc 0;have⟨a3,aH,e,_,aO⟩:=x.op.form (by omega)
 have L:=J e;have aQ:c<B.length:=by
  rcases hb c B.length with e|e
  .exact e
  rw[je e]at F;cases F
 have aT:(c:Int)<B.length:=by omega
 rw[aC<|by omega]at aL;go_in;go_upto_region 2 with(first
  |(refine gm 5 rfl rfl 177 rfl _ Td ?_;intro aZ l d f)
  |(refine wpList_load_mid rfl 177 (.tmp 18) rfl a8 (c*16) rfl (ig a u v y) _ aD underlying177 rfl (Dx _ _ _ _) ?_)
  |(refine hw rfl 177 (.tmp 5) (.tmp 19) rfl _ rfl (ig a u v y) rfl _ d rfl (Dx _ _ _ _) (Oe _ _ _ _ z.one) ?_;intro X o g))
 have C:=J<|a0.q.below<|Below.bj f g ah;have aU:=o.xc 1;have aV:=o.xc 2;have aW:=o.xc 3;have a6:=o.xc 4;have aJ:=o.xc 5;have aX:=o.xc 6;have a7:=o.xc 7;by_cases T:a.snd.sort=0
 .have aK:((a.snd.sort:Int)==0)=true:=by simp[T]
  have s:Y (b.gz i a c=(b.lu a.fst,b.rr i a.fst !=a.neg)):=G T;have l:=P X.drew a.fst u (C.drewN 1) (o.cw rfl) z.fst;generalize b.rr i a.fst=E at l s;generalize b.lu a.fst=d at l s;go_wp21;go_region_with (go_at_call 134;go_call l;rintro e Z ⟨rfl,p,g⟩;have f:=J p;have n:=g.xc 7;clear p g)
  all_goals
   go_wp21;go_ret;rw[s.out];exact⟨by cases E<;>cases a.neg<;>rfl,f⟩
 have aK:((a.snd.sort:Int)==0)=false:=by simp;omega
 have Q:=C.1.xc 13;rw[L.out]at Q;have⟨mo,_⟩:=C.1.opk L a4;have q:Y (b.gz i a c=if b.bo.getD c false=true then({b.lu a.snd with bo:=(b.lu a.snd).bo.set c<|!(b.rr i a.snd)&& !(decide (a.snd.sort=1)&&decide (a.snd.num<=b.number))}, !a.neg)else if(b.lu a.fst).ji=true\/b.rr i a.fst=false then(b.lu a.fst,a.neg)else({(if a.snd.sort=2 then(b.lu a.fst).last else b.lu a.fst)with bo:=(if a.snd.sort=2 then(b.lu a.fst).last else b.lu a.fst).bo.set c<|!(decide (a.snd.sort=2)&&(b.lu a.fst).zm)&& !(decide (a.snd.sort=1)&&decide (a.snd.num<=b.number))}, !a.neg)):=N T;generalize b.bo.getD c false=aB at mo q;go_upto_if 37 with fail
 go_cut [6] (λaM aA=>∃W d,aM=.bool W/\Y (DQ j m k aA d m r)/\Y (bd aA k.heap.size<|ig a u v y)/\Y (d.bo=b.bo/\d.number=b.number)/\Y (b.gz i a c=({d with bo:=d.bo.set c<|W&& !(decide (a.snd.sort=1)&&decide (a.snd.num<=b.number))}, !a.neg)))
 case first=>
  rcases aB with _|_
  .have l:=P X a.fst u C o z.fst;have n:=J<|aif a.fst b;generalize b.rr i a.fst=E at l q;generalize b.lu a.fst=d at l q n;go_wp21;go_call l;rintro e Z ⟨rfl,p,g⟩;have aE:=p.1.xc 17;have a7:=g.xc 7;have a6:=g.xc 4;have f:=J p;rcases R:d.ji<;>rcases E with _|_<;>rw[R]at aE
   .go_wp21;go_ret;rw[q.out,N<|by decide,G<|by simp];exact⟨rfl,f⟩
   .have a1:Y (_=_):=q.trans ((N<|by decide).trans<|N<|by simp[R]);have a2:=Vi j d m r Z p.1;by_cases h:a.snd.sort=2
    .have V:((a.snd.sort:Int)==2)=true:=by simp[h]
     go_wp21;go_call a2;rintro e w3 ⟨rfl,M⟩;have aF:=J<|f.trans M;have aG:=g.cw (M.keep a0 ah<|g.lt<|by show 0<16;omega);go_wp21;go_meet;exact⟨_,d.last,rfl,aF,aG,⟨(Vj d).1.trans n.1,(Vj d).2.trans n.2⟩,by rw[Y,a1.out,G h];simp[h]⟩
    have V:((a.snd.sort:Int)==2)=false:=by simp;omega
    go_wp21;go_meet;exact⟨_,d,rfl,f,g,n,by rw[Y,a1.out,N h];simp[h]⟩
   all_goals
    go_wp21;go_ret;rw[q.out,N<|by decide,G<|.inl R];exact⟨rfl,f⟩
  have l:=P X a.snd v C o z.snd;have n:=J<|aif a.snd b;generalize b.rr i a.snd=E at l q;generalize b.lu a.snd=d at l q n;go_wp21;go_call l;rintro e Z ⟨rfl,p,g⟩;have f:=J p;go_wp21;go_meet;exact⟨_,d,rfl,f,g,n,q.trans<|G<|by simp⟩
 obtain⟨W,d,rfl,f,g,n,s⟩:=hcut;have M:Y (r= aa a3 d.bo.length aH):=by rw[Y,n.1];exact L
 have a6:=g.xc 4;have aJ:=g.xc 5;have a7:=g.xc 7;have R:=f.1.xc 8;have Q:=f.1.xc 13;obtain⟨mo,aE⟩:=f.1.opk M (by rw[n.1];exact a4);rw[n.2]at R;rw[L.out]at Q;by_cases w:a.snd.sort=1
 .have a1:((a.snd.sort:Int)==1)=true:=by simp[w]
  by_cases h:a.snd.num<=b.number
  .have V:decide (a.snd.num<=b.number)=true:=by simpa using h
   go_wp21;go_quiet (fail);go_wp21;go_ret;rw[s.out];simp only[w,h];exact⟨rfl,by simpa using(f.drewN _).Ep M c _⟩
  go_wp21;go_quiet (fail);go_wp21;go_ret;rw[s.out];simp only[w,h];exact⟨rfl,by simpa using(f.drewN _).Ep M c _⟩
 have a1:((a.snd.sort:Int)==1)=false:=by simp;omega
 go_wp21;go_quiet (fail);go_wp21;go_ret;rw[s.out];simp only[w];exact⟨rfl,by simpa using(f.drewN _).Ep M c _⟩
def Oc:Sem.run prog (convert 99 9<|aa W.heap.size 1 1) (W.alloc<|.cells #[.int .u8 i] 5)=.ok (.string<|ce [UInt8.ofNat i]) (W.alloc<|.cells #[.int .u8 i] 5):=by
 rw[run_convert_bytes_arg (P:=prog) _ 99 5 underlying99 underlying5 W.heap.size 0 1 1 [(i:Int)] rfl (λa b=>by
  rw[yya _ W.heap.size (0+a) _ 5 (0,0)<|heap_alloc_last W _];obtain rfl:a=0:=by omega
  rfl) 9 underlying9]
 rfl
def Mu(N n:Nat)(s:ag):Prop:=(n=0/\s.size≠0/\Lib.decDigits N=Qjj s)\/(0<n/\Lib.decDigits N=Lib.decDigits n++Qjj s)
def Mu.step(h:Mu a b s)(i:0<b):Mu a (b/10) (ce [UInt8.ofNat<|48+b%10]++s):=by
 have f:(ce [UInt8.ofNat<|48+b%10]++s).size≠0:=by rw[uh];show 1+s.size≠0;omega
 have d:Qjj (ce [UInt8.ofNat<|48+b%10]++s)=UInt8.ofNat (48+b%10)::Qjj s:=by simp[Qjj,ce]
 rcases h with⟨j,c,_⟩|⟨_,c⟩
 .omega
 by_cases e:b<10
 .rw[Lib.decDigits_one e]at c;refine .inl ⟨by omega,f,?_⟩;rw[c,d,show b%10=b by omega];rfl
 have g:Lib.decDigits b=Lib.decDigits (b/10)++[UInt8.ofNat<|48+b%10]:=by rw[Lib.decDigits,dif_neg e]
 rw[g]at c;refine .inr ⟨by omega,?_⟩;rw[c,d];simp
def amk(x:i<=1099511000000)(y:1<=i):
  Calls prog 140 #[.int .i64 i] W λj p=>j=.returned (.string<|itoa i)/\Below W.heap.size W p:=by
 go_in;go_wp21;go_loopw [0,3] (λe sv wr=>∃(a:Nat)(b:ag),e=I a/\sv=.string b/\b.size+a<=i+1/\Y (Mu i a b)/\Y (Below W.heap.size W wr)) (λe _ _=>(intOf e).toNat)
 .exact⟨i,⟨#[]⟩,rfl,rfl,by show 0+i<=i+1;omega,.inr ⟨by omega,by simp[Qjj]⟩,bp _ _⟩
 obtain⟨a,b,rfl,rfl,u,f,g⟩:=hrel;have z:Int.tmod (a:Int) 10=((a%10:Nat):Int):=by rw[Int.tmod_eq_emod_of_nonneg<|by omega];omega
 have q:Int.tdiv (a:Int) 10=((a/10:Nat):Int):=by rw[Int.tdiv_eq_ediv_of_nonneg<|by omega];omega
 by_cases l:0<a
 .have k:=J<|f.step l;have v:∀c:ae,Sem.run prog (convert 99 9<|aa c.heap.size 1 1) (c.alloc<|.cells #[.int .u8<|48+((a%10:Nat):Int)] 5)=.ok (.string<|ce [UInt8.ofNat<|48+a%10]) (c.alloc<|.cells #[.int .u8<|48+((a%10:Nat):Int)] 5):=λc=>by
   have:=Oc (48+a%10) c;rwa[show((48+a%10:Nat):Int)=48+((a%10:Nat):Int)by omega]at this
  have r:∀d:ae,(Op.stringOp .add (ce [UInt8.ofNat<|48+a%10]) b).run prog d=.ok (.string<|ce [UInt8.ofNat<|48+a%10]++b) d:=λd=>yye (P:=prog) (w:=d) _ _ (by show 1+b.size<=_;omega)
  have t:a%10<10:=Nat.mod_lt _ (by omega);have w:(ce [UInt8.ofNat<|48+a%10]++b).size=1+b.size:=by rw[uh];rfl
  have hd:a/10+1<=a:=by omega
  generalize ce [UInt8.ofNat<|48+a%10]=s at*
  generalize h:a%10=n at*
  generalize o:a/10=m at*
  have h:Below W.heap.size W (wr.alloc<|.cells #[.int .u8<|48+(n:Int)] 5):=g.alloc g.size _
  go_wp21;go_roundw
  .exact⟨m,_,rfl,rfl,by omega,k,h⟩
  simp[intOf];omega
 have k:a=0:=by omega
 subst k;have c:Y (itoa i=b/\b.size≠0):=by
  rcases f with⟨_,d,h⟩|⟨d,h⟩
  .refine⟨?_,d⟩;rw[itoa,Lib.itoa,N,show((i:Int)).toNat=i by omega,h];rfl
  omega
 have d:=Hg c.2;go_wp21;go_ret;exact⟨by rw[c.1];rfl,g⟩
def Eg(s:ag)(sp:List (Int×Int))(k:Nat):ag:=if 0<=(sp.getD k (-1,-1)).1 then s.extract (sp.getD k (-1,-1)).1.toNat (sp.getD k (-1,-1)).2.toNat else⟨#[]⟩
def xl(t s:ag)(sp:List (Int×Int)):Nat->Nat->ag->ag
 |0,_,out=>out
 |f+1,i,out=>
  if i<t.size then
   if au t i=38 then xl t s sp f (i+1) (out++Eg s sp 0)
   else if au t i=92 then
    if 49<=au t (i+1)/\au t (i+1)<=57 then xl t s sp f (i+2) (out++Eg s sp (au t (i+1)-48))
    else xl t s sp f (i+2) (out++ce [UInt8.ofNat<|val<|au t<|i+1])
   else xl t s sp f (i+1) (out++ce [UInt8.ofNat<|au t i])
  else out
def Gc(t:ag)(n:Nat):Nat->Nat->Prop
 |0,_=>True
 |f+1,i=>
  i<t.size->
   if au t i=92 then i+1<t.size/\(49<=au t (i+1)->au t (i+1)<=57->au t (i+1)-48<n)/\Gc t n f (i+2)
   else Gc t n f (i+1)
def akf(s:ag)(sp:List (Int×Int)):Prop:=∀(k:Nat)(x y:Int),sp[k]?=some (x,y)->0<=x->x<=y/\y<=(s.size:Int)
def Sj:S++(⟨#[]⟩:ag)=S:=by
 apply va;simp
def an8(f:List (Int×Int))(l aE:Nat)(k:ae)(aW:S.size<=400)(aV:T.size<=1000)(a3:rx k l f)(a4:akf T f)(aF:0<f.length)(aN:f.length<=1001)(a1:Gc S f.length (S.size+1) 0):
  Calls prog 182 #[.string S,.string T,.slice (some ⟨l,0,none⟩) f.length aE] k λE aK=>E=.returned (.string<|xl S T f (S.size+1) 0 ⟨#[]⟩)/\Below k.heap.size k aK:=by
 have R:=J a3;have Z:=J a4;have a9:=J a1;obtain⟨B,a⟩:∃B,B=xl S T f (S.size+1) 0 ⟨#[]⟩:=⟨_,rfl⟩;rw[<-a];have aA:=J a;go_in;go_wp2_with fail;have F:l<k.heap.size:=by
  have⟨a,_⟩:=R.out 0 f[0].1 f[0].2<|dy aF;exact dw k _ a
 go_loopw [7,8] (λov iv wr=>∃(a e:Nat)(d:ag),ov=.string d/\iv=I a/\a<=S.size/\S.size+1<=e+a/\d.size<=1000*a/\Y (B=xl S T f e a d)/\Y (Gc S f.length e a)/\Y (Below k.heap.size k wr)) (λ_ iv _=>S.size+1-(intOf iv).toNat)
 .exact⟨0,S.size+1,⟨#[]⟩,rfl,rfl,ey _,ah,ah,aA,a9,bp _ _⟩
 obtain⟨a,e,d,rfl,rfl,aU,aT,aO,X,a8,h⟩:=hrel;by_cases H:a<S.size
 .obtain⟨e,rfl⟩:∃U,e=U+1:=⟨e-1,by omega⟩;have A:=Cx S a H;have c:=X.out;have u:=a8 H;rw[xl,G H]at c;have aP:(a:Int)<S.size:=by omega
  have aL:d.size<=400000:=by have:1000*a<=1000*400:=yzy ah (by omega);omega
  by_cases v:au S a=38
  .rw[G v]at c;rw[N]at u;have s:=J u;have aG:((S[a].toNat:Int)==38)=true:=by rw[A,v];rfl
   have a5:((S[a].toNat:Int)==92)=false:=by rw[A,v];rfl
   obtain⟨g,o,m⟩:∃g o,f[0]?=some (g,o):=⟨_,_,dy<|by omega⟩;have⟨C,D,_,_⟩:=R.out _ g o m;have C:=(ac ((0)*2)<|h.block l F).trans C;have D:=(ac ((0)*2+1)<|h.block l F).trans D;have p:Y (Eg T f (0)=if 0<=g then T.extract g.toNat o.toNat else⟨#[]⟩):=by rw[Y,Eg,yz,m];rfl
   have y:=Z _ g o m;by_cases i:0<=g
   .have⟨L,aB⟩:=y i;rw[p.out,G i]at c;obtain⟨q,rfl⟩:=yyq i;obtain⟨r,rfl⟩:=yyq<|Int.le_trans i L;have j:=J c;have M:(T.extract q r).size<=1000:=by rw[lw];omega
    have t:(d++T.extract q r).size<=1000*(a+1):=by rw[uh];omega
    have K:∀b:ae,(Op.stringOp .add d<|T.extract q r).run prog b=.ok (.string<|d++T.extract q r) b:=λb=>yye (P:=prog) (w:=b) _ _<|by omega
    go_wp2_with fail;go_quiet (fail);go_wp2_with fail;go_roundw
    .exact⟨a+1,e,_,rfl,by go_num,by omega,by omega,t,j,s,Nw h _⟩
    simp[intOf];omega
   rw[p.out,N i]at c;have j:Y (B=xl S T f e (a+1) d):=by rw[Y,c,Sj]
   go_wp2_with fail;go_roundw
   .exact⟨a+1,e,d,rfl,by go_num,by omega,by omega,by omega,j,s,h⟩
   simp[intOf];omega
  rw[N v]at c;have aG:((S[a].toNat:Int)==38)=false:=by rw[A];exact hh
  by_cases w:au S a=92
  .rw[G w]at c;rw[G w]at u;have⟨aC,P,Q⟩:=u;have a5:((S[a].toNat:Int)==92)=true:=by rw[A,w];rfl
   have s:=J Q;have a0:=Cx S (a+1) aC;have aM:(a:Int)+1<(S.size:Int):=by omega
   have x:=λb=>Ew (au S<|a+1) b<|ms _ _
   have aQ:val (au S<|a+1)<256:=by
    unfold val;split
    .omega
    exact ms _ _
   by_cases hd:49<=au S (a+1)/\au S (a+1)<=57
   .rw[G hd]at c;have aI:=P hd.1 hd.2
    obtain⟨g,o,m⟩:∃g o,f[au S (a+1)-48]?=some (g,o):=⟨_,_,dy<|by omega⟩;have⟨C,D,_,_⟩:=R.out _ g o m;have C:=(ac ((au S (a+1)-48)*2)<|h.block l F).trans C;have D:=(ac ((au S (a+1)-48)*2+1)<|h.block l F).trans D;have p:Y (Eg T f (au S (a+1)-48)=if 0<=g then T.extract g.toNat o.toNat else⟨#[]⟩):=by rw[Y,Eg,yz,m];rfl
    have y:=Z _ g o m;have W:=hd.1;have a2:=hd.2;have a6:decide (49<=au S (a+1))=true:=by simpa using W
    have a7:decide (au S (a+1)<=57)=true:=by simpa using a2
    have aJ:(0:Int)<=((au S (a+1)-48:Nat):Int):=by omega
    have aR:((au S (a+1)-48:Nat):Int)<f.length:=by omega
    have aS:(au S (a+1):Int)-48=((au S (a+1)-48:Nat):Int):=by omega
    generalize val (au S<|a+1)=aD at*
    by_cases i:0<=g
    .have⟨L,aB⟩:=y i;rw[p.out,G i]at c;obtain⟨q,rfl⟩:=yyq i;obtain⟨r,rfl⟩:=yyq<|Int.le_trans i L;have j:=J c;have M:(T.extract q r).size<=1000:=by rw[lw];omega
     have t:(d++T.extract q r).size<=1000*(a+2):=by rw[uh];omega
     have K:∀b:ae,(Op.stringOp .add d<|T.extract q r).run prog b=.ok (.string<|d++T.extract q r) b:=λb=>yye (P:=prog) (w:=b) _ _<|by omega
     go_wp2_with fail;go_call x;rintro E V ⟨rfl,n⟩;have z:=n.symm;subst z;go_wp2_with fail;go_quiet (fail);go_wp2_with fail;go_roundw
     .exact⟨a+2,e,_,rfl,by go_num,by omega,by omega,t,j,s,Nw h _⟩
     simp[intOf];omega
    have aH:decide (0<=g)=false:=by simpa using i
    rw[p.out,N i]at c;have j:Y (B=xl S T f e (a+2) d):=by rw[Y,c,Sj]
    go_wp2_with fail;go_call x;rintro E V ⟨rfl,n⟩;have z:=n.symm;subst z;go_wp2_with fail;go_roundw
    .exact⟨a+2,e,d,rfl,by go_num,by omega,by omega,by omega,j,s,h⟩
    simp[intOf];omega
   rw[N hd]at c;have aD:au S (a+1)<49\/57<au S (a+1):=by omega
   rcases aD with a6|a7
   have aI:decide ((49:Int)<=(au S (a+1):Int))=false:=by simp;omega
   rotate_left
   have aI:decide ((au S (a+1):Int)<=57)=false:=by simp;omega
   all_goals
    have j:=J c;have a2:=Oc<|val<|au S<|a+1;have t:(d++ce [UInt8.ofNat<|val<|au S<|a+1]).size<=1000*(a+2):=by rw[uh];show _+1<=_;omega
    have K:∀b:ae,(Op.stringOp .add d<|ce [UInt8.ofNat<|val<|au S<|a+1]).run prog b=.ok (.string<|d++ce [UInt8.ofNat<|val<|au S<|a+1]) b:=λb=>yye (P:=prog) (w:=b) _ _ (by show _+1<=_;omega)
    generalize ce [UInt8.ofNat<|val<|au S<|a+1]=W at*
    go_wp2_with fail;go_call x;rintro E V ⟨rfl,n⟩;have z:=n.symm;subst z;go_wp2_with fail;go_roundw
    .exact⟨a+2,e,_,rfl,by go_num,by omega,by omega,t,j,s,h.alloc h.size _⟩
    simp[intOf];omega
  rw[N w]at c;rw[N w]at u;have s:=J u;have a5:((S[a].toNat:Int)==92)=false:=by rw[A];exact hh
  have j:=J c;have a2:=Oc<|au S a;have t:(d++ce [UInt8.ofNat<|au S a]).size<=1000*(a+1):=by rw[uh];show _+1<=_;omega
  have K:∀b:ae,(Op.stringOp .add d<|ce [UInt8.ofNat<|au S a]).run prog b=.ok (.string<|d++ce [UInt8.ofNat<|au S a]) b:=λb=>yye (P:=prog) (w:=b) _ _ (by show _+1<=_;omega)
  generalize ce [UInt8.ofNat<|au S a]=W at*
  go_wp2_with fail;go_roundw
  .exact⟨a+1,e,_,rfl,by go_num,by omega,by omega,t,j,s,h.alloc h.size _⟩
  simp[intOf];omega
 have c:Y (B=d):=by
  have b:=X.out;obtain⟨e,rfl⟩:∃U,e=U+1:=⟨e-1,by omega⟩;rw[xl,N H]at b;exact b
 go_wp2_with fail;go_ret;exact⟨by rw[c.out];rfl,h⟩
def Qji(a:List Nat)(b:Nat):Bj (a++[b])=a++[b+1]:=by
 unfold Bj;simp
def ais(a:Sc)(e:a.ax=6\/a.ax=12)(b c:Nat)(h:¬(b=47/\lx a.L=false)):bx a b c=(step a.L b).map λf=>{a with L:=f,db:=Bj a.db}:=by
 have g:bx a b c=(pi a b).1.map λd=>if(pi a b).2=true then {d with ax:=if a.ax=12 then 13 else 2} else d:=by
  unfold bx;rcases e with h|h<;>simp[h]
 rw[g];unfold pi;rw[N h];simp only[Option.map_map];rfl
def air(a:Sc)(d:a.ax=6\/a.ax=12)(b:Nat)(h:lx a.L=false):bx a 47 b=if whole a.L=true then some {a with ax:=if a.ax=12 then 13 else 2} else none:=by
 have e:bx a 47 b=(pi a 47).1.map λc=>if(pi a 47).2=true then {c with ax:=if a.ax=12 then 13 else 2} else c:=by
  unfold bx;rcases d with h|h<;>simp[h]
 rw[e];unfold pi;rw[G ⟨rfl,h⟩];split<;>rfl
def aw2{a:St}(b:whole a=true):lx a=false:=by
 rw[Oo];simp[whole]at b;omega
def anz(b:uu s=some a):kw s a:=(Ik s.size 0 ⟨0,0,0,0⟩ (t:=s) rfl<|by omega).1 a b
def ajs(a:uu s=none):iu s:=(Ik s.size 0 ⟨0,0,0,0⟩ (t:=s) rfl<|by omega).2 a
def af0{c:ag}{a:Nat}{b:Sc}{d:List Nat}(m:ed c a=some b)(n:b.ax=6\/b.ax=12)(g:b.L=⟨0,0,0,0⟩)(i:b.db=d++[0])(q:a<=c.size):
  ∀(k:Nat)(e:St),a+k<=bw c a->prun c a k=some e->ed c (a+k)=some {b with L:=e,db:=d++[k]}
 |0,e,_,h=>by
  cases h
  have f:({b with L:=⟨0,0,0,0⟩,db:=d++[0]}:Sc)=b:=by cases b;simp at g i;subst g i;rfl
  rw[f];exact m
 |k+1,e,v,h=>by
  rw[prun,Ey]at h;have⟨f,o,s⟩:=h;have t:=af0 m n g i q k f (by omega) o;have⟨u,_⟩:=Qk c a (c.size+1) a ah (by omega) (λe l=>by rw[xx]at l;cases l;rfl);have r:¬(au c (a+k)=47/\lx f=false):=λj=>by
   have:=u (a+k) f (by omega) (by show a+k<bw c a;omega) (by rw[yyi];exact o) j.1;rw[this]at j;cases j.2
  have p:bx {b with L:=f,db:=d++[k]} (au c<|a+k) (a+k)=some {b with L:=e,db:=d++[k+1]}:=by
   rw[ais {b with L:=f,db:=d++[k]} n _ _ r];simp only;rw[s,Qji];rfl
  exact next t p
def aiz{a:Sc}(b:a.ax=6\/a.ax=12):jj a=false:=by
 rcases b with h|h<;>simp[jj,h]
def af2{d:Sc}(u:ed s a=some d)(e:d.ax=6\/d.ax=12)(v:d.L=⟨0,0,0,0⟩)(w:d.db=g++[0])(m:a<=s.size):
  ((dx s a Z).2.2.2=true/\a<(dx s a Z).1/\(dx s a Z).1<=s.size/\(dx s a Z).2.2.1=(if 40<(dx s a Z).2.1.size/\Z=-1 then(a:Int)else Z)/\
   ∃b,b.a=eo (dx s a Z).2.1/\ed s (dx s a Z).1=some {d with L:=b,db:=g++[(dx s a Z).2.1.size],ax:=if d.ax=12 then 13 else 2})\/
  ((dx s a Z).2.2.2=false/\jt s (dx s a Z).1):=by
 have B:=Es s (s.size+1) a m;have K:a<=bw s a:=B;have E:bw s a<=s.size:=Er s _ _;have F:=Ws s a m;have⟨x,o⟩:=Qk s a (s.size+1) a ah (by omega) (λb r=>by rw[xx]at r;cases r;rfl);have t:=af0 u e v w m;have i:=agd s a<|bw s a;rcases hf:uu (s.extract a<|bw s a)with _|c
 rotate_left
 .have l:dx s a Z=(a+c,fo,Z,false):=by unfold dx;simp only[hf]
  rw[l];refine .inr ⟨rfl,?_⟩;show jt s (a+c)
  have⟨b,h,H,p,q⟩:=anz hf;have f:=t c b (by omega) (by rw[<-i c<|by omega];exact h);by_cases y:c<(s.extract a<|bw s a).size
  .refine np f (by omega) ?_;have k:¬(au s (a+c)=47/\lx b=false):=λj=>by
    have:=x (a+c) b (by omega) (by show a+c<bw s a;omega) (by rw[yyi,<-i c<|by omega];exact h) j.1;rw[this]at j;cases j.2
   rw[ais {d with L:=b,db:=g++[c]} e _ _ k];have:=p y;rw[ty s a (bw s a) c]at this;simp only;rw[this];rfl
  have C:c=(s.extract a<|bw s a).size:=by omega
  have z:=q C;by_cases k:bw s a<s.size
  .refine np f (by omega) ?_;have j:a+c=bw s a:=by omega
   have⟨n,A⟩:=o k;have D:au s (bw s a)=47:=n;rw[j,D,air {d with L:=b,db:=g++[c]} e _<|A b<|by show prun s a (bw s a-a)=some b;rw[<-j,yyi,<-i c<|by omega];exact h];simp only;rw[z];rfl
  exact kj f (by omega)<|aiz e
 have l:dx s a Z=(if pk s (a+(s.extract a<|bw s a).size)=47 then(a+(s.extract a<|bw s a).size+1,s.extract a<|bw s a,if 40<(s.extract a<|bw s a).size/\Z=-1 then(a:Int)else Z,true)else(a+(s.extract a<|bw s a).size,s.extract a<|bw s a,if 40<(s.extract a<|bw s a).size/\Z=-1 then(a:Int)else Z,false)):=by unfold dx;simp only[hf]
 rw[l];have⟨b,p,q⟩:=ajs hf;have f:=t (s.extract a<|bw s a).size b (by omega) (by rw[<-i _<|by omega];exact p);have j:a+(s.extract a<|bw s a).size=bw s a:=by omega
 by_cases h:pk s (a+(s.extract a<|bw s a).size)=47
 .rw[G h];have⟨A,y⟩:=ho (s:=s) (i:=a+(s.extract a<|bw s a).size) (by rw[h];decide);refine .inl ⟨rfl,by simp only;omega,by simp only;omega,rfl,b,?_,?_⟩
  .show b.a=eo (s.extract a<|bw s a)
   rw[eo,p]
  refine next f ?_
  have z:au s (a+(s.extract a<|bw s a).size)=47:=by rw[y]at h;omega
  rw[z,air {d with L:=b,db:=g++[(s.extract a<|bw s a).size]} e _<|aw2 q];simp only;rw[q];rfl
 rw[N h];refine .inr ⟨rfl,?_⟩;have y:¬bw s a<s.size:=λk=>by
  have n:au s (bw s a)=47:=(o k).1;apply h;rw[j,fh k,n];rfl
 exact kj f (by omega)<|aiz e
def Mx.more{l d:List Nat}{lg:Int}(c:Mx l d lg)(i f:Nat):Mx (l++[i]) (d++[f]) (if 40<f/\lg=-1 then(i:Int)else lg):=by
 obtain⟨m,c⟩:=c;refine⟨by simp[m],?_⟩;rcases c with⟨rfl,c⟩|⟨e,q,k,rfl,n,o,s,t⟩
 .by_cases g:40<f
  .rw[G ⟨g,rfl⟩];refine .inr ⟨d.length,i,f,rfl,by rw[<-m];simp,by simp,g,λh j a b=> ?_⟩;rw[oq a]at b;exact c h j b
  rw[N<|λp=>g p.1];refine .inl ⟨rfl,λe k a=> ?_⟩;by_cases b:e<d.length
  .rw[oq b]at a;exact c e k a
  have:=(jy.1 a).1;simp at this;have r:e=d.length:=by omega
  subst r;simp at a;omega
 rw[N<|λp=>by omega];have r:=(jy.1 n).1;have b:=(jy.1 o).1;refine .inr ⟨e,q,k,rfl,by rw[oq r];exact n,by rw[oq b];exact o,s,λh j a g=> ?_⟩;rw[oq<|by omega]at g;exact t h j a g
def Ur:bn ju i=true↔48<=i/\i<=57:=by simp[bn,ju];omega
def adt:bn ws i=true↔(48<=i/\i<=57)\/i=36\/i=47:=by simp[bn,ws];omega
structure Rr(x y:Sc):Prop where
 op:y.op=x.op
 part:y.part=x.part
 bu:y.bu=x.bu
 fp:y.fp=x.fp
 db:y.db=x.db
structure Sa(s:ag)(j:Nat)(y:Sc):Prop where
 ax:y.ax=1\/y.ax=2
 sep:j<s.size->bx y (au s j) j=vf y (au s j)
def Mj(a:Sc)(c:a.ax=1)(b d:Nat):bx a b d=ua a b:=by unfold bx;simp[c]
def aim(a:Sc)(c:a.ax=2)(b d:Nat):bx a b d=vf a b:=by unfold bx;simp[c]
def au5(a:Sc)(d:a.ax=3)(b c:Nat):bx a b c=spot a b c:=by unfold bx;simp[d]
def Qn(a:Sc)(h:a.ax=4\/a.ax=5)(b c:Nat):bx a b c=lc a b:=by unfold bx;rcases h with h|h<;>simp[h]
def Qr{a:Sc}(h:a.ax=1\/a.ax=2\/a.ax=3\/a.ax=4\/a.ax=5):jj a=false:=by
 rcases h with h|h|h|h|h<;>simp[jj,h]
def ae9{c:ag}{k:Sc}:∀(l b d f:Nat),ed c b=some {k with ax:=1,bm:=f,zero:=if d=0 then 0 else 1}->f+l=4->b<=c.size->(l=0->0<d)->
  ((numF c l b d).2.2=true/\b<=(numF c l b d).1/\(numF c l b d).1<=c.size/\∃m,ed c (numF c l b d).1=some m/\Sa c (numF c l b d).1 m/\Rr k m)\/((numF c l b d).2.2=false/\jt c (numF c l b d).1)
 |0,b,d,f,h,hc,p,j=>by
  have j:=j rfl;have i:¬d=0:=by omega
  refine .inl ⟨by simpa[numF]using j,ah,p,_,h,⟨.inl rfl,λo=> ?_⟩,⟨rfl,rfl,rfl,rfl,rfl⟩⟩;rw[Mj _ rfl];unfold ua;simp only;rw[N,N<|by rw[N i];omega]
 |l+1,b,d,f,h,hc,p,j=>by
  unfold numF;by_cases hd:br c ju b=true
  .rw[G hd];have⟨g,t,u⟩:=Tq hd;by_cases q:l=0/\10*d+(au c b-48)=0
   .rw[G q];refine .inr ⟨rfl,np h g ?_⟩;rw[Mj _ rfl];unfold ua;simp only;rw[G,N<|by rw[G,G];omega]
   rw[N q];have s:ed c (b+1)=some {k with ax:=1,bm:=f+1,zero:=if 10*d+(au c b-48)=0 then 0 else 1}:=by
    refine next h ?_
    rw[Mj _ rfl];unfold ua;simp only;have n:(if au c b=48 then(if d=0 then 0 else 1)else 1)=(if 10*d+(au c b-48)=0 then 0 else 1:Nat):=by
     by_cases a:au c b=48
     .by_cases e:d=0
      .rw[G a,G e,G]
      rw[G a,N e,N]
     rw[N a,N]
    rw[n,G,G (by
     by_cases a:10*d+(au c b-48)=0
     .left;omega
     right;rw[N a])]
   rcases ae9 l (b+1) (10*d+(au c b-48)) (f+1) s (by omega) (by omega) (λn=>by omega)with⟨a,e,r⟩|a
   .exact .inl ⟨a,by omega,r⟩
   exact .inr a
  rw[N hd];have n:b<c.size->¬(48<=au c b/\au c b<=57):=λg e=>hd (by simp[br,g];exact(Ur _).2 e)
  by_cases i:d=0
  .refine .inr ⟨by simp[i],?_⟩;by_cases g:b<c.size
   .refine np h g ?_;rw[Mj _ rfl];unfold ua;simp only;rw[N<|λe=>n g ⟨e.1,e.2.1⟩,G<|by rw[G i]]
   exact kj h (by simp only;omega)<|Qr<|.inl rfl
  refine .inl ⟨by simp;omega,ah,p,_,h,⟨.inl rfl,λo=> ?_⟩,⟨rfl,rfl,rfl,rfl,rfl⟩⟩;rw[Mj _ rfl];unfold ua;simp only;rw[N<|λe=>n o ⟨e.1,e.2.1⟩,N<|by rw[N i];omega]
def ajr{c:ag}{b:Nat}{p z:Sc}{e:Int}{q:List ft}(i:ed c b=some p)(x:b<=c.size)(l:b<c.size->bx p (au c b) b=spot z (au c b) b)(r:b=c.size->jj p=false)(m:Nt z e q):
  ((dc c b e).2.2.2=true/\b<(dc c b e).1/\(dc c b e).1<=c.size/\∃g,ed c (dc c b e).1=some g/\Sa c (dc c b e).1 g/\g.op=z.op/\g.part=z.part/\Nt g (dc c b e).2.2.1 q)\/((dc c b e).2.2.2=false/\jt c (dc c b e).1):=by
 unfold dc;by_cases j:pk c b=36
 .rw[G j];have⟨d,n⟩:=px (c:=36) j;refine .inl ⟨rfl,yxo _,d,{z with ax:=2},?_,⟨.inr rfl,λ_=>aim _ rfl _ _⟩,rfl,rfl,m.of rfl rfl rfl⟩;refine next i ?_
  rw[l d,n];rfl
 rw[N j];by_cases k:pk c b=47
 .rw[G k];have⟨d,n⟩:=px (c:=47) k;have o:ed c (b+1)=some (pattern {z with ax:=6} (b+1)):=by
   refine next i ?_
   rw[l d,n];rfl
  simp only;rcases af2 e o (.inl rfl) rfl rfl d with⟨f,h,s,t,v,w,u⟩|⟨f,h⟩
  .refine .inl ⟨f,by omega,s,_,u,⟨.inr rfl,λ_=>aim _ rfl _ _⟩,rfl,rfl,?_⟩;refine⟨m.bu,?_⟩;rw[t];exact m.bk.more (b+1) _
  exact .inr ⟨f,h⟩
 rw[N k];simp only;by_cases hd:br c ju b=true
 .have⟨d,u,v⟩:=Tq hd;have f:numF c 4 b 0=numF c 3 (b+1) (au c b-48):=by
   rw[numF,G hd,N];simp
  rw[f];have o:ed c (b+1)=some {z with ax:=1,bm:=1,zero:=if au c b-48=0 then 0 else 1}:=by
   refine next i ?_
   rw[l d];unfold spot;rw[G ⟨u,v⟩];have f:(if au c b=48 then 0 else 1:Nat)=if au c b-48=0 then 0 else 1:=by
    by_cases a:au c b=48
    .rw[G a,G]
    rw[N a,N]
   rw[f]
  rcases ae9 3 (b+1) _ 1 o rfl d (λf=>by omega)with⟨a,w,s,g,t,f,h⟩|a
  .exact .inl ⟨a,by omega,s,g,t,f,h.op,h.part,m.of h.bu h.fp h.db⟩
  exact .inr a
 have f:numF c 4 b 0=(b,0,false):=by
  rw[numF,N hd];rfl
 rw[f];refine .inr ⟨rfl,?_⟩;by_cases d:b<c.size
 .refine np i d ?_;rw[l d];unfold spot;rw[fh d]at j k;have s:¬(48<=au c b/\au c b<=57):=λh=>hd (by simp[br,d];exact(Ur _).2 h)
  rw[N s,N,N]
 exact kj i (by simp only;omega)<|r<|by omega
structure Zj(s:ag)(j:Nat)(y:Sc):Prop where
 ax:y.ax=1\/y.ax=2\/y.ax=4
 sep:j<s.size->au s j≠32/\bx y (au s j) j=lc y (au s j)
def ajb{b:Sc}{l:List ft}(k:ed s a=some b)(t:a<=s.size)(g:Sa s a b)(h:b.part=1->pk s a≠44)(m:Nt b p l):
  ∃f,ed s (skip s dh a)=some f/\Zj s (skip s dh a) f/\f.op=b.op/\Nt f p l:=by
 have i:a<s.size->bx b (au s a) a=lc b (au s a):=λc=>by
  rw[g.sep c];unfold vf;rw[N<|λd=>h d.2<|by rw[fh c,d.1];rfl]
 cases d:br s dh a with
 |false=>
  rw[xd d];refine⟨b,k,⟨?_,λc=>⟨λe=> ?_,i c⟩⟩,rfl,m⟩
  .rcases g.ax with e|e
   .exact .inl e
   exact .inr<|.inl e
  have:=(wi _).2 e;simp[br,c,this]at d
 |true=>
  have c:=vo d;have o:au s a=32:=by simp[br]at d;exact(wi _).1 d.2
  have q:ed s (a+1)=some {b with ax:=4}:=by
   refine next k ?_
   rw[i c,o];unfold lc;have:=g.ax;rw[G,N]
  have n:ed s (skip s dh a)=some {b with ax:=4}:=by
   rw[Ar d];refine Md (λj r h=> ?_) q;rw[Qn _<|.inl rfl,(wi j).1 h];unfold lc;simp
  have j:=Mc s dh a;generalize skip s dh a=r at n j;refine⟨_,n,⟨.inr<|.inr rfl,λc=>⟨λe=> ?_,Qn _ (.inl rfl) _ _⟩⟩,rfl,m.of rfl rfl rfl⟩;have:=(wi _).2 e;simp[br,c,this]at j
def akm{b:Sc}{D:List ft}(T:ed s a=some b)(E:b.ax=0)(e:br s ws a=true)(F:Nt b p D):
  ((cq s a p).2.2.2.2=true/\a<(cq s a p).1/\(cq s a p).1<=s.size/\∃c,ed s (cq s a p).1=some c/\Zj s (cq s a p).1 c/\c.op=b.op/\Nt c (cq s a p).2.2.2.1 D)\/((cq s a p).2.2.2.2=false/\jt s (cq s a p).1):=by
 unfold cq;rw[G e];have U:=vo e;have H:a<s.size->bx b (au s a) a=spot {b with part:=1} (au s a) a:=λ_=>by
  rw[Mi b E];have f:bn ws (au s a)=true:=by simp[br]at e;exact e.2
  rw[adt]at f;unfold begin';rw[N,N,N];cases d:spot {b with part:=1} (au s a) a with
  |some c=>rfl
  |none=>
   unfold spot at d;split at d
   .cases d
   split at d
   .cases d
   split at d
   .cases d
   omega
 have m:=ajr (z:={b with part:=1}) T (yyh U) H (λk=>by omega)<|F.of rfl rfl rfl;simp only;generalize dc s a p=j at m;have⟨d,a0,V,a1⟩:=j;simp only at m;rcases m with⟨n,v,o,c,w,x,y,K,z⟩|⟨n,v⟩
 .subst n;simp only[if_true];by_cases f:pk s d=44
  .rw[G f];have⟨C,W⟩:=px (c:=44) f;have L:ed s (d+1)=some {c with ax:=3,part:=2}:=by
    refine next w ?_
    rw[x.sep C,W];unfold vf;rw[G ⟨rfl,K⟩]
   have l:=ajr (z:={c with ax:=3,part:=2}) L C (λ_=>au5 _ rfl _ _) (λ_=>Qr<|.inr<|.inr<|.inl rfl)<|z.of rfl rfl rfl;generalize dc s (d+1) V=j at l;have⟨A,a2,X,Z⟩:=j;simp only at l;rcases l with⟨q,B,t,a3,M,P,Q,R,S⟩|⟨q,B⟩
   .subst q;simp only[if_true];have⟨r,u,g,h,i⟩:=ajb M t P (λk=>by rw[R]at k;simp at k) S;have:=An s dh A t;refine .inl ⟨trivial,by omega,si s dh A t,r,u,g,by rw[h,Q];exact y,i⟩
   subst q;simp only[Ax,yyv];exact .inr ⟨trivial,B⟩
  rw[N f];simp only;have⟨r,u,g,h,i⟩:=ajb w o x (λ_=>f) z;have:=An s dh d o;exact .inl ⟨trivial,by omega,si s dh d o,r,u,g,by rw[h,y],i⟩
 subst n;simp only[Ax,yyv];exact .inr ⟨trivial,v⟩
def Ut:bn po i=true↔49<=i/\i<=57:=by simp[bn,po];omega
def Uu:bn xp i=true↔i=92\/i=47\/i=38:=by simp[bn,xp];omega
def apl:bn Dm i=true↔i=110\/i=92\/i=47\/i=38:=by simp[bn,Dm];omega
def Yk(a:Sc)(h:a.ax=13\/a.ax=14)(b c:Nat):bx a b c=sy a b:=by unfold bx;rcases h with h|h<;>simp[h]
def au4(a:Sc)(c:a.ax=15)(b d:Nat):bx a b d=uv a b:=by unfold bx;simp[c]
def aip(a:Sc)(c:a.ax=8)(b d:Nat):bx a b d=if b=32 then some {a with ax:=9} else none:=by unfold bx;simp[c]
def aiq(a:Sc)(c:a.ax=9)(b d:Nat):bx a b d=some (if b=10 then {a with ax:=0} else a):=by unfold bx;simp[c]
def aii(a:Sc)(d:a.ax=10)(b c:Nat):bx a b c=named a b c:=by unfold bx;simp[d]
def adh:eo S<=9:=by
 unfold eo;split
 .rename_i b a;exact(Me a).2.2.1
 omega
def asp{c:Sc}(i:ed s b=some c)(m:c.ax=13)(u:c.L.a=a)(x:a<=9)(y:b<=s.size)(r:pk s b≠47):
  ((ih s a b).2.2=true/\ed s (ih s a b).1=some c)\/((ih s a b).2.2=false/\jt s (ih s a b).1):=by
 have v:jj c=false:=by simp[jj,m]
 by_cases h:b<s.size
 .rw[fh h]at r;have d:∀e,e=au s b->bx c e b=if e=92 then some {c with ax:=14} else if e=10 then none else some c:=λe g=>by
   rw[Yk c<|.inl m];unfold sy;rw[N,N]
  have d:=d _ rfl;unfold ih;rw[fh h];by_cases p:((au s b:Nat):Int)=38
  .rw[G p];refine .inl ⟨rfl,next i ?_⟩;rw[d,N,N]
  rw[N p];by_cases q:((au s b:Nat):Int)=92
  .rw[G q];have l:=next i (by rw[d,G])
   have t:jj {c with ax:=14}=false:=by simp[jj]
   have w:({{c with ax:=14} with ax:=13}:Sc)=c:=by cases c;simp at m;subst m;rfl
   unfold qf;by_cases j:b+1<s.size
   .have k:bx {c with ax:=14} (au s<|b+1) (b+1)=if bn Dm (au s<|b+1)=true\/(49<=au s (b+1)/\au s (b+1)<=57/\au s (b+1)-48<=a)then some c else none:=by
     rw[Yk _<|.inr rfl];unfold sy;simp only;rw[G trivial,u,w]
    simp only[fh j];simp only[apl]at k;by_cases n:49<=((au s (b+1):Nat):Int)/\((au s (b+1):Nat):Int)<=48+(a:Int)
    .rw[G n];exact .inl ⟨rfl,next l<|by rw[k,G]⟩
    rw[N n];by_cases o:((au s (b+1):Nat):Int)=110
    .rw[G o];exact .inl ⟨rfl,next l<|by rw[k,G]⟩
    rw[N o];by_cases f:br s xp (b+1)=true
    .rw[G f];have:bn xp (au s<|b+1)=true:=by simp[br]at f;exact f.2
     rw[Uu]at this;exact .inl ⟨rfl,next l<|by rw[k,G]⟩
    rw[N f];have:¬(au s (b+1)=92\/au s (b+1)=47\/au s (b+1)=38):=λg=>f (by simp[br,j];exact(Uu _).2 g)
    exact .inr ⟨rfl,np l j<|by rw[k,N]⟩
   have f:br s xp (b+1)=false:=by simp[br,j]
   rw[qj j,N,N,f,N<|by simp];exact .inr ⟨rfl,kj l (by simp only;omega) t⟩
  rw[N q];unfold th;rw[fh h];by_cases g:((au s b:Nat):Int)=-1\/((au s b:Nat):Int)=10
  .rw[G g];exact .inr ⟨rfl,np i h<|by rw[d,N,G]⟩
  rw[N g];exact .inl ⟨rfl,next i<|by rw[d,N,N]⟩
 unfold ih th;rw[qj h,N,N,G<|.inl rfl];exact .inr ⟨rfl,kj i (by simp only;omega) v⟩
def ai6{b:ag}{g:Nat}{x:Sc}(j:x.ax=13:=by omega)(m:x.L.a=g:=by omega)(n:g<=9:=by omega):∀(f a:Nat)(c:List Pc),ed b a=some x->a<=b.size->b.size<f+a->
  ((qe b g f a c).2.2=true/\ed b (qe b g f a c).1=some {x with ax:=15,all:=false,print:=false,uw:=false})\/((qe b g f a c).2.2=false/\jt b (qe b g f a c).1)
 |0,a,c,h,k,hf=>by omega
 |f+1,a,c,h,k,hf=>by
  unfold qe;by_cases e:pk b a=47
  .rw[G e];obtain⟨l,d⟩:=px (c:=47) e;refine .inl ⟨rfl,next h ?_⟩;rw[d,Yk x<|.inl j];unfold sy;rw[N<|by omega,G rfl]
  rw[N e];have p:=asp h j m n k e;have o:=Pv b g a k;have l:=aga b g a k;rcases p with⟨d,i⟩|⟨d,i⟩
  .rw[G d];have:=l d;exact ai6 j m n f _ _ i o.1<|by omega
  rw[N<|by rw[d];simp];exact .inr ⟨rfl,i⟩
def Ow{b:ag}{x:Sc}(n:x.ax=15):∀(f a:Nat)(c e:Bool)(d:Nat),ed b a=some {x with all:=c,print:=e,uw:=decide (d≠0)}->a<=b.size->(if c=true then 0 else 1)+(if e=true then 0 else 1)+(if d=0 then 1 else 0)<f->
  (flagF b f a c e d).1<=b.size/\∃q,ed b (flagF b f a c e d).1=some q/\Ay b (flagF b f a c e d).1 q/\Rr x q
 |0,a,c,e,d,h,t,hf=>by omega
 |f+1,a,c,e,d,h,t,hf=>by
  have p:∀o,bx {x with all:=c,print:=e,uw:=decide (d≠0)} o a=uv {x with all:=c,print:=e,uw:=decide (d≠0)} o:=λo=>au4 {x with all:=c,print:=e,uw:=decide (d≠0)} n o a
  unfold flagF;by_cases k:c=false/\pk b a=103
  .rw[G k];obtain⟨rfl,k⟩:=k;have⟨g,l⟩:=px (c:=103) k;refine Ow n f (a+1) true e d (next h ?_) g (by simp at hf|-;omega);rw[p,l];unfold uv;rw[G ⟨rfl,rfl⟩]
  rw[N k];by_cases m:e=false/\pk b a=112
  .rw[G m];obtain⟨rfl,m⟩:=m;have⟨g,l⟩:=px (c:=112) m;refine Ow n f (a+1) c true d (next h ?_) g (by simp at hf|-;omega);rw[p,l];unfold uv;rw[N,G ⟨rfl,rfl⟩]
  rw[N m];by_cases i:d=0/\br b po a=true
  .rw[G i];obtain⟨rfl,i⟩:=i;have g:=vo i;have l:bn po (au b a)=true:=by simp[br]at i;exact i.2
   rw[Ut]at l;have j:au b a-48≠0:=by omega
   refine Ow n f (a+1) c e (au b a-48) (next h ?_) g (by rw[N j];simp at hf|-;omega);rw[p];unfold uv;rw[N,N,G ⟨l.1,l.2,by simp⟩];simp[j]
  rw[N i];refine⟨t,_,h,⟨λg=>?_,?_⟩,⟨rfl,rfl,rfl,rfl,rfl⟩⟩
  .simp only at g|-;rw[p];rw[fh g]at k m;unfold uv;rw[N<|λj=>k ⟨j.2,by omega⟩,N<|λj=>m ⟨j.2,by omega⟩,N<|λj=>i ⟨by have:=j.2.2;simp at this;exact this,by simp[br,g];exact(Ut _).2 ⟨j.1,j.2.1⟩⟩]
  simp[jj,n]
def aca{b:ag}{d:Sc}(i:d.ax=9:=by omega):∀(f a:Nat),ed b a=some d->a<=b.size->b.size<=f+a->ed b (jh b f a)=some d/\a<=jh b f a/\jh b f a<=b.size/\(jh b f a<b.size->au b (jh b f a)=10)
 |0,a,h,j,hf=>⟨h,ah,j,λe=>by simp only[jh]at e;omega⟩
 |f+1,a,h,j,hf=>by
  unfold jh;by_cases c:a<b.size/\au b a≠10
  .rw[G c];have l:=next h (by rw[aiq d i,N c.2])
   obtain⟨g,m,k⟩:=aca i f (a+1) l c.1 (by omega);exact⟨g,by omega,k⟩
  rw[N c];exact⟨h,ah,j,λe=>by
   by_cases g:au b a=10
   .exact g
   exact cb ⟨e,g⟩ c⟩
def ako{b:Sc}(c:b.ax=9)(d:a<s.size->au s a=10):Ay s a b:=⟨λe=>by
 rw[aiq b c,d e,G rfl];rfl,by simp[jj,c]⟩
def ari(c:j<=k)(b:k<S.size):ub (S.extract j<|k+1)=ub (S.extract j k)++[au S k]:=by
 have hd:k<S.data.size:=b;unfold ub;rw[yyg,yyg,Array.extract_succ_right (by omega) hd];have a:au S k=(S.data[k]).toNat:=by
  unfold au;rw[yz,Array.getElem?_toList,Array.getElem?_eq_getElem hd];rfl
 rw[a,Array.toList_push,yys];rfl
def arh:ub (S.extract j j)=[]:=by
 unfold ub;rw[yyg];simp
def aee{b:ag}{c:Sc}{i0:Nat}(j:c.ax=10):∀(f a:Nat),i0<=a->a<=b.size->(a-i0)+f=8->
  ed b a=some {c with bm:=a-i0,bu:=c.bu++(if a=i0 then [] else [⟨ub<|b.extract i0 a,i0,c.cn⟩])}->
  ed b (eg b f a)=some {c with bm:=eg b f a-i0,bu:=c.bu++(if eg b f a=i0 then [] else [⟨ub<|b.extract i0<|eg b f a,i0,c.cn⟩])}/\(eg b f a<b.size->¬(97<=au b (eg b f a)/\au b (eg b f a)<=122)\/eg b f a-i0=8)
 |0,a,d,g,hf,h=>⟨h,λ_=> .inr<|by simp only[eg];omega⟩
 |f+1,a,d,g,hf,h=>by
  unfold eg;by_cases i:97<=pk b a/\pk b a<=122
  .rw[G i];have⟨e,l⟩:=ho (s:=b) (i:=a);rw[l]at i;refine aee j f (a+1) (by omega) e (by omega)<|next h ?_;rw[aii]
   rotate_left
   .exact j
   unfold named;simp only;rw[G,N (by omega:¬a+1=i0),ari b i0 a d e,show a+1-i0=a-i0+1 by omega];by_cases k:a=i0
   .subst k;rw[G<|xx _,G rfl,arh,xu];unfold Hw;simp
   rw[N (by omega:¬a-i0=0),N k];unfold Hw;simp
  rw[N i];refine⟨h,λe=> .inl ?_⟩;rw[fh e]at i;omega
def Ph(c:List ft)(a:ft):ma (c++[a])=ma c++(if a.name.size=0 then [] else [⟨ub a.name,a.H, !a.want⟩]):=by
 unfold ma;rw[yze,yys];congr 1;by_cases b:a.name.size=0
 .rw[G b,yxm<|by simp only[xz];exact λd=>d b];rfl
 rw[N b,yzv<|by simp only[xz];exact b];rfl
def aef{b:Sc}{lg:Int}{bh:List ft}(h:Bool)(r:ed s a=some b)(e:b.ax=10)(m:b.bm=0)(v:b.cn= !h)(l:a<=s.size)(n:Nt b lg bh):
  ∃g,ed s (eg s 8 a)=some g/\g.op=b.op/\Nt g lg (bh++[⟨s.extract a<|eg s 8 a,a,i,h⟩])/\(b.gf<=eg s 8 a-a->Ay s (eg s 8 a) g)/\(eg s 8 a-a<b.gf->jt s (eg s 8 a)):=by
 have⟨t,u⟩:=Am s 8 a l;have⟨f,o⟩:=aee (i0:=a) e 8 a ah l (by omega) (by
  rw[G rfl,xu,xx,r];cases b;simp at m;subst m;rfl)
 have j:(s.extract a<|eg s 8 a).size=eg s 8 a-a:=by rw[lw];omega
 generalize eg s 8 a=c at f o t u j;have k:c<s.size->bx {b with bm:=c-a,bu:=b.bu++(if c=a then [] else [⟨ub<|s.extract a c,a,b.cn⟩])} (au s c) c=if c-a<b.gf then none else qk {b with bm:=c-a,bu:=b.bu++(if c=a then [] else [⟨ub<|s.extract a c,a,b.cn⟩])} (au s c):=λd=>by
  rw[aii]
  rotate_left
  .exact e
  unfold named;simp only;rw[N (by have:=o d;omega)]
 refine⟨_,f,rfl,⟨?_,n.bk⟩,λp=>⟨λd=>?_,?_⟩,λp=>?_⟩
 .rw[Ph];simp only;rw[j,n.bu,v];congr 1;by_cases q:c=a
  .rw[G q,G]
  rw[N q,N]
 .rw[k d,N]
 .simp[jj,e];intro _
  omega
 by_cases d:c<s.size
 .exact np f d<|by rw[k d,G p]
 refine kj f (by omega) ?_;simp[jj,e];intro _
 omega
def Kn:bn yr i=true↔i=10\/i=47:=by simp[bn,yr];omega
def Pb:bn mg i=true↔i=110\/i=92\/i=47:=by simp[bn,mg];omega
def Pd:bn Qqg i=true↔i=110\/i=92\/i=47:=by simp[bn,Qqg];omega
def aik(a:Sc)(c:a.ax=16)(b d:Nat):bx a b d=if b=47 then some {a with ax:=17,row:=λ_=>false,rows:=0} else none:=by unfold bx;simp[c]
def Yl(a:Sc)(h:a.ax=17\/a.ax=18)(b c:Nat):bx a b c=pg a b:=by unfold bx;rcases h with h|h<;>simp[h]
def ail(a:Sc)(h:a.ax=19\/a.ax=20)(b c:Nat):bx a b c=rj a b:=by unfold bx;rcases h with h|h<;>simp[h]
def ain(a:Sc)(c:a.ax=21)(b d:Nat):bx a b d=if b=47 then some {a with ax:=7} else none:=by unfold bx;simp[c]
def vq(x:Sc)(l:List Nat):Sc:={x with ax:=17,row:=λk=>l.contains k,rows:=l.length}
def Jc(x:Sc)(l:List Nat):Sc:={x with ax:=18,row:=λk=>l.contains k,rows:=l.length}
def aex(f:Sc)(c:List Nat)(a:Nat):yt (vq f c) a=if c.contains a=true then none else some (vq f<|c++[a]):=by
 unfold yt vq;simp only;by_cases d:c.contains a=true
 .rw[G d,G d]
 rw[N d,N d];have g:(λb=>if b=a then true else c.contains b)=λb=>(c++[a]).contains b:=by
  funext b;by_cases e:b=a
  .subst e;simp
  simp[e]
 rw[g];simp
def aoe(f:Sc)(a:List Nat)(b i:Nat)(g:b≠47):bx (vq f a) b i=if b=92 then(if vm a=true then none else some (Jc f a))else if b=10\/a.contains b=true then none else some (vq f<|a++[b]):=by
 rw[Yl _<|.inl rfl];unfold pg;rw[N<|by unfold vq;simp,N g];by_cases d:b=92
 .rw[G d,G d];by_cases c:vm a=true
  .rw[G c,if_neg];unfold vm at c;unfold vq;simp only;simp at c|-;exact⟨c.1.1,c.1.2,c.2⟩
  rw[N c,if_pos]
  .rfl
  unfold vm at c;unfold vq;simp only;cases e:a.contains 10<;>cases h:a.contains 92<;>cases j:a.contains 47<;>simp_all
 rw[N d,N d];by_cases c:b=10
 .rw[G c,G<|.inl c]
 rw[N c,aex];by_cases e:a.contains b=true
 .rw[G e,G<|.inr e]
 rw[N e,N<|λh=>h.elim c e]
def acm(d:Sc)(b:List Nat)(a g:Nat):bx (Jc d b) a g=if bn mg a=true then(if b.contains (val a)=true then none else some (vq d<|b++[val a]))else none:=by
 rw[Yl _<|.inr rfl];unfold pg;rw[G<|by unfold Jc;rfl];have f:({Jc d b with ax:=17}:Sc)=vq d b:=rfl;rw[f,aex];by_cases c:bn mg a=true
 .rw[G c,G<|(Pd a).2<|(Pb a).1 c]
 rw[N c,N<|λe=>c<|(Pb a).2<|(Pd a).1 e]
def aod{c:ag}{h:Sc}{d:List Nat}{b:Nat}(j:ed c b=some (vq h d))(t:b<=c.size)(q:pk c b≠47):
  ((fa c d b).2.2=true/\ed c (fa c d b).1=some (vq h<|d++[(fa c d b).2.1]))\/((fa c d b).2.2=false/\jt c (fa c d b).1):=by
 have s:jj (vq h d)=false:=by simp[jj,vq]
 have r:jj (Jc h d)=false:=by simp[jj,Jc]
 unfold fa;by_cases f:b<c.size
 .rw[fh f]at q;simp only[fh f];have e:=aoe h d (au c b) b (by omega);by_cases m:((au c b:Nat):Int)=92
  .rw[G m];rw[G]at e;by_cases o:vm d=true
   .rw[G o]at e|-;exact .inr ⟨rfl,np j f e⟩
   rw[N o]at e|-;have l:=next j e
   by_cases g:br c mg (b+1)=true
   .rw[G g];have k:=vo g;have a:bn mg (au c<|b+1)=true:=by simp[br]at g;exact g.2
    have i:=acm h d (au c<|b+1)<|b+1;rw[G a]at i;by_cases p:d.contains (val<|au c<|b+1)=true
    .rw[G p]at i|-;exact .inr ⟨rfl,np l k i⟩
    rw[N p]at i|-;exact .inl ⟨rfl,next l i⟩
   rw[N g];refine .inr ⟨rfl,?_⟩;by_cases k:b+1<c.size
   .refine np l k ?_;rw[acm,N<|λa=>g<|by simp[br,k,a]]
   exact kj l (by simp only;omega) r
  rw[N m];rw[N]at e;by_cases a:((au c b:Nat):Int)=-1\/br c yr b=true\/d.contains (au c b)=true
  .rw[G a];refine .inr ⟨rfl,np j f ?_⟩;rw[e,if_pos];rcases a with a|a|a
   .omega
   .have:bn yr (au c b)=true:=by simp[br]at a;exact a.2
    rw[Kn]at this;left;omega
   exact .inr a
  rw[N a];refine .inl ⟨rfl,next j ?_⟩;rw[e,if_neg];rintro(n|n)
  .exact a<|.inr<|.inl<|by simp[br,f];exact(Kn _).2<|.inl n
  exact a<|.inr<|.inr n
 rw[qj f,N,G<|.inl rfl];exact .inr ⟨rfl,kj j (by simp only;omega) s⟩
def ahf{b:ag}{k:Sc}:∀(f a:Nat)(c:List Nat),ed b a=some (vq k c)->a<=b.size->b.size<f+a->
  ((rowL b f a c).2.2=true/\ed b (rowL b f a c).1=some {k with ax:=if(rowL b f a c).2.1.length=0 then 21 else 19,row:=λl=>(rowL b f a c).2.1.contains l,rows:=(rowL b f a c).2.1.length,bm:=0})\/((rowL b f a c).2.2=false/\jt b (rowL b f a c).1)
 |0,a,c,h,g,hf=>by omega
 |f+1,a,c,h,g,hf=>by
  unfold rowL;by_cases e:pk b a=47
  .rw[G e];have⟨i,d⟩:=px (c:=47) e;refine .inl ⟨rfl,next h ?_⟩;rw[d,Yl _<|.inl rfl];unfold pg;rw[N<|by unfold vq;simp,G rfl];rfl
  rw[N e];have j:=Hd b c a g;rcases aod h g e with⟨d,i⟩|⟨d,i⟩
  .rw[G d];have:=j.2.2.2 d;exact ahf f _ _ i j.1<|by omega
  rw[N<|by rw[d];simp];exact .inr ⟨rfl,i⟩
def wo(x:Sc)(m k:Nat):Sc:={x with ax:=m,bm:=k}
def awa(c:Sc)(b a d:Nat):bx (wo c 19 b) a d=if a=92 then some (wo c 20 b)else if a=47\/a=10 then none else some (wo c (if b+1=c.rows then 21 else 19)<|b+1):=by
 rw[ail _<|.inl rfl];unfold rj;rw[N<|by unfold wo;simp];rfl
def ai7(d:Sc)(c a f:Nat):bx (wo d 20 c) a f=if bn mg a=true then some (wo d (if c+1=d.rows then 21 else 19)<|c+1)else none:=by
 rw[ail _<|.inr rfl];unfold rj;rw[G<|by unfold wo;rfl];by_cases b:bn mg a=true
 .rw[G b,G<|(Pd a).2<|(Pb a).1 b];rfl
 rw[N b,N<|λe=>b<|(Pb a).2<|(Pd a).1 e]
def av9{c:ag}{e:Sc}{d b:Nat}(i:ed c b=some (wo e 19 d))(p:b<=c.size):
  ((fa c [] b).2.2=true/\ed c (fa c [] b).1=some (wo e (if d+1=e.rows then 21 else 19)<|d+1))\/((fa c [] b).2.2=false/\jt c (fa c [] b).1):=by
 have o:jj (wo e 19 d)=false:=by simp[jj,wo]
 have m:jj (wo e 20 d)=false:=by simp[jj,wo]
 have n:vm []=false:=rfl;unfold fa;by_cases h:b<c.size
 .simp only[fh h];have f:=awa e d (au c b) b;by_cases k:((au c b:Nat):Int)=92
  .rw[G k,n,N<|by simp];rw[G]at f;have j:=next i f
   by_cases g:br c mg (b+1)=true
   .rw[G g,N<|by simp];have a:bn mg (au c<|b+1)=true:=by simp[br]at g;exact g.2
    have l:=ai7 e d (au c<|b+1)<|b+1;rw[G a]at l;exact .inl ⟨rfl,next j l⟩
   rw[N g];refine .inr ⟨rfl,?_⟩;by_cases l:b+1<c.size
   .refine np j l ?_;rw[ai7,N<|λa=>g<|by simp[br,l,a]]
   exact kj j (by simp only;omega) m
  rw[N k];rw[N]at f;by_cases a:((au c b:Nat):Int)=-1\/br c yr b=true\/List.contains [] (au c b)=true
  .rw[G a];refine .inr ⟨rfl,np i h ?_⟩;rw[f,if_pos];rcases a with a|a|a
   .omega
   .have:bn yr (au c b)=true:=by simp[br]at a;exact a.2
    rw[Kn]at this;omega
   simp at a
  rw[N a];refine .inl ⟨rfl,next i ?_⟩;rw[f,if_neg];intro g
  exact a<|.inr<|.inl<|by simp[br,h];exact(Kn _).2<|by omega
 rw[qj h,N,G<|.inl rfl];exact .inr ⟨rfl,kj i (by simp only;omega) o⟩
def ahj{a:ag}{x:Sc}:∀(f b e:Nat)(d:List Nat),ed a b=some (wo x (if f=0 then 21 else 19) e)->e+f=x.rows->b<=a.size->
  ((mp a f b d).2.2=true/\(mp a f b d).1<=a.size/\ed a (mp a f b d).1=some (wo x 21 x.rows))\/((mp a f b d).2.2=false/\jt a (mp a f b d).1)
 |0,b,e,d,h,g,c=> .inl ⟨rfl,c,by rw[G rfl]at h;rw[<-g];exact h⟩
 |f+1,b,e,d,h,g,c=>by
  rw[N]at h;unfold mp;have l:=Hd a [] b c;rcases av9 h c with⟨i,j⟩|⟨i,j⟩
  .rw[G i];refine ahj f _ (e+1) _ ?_ (by omega) l.1;rw[j];by_cases k:f=0
   .rw[G k,G]
   rw[N k,N]
  rw[N<|by rw[i];simp];exact .inr ⟨rfl,j⟩
def atw{b:Sc}(k:ed s a=some b)(m:b.ax=16)(E:a<=s.size):
  ((jo s a).2.2.2=true/\(jo s a).1<=s.size/\∃t,ed s (jo s a).1=some t/\t.ax=7/\Rr b t)\/((jo s a).2.2.2=false/\jt s (jo s a).1):=by
 unfold jo;by_cases f:pk s a=47
 .rw[G f];have⟨d,x⟩:=px (c:=47) f;have y:ed s (a+1)=some (vq b []):=by
   refine next k ?_
   rw[x,aik b m,G rfl];unfold vq;simp
  have n:=ahf (s.size+1) (a+1) [] y d (by omega);have j:=Xl s (s.size+1) (a+1) [] d;simp only;generalize rowL s (s.size+1) (a+1) []=A at n j;have⟨v,c,C⟩:=A;simp only at n j;rcases n with⟨h,i⟩|⟨h,i⟩
  .subst h;simp only[if_true];have o:=ahj (x:={b with row:=λl=>c.contains l,rows:=c.length}) c.length v 0 [] i (by simp) j.2;generalize mp s c.length v []=z at o;have⟨p,D,B⟩:=z;simp only at o;rcases o with⟨q,u,r⟩|⟨q,u⟩
   .subst q;simp only[if_true];by_cases g:pk s p=47
    .rw[G g];have⟨e,w⟩:=px (c:=47) g;refine .inl ⟨rfl,e,{wo {b with row:=λl=>c.contains l,rows:=c.length} 21 c.length with ax:=7},next r ?_,rfl,⟨rfl,rfl,rfl,rfl,rfl⟩⟩;rw[w,ain _ rfl,G rfl]
    rw[N g];refine .inr ⟨rfl,?_⟩;by_cases e:p<s.size
    .refine np r e ?_;rw[fh e]at g;have w:¬au s p=47:=by omega
     rw[ain _ rfl,N w]
    exact kj r (by simp only;omega)<|by simp[jj,wo]
   subst q;simp only[Ax,yyv];exact .inr ⟨trivial,u⟩
  subst h;simp only[Ax,yyv];exact .inr ⟨trivial,i⟩
 rw[N f];refine .inr ⟨rfl,?_⟩;by_cases d:a<s.size
 .refine np k d ?_;rw[fh d]at f;have c:¬au s a=47:=by omega
  rw[aik b m,N c]
 exact kj k (by simp only;omega)<|by simp[jj,m]
def Km:bn pm i=true↔i=123\/i=100\/i=68\/i=110\/i=78\/i=112\/i=80\/i=103\/i=71\/i=104\/i=72\/i=120\/i=61\/i=113\/i=97\/i=105\/i=99\/i=98\/i=116\/i=115\/i=121:=by simp[bn,pm];omega
def apk:bn Gy i=true↔i=100\/i=68\/i=110\/i=78\/i=112\/i=80\/i=103\/i=71\/i=104\/i=72\/i=120\/i=61\/i=113:=by simp[bn,Gy];omega
def apm:bn Je i=true↔i=97\/i=105\/i=99:=by simp[bn,Je];omega
def kinds(b:Sc)(a:Nat)(c:bn pm a=true):
  (ei a=0/\di b a=if b.op+1<=5 then some {b with op:=b.op+1,ax:=0} else none)\/
  ((ei a=14\/ei a=15\/ei a=16)/\di b a=some {b with ax:=8})\/
  ((ei a=17\/ei a=18)/\di b a=some {b with ax:=10,gf:=0,bm:=0,cn:=false})\/
  (ei a=19/\di b a=some {b with ax:=11})\/
  (ei a=20/\di b a=some {b with ax:=16})\/
  ((ei a≠0/\¬(ei a=14\/ei a=15\/ei a=16)/\¬(ei a=17\/ei a=18)/\ei a≠19/\ei a≠20)/\di b a=some {b with ax:=7}):=by
 rcases(Km a).1 c with rfl|rfl|rfl|rfl|rfl|rfl|rfl|rfl|rfl|rfl|rfl|rfl|rfl|rfl|rfl|rfl|rfl|rfl|rfl|rfl|rfl
 .exact .inl ⟨by decide,rfl⟩
 iterate 13 ·exact .inr (.inr<|.inr<|.inr<|.inr ⟨by decide,rfl⟩)
 iterate 3 ·exact .inr (.inl ⟨by decide,rfl⟩)
 iterate 2 ·exact .inr (.inr<|.inl ⟨by decide,rfl⟩)
 .exact .inr<|.inr<|.inr<|.inl ⟨by decide,rfl⟩
 exact .inr<|.inr<|.inr<|.inr<|.inl ⟨by decide,rfl⟩
def Pq(c:Sc)(a:Nat)(b:¬bn pm a=true):di c a=none:=by
 rw[Km]at b;unfold di;rw[N,N<|by rw[apk];omega,N<|by rw[apm];omega,N,N,N]
def Hi.lt{d:cj×Bool}(h:Hi s b d c)(j:a<=b:=by omega):Hi s a d c:=by
 rcases h with⟨e,f,i,g⟩|h
 .exact .inl ⟨e,f,by omega,g⟩
 exact .inr h
def aij(a:Sc)(d:a.ax=11)(b c:Nat):bx a b c=if b=47 then some (pattern {a with ax:=12} (c+1))else none:=by unfold bx;simp[d]
def as5{d:Sc}{lg:Int}{bh:List ft}(e:Cm)(n:ed s a=some d)(o:d.ax=11)(S:a<=s.size)(y:Nt d lg bh):
  ((ii s a lg e).2.2.2=true/\a<(ii s a lg e).1/\(ii s a lg e).1<=s.size/\∃f,ed s (ii s a lg e).1=some f/\Ay s (ii s a lg e).1 f/\f.op=d.op/\Nt f (ii s a lg e).2.2.1 bh)\/((ii s a lg e).2.2.2=false/\jt s (ii s a lg e).1):=by
 unfold ii;by_cases g:pk s a=47
 .rw[G g];have⟨h,z⟩:=px (c:=47) g;have A:=next n (by rw[z,aij d o,G rfl])
  have p:=af2 lg A (.inr rfl) rfl rfl h;have l:=adh (dx s (a+1) lg).2.1;simp only;generalize dx s (a+1) lg=L at p l;have⟨c,b,M,Q⟩:=L;simp only at p l;rcases p with⟨q,v,r,B,w,C,D⟩|⟨q,v⟩
  .subst q;simp only[if_true];have j:=ai6 (g:=eo b) (x:={pattern {d with ax:=12} (a+1)with L:=w,db:=d.db++[b.size],ax:=13}) rfl C l (s.size+1) c [] D r (by omega);have m:=Yt s (eo b) (s.size+1) c [] r;have i:=ai3 s (eo b) (s.size+1) c [] r;change(((ks s (eo b) c).2.2=true/\ed s (ks s (eo b) c).1=_)\/((ks s (eo b) c).2.2=false/\jt s (ks s (eo b) c).1))at j;change c<=(ks s (eo b) c).1 at m;change(ks s (eo b) c).1<=s.size at i;generalize ks s (eo b) c=K at j m i;have⟨x,R,P⟩:=K;simp only at j m i;rcases j with⟨t,u⟩|⟨t,u⟩
   .subst t;simp only[if_true];have⟨E,f,F,H,k⟩:=Ow (x:={pattern {d with ax:=12} (a+1)with L:=w,db:=d.db++[b.size],ax:=15}) rfl 4 x false false 0 u i (by decide);have hF:=Kj s 4 x false false 0;refine .inl ⟨trivial,by omega,E,f,F,H,k.op,?_⟩;refine⟨k.bu.trans y.bu,?_⟩;rw[k.fp,k.db,B];exact y.bk.more (a+1) _
   subst t;simp only[Ax,yyv];exact .inr ⟨trivial,u⟩
  subst q;simp only[Ax,yyv];exact .inr ⟨trivial,v⟩
 rw[N g];refine .inr ⟨rfl,?_⟩;by_cases h:a<s.size
 .refine np n h ?_;rw[fh h]at g;have b:¬au s a=47:=by omega
  rw[aij d o,N b]
 exact kj n (by simp only;omega)<|by simp[jj,o]
def ajn{row:cj->cj×Bool}(K:Nf s row a){p:cj}(v:Cm){D x:Sc}(i:ed s p.H=some D)(W:p.H<=s.size)(E:p.H<s.size->bx D (au s p.H) p.H=di x (au s p.H))
  (M:p.H=s.size->jj D=false) (u:x.op=p.op) (S:p.op<=5) (V:6<=p.op+1+a) (n:Nt x p.bk p.bh):Hi s p.H (lm row s p v) p.op:=by
 unfold lm;by_cases o:br s pm p.H=true
 .rw[G o];have d:=vo o;have y:bn pm (au s p.H)=true:=by simp[br]at o;exact o.2
  have c:=E d;simp only;rcases kinds x (au s p.H) y with⟨g,h⟩|⟨g,h⟩|⟨g,h⟩|⟨g,h⟩|⟨g,h⟩|⟨⟨j,g,m,t,z⟩,h⟩
  .rw[G g];unfold qr;rw[h]at c;by_cases F:p.op=5
   .rw[G F];rw[N]at c;exact .inr ⟨rfl,np i d c⟩
   rw[N F];rw[G]at c;have e:=next i c
   simp only;have q:=K {p with H:=p.H+1,op:=p.op+1,U:=p.U++[{v with R:=ei<|au s p.H}]} _ ⟨e,d,.inl rfl⟩ (by show x.op+1=p.op+1;omega) (by show p.op+1<=5;omega) (by show 6<=p.op+1+a;omega)<|n.of rfl rfl rfl;generalize row {p with H:=p.H+1,op:=p.op+1,U:=p.U++[{v with R:=ei<|au s p.H}]}=P at q;have⟨C,X⟩:=P;simp only at q;rcases q with⟨w,H,U,r,A,T,Q⟩|⟨w,H⟩
   .subst w;rcases A.out with⟨b,f⟩|⟨b,f,l,k⟩
    .have B:¬(true=true/\pk s C.H=125):=λL=>by
      have:=L.2;rw[qj]at this;omega
     rw[N B];refine .inr ⟨rfl,kj A.run b ?_⟩;rw[f];simp;omega
    have B:(true=true/\pk s C.H=125):=⟨rfl,by rw[fh b,f];rfl⟩;rw[G B];have R:=next A.run (by rw[f];exact k)
    have L:p.H<C.H+1:=by omega
    exact .inl ⟨rfl,by simp only;omega,L,b,_,R,Nr rfl,by simp only;omega,Q.of rfl rfl rfl⟩
   subst w;rw[N<|by simp];exact .inr ⟨rfl,H⟩
  .have j:¬ei (au s p.H)=0:=by omega
   rw[N j,G g];rw[h]at c;have e:=next i c
   by_cases w:pk s (p.H+1)=32
   .rw[G w];have⟨q,A⟩:=px (c:=32) w;have B:ed s (p.H+1+1)=some {x with ax:=9}:=next e (by rw[A,aip _ rfl,G rfl])
    obtain⟨b,f,l,k⟩:=aca rfl (s.size-(p.H+1+1)) (p.H+1+1) B q (by omega);change ed s (ci s<|p.H+1+1)=_ at b;change p.H+1+1<=ci s (p.H+1+1)at f;exact .inl ⟨rfl,rfl,by simp only;omega,l,_,b,ako rfl k,u,n.of rfl rfl rfl⟩
   rw[N w];refine .inr ⟨rfl,?_⟩;by_cases q:p.H+1<s.size
   .refine np e q ?_;rw[fh q]at w;have A:¬au s (p.H+1)=32:=by omega
    rw[aip _ rfl,N A]
   exact kj e (by simp only;omega)<|by simp[jj]
  .have j:¬ei (au s p.H)=0:=by omega
   have m:¬(ei (au s p.H)=14\/ei (au s p.H)=15\/ei (au s p.H)=16):=by omega
   rw[N j,N m,G g];rw[h]at c;have e:=next i c
   have⟨r,b,f,l,k,_⟩:=aef (lg:=p.bk) (bh:=p.bh) p.U.length true e rfl rfl rfl d<|n.of rfl rfl rfl;have⟨q,w⟩:=Am s 8 (p.H+1) d;exact .inl ⟨rfl,rfl,by show p.H<eg s 8 (p.H+1);omega,q,r,b,k<|ey _,f.trans u,l⟩
  .have j:¬ei (au s p.H)=0:=by omega
   have m:¬(ei (au s p.H)=14\/ei (au s p.H)=15\/ei (au s p.H)=16):=by omega
   have t:¬(ei (au s p.H)=17\/ei (au s p.H)=18):=by omega
   rw[N j,N m,N t,G g];rw[h]at c;have e:=next i c
   rcases as5 (lg:=p.bk) (bh:=p.bh) {v with R:=ei<|au s p.H} e rfl d (n.of rfl rfl rfl)with⟨b,f,l,r,k,w,q,A⟩|⟨b,f⟩
   .exact .inl ⟨b,rfl,by show p.H<(ii _ _ _ _).1;omega,l,r,k,w,q.trans u,A⟩
   exact .inr ⟨b,f⟩
  .have j:¬ei (au s p.H)=0:=by omega
   have m:¬(ei (au s p.H)=14\/ei (au s p.H)=15\/ei (au s p.H)=16):=by omega
   have t:¬(ei (au s p.H)=17\/ei (au s p.H)=18):=by omega
   have z:¬ei (au s p.H)=19:=by omega
   rw[N j,N m,N t,N z,G g];rw[h]at c;have e:=next i c
   rcases atw e rfl d with⟨b,l,r,k,w,q⟩|⟨b,f⟩
   .have A:=aht s (p.H+1) d;exact .inl ⟨b,rfl,by show p.H<(jo _ _).1;omega,l,r,k,Nr w,q.op.trans u,n.of q.bu q.fp q.db⟩
   exact .inr ⟨b,f⟩
  rw[N j,N g,N m,N t,N z];rw[h]at c;have e:=next i c
  exact .inl ⟨rfl,rfl,yxo _,d,_,e,Nr rfl,u,n.of rfl rfl rfl⟩
 rw[N o];refine .inr ⟨rfl,?_⟩;by_cases d:p.H<s.size
 .refine np i d ?_;rw[E d];exact Pq x _<|λy=>o<|by simp[br,d,y]
 exact kj i (by show p.H=s.size;omega)<|M<|by omega
def Nq(b:Sc)(a:Nat)(d:a≠32)(e:a≠33\/b.ax=5):lc b a=di b a:=by
 unfold lc;rw[N<|λc=>d c.1,N<|λc=>by omega]
def ak4(b:Sc)(a c:Nat)(e:¬bn fc a=true)(f:a≠125)(g:a≠58)(h:¬bn ws a=true):begin' b a c=lc {b with part:=1} a:=by
 rw[Ak]at e;rw[adt]at h;have d:spot {b with part:=1} a c=none:=by
  unfold spot;rw[N,N,N]
 unfold begin';rw[N,N f,N g,d]
def amb{c:ag}{row:cj->cj×Bool}{K:Nat}(T:Nf c row K)(b:cj)(j:Sc)(D:ed c b.H=some j)(q:j.ax=0)(L:b.H<c.size)(M:¬bn fc (au c b.H)=true)(Z:¬(au c b.H=125/\0<b.op))
  (E:j.op=b.op) (R:b.op<=5) (S:6<=b.op+1+K) (w:Nt j b.bk b.bh):Hi c b.H (iw row c b) b.op:=by
 --where the H ends:what comes next is a4 by 'm of a state there
 have F:((cq c b.H b.bk).2.2.2.2=true/\b.H<=(cq c b.H b.bk).1/\(cq c b.H b.bk).1<=c.size/\∃h i,ed c (cq c b.H b.bk).1=some h/\i.op=j.op/\Nt i (cq c b.H b.bk).2.2.2.1 b.bh/\i.ax≠5/\
   ((cq c b.H b.bk).1=c.size->jj h=false)/\
   ((cq c b.H b.bk).1<c.size->au c (cq c b.H b.bk).1≠32/\(((cq c b.H b.bk).1=b.H/\h=j/\au c b.H=58/\(cq c b.H b.bk).2.2.2.1=b.bk)\/
    (((cq c b.H b.bk).1=b.H->au c b.H≠58)/\(bx h (au c (cq c b.H b.bk).1) (cq c b.H b.bk).1=lc i (au c (cq c b.H b.bk).1))))))\/((cq c b.H b.bk).2.2.2.2=false/\jt c (cq c b.H b.bk).1):=by
  by_cases f:br c ws b.H=true
  .rcases akm D q f w with⟨o,r,x,h,p,l,s,y⟩|g
   .refine .inl ⟨o,by omega,x,h,h,p,s,y,by have:=l.ax;omega,λ_=>Qr (by have:=l.ax;omega),λe=>⟨(l.sep e).1,.inr ⟨λd=>by omega,(l.sep e).2⟩⟩⟩
   exact .inr g
  have d:cq c b.H b.bk=(b.H,gi,gi,b.bk,true):=by rw[cq,N f]
  rw[d];have n:¬bn ws (au c b.H)=true:=λk=>f<|by simp[br,L,k]
  refine .inl ⟨rfl,ah,yyh L,j,{j with part:=1},D,rfl,w.of rfl rfl rfl,by simp[q],λd=>?_,λ_=>⟨λd=>M<|(Ak _).2<|.inl d,?_⟩⟩
  .simp only at d;omega
  by_cases g:au c b.H=58
  .exact .inl ⟨rfl,rfl,g,rfl⟩
  refine .inr ⟨λ_=>g,?_⟩;simp only;rw[Mi j q];by_cases e:au c b.H=125
  .rw[e];unfold begin';rw[N,G rfl,N<|λz=>Z ⟨e,by omega⟩];rw[Nq _ _ (by omega)<|.inl<|by omega];exact(Pq _ _<|by rw[Km];omega).symm
  exact ak4 j _ _ M e g n
 unfold iw;simp only;generalize cq c b.H b.bk=W at F;have⟨f,a7,a8,U,a6⟩:=W;simp only at F;rcases F with⟨o,r,x,h,i,p,l,s,y,a2,t⟩|⟨o,r⟩
 .subst o;simp only[if_true];by_cases v:pk c f=33
  .rw[G v];have⟨e,k⟩:=px (c:=33) v;have X:bx h (au c f) f=lc i (au c f):=by
    rcases(t e).2 with⟨d,_,A,_⟩|⟨_,d⟩
    .rw[d]at k;omega
    exact d
   have B:ed c (f+1)=some {i with ax:=5}:=by
    refine next p ?_
    rw[X,k];unfold lc;rw[N,G ⟨rfl,y⟩]
   have C:ed c (skip c dh<|f+1)=some {i with ax:=5}:=by
    refine Md (λn P u=>?_) B;rw[Qn _<|.inr rfl,(wi n).1 u];unfold lc;simp
   have a0:=An c dh (f+1) e;have P:=si c dh (f+1) e;have Q:=Mc c dh<|f+1;generalize skip c dh (f+1)=n at C a0 P Q;have V:n<c.size->bx {i with ax:=5} (au c n) n=di {i with ax:=5} (au c n):=λu=>by
    rw[Qn _<|.inr rfl];refine Nq _ _ (λd=>?_)<|.inr rfl;have a1:=(wi _).2 d;simp[br,u,a1]at Q
   by_cases g:pk c n=58
   .rw[G g];have⟨u,a1⟩:=px (c:=58) g;refine .inr ⟨rfl,np C u ?_⟩;rw[V u,a1];exact Pq _ _ (by rw[Km];omega)
   rw[N g];exact(ajn T (p:={b with H:=n,bk:=U}) _ C P V (λ_=>Qr<|.inr<|.inr<|.inr<|.inr rfl) (l.trans E) R S<|s.of rfl rfl rfl).lt (by show b.H<=n;omega)
  rw[N v];by_cases g:pk c f=58
  .rw[G g];have⟨e,k⟩:=px (c:=58) g;rcases(t e).2 with⟨d,n,A,C⟩|⟨d,n⟩
   .rw[G d];subst d n C;have B:ed c (b.H+1)=some {h with ax:=10,gf:=1,bm:=0,cn:=true}:=by
     refine next D ?_
     rw[k,Mi h q];rfl
    have⟨a3,P,Q,V,X,a0⟩:=aef (lg:=b.bk) (bh:=b.bh) b.U.length false B rfl rfl rfl e<|w.of rfl rfl rfl;have⟨a1,a5⟩:=Am c 8 (b.H+1) e;by_cases u:b.H+1<eg c 8 (b.H+1)
    .exact .inl ⟨by simpa using u,rfl,by show b.H<eg c 8 (b.H+1);omega,a1,a3,P,X<|by show 1<=_;omega,Q.trans E,V⟩
    exact .inr ⟨by simpa using u,a0<|by show _<1;omega⟩
   have u:¬f=b.H:=λz=>d z (by rw[<-z];exact k)
   rw[N u];refine .inr ⟨rfl,np p e ?_⟩;rw[n,k,Nq _ _ (by omega)<|.inl<|by omega];exact Pq _ _ (by rw[Km];omega)
  rw[N g];refine(ajn T (p:={b with H:=f,bk:=U}) _ (x:=i) p x (λe=>?_) a2 (l.trans E) R S s).lt r;simp only at e|-;rw[fh e]at v g;rcases(t e).2 with⟨d,_,A,_⟩|⟨_,d⟩
  .rw[<-d]at A;omega
  rw[d];exact Nq _ _ (t e).1<|.inl<|by omega
 subst o;simp only[Ax,yyv];exact .inr ⟨rfl,r⟩
def ahp(a:ag):∀N,Nf a (Qqf a N) N
 |0=>λg h b c d e f=>by omega
 |N+1=>atr<|λg h b c d e f i j k l=>amb (ahp a N) g h b c d e f i j k l
def atv:((hq S).2=true/\∃a,Ng S a/\Nt a (hq S).1.bk (hq S).1.bh)\/((hq S).2=false/\jt S (hq S).1.H):=by
 rcases ahp S 7 ⟨0,0,[],[],-1⟩ yu ⟨rfl,ey _,.inl rfl⟩ rfl (by decide) (by decide) ⟨rfl,rfl,.inl ⟨rfl,λm n g=>by simp[yu]at g⟩⟩with⟨e,k,l,a,b,c,f⟩|h
 .refine .inl ⟨e,a,?_,f⟩;rcases b.out with⟨i,j⟩|⟨_,_,o,_⟩
  .have d:=b.run;rw[i]at d;exact⟨d,by rw[j,c];rfl⟩
  have:a.op=0:=c;omega
 exact .inr h
def aep{e:ag}:∀(f:List ft)(d:Nat),markF e f d=none->∀a∈f,¬(a.want=false/\a.name=e)
 | [],d,h,a,c=>by simp at c
 |b::r,d,h,a,c=>by
  unfold markF at h;split at h
  .cases h
  rename_i g;rcases vc.1 c with rfl|c
  .exact g
  exact aep r (d+1) h a c
def Vq{i:ag}:∀(l:List ft)(f g:Nat),markF i l f=some g->∃e,g=f+e/\(∃d,l[e]?=some d/\d.want=false/\d.name=i)/\∀a c,a<e->l[a]?=some c->¬(c.want=false/\c.name=i)
 | [],f,g,h=>by simp[markF]at h
 |b::r,f,g,h=>by
  unfold markF at h;split at h
  .rename_i j;cases h
   exact⟨0,rfl,⟨b,rfl,j⟩,λa c m=>by omega⟩
  rename_i j;have⟨e,q,⟨d,n,o⟩,p⟩:=Vq r (f+1) g h;refine⟨e+1,by omega,⟨d,by simpa using n,o⟩,λa c m k=> ?_⟩;cases a with
  |zero=>simp at k;rw[<-k];exact j
  |succ a=>exact p a c (by omega)<|by simpa using k
def map_inj{g i:Type}{e:g->i}(f:∀a d,e a=e d->a=d):∀(b c:List g),b.map e=c.map e->b=c
 | [],[],_=>rfl
 | [],d::c,h=>by simp at h
 |a::b,[],h=>by simp at h
 |a::b,d::c,h=>by
  simp only[vw,yxs]at h;rw[f _ _ h.1,map_inj f b c h.2]
def ae4(b:ub s=ub t):s=t:=by
 have:=map_inj (λc d a=>yzt.1 a) _ _ b;apply va;exact yzd.1 this
def Pm{f:List ft}{e:Qja}:e∈ma f↔∃a∈f,a.name.size≠0/\e=⟨ub a.name,a.H, !a.want⟩:=by
 unfold ma;simp only[yzg,List.mem_filter,xz];constructor
 .rintro⟨a,⟨b,c⟩,d⟩;exact⟨a,b,c,d.symm⟩
 rintro⟨a,b,c,d⟩;exact⟨a,⟨b,c⟩,d.symm⟩
def aed(a b:List ft):ma (a++b)=ma a++ma b:=by
 unfold ma;rw[yze,yys]
def ak2{j:Sc}{b c:List ft}{a:ft}(w:j.bu=ma (b++a::c))(x:a.name.size≠0):
  j.bu[(ma b).length]?=some ⟨ub a.name,a.H, !a.want⟩/\(vd j (ma b).length↔markF a.name (b++a::c) 0=none\/∃f,markF a.name (b++a::c) 0=some f/\a.want=false/\f≠b.length):=by
 have H:ma (a::c)=⟨ub a.name,a.H, !a.want⟩::ma c:=by
  have:=aed [a] c;have d:=Ph [] a;rw[N x]at d;rw[show a::c=[a]++c from rfl,this];simp only[List.nil_append]at d;rw[d];rfl
 have u:j.bu=ma b++(⟨ub a.name,a.H, !a.want⟩::ma c):=by rw[w,aed,H]
 have o:j.bu[(ma b).length]?=some ⟨ub a.name,a.H, !a.want⟩:=by rw[u];simp
 refine⟨o,?_⟩;constructor
 .rintro⟨P,z,h⟩;rw[o]at z;cases z
  simp only at h;cases y:markF a.name (b++a::c) 0 with
  |none=>exact .inl rfl
  |some f=>
   refine .inr ⟨f,rfl,?_⟩;have⟨L,k,⟨i,d,l,g⟩,p⟩:=Vq _ _ _ y;rw[qo]at k;subst k;rcases h with⟨K,m,q,D,A,B,C⟩|h
   .refine⟨by simpa using K,λM=> ?_⟩;have e:q∈ma b:=by
     rw[u,oq D]at A;exact qy A
    have⟨r,s,E,t⟩:=Pm.1 e;subst t;simp only at B C;have⟨F,n⟩:=yxv s;have v:=(jy.1 n).1;exact p F r (by omega) (by rw[oq v];exact n) ⟨by simpa using B,ae4 C⟩
   exfalso;apply h;have e:(⟨ub i.name,i.H, !i.want⟩:Qja)∈j.bu:=by
    rw[w];exact Pm.2 ⟨i,qy d,by rw[g];exact x,rfl⟩
   have⟨m,n⟩:=yxv e;exact⟨m,_,n,by simp[l],by simp[g]⟩
 rintro(h|⟨f,y,z,B⟩)
 .refine⟨_,o,.inr ?_⟩;rintro⟨m,q,d,l,g⟩;have e:q∈ma (b++a::c):=by rw[<-w];exact qy d
  have⟨r,s,E,t⟩:=Pm.1 e;subst t;exact aep _ _ h r s ⟨by simpa using l,ae4 g⟩
 refine⟨_,o,.inl ⟨by simp[z],?_⟩⟩;have⟨L,k,⟨i,d,l,g⟩,p⟩:=Vq _ _ _ y;rw[qo]at k;subst k;have v:f<b.length:=by
  by_cases A:f<b.length
  .exact A
  exfalso;exact p b.length a (by omega) (by simp) ⟨z,rfl⟩
 rw[oq v]at d;have e:=Pm.2 ⟨i,qy d,by rw[g];exact x,rfl⟩;have⟨m,n⟩:=yxv e;have A:=(jy.1 n).1;exact⟨m,_,A,by rw[u,oq A];exact n,by simp[l],by simp[g]⟩
def Vb{i:Sc}{e:List ft}(g:Nat)(w:i.bu=ma e):∀(c a:List ft)(h:List Cm),e=a++c->
  (∀d,joinL e g c a.length h=.error d->∃(b:Nat)(m:Qja),i.bu[b]?=some m/\d=m.H/\vd i b/\∀f,(ma a).length<=f->f<b->¬vd i f)/\
  (∀k,joinL e g c a.length h=.ok k->∀b,(ma a).length<=b->¬vd i b)
 | [],a,h,u=>by
  refine⟨λd t=>by simp[joinL]at t,λk t b A n=> ?_⟩;have⟨m,n,_⟩:=n;rw[w,u,xu]at n;have:=(jy.1 n).1;omega
 |l::c,a,h,u=>by
  have D:e=(a++[l])++c:=by rw[u];simp
  have C:(a++[l]).length=a.length+1:=by simp
  by_cases o:l.name.size=0
  .have B:ma (a++[l])=ma a:=by rw[Ph,G o,xu]
   have v:joinL e g (l::c) a.length h=joinL e g c (a++[l]).length (if l.want=true then setGoal h l.cmd g else h):=by rw[joinL,G o,C]
   rw[v,<-B];exact Vb g w c (a++[l]) _ D
  have B:ma (a++[l])=ma a++[⟨ub l.name,l.H, !l.want⟩]:=by rw[Ph,N o]
  have F:i.bu=ma (a++l::c):=by rw[w,u]
  have⟨A,x⟩:=ak2 F o;rw[<-u]at x;have P:∀y,¬vd i (ma a).length->
    (∀d,joinL e g c (a++[l]).length y=.error d->∃(b:Nat)(m:Qja),i.bu[b]?=some m/\d=m.H/\vd i b/\∀f,(ma a).length<=f->f<b->¬vd i f)/\(∀k,joinL e g c (a++[l]).length y=.ok k->∀b,(ma a).length<=b->¬vd i b):=λy E=>by
   have⟨p,z⟩:=Vb g w c (a++[l]) y D;rw[B]at p z;simp only[ga,qx]at p z|-;refine⟨λd q=> ?_,λk j b Q=> ?_⟩
   .have⟨b,m,H,K,L,M⟩:=p d q;refine⟨b,m,H,K,L,λf r s=> ?_⟩;by_cases d:f=(ma a).length
    .rw[d];exact E
    exact M f (by omega) s
   by_cases d:b=(ma a).length
   .rw[d];exact E
   exact z k j b<|by omega
  cases p:markF l.name e 0 with
  |none=>
   have v:joinL e g (l::c) a.length h=.error l.H:=by rw[joinL,N o,p]
   rw[v];refine⟨λd q=> ?_,λk j=>by cases j⟩;cases q
   exact⟨_,_,A,rfl,x.2<|.inl p,λf r s=>by omega⟩
  |some z=>
   have v:joinL e g (l::c) a.length h=if l.want=false/\z≠a.length then .error l.H else joinL e g c (a++[l]).length (if l.want=true then setGoal h l.cmd ((e[z]?.map ft.cmd).getD 0)else h):=by rw[joinL,N o,p,C]
   rw[v];by_cases j:l.want=false/\z≠a.length
   .rw[G j];refine⟨λd q=> ?_,λk j=>by cases j⟩;cases q
    exact⟨_,_,A,rfl,x.2<|.inr ⟨z,p,j⟩,λf r s=>by omega⟩
   rw[N j];refine P _<|λn=> ?_;rcases x.1 n with t|⟨E,r,s⟩
   .rw[p]at t;cases t
   rw[p]at r;cases r;exact j s
def ata:Fk S ((jb S).2.1:Int) (jb S).2.2:=by
 unfold jb;by_cases h:400<S.size
 .rw[G h];exact .inl ⟨h,rfl,rfl⟩
 rw[N h];have j:S.size<=400:=by omega
 rcases atv S with⟨b,A,i,f⟩|⟨b,i⟩
 .rw[N<|by rw[b];simp];refine .inr<|.inr ⟨j,A,i,?_⟩;generalize hq S=p at b f;have⟨a,ok⟩:=p;simp only at b f|-;have⟨C,d⟩:=f.bk;rcases d with⟨e,d⟩|⟨c,q,t,e,u,v,w,x⟩
  .rw[N<|by rw[e];simp];have g:=Vb a.U.length f.bu a.bh [] a.U rfl;simp only[List.length_nil]at g;have y:(ma []).length=0:=rfl;rw[y]at g;cases k:joinL a.bh a.U.length a.bh 0 a.U with
   |error s=>
    have⟨c,r,z,B,l,m⟩:=g.1 s k;exact .inr<|.inl ⟨d,rfl,c,r,z,by rw[B],l,λn o=>m n (ey _) o⟩
   |ok l=>exact .inr<|.inr ⟨d,rfl,rfl,λc=>g.2 l k c<|ey _⟩
  rw[G<|by rw[e];omega];exact .inl ⟨rfl,q,e,c,u,⟨t,v,w⟩,x⟩
 rw[G b];exact .inr<|.inl ⟨j,rfl,_,rfl,i⟩
