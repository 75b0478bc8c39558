import Derived.Test.YtppjlpihaocdiaaGreatDoorAxQ
set_option linter.all false
set_option maxRecDepth 100000
set_option maxHeartbeats 16000000
namespace Go.Proofs.YtppjlpihaocdiaaGreatDoor
open Go.RowKit Go.Proofs.Tryz
variable{w u v:ae}{a b c d e:Nat}{s t:ag}{x y z:af}{p D:Int}{l:List af}{f:Bool}{g:List Nat}{h:Nat->Prop}{o:Option Addr}{r:List UInt8}{A:Nat->Bool}{B:Nat->Nat->Bool}{C:Nat->Nat->Prop}(i:Nat)(S T:ag)(V X:af)(j k m n:Nat)(Z:Int)(W:ae)
def akk(b:br s ws a=false):cq s a p=(a,gi,gi,p,true):=by unfold cq;rw[N<|by rw[b];decide]
def ark(c:pk s a=p)(b:p=58\/p=125):br s ws a=false:=by
 have⟨d,e⟩:=uc c;have:bn ws (au s a)=false:=by
  rcases b with rfl|rfl
  .rw[show au s a=58 by omega];decide
  rw[show au s a=125 by omega];decide
 simp[br,this]
def aqk(h:br s pm a=true):br s ju a=false/\pk s a≠44/\pk s a≠58/\pk s a≠125/\pk s a≠33:=by
 have⟨c,b⟩:=te.1 h;simp only[bn,pm,yxe,List.any_nil,uz,ra,yzs]at b;have d:au s a=61\/68<=au s a/\au s a<=123:=by
  rcases b with h|h|h|h|h|h|h|h|h|h|h|h|h|h|h|h|h|h|h|h|h<;>rw[<-h]<;>decide
 rw[fh c];refine⟨?_,by omega,by omega,by omega,by omega⟩;cases hd:br s ju a with
 |false=>rfl
 |true=>have:=(adq _).1 (te.1 hd).2;omega
def Zp(s:ag)(rw:ie->ie->Prop)(P:ie)(p r:cj):Prop:=p.bk=-1/\Ho p r/\
 ((pk s p.H=58/\Jn {P with H:=skip s az<|p.H+1,ns:=P.ns++[s.extract (p.H+1)<|skip s az<|p.H+1],gs:=P.gs++[P.cs.length]} r/\skip s az (p.H+1)=r.H/\r.H<=s.size/\p.H<r.H)\/
  (pk s p.H≠58/\pk s p.H≠125/\∃m,Hk s rw P m/\Jn m r/\m.H=r.H/\m.H<=s.size/\P.H<m.H))
def ama(E:Ch)(T:s.size<=400){x:cj->cj×Bool}{rw:ie->ie->Prop}(aF:Nh s x rw){a o:cj}{n:ie}(c:iw x s a=(o,true))(F:o.bk=-1)(L:Sep s o.H)(f:Jn n a)(P:n.H=a.H)(M:a.H<s.size)(Q:br s fc a.H=false):Zp s rw n a o:=by
 have U:br s dh a.H=false:=by
  cases y:br s dh a.H with
  |false=>rfl
  |true=>
   have⟨R,S⟩:=te.1 y;rw[te.2 ⟨R,(Ak _).2<|.inl<|(wi _).1 S⟩]at Q;cases Q
 have A:=Qzz s a.H a.bk;unfold iw at c;simp only at c;have hid:∀e:Int,pk s a.H=e->e=58\/e=125->cq s a.H a.bk=(a.H,gi,gi,a.bk,true):=λe t z=>akk<|ark t z
 have V:=akl E (lg:=a.bk) (yyh M) U;generalize aG:cq s a.H a.bk=W at*
 have⟨d,X,Z,B,a0⟩:=W;cases a0 with
 |false=>simp at c
 |true=>
  simp only[↓reduceIte]at c;have fin:∀(g:Nat)(u:Bool),br s ju d=false->pk s d≠44->d<=g->((pk s d=33/\u=true/\g=skip s dh (d+1))\/(pk s d≠33/\u=false/\g=d))->
    lm x s {a with H:=g,bk:=B} (Jz X Z u 0)=(o,true)->pk s a.H≠58->pk s a.H≠125->Zp s rw n a o:=λg u p q b h j k l=>by
   have m:Jn n {a with H:=g,bk:=B}:=⟨f.ye,f.len,f.rel,f.ns,f.gs,f.nm,f.w1,f.w2⟩;have A:a.H<=d:=A;have⟨v,r,w,C,D,H,K,a1,w3,w4,a2,a3,a4,a5,a6,a7,a8,a9⟩:=aw0 E T aF j F L m (by show n.H<=g;omega);have⟨aA,aB,i,aC,aD,aH,aI,aE,b⟩:=V rfl r p q;have b:d=skip s dh i:=b;rw[b]at h;exact⟨aA,w,.inr ⟨k,l,H,⟨C,D,aB,i,g,⟨by rw[K,P];exact aC,by rw[a1];exact aD,by rw[w3];exact h,(te.1 v).1,by omega,aE,a3,a2,w4,a4⟩,a5⟩,a6,a7,a8,a9⟩⟩
  have i:∀e:Int,e=58\/e=125->pk s d≠e->pk s a.H≠e:=λe z q t=>q (by have:=hid e t z;injection this with v C;rw[v];exact t)
  by_cases h:pk s d=33
  .rw[G h]at c;have⟨R,S⟩:=uc h;by_cases b:pk s (skip s dh<|d+1)=58
   .rw[G b]at c;cases c
   rw[N b]at c;refine fin _ true ?_ (by omega) (bq (by omega)<|Cd s dh<|d+1) (.inl ⟨h,rfl,rfl⟩) c (i _ (.inl rfl)<|by omega) (i _ (.inr rfl)<|by omega);cases hd:br s ju d with
   |false=>rfl
   |true=>have:=(adq _).1 (te.1 hd).2;omega
  rw[N h]at c;by_cases p:pk s d=58
  .rw[G p]at c;by_cases j:d=a.H
   rotate_left
   .rw[N j]at c;cases c
   rw[G j]at c;obtain rfl:=j;have b:=hid 58 p<|.inl rfl;injection b with _ b;injection b with _ b;injection b with _ b;injection b with r _;injection c with q k;have k:a.H+1<eg s 8 (a.H+1):=by simpa using k
   subst q;have w:Sep s (eg s 8<|a.H+1):=L;have l:=Vg s 8 (a.H+1) w;have⟨m,D⟩:=Am s 8 (a.H+1) M;refine⟨r▸F,λH K y=>y,.inl ⟨p,?_,l,m,by show _<eg s 8 _;omega⟩⟩;rw[l];exact f.qu (by rw[P];omega) rfl rfl (by rw[lw,yi m];omega)
  rw[N p]at c;have j:br s pm d=true:=by
   by_cases b:br s pm d=true
   .exact b
   unfold lm at c;rw[N b]at c;cases c
  have⟨b,k,l,m,r⟩:=aqk j;exact fin d false b k ah (.inr ⟨h,rfl,rfl⟩) c (i _ (.inl rfl) l)<|i _ (.inr rfl) m
def Hm(rowf:cj->cj×Bool):Prop:=∀p r:cj,rowf p=(r,true)->r.bk=-1->p.bk=-1
def ajm(j:s.size<=400){e:cj->cj×Bool}(k:Hm e){g f:cj}{h:Cm}(a:lm e s g h=(f,true))(c:f.bk=-1):g.bk=-1:=by
 unfold lm at a;split at a
 .simp only at a;split at a
  .unfold qr at a;split at a
   .cases a
   simp only at a;generalize d:e _=i at a;have⟨l,m⟩:=i;split at a
   .rename_i b;have b:m=true/\_:=b;rw[b.1]at d;cases a
    have:=k _ l d c;exact this
   cases a
  split at a
  .split at a
   .cases a;exact c
   cases a
  split at a
  .cases a;exact c
  split at a
  .injection a with b d;subst b;exact(agr s _ _ _ d j).2.1 c
  split at a
  .injection a with b d;subst b;exact c
  cases a;exact c
 cases a
def al8(f:s.size<=400){d:cj->cj×Bool}(g:Hm d){b e:cj}(a:iw d s b=(e,true))(c:e.bk=-1):b.bk=-1:=by
 unfold iw at a;simp only at a;split at a
 .rename_i h;refine(aap s b.H b.bk h).1 ?_;split at a
  .split at a
   .cases a
   exact ajm f g a c
  split at a
  .split at a
   .injection a with i j;subst i;exact c
   cases a
  exact ajm f g a c
 cases a
def Xm{b:ag}(c:b.size<=400){a:cj->cj×Bool}(e:Hm a):∀f,Hm (rowL' a b f)
 |0,p,r,h,_=>by rw[rowL']at h;cases h
 |f+1,p,r,h,d=>by
  rw[rowL']at h;simp only at h;split at h
  .cases h;exact d
  generalize g:iw a b _=i at h;have⟨l,j⟩:=i;cases j with
  |false=>simp at h
  |true=>
   simp only[↓reduceIte]at h;split at h
   .have k:=Xm c e f _ r h d;have:=al8 c e g k;exact this
   cases h
def aui(h:pk s (skip s dh a)=-1\/br s parts (skip s dh a)=true\/pk s (skip s dh a)=125):Sep s a:=by
 cases d:br s dh a with
 |true=>
  have⟨b,c⟩:=te.1 d;have:=(wi _).1 c;exact .inr<|.inl<|by rw[fh b];omega
 |false=>
  rw[xd d]at h;rcases h with h|h|h
  .exact .inl h
  .have⟨b,c⟩:=te.1 h;have:=(ads _).1 c;unfold Sep;rw[fh b];omega
  exact .inr<|.inr<|.inr<|.inr h
def abb{b:cj}(a:uq s b=true):pk s b.H=125:=by
 unfold uq at a;simp at a;exact a.2
def ahv(Q:Ch){a:ag}(C:a.size<=400){v:cj->cj×Bool}{rw:ie->ie->Prop}(R:Hm v)(a1:Nh a v rw):∀(f:Nat)(j g:cj)(d:ie),rowL' v a f j=(g,true)->g.bk=-1->Jn d j->skip a fc d.H=skip a fc j.H->d.H<=a.size->
  j.bk=-1/\∃b,RowR a (Hk a rw) f d b/\Jn b g/\b.H=g.H/\b.H<=a.size/\d.H<=b.H/\Ho j g
 |0,j,g,d,h,_,_,_,_=>by rw[rowL']at h;cases h
 |f+1,j,g,d,h,F,Z,U,H=>by
  rw[rowL']at h;simp only at h;have S:=Cd a fc d.H;have a2:=si a fc d.H H;have a3:=Mc a fc d.H;unfold RowR;rw[<-U]at h;generalize skip a fc d.H=i at*
  have T:Jn {d with H:=i} {j with H:=i}:=Z.same S rfl rfl;by_cases w:pk a i=-1\/uq a {j with H:=i}=true
  .rw[G w]at h;cases h
   refine⟨F,_,.inl ⟨?_,rfl⟩,T,rfl,a2,S,λn o s=>s⟩;rcases w with e|e
   .left;rcases hb i a.size with q|q
    .rw[fh q]at e;omega
    omega
   exact .inr<|abb e
  rw[N w]at h;have V:=(ho<|λe=>w<|.inl e).1;generalize a4:iw v a {j with H:=i}=a5 at h;have⟨c,a6⟩:=a5;cases a6 with
  |false=>simp at h
  |true=>
   simp only[↓reduceIte]at h;by_cases M:pk a (skip a dh c.H)=-1\/br a parts (skip a dh c.H)=true\/uq a {c with H:=skip a dh c.H}=true
   rotate_left
   .rw[N M]at h;cases h
   rw[G M]at h;have a7:Sep a c.H:=aui (by
    rcases M with e|e|e
    .exact .inl e
    .exact .inr<|.inl e
    exact .inr<|.inr<|abb e)
   have W:∀m:ie,Jn m c->m.H=c.H->m.H<=a.size->c.bk=-1/\∃b,RowR a (Hk a rw) f m b/\Jn b g/\b.H=g.H/\b.H<=a.size/\m.H<=b.H/\Ho c g:=λm k e a8=>by
    have⟨t,b,u,l,p,r,P,x⟩:=ahv Q C R a1 f {c with H:=skip a dh c.H} g m h F ⟨k.ye,k.len,k.rel,k.ns,k.gs,k.nm,k.w1,k.w2⟩ (by rw[e];exact(ah9 a _ _).symm) a8;exact⟨t,b,u,l,p,r,P,x⟩
   have y:=Xm C R f _ g h F;have y:c.bk=-1:=y;have⟨X,a0,a9⟩:=ama Q C a1 a4 y a7 T rfl V a3;rcases a9 with⟨t,u,l,p,r⟩|⟨t,u,z,l,p,r,P,x⟩
   .have r:i<c.H:=r;have⟨_,b,A,B,D,E,K,L⟩:=W _ u l (by show skip a az (i+1)<=_;rw[l];exact p);refine⟨X,b,.inr<|.inl ⟨t,A⟩,B,D,E,?_,λn o s=>L n o<|a0 n o s⟩;have K:skip a az (i+1)<=b.H:=K;have l:skip a az (i+1)=c.H:=l;omega
   have⟨_,b,A,B,D,E,K,L⟩:=W z p r P;have x:i<z.H:=x;exact⟨X,b,.inr<|.inr ⟨V,u,t,z,l,p.ye,A⟩,B,D,E,by omega,λn o s=>L n o<|a0 n o s⟩
def Ht(s:ag):Nat->ie->ie->Prop
 |0=>λ_ _=>False
 |n+1=>RowR s (Hk s<|Ht s n)<|s.size+1
def ahl{a:ag}(c:a.size<=400):∀n,Hm (Qqf a n)
 |0,p,r,h,_=>by rw[Qqf]at h;cases h
 |n+1,p,r,h,b=>Xm c (ahl c n) (a.size+1) p r h b
def aho(g:Ch){a:ag}(b:a.size<=400):∀n,Nh a (Qqf a n) (Ht a n)
 |0,p,r,P,h,_,_,_,_=>by rw[Qqf]at h;cases h
 |n+1,p,r,P,h,c,d,e,f=>ahv g b (ahl b n) (aho g b n) (a.size+1) p r P h c d (by rw[e])<|by omega
def aer(g:Nat)(f:ag):∀(c:List ft)(a b:Nat),markF f c a=some b->a<=b/\goalF g f ((c.filter λl=> !l.want).map ft.name) ((c.filter λl=> !l.want).map ft.cmd)=(c[b-a]?.map ft.cmd).getD 0
 | [],a,b,h=>by rw[markF]at h;cases h
 |l::r,a,b,h=>by
  rw[markF]at h;split at h
  .rename_i d;cases h
   refine⟨ah,?_⟩;rw[yzv<|by rw[d.1];rfl,vw,vw,goalF,G d.2,xx];rfl
  rename_i d;have⟨k,i⟩:=aer g f r (a+1) b h;refine⟨by omega,?_⟩;rw[show b-a=(b-(a+1))+1 by omega,yzb,<-i];cases e:l.want with
  |true=>rw[yxm<|by rw[e];decide]
  |false=>rw[yzv<|by rw[e];rfl,vw,vw,goalF,N λj=>d ⟨e,j⟩]
def ac9(c:Nat)(d:ag):∀(a:List ft),(∀l∈a,l.want=false->l.name≠d)->goalF c d ((a.filter λl=> !l.want).map ft.name) ((a.filter λl=> !l.want).map ft.cmd)=c
 | [],_=>rfl
 |l::r,h=>by
  have e:=ac9 c d r λf g=>h f<|xw _ g
  cases b:l.want with
  |true=>rw[yxm<|by rw[b];decide];exact e
  |false=>rw[yzv<|by rw[b];rfl,vw,vw,goalF,N<|h l yxi b];exact e
def ah5{f:List Cm}{h:Cm}(g:f[c]?=some h):(setGoal f a b)[c]?=some (if c=a then {h with cn:=b} else h):=by
 unfold setGoal;cases d:f[a]? with
 |none=>
  have:c≠a:=λe=>by rw[e,d]at g;cases g
  simp only[N this];exact g
 |some j=>
  simp only;rw[yzk];have i:a<f.length:=by rcases hb a f.length with q|q;exact q;rw[je q]at d;cases d
  by_cases e:c=a
  .subst e;rw[g]at d;cases d
   simp[i]
  rw[N λq=>e q.symm,N e];exact g
def aum(a:List Cm)(c b:Nat):(setGoal a c b).length=a.length:=by
 unfold setGoal;split
 .rw[tj]
 rfl
def ad7(i:List ft)(s:Nat)(o:ag->Nat)(z:∀l∈i,l.want=true->(l.name.size=0->o l.name=s)/\∀q,markF l.name i 0=some q->o l.name=(i[q]?.map ft.cmd).getD 0):∀(rest:List ft)(p:Nat)(f n:List Cm),(∀l∈rest,l∈i)->joinL i s rest p f=.ok n->
  n.length=f.length/\∀(b:Nat)(d:Cm),f[b]?=some d->∃m,n[b]?=some {d with cn:=m}/\((m=d.cn/\¬∃l∈rest,l.want=true/\l.cmd=b)\/∃l∈rest,l.want=true/\l.cmd=b/\m=o l.name)
 | [],p,f,n,_,h=>by
  rw[joinL]at h;cases h
  exact⟨rfl,λb d j=>⟨d.cn,j,.inl ⟨rfl,λ⟨l,a,_⟩=>by cases a⟩⟩⟩
 |l::r,p,f,n,hr,h=>by
  have F:∃k,(k=if l.want=true then setGoal f l.cmd (o l.name)else f)/\joinL i s r (p+1) k=.ok n:=by
   rw[joinL]at h;by_cases c:l.name.size=0
   .rw[G c]at h;refine⟨_,?_,h⟩;by_cases a:l.want=true
    .rw[G a,G a,((z l (hr l yxi) a).1 c)]
    rw[N a,N a]
   rw[N c]at h;cases e:markF l.name i 0 with
   |none=>rw[e]at h;cases h
   |some q=>
    rw[e]at h;simp only at h;by_cases g:l.want=false/\q≠p
    .rw[G g]at h;cases h
    rw[N g]at h;refine⟨_,?_,h⟩;by_cases a:l.want=true
    .rw[G a,G a,((z l (hr l yxi) a).2 q e)]
    rw[N a,N a]
  have⟨k,v,C⟩:=F;have⟨D,A⟩:=ad7 i s o z r (p+1) k n (λd j=>hr d<|xw _ j) C;have E:k.length=f.length:=by rw[v];split;exact aum _ _ _;rfl
  refine⟨D.trans E,λb d j=>?_⟩;by_cases c:l.want=true/\b=l.cmd
  .have w:k[b]?=some {d with cn:=o l.name}:=by rw[v,G c.1,ah5 j,G c.2]
   have⟨m,x,y⟩:=A b _ w;refine⟨m,x,.inr ?_⟩;rcases y with⟨a,_⟩|⟨e,a,g⟩
   .exact⟨l,yxi,c.1,c.2.symm,a⟩
   exact⟨e,xw _ a,g⟩
  have w:k[b]?=some d:=by
   rw[v];split
   .rename_i t;rw[ah5 j,N λu=>c ⟨t,u⟩]
   exact j
  have⟨m,x,y⟩:=A b _ w;refine⟨m,x,?_⟩;rcases y with⟨a,g⟩|⟨e,a,g⟩
  .refine .inl ⟨a,λ⟨e,t,u,B⟩=>?_⟩;rcases vc.1 t with rfl|t
   .exact c ⟨u,B.symm⟩
   exact g ⟨e,t,u,B⟩
  exact .inr ⟨e,xw _ a,g⟩
structure Rv(s:ag)(cs:List Cm)(Q:ie):Prop where
 s4:s.size<=400
 row:Ht s 7 ⟨0,[],[],[]⟩ Q
 ye:Cj Q
 le:Q.H<=s.size
 len:Q.cs.length=cs.length
 rel:∀(k:Nat)(c:Dc)(x:Cm),Q.cs[k]?=some c->cs[k]?=some x->xg (λt=>goalF Q.cs.length t Q.ns Q.gs) c x
def ate(L:Ch){p:List Cm}(z:s.size<=400)(w:(hq s).2=true)(U:(hq s).1.bk=-1)(C:joinL (hq s).1.bh (hq s).1.U.length (hq s).1.bh 0 (hq s).1.U=.ok p):∃d,Rv s p d:=by
 generalize D:hq s=E at*
 have⟨g,F⟩:=E;have w:F=true:=w;subst w;have⟨_,d,H,i,V,K,W,_⟩:=aho L z 7 _ g ⟨0,[],[],[]⟩ D U ⟨⟨ah,ah,rfl⟩,rfl,λj m b r=>(by cases r),rfl,rfl,λa n=>(by cases n),λa n=>(by cases n),λj b k=>(by cases k)⟩ rfl<|ey _;have M:∀a∈g.bh,a.want=true->(a.name.size=0->goalF d.cs.length a.name d.ns d.gs=g.U.length)/\∀t,markF a.name g.bh 0=some t->goalF d.cs.length a.name d.ns d.gs=(g.bh[t]?.map ft.cmd).getD 0:=λa n x=>by
  rw[i.ns,i.gs];refine⟨λf=>?_,λt c=>(aer _ _ _ 0 t c).2⟩;rw[ac9 _ _ _ λb k e h=>?_]
  .exact i.len
  have:=i.nm b k e;rw[h]at this;omega
 have⟨A,P⟩:=ad7 g.bh g.U.length (λQ=>goalF d.cs.length Q d.ns d.gs) M g.bh 0 g.U p (λ_ c=>c) C;refine⟨d,z,H,i.ye,K,i.len.trans A.symm,λj m X r u=>?_⟩;obtain⟨b,k⟩:∃b,g.U[j]?=some b:=⟨_,dy<|by rw[<-A];rcases hb j p.length with q|q;exact q;rw[je q]at u;cases u⟩;have⟨y,R,B⟩:=P j b k;rw[R]at u;cases u
 have e:=i.rel j m b r k;have S:b.R=19->Su m {b with cn:=y}:=λh=>by have c:=e.su h;exact⟨c.L,c.all,c.kr,c.num,c.n9,c.tz,c.tl,c.ok,c.eq⟩
 have x:∀a∈g.bh,a.want=true->a.cmd=j->m.text=a.name/\(b.R=17\/b.R=18):=λa n T h=>by
  have⟨Z,a0,f,l,o,v⟩:=i.w1 a n T;rw[h]at f l;rw[r]at f;rw[k]at l;cases f
  cases l
  exact⟨o,v⟩
 refine⟨e.kd,e.lt,e.fst,e.snd,e.neg,λh=>?_,e.text,e.tz,λh=>?_,S,e.rows⟩
 .show m.cn=y
  have h:b.R=0:=h;rcases B with⟨f,_⟩|⟨a,f,l,o,_⟩
  .rw[f];exact e.cn h
  have:=(x a f l o).2;omega
 show goalF _ m.text _ _=y
 rcases B with⟨_,f⟩|⟨a,f,l,o,v⟩
 .exact cb (i.w2 j b k h) f
 rw[(x a f l o).1];exact v.symm
def Dq(s:ag)(U:List Cm):Prop:=∀w,Calls prog 55 #[.string s] w λe w'=>∃rb lb cs ns gs,e=.returned (.pointer<|some ⟨rb,0,none⟩)/\Below w.heap.size w w'/\∀p:Dw,p.B=w'.heap.size->p.rb=rb->p.cf.U=U->gx p.cf->Env w' p lb cs ns gs
def Ea(cf:Cf)(inp:ag)(d:Bool):Dd:=⟨inp,d,0,⟨#[]⟩,⟨#[]⟩,[],⟨#[]⟩,List.replicate cf.U.length false,false,0,0,false⟩
def start{mf:Mf}{a:Cf}(e:gx a)(b:ag)(c:Bool)(g:b.size<=2000000):Qje mf a c (res<|nh mf a c (fy a)<|Qjj b) (Ea a b c):=by
 have f:=(Ts (cf:=a) e).2 rfl;refine⟨0,fy a,Qjj b,⟨by omega,f,by rw[jn];omega,10000,Gt (K:=0) e,.inl ⟨rfl,?_⟩⟩,⟨rfl,rfl,(λd=>by cases d),rfl,rfl,rfl,rfl,rfl,rfl,rfl,rfl,rfl,rfl,rfl,ey _,ey _,by simp[fy]⟩,rfl⟩;have:(fy a).hu mf a 10000 0=fy a:=by
  rw[zt];have d:({fy a with bg:=0}:Ed).mi a=(fy a,false):=by
   rw[Ed.mi];simp[Ed.mh,Ed.sk,fy]
  rw[d];rfl
 rw[this]
def arb{cf:Cf}{rb:Nat}{a:Array af}{T:TypeId}(b:Bool)(f:a.size=cf.U.length)(d:a.toList=ov (List.replicate cf.U.length false))(g:cf.U.length<=1000):
  DE ⟨w.heap.size,w.heap.size+1,rb,cf⟩ ((w.alloc<|.cells a 4).alloc<|.cells (Ii ⟨w.heap.size,w.heap.size+1,rb,cf⟩ (Ea cf S b) (.slice none 0 0)<|aa w.heap.size cf.U.length cf.U.length).toArray T).drew (Ea cf S b) (.slice none 0 0) (aa w.heap.size cf.U.length cf.U.length):=by
 have c:=bd.new (w.alloc<|.cells a 4) (Ii ⟨w.heap.size,w.heap.size+1,rb,cf⟩ (Ea cf S b) (.slice none 0 0)<|aa w.heap.size cf.U.length cf.U.length) T;rw[show(w.alloc<|.cells a 4).heap.size=w.heap.size+1 by simp]at c;refine⟨c.cw rfl,yyc _ _ _ 1,⟨by simp[Ea,ov],.inr ⟨w.heap.size,cf.U.length,a,by simp[Ea],ah,?_,by simp[Ea],by unfold maxLen;omega,by omega,?_⟩⟩,by simp,by simp[Value.ownBlock],by simp[Value.ownBlock],λh e=>by simp[Value.ownBlock]at e⟩
 .show((w.alloc<|.cells a 4).alloc _).heap[w.heap.size]?=_
  rw[im _ _ _<|by simp];exact yyb w _
 show List.take ((List.replicate cf.U.length false).length*1) a.toList=_
 rw[List.length_replicate,Nat.mul_one,d,Hh<|by simp[ov]];rfl
def aqp{p:Dw}{D:Dd}(a:D.rm p t=true):1<=(D.oe p t).number:=by
 simp only[Dd.rm,Aw,zyf,xz,yza,Bool.and_eq_false_iff,Bool.not_eq_false']at a;have⟨⟨⟨f,c⟩,e⟩,g⟩:=a;rw[Dd.oe,N,if_neg,N e,N]
 .exact Nat.succ_le_succ<|ey _
 rintro⟨b,d⟩;rcases c with c|c
 .exact c b
 rw[d]at c;cases c
def Xq{k:Mf}(aA:fj k)(aC f:ag)(e:Bool)(a:Cf)(c:ae)(o:gx a)(U:Dq aC a.U)(aX:f.size<=2000000):
  Calls prog 39 #[.string aC,.agg #[.int .i64 a.line,.int .i64 a.space,.int .i64 a.dt,.bool a.quiet],.string f,.bool e] c λB b2=>Below c.heap.size c b2/\B=.returned (.tuple #[.string<|ce (nh k a e (fy a)<|Qjj f).out,.int .i64 ((nh k a e (fy a)<|Qjj f).ck:Int)]):=by
 have aH:=hd aA;have V:=hd<|start (mf:=k) o f e aX;have D:=hd o;have aL:=hd U;obtain⟨j,hF⟩:∃j,j=res (nh k a e (fy a)<|Qjj f):=⟨_,rfl⟩;rw[<-hF]at V;have h:(nh k a e (fy a)<|Qjj f).out=j.1:=by rw[hF];rfl
 have l:(nh k a e (fy a)<|Qjj f).ck=j.2:=by rw[hF];rfl
 rw[h,l];have⟨b3,d,g,aM⟩:=Xn a.U.length (by have:=o.U;omega);have W:=hd d;have X:=hd g;have aN:=o.U;go_in;go_wp21;go_call aL.out as B b ⟨i,aZ,aV,ns,gs,rfl,x,y⟩;have b8:=hd y;have T:=(mj c _).trans (x.mono<|by simp);have u:=hd<|y ⟨b.heap.size,b.heap.size+1,i,a⟩ rfl rfl rfl D;have⟨b7,b9,H,_⟩:=u.rc.ls;rw[u.len]at H;have d:∀g h,(c.alloc<|.cells #[I a.line,I a.space,I a.dt,.bool a.quiet] 23).cell? (O c.heap.size g)=some h->b.cell? (O c.heap.size g)=some h:=λg h p=>(x.cell (p:=O c.heap.size g)<|by simp).trans p
 have Q:=d 0 _<|yya _ c.heap.size 0 _ 23 (0,0)<|heap_alloc_last c _;have a7:=d 1 _<|yya _ c.heap.size 1 _ 23 (0,0)<|heap_alloc_last c _;have a8:=d 2 _<|yya _ c.heap.size 2 _ 23 (0,0)<|heap_alloc_last c _;have a9:=d 3 _<|yya _ c.heap.size 3 _ 23 (0,0)<|heap_alloc_last c _;have Z:=hd<|arb (w:=b) (cf:=a) (rb:=i) (T:=130) f e W X aN;have aO:c.heap.size<b.heap.size:=dw b _ Q;have l:∀g h,b.cell? (O c.heap.size g)=some h->∀F,(b.alloc F).cell? (O c.heap.size g)=some h:=λg h p F=>(ac g<|im b F _ aO).trans p
 have aK:=l 0 _ Q;have w:=l 1 _ a7;have z:=l 2 _ a8;have A:=l 3 _ a9;have a0:=hd λb0 b1=>ss<|(mj b b0).trans<|(mj _ b1).mono<|by simp
 go_upto_region 2 with fail
 go_cut [11] (λh aD=>h= ab (b.heap.size+1) 0/\Y (DE ⟨b.heap.size,b.heap.size+1,i,a⟩ aD (Ea a f e) (.slice none 0 0)<|aa b.heap.size a.U.length a.U.length)/\Y (Below b.heap.size b aD))
 case first=>
  go_region
  all_goals
   go_wp21;go_meet;exact⟨rfl,Z,a0 _ _⟩
 obtain⟨rfl,K,a1⟩:=hcut;have aP:=hd<|u.up a1;have aQ:=hd<|T.trans<|a1.mono T.size;go_wp21;go_loopg [12] (f.size+1) (λg h wr=>∃(d:Dd)(r:af),Y (DQ ⟨b.heap.size,b.heap.size+1,i,a⟩ (.slice none 0 0) wc wr d r<|aa b.heap.size a.U.length a.U.length)/\Y (Qt j d\/(Qje k a e j d/\d.rest.size<g)))
 .exact⟨_,_,K.q,.inr ⟨V,yxo _⟩⟩
 obtain⟨d,r,l,aG⟩:=hrel;have E:=l.1.xc 16;have L:=l.1.xc 17;have a2:=l.1.xc 12;have M:=hd λaJ d (aB:DQ ⟨b.heap.size,b.heap.size+1,i,a⟩ (.slice none 0 0) wc aJ d r (aa b.heap.size a.U.length a.U.length))=>aQ.trans<|(aB.low K.out).mono T.size
 rcases aG.out with⟨R,m⟩|⟨aR,bA⟩
 .have v:=hd m;rcases yzu d.ck with C|C
  .have n:=R.resolve_left (by omega);rw[n]at L;rw[C]at E;go_wp21;go_quiet (fail);go_wp21;go_ret2;exact⟨M.out _ _<|l.drewN _,by rw[v.out,C];rfl⟩
  have aB:((d.ck:Int)==0)=false:=hh (by omega);go_wp21;go_quiet (fail);go_wp21;go_ret2;exact⟨M.out _ _<|l.drewN _,by rw[v.out];rfl⟩
 obtain⟨gk,rfl⟩:∃aW,gk=aW+1:=⟨gk-1,by omega⟩;obtain⟨b6,b5,bD,S,q,aY⟩:=aR;rw[q.st]at E;rw[q.ji]at L;have t:=Vn ⟨b.heap.size,b.heap.size+1,i,a⟩ d r (aa b.heap.size a.U.length a.U.length) ⟨#[]⟩ true wr l.1 (by have:=(q.small S D.out).2.2.2.2.1;omega) (ey _) (by have:=(q.small S D.out).2.2.2.1;omega);have s:=hd<|S.line (p:=⟨b.heap.size,b.heap.size+1,i,a⟩) (t:=⟨#[]⟩) D.out q (.inl ⟨rfl,aY,rfl⟩) rfl rfl;have P:=hd<|aqp (p:=⟨b.heap.size,b.heap.size+1,i,a⟩) (D:=d) (t:=⟨#[]⟩);generalize Dd.oe ⟨b.heap.size,b.heap.size+1,i,a⟩ d ⟨#[]⟩=aE at t s P;generalize Dd.rm ⟨b.heap.size,b.heap.size+1,i,a⟩ d ⟨#[]⟩=b4 at t s P;go_wp21;refine t.mono ?_;rintro B w3 ⟨rfl,w⟩;have n:=hd<|l.trans w;rcases s.out with⟨rfl,C,aI,aF,H,m,z,A⟩|⟨rfl,a3⟩
 .have a4:=amg aH.out ⟨b.heap.size,b.heap.size+1,i,a⟩ e j aE r (aa b.heap.size a.U.length a.U.length) aZ aV ns gs aI aF H w3 n.1 (aP.up<|n.low K.out) z m (by rw[A];rfl)<|P.out rfl;go_wp21;go_call a4;rintro B w4 ⟨rfl,t,aS,a5,a6⟩;have aT:=hd<|n.trans a5;have aU:Y (Qt j t\/(Qje k a e j t/\t.rest.size<gk)):=a6.imp id λp=>⟨p.1,by omega⟩
  go_wp21;go_roundg gk
  case measure=>omega
  exact⟨t,aS,aT,aU⟩
 have E:=n.1.xc 16;have a2:=n.1.xc 12;have v:=hd a3.2;go_wp21;go_quiet (fail);go_wp21;go_ret2;exact⟨M _ _<|n.drewN _,by rw[v.out];rfl⟩
def akr(h:ae):Ch:=λg c b=>by
 have⟨j,o,p,d,_⟩:=afw g h (by omega) [];have⟨s,n,i,r,l,q,t,_,a,_⟩:=d;rcases a with⟨_,_,_,_,a⟩|⟨_,m,_,_,a⟩
 .have⟨u,k,_,_,e,f,_⟩:=a b;exact⟨ajs c,b,e,f⟩
 rw[c]at a;cases a
def ahu(b:Nat)(a:ag):∀(n:Nat)(c:ae)(d g:ie)(e i f:af),RE c b a d e i f->Cj d->Ht a n d g->Calls prog 90 #[.pointer<|some ⟨b,0,none⟩] c (RQ b a e i f c g)
 |0,_,_,_,_,_,_,_,_,h=>h.elim
 |n+1,c,d,g,e,i,f,h,hf,hR=>amc b a (Hk a<|Ht a n) (al9 b a (Ht a n)<|ahu b a n) (a.size+1) d g e i f c h hf hR
def RE.env{g:ie}{M:List Cm}(d:RE w a s g x y z)(A:Rv s M g):∃k,∀n:Dw,n.B=w.heap.size->n.rb=a->n.cf.U=M->gx n.cf->Env w n k g.cs g.ns g.gs:=by
 have⟨xs,t,T⟩:=d.ls;have⟨a4,a5,U⟩:=A.ye;have a2:=A.le;have a3:=A.s4;have F:=d.row.xc 2;have H:=d.row.xc 3;have K:=d.row.xc 4;have V:∀c h,g.cs[c]?=some h->∃m o p,(∀P v,(ig h m o p)[P]?=some v->xs[c*16+P]?=some v)/\xf w w.heap.size h m o p:=λc h r=>by
  have⟨m,o,p,C,D⟩:=T c h r;exact⟨m,o,p,C,D w ah λ_ _ _=>rfl⟩
 have Q:∃k,k<w.heap.size/\(∃l i,x=.slice l g.cs.length i/\(0<g.cs.length->l=some (O k 0)))/\∀j u,xs[j]?=some u->w.cell? (O k j)=some u:=by
  rcases yzu g.cs.length with e|e
  .have⟨l,i,b⟩:=yq t;refine⟨a,d.lt,⟨l,i,b,λq=>by omega⟩,λj u B=>?_⟩;have:=t.1;rw[je<|by omega]at B;cases B
  have⟨E,i,b,_,_⟩:=t.form e;have L:x.ownBlock=some E:=by rw[b];rfl
  refine⟨E,(t.lt E L).2,⟨_,i,b,λ_=>rfl⟩,λj u B=>?_⟩;have:=t.cells L j u B;rcases yzu j with q|q
  .subst q;exact this
  rw[Addr.add,N]at this;simpa using this
 have⟨k,W,⟨l,i,E,X⟩,Z⟩:=Q;refine⟨k,λn B b L R=>⟨⟨⟨l,i,?_,X⟩,λc h r=>?_,?_,?_,by omega⟩,⟨⟨l,i,?_⟩,⟨y,?_,d.ns.mono<|ey _⟩,⟨z,?_,d.gs.mono<|ey _⟩,U,by omega⟩,λv c f r=>?_,by rw[L];exact A.len,λc h a1 S a0=>A.rel c h a1 S<|by rw[<-L];exact a0,R⟩⟩
 .rw[b,F,E]
 .have⟨m,o,p,C,D⟩:=V c h r;exact⟨m,o,p,λj v f=>Z _ _<|C j v f,by rw[B];exact D⟩
 .rw[B,b];exact d.lt
 .rw[B];exact W
 .rw[b,F,E]
 .rw[b];exact H
 .rw[b];exact K
 rw[b]at f;rw[B];rcases f with f|f
 .rw[H]at f;cases f;exact(d.ns.lt c r).2
 rw[K]at f;cases f;exact(d.gs.lt c r).2
def atc{h:List Cm}{g:ie}(e:Rv s h g):Dq s h:=λf=>by
 have k:=hd e;have m:=e.s4;go_in;have n:=hd (show∀c:ae,bd c f.heap.size [.string s,I 0,.slice none 0 0,.slice none 0 0,.slice none 0 0]->RE c f.heap.size s ⟨0,[],[],[]⟩ (.slice none 0 0) (.slice none 0 0) (.slice none 0 0)from λc l=>
  ⟨l,⟨[],⟨rfl,.inl ⟨rfl,rfl⟩⟩,λd w a=>(by cases a)⟩,⟨rfl,.inl ⟨rfl,rfl⟩⟩,⟨rfl,.inl ⟨rfl,rfl⟩⟩,ey _,m,λd a=>(by cases a),λd a=>(by cases a)⟩)
 go_wp2_with (refine ti 6 rfl rfl 128 (.tmp 5) rfl [.string s,I 0,.slice none 0 0,.slice none 0 0,.slice none 0 0] rfl ?_;intro c p i j;have o:=hd<|n c i;have b:=hd j;clear i j p);have i:=ahu f.heap.size s 7 c ⟨0,[],[],[]⟩ g _ _ _ o ⟨ah,ah,rfl⟩ k.row;go_call i;rintro x y ⟨rfl,t,u,v,j,hF⟩;have p:=hd j;have r:=hd hF;go_wp21;go_ret;have⟨i,j⟩:=p.env k;refine⟨_,i,_,_,_,rfl,?_,j⟩;have hF:=r.out;exact⟨hF.os.trans b.os,hF.tape.trans b.tape,hF.output.trans b.output,bq b.size hF.size,λd a=>(hF.block d (ew a b.size) λq=>by
  rcases q with q|q|q|q
  .omega
  .cases q
  .cases q
  cases q).trans<|b.block d a⟩
def atd(g:ae){a:List Cm}(b:s.size<=400)(c:(hq s).2=true)(d:(hq s).1.bk=-1)(e:joinL (hq s).1.bh (hq s).1.U.length (hq s).1.bh 0 (hq s).1.U=.ok a):Dq s a:=by
 have⟨h,f⟩:=ate (akr g) b c d e;exact atc f
section
def aqn(a b c:Int)(f:Bool)(w:ae):Calls prog 38 #[.agg #[.int .i64 a,.int .i64 b,.int .i64 c,.bool f]] w λe w'=>e=.returned (.bool<|uo a b c)/\Below w.heap.size w w':=by
 go_in;go_wp21
 all_goals go_ret
 all_goals refine⟨congrArg (λg=>Ending.returned<|Value.bool g) ?_,mj w _⟩
 all_goals rw[vv]
 all_goals simp[uo,uf]
 all_goals omega
def Ib(bl:Nat)(s:ag)(cf:Cf)(inp:ag)(d:Bool)(t:Nat):List af:=
 [ab bl 0,.string s, I cf.line, I cf.space, I cf.dt,.bool cf.quiet,.string inp,.bool d, I t]
structure Al(lo:Nat)(Z:Nat->Prop)(w:ae)(bl:Nat)(cf:Cf)(E:Ed)(v:Ev):Prop where
 ll:lo<=w.heap.size
 H:At w bl cf E v
 mn:∀k,ib bl v k->lo<=k
 lt:∀k,Z k->k<w.heap.size
 qg:∀k,Z k->¬ib bl v k
 cm:zy w (λk=>ib bl v k\/Z k) v.cm cf.U
section
variable {lo:Nat} {Z:Nat->Prop} {w w':ae} {bl:Nat} {cf:Cf} {E E':Ed} {v:Ev}
def Al.ok(f:Al lo Z w bl cf E v)(a:Ok w bl cf v E' w'):(∃h,Al lo Z w' bl cf E' h)/\Below lo w w'/\∀a,Z a->w'.heap[a]?=w.heap[a]? :=by
 have⟨h,i,c⟩:=a;have j:∀a,Z a->w'.heap[a]?=w.heap[a]? :=λa b=>c.block a (f.lt a b)<|f.qg a b
 refine⟨⟨h,bq f.ll c.size,i,λa b=> ?_,λa b=>ew (f.lt a b) c.size,λa b g=> ?_,?_⟩,⟨c.os,c.tape,c.output,c.size,λa b=>c.block a (ew b f.ll) (λg=>by have:=f.mn a g;omega)⟩,j⟩
 .rcases c.rp a b with e|e
  .exact f.mn a e
  exact bq f.ll e
 .rcases c.rp a g with e|e
  .exact f.qg a b e
  have:=f.lt a b;omega
 rw[c.cm];refine f.cm.keep (λa b k=>c.block a b λe=>k<|.inl e) c.size λa b=> ?_
 rcases b with e|e
 .exact(c.rp a e).imp .inl id
 exact .inl<|.inr e
def Al.up(a:Al lo Z w bl cf E v)(b:Below w.heap.size w w'):Al lo Z w' bl cf E v:=
 ⟨bq a.ll b.size,a.H.below b,a.mn,λe c=>ew (a.lt e c) b.size,a.qg,a.cm.keep (λe c _=>b.block e c) b.size λ_ a=> .inl a⟩
def Al.Mo(c:Al lo Z w bl cf E v)(h:w'.heap.size=w.heap.size)(i:∀a,¬Z a->w'.heap[a]?=w.heap[a]?):Al lo Z w' bl cf E v:=by
 have f:∀a,ib bl v a->w'.heap[a]?=w.heap[a]? :=λa b=>i a λg=>c.qg a g b
 have j:=c.cm.keep (w':=w') (X':=λa=>ib bl v a\/Z a) (λa _ k=>i a λg=>k<|.inr g) (yh h.symm) λ_ c=> .inl c
 have e:=c.H;exact⟨by rw[h];exact c.ll,⟨e.row.cw<|f _<|.inl rfl,da e.nx λa b=>f a<|.inr<|.inl b,da e.ot λa b=>f a<|.inr<|.inr<|.inl b,da e.cg λa b=>f a<|.inr<|.inr<|.inr<|.inl b,da e.op λa b=>f a<|.inr<|.inr<|.inr<|.inr b,j.keep (λ_ _ _=>rfl) ah λa b=> .inl<|.inl b,e.ap⟩,c.mn,λa b=>by rw[h];exact c.lt a b,c.qg,j⟩
end
structure Bo(lo:Nat)(w:ae)(bb bl:Nat)(s:ag)(cf:Cf)(inp:ag)(d:Bool)(t:Nat)(E:Ed):Prop where
 row:bd w bb (Ib bl s cf inp d t)
 al:∃v,Al lo (·=bb) w bl cf E v
 lb:lo<=bb
section
variable {lo:Nat} {w w':ae} {bb bl:Nat} {s:ag} {cf:Cf} {inp:ag} {d:Bool} {t:Nat} {E E':Ed}
def Bo.lt(a:Bo lo w bb bl s cf inp d t E):bb<w.heap.size:=a.row.lt (by show 0<9;omega)
def Bo.up(a:Bo lo w bb bl s cf inp d t E)(b:Below w.heap.size w w'):Bo lo w' bb bl s cf inp d t E:=by
 have⟨v,c⟩:=a.al;exact⟨a.row.cw<|b.block bb a.lt,⟨v,c.up b⟩,a.lb⟩
def Bo.ok(b:Bo lo w bb bl s cf inp d t E){v:Ev}(c:Al lo (·=bb) w bl cf E v)(e:Ok w bl cf v E' w'):Bo lo w' bb bl s cf inp d t E'/\Below lo w w':=
 have a:=c.ok e
 ⟨⟨b.row.cw<|a.2.2 bb rfl,a.1,b.lb⟩,a.2.1⟩
def Bo.put{inp':ag}{d':Bool}{t':Nat}{g:ae}(f:Bo lo w bb bl s cf inp d t E)(e:Below lo g w)(a:Nat)(c:a<9)(v:af)(i:(Ib bl s cf inp d t).set a v=Ib bl s cf inp' d' t':=by omega):Bo lo (w.setCell (O bb a) v) bb bl s cf inp' d' t' E/\Below lo g (w.setCell (O bb a) v):=by
 have b:bf bb w (w.setCell (O bb a) v):=(bf.refl _ _).setCell a v;have h:=f.row.put a c v;rw[i]at h;have⟨k,j⟩:=f.al;have l:=f.lb;exact⟨⟨h,⟨k,j.Mo b.size λa c=>b.block a c⟩,f.lb⟩,b.os.trans e.os,b.tape.trans e.tape,b.output.trans e.output,by rw[b.size];exact e.size,λa c=>(b.block a<|by omega).trans<|e.block a c⟩
def Bo.ly{c:Mf}(h:fj c){b:ag}(g:Bo lo w bb bl s cf inp d t E)(j:gx cf)(k:a+b.size<=2000000)(l:Rest cf a E):Calls prog 29 #[.pointer<|some ⟨bl,0,none⟩,.string b] w λf w'=>f=.returned (.tuple #[])/\Bo lo w' bb bl s cf inp d t (E.ly c cf<|Qjj b)/\Below lo w w':=by
 have⟨v,e⟩:=g.al;go_call an1 c h bl cf a E v b w e.H j k l as f w' ⟨rfl,i⟩;exact⟨rfl,g.ok e i⟩
def Bo.fin{b:Mf}(g:fj b)(f:Bo lo w bb bl s cf inp d t E)(h:gx cf)(j:a<=2000000)(k:Rest cf a E):Calls prog 32 #[.pointer<|some ⟨bl,0,none⟩] w λe w'=>e=.returned (.tuple #[])/\Bo lo w' bb bl s cf inp d t (E.rh b cf)/\Below lo w w':=by
 have⟨v,c⟩:=f.al;go_call anm b g bl cf a E v w c.H h j k as e w' ⟨rfl,i⟩;exact⟨rfl,f.ok c i⟩
def Bo.take(b:Int)(h:Bo lo w bb bl s cf inp d t E)(i:a<=2000000)(c:Rest cf a E):Calls prog 31 #[.pointer<|some ⟨bl,0,none⟩,.int .i64 b] w λg w'=>g=.returned (.string (E.take b).2)/\Bo lo w' bb bl s cf inp d t (E.take b).1/\Below lo w w':=by
 have⟨v,e⟩:=h.al;have:=Uz c.1 i;go_call av3 bl cf E v b w e.H c.1.ca (by omega)as g w' ⟨rfl,f⟩;exact⟨rfl,h.ok e f⟩
def Bo.ud(f:Bo lo w bb bl s cf inp d t E)(g:a<=2000000)(c:Rest cf a E):Calls prog 30 #[.pointer<|some ⟨bl,0,none⟩] w λe w'=>e=.returned (.int .i64 E.ud)/\Bo lo w' bb bl s cf inp d t E/\Below lo w w':=by
 have⟨v,b⟩:=f.al;have:=Uz c.1 g;go_call atg bl cf E v w b.H c.1.ca (by omega)as e w' ⟨rfl,n,rfl⟩;exact⟨rfl,f.ok b<|(Ok.refl b.H).drewN n⟩
def Bo.ck(c:Bo lo w bb bl s cf inp d t E):Calls prog 33 #[.pointer<|some ⟨bl,0,none⟩] w λb w'=>b=.returned (.int .i64 E.ck)/\Bo lo w' bb bl s cf inp d t E/\Below lo w w':=by
 have⟨v,a⟩:=c.al;go_call au7 bl cf E v w a.H as b w' ⟨rfl,n,rfl⟩;exact⟨rfl,c.ok a<|(Ok.refl a.H).drewN n⟩
end
def ait{i:Mf}(k:fj i){lo bb bl:Nat}{s:ag}{cf:Cf}{inp:ag}{d:Bool}{t:Nat}{E:Ed}{w:ae}(b:Bo lo w bb bl s cf inp d t E)(l:gx cf)(n:Dq s cf.U)(x:inp.size<=2000000)(o:(nh i cf d (fy cf)<|Qjj inp).ck=E.ck):
  Calls prog 11 #[.pointer<|some ⟨bb,0,none⟩] w λh w'=>h=.returned (.bool true)/\Bo lo w' bb bl s cf inp d t E/\Below lo w w':=by
 have q:=hd b;have g:=b.ck;have e:=hd λ(a:ae)=>Xq k s inp d cf a l n x
 rw[o]at e;generalize ce (nh i cf d (fy cf)<|Qjj inp).out=B at e;generalize(E.ck:Int)=C at e g;have r:=b.row.xc 0;clear b o n l k;go_in;go_wp21;go_call g;rintro h j ⟨rfl,m,p⟩;have y:=hd m;have c:=hd p;clear g m p q r;have m:=hd (show∀a:ae,Bo lo a bb bl s cf inp d t E->a.cell? (O bb 1)=some (.string s)/\a.cell? (O bb 2)=some (I cf.line)/\a.cell? (O bb 3)=some (I cf.space)/\a.cell? (O bb 4)=some (I cf.dt)/\a.cell? (O bb 5)=some (.bool cf.quiet)/\a.cell? (O bb 6)=some (.string inp)/\a.cell? (O bb 7)=some (.bool d)from λa b=>⟨b.row.xc 1,b.row.xc 2,b.row.xc 3,b.row.xc 4,b.row.xc 5,b.row.xc 6,b.row.xc 7⟩);have g:=hd<|y.up<|ss<|bp _ j;have z:Y (Below lo w j.drew):=⟨c.os,c.tape,c.output,c.size,c.block⟩;have p:=m j.drew g;go_wp21;go_region_held_law (λa=>a.cell? (O bb 1)=some (.string s)/\a.cell? (O bb 2)=some (I cf.line)/\a.cell? (O bb 3)=some (I cf.space)/\a.cell? (O bb 4)=some (I cf.dt)/\a.cell? (O bb 5)=some (.bool cf.quiet)/\a.cell? (O bb 6)=some (.string inp)/\a.cell? (O bb 7)=some (.bool d)) (first|exact p|exact q)
  (first
  |(go_at_call 39;(go_call e.out as h u ⟨f,rfl⟩;have r:=hd<|g.up f;have A:=hd<|z.trans<|f.mono g.al.choose_spec.ll;have q:=m u r;clear f)))
 clear p q;go_wp21;go_ret;exact⟨by simp,r,A⟩
def ath{c:Mf}(m:fj c){lo bb bl:Nat}{s:ag}{cf:Cf}{inp:ag}{d:Bool}{t:Nat}{E:Ed}{w:ae}(b:Bo lo w bb bl s cf inp d t E)(n:gx cf)(q:Dq s cf.U)(D:inp.size<=2000000){K:Nat}(A:K<=2000000)(o:Rest cf K E)(f:(ce (nh c cf d (fy cf)<|Qjj inp).out).size=t+E.ud)(B:(ce (nh c cf d (fy cf)<|Qjj inp).out).size<=1099511000000):
  Calls prog 13 #[.pointer<|some ⟨bb,0,none⟩] w λi w'=>i=.returned (.bool true)/\Bo lo w' bb bl s cf inp d t E/\Below lo w w':=by
 have x:=hd b;have h:=b.ud A o;have j:=hd λ(a:ae)=>Xq m s inp d cf a n q D
 generalize ce (nh c cf d (fy cf)<|Qjj inp).out=p at j f B;generalize((nh c cf d (fy cf)<|Qjj inp).ck:Int)=P at j;generalize E.ud=C at h f;have r:=hd f;have y:=b.row.xc 0;clear b f q n m o;go_in;go_wp21;go_call h;rintro i l ⟨rfl,k,u⟩;have F:=hd k;have e:=hd u;clear h k u x y;have u:=hd (show∀a:ae,Bo lo a bb bl s cf inp d t E->a.cell? (O bb 1)=some (.string s)/\a.cell? (O bb 2)=some (I cf.line)/\a.cell? (O bb 3)=some (I cf.space)/\a.cell? (O bb 4)=some (I cf.dt)/\a.cell? (O bb 5)=some (.bool cf.quiet)/\a.cell? (O bb 6)=some (.string inp)/\a.cell? (O bb 7)=some (.bool d)from λa b=>⟨b.row.xc 1,b.row.xc 2,b.row.xc 3,b.row.xc 4,b.row.xc 5,b.row.xc 6,b.row.xc 7⟩);have h:=hd<|F.up<|ss<|bp _ l;have H:Y (Below lo w l.drew):=⟨e.os,e.tape,e.output,e.size,e.block⟩;have x:=u l.drew h;go_wp21;go_region_held_law (λa=>a.cell? (O bb 1)=some (.string s)/\a.cell? (O bb 2)=some (I cf.line)/\a.cell? (O bb 3)=some (I cf.space)/\a.cell? (O bb 4)=some (I cf.dt)/\a.cell? (O bb 5)=some (.bool cf.quiet)/\a.cell? (O bb 6)=some (.string inp)/\a.cell? (O bb 7)=some (.bool d)) (first|exact x|exact y)
  (first
  |(go_at_call 39;(go_call j.out as i L ⟨g,rfl⟩;have k:=hd<|h.up g;have z:=hd<|H.trans<|g.mono h.al.choose_spec.ll;have y:=u L k;clear g)))
 clear x y;have y:=k.row.xc 8;have x:((C:Int)==p.size-(t:Int))=true:=by rw[ra];have:=r.out;omega
 have M:t<=p.size:=by have:=r.out;omega
 go_wp21;go_ret;exact⟨by simp[x],k,z⟩
def an3{c:Mf}(h:fj c){lo bb bl:Nat}{s:ag}{cf:Cf}{inp p:ag}{t K:Nat}{E:Ed}{w:ae}(b:Bo lo w bb bl s cf inp false t E)(i:gx cf)(m:K+p.size<=2000000)(j:Rest cf K E)(r:inp.size+p.size<=4000000):
  Calls prog 12 #[.pointer<|some ⟨bb,0,none⟩,.string p] w λg w'=>g=.returned (.tuple #[])/\Bo lo w' bb bl s cf (inp++p) false t (E.ly c cf<|Qjj p)/\Below lo w w':=by
 have n:=hd b;have e:=b.ly h i m j;have o:=b.row.xc 0;go_in;go_wp21;go_call e;rintro g k ⟨rfl,l,f⟩;have a:=hd l;have q:=hd f;have l:=a.row.xc 6;have f:=a.row.xc 7;have u6:=a.row.frozen (k:=6) (by show 6<9;omega);have e:Y (Bo lo (k.setCell (O bb 6)<|.string<|inp++p) bb bl s cf (inp++p) false t (E.ly c cf<|Qjj p)/\Below lo w (k.setCell (O bb 6)<|.string<|inp++p)):=a.put q 6 (by omega) _ rfl;go_wp21;go_returns;exact⟨rfl,e.1,e.2⟩
def ann{c:Mf}(h:fj c){lo bb bl:Nat}{s:ag}{cf:Cf}{inp:ag}{d:Bool}{t K:Nat}{E:Ed}{w:ae}(a:Bo lo w bb bl s cf inp d t E)(i:gx cf)(m:K<=2000000)(j:Rest cf K E):
  Calls prog 14 #[.pointer<|some ⟨bb,0,none⟩] w λg w'=>g=.returned (.tuple #[])/\Bo lo w' bb bl s cf inp true t (E.rh c cf)/\Below lo w w':=by
 have n:=hd a;have e:=a.fin h i m j;have o:=a.row.xc 0;go_in;go_wp21;go_call e;rintro g k ⟨rfl,l,f⟩;have b:=hd l;have p:=hd f;have f:=b.row.xc 7;have u7:=b.row.frozen (k:=7) (by show 7<9;omega);have e:Y (Bo lo (k.setCell (O bb 7)<|.bool true) bb bl s cf inp true t (E.rh c cf)/\Below lo w (k.setCell (O bb 7)<|.bool true)):=b.put p 7 (by omega) _ rfl;go_wp21;go_returns;exact⟨rfl,e.1,e.2⟩
end
def Bo.new{f:Cf}{i:Ed}(l:Ck a w b f i)(g:Below w.heap.size w u)(m:bd v u.heap.size (Ib b s f ⟨#[]⟩ false 0))(k:Below u.heap.size u v)(n:v.heap.size=u.heap.size+1):Bo a v u.heap.size b s f ⟨#[]⟩ false 0 i:=by
 have⟨j,r,h,o⟩:=l;have e:=g.trans<|k.mono g.size;have p:=g.size;exact⟨m,⟨r,bq j e.size,h.below e,o,λd c=>by rw[n,c];omega,λd c q=>by have:=aeu h d q;omega,h.cm.keep (λd c _=>e.block d c) e.size λd c=>c.imp id λt=>by omega⟩,bq j p⟩
def arx(e:ag)(b c d:Int)(g:Bool)(a:ae)(Z:e.size<=maxLen)(a0:yb a):
  Calls prog 10 #[.string e,.agg #[.int .i64 b,.int .i64 c,.int .i64 d,.bool g]] a λh a2=>Below a.heap.size a a2/\
   (h=.returned (.tuple #[.pointer none,.bool true])\/(zp e b c d=true/\∃X o,h=.returned (.tuple #[.pointer<|some ⟨X,0,none⟩,.bool true])/\Bo a.heap.size a2 X o e (xj e b c d g) ⟨#[]⟩ false 0 (fy<|xj e b c d g))):=by
 have r:=hd a0;have l:=hd λ(f:ae) (p:yb f)=>arz e b c d g f Z p
 have M:=hd λ(f:ae)=>aly e f Z
 have s:=hd λ(f:ae)=>aqn b c d g f
 have m:=hd<|ata e;clear a0;go_in;go_wp21;go_call l.out _ (r.below<|mj a _)as h t ⟨S,F⟩;have i:∀n T,(#[I b,I c,I d,.bool g]:Array af)[n]?=some T->t.cell? (O a.heap.size n)=some T:=λn T a4=>by
  rw[ac n<|S.block a.heap.size<|by simp];rw[yya _ a.heap.size n #[I b,I c,I d,.bool g] 23 (0,0)<|heap_alloc_last a _];exact a4
 have q:∀(f:ae),Below t.heap.size t f->f.cell? (O a.heap.size 0)=some (I b)/\f.cell? (O a.heap.size 1)=some (I c)/\f.cell? (O a.heap.size 2)=some (I d)/\f.cell? (O a.heap.size 3)=some (.bool g):=λf p=>by
  have k:a.heap.size<t.heap.size:=by have:=S.size;simp at this;omega
  exact⟨(p.cell (p:=O a.heap.size 0) k).trans<|i 0 _ rfl,(p.cell (p:=O a.heap.size 1) k).trans<|i 1 _ rfl,(p.cell (p:=O a.heap.size 2) k).trans<|i 2 _ rfl,(p.cell (p:=O a.heap.size 3) k).trans<|i 3 _ rfl⟩
 have U:=hd q;have V:=(mj a _).trans (S.mono<|by simp);have R:=hd F;have a1:=V.size;clear S i q F;have u:=hd λ(q y:Int) (F:Fk e q y)=>(m.unique F).1
 clear m l r;rcases R.out with⟨r,k,rfl⟩|⟨r,o,rfl,A⟩
 .have w:=hd k;obtain⟨i,l⟩:∃i,(jb e).2.1=i:=⟨_,rfl⟩;obtain⟨z,m⟩:∃z,uo b c d=z:=⟨_,rfl⟩;rw[l]at u;rw[m]at s;have v:Ah e b c d=if i=0 then 5 else i:=by
   unfold Ah at k|-;rw[l,m]at k|-;split
   .rename_i h;rw[G h]at k;split at k
    .omega
    rename_i x;rw[N x]
   rfl
  have P:i=0->z=false:=λh=>by
   unfold Ah at k;rw[l,m,G h]at k;cases z
   .rfl
   simp at k
  obtain⟨W,Q⟩:∃W,Y ((if i=0 then 5 else i)=W):=⟨_,rfl⟩;rw[v,Q.out];clear v k w r R l m;go_wp21;go_call M.out as h K ⟨q,y,rfl,L,j⟩;have x:=u q y L;subst x;obtain⟨B,C,D,E⟩:=U.out K j;have v:=hd<|V.trans<|j.mono a1;clear L j M u;go_wp21;go_call s.out as h w3 ⟨rfl,j⟩;have m:=hd<|v.trans<|j.mono v.size;clear j s B C D E;by_cases H:i=0
  .have a3:=P H;have w:=Q.out;rw[G H]at w;subst a3 w H;clear P;go_wp21;go_ret2;exact⟨m,.inl rfl⟩
  have a3:((i:Int)==0)=false:=hh (by omega);have w:=Q.out;rw[N H]at w;subst w;have a5:((i:Int) !=0)=true:=bne_iff_ne.2 (by omega);clear P;go_wp21;go_ret2;exact⟨m,.inl rfl⟩
 have z:=hd A;have H:=hd r;have l:(jb e).2.1=0/\uo b c d=true:=by
  unfold zp at r;simpa using r
 rw[l.1]at u;rw[l.2]at s;have i:1<=b/\1<=c/\1<=d:=by
  have:=l.2;unfold uo uf at this;simp at this;omega
 have P:=hd (show Ib o e (xj e b c d g) ⟨#[]⟩ false 0=[ab o 0,.string e,I b,I c,I d,.bool g,.string ⟨#[]⟩,.bool false,I 0] by
  unfold Ib xj;simp only;rw[yxx<|by omega,yxx<|by omega,yxx<|by omega];rfl)
 clear r A R l i;go_wp21;go_call M.out as h K ⟨q,y,rfl,L,j⟩;have x:=u q y L;have x:(0:Int)=q:=x;subst x;obtain⟨B,C,D,E⟩:=U.out K j;have v:=hd j;clear L j M u;go_wp21;go_call s.out as h w3 ⟨rfl,j⟩;have m:=hd<|v.trans<|j.mono v.size;clear j s B C D E v;obtain⟨B,C,D,E⟩:=U.out w3 m;go_wp2_with (refine ti 46 rfl rfl 75 (.tmp 45) rfl [ab o 0,.string e,I b,I c,I d,.bool g,.string ⟨#[]⟩,.bool false,I 0] rfl ?_;intro w4 w i l;have Q:=hd i;have v:=hd l;have W:=hd w;clear i l w);go_ret2;have w:=Q.out;rw[<-P.out]at w;have A:=z.out;refine⟨V.trans<|(m.trans<|v.mono m.size).mono a1,.inr ⟨H,_,o,rfl,?_⟩⟩;have l:=Bo.new A m w v W;obtain⟨a5,i⟩:=l.al;exact⟨l.row,⟨a5,bq (by simp) i.ll,i.H,λn a3=>bq (by simp)<|i.mn n a3,i.lt,i.qg,i.cm⟩,bq (by simp) l.lb⟩
def av4{p:Mf}(U:fj p){e:Cf}{o:Ed}(k:Bo a w b c s e t f d o)(S:gx e)(X:Dq s e.U)(T:t.size<=2000000){K:Nat}(P:K<=2000000)(W:Rest e K o)(h:ag)(a6:d<=(ce (nh p e f (fy e)<|Qjj t).out).size)
  (y:(ce (nh p e f (fy e)<|Qjj t).out).extract d (ce (nh p e f (fy e)<|Qjj t).out).size=h) (V:(ce (nh p e f (fy e)<|Qjj t).out).size<=1099511000000) (g:Int) (aA:-9223372036854775808<=g) (aB:g<=9223372036854775807) (Q:(o.take g).2=h.extract 0 (min g.toNat h.size)):
  Calls prog 15 #[.pointer<|some ⟨b,0,none⟩,.int .i64 g] w λA Z=>A=.returned (.bool true)/\Bo a Z b c s e t f (d+(o.take g).2.size) (o.take g).1/\Below a w Z:=by
 have q:=hd k;have l:=k.take g P W;have v:=hd λ(i:ae)=>Xq U s t f e i S X T
 generalize ce (nh p e f (fy e)<|Qjj t).out=M at v y V a6;generalize((nh p e f (fy e)<|Qjj t).ck:Int)=a7 at v;have x:=hd Q;have L:=hd y;have a2:h.size=M.size-d:=by rw[<-y,lw,Nat.min_self]
 have u:=k.row.xc 0;generalize(o.take g).1=E at l|-;generalize(o.take g).2=j at l x|-;clear k y X S U W Q;go_enter func15,ntmps15;go_wp21;go_call l;rintro A C ⟨rfl,m,n⟩;have a0:=hd m;have r:=hd n;clear l m n q u;have H:=hd (show∀i:ae,Bo a i b c s e t f d E->i.cell? (O b 1)=some (.string s)/\i.cell? (O b 2)=some (I e.line)/\i.cell? (O b 3)=some (I e.space)/\i.cell? (O b 4)=some (I e.dt)/\i.cell? (O b 5)=some (.bool e.quiet)/\i.cell? (O b 6)=some (.string t)/\i.cell? (O b 7)=some (.bool f)from λi k=>⟨k.row.xc 1,k.row.xc 2,k.row.xc 3,k.row.xc 4,k.row.xc 5,k.row.xc 6,k.row.xc 7⟩);have z:=hd<|a0.up<|ss<|bp _ C;have a1:Y (Below a w C.drew):=⟨r.os,r.tape,r.output,r.size,r.block⟩;have n:=H C.drew z;go_wp21;go_region_held_law (λi=>i.cell? (O b 1)=some (.string s)/\i.cell? (O b 2)=some (I e.line)/\i.cell? (O b 3)=some (I e.space)/\i.cell? (O b 4)=some (I e.dt)/\i.cell? (O b 5)=some (.bool e.quiet)/\i.cell? (O b 6)=some (.string t)/\i.cell? (O b 7)=some (.bool f)) (first|exact n|exact m)
  (first
  |(go_at_call 39;(go_call v.out as A D ⟨l,rfl⟩;have q:=hd<|z.up l;have F:=hd<|a1.trans<|l.mono z.al.choose_spec.ll;have m:=H D q;clear l)))
 clear n m;have a8:=q.row.xc 8;have u8:=q.row.frozen (k:=8) (by show 8<9;omega);have a9:=L.out;have a3:j.size<=h.size:=by rw[x.out,lw];omega
 have m:Y (Bo a (D.setCell (O b 8)<|I<|(d:Int)+j.size) b c s e t f (d+j.size) E/\Below a w (D.setCell (O b 8)<|I<|(d:Int)+j.size)):=by
  have:=q.put F 8 (by omega) (I ((d+j.size:Nat):Int)) (inp':=t) (d':=f) (t':=d+j.size) rfl;rw[show((d+j.size:Nat):Int)=d+(j.size:Int)by omega]at this;exact this
 have aC:(d:Int)<=M.size:=by omega
 have a4:(decide (g<0)=true/\decide (0<h.size)=true/\h.extract 0 0=j)\/(decide (g<0)=true/\decide (0<h.size)=false/\h=j)\/(decide (g<0)=false/\decide (g<(h.size:Int))=true/\h.extract 0 g.toNat=j)\/(decide (g<0)=false/\decide (g<(h.size:Int))=false/\h=j):=by
  have R:∀B,h.size<=B->h.extract 0 B=h:=λB a5=>by
   apply va;rw[yyg];exact Array.extract_eq_self_of_le a5
  have u:=x.out;by_cases n:g<0
  .rw[show min g.toNat h.size=0 by omega]at u;by_cases l:0<h.size
   .exact .inl ⟨decide_eq_true n,decide_eq_true l,u.symm⟩
   exact .inr<|.inl ⟨decide_eq_true n,wu l,by rw[u,R 0<|by omega]⟩
  by_cases l:g<(h.size:Int)
  .exact .inr<|.inr<|.inl ⟨wu n,decide_eq_true l,by rw[u,yi<|by omega]⟩
  exact .inr<|.inr<|.inr ⟨wu n,wu l,by rw[u,Nat.min_eq_right<|by omega,R _ ah]⟩
 have R:d+j.size<=1099511000000:=by omega
 have B:h.size<=1099511000000:=by omega
 clear x L q F v a2 a3 V P T;rcases a4 with⟨n,l,q⟩|⟨n,l,q⟩|⟨n,l,q⟩|⟨n,l,q⟩
 .have u:j.size=0:=by rw[<-q,lw];omega
  rw[show(d:Int)+j.size=(d:Int)by omega]at m;have v:=hd (show j.toList=[] from yyp (by rw[yyn];exact u));clear u;go_wp21;go_ret;exact⟨by simp[v.out],m.1,m.2⟩
 .subst q;go_wp21;go_ret;exact⟨by simp,m.1,m.2⟩
 .have u:g.toNat<=h.size:=by have:=zyb l;omega
  have v:((g.toNat:Nat):Int)=g:=by have:=of_decide_eq_false n;omega
  go_wp21;go_ret;exact⟨by simp,m.1,m.2⟩
 subst q;go_wp21;go_ret;exact⟨by simp,m.1,m.2⟩
def ar5(k:ae){b c d:Int}{q:Bool}(h:zp s b c d=true):gx (xj s b c d q)/\Dq s (xj s b c d q).U:=by
 have e:(jb s).2.1=0/\uo b c d=true:=by unfold zp at h;simpa using h
 refine⟨alu e.1 e.2,?_⟩;show Dq s (jb s).1
 have a:=e.1;unfold jb at a|-;split at a
 .cases a
 rename_i j;rw[N j];split at a
 .cases a
 rename_i f;rw[N f];split at a
 .cases a
 rename_i g;rw[N g];cases i:joinL (hq s).1.bh (hq s).1.U.length (hq s).1.bh 0 (hq s).1.U with
 |error l=>rw[i]at a;cases a
 |ok m=>exact atd k (by omega) (by simpa using f) (by simpa using g) i
def ai1(b:Mf)(a:Cf)(f:Bool)(d:List UInt8):(nh b a f (fy a) d).ca=0:=by
 have⟨_,_,c,_⟩:=age b a d (fy a) [] 0;have c:((fy a).ly b a d).ca=0:=c;unfold nh;split
 .have⟨_,_,e,_⟩:=ass b a ((fy a).ly b a d) [] 0;exact e.trans c
 exact c
def ai0{mf:Mf}{a:Cf}(c:gx a)(b:ag)(d:Bool)(g:b.size<=2000000:=by omega):Rest a b.size (nh mf a d (fy a)<|Qjj b)/\(ce (nh mf a d (fy a)<|Qjj b).out).size<=1099511000000:=by
 have e:=acj (mf:=mf) c (Qjj b) 0 (fy a) (by rw[jn];omega)<|Ts c;rw[qo,jn]at e;have f:Rest a b.size (nh mf a d (fy a)<|Qjj b):=by
  unfold nh;split
  .exact ano c g e
  exact e
 refine⟨f,?_⟩;have:=Uz f.1 g;rw[yx];omega
def ar0{h:Mf}(z:fj h)(q:ag)(l m n:Int)(j:Bool)(c:ag)(d:ae)(L:q.size<=maxLen)(R:c.size<=1048576)(B:yb d):
  Calls prog 3 #[.string q,.agg #[.int .i64 l,.int .i64 m,.int .i64 n,.bool j],.string c] d λg P=>g=.returned (.bool true)/\Below d.heap.size d P:=by
 have k:=hd z;have b:=arx q l m n j (d.alloc<|.cells #[I l,I m,I n,.bool j] 23) L<|B.below<|mj d _;go_enter func3,ntmps3;go_wp21;go_call b;rintro g S ⟨a,H⟩;have s:=(mj d _).trans (a.mono<|by simp);have i:=hd (show d.heap.size<=(d.alloc<|.cells #[I l,I m,I n,.bool j] 23).heap.size by simp);rcases H with rfl|⟨A,E,F,rfl,r⟩
 .go_wp21;go_ret;exact⟨rfl,s⟩
 have⟨a,b⟩:=ar5 d (q:=j) A;have e:=hd a;have o:=hd b;generalize(d.alloc<|.cells #[I l,I m,I n,.bool j] 23).heap.size=M at i r;generalize xj q l m n j=f at e o r;have u:=hd r;have p:=ait k u e o (by decide) rfl;go_wp21;go_call p;rintro g T ⟨rfl,a,b⟩;have t:=hd a;have v:=hd<|s.trans<|b.mono i;have y:=an3 (p:=c) (K:=0) k t e (by omega) (Ts e) (by show 0+c.size<=_;omega);go_wp21;go_call y;rintro g w3 ⟨rfl,a,b⟩;have x:(⟨#[]⟩:ag)++c=c:=by apply va;simp
 rw[x]at a;have u:=hd a;have w:=hd<|v.trans<|b.mono i;have⟨t,v⟩:=ai0 (mf:=h) e c false;have y:=ath k u e o (by omega) (K:=c.size) (by omega) t (by
  have:=ai1 h f false<|Qjj c;rw[yx];show _=0+(nh h f false (fy f)<|Qjj c).ud
  unfold Ed.ud;omega) v
 have x:=hd t;go_wp21;go_call y;rintro g w4 ⟨rfl,a,b⟩;have t:=hd a;have v:=hd<|w.trans<|b.mono i;have y:=ann k t e (K:=c.size) (by omega) x;go_wp21;go_call y;rintro g Q ⟨rfl,a,b⟩;have u:Bo M Q E F q f c true 0 (nh h f true (fy f)<|Qjj c):=a;have w:=hd<|v.trans<|b.mono i;have p:=ait k u e o (by omega) rfl;go_wp21;go_call p;rintro g U ⟨rfl,a,b⟩;have x:=hd a;have y:=hd<|w.trans<|b.mono i;have⟨D,v⟩:=ai0 (mf:=h) e c true;have w:=v;rw[yx]at w;have t:∀(p:ag)(u:Nat),p.size<=u->p.extract 0 u=p:=λp u K=>by
  apply va;rw[yyg];exact Array.extract_eq_self_of_le K
 have C:=av4 k x e o (by omega) (K:=c.size) (by omega) D (ce (nh h f true (fy f)<|Qjj c).out) (ey _) (t _ _ ah) v 1099511627776 (by decide) (by decide) (by
  rw[(av2 (ai1 h f true<|Qjj c) w).1,t];show _<=min 1099511627776 _
  omega)
 go_wp21;go_call C;rintro g v ⟨rfl,a,b⟩;have t:=hd<|y.trans<|b.mono i;go_wp21;go_ret;exact⟨rfl,t⟩
