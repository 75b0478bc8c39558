import Derived.Test.YtppjlpihaocdiaaGreatDoorBlQ
set_option linter.all false
set_option maxRecDepth 100000
set_option maxHeartbeats 16000000
namespace Go.Proofs.YtppjlpihaocdiaaGreatDoor
open Go.RowKit
variable{w u v:ae}{a b c d e:Nat}{s t:ag}{x y z:af}{p D:Int}{l:List af}{f:Bool}{g:List Nat}{h:Nat->Prop}{o:Option Addr}{r:List UInt8}{A:Nat->Bool}{B:Nat->Nat->Bool}{C:Nat->Nat->Prop}(i:Nat)(S T:ag)(V X:af)(j k m n:Nat)(Z:Int)(W:ae)
theorem akk(b:br s ws a=false):cq s a p=(a,gi,gi,p,true):=by unfold cq;grind
def ark(c:pk s a=p)(b:p=58\/p=125):br s ws a=false:=by
 have⟨d,e⟩:=uc c;have:bn ws (au s a)=false:=by
  rcases b with rfl|rfl
  .rw[show au s a=58 by omega];decide
  rw[show au s a=125 by omega];decide
 simp[br,this]
def aqk(h:br s pm a=true):br s ju a=false/\pk s a≠44/\pk s a≠58/\pk s a≠125/\pk s a≠33:=by
 have⟨c,b⟩:=te.1 h;simp only[bn,pm,yxe,List.any_nil,uz,ra,yzs]at b;have d:au s a=61\/68<=au s a/\au s a<=123:=by
  rcases b with h|h|h|h|h|h|h|h|h|h|h|h|h|h|h|h|h|h|h|h|h<;>rw[<-h]<;>decide
 rw[fh c];refine⟨?_,by omega,by omega,by omega,by omega⟩;cases hd:br s ju a with
 |false=>rfl
 |true=>have:=(adq _).1 (te.1 hd).2;omega
def Zp(s:ag)(rw:ie->ie->Prop)(P:ie)(p r:cj):Prop:=p.bk=-1/\Ho p r/\
 ((pk s p.H=58/\Jn {P with H:=skip s az<|p.H+1,ns:=P.ns++[s.extract (p.H+1)<|skip s az<|p.H+1],gs:=P.gs++[P.cs.length]} r/\skip s az (p.H+1)=r.H/\r.H<=s.size/\p.H<r.H)\/
  (pk s p.H≠58/\pk s p.H≠125/\∃m,Hk s rw P m/\Jn m r/\m.H=r.H/\m.H<=s.size/\P.H<m.H))
theorem ama(E:Ch)(T:s.size<=400){x:cj->cj×Bool}{rw:ie->ie->Prop}(aF:Nh s x rw){a o:cj}{n:ie}(c:iw x s a=(o,true))(F:o.bk=-1)(L:Sep s o.H)(f:Jn n a)(P:n.H=a.H)(M:a.H<s.size)(Q:br s fc a.H=false):Zp s rw n a o:=by
 have U:br s dh a.H=false:=by
  cases y:br s dh a.H with
  |false=>rfl
  |true=>
   have⟨R,S⟩:=te.1 y;rw[te.2 ⟨R,(Ak _).2<|.inl<|(wi _).1 S⟩]at Q;cases Q
 have A:=Qzz s a.H a.bk;unfold iw at c;simp only at c;have hid:∀e:Int,pk s a.H=e->e=58\/e=125->cq s a.H a.bk=(a.H,gi,gi,a.bk,true):=λe t z=>akk<|ark t z
 have V:=akl E (lg:=a.bk) (yyh M) U;generalize aG:cq s a.H a.bk=W at*
 have⟨d,X,Z,B,a0⟩:=W;cases a0 with
 |false=>simp at c
 |true=>
  simp only[↓reduceIte]at c;have fin:∀(g:Nat)(u:Bool),br s ju d=false->pk s d≠44->d<=g->((pk s d=33/\u=true/\g=skip s dh (d+1))\/(pk s d≠33/\u=false/\g=d))->
    lm x s {a with H:=g,bk:=B} (Jz X Z u 0)=(o,true)->pk s a.H≠58->pk s a.H≠125->Zp s rw n a o:=λg u p q b h j k l=>by
   have m:Jn n {a with H:=g,bk:=B}:=⟨f.ye,f.len,f.rel,f.ns,f.gs,f.nm,f.w1,f.w2⟩;have A:a.H<=d:=A;have⟨v,r,w,C,D,H,K,a1,w3,w4,a2,a3,a4,a5,a6,a7,a8,a9⟩:=aw0 E T aF j F L m (by grind);have⟨aA,aB,i,aC,aD,aH,aI,aE,b⟩:=V rfl r p q;have b:d=skip s dh i:=b;rw[b]at h;exact⟨aA,w,.inr ⟨k,l,H,⟨C,D,aB,i,g,⟨by grind,by rw[a1];exact aD,by rw[w3];exact h,(te.1 v).1,by omega,aE,a3,a2,w4,a4⟩,a5⟩,a6,a7,a8,a9⟩⟩
  have i:∀e:Int,e=58\/e=125->pk s d≠e->pk s a.H≠e:=λe z q t=>q (by grind)
  by_cases h:pk s d=33
  .rw[G h]at c;have⟨R,S⟩:=uc h;by_cases b:pk s (skip s dh<|d+1)=58
   .grind
   rw[N b]at c;refine fin _ true ?_ (by omega) (bq (by omega)<|Cd s dh<|d+1) (.inl ⟨h,rfl,rfl⟩) c (i _ (.inl rfl)<|by omega) (i _ (.inr rfl)<|by omega);cases hd:br s ju d with
   |false=>rfl
   |true=>have:=(adq _).1 (te.1 hd).2;omega
  rw[N h]at c;by_cases p:pk s d=58
  .rw[G p]at c;by_cases j:d=a.H
   rotate_left
   .grind
   rw[G j]at c;obtain rfl:=j;have b:=hid 58 p<|.inl rfl;injection b with _ b;injection b with _ b;injection b with _ b;injection b with r _;injection c with q k;have k:a.H+1<eg s 8 (a.H+1):=by simpa using k
   subst q;have w:Sep s (eg s 8<|a.H+1):=L;have l:=Vg s 8 (a.H+1) w;have⟨m,D⟩:=Am s 8 (a.H+1) M;refine⟨r▸F,λH K y=>y,.inl ⟨p,?_,l,m,by show _<eg s 8 _;omega⟩⟩;rw[l];exact f.qu (by rw[P];omega) rfl rfl (by rw[lw,yi m];omega)
  rw[N p]at c;have j:br s pm d=true:=by
   by_cases b:br s pm d=true
   .exact b
   unfold lm at c;rw[N b]at c;cases c
  have⟨b,k,l,m,r⟩:=aqk j;exact fin d false b k ah (.inr ⟨h,rfl,rfl⟩) c (i _ (.inl rfl) l)<|i _ (.inr rfl) m
def Hm(rowf:cj->cj×Bool):Prop:=∀p r:cj,rowf p=(r,true)->r.bk=-1->p.bk=-1
theorem ajm(j:s.size<=400){e:cj->cj×Bool}(k:Hm e){g f:cj}{h:Cm}(a:lm e s g h=(f,true))(c:f.bk=-1):g.bk=-1:=by
 unfold lm at a;split at a
 .simp only at a;split at a
  .unfold qr at a;split at a
   .cases a
   simp only at a;generalize d:e _=i at a;have⟨l,m⟩:=i;split at a
   .rename_i b;have b:m=true/\_:=b;rw[b.1]at d;cases a
    have:=k _ l d c;exact this
   cases a
  split at a
  .grind
  split at a
  .cases a;exact c
  split at a
  .injection a with b d;subst b;exact(agr s _ _ _ d j).2.1 c
  grind
 cases a
def al8(f:s.size<=400){d:cj->cj×Bool}(g:Hm d){b e:cj}(a:iw d s b=(e,true))(c:e.bk=-1):b.bk=-1:=by
 unfold iw at a;simp only at a;split at a
 .rename_i h;refine(aap s b.H b.bk h).1 ?_;split at a
  .split at a
   .cases a
   exact ajm f g a c
  split at a
  .split at a
   .injection a with i j;subst i;exact c
   cases a
  exact ajm f g a c
 cases a
def Xm{b:ag}(c:b.size<=400){a:cj->cj×Bool}(e:Hm a):∀f,Hm (rowL' a b f)
 |0,p,r,h,_=>by rw[rowL']at h;cases h
 |f+1,p,r,h,d=>by
  rw[rowL']at h;simp only at h;split at h
  .cases h;exact d
  generalize g:iw a b _=i at h;have⟨l,j⟩:=i;cases j with
  |false=>simp at h
  |true=>
   simp only[↓reduceIte]at h;split at h
   .have k:=Xm c e f _ r h d;have:=al8 c e g k;exact this
   cases h
def aui(h:pk s (skip s dh a)=-1\/br s parts (skip s dh a)=true\/pk s (skip s dh a)=125):Sep s a:=by
 cases d:br s dh a with
 |true=>
  have⟨b,c⟩:=te.1 d;have:=(wi _).1 c;exact .inr<|.inl<|by rw[fh b];omega
 |false=>
  rw[xd d]at h;rcases h with h|h|h
  .exact .inl h
  .have⟨b,c⟩:=te.1 h;have:=(ads _).1 c;unfold Sep;rw[fh b];omega
  exact .inr<|.inr<|.inr<|.inr h
theorem abb{b:cj}(a:uq s b=true):pk s b.H=125:=by
 unfold uq at a;grind
theorem ahv(Q:Ch){a:ag}(C:a.size<=400){v:cj->cj×Bool}{rw:ie->ie->Prop}(R:Hm v)(a1:Nh a v rw):∀(f:Nat)(j g:cj)(d:ie),rowL' v a f j=(g,true)->g.bk=-1->Jn d j->skip a fc d.H=skip a fc j.H->d.H<=a.size->
  j.bk=-1/\∃b,RowR a (Hk a rw) f d b/\Jn b g/\b.H=g.H/\b.H<=a.size/\d.H<=b.H/\Ho j g
 |0,j,g,d,h,_,_,_,_=>by rw[rowL']at h;cases h
 |f+1,j,g,d,h,F,Z,U,H=>by
  rw[rowL']at h;simp only at h;have S:=Cd a fc d.H;have a2:=si a fc d.H H;have a3:=Mc a fc d.H;unfold RowR;rw[<-U]at h;generalize skip a fc d.H=i at*
  have T:Jn {d with H:=i} {j with H:=i}:=Z.same S rfl rfl;by_cases w:pk a i=-1\/uq a {j with H:=i}=true
  .rw[G w]at h;cases h
   refine⟨F,_,.inl ⟨?_,rfl⟩,T,rfl,a2,S,λn o s=>s⟩;rcases w with e|e
   .left;rcases hb i a.size with q|q
    .rw[fh q]at e;omega
    omega
   exact .inr<|abb e
  rw[N w]at h;have V:=(ho<|λe=>w<|.inl e).1;generalize a4:iw v a {j with H:=i}=a5 at h;have⟨c,a6⟩:=a5;cases a6 with
  |false=>simp at h
  |true=>
   simp only[↓reduceIte]at h;by_cases M:pk a (skip a dh c.H)=-1\/br a parts (skip a dh c.H)=true\/uq a {c with H:=skip a dh c.H}=true
   rotate_left
   .grind
   rw[G M]at h;have a7:Sep a c.H:=aui (by
    rcases M with e|e|e
    .exact .inl e
    .grind
    exact .inr<|.inr<|abb e)
   have W:∀m:ie,Jn m c->m.H=c.H->m.H<=a.size->c.bk=-1/\∃b,RowR a (Hk a rw) f m b/\Jn b g/\b.H=g.H/\b.H<=a.size/\m.H<=b.H/\Ho c g:=λm k e a8=>by
    have⟨t,b,u,l,p,r,P,x⟩:=ahv Q C R a1 f {c with H:=skip a dh c.H} g m h F ⟨k.ye,k.len,k.rel,k.ns,k.gs,k.nm,k.w1,k.w2⟩ (by rw[e];exact(ah9 a _ _).symm) a8;exact⟨t,b,u,l,p,r,P,x⟩
   have y:=Xm C R f _ g h F;have y:c.bk=-1:=y;have⟨X,a0,a9⟩:=ama Q C a1 a4 y a7 T rfl V a3;rcases a9 with⟨t,u,l,p,r⟩|⟨t,u,z,l,p,r,P,x⟩
   .have r:i<c.H:=r;have⟨_,b,A,B,D,E,K,L⟩:=W _ u l (by grind);refine⟨X,b,.inr<|.inl ⟨t,A⟩,B,D,E,?_,λn o s=>L n o<|a0 n o s⟩;grind
   have⟨_,b,A,B,D,E,K,L⟩:=W z p r P;have x:i<z.H:=x;exact⟨X,b,.inr<|.inr ⟨V,u,t,z,l,p.ye,A⟩,B,D,E,by omega,λn o s=>L n o<|a0 n o s⟩
def Ht(s:ag):Nat->ie->ie->Prop
 |0=>λ_ _=>False
 |n+1=>RowR s (Hk s<|Ht s n)<|s.size+1
def ahl{a:ag}(c:a.size<=400):∀n,Hm (Qqf a n)
 |0,p,r,h,_=>by rw[Qqf]at h;cases h
 |n+1,p,r,h,b=>Xm c (ahl c n) (a.size+1) p r h b
def aho(g:Ch){a:ag}(b:a.size<=400):∀n,Nh a (Qqf a n) (Ht a n)
 |0,p,r,P,h,_,_,_,_=>by rw[Qqf]at h;cases h
 |n+1,p,r,P,h,c,d,e,f=>ahv g b (ahl b n) (aho g b n) (a.size+1) p r P h c d (by rw[e])<|by omega
theorem aer(g:Nat)(f:ag):∀(c:List ft)(a b:Nat),markF f c a=some b->a<=b/\goalF g f ((c.filter λl=> !l.want).map ft.name) ((c.filter λl=> !l.want).map ft.cmd)=(c[b-a]?.map ft.cmd).getD 0
 | [],a,b,h=>by rw[markF]at h;cases h
 |l::r,a,b,h=>by
  rw[markF]at h;split at h
  .rename_i d;cases h
   refine⟨ah,?_⟩;rw[yzv<|by rw[d.1];rfl,vw,vw,goalF,G d.2,xx];rfl
  rename_i d;have⟨k,i⟩:=aer g f r (a+1) b h;refine⟨by omega,?_⟩;rw[show b-a=(b-(a+1))+1 by omega,yzb,<-i];cases e:l.want with
  |true=>grind
  |false=>rw[yzv<|by rw[e];rfl,vw,vw,goalF,N λj=>d ⟨e,j⟩]
theorem ac9(c:Nat)(d:ag):∀(a:List ft),(∀l∈a,l.want=false->l.name≠d)->goalF c d ((a.filter λl=> !l.want).map ft.name) ((a.filter λl=> !l.want).map ft.cmd)=c
 | [],_=>rfl
 |l::r,h=>by
  have e:=ac9 c d r λf g=>h f<|xw _ g
  cases b:l.want with
  |true=>grind
  |false=>rw[yzv<|by rw[b];rfl,vw,vw,goalF,N<|h l yxi b];exact e
theorem ah5{f:List Cm}{h:Cm}(g:f[c]?=some h):(setGoal f a b)[c]?=some (if c=a then {h with cn:=b} else h):=by
 unfold setGoal;grind
theorem aum(a:List Cm)(c b:Nat):(setGoal a c b).length=a.length:=by
 unfold setGoal;grind
theorem ad7(i:List ft)(s:Nat)(o:ag->Nat)(z:∀l∈i,l.want=true->(l.name.size=0->o l.name=s)/\∀q,markF l.name i 0=some q->o l.name=(i[q]?.map ft.cmd).getD 0):∀(rest:List ft)(p:Nat)(f n:List Cm),(∀l∈rest,l∈i)->joinL i s rest p f=.ok n->
  n.length=f.length/\∀(b:Nat)(d:Cm),f[b]?=some d->∃m,n[b]?=some {d with cn:=m}/\((m=d.cn/\¬∃l∈rest,l.want=true/\l.cmd=b)\/∃l∈rest,l.want=true/\l.cmd=b/\m=o l.name)
 | [],p,f,n,_,h=>by
  rw[joinL]at h;simp_all
 |l::r,p,f,n,hr,h=>by
  have F:∃k,(k=if l.want=true then setGoal f l.cmd (o l.name)else f)/\joinL i s r (p+1) k=.ok n:=by
   rw[joinL]at h;by_cases c:l.name.size=0
   .grind
   rw[N c]at h;cases e:markF l.name i 0 with
   |none=>grind
   |some q=>
    grind
  have⟨k,v,C⟩:=F;have⟨D,A⟩:=ad7 i s o z r (p+1) k n (λd j=>hr d<|xw _ j) C;have E:k.length=f.length:=by rw[v];split;exact aum _ _ _;rfl
  refine⟨D.trans E,λb d j=>?_⟩;by_cases c:l.want=true/\b=l.cmd
  .have w:k[b]?=some {d with cn:=o l.name}:=by rw[v,G c.1,ah5 j,G c.2]
   grind
  have w:k[b]?=some d:=by
   rw[v];split
   .rename_i t;rw[ah5 j,N λu=>c ⟨t,u⟩]
   exact j
  grind
structure Rv(s:ag)(cs:List Cm)(Q:ie):Prop where
 s4:s.size<=400
 row:Ht s 7 ⟨0,[],[],[]⟩ Q
 ye:Cj Q
 le:Q.H<=s.size
 len:Q.cs.length=cs.length
 rel:∀(k:Nat)(c:Dc)(x:Cm),Q.cs[k]?=some c->cs[k]?=some x->xg (λt=>goalF Q.cs.length t Q.ns Q.gs) c x
theorem ate(L:Ch){p:List Cm}(z:s.size<=400)(w:(hq s).2=true)(U:(hq s).1.bk=-1)(C:joinL (hq s).1.bh (hq s).1.U.length (hq s).1.bh 0 (hq s).1.U=.ok p):∃d,Rv s p d:=by
 generalize D:hq s=E at*
 have⟨g,F⟩:=E;have w:F=true:=w;subst w;have⟨_,d,H,i,V,K,W,_⟩:=aho L z 7 _ g ⟨0,[],[],[]⟩ D U ⟨⟨ah,ah,rfl⟩,rfl,λj m b r=>(by cases r),rfl,rfl,λa n=>(by cases n),λa n=>(by cases n),λj b k=>(by cases k)⟩ rfl<|ey _;have M:∀a∈g.bh,a.want=true->(a.name.size=0->goalF d.cs.length a.name d.ns d.gs=g.U.length)/\∀t,markF a.name g.bh 0=some t->goalF d.cs.length a.name d.ns d.gs=(g.bh[t]?.map ft.cmd).getD 0:=λa n x=>by
  rw[i.ns,i.gs];refine⟨λf=>?_,λt c=>(aer _ _ _ 0 t c).2⟩;rw[ac9 _ _ _ λb k e h=>?_]
  .exact i.len
  have:=i.nm b k e;grind
 have⟨A,P⟩:=ad7 g.bh g.U.length (λQ=>goalF d.cs.length Q d.ns d.gs) M g.bh 0 g.U p (λ_ c=>c) C;refine⟨d,z,H,i.ye,K,i.len.trans A.symm,λj m X r u=>?_⟩;obtain⟨b,k⟩:∃b,g.U[j]?=some b:=⟨_,dy<|by grind⟩;have⟨y,R,B⟩:=P j b k;rw[R]at u;cases u
 have e:=i.rel j m b r k;have S:b.R=19->Su m {b with cn:=y}:=λh=>by have c:=e.su h;exact⟨c.L,c.all,c.kr,c.num,c.n9,c.tz,c.tl,c.ok,c.eq⟩
 have x:∀a∈g.bh,a.want=true->a.cmd=j->m.text=a.name/\(b.R=17\/b.R=18):=λa n T h=>by
  have⟨Z,a0,f,l,o,v⟩:=i.w1 a n T;grind
 refine⟨e.kd,e.lt,e.fst,e.snd,e.neg,λh=>?_,e.text,e.tz,λh=>?_,S,e.rows⟩
 .show m.cn=y
  have h:b.R=0:=h;rcases B with⟨f,_⟩|⟨a,f,l,o,_⟩
  .rw[f];exact e.cn h
  grind
 show goalF _ m.text _ _=y
 rcases B with⟨_,f⟩|⟨a,f,l,o,v⟩
 .exact cb (i.w2 j b k h) f
 grind
