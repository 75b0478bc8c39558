import Derived.Test.YtppjlpihaocdiaaGreatDoorAqQ
set_option linter.all false
set_option maxRecDepth 100000
set_option maxHeartbeats 16000000
namespace Go.Proofs.YtppjlpihaocdiaaGreatDoor
open Go.RowKit
variable{w u v:ae}{a b c d e:Nat}{s t:ag}{x y z:af}{p D:Int}{l:List af}{f:Bool}{g:List Nat}{h:Nat->Prop}{o:Option Addr}{r:List UInt8}{A:Nat->Bool}{B:Nat->Nat->Bool}{C:Nat->Nat->Prop}(i:Nat)(S T:ag)(V X:af)(j k m n:Nat)(Z:Int)(W:ae)
section
structure Gd(l:List Nd):Prop where
 wf:Wf l
 h3:∀(n:Nat)(d:Nd),l[n]?=some d->d.R=3->d.ba≠[]
structure kt(s:ag)(l:List Nd)(z:Nat)(l':List Nd)(y:Nat):Prop where
 m:bi s l z=bi s l' y
 g:∀i j,i<=s.size->bi s l z i j->∀c c',(jg s l z i j c c'↔jg s l' y i j c c')
def kt.more{s:ag}{l l2 l' l2':List Nd}{z y:Nat}(a:Gd l)(e:z<l.length)(b:Gd l')(c:y<l'.length)(g:kt s l z l' y):kt s (l++l2) z (l'++l2') y:=by
 let⟨d,f⟩:=g;refine⟨?_,?_⟩
 .rw[My s a.wf e,My s b.wf c];exact d
 rw[My s a.wf e,aad s a.wf a.h3 e,aad s b.wf b.h3 c];exact f
section
variable {s:ag} {l l':List Nd} {z y:Nat}
def kt.gb(c:Gd l)(b:Gd l'){S:Nat->Bool}(i:a<=2)(d:l[z]?=some (gb a S))(e:l'[y]?=some (gb a S)):kt s l z l' y:=by
 constructor
 .funext f g;apply propext;rw[oy c.wf d,oy b.wf e];have:a=0\/a=1\/a=2:=Q
  obtain rfl|rfl|rfl:=this<;>exact Iff.rfl
 intro f g _ _ h j
 rw[yk c.wf c.h3 d,yk b.wf b.h3 e];have:a=0\/a=1\/a=2:=Q
 obtain rfl|rfl|rfl:=this<;>exact Iff.rfl
def kt.jw(f:Gd l)(e:Gd l'){a b num:Nat}(h:l[z]?=some (qc a num))(i:l'[y]?=some (qc b num))(j:kt s l a l' b):kt s l z l' y:=by
 have k:∀c d,bi s l z c d↔bi s l a c d:=λc d=>by
  rw[oy f.wf h];show(∃g∈[a],bi s l g c d)↔_
  simp
 have m:∀c d,bi s l' y c d↔bi s l' b c d:=λc d=>by
  rw[oy e.wf i];show(∃g∈[b],bi s l' g c d)↔_
  simp
 constructor
 .funext c d;apply propext;rw[k,m,j.m]
 intro c d n o p q
 rw[yk f.wf f.h3 h,yk e.wf e.h3 i];exact j.g c d n ((k c d).1 o) _ _
def pq(s:ag)(l l':List Nd):List Nat->List Nat->Prop
 | [],[]=>True
 |z::zs,y::ys=>kt s l z l' y/\pq s l l' zs ys
 |_,_=>False
def pq.map:∀{b a:List Nat},pq s l l' b a->b.map (bi s l)=a.map (bi s l')
 | [],[],_=>rfl
 |z::b,y::a,h=>by rw[vw,vw,h.1.m,pq.map h.2]
 | [],_::_,h=>h.elim
 |_::_,[],h=>h.elim
def pq.any:∀{c b:List Nat} {i j:Nat},pq s l l' c b->((∃a∈c,bi s l a i j)↔∃a∈b,bi s l' a i j)
 | [],[],_,_,_=>qD
 |z::c,y::b,i,j,h=>by
  have:=pq.any (i:=i) (j:=j) h.2;simp only[vc,exists_eq_or_imp];rw[h.1.m,this]
 | [],_::_,_,_,h=>h.elim
 |_::_,[],_,_,h=>h.elim
def pq.alt:∀{e d:List Nat} {i j:Nat} {c c':co},i<=s.size->pq s l l' e d->(altG (bi s l) (jg s l) e i j c c'↔altG (bi s l') (jg s l') d i j c c')
 | [],[],_,_,_,_,_,_=>Iff.rfl
 |z::e,y::d,i,j,c,c',b,h=>by
  have f:=pq.alt (i:=i) (j:=j) (c:=c) (c':=c') b h.2;simp only[altG];rw[f,<-h.1.m];by_cases a:bi s l z i j
  .have:=h.1.g i j b a c c';simp[a,this]
  simp[a]
 | [],_::_,_,_,_,_,_,h=>h.elim
 |_::_,[],_,_,_,_,_,h=>h.elim
theorem pr.wz{c:Nat->Prop}{f g b a:Nat}(h:pr c f g b)(e:c a)(n:f<=a)(j:a<=g):c b:=by
 let⟨k,m,i,d⟩:=h;grind
def pq.row(d:Gd l):∀{zs ys:List Nat} {a c:Nat} {e f:co},a<=s.size->pq s l l' zs ys->ku (zs.map<|bi s l) a c->(ik (bi s l) (jg s l) zs a c e f↔ik (bi s l') (jg s l') ys a c e f)
 | [],[],_,_,_,_,_,_,_=>Iff.rfl
 |z::zs,y::ys,a,c,e,f,b,h,hc=>by
  let⟨g,i,j⟩:=hc;have k:=vz s d.wf (z+1) z Q a g b i;have q:∀n∈zs.map (bi s l),nj s.size n:=λn t=>by
   obtain⟨m,_,rfl⟩:=yzg.1 t;exact vz s d.wf (m+1) m Q
  have u:=nj.chain q g c k.2 j;simp only[ik];rw[<-h.1.m,<-h.2.map];refine yzo λo=>yzo λv=>yyr λw=> ?_
  let⟨m,p⟩:=w.wz ⟨i,j⟩ k.1 u.1;have r:=(vz s d.wf (z+1) z Q a o b m).2;exact and_congr (h.1.g a o b m e v)<|pq.row d r h.2 p
 | [],_::_,_,_,_,_,_,h,_=>h.elim
 |_::_,[],_,_,_,_,_,h,_=>h.elim
def kt.ways(b:Gd l)(a:Gd l'){zs ys:List Nat}(c:l[z]?=some (ct 4 zs))(d:l'[y]?=some (ct 4 ys))(e:pq s l l' zs ys):kt s l z l' y:=by
 constructor
 .funext g h;apply propext;rw[oy b.wf c,oy a.wf d];exact e.any
 intro g h f _ i j
 rw[yk b.wf b.h3 c,yk a.wf a.h3 d];exact e.alt f
def kt.row(c:Gd l)(d:Gd l'){zs ys:List Nat}(e:l[z]?=some (ct 5 zs))(f:l'[y]?=some (ct 5 ys))(h:pq s l l' zs ys):kt s l z l' y:=by
 have g:∀a b,bi s l z a b↔ku (zs.map<|bi s l) a b:=λa b=>oy c.wf e a b
 constructor
 .funext a b;apply propext;rw[g,oy d.wf f,h.map];exact Iff.rfl
 intro a b i j k m
 rw[yk c.wf c.h3 e,yk d.wf d.h3 f];exact h.row c i<|(g a b).1 j
theorem kt.awz(d:Gd l')(h:l'[y]?=some (ct 4 [a]))(f:kt s l z l' a):kt s l z l' y:=by
 have j:∀b c,bi s l' y b c↔bi s l' a b c:=λb c=>by
  rw[oy d.wf h];show(∃e∈[a],bi s l' e b c)↔_
  simp
 constructor
 .rw[f.m];grind
 intro b c k e g i
 rw[yk d.wf d.h3 h,f.g b c k e];rw[f.m]at e;show _↔((bi s l' a b c/\jg s l' a b c g i)\/(¬bi s l' a b c/\i=g))
 simp[e]
theorem kt.ato(f:Gd l')(j:l'[y]?=some (ct 5 [a]))(h:kt s l z l' a):kt s l z l' y:=by
 have p:∀b c,bi s l' y b c↔bi s l' a b c:=λb c=>by
  rw[oy f.wf j];show(∃d,bi s l' a b d/\d=c)↔_
  simp
 constructor
 .rw[h.m];grind
 intro b c k e o m
 rw[yk f.wf f.h3 j,h.g b c k e];rw[h.m]at e;have n:=vz s f.wf (a+1) a Q b c k e;show _↔(∃d g,pr (λd=>bi s l' a b d/\d=c) b c d/\jg s l' a b d o g/\m=g)
 constructor
 .intro i
  exact⟨c,m,⟨n.1,ah,λt q r=>Q,.inr ⟨e,rfl⟩⟩,i,rfl⟩
 rintro⟨d,g,q,i,rfl⟩;obtain⟨_,rfl⟩:=q.wz ⟨e,rfl⟩ n.1 ah;exact i
def kt.Bw(t:Gd l){c q n:Nat}{h:Int}(v:h=-1\/(n:Int)<=h)(m:kt s l c l' q):∀(f:Nat) {done a i:Nat} {e k:co},a<=s.size->Zt (bi s l c) n h done a i->
  (repP (bi s l) (jg s l) c n h f done a i e k↔repP (bi s l') (jg s l') q n h f done a i e k)
 |0,_,_,_,_,_,_,_=>Iff.rfl
 |f+1,done,a,i,e,k,d,u=>by
  have g:=vz s t.wf (c+1) c Q;simp only[repP];rw[<-m.m];refine or_congr (yyr λr=>or_congr (yyr λhd=> ?_) Iff.rfl)<|yyr λr=>yzo λb=>yzo λD=>yyr λA=> ?_
  .let⟨b,j,o⟩:=(Js hd).1 u;have p:=g a b d j;have w:=Nj g p.2 o;obtain rfl:b=i:=Q
   exact m.g a b d j e k
  let⟨_,B,j,_,o⟩:=aao v u r;have p:=g a B d j;have w:=Nj g p.2 o;let⟨x,C⟩:=A.wz ⟨j,o⟩ p.1 w.1;exact and_congr (m.g a b d x e D)<|kt.Bw t v m f (g a b d x).2 C
def kt.Hc(e:Gd l)(f:Gd l'){a b lo:Nat}{hi:Int}(m:hi=-1\/(lo:Int)<=hi)(g:l[z]?=some (gr a lo hi))(i:l'[y]?=some (gr b lo hi))(h:kt s l a l' b):kt s l z l' y:=by
 have j:∀c d,bi s l z c d↔Bg (bi s l a) lo hi c d:=λc d=>oy e.wf g c d
 constructor
 .funext c d;apply propext;rw[j,oy f.wf i,h.m];exact Iff.rfl
 intro c d k n o p
 rw[yk e.wf e.h3 g,yk f.wf f.h3 i];exact kt.Bw e m h (lo+s.size+1) k<|(Se Q c d).2<|(j c d).1 n
end
end
def iu.all(d:iu s)(e:a<=s.size):∃b,run s a=some b:=by
 let⟨b,c,_⟩:=d;exact ah0 e c
def iu.next(f:iu s){c:St}(e:run s a=some c)(g:a<s.size):∃b,step c (au s a)=some b/\run s (a+1)=some b:=by
 let⟨b,d⟩:=f.all (show a+1<=s.size from Q);exact⟨b,by rw[<-lf e];exact d,d⟩
def iu.qd(i:iu s){b:St}(f:run s a=some b)(j:a<=s.size:=by omega)(g:b.m≠1:=by omega)(e:b.m≠2:=by omega):a<s.size:=by
 obtain c|c:=hb a s.size
 .exact c
 obtain rfl:a=s.size:=Q
 let⟨k,d,h⟩:=i;rw[f]at d;cases d
 simp[whole,g,e]at h
def Ml{b:St}(c:4<=b.m)(d:b.m<=10):step b a=oi b a:=by
 rw[step,N,N,N,N]
theorem Pf(l:iu s)(A:run s a=some ⟨b,c,d,e⟩)(r:a<s.size)(w:4<=b)(F:b<=8)(t:au s a≠93)(u:au s a≠45)(v:b=4->au s a≠94):
  (hy s a).2<=s.size/\run s (hy s a).2=some ⟨if b=8 then 7 else 6,c,d,(hy s a).1⟩:=by
 let⟨C,f,k⟩:=l.next A r
 rw[Ml (by exact w) qE]at f;unfold oi at f;simp only at f;rw[N,N Q,N t,N u]at f;have n:∀(m h:Nat),(if b=8\/b=10 then(10:Nat)else 9)=h->(if b=8\/b=10 then(7:Nat)else 6)=m->(h=9\/h=10)->(h=10↔b=8)->(m=if b=8 then 7 else 6)->
   (hy s a).2<=s.size/\run s (hy s a).2=some ⟨if b=8 then 7 else 6,c,d,(hy s a).1⟩:=by
  intro m h x y z D B
  rw[x,y]at f;by_cases j:au s a=92
  .rw[G j]at f;by_cases o:(if b=8\/b=10 then e else 0)<=125
   .rw[G o]at f;cases f
    have p:=l.qd k Q qC qC;let⟨E,g,q⟩:=l.next k p
    rw[Ml qC qC]at g;unfold oi at g;simp only at g;rw[G z]at g;grind[hy]
   grind
  rw[N j]at f;by_cases i:au s a=10\/au s a<(if b=8\/b=10 then e else 0)
  .grind
  rw[N i]at f;cases f
  rw[hy,N j];refine⟨Q,?_⟩;show run s (a+1)=_
  rw[k,B]
 grind
theorem Cc(l:iu s)(j:run s a=some ⟨b,c,d,e⟩)(m:a<s.size:=by omega)(k:4<=b:=by omega)(n:b<=8:=by omega):
  (au s a=93->(b=6\/b=7)/\run s (a+1)=some ⟨1,c,d,e⟩)/\(au s a=45->b=6/\run s (a+1)=some ⟨8,c,d,e⟩):=by
 let⟨o,f,i⟩:=l.next j m
 rw[Ml (by exact k) qE]at f;unfold oi at f;grind
def Ix(e:a<s.size)(d:¬pk s a=(b:Int)):au s a≠b:=by
 intro c
 apply d;rw[fh e,c]
theorem aay(g:iu s)(u:run s a=some ⟨b,c,d,e⟩)(r:a<s.size)(v:4<=b)(A:b<=7)(o:au s a≠93)(p:au s a≠45)(q:b=4->au s a≠94):
  (kf s a).2.2<s.size/\∃i w,run s (kf s a).2.2=some ⟨i,c,d,w⟩/\(i=7\/(i=6/\pk s (kf s a).2.2≠45)):=by
 let⟨t,h⟩:=Pf g u r v Q o p q;rw[N]at h;have j:=g.qd h t qD qD;unfold kf;by_cases f:pk s (hy s a).2=45
 .rw[G f];have x:au s (hy s a).2=45:=by rw[fh j]at f;omega
  let⟨_,k⟩:=(Cc g h j).2 x;have m:=g.qd k Q qD qD;have n:=Cc g k m;let⟨y,l⟩:=Pf g k m Q Q (λf=>Q) (λf=>Q) (λf=>Q);rw[G rfl]at l;have z:=g.qd l y qD qD;grind
 grind
theorem Xz{a:ag}(m:iu a){t q:Nat}:∀(f:Nat)(e:Nat->Bool) {b d o:Nat},run a b=some ⟨d,t,q,o⟩->b<a.size->4<=d->d<=7->au a b≠93->au a b≠45->(d=4->au a b≠94)->a.size<b+f->
  (setL a f b e).1<=a.size/\∃l,run a (setL a f b e).1=some ⟨1,t,q,l⟩
 |0,e,b,d,o,_,r,_,_,_,_,_,hf=>Q
 |f+1,e,b,d,o,hr,r,hm,j,k,n,p,hf=>by
  have v:=Jy a b;let⟨c,w,l,s,g⟩:=aay m hr r hm j k n p;have u:=Cc m s c;rw[setL];by_cases h:pk a (kf a b).2.2=93
  .rw[G h];have i:au a (kf a b).2.2=93:=by rw[fh c]at h;omega
   grind
  rw[N h];refine Xz m f _ s c Q Q (Ix c h) (λi=> ?_) (λx=>Q) Q;obtain g|⟨_,g⟩:=g
  .omega
  exact Ix c g i
def auq(f:iu s)(j:run s (a+1)=some ⟨4,b,c,d⟩)(w:a<s.size):vh s a=sh s a/\(sh s a).1<=s.size/\∃v,run s (sh s a).1=some ⟨1,b,c,v⟩:=by
 have h:=f.qd j Q qD qD;have n:=Cc f j h;have q:au s (a+1)≠93:=λe=>Q
 have r:au s (a+1)≠45:=λe=>Q
 have o:pk s (a+1)≠93:=by rw[fh h];omega
 by_cases e:pk s (a+1)=94
 .have t:au s (a+1)=94:=by rw[fh h]at e;omega
  have k:run s (a+2)=some ⟨5,b,c,d⟩:=by
   show run s (a+1+1)=_
   rw[lf j,Ml qD qD,t];rfl
  have l:=f.qd k Q qD qD;have p:=Cc f k l;have u:au s (a+2)≠93:=λe=>Q
  let⟨i,m⟩:=Xz f s.size dp k l Q Q u (λe=>Q) (λe=>Q) Q;have g:(sh s a).1=(setL s s.size (a+2) dp).1:=by rw[sh,G e]
  rw[g];refine⟨abv (λ_=>by rw[fh l];omega) o<|by rw[g];exact i,i,m⟩
 let⟨i,m⟩:=Xz f s.size dp j h Q Q q r (λ_=>Ix h e) Q;have g:sh s a=setL s s.size (a+1) dp:=by rw[sh,N e]
 rw[g];refine⟨?_,i,m⟩;rw[<-g];exact abv (λf=>cb f e) o (by rw[g];exact i)
theorem Gd.add{d:List Nd}{e:Nd}(i:Gd d)(l:∀m∈e.ba,m<d.length)(h:e.R=3\/e.R=6->e.ba≠[]):Gd (d++[e]):=by
 have j:∀(b:Nat)(c:Nd),(d++[e])[b]?=some c->d[b]?=some c\/(b=d.length/\c=e):=λb c a=>by
  grind
 constructor
 .intro b c a
  obtain a|⟨rfl,rfl⟩:=j b c a
  .exact i.wf b c a
  grind
 intro b c a g
 obtain a|⟨rfl,rfl⟩:=j b c a
 .exact i.h3 b c a g
 exact h<|.inl g
structure tn(s:ag)(o i:Nat)(p p':bs)(r r':bs×Nat):Prop where
 H:r.1.H=r'.1.H
 g:r.1.g=r'.1.g
 lo:i<r.1.H
 le:r.1.H<=s.size
 ext:∃e,r.1.l=p.l++e
 ext':∃e,r'.1.l=p'.l++e
 gd:Gd r.1.l
 Gi:Gd r'.1.l
 lt:r.2<r.1.l.length
 Db:r'.2<r'.1.l.length
 al:∀t,kt t r.1.l r.2 r'.1.l r'.2
 rn:∃st,run s r.1.H=some st/\st.o=o/\(st.m=1\/st.m=2)
def Xg{e f:bs}(n:e.g=f.g)(o:Gd e.l)(l:Gd f.l)(m:b<c)(p:c<=s.size)(q:d<=2)(r:∃g,run s c=some g/\g.o=a/\(g.m=1\/g.m=2)):
  tn s a b e f (cp e c<|gb d A) (cp f c<|gb d A):=by
 have j:Gd (e.l++[gb d A]):=o.add (λt h=>by cases h) (λi=>by have u:d=3\/d=6:=i;omega);have k:Gd (f.l++[gb d A]):=l.add (λt h=>by cases h) (λi=>by have u:d=3\/d=6:=i;omega);exact⟨rfl,n,m,p,⟨_,rfl⟩,⟨_,rfl⟩,j,k,by simp[cp],by simp[cp],λv=>kt.gb (S:=A) j k q (by simp[cp])<|by simp[cp],r⟩
def Xy(b:ag):∀(f a:Nat)(c:Nat->Bool),a<=(setL b f a c).1
 |0,a,c=>ah
 |f+1,a,c=>by
  have d:=Jy b a;rw[setL];split
  .simp only;omega
  have:=Xy b f (kf b a).2.2<|kx c (kf b a).1 (kf b a).2.1;omega
def aup:j<(sh S j).1:=by
 unfold sh;split
 .have:=Xy S S.size (j+2) dp;simp only;omega
 have:=Xy S S.size (j+1) dp;omega
def Jl(s:ag)(ch ch':bs->bs×Nat)(N:Nat):Prop:=∀(p p':bs)(st:St),p.H=p'.H->p.g=p'.g->Gd p.l->Gd p'.l->run s p.H=some st->st.m=0->p.H<=s.size->s.size-p.H<N->
 tn s st.o p.H p p' (ch p) (ch' p')/\((ch p).1.H=s.size\/au s (ch p).1.H=41)
theorem Wg(z:iu s){o g:bs->bs×Nat}(aD:Jl s o g a){i v:bs}{e:St}(a2:i.H=v.H)(a3:i.g=v.g)(x:Gd i.l)(A:Gd v.l)
  (a4:run s i.H=some e) (aE:e.m<=2) (u:i.H<s.size) (aF:s.size-i.H<=a) (M:bn mb (au s i.H)=false):
  tn s e.o i.H i v (qv o s i) (ep g s v)/\∃C,run s (qv o s i).1.H=some C/\C.m=1:=by
 let⟨b,c,m⟩:=i;let⟨aR,aS,d⟩:=v;simp only at a2 a3 x A a4 u aF M|-;subst a2;subst a3;let⟨aT,j,B⟩:=z.next a4 u
 rw[Mm aE M]at j;obtain⟨h,f⟩:∃h,h=au s b:=⟨_,rfl⟩;rw[<-f]at j M;have qa:h≠40->h≠91->h≠92->∀(D:Nat)(R:Nat->Bool),D<=2->tn s e.o b ⟨b,c,m⟩ ⟨b,c,d⟩ (cp ⟨b,c,m⟩ (b+1)<|gb D R) (cp ⟨b,c,d⟩ (b+1)<|gb D R)/\∃C,run s (cp ⟨b,c,m⟩ (b+1)<|gb D R).1.H=some C/\C.m=1:=by
  intro n p k D R l
  rw[Jx M n p k]at j;cases j
  exact⟨Xg rfl x A (yxo _) u l ⟨_,B,rfl,.inl rfl⟩,_,B,rfl⟩
 by_cases S:h=94
 .rw[afh<|by rw[<-S,f]];have:ep g s ⟨b,c,d⟩=cp ⟨b,c,d⟩ (b+1) (gb 1 dp):=by simp only[ep,<-f,S];rfl
  rw[this];exact qa Q Q Q 1 dp Q
 by_cases F:h=36
 .rw[afc<|by rw[<-F,f]];have:ep g s ⟨b,c,d⟩=cp ⟨b,c,d⟩ (b+1) (gb 2 dp):=by simp only[ep,<-f,F];rfl
  rw[this];exact qa Q Q Q 2 dp Q
 by_cases H:h=46
 .rw[afe<|by rw[<-H,f]];have:ep g s ⟨b,c,d⟩=cp ⟨b,c,d⟩ (b+1) (gb 0 λ_=>true):=by simp only[ep,<-f,H];rfl
  rw[this];exact qa Q Q Q 0 _ Q
 by_cases p:h=92
 .rw[afg<|by rw[<-p,f]];have:ep g s ⟨b,c,d⟩=cp ⟨b,c,d⟩ (b+2) (gb 0<|kx dp (val<|au s<|b+1)<|val<|au s<|b+1):=by simp only[ep,<-f,p];rfl
  rw[this];have K:run s (b+1)=some ⟨3,e.o,e.a,e.l⟩:=by
   rw[B,<-j,p];rfl
  have k:=z.qd K u qD qD;let⟨L,n,E⟩:=z.next K k
  rw[Yp]at n;split at n
  .cases n
   exact⟨Xg rfl x A qE k Q ⟨_,E,rfl,.inl rfl⟩,_,E,rfl⟩
  cases n
 by_cases k:h=91
 .have K:run s (b+1)=some ⟨4,e.o,e.a,e.l⟩:=by
   rw[B,<-j,k];rfl
  let⟨q,r,w,l⟩:=auq z K u;rw[aff<|by rw[<-k,f]];have:ep g s ⟨b,c,d⟩=cp ⟨b,c,d⟩ (sh s b).1 (gb 0 (sh s b).2):=by simp only[ep,<-f,k,q];rfl
  rw[this];have t:=aup s b;exact⟨Xg rfl x A t r Q ⟨_,l,rfl,.inl rfl⟩,_,l,rfl⟩
 by_cases l:h=40
 .rw[l]at j;have aG:kh e 40=if e.o=5\/e.a=9 then none else some ⟨0,e.o+1,e.a+1,e.l⟩:=rfl
  rw[aG]at j;split at j
  .cases j
  cases j
  let⟨T,U⟩:=aD ⟨b+1,c+1,m⟩ ⟨b+1,c+1,d⟩ _ rfl rfl x A B rfl u qE;have aH:qv o s ⟨b,c,m⟩=cp (o ⟨b+1,c+1,m⟩).1 ((o ⟨b+1,c+1,m⟩).1.H+1) (qc (o ⟨b+1,c+1,m⟩).2 c):=afd (p:=⟨b,c,m⟩) (by rw[<-l,f]);have aI:ep g s ⟨b,c,d⟩=cp (g ⟨b+1,c+1,d⟩).1 ((g ⟨b+1,c+1,d⟩).1.H+1) (qc (g ⟨b+1,c+1,d⟩).2 c):=by simp only[ep,<-f,l];rfl
  rw[aH,aI];generalize o ⟨b+1,c+1,m⟩=aJ at T U;generalize g ⟨b+1,c+1,d⟩=aK at T;let⟨⟨q,aU,a5⟩,t⟩:=aJ;let⟨⟨aV,aW,a6⟩,w⟩:=aK;let⟨a7,a8,aL,aM,⟨r,a9⟩,⟨aN,aA⟩,V,W,X,Z,aB,L,a0,aO,aP⟩:=T;simp only at a7 a8 aL aM a9 aA V W X Z aB a0 aO U;subst a7;subst a8;have aQ:q<s.size:=by
   obtain P|P:=hb q s.size
   .exact P
   obtain rfl:q=s.size:=Q
   let⟨aC,y,a1⟩:=z;rw[a0]at y;cases y
   simp[whole]at a1;omega
  have a1:=U.resolve_left Q;have y:run s (q+1)=some ⟨1,L.o-1,L.a,L.l⟩:=by
   rw[lf a0,a1];exact aiu aP
  have n:Gd (a5++[qc t c]):=V.add (λr P=>by obtain rfl:r=t:=(by simpa[qc]using P);exact X) (λ_=>by simp[qc]);have E:Gd (a6++[qc w c]):=W.add (λr P=>by obtain rfl:r=w:=(by simpa[qc]using P);exact Z) (λ_=>by simp[qc]);refine⟨⟨rfl,rfl,by show b<q+1;omega,aQ,⟨r++[qc t c],by show a5++_=_;rw[a9,nt]⟩,⟨aN++[qc w c],by show a6++_=_;rw[aA,nt]⟩,n,E,by simp[cp],by simp[cp],λaC=> ?_,⟨_,y,qC,.inl rfl⟩⟩,_,y,rfl⟩;exact kt.jw (a:=t) (b:=w) (num:=c) n E (by simp[cp]) (by simp[cp])<|(aB aC).more V X W Z
 rw[afi f.symm S F H l k p];have:ep g s ⟨b,c,d⟩=cp ⟨b,c,d⟩ (b+1) (gb 0<|kx dp h h):=by simp only[ep,<-f,N S,N F,N H,N l,N k,N p]
 simp_all
def Xh{q r:bs}{f i:bs×Nat}(P:tn s a b q r f i)(M:b<c)(E:c<=s.size)(F:p=-1\/(d:Int)<=p)(B:∃j,run s c=some j/\j.o=a/\(j.m=1\/j.m=2)):
  tn s a b q r (cp f.1 c<|gr f.2 d p) (cp i.1 c<|gr i.2 d p):=by
 let⟨⟨U,R,t⟩,g⟩:=f;let⟨⟨S,T,u⟩,h⟩:=i;let⟨C,v,D,H,⟨e,w⟩,⟨K,x⟩,k,l,m,n,y,_⟩:=P;simp only at C v D H w x k l m n y;have z:Gd (t++[gr g d p]):=k.add (λe o=>by obtain rfl:e=g:=(by simpa[gr]using o);exact m) (λ_=>by simp[gr]);have A:Gd (u++[gr h d p]):=l.add (λe o=>by obtain rfl:e=h:=(by simpa[gr]using o);exact n) (λ_=>by simp[gr]);refine⟨rfl,v,M,E,⟨e++[gr g d p],by show t++_=_;rw[w,nt]⟩,⟨K++[gr h d p],by show u++_=_;rw[x,nt]⟩,z,A,by simp[cp],by simp[cp],λL=> ?_,B⟩;exact kt.Hc (a:=g) (b:=h) (lo:=d) (hi:=p) z A F (by simp[cp]) (by simp[cp])<|(y L).more k m l n
def Jp(s:ag)(j:Nat):Prop:=∃st,run s j=some st/\((st.m=1/\pk s j≠42/\pk s j≠43/\pk s j≠63/\pk s j≠123)\/st.m=2)
theorem afx(i:iu s){w C:bs->bs×Nat}(U:Jl s w C a){c m:bs}{h:St}(V:c.H=m.H)(W:c.g=m.g)(X:Gd c.l)(Z:Gd m.l)
  (a0:run s c.H=some h) (a1:h.m<=2) (j:c.H<s.size) (a2:s.size-c.H<=a) (a3:bn mb (au s c.H)=false):
  tn s h.o c.H c m (xc w s c) (ki C s m)/\Jp s (xc w s c).1.H:=by
 let⟨e,H,n,K⟩:=Wg i U V W X Z a0 a1 j a2 a3;have L:H.o=h.o:=by
  let⟨d,l,b,_⟩:=e.rn;rw[n]at l;cases l
  exact b
 have D:=e.H;have M:=e.lo;have P:=e.le;unfold xc ki;generalize qv w s c=r at e n D M P;generalize ep C s m=qa at e D;simp only;rw[<-D];obtain⟨b,E⟩:∃b,b=r.1.H:=⟨_,rfl⟩;rw[<-E]at n M P|-;let⟨aB,aC,l,a4⟩:=H;simp only at K L;subst K;subst L;have F:∀(t:Nat)(j:Int),(j=-1\/(t:Int)<=j)->(pk s b=42\/pk s b=43\/pk s b=63)->tn s h.o c.H c m (cp r.1 (b+1)<|gr r.2 t j) (cp qa.1 (b+1)<|gr qa.2 t j)/\Jp s (cp r.1 (b+1)<|gr r.2 t j).1.H:=by
  intro t j g d
  have x:b<s.size:=by
   obtain o|o:=hb b s.size
   .exact o
   rw[qj]at d;omega
  have k:au s b=42\/au s b=43\/au s b=63:=by rw[fh x]at d;omega
  have u:run s (b+1)=some ⟨2,h.o,l,a4⟩:=by rw[lf n];exact Qq k
  exact⟨Xh e Q x g ⟨_,u,rfl,.inr rfl⟩,_,u,.inr rfl⟩
 by_cases k:pk s b=42
 .grind
 rw[N k,N k];by_cases p:pk s b=43
 .grind
 rw[N p,N p];by_cases q:pk s b=63
 .grind
 rw[N q,N q];by_cases d:pk s b=123
 .rw[G d,G d];have x:b<s.size:=by
   obtain o|o:=hb b s.size
   .exact o
   rw[qj]at d;omega
  have u:run s (b+1)=some ⟨11,h.o,l,0⟩:=by
   rw[lf n,show au s b=123 by rw[fh x]at d;omega];exact Qp
  have a5:=i.qd u Q qD qD;let⟨aD,y,R⟩:=i.next u a5
  rw[Bl<|.inl rfl]at y;split at y
  .rename_i hd;cases y
   have A:=i.qd R Q qD qD;let⟨aE,g,B⟩:=i.next R A
   rw[G rfl,Cw<|.inl rfl]at g;by_cases v:pk s (b+2)=44
   .rw[G v,G v];have a6:au s (b+1+1)=44:=by
     have:=fh A;rw[show b+1+1=b+2 from rfl]at this|-;omega
    rw[N,G ⟨a6,rfl⟩]at g;cases g
    have a7:=i.qd B Q qD qD;let⟨aF,z,S⟩:=i.next B a7
    rw[Bl<|.inr rfl]at z;split at z
    .rename_i a8;cases z
     have a9:=i.qd S Q qD qD;let⟨aG,f,aA⟩:=i.next S a9
     rw[N,Cw<|.inr rfl]at f;split at f
     .cases f
      have T:run s (b+5)=some ⟨2,h.o,l,au s (b+3)-48⟩:=aA;refine⟨Xh e Q Q (.inr ?_) ⟨_,T,rfl,.inr rfl⟩,_,T,.inr rfl⟩;grind
     grind
    cases z
   rw[N v,N v];split at g
   .cases g
    have f:run s (b+3)=some ⟨2,h.o,l,au s (b+1)-48⟩:=B;exact⟨Xh e Q Q (.inr Q) ⟨_,f,rfl,.inr rfl⟩,_,f,.inr rfl⟩
   split at g
   .rename_i f;exact cb f.1<|Ix A v
   cases g
  cases y
 rw[N d,N d];exact⟨e,_,by rw[<-E];exact n,.inl ⟨rfl,qE⟩⟩
structure Fs(l l':List Nd)(zs ys:List Nat):Prop where
 lt:∀z∈zs,z<l.length
 Db:∀y∈ys,y<l'.length
 each:∀t,pq t l l' zs ys
def pq.more{n:ag}{b a e e':List Nd}(m:Gd b)(l:Gd a):∀{d c:List Nat},(∀z∈d,z<b.length)->(∀k∈c,k<a.length)->pq n b a d c->pq n (b++e) (a++e') d c
 | [],[],_,_,_=>trivial
 |z::d,k::c,f,g,h=>⟨h.1.more m (f z qD) l<|g k qD,pq.more m l (λj i=>f j<|xw _ i) (λj i=>g j<|xw _ i) h.2⟩
 | [],_::_,_,_,h=>h.elim
 |_::_,[],_,_,h=>h.elim
def pq.snoc{f:ag}{e d:List Nd}{k j:Nat}(i:kt f e k d j):∀{h g:List Nat},pq f e d h g->pq f e d (h++[k]) (g++[j])
 | [],[],_=>⟨i,trivial⟩
 |a::h,b::g,c=>⟨c.1,pq.snoc i c.2⟩
 | [],_::_,c=>c.elim
 |_::_,[],c=>c.elim
def Fs.snoc{r:ag}{q p:Nat}{g h:bs}{f e:bs×Nat}{m l:List Nat}(o:Gd g.l)(n:Gd h.l)(c:Fs g.l h.l m l)(b:tn r q p g h f e):Fs f.1.l e.1.l (m++[f.2]) (l++[e.2]):=by
 let⟨s,j⟩:=b.ext;let⟨t,i⟩:=b.ext';constructor
 .intro d a
  obtain a|a:=og.1 a
  .have:=c.lt d a;rw[j,ga];omega
  obtain rfl:d=f.2:=qK a
  exact b.lt
 .intro d a
  obtain a|a:=og.1 a
  .have:=c.Db d a;rw[i,ga];omega
  obtain rfl:d=e.2:=qK a
  exact b.Db
 intro k
 refine pq.snoc (b.al k) ?_;rw[j,i];exact pq.more o n c.lt c.Db<|c.each k
def Jp.over(m:iu s)(u:a<=s.size)(l:Jp s a)(f:om s a=false):pk s a=124\/pk s a=41\/a=s.size:=by
 obtain c|i:=hb a s.size
 .let⟨⟨d,k,e,j⟩,n,g⟩:=l;have h:bn mb (au s a)=true:=by
   unfold om at f;simpa[c]using f
  let⟨t,b,_⟩:=m.next n c
  rw[fh c]at g|-;simp only at g;by_cases o:au s a=124
  .omega
  by_cases v:au s a=41
  .omega
  exfalso;have p:step ⟨d,k,e,j⟩ (au s a)=nr ⟨d,k,e,j⟩ (au s a):=by
   rw[step,N qC,G qC]
  rw[p]at b;have q:¬(d=1/\bn xr (au s a)=true):=by
   rintro⟨w,r⟩;rw[Eh]at r;omega
  unfold nr at b;simp only at b;rw[N q,N,N o,N]at b;unfold kh at b;rw[Cz]at h;rw[N,N,N,G<|by rw[Cz];exact h]at b;cases b
 omega
def tn.trans{h i:bs}{j g e k:bs×Nat}(f:tn s a b h i j g)(d:tn s a c j.1 g.1 e k)(r:b<e.1.H:=by omega):tn s a b h i e k:=by
 let⟨p,q⟩:=f.ext;let⟨t,m⟩:=f.ext';let⟨u,n⟩:=d.ext;let⟨o,l⟩:=d.ext';exact⟨d.H,d.g,r,d.le,⟨p++u,by rw[n,q,nt]⟩,⟨t++o,by rw[l,m,nt]⟩,d.gd,d.Gi,d.lt,d.Db,d.al,d.rn⟩
def ag1{L M:bs}{g k:bs×Nat}{d e:List Nat}(D:c=4\/c=5)(T:tn s a b L M g k)(i:Fs g.1.l k.1.l (d++[g.2]) (e++[k.2])):
  tn s a b L M (joinF c (d++[g.2]) g.1) (cp k.1 k.1.H<|ct c<|e++[k.2])/\(joinF c (d++[g.2]) g.1).1.H=g.1.H:=by
 let⟨⟨B,E,m⟩,h⟩:=g;let⟨⟨W,V,p⟩,f⟩:=k;let⟨F,H,t,u,⟨R,v⟩,⟨K,w⟩,n,r,x,P,qa,A⟩:=T;simp only at F H t u v w n r x P qa A i|-;subst F;subst H;have l:Gd (p++[ct c<|e++[f]]):=r.add (λC y=>i.Db C y) (λU=>by simp[ct]);cases d with
 |nil=>
  cases e with
  |cons z e=>
   have o:=(i.each ByteArray.empty).2;cases e with
   |nil=>exact(show False from o).elim
   |cons j e=>exact(show False from o).elim
  |nil=>
   refine⟨⟨rfl,rfl,t,u,⟨R,v⟩,⟨K++[ct c [f]],by show p++_=_;rw[w,nt];rfl⟩,n,l,x,by simp[cp],λq=> ?_,A⟩,rfl⟩;have j:kt q m h (p++[ct c<|[]++[f]]) f:=by
    have:=(qa q).more (l2:=[]) (l2':=[ct c<|[]++[f]]) n x r P;rwa[xu]at this
   obtain rfl|rfl:=D
   .exact kt.awz l (by simp[cp]) j
   exact kt.ato l (by simp[cp]) j
 |cons j d=>
  have S:joinF c (j::d++[h]) ⟨B,E,m⟩=cp ⟨B,E,m⟩ B (ct c (j::d++[h])):=Va qD;rw[S];have z:Gd (m++[ct c (j::d++[h])]):=n.add (λC y=>i.lt C y) (λU=>by simp[ct]);refine⟨⟨rfl,rfl,t,u,⟨R++[ct c (j::d++[h])],by show m++_=_;rw[v,nt]⟩,⟨K++[ct c<|e++[f]],by show p++_=_;rw[w,nt]⟩,z,l,by simp[cp],by simp[cp],λq=> ?_,A⟩,rfl⟩;have o:=pq.more (e:=[ct c (j::d++[h])]) (e':=[ct c<|e++[f]]) n r i.lt i.Db<|i.each q;obtain rfl|rfl:=D
  .exact kt.ways (zs:=j::d++[h]) (ys:=e++[f]) z l (by simp[cp]) (by simp[cp]) o
  exact kt.row (zs:=j::d++[h]) (ys:=e++[f]) z l (by simp[cp]) (by simp[cp]) o
theorem Zb{a:ag}(r:iu a){e h:bs->bs×Nat}{t:Nat}(w:Jl a e h t):∀(f:Nat)(b c:bs)(o:St)(g j:List Nat),b.H=c.H->b.g=c.g->Gd b.l->Gd c.l->
  run a b.H=some o->o.m<=2->b.H<a.size->a.size-b.H<=t->bn mb (au a b.H)=false->Fs b.l c.l g j->a.size-b.H<=f->
  tn a o.o b.H b c (wayL e a f b g) (qs h a (f+1) c j)/\Jp a (wayL e a f b g).1.H/\om a (wayL e a f b g).1.H=false
 |0,b,c,o,g,j,_,_,_,_,_,_,k,_,_,_,hf=>Q
 |f+1,b,c,o,g,j,ha,u,hp,i,hr,hm,k,v,hc,hS,hf=>by
  let⟨d,s⟩:=afx r w ha u hp i hr hm k v hc;have p:=hS.snoc hp i d;have A:¬(pk a c.H=124\/pk a c.H=41\/c.H=a.size):=by
   rw[<-ha,fh k];have:¬(bn mb (au a b.H)=true):=by rw[hc];simp
   rw[Cz]at this;omega
  have C:qs h a (f+1+1) c j=qs h a (f+1) (ki h a c).1 (j++[(ki h a c).2]):=by
   rw[qs,N A]
  rw[C];have D:wayL e a (f+1) b g=if om a (xc e a b).1.H=true then wayL e a f (xc e a b).1 (g++[(xc e a b).2])else joinF 5 (g++[(xc e a b).2]) (xc e a b).1:=rfl
  rw[D];generalize xc e a b=l at d s p;generalize ki h a c=x at d p;by_cases n:om a l.1.H=true
  .rw[G n];let⟨B,E,F,K⟩:=d.rn;have m:l.1.H<a.size/\bn mb (au a l.1.H)=false:=by
    unfold om at n;simpa using n
   have H:=d.lo;let⟨q,y,z⟩:=Zb r w f l.1 x.1 B (g++[l.2]) (j++[x.2]) d.H d.g d.gd d.Gi E Q m.1 Q m.2 p Q;rw[F]at q;have:=q.lo;exact⟨d.trans q,y,z⟩
  rw[N n];have m:om a l.1.H=false:=qK n
  have q:=s.over r d.le m;rw[d.H]at q;rw[qs,G q];let⟨z,y⟩:=ag1 (.inr rfl) d p;grind
def tn.ati{d o2 c:Nat}{p p' e b:bs}{f g:bs×Nat}(a:tn s d c e b f g)(h:d=o2)(i:e.l=p.l)(j:b.l=p'.l):tn s o2 c p p' f g:=by
 subst h;exact⟨a.H,a.g,a.lo,a.le,by rw[<-i];exact a.ext,by rw[<-j];exact a.ext',a.gd,a.Gi,a.lt,a.Db,a.al,a.rn⟩
def Yh(c b:List Nd):Fs c b [] []:=⟨(λd a=>by cases a),(λd a=>by cases a),λe=>trivial⟩
theorem aa6{b:ag}(q:iu b){g h:bs->bs×Nat}{s:Nat}(x:Jl b g h s):∀(f:Nat)(c d:bs)(k:St)(j m:List Nat),c.H=d.H->c.g=d.g->Gd c.l->Gd d.l->
  run b c.H=some k->k.m=0->c.H<=b.size->b.size-c.H<=s->Fs c.l d.l j m->b.size-c.H<=f->
  tn b k.o c.H c d (wy g b f c j) (sw h b (f+1) d m)/\((wy g b f c j).1.H=b.size\/au b (wy g b f c j).1.H=41)
 |0,c,d,k,j,m,_,_,_,_,hr,hm,v,_,_,hf=>by
  have:=q.qd hr v;omega
 |f+1,c,d,k,j,m,ha,B,hp,l,hr,hm,v,C,hS,hf=>by
  have y:=q.qd hr v;have D:bn mb (au b c.H)=false:=by
   let⟨p,e,_⟩:=q.next hr y
   have o:step k (au b c.H)=kh k (au b c.H):=by rw[step,G hm]
   rw[o]at e;cases i:bn mb (au b c.H)with
   |false=>rfl
   |true=>
    have r:=(Cz _).1 i;unfold kh at e;grind
  let⟨e,w,t⟩:=Zb q x b.size c d k [] [] ha B hp l hr Q y C D (Yh _ _) Q;have p:=hS.snoc hp l e;have E:wy g b (f+1) c j=if pk b (wt g b c).1.H=124 then wy g b f ⟨(wt g b c).1.H+1,(wt g b c).1.g,(wt g b c).1.l⟩ (j++[(wt g b c).2])else joinF 4 (j++[(wt g b c).2]) (wt g b c).1:=rfl
  have F:sw h b (f+1+1) d m=if pk b (ip h b d).1.H=124 then sw h b (f+1) ⟨(ip h b d).1.H+1,(ip h b d).1.g,(ip h b d).1.l⟩ (m++[(ip h b d).2])else cp (ip h b d).1 (ip h b d).1.H (ct 4<|m++[(ip h b d).2]):=rfl
  rw[E,F];have H:wt g b c=wayL g b b.size c []:=rfl;have K:ip h b d=qs h b (b.size+1) d []:=rfl;rw[<-H]at e w t p;rw[<-K]at e p;generalize wt g b c=i at e w t p;generalize ip h b d=r at e p;by_cases o:pk b i.1.H=124
  .rw[G o,G<|by rw[<-e.H];exact o];have z:i.1.H<b.size:=by
    obtain n|n:=hb i.1.H b.size
    .exact n
    rw[qj]at o;omega
   let⟨u,L,M,P⟩:=e.rn;have S:run b (i.1.H+1)=some ⟨0,u.o,u.a,u.l⟩:=by
    rw[lf L,show au b i.1.H=124 by rw[fh z]at o;omega];exact Yo P
   have U:=e.lo;let⟨R,qa⟩:=aa6 q x f ⟨i.1.H+1,i.1.g,i.1.l⟩ ⟨r.1.H+1,r.1.g,r.1.l⟩ _ (j++[i.2]) (m++[r.2]) (by show i.1.H+1=r.1.H+1;rw[e.H]) e.g e.gd e.Gi S rfl z qE p qE;have A:=R.ati (p:=i.1) (p':=r.1) (o2:=k.o) M rfl rfl;have T:i.1.H+1<_:=A.lo;exact⟨e.trans A,qa⟩
  rw[N o,N<|by rw[<-e.H];exact o];let⟨u,z⟩:=ag1 (.inl rfl) e p;refine⟨u,?_⟩;rw[z];obtain a|a|a:=w.over q e.le t
  .exact cb a o
  .right;obtain n|n:=hb i.1.H b.size
   .rw[fh n]at a;omega
   rw[qj]at a;omega
  exact .inl a
def Cy{a:ag}(d:iu a):∀N,Jl a (ml a N) (dz a N) N
 |0=>λe b c _ _ _ _ _ _ _ g=>Q
 |N+1=>λe b c h i j f k l m g=>
  aa6 d (Cy d N) a.size e b c [] [] h i j f k l m Q (Yh _ _) Q
def Qu(d:iu s)(g:s.size<=40):(il s).1.g=(jv s).1.g/\Gd (il s).1.l/\Gd (jv s).1.l/\∀f,kt f (il s).1.l (il s).2 (jv s).1.l (jv s).2:=by
 have b:Gd []:=⟨λe c hd=>by simp at hd,λe c hd=>by simp at hd⟩;let⟨a,_⟩:=Cy d 41 ⟨0,0,[]⟩ ⟨0,0,[]⟩ ⟨0,0,0,0⟩ rfl rfl b b rfl rfl (ey _) Q;exact⟨a.g,a.gd,a.Gi,a.al⟩
section
theorem Yz(c:Nat->Prop)(a:Nat):∀d,∃f,pr c a (a+d) f
 |0=>⟨a,ah,ah,λb e h=>Q,.inl rfl⟩
 |d+1=>by
  by_cases i:c (a+(d+1))
  .exact⟨a+(d+1),Q,ah,λb e h=>Q,.inr i⟩
  let⟨f,e,h,j,l⟩:=Yz c a d;refine⟨f,e,Q,λb n o=>?_,l⟩;grind
section
variable {m:Nat->Nat->Nat->Prop} {g:Nat->Nat->Nat->co->co->Prop}
def Gx(g:Nat->Nat->Nat->co->co->Prop)(x:Nat):Prop:=∀i j c,i<=j->∃c',g x i j c c'/\c'.length=c.length
def aar(c d:Nat)(i:c<=d)(b:co):∀(k:List Nat),(∀x∈k,Gx g x)->∃a,altG m g k c d b a/\a.length=b.length
 | [],_=>⟨b,rfl,rfl⟩
 |x::xs,h=>by
  by_cases j:m x c d
  .let⟨a,e,f⟩:=h x qD c d b i;exact⟨a,.inl ⟨j,e⟩,f⟩
  let⟨a,e,f⟩:=aar c d i b xs λn l=>h n<|xw _ l
  exact⟨a,.inr ⟨j,e⟩,f⟩
def ag6(b:Nat):∀(k:List Nat)(a:Nat)(c:co),a<=b->(∀x∈k,Gx g x)->∃j,ik m g k a b c j/\j.length=c.length
 | [],a,c,_,_=>⟨c,rfl,rfl⟩
 |x::xs,a,c,d,h=>by
  let⟨e,f⟩:=Yz (λe=>m x a e/\ku (xs.map m) e b) a<|b-a;rw[show a+(b-a)=b from Q]at f;let⟨i,l,n⟩:=h x qD a e c f.1;let⟨o,p,q⟩:=ag6 b xs e i f.2.1 λs r=>h s<|xw _ r
  exact⟨o,⟨e,i,f,l,p⟩,by rw[q,n]⟩
def agx(h k:Nat)(o:Int)(b:Nat)(n:Gx g h):∀(f done a:Nat)(c:co),a<=b->∃r,repP m g h k o f done a b c r/\r.length=c.length
 |0,done,a,c,_=>⟨c,rfl,rfl⟩
 |f+1,done,a,c,e=>by
  by_cases l:a<b
  .let⟨d,i⟩:=Yz (λd=>m h a d/\Zt (m h) k o (done+1) d b) a<|b-a;rw[show a+(b-a)=b from Q]at i;let⟨j,p,q⟩:=n a d c i.1;let⟨s,t,u⟩:=agx h k o b n f (done+1) d j i.2.1;exact⟨s,.inr ⟨l,d,j,i,p,t⟩,by rw[u,q]⟩
  by_cases hd:done<k
  .let⟨j,p,q⟩:=n a b c e;exact⟨j,.inl ⟨l,.inl ⟨hd,p⟩⟩,q⟩
  exact⟨c,.inl ⟨l,.inr ⟨hd,rfl⟩⟩,rfl⟩
end
theorem af9(d:ag)(b:List Nd)(z:Wf b)(t:∀(k:Nat)(a:Nd),b[k]?=some a->a.R=3->a.ba≠[]):∀(f k:Nat),k<f->k<b.length->Gx (md d b f) k
 |0,k,h,_=>Q
 |f+1,k,h,hn=>by
  intro i j c n
  obtain⟨a,hd⟩:∃a,b[k]?=some a:=⟨_,dy hn⟩;let⟨u,A⟩:=z k a hd;have o:∀l∈a.ba,Gx (md d b f) l:=λl v=>af9 d b z t f l qE qE
  have y:a.ba≠[]->a.ba.getD 0 0∈a.ba:=λB=>by
   grind
  have C:∃e,(if a.R=3 then md d b f (a.ba.getD 0 0) i j (c.set a.num ((i:Int),(j:Int))) e
   else if a.R=4 then altG (bi d b) (md d b f) a.ba i j c e
   else if a.R=5 then ik (bi d b) (md d b f) a.ba i j c e
   else if a.R=6 then repP (bi d b) (md d b f) (a.ba.getD 0 0) a.lo a.hi (a.lo+d.size+1) 0 i j c e
   else e=c)/\e.length=c.length:=by
   by_cases p:a.R=3
   .let⟨e,q,r⟩:=o _ (y<|t k a hd p) i j (c.set a.num ((i:Int),(j:Int))) n;grind
   simp only[N p];by_cases w:a.R=4
   .simp only[G w];exact aar i j n c a.ba o
   simp only[N w];by_cases x:a.R=5
   .simp only[G x];exact ag6 j a.ba i c n o
   simp only[N x];by_cases s:a.R=6
   .simp only[G s];exact agx _ _ _ j (o _<|y<|A s) _ _ i c n
   simp only[N s];exact⟨c,rfl,rfl⟩
  let⟨e,q,r⟩:=C;exact⟨e,⟨a,hd,q⟩,r⟩
end
section
def ng.congr{m:Nat->Nat->Nat->Prop}{g e:Nat->Nat->Nat->co->co->Prop}{b l:Nat}{k:Int}(h:g b=e b):∀f,ng m g b l k f=ng m e b l k f
 |0=>by funext a i j c d;rfl
 |f+1=>by
  funext a i j c d;simp only[ng];rw[h,ng.congr h f]
theorem acz(l:ag)(b:List Nd)(p:Wf b)(q:∀(a:Nat)(d:Nd),b[a]?=some d->d.R=3->d.ba≠[]):∀(f k a:Nat),a<f->a<k->lz l b f a=lz l b k a
 |0,_,_,h,_=>Q
 |_,0,_,_,h=>Q
 |f+1,k+1,a,h,v=>by
  funext i j c w;simp only[lz];apply propext;refine yzo λd=>yyr λhd=>?_
  let⟨r,t⟩:=p a d hd;have n:∀e∈d.ba,lz l b f e=lz l b k e:=λe s=>acz l b p q f k e qE qE
  split
  .rename_i o;rw[n _<|zk<|q a d hd o]
  split
  .rw[altG.congr n]
  split
  .rw[ik.congr n]
  split
  .rename_i o;rw[ng.congr<|n _<|zk<|t o]
  exact Iff.rfl
def Gq(s:ag)(bc:List Nd)(n:Nat):Nat->Nat->co->co->Prop:=lz s bc (n+1) n
theorem Jo{c:List Nd}(n:Wf c)(o:∀(a:Nat)(b:Nd),c[a]?=some b->b.R=3->b.ba≠[]){b:Nd}(hd:c[a]?=some b)(f h:Nat)(d e:co):Gq s c a f h d e↔
   (if b.R=3 then Gq s c (b.ba.getD 0 0) f h (d.set b.num ((f:Int),(h:Int))) e
   else if b.R=4 then altG (bi s c) (Gq s c) b.ba f h d e
   else if b.R=5 then ik (bi s c) (Gq s c) b.ba f h d e
   else if b.R=6 then ng (bi s c) (Gq s c) (b.ba.getD 0 0) b.lo b.hi (b.lo+s.size+1) 0 f h d e
   else e=d):=by
 let⟨r,t⟩:=n a b hd;have j:∀i∈b.ba,lz s c a i=Gq s c i:=λi u=>acz s c n o a (i+1) i (r i u) Q
 have q:Gq s c a f h d e↔(if b.R=3 then lz s c a (b.ba.getD 0 0) f h (d.set b.num ((f:Int),(h:Int))) e
   else if b.R=4 then altG (bi s c) (lz s c a) b.ba f h d e
   else if b.R=5 then ik (bi s c) (lz s c a) b.ba f h d e
   else if b.R=6 then ng (bi s c) (lz s c a) (b.ba.getD 0 0) b.lo b.hi (b.lo+s.size+1) 0 f h d e
   else e=d):=by
  show(∃p,c[a]?=some p/\_)↔_
  constructor
  .grind
  intro k;exact⟨b,hd,k⟩
 rw[q];split
 .rename_i k;rw[j _<|zk<|o a b hd k]
 split
 .rw[altG.congr j]
 split
 .rw[ik.congr j]
 split
 .rename_i k;rw[ng.congr<|j _<|zk<|t k]
 exact Iff.rfl
theorem pr.holds{c:Nat->Prop}{e f d:Nat}(k:pr c e f d)(h:∃b,e<=b/\b<=f/\c b):c d:=by
 let⟨l,n,i,a⟩:=k;grind
def nj.pow(f:nj a C)(h:c<=a)(e:Pow C b c d):c<=d/\d<=a:=Pow.le f h e
def awb{L:Nat}{l:Nat->Nat->Prop}(f:nj L l){d a e j:Nat}{t:Int}(s:e<=L)(v:un l d t a (λr=>r=e) j)(B:e<j\/a<d):
  ∃c,e<=c/\c<=j/\l e c/\un l d t (a+1) (λr=>r=c) j/\(a<d\/e<c):=by
 obtain⟨n,m,p,rfl,o,b,q⟩:=v;by_cases w:a<d
 .rw[show d-a=(d-(a+1))+1 from Q]at o;let⟨c,h,i⟩:=o;have k:=f n c s h;have u:=f.pow k.2 i;have x:=f.full.pow u.2 q;refine⟨c,k.1,Q,h,⟨c,m,p,rfl,i,?_,q⟩,.inl w⟩;omega
 rw[show d-a=0 from Q]at o;have x:n=m:=o;subst x;cases p with
 |zero=>
  have:n=j:=q;omega
 |succ p=>
  let⟨c,⟨h,A⟩,i⟩:=q;have k:=f n c s h;have u:=f.full.pow k.2 i;refine⟨c,k.1,Q,h,⟨c,c,p,rfl,?_,?_,i⟩,.inr Q⟩
  .rw[show d-(a+1)=0 from Q];rfl
  omega
def Bg.toR{d:Nat->Nat->Prop}{b c f:Nat}{e:Int}(j:Bg d b e c f):un d b e 0 (λk=>k=c) f:=by
 let⟨m,l,h,a,i⟩:=j;refine⟨c,m,l,rfl,h,?_,i⟩;omega
section
variable {m:Nat->Nat->Nat->Prop} {g:Nat->Nat->Nat->co->co->Prop}
def atj{i f a b d e:Nat}{c:co}(h:¬(d<e\/b<f)):ng m g i f p a b d e c c:=by
 cases a with
 |zero=>rfl
 |succ a=>exact .inl ⟨h,rfl⟩
def Xd{d f k e b c a:Nat}{i h j:co}(o:b<c\/e<f)(l:pr (λa=>m d b a/\un (m d) f p (e+1) (λq=>q=a) c) b c a)(n:g d b a i h)(r:ng m g d f p k (e+1) a c h j):ng m g d f p (k+1) e b c i j:=.inr ⟨o,a,h,l,n,r⟩
def ag7{xs:List Nat}{f e h:co}(i:pr (λd=>m a b d/\ku (xs.map m) d c) b c d)(j:g a b d f e)(k:ik m g xs d c e h):ik m g (a::xs) b c f h:=⟨d,e,i,j,k⟩
end
end
