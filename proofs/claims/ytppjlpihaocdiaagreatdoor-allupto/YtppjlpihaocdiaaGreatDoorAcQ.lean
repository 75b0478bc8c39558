import Derived.WalkKit
import Derived.Lib.AppendStr
import Derived.Deep.AppendLies
import Derived.Test.YtppjlpihaocdiaaGreatDoorHd
set_option linter.all false
set_option maxRecDepth 100000
set_option maxHeartbeats 16000000
namespace Go.Proofs.YtppjlpihaocdiaaGreatDoor
open Go.RowKit
variable{w u v:ae}{a b c d e:Nat}{s t:ag}{x y z:af}{p D:Int}{l:List af}{f:Bool}{g:List Nat}{h:Nat->Prop}{o:Option Addr}{r:List UInt8}{A:Nat->Bool}{B:Nat->Nat->Bool}{C:Nat->Nat->Prop}(i:Nat)(S T:ag)(V X:af)(j k m n:Nat)(Z:Int)(W:ae)
def au(s:ag)(i:Nat):Nat:=(s.data.toList.getD i 0).toNat
def Cx(a:j<S.size):(S[j]).toNat=au S j:=by
 rw[au,yz,dy<|qK a];rfl
def ms:au S j<256:=by
 unfold au;exact yxj _
def pk(s:ag)(i:Nat):Int:=if i<s.size then(au s i:Int)else-1
def fh(b:a<s.size):pk s a=(au s a:Int):=G b
def qj(b:¬a<s.size:=by omega):pk s a=-1:=N b
def bn(t:ag)(c:Nat):Bool:=t.data.toList.any λx=>x.toNat==c
def mb:ag:=⟨#[10,41,42,43,63,123,124]⟩
def zo:ag:=⟨#[10,93,45]⟩
def sx:ag:=⟨#[110,92,46,94,36,40,41,91,93,42,43,63,123,125,124,47,38,45]⟩
def xr:ag:=⟨#[42,43,63]⟩
def Cz:bn mb i=true↔i=10\/i=41\/i=42\/i=43\/i=63\/i=123\/i=124:=by
 simp[bn,mb];omega
def adl:bn zo i=true↔i=10\/i=93\/i=45:=by
 simp[bn,zo];omega
def Eh:bn xr i=true↔i=42\/i=43\/i=63:=by
 simp[bn,xr];omega
structure St where
 m:Nat
 o:Nat
 a:Nat
 l:Nat
def val(c:Nat):Nat:=if c=110 then 10 else c
def kh(st:St)(c:Nat):Option St:=
 if c=40 then(if st.o=5\/st.a=9 then none else some ⟨0,st.o+1,st.a+1,st.l⟩)
 else if c=91 then some ⟨4,st.o,st.a,st.l⟩
 else if c=92 then some ⟨3,st.o,st.a,st.l⟩
 else if bn mb c=true then none else some ⟨1,st.o,st.a,st.l⟩
def nr(st:St)(c:Nat):Option St:=
 if st.m=1/\bn xr c=true then some ⟨2,st.o,st.a,st.l⟩
 else if st.m=1/\c=123 then some ⟨11,st.o,st.a,0⟩
 else if c=124 then some ⟨0,st.o,st.a,st.l⟩
 else if c=41/\0<st.o then some ⟨1,st.o-1,st.a,st.l⟩
 else kh st c
def oi(st:St)(c:Nat):Option St:=
 let dash:=st.m=8\/st.m=10
 let gf:=if dash then st.l else 0
 if st.m=9\/st.m=10 then(if bn sx c=true/\gf<=val c then some ⟨if dash then 7 else 6,st.o,st.a,val c⟩else none)
 else if st.m=4/\c=94 then some ⟨5,st.o,st.a,st.l⟩
 else if c=93 then(if st.m=6\/st.m=7 then some ⟨1,st.o,st.a,st.l⟩else none)
 else if c=45 then(if st.m=6 then some ⟨8,st.o,st.a,st.l⟩else none)
 else if c=92 then(if gf<=125 then some ⟨if dash then 10 else 9,st.o,st.a,st.l⟩else none)
 else if c=10\/c<gf then none
 else some ⟨if dash then 7 else 6,st.o,st.a,c⟩
def rz(st:St)(c:Nat):Option St:=
 if st.m=11\/st.m=13 then(if 48<=c/\c<=57/\st.l<=c-48 then some ⟨if st.m=11 then 12 else 14,st.o,st.a,c-48⟩else none)
 else if c=125 then some ⟨2,st.o,st.a,st.l⟩
 else if c=44/\st.m=12 then some ⟨13,st.o,st.a,st.l⟩
 else none
def step(st:St)(c:Nat):Option St:=
 if st.m=0 then kh st c
 else if st.m=1\/st.m=2 then nr st c
 else if st.m=3 then(if bn sx c=true then some ⟨1,st.o,st.a,st.l⟩else none)
 else if 11<=st.m then rz st c
 else oi st c
def whole(st:St):Bool:=decide (st.o=0)&&(decide (st.m=1)||decide (st.m=2))
def run(s:ag):Nat->Option St
 |0=>some ⟨0,0,0,0⟩
 |i+1=>(run s i).bind λst=>step st<|au s i
def lf{b:St}(c:run s a=some b):run s (a+1)=step b (au s a):=by
 simp[run,c]
def kw(s:ag)(j:Nat):Prop:=∃st,run s j=some st/\j<=s.size/\(j<s.size->step st (au s j)=none)/\(j=s.size->whole st=false)
def iu(s:ag):Prop:=∃st,run s s.size=some st/\whole st=true
theorem ah0{i a:Nat}(j:i<=a){c:St}(b:run s a=some c):∃g,run s i=some g:=by
 induction a generalizing c with
 |zero=>
  grind
 |succ a f=>
  by_cases d:i=a+1
  .grind
  simp only[run,Ey]at b;grind
def kw.Gm{a j:Nat}(g:kw s a)(k:a<j){c:St}(d:run s j=some c)(h:j<=s.size):False:=by
 let⟨i,e,_,f,_⟩:=g;let⟨l,b⟩:=ah0 (i:=a+1) Q d;rw[lf e,f Q]at b;cases b
def kw.unique(f:kw s a)(e:kw s b):a=b:=by
 obtain h|h|h:=yyx a b
 .let⟨_,c,d,_⟩:=e;exact(f.Gm h c d).elim
 .exact h
 let⟨_,c,d,_⟩:=f;exact(e.Gm h c d).elim
theorem kw.Gv(e:kw s a)(h:iu s):False:=by
 let⟨j,b,c⟩:=h;have f:=e;let⟨k,d,l,m,i⟩:=e;by_cases g:a=s.size
 .grind
 exact f.Gm (j:=s.size) Q b ah
def Ai:oi ⟨4,i,j,k⟩ m=if m=94 then some ⟨5,i,j,k⟩else if m=93 then none else if m=45 then none else if m=92 then some ⟨9,i,j,k⟩else if m=10 then none else some ⟨6,i,j,m⟩:=by
 simp[oi]
def Da:oi ⟨5,i,j,k⟩ m=if m=93 then none else if m=45 then none else if m=92 then some ⟨9,i,j,k⟩else if m=10 then none else some ⟨6,i,j,m⟩:=by
 simp[oi]
def Aj:oi ⟨6,i,j,k⟩ m=if m=93 then some ⟨1,i,j,k⟩else if m=45 then some ⟨8,i,j,k⟩else if m=92 then some ⟨9,i,j,k⟩else if m=10 then none else some ⟨6,i,j,m⟩:=by
 simp[oi]
def Bp:oi ⟨7,i,j,k⟩ m=if m=93 then some ⟨1,i,j,k⟩else if m=45 then none else if m=92 then some ⟨9,i,j,k⟩else if m=10 then none else some ⟨6,i,j,m⟩:=by
 simp[oi]
def Bq:oi ⟨8,i,j,k⟩ m=if m=93 then none else if m=45 then none else if m=92 then(if k<=125 then some ⟨10,i,j,k⟩else none)else if m=10\/m<k then none else some ⟨7,i,j,m⟩:=by
 simp[oi]
def Ip:oi ⟨9,i,j,k⟩ m=if bn sx m=true then some ⟨6,i,j,val m⟩else none:=by
 simp[oi]
def Io:oi ⟨10,i,j,k⟩ m=if bn sx m=true/\k<=val m then some ⟨7,i,j,val m⟩else none:=by
 simp[oi]
def Small(st:St):Prop:=st.m<=14/\st.o<=5/\st.a<=9/\st.l<=255
def Mp(b:a<256):val a<=255:=by unfold val;split<;>omega
def aic{b st':St}(g:Small b)(a:kh b c=some st'):Small st':=by
 let⟨k,l,i,j⟩:=b;let⟨d,e,f,h⟩:=g;simp only at d e f h;unfold kh at a;simp only at a
 (repeat' split at a)<;>first|(cases a;exact⟨qC,qC,qC,qC⟩)|cases a
def aut{c d:St}(e:Small c)(b:nr c a=some d):Small d:=by
 have f:=aic (st':=d) (c:=a) e;let⟨m,n,k,l⟩:=c;let⟨g,h,i,j⟩:=e;simp only at g h i j;unfold nr at b;simp only at b
 (repeat' split at b)<;>first|(cases b;exact⟨qC,qC,qC,qC⟩)|exact f b
def aus{c f:St}(h:Small c)(k:a<256)(b:rz c a=some f):Small f:=by
 let⟨m,n,j,l⟩:=c;let⟨g,d,e,i⟩:=h;simp only at g d e i;unfold rz at b;simp only at b
 (repeat' split at b)<;>first|(cases b;refine⟨?_,d,e,?_⟩<;>simp only<;>(try split)<;>omega)|cases b
def auu{c f:St}(h:Small c)(g:a<256)(b:oi c a=some f):Small f:=by
 have l:=Mp g;let⟨n,o,k,m⟩:=c;let⟨i,d,e,j⟩:=h;simp only at i d e j;unfold oi at b;simp only at b
 (repeat' split at b)<;>first|(cases b;refine⟨?_,d,e,?_⟩<;>simp only<;>(try split)<;>omega)|cases b
def aid{d f:St}(c:Small d)(e:a<256)(b:step d a=some f):Small f:=by
 unfold step at b;split at b
 .exact aic c b
 split at b
 .exact aut c b
 split at b
 .split at b
  .cases b;exact⟨qC,c.2.1,c.2.2.1,c.2.2.2⟩
  cases b
 split at b
 .exact aus c e b
 exact auu c e b
def Me{c:ag}:∀{i:Nat} {b:St},run c i=some b->Small b
 |0,b,a=>by cases a;exact⟨qG,qG,qG,qG⟩
 |i+1,b,a=>by
  simp only[run,Ey]at a;let⟨e,d,a⟩:=a;exact aid (Me d) (ms c i) a
def Pow(R:Nat->Nat->Prop):Nat->Nat->Nat->Prop
 |0,i,j=>i=j
 |n+1,i,j=>∃m,R i m/\Pow R n m j
def Full(R:Nat->Nat->Prop)(i j:Nat):Prop:=R i j/\i≠j
def Bg(R:Nat->Nat->Prop)(lo:Nat)(hi:Int)(i j:Nat):Prop:=∃(m q:Nat),Pow R lo i m/\(hi<0\/(lo:Int)+q<=hi)/\Pow (Full R) q m j
def Pow.le{e:Nat->Nat->Prop}{c:Nat}(f:∀a b,a<=c->e a b->a<=b/\b<=c):∀{n a b:Nat},a<=c->Pow e n a b->a<=b/\b<=c
 |0,a,b,d,h=>by cases h;omega
 |n+1,a,b,d,h=>by
  let⟨k,i,j⟩:=h;have g:=f a k d i;have l:=Pow.le f g.2 j;omega
def Pow.snoc{d:Nat->Nat->Prop}:∀{n b c a:Nat},Pow d n b c->d c a->Pow d (n+1) b a
 |0,b,c,a,h,hr=>by cases h;exact⟨a,hr,rfl⟩
 |n+1,b,c,a,h,hr=>by
  let⟨g,e,f⟩:=h;exact⟨g,e,Pow.snoc f hr⟩
def Pow.Jf{d:Nat->Nat->Prop}:∀{n a b:Nat},Pow d (n+1) a b->∃c,Pow d n a c/\d c b
 |0,a,b,h=>by
  let⟨g,e,f⟩:=h;cases f
  exact⟨a,rfl,e⟩
 |n+1,a,b,h=>by
  let⟨g,e,f⟩:=h;let⟨c,i,j⟩:=Pow.Jf f;exact⟨c,⟨g,e,i⟩,j⟩
def Pow.acy{e:Nat->Nat->Prop}{c:Nat}(f:∀a b,a<=c->e a b->a<=b/\b<=c):∀{n a b:Nat},a<=c->Pow (Full e) n a b->a+n<=b
 |0,a,b,d,h=>by cases h;omega
 |n+1,a,b,d,h=>by
  let⟨k,⟨i,m⟩,j⟩:=h;have g:=f a k d i;have l:=Pow.acy f g.2 j;omega
def nj(L:Nat)(R:Nat->Nat->Prop):Prop:=∀i j,i<=L->R i j->i<=j/\j<=L
def nj.full(d:nj a C):nj a (Full C):=λe f b c=>d e f b c.1
def nj.times(b:nj a C)(g:Nat)(f:Int):nj a (Bg C g f):=by
 rintro i j c ⟨k,l,d,_,e⟩;have h:=Pow.le b c d;have m:=Pow.le b.full h.2 e;omega
def ku:List (Nat->Nat->Prop)->Nat->Nat->Prop
 | [],i,j=>i=j
 |r::rs,i,j=>∃m,r i m/\ku rs m j
def nj.chain{L:Nat}:∀{l:List (Nat->Nat->Prop)},(∀r∈l,nj L r)->nj L (ku l)
 | [],_=>by rintro c d a rfl;omega
 |r::b,h=>by
  rintro c d a ⟨e,f,g⟩;have j:=h r qD c e a f;have k:=nj.chain (l:=b) (λr i=>h r<|xw _ i) e d j.2 g;omega
def ku.snoc{f:Nat->Nat->Prop}:∀{e:List (Nat->Nat->Prop)} {c d b:Nat},ku e c d->f d b->ku (e++[f]) c b
 | [],c,d,b,h,hr=>by cases h;exact⟨b,hr,rfl⟩
 |a::e,c,d,b,h,hr=>by
  let⟨j,g,i⟩:=h;exact⟨j,g,ku.snoc i hr⟩
def ku.Jf{j:Nat->Nat->Prop}:∀{g:List (Nat->Nat->Prop)} {b c:Nat},ku (g++[j]) b c->∃d,ku g b d/\j d c
 | [],b,c,h=>by
  let⟨i,e,f⟩:=h;cases f
  exact⟨b,rfl,e⟩
 |a::g,b,c,h=>by
  let⟨i,e,f⟩:=h;let⟨d,k,l⟩:=ku.Jf f;exact⟨d,⟨i,e,k⟩,l⟩
structure Nd where
 R:Nat
 set:Nat->Bool
 ba:List Nat
 num:Nat
 lo:Nat
 hi:Int
def se(s:ag)(bc:List Nd):Nat->Nat->Nat->Nat->Prop
 |0,_,_,_=>False
 |f+1,n,i,j=>match bc[n]? with
  |none=>False
  |some d=>
   if d.R=0 then i<s.size/\d.set (au s i)=true/\j=i+1
   else if d.R=1 then i=0/\j=i
   else if d.R=2 then i=s.size/\j=i
   else if d.R=5 then ku (d.ba.map λx=>se s bc f x) i j
   else if d.R=6 then Bg (se s bc f<|d.ba.getD 0 0) d.lo d.hi i j
   else∃x∈d.ba,se s bc f x i j
def Wf(bc:List Nd):Prop:=∀(n:Nat)(d:Nd),bc[n]?=some d->(∀x∈d.ba,x<n)/\(d.R=6->d.ba≠[])
theorem ael(g:ag)(b:List Nd)(n:Wf b):∀(f k e:Nat),e<f->e<k->se g b f e=se g b k e
 |0,_,_,h,_=>Q
 |_,0,_,_,h=>Q
 |f+1,k+1,e,h,y=>by
  funext i j;simp only[se];cases hd:b[e]? with
  |none=>rfl
  |some d=>
   let⟨o,r⟩:=n e d hd;have l:∀a∈d.ba,se g b f a=se g b k a:=λa c=>ael g b n f k a qE qE
   have s:(d.ba.map λa=>se g b f a)=d.ba.map λa=>se g b k a:=yyz l
   simp only;rw[s];split
   .rfl
   split
   .rfl
   split
   .rfl
   split
   .rfl
   split
   .grind
   apply propext;constructor
   .rintro⟨a,c,m⟩;exact⟨a,c,by simp_all⟩
   rintro⟨a,c,m⟩;exact⟨a,c,by simp_all⟩
def bi(s:ag)(bc:List Nd)(n:Nat):Nat->Nat->Prop:=se s bc (n+1) n
def oy{d:List Nd}(j:Wf d){c:Nd}(hd:d[a]?=some c)(e g:Nat):bi s d a e g↔
   (if c.R=0 then e<s.size/\c.set (au s e)=true/\g=e+1
   else if c.R=1 then e=0/\g=e
   else if c.R=2 then e=s.size/\g=e
   else if c.R=5 then ku (c.ba.map λb=>bi s d b) e g
   else if c.R=6 then Bg (bi s d<|c.ba.getD 0 0) c.lo c.hi e g
   else∃b∈c.ba,bi s d b e g):=by
 let⟨n,o⟩:=j a c hd;have i:∀b∈c.ba,se s d a b=bi s d b:=λb f=>ael s d j a (b+1) b (n b f) Q
 have p:(c.ba.map λb=>se s d a b)=c.ba.map λb=>bi s d b:=yyz i
 unfold bi;rw[se,hd];simp only;rw[p];split
 .exact Iff.rfl
 split
 .exact Iff.rfl
 split
 .exact Iff.rfl
 split
 .exact Iff.rfl
 split
 .rename_i k;have l:=o k;have h:c.ba.getD 0 0∈c.ba:=by
   cases m:c.ba with
   |nil=>exact cb m l
   |cons q r=>simp
  rw[i _ h];exact Iff.rfl
 constructor
 .rintro⟨b,f,h⟩;exact⟨b,f,by have:=i b f;rw[this]at h;exact h⟩
 rintro⟨b,f,h⟩;exact⟨b,f,by rw[i b f];exact h⟩
theorem vz(d:ag){g:List Nd}(c:Wf g):∀(N b:Nat),b<N->nj d.size (bi d g b)
 |0,b,h=>Q
 |N+1,b,h=>by
  intro i j k a
  cases hd:g[b]? with
  |none=>unfold bi at a;rw[se,hd]at a;exact a.elim
  |some f=>
   let⟨l,s⟩:=c b f hd;rw[oy c hd]at a;split at a
   .omega
   split at a
   .omega
   split at a
   .omega
   split at a
   .refine nj.chain ?_ i j k a;intro p o
    obtain⟨e,m,rfl⟩:=yzg.1 o;exact vz d c N e qE
   split at a
   .rename_i p;have q:=s p;have o:f.ba.getD 0 0∈f.ba:=by
     cases r:f.ba with
     |nil=>exact cb r q
     |cons n t=>simp
    exact nj.times (vz d c N _ qE) _ _ i j k a
   let⟨e,m,a⟩:=a;exact vz d c N e qE i j k a
def un(R:Nat->Nat->Prop)(lo:Nat)(hi:Int)(k0:Nat)(A:Nat->Prop)(j:Nat):Prop:=
 ∃(i m q:Nat),A i/\Pow R (lo-k0) i m/\(q=0\/hi<0\/((max k0 lo:Nat):Int)+q<=hi)/\Pow (Full R) q m j
section
abbrev co:=List<|Int×Int
def pr(P:Nat->Prop)(i j t:Nat):Prop:=i<=t/\t<=j/\(∀u,t<u->u<=j->¬P u)/\(t=i\/P t)
theorem pr.one{f:Nat->Prop}{h i c d:Nat}(n:pr f h i c)(j:pr f h i d):c=d:=by
 let⟨s,k,l,o⟩:=n;let⟨t,p,q,r⟩:=j;grind
section
variable (m:Nat->Nat->Nat->Prop) (g:Nat->Nat->Nat->co->co->Prop)
def altG:List Nat->Nat->Nat->co->co->Prop
 | [],_,_,c,c'=>c'=c
 |x::xs,i,j,c,c'=>(m x i j/\g x i j c c')\/(¬m x i j/\altG xs i j c c')
def ik:List Nat->Nat->Nat->co->co->Prop
 | [],_,_,c,c'=>c'=c
 |x::xs,i,j,c,c'=>∃t c1,pr (λt=>m x i t/\ku (xs.map m) t j) i j t/\g x i t c c1/\ik xs t j c1 c'
def ng(x lo:Nat)(hi:Int):Nat->Nat->Nat->Nat->co->co->Prop
 |0,_,_,_,c,c'=>c'=c
 |f+1,done,i,j,c,c'=>(¬(i<j\/done<lo)/\c'=c)\/
   ((i<j\/done<lo)/\∃t c1,pr (λt=>m x i t/\un (m x) lo hi (done+1) (λk=>k=t) j) i j t/\g x i t c c1/\ng x lo hi f (done+1) t j c1 c')
variable {m g}
theorem altG.one(o:∀x d e a b c,g x d e a b->g x d e a c->b=c):∀{l:List Nat} {d e:Nat} {a b c:co},altG m g l d e a b->altG m g l d e a c->b=c
 | [],_,_,_,_,_,h,n=>by rw[h,n]
 |x::xs,d,e,a,b,c,h,n=>by
  obtain⟨j,k⟩|⟨j,k⟩:=h
  .obtain⟨f,i⟩|⟨f,i⟩:=n
   all_goals grind
  obtain⟨f,i⟩|⟨f,i⟩:=n
  .exact cb f j
  exact altG.one o k i
def ik.one(j:∀x d e c a b,g x d e c a->g x d e c b->a=b):∀{k:List Nat} {d e:Nat} {c a b:co},ik m g k d e c a->ik m g k d e c b->a=b
 | [],_,_,_,_,_,h,f=>by rw[h,f]
 |x::xs,d,e,c,a,b,h,f=>by
  let⟨t,s,l,n,o⟩:=h;let⟨u,v,p,q,r⟩:=f;have i:=l.one p;subst i;have i:=j _ _ _ _ _ _ n q;subst i;exact ik.one j o r
end
def lz(s:ag)(bc:List Nd):Nat->Nat->Nat->Nat->co->co->Prop
 |0,_,_,_,_,_=>False
 |f+1,n,i,j,c,c'=>∃d,bc[n]?=some d/\
   (if d.R=3 then lz s bc f (d.ba.getD 0 0) i j (c.set d.num ((i:Int),(j:Int))) c'
   else if d.R=4 then altG (bi s bc) (lz s bc f) d.ba i j c c'
   else if d.R=5 then ik (bi s bc) (lz s bc f) d.ba i j c c'
   else if d.R=6 then ng (bi s bc) (lz s bc f) (d.ba.getD 0 0) d.lo d.hi (d.lo+s.size+1) 0 i j c c'
   else c'=c)
end
section
structure bs where
 H:Nat
 g:Nat
 l:List Nd
def dp:Nat->Bool:=λ_=>false
def gb(k:Nat)(S:Nat->Bool):Nd:=⟨k,S,[],0,0,0⟩
def qc(z num:Nat):Nd:=⟨3,dp,[z],num,0,0⟩
def gr(z lo:Nat)(hi:Int):Nd:=⟨6,dp,[z],0,lo,hi⟩
def ct(k:Nat)(zs:List Nat):Nd:=⟨k,dp,zs,0,0,0⟩
def hy(s:ag)(i:Nat):Nat×Nat:=if au s i=92 then(val<|au s<|i+1,i+2)else(au s i,i+1)
def kf(s:ag)(i:Nat):Nat×Nat×Nat:=
 if pk s (hy s i).2=45 then((hy s i).1,(hy s<|(hy s i).2+1).1,(hy s<|(hy s i).2+1).2)else((hy s i).1,(hy s i).1,(hy s i).2)
def kx(S:Nat->Bool)(lo hi:Nat):Nat->Bool:=λc=>S c||(decide (lo<=c)&&decide (c<=hi))
def setL(s:ag):Nat->Nat->(Nat->Bool)->Nat×(Nat->Bool)
 |0,i,S=>(i,S)
 |f+1,i,S=>if pk s (kf s i).2.2=93 then((kf s i).2.2+1,kx S (kf s i).1 (kf s i).2.1)else setL s f (kf s i).2.2 (kx S (kf s i).1 (kf s i).2.1)
def sh(s:ag)(i:Nat):Nat×(Nat->Bool):=
 if pk s (i+1)=94 then((setL s s.size (i+2) dp).1,λc=> !(setL s s.size (i+2) dp).2 c)else setL s s.size (i+1) dp
def cp(p:bs)(j:Nat)(d:Nd):bs×Nat:=(⟨j,p.g,p.l++[d]⟩,p.l.length)
section
variable (ch:bs->bs×Nat) (s:ag)
def qv(p:bs):bs×Nat:=
 let c:=au s p.H
 if c=94 then cp p (p.H+1) (gb 1 dp)
 else if c=36 then cp p (p.H+1) (gb 2 dp)
 else if c=46 then cp p (p.H+1) (gb 0 λ_=>true)
 else if c=40 then
  let r:=ch ⟨p.H+1,p.g+1,p.l⟩
  cp r.1 (r.1.H+1) (qc r.2 p.g)
 else if c=91 then cp p (sh s p.H).1 (gb 0 (sh s p.H).2)
 else if c=92 then cp p (p.H+2) (gb 0<|kx dp (val<|au s<|p.H+1)<|val<|au s<|p.H+1)
 else cp p (p.H+1) (gb 0<|kx dp c c)
def xc(p:bs):bs×Nat:=
 let r:=qv ch s p
 let c:=pk s r.1.H
 if c=42 then cp r.1 (r.1.H+1) (gr r.2 0<|-1)
 else if c=43 then cp r.1 (r.1.H+1) (gr r.2 1<|-1)
 else if c=63 then cp r.1 (r.1.H+1) (gr r.2 0 1)
 else if c=123 then
  let lo:=au s (r.1.H+1)-48
  if pk s (r.1.H+2)=44 then cp r.1 (r.1.H+5) (gr r.2 lo ((au s (r.1.H+3)-48:Nat):Int))
  else cp r.1 (r.1.H+3) (gr r.2 lo (lo:Int))
 else r
def joinF(k:Nat)(zs:List Nat)(p:bs):bs×Nat:=match zs with
 | [z]=>(p,z)
 |zs=>cp p p.H<|ct k zs
def om(i:Nat):Bool:=decide (i<s.size)&& !bn mb (au s i)
def wayL:Nat->bs->List Nat->bs×Nat
 |0,p,_=>(p,0)
 |f+1,p,zs=>
  let r:=xc ch s p
  if om s r.1.H=true then wayL f r.1 (zs++[r.2])else joinF 5 (zs++[r.2]) r.1
def wt(p:bs):bs×Nat:=wayL ch s s.size p []
def wy:Nat->bs->List Nat->bs×Nat
 |0,p,_=>(p,0)
 |f+1,p,zs=>
  let r:=wt ch s p
  if pk s r.1.H=124 then wy f ⟨r.1.H+1,r.1.g,r.1.l⟩ (zs++[r.2])else joinF 4 (zs++[r.2]) r.1
def Ta(p:bs):bs×Nat:=wy ch s s.size p []
end
def ml(s:ag):Nat->bs->bs×Nat
 |0,p=>(p,0)
 |n+1,p=>Ta (ml s n) s p
def il(s:ag):bs×Nat:=ml s 41 ⟨0,0,[]⟩
end
section
structure Wh where
 sort:Nat
 num:Nat
 L:ag
structure Pc where
 jw:Int
 byte:Nat
structure Cm where
 R:Nat
 fst:Wh
 snd:Wh
 neg:Bool
 cn:Nat
 text:ag
 L:ag
 gj:List Pc
 num:Nat
 all:Bool
 kr:Bool
 la:ag
 oo:ag
structure ft where
 name:ag
 H:Nat
 cmd:Nat
 want:Bool
structure cj where
 H:Nat
 op:Nat
 U:List Cm
 bh:List ft
 bk:Int
def fo:ag:=⟨#[]⟩
def gi:Wh:=⟨0,0,fo⟩
def wd:Cm:=⟨0,gi,gi,false,0,fo,fo,[],0,false,false,fo,fo⟩
def fc:ag:=⟨#[32,59,10]⟩
def dh:ag:=⟨#[32]⟩
def parts:ag:=⟨#[59,10]⟩
def ju:ag:=⟨#[48,49,50,51,52,53,54,55,56,57]⟩
def ws:ag:=⟨#[48,49,50,51,52,53,54,55,56,57,36,47]⟩
def pm:ag:=⟨#[123,100,68,110,78,112,80,103,71,104,72,120,61,113,97,105,99,98,116,115,121]⟩
def xp:ag:=⟨#[92,47,38]⟩
def po:ag:=⟨#[49,50,51,52,53,54,55,56,57]⟩
def yr:ag:=⟨#[10,47]⟩
def mg:ag:=⟨#[110,92,47]⟩
def br(s t:ag)(i:Nat):Bool:=decide (i<s.size)&&bn t (au s i)
def skipF(s t:ag):Nat->Nat->Nat
 |0,i=>i
 |f+1,i=>if br s t i=true then skipF s t f (i+1)else i
def skip(s t:ag)(i:Nat):Nat:=skipF s t (s.size-i) i
def numF(s:ag):Nat->Nat->Nat->Nat×Nat×Bool
 |0,i,n=>(i,n,decide (0<n))
 |l+1,i,n=>
  if br s ju i=true then(if l=0/\10*n+(au s i-48)=0 then(i,0,false)else numF s l (i+1) (10*n+(au s i-48)))
  else(i,n,decide (0<n))
def ic(s:ag):Nat->Nat->Nat
 |0,i=>s.size
 |f+1,i=>if i<s.size then(if au s i=47 then i else if au s i=92 then ic s f (i+2)else ic s f (i+1))else s.size
def bw(s:ag)(i:Nat):Nat:=ic s (s.size+1) i
def Ij(t:ag):Nat->Nat->St->Option Nat
 |0,i,st=>if whole st=true then none else some i
 |f+1,i,st=>match step st (au t i)with
  |some st'=>Ij t f (i+1) st'
  |none=>some i
def uu(t:ag):Option Nat:=Ij t t.size 0 ⟨0,0,0,0⟩
def eo(t:ag):Nat:=match run t t.size with
 |some st=>st.a
 |none=>0
def dx(s:ag)(i:Nat)(bk:Int):Nat×ag×Int×Bool:=
 let t:=s.extract i<|bw s i
 match uu t with
 |some j=>(i+j,fo,bk,false)
 |none=>
  let lg:=if 40<t.size/\bk=-1 then(i:Int)else bk
  if pk s (i+t.size)=47 then(i+t.size+1,t,lg,true)else(i+t.size,t,lg,false)
def dc(s:ag)(i:Nat)(bk:Int):Nat×Wh×Int×Bool:=
 if pk s i=36 then(i+1,⟨2,0,fo⟩,bk,true)
 else if pk s i=47 then
  let r:=dx s (i+1) bk
  (r.1,⟨3,0,r.2.1⟩,r.2.2.1,r.2.2.2)
 else
  let r:=numF s 4 i 0
  (r.1,⟨1,r.2.1,fo⟩,bk,r.2.2)
def cq(s:ag)(i:Nat)(bk:Int):Nat×Wh×Wh×Int×Bool:=
 if br s ws i=true then
  let r:=dc s i bk
  if r.2.2.2=true then
   if pk s r.1=44 then
    let q:=dc s (r.1+1) r.2.2.1
    if q.2.2.2=true then(skip s dh q.1,r.2.1,q.2.1,q.2.2.1,true)else(q.1,r.2.1,q.2.1,q.2.2.1,false)
   else(skip s dh r.1,r.2.1,gi,r.2.2.1,true)
  else(r.1,r.2.1,gi,r.2.2.1,false)
 else(i,gi,gi,bk,true)
def qf(s:ag)(g i:Nat):Nat×Pc×Bool:=
 if 49<=pk s i/\pk s i<=48+(g:Int)then(i+1,⟨pk s i-48,0⟩,true)
 else if pk s i=110 then(i+1,⟨-1,10⟩,true)
 else if br s xp i=true then(i+1,⟨-1,au s i⟩,true)
 else(i,⟨0,0⟩,false)
def th(s:ag)(i:Nat):Nat×Pc×Bool:=
 if pk s i=-1\/pk s i=10 then(i,⟨0,0⟩,false)else(i+1,⟨-1,au s i⟩,true)
def ih(s:ag)(g i:Nat):Nat×Pc×Bool:=
 if pk s i=38 then(i+1,⟨0,0⟩,true)
 else if pk s i=92 then qf s g (i+1)
 else th s i
def qe(s:ag)(g:Nat):Nat->Nat->List Pc->Nat×List Pc×Bool
 |0,i,ps=>(i,ps,false)
 |f+1,i,ps=>
  if pk s i=47 then(i+1,ps,true)
  else if(ih s g i).2.2=true then qe s g f (ih s g i).1 (ps++[(ih s g i).2.1])
  else((ih s g i).1,[],false)
def ks(s:ag)(g i:Nat):Nat×List Pc×Bool:=qe s g (s.size+1) i []
def flagF(s:ag):Nat->Nat->Bool->Bool->Nat->Nat×Bool×Bool×Nat
 |0,i,a,p,n=>(i,a,p,n)
 |f+1,i,a,p,n=>
  if a=false/\pk s i=103 then flagF s f (i+1) true p n
  else if p=false/\pk s i=112 then flagF s f (i+1) a true n
  else if n=0/\br s po i=true then flagF s f (i+1) a p (au s i-48)
  else(i,a,p,max n 1)
def ii(s:ag)(i:Nat)(bk:Int)(c:Cm):Nat×Cm×Int×Bool:=
 if pk s i=47 then
  let r:=dx s (i+1) bk
  if r.2.2.2=true then
   let q:=ks s (eo r.2.1) r.1
   if q.2.2=true then
    let f:=flagF s 4 q.1 false false 0
    (f.1,{c with L:=r.2.1,gj:=q.2.1,num:=f.2.2.2,all:=f.2.1,kr:=f.2.2.1},r.2.2.1,true)
   else(q.1,c,r.2.2.1,false)
  else(r.1,c,r.2.2.1,false)
 else(i,c,bk,false)
def vm(used:List Nat):Bool:=used.contains 10&&used.contains 92&&used.contains 47
def fa(s:ag)(used:List Nat)(i:Nat):Nat×Nat×Bool:=
 if pk s i=92 then
  if vm used=true then(i,0,false)
  else if br s mg (i+1)=true then(if used.contains (val<|au s<|i+1)=true then(i+1,0,false)else(i+2,val<|au s<|i+1,true))
  else(i+1,0,false)
 else if pk s i=-1\/br s yr i=true\/used.contains (au s i)=true then(i,0,false)
 else(i+1,au s i,true)
def rowL(s:ag):Nat->Nat->List Nat->Nat×List Nat×Bool
 |0,i,l=>(i,l,false)
 |f+1,i,l=>
  if pk s i=47 then(i+1,l,true)
  else if(fa s l i).2.2=true then rowL s f (fa s l i).1 (l++[(fa s l i).2.1])
  else((fa s l i).1,[],false)
def mp(s:ag):Nat->Nat->List Nat->Nat×List Nat×Bool
 |0,i,l=>(i,l,true)
 |f+1,i,l=>
  if(fa s [] i).2.2=true then mp s f (fa s [] i).1 (l++[(fa s [] i).2.1])
  else((fa s [] i).1,[],false)
def iy(l:List Nat):ag:=⟨(l.map Nat.toUInt8).toArray⟩
def jo(s:ag)(i:Nat):Nat×ag×ag×Bool:=
 if pk s i=47 then
  let r:=rowL s (s.size+1) (i+1) []
  if r.2.2=true then
   let q:=mp s r.2.1.length r.1 []
   if q.2.2=true then(if pk s q.1=47 then(q.1+1,iy r.2.1,iy q.2.1,true)else(q.1,iy r.2.1,iy q.2.1,false))
   else(q.1,fo,fo,false)
  else(r.1,fo,fo,false)
 else(i,fo,fo,false)
def jh(s:ag):Nat->Nat->Nat
 |0,i=>i
 |f+1,i=>if i<s.size/\au s i≠10 then jh s f (i+1)else i
def ci(s:ag)(i:Nat):Nat:=jh s (s.size-i) i
def eg(s:ag):Nat->Nat->Nat
 |0,i=>i
 |f+1,i=>if 97<=pk s i/\pk s i<=122 then eg s f (i+1)else i
def cj.qu(p:cj)(s:ag)(i:Nat)(want:Bool):cj:=
 {p with H:=eg s 8 i,bh:=p.bh++[⟨s.extract i<|eg s 8 i,i,p.U.length,want⟩]}
def ei(c:Nat):Nat:=(pm.data.toList.findIdx λx=>x.toNat==c)
def cj.add(p:cj)(c:Cm):cj:={p with U:=p.U++[c]}
def setGoal(l:List Cm)(k g:Nat):List Cm:=match l[k]? with
 |some c=>l.set k {c with cn:=g}
 |none=>l
section
variable (row:cj->cj×Bool) (s:ag)
def qr(p:cj)(c:Cm):cj×Bool:=
 if p.op=5 then(p,false)
 else
  let r:=row {p with H:=p.H+1,op:=p.op+1,U:=p.U++[c]}
  if r.2=true/\pk s r.1.H=125 then({r.1 with H:=r.1.H+1,op:=r.1.op-1,U:=setGoal r.1.U p.U.length r.1.U.length},true)
  else(r.1,false)
def lm(p:cj)(c:Cm):cj×Bool:=
 if br s pm p.H=true then
  let k:=ei<|au s p.H
  let c:={c with R:=k}
  if k=0 then qr row s p c
  else
   let i:=p.H+1
   if k=14\/k=15\/k=16 then
    (if pk s i=32 then({p with H:=ci s<|i+1,U:=p.U++[{c with text:=s.extract (i+1)<|ci s<|i+1}]},true)else({p with H:=i,U:=p.U++[c]},false))
   else if k=17\/k=18 then((p.qu s i true).add c,true)
   else if k=19 then
    let r:=ii s i p.bk c
    ({p with H:=r.1,U:=p.U++[r.2.1],bk:=r.2.2.1},r.2.2.2)
   else if k=20 then
    let r:=jo s i
    ({p with H:=r.1,U:=p.U++[{c with la:=r.2.1,oo:=r.2.2.1}]},r.2.2.2)
   else({p with H:=i,U:=p.U++[c]},true)
 else(p,false)
def iw(p:cj):cj×Bool:=
 let a:=cq s p.H p.bk
 let q:={p with H:=a.1,bk:=a.2.2.2.1}
 if a.2.2.2.2=true then
  let c:={wd with fst:=a.2.1,snd:=a.2.2.1}
  if pk s a.1=33 then
   let q:={q with H:=skip s dh<|a.1+1}
   if pk s q.H=58 then(q,false)else lm row s q {c with neg:=true}
  else if pk s a.1=58 then
   (if a.1=p.H then(q.qu s (a.1+1) false,decide (a.1+1<eg s 8 (a.1+1)))else(q,false))
  else lm row s q c
 else(q,false)
def uq(p:cj):Bool:=decide (0<p.op)&&decide (pk s p.H=125)
def rowL':Nat->cj->cj×Bool
 |0,p=>(p,false)
 |f+1,p=>
  let p:={p with H:=skip s fc p.H}
  if pk s p.H=-1\/uq s p=true then(p,true)
  else
   let r:=iw row s p
   if r.2=true then
    let q:={r.1 with H:=skip s dh r.1.H}
    if pk s q.H=-1\/br s parts q.H=true\/uq s q=true then rowL' f q else(q,false)
   else r
def Lv(p:cj):cj×Bool:=rowL' row s (s.size+1) p
end
def Qqf(s:ag):Nat->cj->cj×Bool
 |0,p=>(p,false)
 |n+1,p=>Lv (Qqf s n) s p
def hq(s:ag):cj×Bool:=Qqf s 7 ⟨0,0,[],[],-1⟩
def markF(name:ag):List ft->Nat->Option Nat
 | [],_=>none
 |l::r,k=>if l.want=false/\l.name=name then some k else markF name r (k+1)
def joinL(bh:List ft)(n:Nat):List ft->Nat->List Cm->Except Nat (List Cm)
 | [],_,cs=> .ok cs
 |l::r,i,cs=>
  if l.name.size=0 then joinL bh n r (i+1) (if l.want=true then setGoal cs l.cmd n else cs)
  else match markF l.name bh 0 with
   |none=> .error l.H
   |some m=>
    if l.want=false/\m≠i then .error l.H
    else joinL bh n r (i+1) (if l.want=true then setGoal cs l.cmd ((bh[m]?.map ft.cmd).getD 0)else cs)
end
section
open Go.Lib
section
variable {P:Program} (w:ae)
def at9(p:Nat)(f g m c:TypeId)(d:TypeInfo)(n:P.underlying f=some (.slice c))(o:P.underlying g=some .string)(s:P.info? c=some d)(t:d.zero=some (.int .u8 0))
  (u:d.size=1) (x:d.bytes=1) (k:af) (b:Nat) (xs:List af) (q:w.ownsRow p c 1 k b xs) (a:ag)
  (B:b+a.size<=maxLen) (U:b+a.size<=140737488355328) (R:p<=w.heap.size) (z:Nat) (E:w.heap.size=z):
  ∃h l,(Builtin.append_ #[f,g] m #[k,.string a]).run P w=.ok h l/\l.ownsRow p c 1 h (b+a.size) (xs++strCells a)/\w.grownBy l k.ownBlock/\(h.ownBlock=k.ownBlock\/h.ownBlock=some z):=by
 let⟨h,l,e,F,H,K⟩:=run_append_own_string (P:=P) w p f g m c d n o s t u x k b xs q a B U R
 have C:xs.length=b:=qK q.1
 refine⟨h,l,e,F,H,?_⟩;subst E;have S:=q;obtain⟨rfl,rfl⟩|⟨v,r,y,rfl,W,L,X,Z,D,V⟩:=q.2
 .by_cases M:a.size=0
  .rw[K.2 ⟨rfl,M⟩];exact .inl rfl
  have j:=run_append_nil_string (P:=P) w f g m c d (.int .u8 0) n o s t a Q Q (by rw[x];omega);rw[j]at e;injection e with i A;rw[<-i];exact .inr rfl
 by_cases M:b+a.size<=r
 .have T:y.size=r:=qK D
  have j:=run_append_room_string (P:=P) w f g m c d n o s u v b r y L a M Q;rw[j]at e;injection e with i A;rw[<-i];exact .inl rfl
 have T:=S.cells (g:=v) rfl;have j:=run_append_grow_string (P:=P) w f g m c d (.int .u8 0) n o s t (O v 0) b r xs (by rw[u];simpa using C) T a Q Q (by rw[x];exact growslice_fits Q Q);rw[j]at e;injection e with i A;rw[<-i];exact .inr rfl
def ajv{j:Oper}{h:Act}{n:Act->ae->Prop}{x:Exit->Act->ae->Prop}(o p:Operand)(l m:TypeId)
  (H:j.op=.call {callee:=.builtin .append,args:=#[o,p],argTypes:=#[l,m]})
  (i:Nat) (c:TypeId) (d:TypeInfo) (K:P.underlying l=some (.slice c)) (L:P.underlying m=some .string) (D:P.info? c=some d) (M:d.zero=some (.int .u8 0))
  (z:d.size=1) (E:d.bytes=1)
  (f:af) (e:Nat) (xs:List af) (U:h.eval o=f) (B:w.ownsRow i c 1 f e xs) (a:ag) (q:h.eval p=.string a)
  (F:e+a.size<=maxLen) (y:e+a.size<=140737488355328) (A:i<=w.heap.size) (k:Nat) (r:w.heap.size=k)
  (C:∀b g,g.ownsRow i c 1 b (e+a.size) (xs++strCells a)->w.grownBy g f.ownBlock->(b.ownBlock=f.ownBlock\/b.ownBlock=some k)->n (h.put j.dst b) g):j.wp P h w n x:=by
 let⟨b,g,s,t,u,v⟩:=at9 (P:=P) w i l m j.type c d K L D M z E f e xs B a F y A k r;simp only[Oper.wp,execOp,H,resolve,invoke,builtin,yzz,Sem.run_pure,Result.andThen_ok,List.map_toArray,vw,List.map_nil,U,q,s];exact C b g t u v
def Zg{q:Array Oper}{rest:List Oper}{j:Oper}{h:Act}{p:Exit->Act->ae->Prop}(H:j.guard=none)(l o:Operand)(m n:TypeId)
  (M:j.op=.call {callee:=.builtin .append,args:=#[l,o],argTypes:=#[m,n]})
  (i:Nat) (c:TypeId) (d:TypeInfo) (U:P.underlying m=some (.slice c)) (R:P.underlying n=some .string) (E:P.info? c=some d) (r:d.zero=some (.int .u8 0))
  (B:d.size=1) (K:d.bytes=1)
  (f:af) (e:Nat) (xs:List af) (s:h.eval l=f) (F:w.ownsRow i c 1 f e xs) (a:ag) (t:h.eval o=.string a)
  (L:e+a.size<=maxLen) (A:e+a.size<=140737488355328) (C:i<=w.heap.size) (k:Nat) (u:w.heap.size=k)
  (D:∀b g,g.ownsRow i c 1 b (e+a.size) (xs++strCells a)->w.grownBy g f.ownBlock->(b.ownBlock=f.ownBlock\/b.ownBlock=some k)->wpList P q p rest (h.put j.dst b) g):wpList P q p (j::rest) h w:=
 zyg H λ_ v=>ajv w l o m n M i c d U R E r B K f e xs s F a t L A C k u λb g x y z=>v _ _<|D b g x y z
def aiv{q:Array Oper}{b:Oper}{a:Act}{p:Act->ae->Prop}{y:Exit->Act->ae->Prop}{v:Prop}(F:b.guard=none)(k o:Operand)(l m:TypeId)
  (L:b.op=.call {callee:=.builtin .append,args:=#[k,o],argTypes:=#[l,m]})
  (h:Nat) (d:TypeId) (e:TypeInfo) (M:P.underlying l=some (.slice d)) (U:P.underlying m=some .string) (D:P.info? d=some e) (r:e.zero=some (.int .u8 0))
  (A:e.size=1) (H:e.bytes=1)
  (g:af) (f:Nat) (xs:List af) (s:a.eval k=g) (E:w.ownsRow h d 1 g f xs) (c:ag) (t:a.eval o=.string c)
  (K:f+c.size<=maxLen) (z:f+c.size<=140737488355328) (B:h<=w.heap.size) (j:Nat) (u:w.heap.size=j)
  (C:∀i n,n.ownsRow h d 1 i (f+c.size) (xs++strCells c)->w.grownBy n g.ownBlock->(i.ownBlock=g.ownBlock\/i.ownBlock=some j)->p (a.put b.dst i) n):
  if Region.wanted b (yielded q a.tmps)=true then Oper.wp P b a w p y else v:=by
 have x:Region.wanted b (yielded q a.tmps)=true:=by simp[Region.wanted,F]
 rw[G x];exact ajv w k o l m L h d e M U D r A H g f xs s E c t K z B j u C
end
end
section
def Gk(L:Nat->Prop)(J:Nat->Act->ae->Prop)(K:Exit->Act->ae->Prop):Exit->Act->ae->Prop
 | .goto l,a,w=>L l/\J l a w
 |e,a,w=>K e a w
section
variable {P:Program} {a:Act} {w:ae} {K:Exit->Act->ae->Prop}
end
end
section
section
variable {P:Program} {a:Act} {w:ae} {U:Exit->Act->ae->Prop}
def ap5{d e:Nat->Act->ae->Prop}(g:∀f a w,d f a w->e f a w):∀(b:Exit)(a:Act)(w:ae),Gk h d U b a w->Gk h e U b a w:=λb a w c=>by
 cases b<;>first|exact c|exact⟨c.1,g _ _ _ c.2⟩
def aw4{h:Code}(rest:Nat->Code)(j:Nat->Prop)(n:Nat->Nat->Act->ae->Prop)(H:∀b,j b->findLabel h b=some (rest b))
  (first:h.wp P (Gk j (λb a w=>∃g,n b g a w) U) a w)
  (M:∀b g a w,j b->n b g a w->(rest b).wp P (Gk j (λi o s=>∃r,r<g/\n i r o s) U) a w):(Code.scope h).wp P U a w:=by
 intro p l q
 have D:∀b,j b->gotoIn b (.inScope h::l)=some (.code (rest b):: .inScope h::l):=λb z=>by simp[gotoIn,H b z]
 have L:∀g b a w,j b->n b g a w->∃k o s,U k o s/\Arrives P (lone (p.at a (.code (rest b):: .inScope h::l)) q w) p l q k o s:=by
  intro g
  induction g using Nat.strongRecOn with
  |_ g K=>
   intro b a w z F
   let⟨k,c,f,e,d⟩:=M b g a w z F p (.inScope h::l) q;cases k with
   |normal=>exact⟨.normal,c,f,e,Steps.trans d<|.one step_inScope⟩
   |exit id=>exact⟨.exit id,c,f,e,λB y=>d B<|by simp[exitTo,y]⟩
   |goto i=>
    let⟨m,r,E,v⟩:=e;let⟨u,t,C,A,x⟩:=K r E i c f m v;exact⟨u,t,C,A,.of_steps (d _<|D i m) x⟩
   |ret=>exact⟨_,c,f,e,d⟩
   |panic E=>exact⟨_,c,f,e,d⟩
   |outgrown=>exact⟨_,c,f,e,d⟩
 let⟨k,c,f,e,d⟩:=first p (.inScope h::l) q
 cases k with
 |normal=>exact⟨.normal,c,f,e,.head yxu<|Steps.trans d<|.one step_inScope⟩
 |exit id=>exact⟨.exit id,c,f,e,λB y=> .head yxu<|d B<|by simp[exitTo,y]⟩
 |goto i=>
  let⟨m,g,v⟩:=e;let⟨u,t,C,A,x⟩:=L g i c f m v;exact⟨u,t,C,A,.of_steps (.head yxu<|d _<|D i m) x⟩
 |ret=>exact⟨_,c,f,e,.of_steps (.one yxu) d⟩
 |panic E=>exact⟨_,c,f,e,.of_steps (.one yxu) d⟩
 |outgrown=>exact⟨_,c,f,e,.of_steps (.one yxu) d⟩
def jmp(J:Nat->Nat->Act->ae->Prop)(N:Nat)(U:Exit->Act->ae->Prop):Exit->Act->ae->Prop:=Gk (λl=>l<=5) (λl a w=>∃n,n<N/\J l n a w) U
def Sb(P:Program)(J:Nat->Nat->Act->ae->Prop)(U:Exit->Act->ae->Prop)(l:Nat)(b:Code):Prop:=∀N n a w,n<=N->J l n a w->b.wp P (jmp J N U) a w
theorem aw5{e g h i j k l:Code}(d:Nat->Nat->Act->ae->Prop)(z:findLabel e 0=some (.seq .skip g))(A:findLabel e 1=some (.seq .skip h))(B:findLabel e 2=some (.seq .skip i))(C:findLabel e 3=some (.seq .skip j))(D:findLabel e 4=some (.seq .skip k))(E:findLabel e 5=some (.seq .skip l))
  (s5:Sb P d U 5 l) (s3:Sb P d U 5 l->Sb P d U 3 j) (s0:Sb P d U 3 j->Sb P d U 0 g) (s4:Sb P d U 0 g->Sb P d U 4 k) (s2:Sb P d U 4 k->Sb P d U 2 i) (s1:Sb P d U 2 i->Sb P d U 1 h)
  (first:(∀c a w,d 1 c a w->h.wp P (Gk (λb=>b<=5) (λb a w=>∃c,d b c a w) U) a w)->e.wp P (Gk (λb=>b<=5) (λb a w=>∃c,d b c a w) U) a w):(Code.scope e).wp P U a w:=by
 have r:=s5;have s:=s3 r;have t:=s0 s;have u:=s4 t;have n:=s2 u;have o:=s1 n;have skip:∀{q:Code} {p:Exit->Act->ae->Prop} {a:Act} {w:ae},q.wp P p a w->(Code.seq .skip q).wp P p a w:=λm=>wp_seq<|wp_skip m
 refine aw4 (λb=>if b=0 then .seq .skip g else if b=1 then .seq .skip h else if b=2 then .seq .skip i else if b=3 then .seq .skip j else if b=4 then .seq .skip k else .seq .skip l) (λb=>b<=5) d ?_ (first λc a w m=>Code.wp_mono (ap5 λb a w ⟨v,_,x⟩=>⟨v,x⟩)<|o c c a w ah m) ?_
 .grind
 intro b c a w y f
 rcases(Q:b=0\/b=1\/b=2\/b=3\/b=4\/b=5)with rfl|rfl|rfl|rfl|rfl|rfl
 .exact skip<|t c c a w ah f
 .exact skip<|o c c a w ah f
 .exact skip<|n c c a w ah f
 .exact skip<|s c c a w ah f
 .exact skip<|u c c a w ah f
 exact skip<|r c c a w ah f
end
end
structure Qja where
 name:List Nat
 H:Nat
 cn:Bool
structure Sc where
 ax:Nat
 op:Nat
 L:St
 part:Nat
 bm:Nat
 zero:Nat
 gf:Nat
 cn:Bool
 all:Bool
 print:Bool
 uw:Bool
 row:Nat->Bool
 rows:Nat
 fp:List Nat
 db:List Nat
 bu:List Qja
def yu:Sc:=⟨0,0,⟨0,0,0,0⟩,0,0,0,0,false,false,false,false,λ_=>false,0,[],[],[]⟩
def Gy:ag:=⟨#[100,68,110,78,112,80,103,71,104,72,120,61,113]⟩
def Je:ag:=⟨#[97,105,99]⟩
def Dm:ag:=⟨#[110,92,47,38]⟩
def Qqg:ag:=⟨#[110,92,47]⟩
def qk(x:Sc)(c:Nat):Option Sc:=
 if c=32 then some {x with ax:=7}
 else if c=59\/c=10 then some {x with ax:=0}
 else if c=125/\0<x.op then some {x with op:=x.op-1,ax:=7}
 else none
def di(x:Sc)(c:Nat):Option Sc:=
 if c=123 then(if x.op+1<=5 then some {x with op:=x.op+1,ax:=0} else none)
 else if bn Gy c=true then some {x with ax:=7}
 else if bn Je c=true then some {x with ax:=8}
 else if c=98\/c=116 then some {x with ax:=10,gf:=0,bm:=0,cn:=false}
 else if c=115 then some {x with ax:=11}
 else if c=121 then some {x with ax:=16}
 else none
def pattern(x:Sc)(i:Nat):Sc:={x with L:=⟨0,0,0,0⟩,fp:=x.fp++[i],db:=x.db++[0]}
def spot(x:Sc)(c i:Nat):Option Sc:=
 if 48<=c/\c<=57 then some {x with ax:=1,bm:=1,zero:=if c=48 then 0 else 1}
 else if c=36 then some {x with ax:=2}
 else if c=47 then some (pattern {x with ax:=6} (i+1))
 else none
def lc(x:Sc)(c:Nat):Option Sc:=
 if c=32/\(x.ax=4\/x.ax=2\/x.ax=5\/x.ax=1)then some (if x.ax=5 then x else {x with ax:=4})
 else if c=33/\x.ax≠5 then some {x with ax:=5}
 else di x c
def begin'(x:Sc)(c i:Nat):Option Sc:=
 if c=32\/c=59\/c=10 then some x
 else if c=125 then(if 0<x.op then some {x with op:=x.op-1,ax:=7} else none)
 else if c=58 then some {x with ax:=10,gf:=1,bm:=0,cn:=true}
 else match spot {x with part:=1} c i with
  |some y=>some y
  |none=>lc {x with part:=1} c
def vf(x:Sc)(c:Nat):Option Sc:=
 if c=44/\x.part=1 then some {x with ax:=3,part:=2} else lc x c
def ua(x:Sc)(c:Nat):Option Sc:=
 if 48<=c/\c<=57/\x.bm<4 then(if x.bm+1<4\/(if c=48 then x.zero else 1)=1 then some {x with bm:=x.bm+1,zero:=if c=48 then x.zero else 1} else none)
 else if x.zero=0 then none else vf x c
def lx(st:St):Bool:=decide (st.m=3)||decide (st.m=9)||decide (st.m=10)
def Bj(l:List Nat):List Nat:=l.set (l.length-1)<|l.getD (l.length-1) 0+1
def pi(x:Sc)(c:Nat):Option Sc×Bool:=
 if c=47/\lx x.L=false then(if whole x.L=true then some x else none,true)
 else((step x.L c).map λst=>{x with L:=st,db:=Bj x.db},false)
def Hw(l:List Qja)(c:Nat):List Qja:=match l.reverse with
 | []=>[]
 |b::r=>(⟨b.name++[c],b.H,b.cn⟩::r).reverse
def named(x:Sc)(c i:Nat):Option Sc:=
 if 97<=c/\c<=122/\x.bm<8 then some {x with bm:=x.bm+1,bu:=Hw (if x.bm=0 then x.bu++[⟨[],i,x.cn⟩] else x.bu) c}
 else if x.bm<x.gf then none else qk x c
def sy(x:Sc)(c:Nat):Option Sc:=
 if x.ax=14 then(if bn Dm c=true\/(49<=c/\c<=57/\c-48<=x.L.a)then some {x with ax:=13} else none)
 else if c=47 then some {x with ax:=15,all:=false,print:=false,uw:=false}
 else if c=92 then some {x with ax:=14}
 else if c=10 then none else some x
def uv(x:Sc)(c:Nat):Option Sc:=
 if c=103/\x.all=false then some {x with all:=true}
 else if c=112/\x.print=false then some {x with print:=true}
 else if 49<=c/\c<=57/\x.uw=false then some {x with uw:=true}
 else qk x c
def yt(x:Sc)(v:Nat):Option Sc:=if x.row v=true then none else some {x with row:=λk=>if k=v then true else x.row k,rows:=x.rows+1}
def pg(x:Sc)(c:Nat):Option Sc:=
 if x.ax=18 then(if bn Qqg c=true then yt {x with ax:=17} (val c)else none)
 else if c=47 then some {x with ax:=if x.rows=0 then 21 else 19,bm:=0}
 else if c=92 then(if x.row 10=false\/x.row 92=false\/x.row 47=false then some {x with ax:=18} else none)
 else if c=10 then none
 else yt x c
def As(x:Sc):Sc:={x with bm:=x.bm+1,ax:=if x.bm+1=x.rows then 21 else x.ax}
def rj(x:Sc)(c:Nat):Option Sc:=
 if x.ax=20 then(if bn Qqg c=true then some (As {x with ax:=19})else none)
 else if c=92 then some {x with ax:=20}
 else if c=47\/c=10 then none
 else some (As x)
def bx(x:Sc)(c i:Nat):Option Sc:=
 if x.ax=0 then begin' x c i
 else if x.ax=1 then ua x c
 else if x.ax=2 then vf x c
 else if x.ax=3 then spot x c i
 else if x.ax=4\/x.ax=5 then lc x c
 else if x.ax=6\/x.ax=12 then(pi x c).1.map λy=>if(pi x c).2=true then {y with ax:=if x.ax=12 then 13 else 2} else y
 else if x.ax=7 then qk x c
 else if x.ax=8 then(if c=32 then some {x with ax:=9} else none)
 else if x.ax=9 then some (if c=10 then {x with ax:=0} else x)
 else if x.ax=10 then named x c i
 else if x.ax=11 then(if c=47 then some (pattern {x with ax:=12} (i+1))else none)
 else if x.ax=13\/x.ax=14 then sy x c
 else if x.ax=15 then uv x c
 else if x.ax=16 then(if c=47 then some {x with ax:=17,row:=λ_=>false,rows:=0} else none)
 else if x.ax=17\/x.ax=18 then pg x c
 else if x.ax=19\/x.ax=20 then rj x c
 else if c=47 then some {x with ax:=7} else none
def jj(x:Sc):Bool:=(decide (x.ax=0)||decide (x.ax=7)||decide (x.ax=9)||decide (x.ax=15)||(decide (x.ax=10)&&decide (x.gf<=x.bm)))&&decide (x.op=0)
def ed(s:ag):Nat->Option Sc
 |0=>some yu
 |i+1=>(ed s i).bind λx=>bx x (au s i) i
def jt(s:ag)(j:Nat):Prop:=∃x,ed s j=some x/\j<=s.size/\(j<s.size->bx x (au s j) j=none)/\(j=s.size->jj x=false)
def Ng(s:ag)(x:Sc):Prop:=ed s s.size=some x/\jj x=true
def Fc(x:Sc)(a:Nat):Prop:=∃k:Nat,x.fp[k]?=some a/\(∃n:Nat,x.db[k]?=some n/\40<n)/\∀k' n:Nat,k'<k->x.db[k']?=some n->n<=40
def Mz(x:Sc):Prop:=∀k n:Nat,x.db[k]?=some n->n<=40
def vd(x:Sc)(k:Nat):Prop:=∃l,x.bu[k]?=some l/\((l.cn=true/\∃(k':Nat)(l':Qja),k'<k/\x.bu[k']?=some l'/\l'.cn=true/\l'.name=l.name)\/¬∃(k':Nat)(l':Qja),x.bu[k']?=some l'/\l'.cn=true/\l'.name=l.name)
def Fk(s:ag)(ec place:Int):Prop:=
 (400<s.size/\ec=1/\place=0)\/
 (s.size<=400/\ec=3/\∃j:Nat,place=j/\jt s j)\/
 (s.size<=400/\∃x,Ng s x/\
  ((ec=2/\∃a:Nat,place=a/\Fc x a)\/
   (Mz x/\ec=4/\∃(k:Nat)(l:Qja),x.bu[k]?=some l/\place=l.H/\vd x k/\∀k',k'<k->¬vd x k')\/
   (Mz x/\ec=0/\place=0/\∀k,¬vd x k)))
theorem au3{i a:Nat}(j:i<=a){c:Sc}(b:ed s a=some c):∃g,ed s i=some g:=by
 induction a generalizing c with
 |zero=>
  grind
 |succ a f=>
  by_cases d:i=a+1
  .grind
  simp only[ed,Ey]at b;grind
def Yj{b:Sc}(c:ed s a=some b):ed s (a+1)=bx b (au s a) a:=by simp[ed,c]
def jt.Gm{a j:Nat}(f:jt s a)(k:a<j){g:Sc}(c:ed s j=some g)(h:j<=s.size):False:=by
 let⟨l,d,_,e,_⟩:=f;let⟨i,b⟩:=au3 (i:=a+1) Q c;rw[Yj d,e Q]at b;cases b
def jt.unique(f:jt s a)(e:jt s b):a=b:=by
 obtain h|h|h:=yyx a b
 .let⟨_,c,d,_⟩:=e;exact(f.Gm h c d).elim
 .exact h
 let⟨_,c,d,_⟩:=f;exact(e.Gm h c d).elim
theorem jt.Gv{j:Sc}(e:jt s a)(h:Ng s j):False:=by
 let⟨b,c⟩:=h;have f:=e;let⟨m,d,k,l,i⟩:=e;by_cases g:a=s.size
 .grind
 exact f.Gm (j:=s.size) Q b ah
theorem Fc.unique{g:Sc}(j:Fc g a)(h:Fc g b):a=b:=by
 let⟨d,i,⟨o,k,q⟩,l⟩:=j;let⟨c,f,⟨m,n,r⟩,p⟩:=h;have:d=c:=by
  obtain e|e|e:=yyx d c
  .grind
  .exact e
  have:=l c m e n;omega
 grind
def Fc.not{b:Sc}(e:Fc b a)(c:Mz b):False:=by
 let⟨f,_,⟨g,d,h⟩,_⟩:=e;have:=c f g d;omega
theorem Fk.unique{u:ag}{e s r t:Int}(j:Fk u e s)(a:Fk u r t):e=r/\s=t:=by
 obtain⟨w,rfl,rfl⟩|⟨w,rfl,D,rfl,x⟩|⟨w,v,g,j⟩:=j
 .obtain⟨_,rfl,rfl⟩|⟨_,_⟩|⟨_,_⟩:=a
  all_goals omega
 .obtain⟨_,_⟩|⟨_,rfl,y,rfl,i⟩|⟨_,v,g,_⟩:=a
  .omega
  .exact⟨rfl,by rw[x.unique i]⟩
  exact(x.Gv g).elim
 obtain⟨_,_⟩|⟨_,rfl,y,rfl,i⟩|⟨_,z,C,a⟩:=a
 .omega
 .exact(i.Gv g).elim
 have:v=z:=by
  have h:=g.1;rw[C.1]at h;cases h;rfl
 subst this;obtain⟨rfl,h,rfl,m⟩|⟨n,rfl,f,E,A,rfl,p,o⟩|⟨n,rfl,rfl,o⟩:=j
 .obtain⟨rfl,q,rfl,b⟩|⟨c,_⟩|⟨c,_⟩:=a
  .exact⟨rfl,by rw[m.unique b]⟩
  .exact(m.not c).elim
  exact(m.not c).elim
 .obtain⟨rfl,q,rfl,b⟩|⟨_,rfl,c,B,k,rfl,l,d⟩|⟨_,rfl,rfl,d⟩:=a
  .exact(b.not n).elim
  all_goals grind
 obtain⟨rfl,q,rfl,b⟩|⟨_,rfl,c,B,k,rfl,l,d⟩|⟨_,rfl,rfl,_⟩:=a
 .exact(b.not n).elim
 all_goals grind
