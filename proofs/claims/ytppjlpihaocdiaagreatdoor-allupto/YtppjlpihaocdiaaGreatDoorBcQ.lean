import Derived.Test.YtppjlpihaocdiaaGreatDoorBbQ
import Derived.Test.YtppjlpihaocdiaaGreatDoorAvQ
set_option linter.all false
set_option maxRecDepth 100000
set_option maxHeartbeats 16000000
namespace Go.Proofs.YtppjlpihaocdiaaGreatDoor
open Go.RowKit
variable{w u v:ae}{a b c d e:Nat}{s t:ag}{x y z:af}{p D:Int}{l:List af}{f:Bool}{g:List Nat}{h:Nat->Prop}{o:Option Addr}{r:List UInt8}{A:Nat->Bool}{B:Nat->Nat->Bool}{C:Nat->Nat->Prop}(i:Nat)(S T:ag)(V X:af)(j k m n:Nat)(Z:Int)(W:ae)
structure zb(lg:Int)(n:Nat)(x:Cm):Prop where
 p1:lg=-1->x.fst.sort=3->x.fst.L.size<=40
 p2:lg=-1->x.snd.sort=3->x.snd.L.size<=40
 p3:lg=-1->x.R=19->x.L.size<=40
 tm:x.R=19->∀p∈x.gj,(p.jw=-1/\p.byte<256)\/(0<=p.jw/\p.jw<=eo x.L)
 tl:x.gj.length<=400
 yy:x.R=20->x.la.size=x.oo.size
 ys:x.la.size<=400
 tx:x.text.size<=400
 gl:x.cn<=n
 nu:x.num<=9
structure Cv(s:ag)(p:cj):Prop where
 cm:∀x∈p.U,zb p.bk p.U.length x
 lb:∀l∈p.bh,l.cmd<=p.U.length
 ln:p.U.length<=p.H
 ls:p.U.length<=s.size
def zb.more{lg f:Int}{x:Cm}(c:zb lg a x)(e:f=-1->lg=-1)(g:a<=b):zb f b x:=
 ⟨λd=>c.p1<|e d,λd=>c.p2<|e d,λd=>c.p3<|e d,c.tm,c.tl,c.yy,c.ys,c.tx,bq c.gl g,c.nu⟩
def Cv.more{c:ag}{a:cj}(b:Cv c a){i o:Nat}{lg:Int}(f:a.H<=i)(d:lg=-1->a.bk=-1):Cv c ⟨i,o,a.U,a.bh,lg⟩:=
 ⟨λg e=>(b.cm g e).more d ah,b.lb,bq b.ln f,b.ls⟩
theorem Cv.add{j:ag}{b:cj}(g:Cv j b){d:Cm}{h q:Nat}{i:Int}{k:List ft}(o:zb i (b.U.length+1) d)(r:b.H+1<=h)(s:b.H<j.size)(p:i=-1->b.bk=-1)(m:∀c∈k,c∈b.bh\/c.cmd<=b.U.length):Cv j ⟨h,q,b.U++[d],k,i⟩:=by
 have e:(b.U++[d]).length=b.U.length+1:=qD
 refine⟨λl a=>?_,λc n=>?_,?_,?_⟩
 .rw[e];obtain a|a:=og.1 a
  .exact(g.cm l a).more p Q
  grind
 .rw[e];obtain f|f:=m c n
  .have:=g.lb c f;omega
  omega
 .rw[e];have:=g.ln;grind
 rw[e];have:=g.ln;omega
theorem afz:((dx S j Z).2.2.1=-1->Z=-1)/\((dx S j Z).2.2.2=true->(dx S j Z).2.2.1=-1->(dx S j Z).2.1.size<=40):=by
 grind[dx]
theorem ajp:((dc S j Z).2.2.1=-1->Z=-1)/\((dc S j Z).2.2.2=true->(dc S j Z).2.2.1=-1->(dc S j Z).2.1.sort=3->(dc S j Z).2.1.L.size<=40):=by
 unfold dc;split
 .grind
 split
 .have:=afz S (j+1) Z;grind
 grind
theorem aap(b:(cq S j Z).2.2.2.2=true):((cq S j Z).2.2.2.1=-1->Z=-1)/\((cq S j Z).2.2.2.1=-1->(cq S j Z).2.1.sort=3->(cq S j Z).2.1.L.size<=40)/\((cq S j Z).2.2.2.1=-1->(cq S j Z).2.2.1.sort=3->(cq S j Z).2.2.1.L.size<=40):=by
 unfold cq at*
 split
 .rename_i g;rw[G g]at b;simp only at b|-;have d:=ajp S j Z;split
  .rename_i c;rw[G c]at b;split
   .rename_i h;rw[G h]at b;have e:=ajp S ((dc S j Z).1+1) (dc S j Z).2.2.1;split
    all_goals grind
   exact⟨d.1,λa=>d.2 c a,λ_ a=>by simp[gi]at a⟩
  grind
 exact⟨λa=>a,λ_ a=>by simp[gi]at a,λ_ a=>by simp[gi]at a⟩
theorem Cd:j<=skip S T j:=by
 have b:∀(a j:Nat),j<=skipF S T a j:=λa=>by
  induction a with
  |zero=>exact λj=>ah
  |succ a c=>
   intro j
   grind[skipF]
 exact b _ j
def ae6(c:ag):∀(l a b:Nat),a<=(numF c l a b).1
 |0,a,b=>ah
 |l+1,a,b=>by
  unfold numF;split
  .split
   .exact ah
   exact bq (yyk a)<|ae6 c l (a+1) _
  exact ah
theorem afy:j<=(dx S j Z).1:=by
 grind[dx]
def ajo:j<=(dc S j Z).1:=by
 unfold dc;split
 .exact yyk j
 split
 .exact bq (yyk j)<|afy S (j+1) Z
 exact ae6 S 4 j 0
def Qzz:j<=(cq S j Z).1:=by
 unfold cq;split
 .simp only;have a:=ajo S j Z;split
  .split
   .have b:=ajo S ((dc S j Z).1+1) (dc S j Z).2.2.1;split
    .have:=Cd S dh (dc S ((dc S j Z).1+1) (dc S j Z).2.2.1).1;omega
    omega
   have:=Cd S dh (dc S j Z).1;omega
  exact a
 exact ah
theorem ab8:j<=ci S j:=by
 have b:∀(a j:Nat),j<=jh S a j:=λa=>by
  induction a with
  |zero=>exact λj=>ah
  |succ a c=>
   intro j
   grind[jh]
 exact b _ j
def Vf(b:ag):∀(f a:Nat),a<=eg b f a
 |0,a=>ah
 |f+1,a=>by
  unfold eg;split
  .exact bq (yyk a)<|Vf b f<|a+1
  exact ah
def Nc(g:Nat)(p:Pc):Prop:=(p.jw=-1/\p.byte<256)\/(0<=p.jw/\p.jw<=g)
theorem asm:k<=(ih S j k).1/\((ih S j k).2.2=true->Nc j (ih S j k).2.1):=by
 have b:∀c,au S c<256:=λc=>by unfold au;exact yxj _
 unfold ih;split
 .exact⟨yyk k,λ_=> .inr ⟨qD,qD⟩⟩
 split
 .unfold qf;split
  .rename_i a;exact⟨qC,λ_=> .inr ⟨qC,qC⟩⟩
  split
  .exact⟨qC,λ_=> .inl ⟨rfl,qD⟩⟩
  split
  .exact⟨qC,λ_=> .inl ⟨rfl,b _⟩⟩
  grind
 unfold th;split
 .grind
 exact⟨yyk k,λ_=> .inl ⟨rfl,b _⟩⟩
theorem ai4(d:ag)(b:Nat):∀(f a:Nat)(c:List Pc),(∀g∈c,Nc b g)->(qe d b f a c).2.2=true->a<=(qe d b f a c).1/\(qe d b f a c).2.1.length+1<=c.length+f/\∀g∈(qe d b f a c).2.1,Nc b g
 |0,a,c,hp,h=>by cases h
 |f+1,a,c,hp,h=>by
  unfold qe at*
  split
  .grind
  rename_i k;rw[N k]at h;split
  .rename_i i;rw[G i]at h;have pk:=asm d b a;have:=ai4 d b f (ih d b a).1 (c++[(ih d b a).2.1]) (λg j=>by
    grind) h
   grind
  grind
theorem Ou(c:ag):∀(f a:Nat)(d e:Bool)(b:Nat),b<=9->a<=(flagF c f a d e b).1/\(flagF c f a d e b).2.2.2<=9
 |0,a,d,e,b,hn=>⟨ah,hn⟩
 |f+1,a,d,e,b,hn=>by
  unfold flagF;split
  .have:=Ou c f (a+1) true e b hn;omega
  split
  .have:=Ou c f (a+1) d true b hn;omega
  split
  .rename_i j;have i:au c a-48<=9:=by
    have g:=j.2;unfold br at g;simp only[Aw,xz]at g;have h:=g.2;unfold bn po at h;simp at h;omega
   have:=Ou c f (a+1) d e (au c a-48) i;omega
  grind
theorem agr(a:Cm)(b:(ii S j Z a).2.2.2=true)(l:S.size<=400):j<=(ii S j Z a).1/\((ii S j Z a).2.2.1=-1->Z=-1)/\((ii S j Z a).2.2.1=-1->(ii S j Z a).2.1.L.size<=40)/\(∀g∈(ii S j Z a).2.1.gj,Nc (eo (ii S j Z a).2.1.L) g)/\(ii S j Z a).2.1.gj.length<=400/\(ii S j Z a).2.1.num<=9/\(ii S j Z a).2.1.fst=a.fst/\(ii S j Z a).2.1.snd=a.snd/\(ii S j Z a).2.1.R=a.R/\(ii S j Z a).2.1.text=a.text/\(ii S j Z a).2.1.la=a.la/\(ii S j Z a).2.1.oo=a.oo/\(ii S j Z a).2.1.cn=a.cn:=by
 unfold ii at*
 split
 .rename_i d;rw[G d]at b;simp only at b|-;have f:=afz S (j+1) Z;have m:=afy S (j+1) Z;split
  .rename_i c;rw[G c]at b
   try simp only at b|-
   split
   .rename_i e;have tk:=ai4 S (eo (dx S (j+1) Z).2.1) (S.size+1) (dx S (j+1) Z).1 [] (λg i=>by cases i) e;have k:=Ou S 4 (ks S (eo (dx S (j+1) Z).2.1) (dx S (j+1) Z).1).1 false false 0 Q;have n:(dx S (j+1) Z).1<=(ks S (eo (dx S (j+1) Z).2.1) (dx S (j+1) Z).1).1:=tk.1;refine⟨qC,f.1,λh=>f.2 c h,tk.2.2,?_,k.2,rfl,rfl,rfl,rfl,rfl,rfl,rfl⟩;have:=tk.2.1;simp at this;show(ks S _ _).2.1.length<=400
    unfold ks;omega
   grind
  grind
 grind
theorem ag4(b:List Nat)(a:Nat):a<=(fa S b a).1:=by
 unfold fa
 grind
theorem ahd(c:ag):∀(f a:Nat)(b:List Nat),(rowL c f a b).2.2=true->a<=(rowL c f a b).1/\(rowL c f a b).2.1.length+1<=b.length+f
 |0,a,b,h=>by cases h
 |f+1,a,b,h=>by
  unfold rowL at*
  split
  .grind
  rename_i e;rw[N e]at h;split
  .rename_i d;rw[G d]at h;have:=ahd c f (fa c b a).1 (b++[(fa c b a).2.1]) h;have i:=ag4 c b a;grind
  grind
theorem ahh(c:ag):∀(f a:Nat)(b:List Nat),(mp c f a b).2.2=true->a<=(mp c f a b).1/\(mp c f a b).2.1.length=b.length+f
 |0,a,b,h=>⟨ah,rfl⟩
 |f+1,a,b,h=>by
  unfold mp at*
  split
  .rename_i d;rw[G d]at h;have:=ahh c f (fa c [] a).1 (b++[(fa c [] a).2.1]) h;have g:=ag4 c [] a;grind
  grind
def afa(a:List Nat):(iy a).size=a.length:=by simp[iy,ByteArray.size]
theorem atu(a:(jo S j).2.2.2=true)(h:S.size<=400):j<=(jo S j).1/\(jo S j).2.1.size=(jo S j).2.2.1.size/\(jo S j).2.1.size<=400:=by
 unfold jo at*
 split
 .rename_i d;rw[G d]at a;simp only at a|-;split
  .rename_i b;rw[G b]at a
   try simp only at a|-
   have e:=ahd S (S.size+1) (j+1) [] b;split
   .rename_i c;rw[G c]at a;have f:=ahh S (rowL S (S.size+1) (j+1) []).2.1.length (rowL S (S.size+1) (j+1) []).1 [] c;split
    .refine⟨qC,?_,?_⟩
     .simp only[afa];rw[f.2];simp
     simp only[afa];grind
    grind
   grind
  grind
 grind
section
theorem Qzc{s c:ag}(b:br s c a=true):a<s.size:=by
 unfold br at b;grind
def anw:(S.extract j k).size<=S.size:=by
 rw[lw];omega
def Xx{g:List Cm}(h:∀f∈g,zb p a f)(i:b<=a):∀f∈setGoal g c b,zb p a f:=by
 unfold setGoal;cases k:g[c]? with
 |none=>exact h
 |some j=>
  intro f l
  obtain e|e:=List.mem_or_eq_of_mem_set l
  .exact h f e
  have d:=h j<|qy k;rw[e];exact⟨d.p1,d.p2,d.p3,d.tm,d.tl,d.yy,d.ys,d.tx,i,d.nu⟩
structure Cb(lg:Int)(c:Cm):Prop where
 p1:lg=-1->c.fst.sort=3->c.fst.L.size<=40
 p2:lg=-1->c.snd.sort=3->c.snd.L.size<=40
 cn:c.cn=0
 text:c.text=fo
 gj:c.gj=[]
 num:c.num=0
 la:c.la=fo
 oo:c.oo=fo
def Cb.Ka{a:Cm}(b:Cb p a)(e f:Nat)(d:e≠19:=by omega):zb p f {a with R:=e}:=
 ⟨b.p1,b.p2,λ_ c=>cb c d,λc=>cb c d,by show a.gj.length<=400;rw[b.gj];simp,λ_=>by show a.la.size=a.oo.size;rw[b.la,b.oo],by show a.la.size<=400;rw[b.la];simp[fo,ByteArray.size],by show a.text.size<=400;rw[b.text];simp[fo,ByteArray.size],by show a.cn<=f;rw[b.cn];omega,by show a.num<=9;rw[b.num];omega⟩
section
variable {Qjj:cj->cj×Bool} {s:ag}
theorem ak9(j:∀a,Cv s a->(Qjj a).2=true->Cv s (Qjj a).1){a:cj}{b:Cm}(m:Cv s a)(n:zb a.bk (a.U.length+1) b)(l:a.H<s.size)(c:(qr Qjj s a b).2=true):Cv s (qr Qjj s a b).1:=by
 unfold qr at*
 split
 .omega
 rename_i e;rw[N e]at c;simp only at*
 split
 .rename_i f;have o:Cv s {a with H:=a.H+1,op:=a.op+1,U:=a.U++[b]}:=m.add n ah l (λk=>k)<|λh g=> .inl g;have:=j _ o f.1;have d:=Dj (Qjj {a with H:=a.H+1,op:=a.op+1,U:=a.U++[b]}).1.U a.U.length (Qjj {a with H:=a.H+1,op:=a.op+1,U:=a.U++[b]}).1.U.length;refine⟨λi p=> ?_,λh g=> ?_,?_,?_⟩
  .show zb _ (setGoal _ _ _).length i
   rw[d];exact Xx this.cm ah i p
  .show h.cmd<=(setGoal _ _ _).length
   rw[d];exact this.lb h g
  .show(setGoal _ _ _).length<=_
   rw[d];exact bq this.ln<|yyk _
  show(setGoal _ _ _).length<=_
  rw[d];exact this.ls
 grind
theorem aji(r:s.size<=400)(B:∀a,Cv s a->(Qjj a).2=true->Cv s (Qjj a).1){a:cj}{g:Cm}(h:Cv s a)(f:Cb a.bk g)(c:(lm Qjj s a g).2=true):Cv s (lm Qjj s a g).1:=by
 unfold lm at*
 split
 .rename_i n;rw[G n]at c;have i:=Qzc n;simp only at*
  generalize ei (au s a.H)=k at*
  split
  .rename_i o;rw[G o]at c;exact ak9 B h (f.Ka k _) i c
  rename_i o;rw[N o]at c;split
  .rename_i p;rw[G p]at c;split
   .rename_i m;have j:=ab8 s<|a.H+1+1;have b:=f.Ka k (a.U.length+1);refine h.add ⟨b.p1,b.p2,b.p3,b.tm,b.tl,b.yy,b.ys,?_,b.gl,b.nu⟩ Q i (λe=>e)<|λl d=> .inl d;have:=anw s (a.H+1+1)<|ci s<|a.H+1+1;grind
   grind
  rename_i p;rw[N p]at c;split
  .rename_i m;have d:=Vf s 8<|a.H+1;refine h.add (f.Ka k _) d i (λe=>e)<|λl d=> ?_;rcases og.1 (show l∈a.bh++[_] from d)with e|e
   all_goals grind
  rename_i m;rw[N m]at c;split
  .rename_i j;rw[G j]at c;have pk:=agr s (a.H+1) a.bk {g with R:=k} c r;let⟨t,q,u,v,w,x,y,z,A,C,D,F,E⟩:=pk;refine h.add ⟨λe=> ?_,λe=> ?_,λe _=>u e,λ_=>v,w,λe=> ?_,?_,?_,?_,x⟩ t i q (λl d=> .inl d)
   .rw[y];exact f.p1<|q e
   .rw[z];exact f.p2<|q e
   .grind
   .rw[D];show g.la.size<=400;rw[f.la];simp[fo,ByteArray.size]
   .rw[C];show g.text.size<=400;rw[f.text];simp[fo,ByteArray.size]
   rw[E];show g.cn<=_;rw[f.cn];omega
  rename_i j;rw[N j]at c;split
  .rename_i t;rw[G t]at c;have q:=atu s (a.H+1) c r;have b:=f.Ka k (a.U.length+1) j;exact h.add ⟨b.p1,b.p2,b.p3,b.tm,b.tl,λ_=>q.2.1,q.2.2,b.tx,b.gl,b.nu⟩ q.1 i (λe=>e)<|λl d=> .inl d
  exact h.add (f.Ka k _ j) ah i (λe=>e)<|λl d=> .inl d
 omega
theorem al5(p:s.size<=400)(m:∀a,Cv s a->(Qjj a).2=true->Cv s (Qjj a).1){a:cj}(o:Cv s a)(b:(iw Qjj s a).2=true):Cv s (iw Qjj s a).1:=by
 unfold iw at*
 simp only at*
 split
 .rename_i d;rw[G d]at b;have g:=aap s a.H a.bk d;have r:=Qzz s a.H a.bk;have c:∀f,(cq s a.H a.bk).1<=f->Cv s {a with H:=f,bk:=(cq s a.H a.bk).2.2.2.1}:=λf t=>o.more (bq r t) g.1
  have n:∀l,Cb (cq s a.H a.bk).2.2.2.1 {wd with fst:=(cq s a.H a.bk).2.1,snd:=(cq s a.H a.bk).2.2.1,neg:=l}:=λl=>⟨g.2.1,g.2.2,rfl,rfl,rfl,rfl,rfl,rfl⟩
  split
  .rename_i h;rw[G h]at b;have i:=Cd s dh<|(cq s a.H a.bk).1+1;split
   .grind
   rename_i j;rw[N j]at b;exact aji p m (c _ Q) (n true) b
  rename_i h;rw[N h]at b;split
  .split
   .have q:=Vf s 8<|(cq s a.H a.bk).1+1;have k:=c (eg s 8<|(cq s a.H a.bk).1+1) Q;refine⟨k.cm,λi q=> ?_,k.ln,k.ls⟩;rcases og.1 (show i∈a.bh++[_] from q)with e|e
    .exact o.lb i e
    have u:i=⟨s.extract ((cq s a.H a.bk).1+1)<|eg s 8<|(cq s a.H a.bk).1+1,(cq s a.H a.bk).1+1,a.U.length,false⟩:=qK e
    rw[u];exact ah
   exact c _ ah
  rename_i j;rw[N j]at b;exact aji p m (c _ ah) (n false) b
 grind
theorem ag9(g:s.size<=400)(e:∀b,Cv s b->(Qjj b).2=true->Cv s (Qjj b).1):∀(f:Nat)(b:cj),Cv s b->(rowL' Qjj s f b).2=true->Cv s (rowL' Qjj s f b).1
 |0,b,h,a=>h
 |f+1,b,h,a=>by
  unfold rowL' at*
  simp only at*
  have i:Cv s {b with H:=skip s fc b.H}:=h.more (Cd s _ _)<|λd=>d;split
  .exact i
  rename_i k;rw[N k]at a;split
  .rename_i c;rw[G c]at a;have j:=al5 g e i c;split
   .rename_i l;rw[G l]at a;exact ag9 g e f _ (j.more (Cd s _ _)<|λd=>d) a
   grind
  grind
end
def ahk{s:ag}(c:s.size<=400):∀(N:Nat)(b:cj),Cv s b->(Qqf s N b).2=true->Cv s (Qqf s N b).1
 |0,b,h,a=>h
 |N+1,b,h,a=>ag9 c (ahk c N) (s.size+1) b h a
theorem Kr{lg:Int}(c:List ft)(b:Nat)(g:∀l∈c,l.cmd<=b):∀(f:List ft)(d:Nat)(i a:List Cm),(∀j∈i,zb lg b j)->joinL c b f d i=.ok a->(∀j∈a,zb lg b j)/\a.length=i.length
 | [],d,i,a,h,e=>by
  unfold joinL at e;grind
 |l::f,d,i,a,h,e=>by
  unfold joinL at e;split at e
  .split at e
   .have:=Kr c b g f (d+1) _ a (Xx h ah) e;rw[Dj]at this;exact this
   exact Kr c b g f (d+1) _ a h e
  split at e
  .cases e
  rename_i k p;split at e
  .cases e
  split at e
  .have m:(c[k]?.map ft.cmd).getD 0<=b:=by
    cases n:c[k]? with
    |none=>simp
    |some o=>grind
   have:=Kr c b g f (d+1) _ a (Xx h m) e;rw[Dj]at this;exact this
  exact Kr c b g f (d+1) _ a h e
theorem agw(s:ag)(a:(jb s).2.1=0):(jb s).1.length<=1000/\∀(i:Nat)(c:Cm),(jb s).1[i]?=some c->ox (jb s).1.length c:=by
 unfold jb at*
 split
 .grind
 rename_i h;rw[N h]at a;split
 .grind
 rename_i e;rw[N e]at a;split
 .grind
 rename_i f;rw[N f]at a;have g:Cv s (hq s).1:=ahk (s:=s) Q 7 ⟨0,0,[],[],-1⟩ ⟨(λc d=>by cases d),(λp m=>by cases m),ah,ey _⟩ (by
  cases j:(hq s).2 with
  |true=>exact j
  |false=>exact cb j e)
 have l:(hq s).1.bk=-1:=by
  by_cases b:(hq s).1.bk=-1
  .exact b
  exact cb b f
 cases k:joinL (hq s).1.bh (hq s).1.U.length (hq s).1.bh 0 (hq s).1.U with
 |error o=>grind
 |ok n=>
  have:=Kr (lg:=-1) (hq s).1.bh (hq s).1.U.length g.lb _ _ _ n (λc d=>by rw[<-l];exact g.cm c d) k;have q:=g.ls;refine⟨qC,λi c d=> ?_⟩;have b:=this.1 c<|qy d;exact⟨b.p1 rfl,b.p2 rfl,b.p3 rfl,b.tm,b.tl,b.yy,b.ys,b.tx,by have:=b.gl;simp only;omega,b.nu⟩
end
