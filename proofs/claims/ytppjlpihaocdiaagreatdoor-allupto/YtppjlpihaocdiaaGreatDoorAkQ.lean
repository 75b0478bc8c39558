import Derived.Test.YtppjlpihaocdiaaGreatDoorAbQ
import Derived.Test.YtppjlpihaocdiaaGreatDoorAeQ
set_option linter.all false
set_option maxRecDepth 100000
set_option maxHeartbeats 16000000
namespace Go.Proofs.YtppjlpihaocdiaaGreatDoor
open Go.RowKit Go.Proofs.Tryz
variable{w u v:ae}{a b c d e:Nat}{s t:ag}{x y z:af}{p D:Int}{l:List af}{f:Bool}{g:List Nat}{h:Nat->Prop}{o:Option Addr}{r:List UInt8}{A:Nat->Bool}{B:Nat->Nat->Bool}{C:Nat->Nat->Prop}(i:Nat)(S T:ag)(V X:af)(j k m n:Nat)(Z:Int)(W:ae)
def dj(f:Nat->Bool):List af:=(List.range 82).map λk=>Value.bool<|f k
def ek(a:Nat->Bool):(dj a).length=82:=by simp[dj]
def qb(a:Nat->Bool){k:Nat}(b:k<82:=by omega):(dj a)[k]?=some (.bool<|a k):=by simp[dj,b]
def yd(f:Nat->Bool)(d:Nat)(e:Bool):(dj f).set d (.bool e)=dj λa=>if a=d then e else f a:=by
 apply yyy;intro a
 by_cases c:a<82
 .rw[qb _ c];by_cases b:a=d
  .subst b;rw[zv<|by rw[ek];exact c,G rfl]
  rw[xe<|λg=>b g.symm,qb _ c,N b]
 rw[je<|by rw[tj,ek];omega,je<|by rw[ek];omega]
def oh(c:Nat->Bool):∀b∈dj c,b.oneCell'=true:=by
 intro b a
 simp only[dj,yzg]at a;obtain⟨d,_,rfl⟩:=a;rfl
def Tt{b g:Nat->Bool}(d:∀a,a<82->b a=g a):dj b=dj g:=by
 unfold dj;apply yyz;intro a c
 rw[d a<|qK c]
def ld:(prog.info? 246).map (λa=>(a.zero,a.size))=some (some<|.agg (dj λ_=>false).toArray,(dj λ_=>false).length):=qF
def gh(a:Nat->Bool):(prog.info? 246).map (·.size)=some (dj a).length:=by
 rw[ek];kernel_rfl
def Oj(o:i<=81:=by omega):
  Calls prog 216 #[.int .i64 i] W λf m=>f=.returned (.agg (dj λa=>decide (a=i)).toArray)/\Below W.heap.size W m:=by
 have q:(0:Int)<=i:=Q
 have r:(i:Int)<82:=Q
 go_in;go_wp2_with (first
  |(refine gm 2 rfl rfl 246 rfl _ ld ?_;intro s k d e)
  |(refine gm 3 rfl rfl 246 rfl _ ld ?_;intro p l b c;rw[k]at b c l;have t:=b.cell (qb _ (k:=i) Q);have n:=b.frozen (k:=i)<|by rw[ek];omega)
  |(refine ir 6 rfl rfl 246 (.tmp 3) rfl _ rfl _ _ (b.put i (by rw[ek];omega) _) underlying246 rfl (by rw[yd];exact gh _) ?_)
  |(refine hw rfl 246 (.tmp 2) (.tmp 6) rfl _ rfl _ rfl _ ((d.below c Q).bj xxs Q) (by rw[yd,ek,ek]) (by rw[yd];exact gh _) (by rw[yd];exact oh _) ?_;intro w3 h j))
 refine wb 2 246 results216 rfl _ rfl _ _ h underlying246 rfl (by rw[yd];exact gh _) ⟨?_,?_⟩
 .rw[yd];rw[Tt (g:=λa=>decide (a=i)) (λa _=>by by_cases g:a=i<;>simp[g])]
 have g:=e.trans (c.mono Q);exact Below.bj (g.setCell (yyk _) _) j ah
def as3(c g:Nat->Bool)(b:Nat):(dj λa=>if a<b then c a||g a else c a).set b (.bool (c b||g b))=dj λa=>if a<b+1 then c a||g a else c a:=by
 rw[yd];apply Tt;intro a _
 by_cases d:a=b
 .subst d;simp
 by_cases e:a<b
 .simp[d,e,show a<b+1 from Q]
 simp[d,e,show ¬a<b+1 from Q]
def Ks(c g:Nat->Bool)(d:ae):
  Calls prog 236 #[.agg (dj c).toArray,.agg (dj g).toArray] d λx A=>x=.returned (.agg (dj λa=>c a||g a).toArray)/\Below d.heap.size d A:=by
 go_in;go_wp2_with (first
  |(refine ti 2 rfl rfl 246 (.tmp 0) rfl _ rfl ?_;intro B t y z)
  |(refine ti 3 rfl rfl 246 (.tmp 1) rfl _ rfl ?_;intro C o q j;rw[t]at q j o)
  |(refine gm 4 rfl rfl 246 rfl _ ld ?_;intro w3 v r f;rw[o]at r f v))
 go_loopw [5] (λl wr=>∃a:Nat,a<=82/\l=I a/\bd wr d.heap.size (dj λb=>if b<a then c b||g b else c b)/\bd wr (d.heap.size+1) (dj g)/\bd wr (d.heap.size+1+1) (dj λ_=>false)/\Below d.heap.size d wr) (λl _=>82-(intOf l).toNat)
 case atStart=>
  refine⟨0,Q,rfl,?_,?_,r,?_⟩
  .have:=(y.below j Q).below f Q;simpa using this
  .exact q.below f Q
  exact(z.trans<|j.mono Q).trans<|f.mono Q
 obtain⟨a,D,rfl,h,k,m,n⟩:=hrel;by_cases e:a<82
 .have p:=h.cell<|qb _ e;have E:=h.frozen (k:=a) (by rw[ek];exact e);have F:=k.cell<|qb _ e;rw[N<|Nat.lt_irrefl a]at p;have H:(0:Int)<=a:=Q
  have K:(a:Int)<82:=Q
  have s:Y (∀i,i=(c a||g a)->bd (wr.setCell (O d.heap.size a)<|.bool i) d.heap.size (dj λb=>if b<a+1 then c b||g b else c b)):=by
   intro i w
   subst w;have:=h.put a (by rw[ek];exact e)<|.bool (c a||g a);rw[as3]at this;exact this
  rcases df (c a)with u|u
  all_goals
   rw[u]at p;have w:=J u;clear u;go_wp21;go_roundw
   case rel=>exact⟨a+1,Q,qJ,s _<|by rw[w.out];simp,k.bj xxs Q,m.bj xxs Q,n.setCell ah _⟩
   simp[intOf];omega
 have w:a=82:=Q
 subst w;clear k;have i:Y (bd wr d.heap.size (dj λb=>c b||g b)):=by
  have:=h;rw[Tt (g:=λb=>c b||g b)<|λb p=>by simp[p]]at this;exact this
 go_wp2_with (first
  |(refine ir 20 rfl rfl 246 (.tmp 2) rfl _ rfl _ _ i underlying246 rfl (gh _) ?_)
  |(refine hw rfl 246 (.tmp 4) (.tmp 20) rfl _ rfl _ rfl _ m (by rw[ek,ek]) (gh _) (oh _) ?_;intro w4 p s))
 exact wb 4 246 results236 rfl _ rfl _ _ p underlying246 rfl (gh _) ⟨rfl,Below.bj n s Q⟩
def dk(d:Nd)(sv:af):List af:=I d.R::((List.range 256).map (λk=>Value.bool<|d.set k)++[sv, I d.num, I d.lo, I d.hi])
def gy(a:Nd)(sv:af):(dk a sv).length=261:=by simp[dk]
structure Co(w:ae)(N0 tb nb:Nat)(bc:List Nd)(eu root:Nat):Prop where
 c0:∃cap,w.cell? (O tb 0)=some (aa nb bc.length cap)
 c1:w.cell? (O tb 1)=some (I eu)
 c2:w.cell? (O tb 2)=some (I root)
 xm:tb<N0
 Ao:nb<N0
 node:∀(n:Nat)(d:Nd),bc[n]?=some d->∃ao c,w.rangeAt nb (n*261) (dk d<|.slice ao d.ba.length c)/\∀(q x:Nat),d.ba[q]?=some x->∃sb,ao=some (O sb 0)/\sb<N0/\w.cell? (O sb q)=some (I x)
 Vp:root<bc.length
 ko:bc.length<=1000
theorem Co.below{j:List Nd}(f:Co w a b c j d e)(E:Below a w u):Co u a b c j d e:=by
 have h:∀g i,g<a->u.cell? (O g i)=w.cell? (O g i):=λg i F=>E.cell (p:=O g i) F
 let⟨y,l⟩:=f.c0;refine⟨⟨y,(h _ _ f.xm).trans l⟩,(h _ _ f.xm).trans f.c1,(h _ _ f.xm).trans f.c2,f.xm,f.Ao,λz t hd=> ?_,f.Vp,f.ko⟩;let⟨m,s,n,o⟩:=f.node z t hd;refine⟨m,s,λx C p=>(h _ _ f.Ao).trans<|n x C p,λA D q=> ?_⟩;grind
structure Fp where
 N0:Nat
 tb:Nat
 nb:Nat
 fb:Nat
 kb:Nat
 eb:Nat
 eu:Nat
 root:Nat
 bc:List Nd
 s:ag
structure aj9(w:ae)(p:Fp):Prop where
 kn:∃kn:Nat->Bool,∃en:Nat->Nat->Bool,
  (∀q,q<p.bc.length*82->w.cell? (O p.kb q)=some (.bool<|kn q)/\w.frozen? (O p.kb q)=false)/\
  (∀q,q<p.bc.length*82->w.rangeAt p.eb (q*82) (dj<|en q)/\w.there p.eb (q*82) 82)/\
  (∀n i,n<p.bc.length->i<=p.s.size->kn (82*n+i)=true->∀j,j<82->(en (82*n+i) j=true↔bi p.s p.bc n i j))
structure et(w:ae)(p:Fp):Prop where
 c0:w.cell? (O p.fb 0)=some (ab p.tb 0)
 c1:w.cell? (O p.fb 1)=some (.string p.s)
 c2:w.cell? (O p.fb 2)=some (aa p.kb (p.bc.length*82)<|p.bc.length*82)
 c3:w.cell? (O p.fb 3)=some (aa p.eb (p.bc.length*82)<|p.bc.length*82)
 tree:Co w p.N0 p.tb p.nb p.bc p.eu p.root
 De:aj9 w p
 nf:p.N0<=p.fb
 nk:p.N0<=p.kb
 ne:p.N0<=p.eb
 fk:p.fb≠p.kb
 fe:p.fb≠p.eb
 ke:p.kb≠p.eb
 kl:p.kb<w.heap.size
 el:p.eb<w.heap.size
 js:p.s.size<=80
 wf:Wf p.bc
structure Fm(p:Fp)(w w':ae):Prop where
 os:w'.os=w.os
 tape:w'.tape=w.tape
 output:w'.output=w.output
 size:w.heap.size<=w'.heap.size
 block:∀k,k<w.heap.size->k≠p.kb->k≠p.eb->w'.heap[k]?=w.heap[k]?
def Fm.refl(b:Fp)(a:ae):Fm b a a:=⟨rfl,rfl,rfl,ah,λ_ _ _ _=>rfl⟩
def Fm.trans{c:Fp}{h i j:ae}(a:Fm c h i)(b:Fm c i j):Fm c h j:=
 ⟨b.os.trans a.os,b.tape.trans a.tape,b.output.trans a.output,bq a.size b.size,λg d e f=>(b.block g (ew d a.size) e f).trans<|a.block g d e f⟩
def Below.fm{d:Fp}(a:Below w.heap.size w u):Fm d w u:=⟨a.os,a.tape,a.output,a.size,λc b _ _=>a.block c b⟩
def Fm.bj{f:Fp}{d g w':ae}(c:Fm f d g)(b:bf a g w')(k:d.heap.size<=a:=by omega):Fm f d w':=
 ⟨b.os.trans c.os,b.tape.trans c.tape,b.output.trans c.output,by rw[b.size];exact c.size,λe h i j=>(b.block e Q).trans<|c.block e h i j⟩
def bd.fm{b:Fp}(g:bd w a l)(c:Fm b w u)(d:a<w.heap.size:=by omega)(e:a≠b.kb:=by omega)(f:a≠b.eb:=by omega):bd u a l:=g.cw<|c.block a d e f
def et.lt{a:Fp}(b:et w a):a.fb<w.heap.size:=dw w _ b.c0
theorem et.grow{o:Fp}(a:et w o)(f:Below w.heap.size w u):et u o:=by
 have d:=a.lt;have j:=a.kl;have i:=a.el;have e:∀b c,b<w.heap.size->u.cell? (O b c)=w.cell? (O b c):=λb c d=>f.cell (p:=O b c) d
 have l:∀b c,b<w.heap.size->u.frozen? (O b c)=w.frozen? (O b c):=λb c d=>f.frozen (p:=O b c) d
 have x:=a.nf;obtain⟨p,q,m,n,r⟩:=a.De.kn;refine⟨(e _ _ d).trans a.c0,(e _ _ d).trans a.c1,(e _ _ d).trans a.c2,(e _ _ d).trans a.c3,a.tree.below<|f.mono Q,⟨p,q,?_,?_,r⟩,a.nf,a.nk,a.ne,a.fk,a.fe,a.ke,ew j f.size,ew i f.size,a.js,a.wf⟩
 .grind
 intro h g
 refine⟨λk v s=>(e _ _ i).trans<|(n h g).1 k v s,λk t=> ?_⟩;rw[e _ _ i,l _ _ i];exact(n h g).2 k t
theorem et.bj{h w':ae}{g:Fp}(b:et h g)(e:bf a h w')(z:g.N0<=a:=by omega)(k:a≠g.fb:=by omega)(o:a≠g.kb:=by omega)(l:a≠g.eb:=by omega):et w' g:=by
 have f:∀c d,c≠a->w'.cell? (O c d)=h.cell? (O c d):=λc d m=>ac d<|e.block c m
 have p:∀c d,c≠a->w'.frozen? (O c d)=h.frozen? (O c d):=λc d m=>ad d<|e.block c m
 let⟨t,u,q,r,v⟩:=b.De.kn;have x:Below g.N0 h w':=⟨e.os,e.tape,e.output,by rw[e.size];exact ah,λd A=>e.block d Q⟩;refine⟨(f _ _ k.symm).trans b.c0,(f _ _ k.symm).trans b.c1,(f _ _ k.symm).trans b.c2,(f _ _ k.symm).trans b.c3,b.tree.below x,⟨t,u,?_,?_,v⟩,b.nf,b.nk,b.ne,b.fk,b.fe,b.ke,by rw[e.size];exact b.kl,by rw[e.size];exact b.el,b.js,b.wf⟩
 .grind
 intro j i
 refine⟨λn w y=>(f _ _ l.symm).trans<|(r j i).1 n w y,λn s=> ?_⟩;rw[f _ _ l.symm,p _ _ l.symm];exact(r j i).2 n s
def io(f:Nat->Bool)(P:Nat->Prop):Prop:=∀j,j<82->(f j=true↔P j)
def vx(p:Fp)(n:Nat):Prop:=∀(w:ae)(i:Nat),et w p->i<=p.s.size->
  Calls prog 185 #[.pointer<|some ⟨p.fb,0,none⟩,.int .i64 n,.int .i64 i] w λe w'=>∃f,e=.returned (.agg (dj f).toArray)/\io f (bi p.s p.bc n i)/\et w' p/\Fm p w w'
theorem Sv(e:Fp)(u:Nat)(hF:vx e u)(r:Nat->Bool)(F:Bool)(k:ae)(t:et k e)(b4:u<e.bc.length):
  Calls prog 237 #[.pointer<|some ⟨e.fb,0,none⟩,.int .i64 u,.agg (dj r).toArray,.bool F] k λg aB=>∃j,g=.returned (.agg (dj j).toArray)/\
   io j (λc=>∃a,a<=e.s.size/\r a=true/\bi e.s e.bc u a c/\(F=true->a≠c))/\et aB e/\Fm e k aB:=by
 have aC:=J hF;have aQ:=t.js;have aW:=t.lt;have aX:=t.kl;have aY:=t.el;have aZ:=t.nf;clear hF;go_in;go_wp2_with (first
  |(refine ti 6 rfl rfl 246 (.tmp 2) rfl _ rfl ?_;intro b7 aL aD aE)
  |(refine gm 8 rfl rfl 246 rfl _ ld ?_;intro b8 aA a4 M;rw[aL]at a4 M aA)
  |(refine gm 9 rfl rfl 246 rfl _ ld ?_;intro w3 aM a5 B;rw[aA]at a5 B aM))
 go_loopw [10] (λZ wr=>∃(b:Nat)(j:Nat->Bool),b<=e.s.size+1/\Z=I b/\io j (λc=>∃a,a<b/\r a=true/\bi e.s e.bc u a c/\(F=true->a≠c))/\
   bd wr k.heap.size (dj r)/\bd wr (k.heap.size+1) (dj λ_=>false)/\bd wr (k.heap.size+1+1) (dj j)/\et wr e/\Fm e k wr) (λZ _=>e.s.size+1-(intOf Z).toNat)
 case atStart=>
  have f:=(aE.trans<|M.mono Q).trans (B.mono Q);refine⟨0,λ_=>false,Q,rfl,λc _=>⟨(λn=>cb n qD),(λ⟨a,n,_⟩=>cb n Q)⟩,(aD.below M Q).below B Q,a4.below B Q,a5,t.grow f,Below.fm f⟩
 obtain⟨b,j,b3,rfl,f,V,X,E,C,D⟩:=hrel;have A:=J f;have aG:=E.lt (by rw[ek];omega);have b2:=C.c1;clear f;by_cases aH:b<=e.s.size
 .have R:=V.cell (qb r (k:=b) Q);have b5:(0:Int)<=b:=Q
  have b6:(b:Int)<82:=Q
  rcases df (r b)with T|T
  .rw[T]at R;have z:=J T;clear T;go_wp21;go_call aC _ b C aH as g w4 ⟨S,rfl,w,a2,d⟩;have a6:=J w;have a3:=D.trans d;have aR:=d.size;have aS:=D.size;have y:=E.fm d aG Q Q;have a7:=X.fm d Q Q Q;have a8:=V.fm d Q Q Q;clear w d R;have aT:w4.heap.size≠k.heap.size+1+1:=Q
   have aU:w4.heap.size≠k.heap.size+1:=Q
   have aV:w4.heap.size≠k.heap.size:=Q
   cases F
   .go_wp2_with (first
     |(refine gm 11 rfl rfl 246 rfl _ ld ?_;intro aN U a1 h)
     |(refine hw rfl 246 (.tmp 11) (.tmp 27) rfl _ rfl _ rfl _ a1 (by rw[ek,ek]) (gh _) (oh _) ?_;intro a0 v i)
     |(refine ir 31 rfl rfl 246 (.tmp 9) rfl _ rfl _ _ ((y.below h Q).bj i Q) underlying246 rfl (gh _) ?_)
     |(refine ir 32 rfl rfl 246 (.tmp 11) rfl _ rfl _ _ v underlying246 rfl (gh _) ?_))
    go_call Ks j S _ as g W ⟨rfl,s⟩;have aF:a0.heap.size=w4.heap.size+1:=by rw[i.size,U]
    have P:=((y.below h Q).bj i Q).below s Q;go_wp2_with (first
     |(refine hw rfl 246 (.tmp 9) (.tmp 33) rfl _ rfl _ rfl _ P (by rw[ek,ek]) (gh _) (oh _) ?_;intro aO K l))
    go_roundw
    case rel=>
     have L:=((a3.trans<|Below.fm h).bj i Q).trans<|Below.fm s;have H:=((a2.grow h).bj i Q Q Q Q).grow s;refine⟨b+1,_,Q,qJ,λc m=> ?_,?_,?_,K,H.bj l Q Q Q Q,L.bj l Q⟩
     .simp only[uz];rw[A.out c m,a6.out c m];constructor
      .rintro(⟨a,p,f⟩|x)
       .grind
       exact⟨b,Q,z,x,λn=>by cases n⟩
      grind
     .exact(((a8.below h Q).bj i Q).below s Q).bj l Q
     exact(((a7.below h Q).bj i Q).below s Q).bj l Q
    simp[intOf];omega
   go_wp2_with (first
    |(refine gm 11 rfl rfl 246 rfl _ ld ?_;intro aN U a1 h)
    |(refine hw rfl 246 (.tmp 11) (.tmp 27) rfl _ rfl _ rfl _ a1 (by rw[ek,ek]) (gh _) (oh _) ?_;intro a0 v i;have b0:=v.cell (qb S (k:=b) Q);have b1:=v.frozen (k:=b)<|by rw[ek];omega)
    |(refine ir 31 rfl rfl 246 (.tmp 9) rfl _ rfl _ _ (((y.below h Q).bj i Q).bj ((bf.refl _ _).setCell b<|.bool false) Q) underlying246 rfl (gh _) ?_)
    |(refine ir 32 rfl rfl 246 (.tmp 11) rfl _ rfl _ _ (v.put b (by rw[ek];omega)<|.bool false) underlying246 rfl (by rw[yd];exact gh _) ?_))
   rw[yd];generalize o:(λc=>if c=b then false else S c)=a9;have aI:=J o.symm;clear o;go_call Ks j a9 _ as g W ⟨rfl,s⟩;have o:=i.setCell b<|.bool false;generalize a0.setCell (O w4.heap.size b) (.bool false)=aP at s o;have aF:aP.heap.size=w4.heap.size+1:=by rw[o.size,U]
   have P:=((y.below h Q).bj o Q).below s Q;go_wp2_with (first
    |(refine hw rfl 246 (.tmp 9) (.tmp 33) rfl _ rfl _ rfl _ P (by rw[ek,ek]) (gh _) (oh _) ?_;intro aO K l))
   go_roundw
   case rel=>
    have L:=((a3.trans<|Below.fm h).bj o Q).trans<|Below.fm s;have H:=((a2.grow h).bj o Q Q Q Q).grow s;refine⟨b+1,_,Q,qJ,λc m=> ?_,?_,?_,K,H.bj l Q Q Q Q,L.bj l Q⟩
    .have aJ:a9 c=true↔(b≠c/\bi e.s e.bc u b c):=by
      rw[aI.out];simp only;by_cases g:c=b
      .subst g;simp
      rw[N g,a6.out c m];exact⟨λn=>⟨λaK=>g aK.symm,n⟩,λn=>n.2⟩
     simp only[uz];rw[A.out c m,aJ];constructor
     .rintro(⟨a,p,f⟩|x)
      .grind
      exact⟨b,Q,z,x.2,λ_=>x.1⟩
     grind
    .exact(((a8.below h Q).bj o Q).below s Q).bj l Q
    exact(((a7.below h Q).bj o Q).below s Q).bj l Q
   simp[intOf];omega
  rw[T]at R;have z:=J T;clear T;go_wp21;go_roundw
  case rel=>exact⟨b+1,j,Q,qJ,λc m=>by
    rw[A.out c m];constructor
    .grind
    rintro⟨a,p,f,q⟩;have:a≠b:=λg=>by rw[g,z.out]at f;cases f
    grind,V,X,E,C,D⟩
  simp[intOf];omega
 have h:b=e.s.size+1:=Q
 go_wp2_with (first
  |(refine ir 34 rfl rfl 246 (.tmp 9) rfl _ rfl _ _ E underlying246 rfl (gh _) ?_)
  |(refine hw rfl 246 (.tmp 8) (.tmp 34) rfl _ rfl _ rfl _ X (by rw[ek,ek]) (gh _) (oh _) ?_;intro w4 i w))
 exact wb 8 246 results237 rfl _ rfl _ _ i underlying246 rfl (gh _) ⟨j,rfl,λc m=>by
   rw[A.out c m,h];grind,C.bj w Q Q Q Q,D.bj w Q⟩
section
def Pn(a:Nd)(sv:af):(dk a sv)[0]?=some (I a.R):=rfl
def La(b:Nd)(sv:af){k:Nat}(a:k<256:=by omega):(dk b sv)[k+1]?=some (.bool<|b.set k):=by
 simp only[dk,yzb];rw[oq<|by simp;exact a];simp[a]
def wl(a:Nd)(sv:af)(b:Nat):(dk a sv)[257+b]?=[sv, I a.num, I a.lo, I a.hi][b]? :=by
 rw[show 257+b=(256+b)+1 from Q];simp only[dk,yzb];rw[sn qD];simp
def vl(e:Nd)(c:Option Addr)(f d:Nat):∀b∈dk e (.slice c f d),b.oneCell'=true:=by
 intro b a
 simp only[dk,vc,og,yzg,za,or_false]at a;obtain rfl|⟨g,_,rfl⟩|rfl|rfl|rfl|rfl:=a<;>rfl
def Zv(v:af):Sem af:=Instr.loadAt 246 v
def Rz(v u:af):Sem Unit:=Instr.storeAt 246 v u
def Ba:Instr.loadAt 246 V=Zv V:=rfl
def ze:Instr.storeAt 246 V X=Rz V X:=rfl
def Aq{f:Nat->Bool}(b:bd w a (dj f)):(Zv<|ab a 0).run prog w=.ok (.agg (dj f).toArray) w:=
 run_loadAt_mid (P:=prog) w a 0 246 (dj f) _ b.km underlying246 rfl (gh _)
def Bz(d:bd w a (dj A))(b:Nat->Bool):∃c,(Rz (ab a 0)<|.agg (dj b).toArray).run prog w=.ok () c/\bd c a (dj b)/\bf a w c:=by
 have e:w.there a 0 (dj b).toArray.size:=by
  have:=d.free;rw[ek]at this;simpa[ek]using this
 refine⟨w.setCells a 0<|dj b,?_,d.store _<|by rw[ek,ek],bf.setCells a _ 0 w⟩;have:=run_storeAt_mid (P:=prog) w a 0 246 (dj b).toArray e (by simpa using gh b)<|all_oneCell_toArray<|oh b;rw[<-ze];simpa using this
def Ad(w:ae)(N0:Nat)(d:Nd)(ao:Option Addr):Prop:=∀(q x:Nat),d.ba[q]?=some x->∃sb,ao=some (O sb 0)/\sb<N0/\w.cell? (O sb q)=some (I x)
def Ad.below{c:Nd}(i:Ad w a c o)(h:Below a w u):Ad u a c o:=by
 intro e k j
 let⟨b,g,d,f⟩:=i e k j;exact⟨b,g,d,(h.cell (p:=O b e) d).trans f⟩
def Fm.below{a:Fp}(b:Fm a w u)(e:a.N0<=a.kb:=by omega)(f:a.N0<=a.eb:=by omega)(g:a.N0<=w.heap.size:=by omega):Below a.N0 w u:=
 ⟨b.os,b.tape,b.output,b.size,λc d=>b.block c Q Q Q⟩
def Yq{a k0 d:Nat}(b:g[a]?=some d)(e:k0<=a):(g.take<|a+1).drop k0=(g.take a).drop k0++[d]:=by
 have c:a<g.length:=by
  obtain h|h:=hb a g.length
  .exact h
  rw[je h]at b;cases b
 rw[yyu c,List.drop_append_of_le_length qB];rw[dy c]at b;cases b
 rfl
attribute [local go_sem↓] Ba ze Go.wp_at_zero Go.wp_at_succ
def Qe(b:Fp)(c:Nd)(C:Option Addr)(T:Nat)(a0:∀e∈c.ba,e<b.bc.length/\vx b e)(l:Nat->Bool)(k:Nat)(i:ae)(j:et i b)(qa:Ad i b.N0 c C)(b0:c.ba.length<=1000)(W:∀f,l f=true->f<=b.s.size):
  Calls prog 215 #[.pointer<|some ⟨b.fb,0,none⟩,.agg (dk c<|.slice C c.ba.length T).toArray,.agg (dj l).toArray,.int .i64 k] i λv X=>∃g,v=.returned (.agg (dj g).toArray)/\
   io g (λh=>∃f,l f=true/\ku ((c.ba.drop k).map λe=>bi b.s b.bc e) f h)/\et X b/\Fm b i X:=by
 have a5:=J qa;have HSub:=J a0;have a6:=J W;have aP:=j.js;have aR:=j.lt;have aS:=j.kl;have aT:=j.el;have aU:=j.nf;have a7:=j.nk;have a8:=j.ne;clear qa a0 W;go_in;go_wp2_with (first
  |(refine ti 5 rfl rfl 271 (.tmp 1) rfl _ rfl ?_;intro b5 aK a2 a3)
  |(refine ti 6 rfl rfl 246 (.tmp 2) rfl _ rfl ?_;intro b6 V M x;rw[aK]at M x V)
  |(refine gm 8 rfl rfl 246 rfl _ ld ?_;intro w3 aL P r;rw[V]at P r aL))
 go_simp;go_loopw [3] (λK wr=>∃(d:Nat)(g:Nat->Bool),k<=d/\(d<=c.ba.length\/d=k)/\K=I d/\io g (λh=>∃f,l f=true/\ku (((c.ba.take d).drop k).map λe=>bi b.s b.bc e) f h)/\
   bd wr i.heap.size (dk c<|.slice C c.ba.length T)/\bd wr (i.heap.size+1) (dj g)/\bd wr (i.heap.size+1+1) (dj λ_=>false)/\et wr b/\Fm b i wr) (λK _=>c.ba.length-(intOf K).toNat)
 case atStart=>
  have m:=(a3.trans<|x.mono Q).trans (r.mono Q);refine⟨k,l,ah,.inr rfl,rfl,λh _=> ?_,(a2.below x Q).below r Q,M.below r Q,P,j.grow m,Below.fm m⟩;rw[yym<|by simp;(first|omega|(simp only[O,I]at *;omega))];constructor
  .intro q;exact⟨h,q,rfl⟩
  rintro⟨f,q,v⟩;cases v;exact q
 obtain⟨d,g,a9,aZ,rfl,D,z,m,A,s,o⟩:=hrel;have R:=o;have y:=J D;have aQ:=z.cell (k:=257)<|wl c _ 0;have aV:=A.lt (by rw[ek];(first|omega|(simp only[O,I]at *;omega)));by_cases aA:d<c.ba.length
 .have aW:=o.size;obtain⟨e,F⟩:∃e,c.ba[d]?=some e:=⟨c.ba[d],dy aA⟩;have aB:=qy F;obtain⟨b4,aC,aX,aY⟩:=(a5.below<|o.below a7 a8 Q) d e F;(try simp only[O]at aC);subst aC;have b1:(0:Int)<=d:=Q
  have b2:(d:Int)<c.ba.length:=Q
  have aD:=Aq (w:=wr.drew) (f:=g) ⟨m.km,m.free⟩;have n:Below wr.heap.size wr wr.drew:=(bp _ _).drew;have aE:=s.grow n;have aF:Y (bd wr.drew (i.heap.size+1)<|dj g):=⟨m.km,m.free⟩;have p:wr.drew.heap.size=wr.heap.size:=rfl;have w:=J p;have S:=J<|HSub e aB;clear n p;clear o D;go_wp21;go_region_with ((go_at_call 237;go_call Sv b e S.2 g false _ aE S.1 as v w4 ⟨U,rfl,p,B,a⟩;obtain⟨b7,aG,a4,t⟩:=Bz (aF.fm a (by rw[w.out];(first|omega|(simp only[O,I]at *;omega))) Q Q) U))
  all_goals
   have aH:=J p;have aI:=a.size;rw[w.out]at aI;clear p aG aD;go_wp21;go_roundw
   case rel=>
    have aJ:=((R.trans<|Below.fm<|(bp _ _).drew).trans a).bj t Q;refine⟨d+1,U,Q,.inl Q,qJ,λh E=> ?_,?_,a4,?_,B.bj t Q Q Q Q,aJ⟩
    .rw[aH.out h E,Yq F a9];rw[yys];constructor
     .rintro⟨f,a1,H,Z,_⟩;obtain⟨n,u,L⟩:=(y f Q).1 H;exact⟨n,u,ku.snoc L Z⟩
     rintro⟨n,u,L⟩;obtain⟨H,a1,aO⟩:=ku.Jf L;have aM:=(nj.chain (L:=b.s.size) (λb3 aN=>by
      obtain⟨Z,_,rfl⟩:=yzg.1 aN;exact vz b.s s.wf (Z+1) Z Q) n H (a6 n u) a1).2
     exact⟨H,aM,(y H Q).2 ⟨n,u,a1⟩,aO,(λq=>by cases q)⟩
    .exact((bd.cw z (w':=wr.drew) rfl).fm a (by rw[w.out];(first|omega|(simp only[O,I]at *;omega))) Q Q).bj t Q
    exact((bd.cw A (w':=wr.drew) rfl).fm a (by rw[w.out];(first|omega|(simp only[O,I]at *;omega))) Q Q).bj t Q
   simp[intOf];(first|omega|(simp only[O,I]at *;omega))
 have t:=s;clear z o D;go_wp2_with (first
  |(refine ir 24 rfl rfl 246 (.tmp 6) rfl _ rfl _ _ m underlying246 rfl (gh _) ?_)
  |(refine hw rfl 246 (.tmp 8) (.tmp 24) rfl _ rfl _ rfl _ A (by rw[ek,ek]) (gh _) (oh _) ?_;intro w4 n p))
 exact wb 8 246 results215 rfl _ rfl _ _ n underlying246 rfl (gh _) ⟨g,rfl,λh E=>by
   rw[y.out h E,Hh Q],s.bj p Q Q Q Q,R.bj p Q⟩
end
section
attribute [local go_sem↓] Ba ze Go.wp_at_zero Go.wp_at_succ
def aak(p:Fp)(n:Nat):Prop:=∀(w:ae)(i:Nat),et w p->i<=p.s.size->
  Calls prog 214 #[.pointer<|some ⟨p.fb,0,none⟩,.int .i64 n,.int .i64 i] w λe w'=>∃f,e=.returned (.agg (dj f).toArray)/\io f (bi p.s p.bc n i)/\et w' p/\Fm p w w'
def at8(e:w.there a b 82)(c:Nat->Bool):(Rz (ab a b)<|.agg (dj c).toArray).run prog w=.ok () (w.setCells a b<|dj c):=by
 have d:w.there a b (dj c).toArray.size:=by simpa[ek]using e
 have:=run_storeAt_mid (P:=prog) w a b 246 (dj c).toArray d (by simpa using gh c)<|all_oneCell_toArray<|oh c;rw[<-ze];simpa using this
def bd.am3(b:bd w a l):bd w.drew a l:=⟨b.km,b.free⟩
def et.there{b:Fp}(e:et w b)(c:a<b.bc.length*82):w.there b.eb (a*82) 82:=by
 let⟨f,g,h,d,i⟩:=e.De.kn;exact(d a c).2
def et.slot{b:Fp}(f:et w b)(c:a<b.bc.length*82:=by omega):∃d,w.cell? (O b.kb a)=some (.bool d)/\w.frozen? (O b.kb a)=false:=by
 let⟨g,h,e,i,j⟩:=f.De.kn;exact⟨_,e a c⟩
def et.keep{d:Fp}(c:et w d)(t:a<d.bc.length)(P:b<=d.s.size)(u:io A (bi d.s d.bc a b)):
  et (w.setCells d.eb ((82*a+b)*82)<|dj A) d/\(w.setCells d.eb ((82*a+b)*82)<|dj A).rangeAt d.eb ((82*a+b)*82) (dj A)/\bf d.eb w (w.setCells d.eb ((82*a+b)*82)<|dj A):=by
 have U:=c.js;have v:82*a+b<d.bc.length*82:=by
  have:a+1<=d.bc.length:=t;omega
 let⟨x,y,s,l,z⟩:=c.De.kn;have B:w.there d.eb ((82*a+b)*82) (dj A).length:=by rw[ek];exact(l _ v).2
 have g:=bf.setCells d.eb (dj A) ((82*a+b)*82) w;have C:Below d.N0 w (w.setCells d.eb ((82*a+b)*82)<|dj A):=⟨g.os,g.tape,g.output,by rw[g.size];exact ah,λf M=>g.block f (by have:=c.ne;omega)⟩;have j:∀e f,e≠d.eb->(w.setCells d.eb ((82*a+b)*82)<|dj A).cell? (O e f)=w.cell? (O e f):=λe f m=>ac f<|g.block e m
 have D:∀e f,e≠d.eb->(w.setCells d.eb ((82*a+b)*82)<|dj A).frozen? (O e f)=w.frozen? (O e f):=λe f m=>ad f<|g.block e m
 have q:=World.rangeAt_setCells_same w d.eb ((82*a+b)*82) (dj A) B;refine⟨⟨(j _ _ c.fe).trans c.c0,(j _ _ c.fe).trans c.c1,(j _ _ c.fe).trans c.c2,(j _ _ c.fe).trans c.c3,c.tree.below C,⟨x,λh=>if h=82*a+b then A else y h,?_,?_,?_⟩,c.nf,c.nk,c.ne,c.fk,c.fe,c.ke,by rw[g.size];exact c.kl,by rw[g.size];exact c.el,c.js,c.wf⟩,q,g⟩
 .intro h i
  exact⟨(j _ _ c.ke).trans (s h i).1,(D _ _ c.ke).trans (s h i).2⟩
 .intro h i
  refine⟨?_,World.there_setCells (l h i).2 _ _ _⟩;by_cases k:h=82*a+b
  .subst k;simp only[if_true];exact q
  simp only[k,yyv];refine World.rangeAt_setCells_apart (l h i).1 _ _ _<|.inr ?_;rw[ek,ek];omega
 intro n o H K L r p
 by_cases k:82*n+o=82*a+b
 .have E:n=a:=Q
  have F:o=b:=Q
  subst E F;simp only[if_true];exact u r p
 simp only[k,yyv];exact z n o H K L r p
def et.ap8{d:Fp}(c:et w d)(C:a<d.bc.length)(U:b<=d.s.size)(D:io A (bi d.s d.bc a b))(x:w.rangeAt d.eb ((82*a+b)*82) (dj A)):
  et (w.setCell (O d.kb<|82*a+b)<|.bool true) d/\(w.setCell (O d.kb<|82*a+b)<|.bool true).rangeAt d.eb ((82*a+b)*82) (dj A):=by
 have R:=c.js;have E:82*a+b<d.bc.length*82:=by
  have:a+1<=d.bc.length:=C;omega
 let⟨F,r,s,u,H⟩:=c.De.kn;have h:=(bf.refl d.kb w).setCell (82*a+b)<|.bool true;have K:Below d.N0 w (w.setCell (O d.kb<|82*a+b)<|.bool true):=⟨h.os,h.tape,h.output,by rw[h.size];exact ah,λg T=>h.block g (by have:=c.nk;omega)⟩;have l:∀f g,f≠d.kb->(w.setCell (O d.kb<|82*a+b)<|.bool true).cell? (O f g)=w.cell? (O f g):=λf g v=>ac g<|h.block f v
 have L:∀f g,f≠d.kb->(w.setCell (O d.kb<|82*a+b)<|.bool true).frozen? (O f g)=w.frozen? (O f g):=λf g v=>ad g<|h.block f v
 have n:d.eb≠d.kb:=λk=>c.ke k.symm
 --what lies in the table at this place is what A S
 have qa:∀e,e<82->r (82*a+b) e=A e:=λe j=>by
  have m:=(u _ E).1 e _<|qb (r<|82*a+b) j;have i:=x e _<|qb A j;rw[m]at i;injection i with i;injection i
 refine⟨⟨(l _ _ c.fk).trans c.c0,(l _ _ c.fk).trans c.c1,(l _ _ c.fk).trans c.c2,(l _ _ c.fk).trans c.c3,c.tree.below K,⟨λi=>if i=82*a+b then true else F i,r,?_,?_,?_⟩,c.nf,c.nk,c.ne,c.fk,c.fe,c.ke,by rw[h.size];exact c.kl,by rw[h.size];exact c.el,c.js,c.wf⟩,λe t o=>(l _ _ n).trans<|x e t o⟩
 .intro i m
  refine⟨?_,by rw[jf];exact(s i m).2⟩;by_cases k:i=82*a+b
  .subst k;simp only[if_true];exact qz (h:=(s _ m).1) ..
  simp only[k,yyv];rw[jm (h:=λp=>k<|by injection p with _ p _;exact p.symm)];exact(s i m).1
 .intro i m
  exact⟨λe t o=>(l _ _ n).trans<|(u i m).1 e t o,λe j=>by rw[l _ _ n,L _ _ n];exact(u i m).2 e j⟩
 intro p q z B y e j
 by_cases k:82*p+q=82*a+b
 .have M:p=a:=Q
  have P:q=b:=Q
  subst M P;rw[qa e j];exact D e j
 simp only[k,yyv]at y;exact H p q z B y e j
def aov(c:Fp)(a:Nat)(qa:aak c a)(k:a<c.bc.length):vx c a:=by
 intro s f g l
 have F:=g;have T:=J qa;have aD:=g.js;have q:=g.lt;have B:=g.kl;have W:=g.el;have aE:=g.nf;have aC:=g.tree.ko;have K:=g.c2;have m:82*a+f<c.bc.length*82:=by
  have:a+1<=c.bc.length:=k;omega
 let⟨R,t,h,i,j⟩:=g.De.kn;have aP:(0:Int)<=82*(a:Int)+f:=Q
 have aQ:82*(a:Int)+f<((c.bc.length*82:Nat):Int):=Q
 have aR:a<=1000:=Q
 have n:=(h _ m).1;have L:=g.c3;have X:=J<|(i _ m).1;have C:Y (R (82*a+f)=true->io (t<|82*a+f) (bi c.s c.bc a f)):=λa6 o a7=>j a f k l a6 o a7
 rcases df (R<|82*a+f)with d|d
 .rw[d]at n;have p:=J d;go_in;go_wp2_with (first
   |(refine gm 6 rfl rfl 246 rfl _ ld ?_;intro j P z g;have i:=g;have v:=(g.cell (p:=O c.fb 2) q).trans K;have M:=(g.cell (p:=O c.fb 3) q).trans L;have gk:=(g.cell (p:=(O c.kb<|82*a+f)) B).trans n;have r:Y (j.rangeAt c.eb ((82*a+f)*82)<|dj<|t<|82*a+f):=λo D A=>(g.cell (p:=(O c.eb<|(82*a+f)*82+o)) W).trans<|X o D A;clear g)
   |(refine wpList_load_mid rfl 246 (.tmp 41) rfl c.eb ((82*a+f)*82) rfl (dj<|t<|82*a+f) _ r underlying246 rfl (gh _) ?_)
   |(refine hw rfl 246 (.tmp 6) (.tmp 42) rfl _ rfl _ rfl _ z (by simp only[ek]) (gh _) (oh _) ?_;intro w x h))
  exact wb 6 246 results185 rfl _ rfl _ _ x underlying246 rfl (gh _) ⟨_,rfl,C p,(F.grow i).bj h,(Below.fm i).bj h ah⟩
 rw[d]at n;go_in;go_wp2_with (first
  |(refine gm 6 rfl rfl 246 rfl _ ld ?_;intro j P z g;have v:=(g.cell (p:=O c.fb 2) q).trans K;have M:=(g.cell (p:=O c.fb 3) q).trans L;have gk:=(g.cell (p:=(O c.kb<|82*a+f)) B).trans n))
 have Z:=(F.grow g).grow (bp _ _).drew;have S:Fm c s j.drew:=(Below.fm g).trans<|Below.fm (bp _ _).drew;have a0:=z.am3;have D:Y (j.drew.heap.size=s.heap.size+1):=P;go_region_with ((go_at_call 214;go_call T as e aB ⟨x,rfl,y,b,u⟩;have E:=J y;have a1:=b.c3;have a2:=at8 (b.there m) x;have i:=b.keep k l y;have H:Y _:=i;clear y b i))
 all_goals
  have i:=H;generalize aB.setCells c.eb ((82*a+f)*82) (dj x)=w at i;let⟨p,A,h⟩:=i;have U:=u.size;rw[D.out]at U;let⟨aL,aM,aN⟩:=p.slot m;have v:=p.c2;have r:=p.ap8 k l E A;have a3:=r.1;have a4:=J r.2;have aO:=r.1.c3;have a5:bd (w.setCell (O c.kb<|82*a+f)<|.bool true) s.heap.size (dj λ_=>false):=((a0.fm u (by rw[D.out];omega)).bj h).bj xxs;have V:Fm c s (w.setCell (O c.kb<|82*a+f)<|.bool true):=(S.trans u).trans ⟨h.os,h.tape,h.output,by simp[World.setCell];rw[h.size];exact ah,λa8 _ a9 aA=>by rw[er _ _ _ _ a9];exact h.block a8 aA⟩;go_wp2_with (first
   |(refine wpList_load_mid rfl 246 (.tmp 41) rfl c.eb ((82*a+f)*82) rfl (dj x) _ a4 underlying246 rfl (gh _) ?_)
   |(refine hw rfl 246 (.tmp 6) (.tmp 42) rfl _ rfl _ rfl _ a5 (by simp only[ek]) (gh _) (oh _) ?_;intro r p h))
  exact wb 6 246 results185 rfl _ rfl _ _ p underlying246 rfl (gh _) ⟨_,rfl,E,a3.bj h,V.bj h ah⟩
end
section
attribute [local go_sem↓] Ba ze Go.wp_at_zero Go.wp_at_succ
def aja(c:Fp)(a:Nd)(b0:Option Addr)(aN n:Nat)(Z:a.ba[0]?=some n)(aR:n<c.bc.length/\vx c n)(R:Nat->Bool)(p:Nat)(m:ae)(E:et m c)(aD:Ad m c.N0 a b0)(cM:a.ba.length<=1000)
  (c3:a.lo<=1000) (c4:-1<=a.hi/\a.hi<=1000) (c5:p<=1000) (bG:∀f,R f=true->f<=c.s.size):
  Calls prog 217 #[.pointer<|some ⟨c.fb,0,none⟩,.agg (dk a<|.slice b0 a.ba.length aN).toArray,.agg (dj R).toArray,.int .i64 p] m λu bI=>∃k,u=.returned (.agg (dj k).toArray)/\
   io k (un (bi c.s c.bc n) a.lo a.hi p<|λf=>R f=true)/\et bI c/\Fm c m bI:=by
 have c6:=J aD;have a5:=J aR;have aE:=J bG;have T:=J (vz c.s E.wf (n+1) n Q);have bX:=E.js;have c7:=E.lt;have c8:=E.kl;have c9:=E.el;have cA:=E.nf;have aY:=E.nk;have aZ:=E.ne;obtain⟨aA,bP,b1,a0⟩:=aD 0 n Z;subst bP;have b2:=J a0;have bY:(0:Int)<a.ba.length:=by
  have:0<a.ba.length:=by
   obtain h|h:=hb 0 a.ba.length
   .exact h
   rw[je h]at Z;cases Z
  omega
 have cC:=J Z;clear aD aR bG a0 Z;go_in;go_wp2_with (first
  |(refine ti 5 rfl rfl 271 (.tmp 1) rfl _ rfl ?_;intro cP bT bK bL)
  |(refine ti 6 rfl rfl 246 (.tmp 2) rfl _ rfl ?_;intro cR a2 aW aF;rw[bT]at aW aF a2)
  |(refine gm 8 rfl rfl 246 rfl _ ld ?_;intro w3 bU aX a8;rw[a2]at aX a8 bU))
 go_simp;go_loopw [3] (λP wr=>∃(i:Nat)(k:Nat->Bool),p<=i/\(i<=a.lo\/i=p)/\P=I i/\io k (λe=>∃f,R f=true/\Pow (bi c.s c.bc n) (i-p) f e)/\
   bd wr m.heap.size (dk a<|aa aA a.ba.length aN)/\bd wr (m.heap.size+1) (dj k)/\bd wr (m.heap.size+1+1) (dj λ_=>false)/\et wr c/\Fm c m wr) (λP _=>a.lo-(intOf P).toNat)
 case atStart=>
  have d:=(bL.trans<|aF.mono Q).trans (a8.mono Q);refine⟨p,R,ah,.inr rfl,rfl,λe _=> ?_,(bK.below aF Q).below a8 Q,aW.below a8 Q,aX,E.grow d,Below.fm d⟩;rw[xx];constructor
  .intro h;exact⟨e,h,rfl⟩
  rintro⟨f,h,u⟩;cases u;exact h
 obtain⟨i,k,bZ,cK,rfl,aO,v,l,K,L,y⟩:=hrel;have X:=J aO;have aS:=v.cell (k:=257)<|wl a _ 0;have bM:=v.cell (k:=259)<|wl a _ 2;have aB:=v.cell (k:=260)<|wl a _ 3;have bQ:=K.lt (by rw[ek];omega);have bR:=y.size;have a0:=((y.below aY aZ Q).cell (p:=O aA 0) b1).trans b2;by_cases cE:i<a.lo
 .have aG:=Aq (w:=wr.drew) (f:=k) ⟨l.km,l.free⟩;have aH:=L.grow (bp _ _).drew;have aI:Y (bd wr.drew (m.heap.size+1)<|dj k):=⟨l.km,l.free⟩;have C:Y (wr.drew.heap.size=wr.heap.size):=rfl;clear aO aB;go_wp21;go_region_with ((go_at_call 237;go_call Sv c n a5.2 k false _ aH a5.1 as u w4 ⟨f4,rfl,z,B,b⟩;obtain⟨bJ,D,H,j⟩:=Bz (aI.fm b (by rw[C.out];omega) Q Q) f4))
  all_goals
   have F:=J z;have aJ:=b.size;rw[C.out]at aJ;clear z D aG;go_wp21;go_roundw
   case rel=>
    have aK:=((y.trans<|Below.fm<|(bp _ _).drew).trans b).bj j Q;refine⟨i+1,f4,Q,.inl Q,qJ,λe r=> ?_,?_,H,?_,B.bj j Q Q Q Q,aK⟩
    .rw[F.out e r,show i+1-p=(i-p)+1 from Q];constructor
     .rintro⟨f,o,w,x,_⟩;obtain⟨g,s,t⟩:=(X f Q).1 w;exact⟨g,s,Pow.snoc t x⟩
     rintro⟨g,s,t⟩;obtain⟨d,a4,aQ⟩:=Pow.Jf t;have M:=(Pow.le T (aE g s) a4).2;exact⟨d,M,(X d Q).2 ⟨g,s,a4⟩,aQ,(λh=>by cases h)⟩
    .exact((bd.cw v (w':=wr.drew) rfl).fm b (by rw[C.out];omega) Q Q).bj j Q
    exact((bd.cw K (w':=wr.drew) rfl).fm b (by rw[C.out];omega) Q Q).bj j Q
   simp[intOf];omega
 have a6:i=max p a.lo:=Q
 have g:i-p=a.lo-p:=Q
 have b3:=J a6;have b4:=J g;have cF:i<=1000:=Q
 clear aO a6 g aS aB;go_wp2_with (first
  |(refine ir 24 rfl rfl 246 (.tmp 6) rfl _ rfl _ _ l underlying246 rfl (gh _) ?_)
  |(refine gm 9 rfl rfl 246 rfl _ ld ?_;intro w4 A S g)
  |(refine hw rfl 246 (.tmp 9) (.tmp 24) rfl _ rfl _ rfl _ S (by rw[ek,ek]) (gh _) (oh _) ?_;intro bJ H j))
 have b5:=(v.below g Q).bj j Q;have b6:=(l.below g Q).bj j Q;have b7:=(K.below g Q).bj j Q;have aT:=(L.grow g).bj j Q Q Q Q;have aU:=(y.trans<|Below.fm g).bj j Q;obtain⟨aC,q⟩:∃aC,wr.heap.size=aC:=⟨_,rfl⟩;rw[q]at H bQ bR|-;clear v l K L y S g j bM a0 A q;have b8:Y (∀d,k d=true->d<82->d<=c.s.size):=by
  intro d M g
  obtain⟨f,s,t⟩:=(X d g).1 M;exact(Pow.le T (aE f s) t).2
 go_loopw [10] (λP W=>∃(g:Nat)(V A:Nat->Bool),g<=c.s.size+1/\P=I g/\(g=0\/a.hi<0\/(i:Int)+g<=a.hi)/\io V (λe=>∃d,d<=c.s.size/\k d=true/\Pow (Full<|bi c.s c.bc n) g d e)/\io A (λe=>∃d q,d<=c.s.size/\k d=true/\q<=g/\Pow (Full<|bi c.s c.bc n) q d e)/\
   bd W m.heap.size (dk a<|aa aA a.ba.length aN)/\bd W (m.heap.size+1) (dj V)/\bd W (m.heap.size+1+1) (dj λ_=>false)/\bd W aC (dj A)/\et W c/\Fm c m W) (λP _=>c.s.size+1-(intOf P).toNat)
 case atStart=>
  refine⟨0,k,k,Q,rfl,.inl rfl,λe r=> ?_,λe r=> ?_,b5,b6,b7,H,aT,aU⟩
  .constructor
   .intro h;exact⟨e,b8 e h r,h,rfl⟩
   rintro⟨f,_,h,u⟩;cases u;exact h
  constructor
  .intro h;exact⟨e,0,b8 e h r,h,ah,rfl⟩
  rintro⟨f,q,_,h,qa,u⟩;obtain rfl:q=0:=Q
  cases u;exact h
 obtain⟨g,V,A,cN,rfl,aP,aL,aM,v,l,K,a9,L,y⟩:=hrel;clear b5 b6 b7 H aT aU;have b9:=J aL;have bA:=J aM;have bS:=J aP;have aS:=v.cell (k:=257)<|wl a _ 0;have aB:=v.cell (k:=260)<|wl a _ 3;have cG:=a9.lt (by rw[ek];omega);have c0:=y.size;have cJ:=L.c1;have a0:=((y.below aY aZ Q).cell (p:=O aA 0) b1).trans b2;by_cases a7:g<=c.s.size/\(a.hi<0\/(i:Int)+g<a.hi)
 .obtain⟨qa,bD⟩:=a7;have aG:=Aq (w:=wr.drew) (f:=V) ⟨l.km,l.free⟩;have aH:=L.grow (bp _ _).drew;have aI:Y (bd wr.drew (m.heap.size+1)<|dj V):=⟨l.km,l.free⟩;have C:Y (wr.drew.heap.size=wr.heap.size):=rfl;have bH:(g:Int)<=c.s.size:=Q
  have bE:Y (g<=c.s.size/\(a.hi<0\/(i:Int)+g<a.hi)):=⟨qa,bD⟩;clear l aL aM aP qa;by_cases c1:a.hi<0
  all_goals
   first
   |(have cH:(i:Int)+g<a.hi:=by omega)
   |skip
   clear bD;go_wp21;go_region_with ((go_at_call 237;go_call Sv c n a5.2 V true _ aH a5.1 as u w4 ⟨f4,rfl,z,B,b⟩;obtain⟨bJ,D,H,j⟩:=Bz (aI.fm b (by rw[C.out];omega) Q Q) f4))
   all_goals
    have F:=J z;have aJ:=b.size;rw[C.out]at aJ;have cI:=j.size;have bF:=((bd.cw a9 (w':=wr.drew) rfl).fm b (by rw[C.out];omega) Q Q).bj j Q;clear z D aG;have qa:=Aq bF;have a3:=Aq H;go_wp21;go_call Ks A f4 _ as u cS ⟨rfl,U⟩;obtain⟨cT,c2,bN,a1⟩:=Bz (bF.below U Q) (λe=>A e||f4 e);clear qa a3;go_wp21;go_roundw
    case rel=>
     have aK:=(((y.trans<|Below.fm<|(bp _ _).drew).trans b).bj j Q).trans<|Below.fm U;have bO:=(B.bj j Q Q Q Q).grow U;have aV:io f4 (λe=>∃d,d<=c.s.size/\k d=true/\Pow (Full<|bi c.s c.bc n) (g+1) d e):=by
      intro e r
      rw[F.out e r];constructor
      .rintro⟨f,o,w,x,a3⟩;obtain⟨d,qa,s,t⟩:=(b9 f Q).1 w;exact⟨d,qa,s,Pow.snoc t ⟨x,a3 trivial⟩⟩
      rintro⟨d,qa,s,t⟩;obtain⟨f,a4,aQ,bW⟩:=Pow.Jf t;have bV:=(Pow.le T.full qa a4).2;exact⟨f,bV,(b9 f Q).2 ⟨d,qa,s,a4⟩,aQ,λ_=>bW⟩
     have bV:=bE;refine⟨g+1,f4,_,Q,qJ,Q,aV,λe r=> ?_,?_,?_,?_,bN,bO.bj a1 Q Q Q Q,aK.bj a1 Q⟩
     .simp only[uz];rw[bA.out e r,aV e r];constructor
      .rintro(⟨d,q,qa,o,w,x⟩|⟨d,qa,o,w⟩)
       .exact⟨d,q,qa,o,Q,x⟩
       exact⟨d,g+1,qa,o,ah,w⟩
      rintro⟨d,q,qa,o,w,x⟩;by_cases u:q=g+1
      .subst u;exact .inr ⟨d,qa,o,x⟩
      exact .inl ⟨d,q,qa,o,Q,x⟩
     .exact((((bd.cw v (w':=wr.drew) rfl).fm b (by rw[C.out];omega) Q Q).bj j Q).below U Q).bj a1 Q
     .exact(H.below U Q).bj a1 Q
     exact((((bd.cw K (w':=wr.drew) rfl).fm b (by rw[C.out];omega) Q Q).bj j Q).below U Q).bj a1 Q
    simp[intOf];have:=bE.1;omega
 skip
 have U:Y (io A<|un (bi c.s c.bc n) a.lo a.hi p<|λf=>R f=true):=by
  intro e r
  rw[bA.out e r];unfold un;constructor
  .rintro⟨d,q,qa,o,w,x⟩;obtain⟨f,s,t⟩:=(X d Q).1 o;rw[b4.out]at t;have a6:=b3;exact⟨f,d,q,s,t,by have:=bS;omega,x⟩
  rintro⟨f,d,q,o,w,x,a3⟩;have M:=(Pow.le T (aE f o) w).2;have a1:=Pow.acy T M a3;have aV:=(Pow.le T.full M a3).2;have a6:=b3;refine⟨d,q,M,(X d Q).2 ⟨f,o,by rw[b4.out];exact w⟩,?_,a3⟩;have D:=a7;obtain h|h:=hb c.s.size g
  .omega
  have a2:¬(a.hi<0\/(i:Int)+g<a.hi):=λa2=>D ⟨h,a2⟩
  omega
 have D:=a7;clear v l aL aM aP a7;by_cases a1:g<=c.s.size
 .have bE:0<=a.hi:=by
   by_cases h:a.hi<0
   .exact cb ⟨a1,.inl h⟩ D
   exact Int.not_lt.1 h
  have bF:a.hi<=(i:Int)+g:=by
   by_cases h:(i:Int)+g<a.hi
   .exact cb ⟨a1,.inr h⟩ D
   exact Int.not_lt.1 h
  have bH:(g:Int)<=c.s.size:=Q
  have bN:decide (a.hi<0)=false:=qB
  have bO:decide ((i:Int)+g<a.hi)=false:=qB
  clear D;have aV:=Aq a9;obtain⟨w4,bD,S,z⟩:=Bz K A;have F:=J z;clear z;go_wp21;exact wb 8 246 results217 rfl _ rfl _ _ S underlying246 rfl (gh _) ⟨A,rfl,U,L.bj F Q Q Q Q,y.bj F Q⟩
 have bH:decide ((g:Int)<=c.s.size)=false:=qB
 have bE:decide (g<=c.s.size)=false:=qB
 clear D;have aV:=Aq a9;obtain⟨w4,bD,S,z⟩:=Bz K A;have F:=J z;clear z;go_wp21;exact wb 8 246 results217 rfl _ rfl _ _ S underlying246 rfl (gh _) ⟨A,rfl,U,L.bj F Q Q Q Q,y.bj F Q⟩
end
def hj(f:Nat->Bool):List af:=(List.range 256).map λk=>Value.bool<|f k
def gw(x:Sc)(pv lv bv:af):List af:=
 I x.ax:: I x.op:: I x.L.m:: I x.L.o:: I x.L.a:: I x.L.l:: I x.part:: I x.bm:: I x.zero:: I x.gf::
 .bool x.cn:: .bool x.all:: .bool x.print:: .bool x.uw::(hj x.row++[I x.rows,pv,lv,bv])
def dm(c:Sc)(a b bv:af):(gw c a b bv).length=274:=by simp[gw,hj]
def bd.xf{a:Sc}{p q r:af}(d:bd w b (gw a p q r))(k:Nat)(c:k<274:=by omega):w.frozen? (O b k)=false:=d.frozen (by rw[dm];exact c)
def ints(l:List Nat):List af:=l.map λn:Nat=>I n
def str(l:List Nat):ag:=⟨(l.map UInt8.ofNat).toArray⟩
def xb(l:List Qja):List af:=l.flatMap λq=>[Value.string<|str q.name,I q.H,.bool q.cn]
structure nw(w:ae)(b:Nat)(x:Sc)(pv lv bv:af):Prop where
 o1:w.ownsRow (b+1) 3 1 pv x.fp.length (ints x.fp)
 o2:w.ownsRow (b+1) 3 1 lv x.db.length (ints x.db)
 o3:w.ownsRow (b+1) 122 3 bv x.bu.length (xb x.bu)
 d12:∀k,pv.ownBlock=some k->lv.ownBlock≠some k
 d13:∀k,pv.ownBlock=some k->bv.ownBlock≠some k
 d23:∀k,lv.ownBlock=some k->bv.ownBlock≠some k
structure Sm(x:Sc):Prop where
 op:x.op<=5
 bm:x.bm<=1000
 zero:x.zero<=1
 gf:x.gf<=1
 rows:x.rows<=1000
 part:x.part<=2
 ax:x.ax<=21
 L:Small x.L
def ez(w:ae)(b:Nat)(x:Sc):Prop:=∃pv lv bv,bd w b (gw x pv lv bv)/\nw w b x pv lv bv
def Sd(b:Nat)(w:ae)(r:Option Sc)(e:Ending)(w':ae):Prop:=
 ∃q,e=.returned (.bool q)/\Below b w w'/\((∃x',r=some x'/\q=true/\ez w' b x')\/(r=none/\q=false))
def nw.bj{h w':ae}{l:Sc}{j k bv:af}(r:nw h a l j k bv)(t:bf a h w'):nw w' a l j k bv:=by
 let⟨u,v,x,y,z,A⟩:=r;have b:∀{e:TypeId} {c f:Nat} {g:af} {xs:List af},h.ownsRow (a+1) e c g f xs->w'.ownsRow (a+1) e c g f xs:=by
  intro e c f g xs B
  let⟨m,d⟩:=B;refine⟨m,?_⟩;obtain d|⟨i,q,s,n,o,p,w⟩:=d
  .exact .inl d
  exact .inr ⟨i,q,s,n,o,by rw[t.block i Q];exact p,w⟩
 exact⟨b u,b v,b x,y,z,A⟩
def ez.put{d b:Sc}{e c bv:af}(f:nw w a d e c bv)(g:bf a w u)(h:bd u a (gw b e c bv))(j:b.fp=d.fp:=by omega)(k:b.db=d.db:=by omega)(i:b.bu=d.bu:=by omega):ez u a b:=by
 let⟨l,m,n,o,p,q⟩:=f.bj g;exact⟨e,c,bv,h,by rw[j];exact l,by rw[k];exact m,by rw[i];exact n,o,p,q⟩
def bf.below(b:bf a w u):Below a w u:=⟨b.os,b.tape,b.output,by rw[b.size];exact ah,λc d=>b.block c Q⟩
def bd.head{x x':Sc}{b c bv:af}(h:bd w a (gw x b c bv))(d:Nat)(e:af)(f:d<274)(g:(gw x b c bv).set d e=gw x' b c bv):bd (w.setCell (O a d) e) a (gw x' b c bv):=by
 have:=h.put d (by rw[dm];exact f) e;rw[g]at this;exact this
def Sd.yes{b x':Sc}{c d bv:af}{f:Option Sc}(h:nw w a b c d bv)(e:bf a w u)(i:bd u a (gw x' c d bv))(g:f=some x')(j:x'.fp=b.fp:=by rfl)(k:x'.db=b.db:=by rfl)(l:x'.bu=b.bu:=by rfl):Sd a w f (.returned<|.bool true) u:=
 ⟨true,rfl,bf.below e,.inl ⟨x',g,rfl,ez.put h e i j k l⟩⟩
def Sd.no{b:Option Sc}(c:Below a w u)(d:b=none):Sd a w b (.returned<|.bool false) u:=⟨false,rfl,c,.inr ⟨d,rfl⟩⟩
def Lz(a:Sc)(b:Nat)(h:ae)(p:ez h i a)(l:Sm a)(z:b<256):
  Calls prog 83 #[.pointer<|some ⟨i,0,none⟩,.int .u8 b] h (Sd i h<|qk a b):=by
 let⟨A,B,bv,c,e⟩:=p;have q:=c.xc 0;have r:=c.xf 0;have s:=c.xc 1;have t:=c.xf 1;have u:=l.op;by_cases k:b=32
 .subst k;go_in;go_wp21;go_ret;exact Sd.yes (x':={a with ax:=7}) e xxs (bd.head c 0 _ Q rfl) rfl
 by_cases m:b=59
 .subst m;go_in;go_wp21;go_ret;exact Sd.yes (x':={a with ax:=0}) e xxs (bd.head c 0 _ Q rfl) rfl
 by_cases n:b=10
 .subst n;go_in;go_wp21;go_ret;exact Sd.yes (x':={a with ax:=0}) e xxs (bd.head c 0 _ Q rfl) rfl
 have x:((b:Int)==10)=false:=qB
 by_cases j:b=125
 .subst j;by_cases g:0<a.op
  .have o:decide ((0:Int)<a.op)=true:=qB
   have f:Y (((a.op:Int)-1)=((a.op-1:Nat):Int)):=J Q
   have d:Y (qk a 125=some {a with op:=a.op-1,ax:=7}):=by rw[qk,Y,N,N,G ⟨rfl,g⟩]
   go_in;go_wp21;go_ret;rw[d.out,f.out];exact Sd.yes (x':={a with op:=a.op-1,ax:=7}) e (xxs.setCell _ _) (bd.head (x:={a with op:=a.op-1}) (bd.head c 1 _ Q rfl) 0 _ Q rfl) rfl
  have y:decide (0<a.op)=false:=qB
  have d:Y (qk a 125=none):=by rw[qk,Y,N,N,N<|λf=>g f.2]
  go_in;go_wp21;go_ret;rw[d.out];exact Sd.no (bp _ _) rfl
 have g:((b:Int)==125)=false:=qB
 have d:Y (qk a b=none):=by rw[qk,Y,N k,N,N<|λf=>j f.1]
 go_in;go_wp21;go_ret;rw[d.out];exact Sd.no (bp _ _) rfl
def Xu(a:Sc)(b c bv:af):(gw a b c bv)[270]?=some (I a.rows):=by
 have d:(hj a.row++[I a.rows,b,c,bv])[256]?=some (I a.rows):=by
  rw[sn<|by simp[hj]];simp[hj]
 exact d
def aue(b:Sc)(c d bv:af)(a:Nat)(e:a<256):(gw b c d bv)[a+14]?=some (.bool<|b.row a):=by
 have f:(hj b.row++[I b.rows,c,d,bv])[a]?=some (.bool<|b.row a):=by
  rw[oq<|by simp[hj];omega];simp[hj,e]
 exact f
def bf.dn(b:bf a w u)(c:Nat):bf a w (u.drewN c):=⟨b.os,b.tape,b.output,b.size,b.block⟩
def bd.dn(b:bd w a l)(c:Nat):bd (w.drewN c) a l:=b.cw rfl
def adp(a:Sc)(b:Nat)(p:ae)(r:ez p i a)(n:Sm a)(D:b<256):
  Calls prog 89 #[.pointer<|some ⟨i,0,none⟩,.int .u8 b] p (Sd i p<|rj a b):=by
 have E:=J r;let⟨u,v,bv,g,j⟩:=r;have F:=g.xc 0;have H:=g.xf 0;have K:=g.xc 7;have L:=g.xf 7;have z:=g.cell (k:=270)<|Xu a u v bv;have A:=n.ax;have B:=n.bm;have C:=n.rows;have o:Y (((a.bm:Int)+1)=((a.bm+1:Nat):Int)):=J Q
 have s:(a.bm+1=a.rows/\((a.bm:Int)+1==(a.rows:Int))=true)\/(¬a.bm+1=a.rows/\((a.bm:Int)+1==(a.rows:Int))=false/\¬(a.bm:Int)+1=(a.rows:Int)):=qB
 by_cases h:a.ax=20
 .have x:(a.ax:Int)=20:=Q
  rcases df (bn Qqg b)with m|m
  have e:rj a b=some (As {a with ax:=19}):=by rw[rj,G h,G m]
  have l:=J (bd.head (x':={a with ax:=19,bm:=a.bm+1}) (bd.head (x':={a with ax:=19}) g 0 (I 19) Q rfl) 7 (I ((a.bm+1:Nat):Int)) Q rfl);obtain⟨d,q⟩|⟨d,q,w⟩:=s
  have c:Y (rj a b=some {a with bm:=a.bm+1,ax:=21}):=by rw[Y,e];rw[As,G d]
  rotate_left
  have c:Y (rj a b=some {a with ax:=19,bm:=a.bm+1}):=by rw[Y,e];rw[As,N d]
  rotate_left
  have c:Y (rj a b=none):=by rw[rj,Y,G h,N<|by rw[m];simp]
  all_goals
   have f:=J m;(try clear s);go_in;go_wp21;refine(sz Qqg b _ qG).mono ?_;rw[f.out];rintro t s ⟨rfl,rfl⟩;go_wp21;first|(have:=l;go_quiet (fail);go_wp21;go_ret;rw[c.out,o.out];first|exact Sd.yes (x':={a with ax:=19,bm:=a.bm+1}) j (bf.dn (xxs.setCell _ _) _) (bd.dn l _) rfl|exact Sd.yes (x':={a with bm:=a.bm+1,ax:=21}) j ((bf.dn (xxs.setCell _ _) _).setCell _ _) (bd.head (bd.dn l _) 0 _ Q rfl) rfl)|(go_ret;rw[c.out];exact Sd.no (bf.below xxs) rfl)
 have x:((a.ax:Int)==20)=false:=qB
 have f:rj a b=if b=92 then some {a with ax:=20} else if b=47\/b=10 then none else some (As a):=by rw[rj,N h]
 clear h;by_cases h:b=92
 .subst h;have c:Y (rj a 92=some {a with ax:=20}):=by rw[Y,f,G rfl]
  clear f s;go_in;go_wp21;go_ret;rw[c.out];exact Sd.yes (x':={a with ax:=20}) j xxs (bd.head g 0 _ Q rfl) rfl
 by_cases y:b=47\/b=10
 .have c:Y (rj a b=none):=by rw[Y,f,N h,G y]
  clear f s;obtain rfl|rfl:=y
  all_goals
   go_in;go_wp21;go_ret;rw[c.out];exact Sd.no (bp _ _) rfl
 have e:rj a b=some (As a):=by rw[f,N h,N y]
 obtain⟨M,P,U⟩:((b:Int)==92)=false/\((b:Int)==47)=false/\((b:Int)==10)=false:=qB
 have l:=J (bd.head (x':={a with bm:=a.bm+1}) g 7 (I ((a.bm+1:Nat):Int)) Q rfl);clear f h y;obtain⟨d,q⟩|⟨d,q,w⟩:=s
 have c:Y (rj a b=some {a with bm:=a.bm+1,ax:=21}):=by rw[Y,e];rw[As,G d]
 rotate_left
 have c:Y (rj a b=some {a with bm:=a.bm+1}):=by rw[Y,e];rw[As,N d]
 all_goals
  clear e d;go_in;go_wp21;go_quiet (fail);go_wp21;go_ret;rw[c.out,o.out];first|exact Sd.yes (x':={a with bm:=a.bm+1}) j (bf.dn xxs _) (bd.dn l _) rfl|exact Sd.yes (x':={a with bm:=a.bm+1,ax:=21}) j ((bf.dn xxs _).setCell _ _) (bd.head (bd.dn l _) 0 _ Q rfl) rfl
def Qzo{f:TypeId}{xs:List af}(k:w.ownsRow a f b x c xs)(l:∀e,x.ownBlock=some e->u.heap[e]?=w.heap[e]?):u.ownsRow a f b x c xs:=by
 let⟨m,d⟩:=k;refine⟨m,?_⟩;obtain d|⟨g,i,j,h,n,o,p⟩:=d
 .exact .inl d
 exact .inr ⟨g,i,j,h,n,by rw[l g<|by rw[h];rfl];exact o,p⟩
def It{j:Obj}{e:TypeId}{xs:List af}(f:w.ownsRow a e b x c xs)(h:(w.alloc j).grownBy u y.ownBlock)(hd:∀d,y.ownBlock=some d->x.ownBlock≠some d):u.ownsRow a e b x c xs:=
 Qzo f λd g=>by
  have i:=(f.lt d g).2;rw[h.block d qB<|λe=>hd d e.symm g,im _ _ _ i]
def Kq(b:List Nat)(a:Nat):ints (b++[a])=ints b++[I a]:=by simp[ints]
def nw.aqz{z:Obj}{f:Sc}{h l bv:af}(A:nw w a f h l bv)(v:u.ownsRow (a+1) 3 1 (aa c (f.fp.length+1) d) (f.fp.length+1) (ints f.fp++[I b]))
  (m:(w.alloc z).grownBy u h.ownBlock) (x:h.ownBlock=some c\/c=w.heap.size+1):nw u a {f with fp:=f.fp++[b]} (aa c (f.fp.length+1) d) l bv:=by
 let⟨D,n,p,q,r,B⟩:=A;have j:∀{i:af} {e:TypeId} {s o:Nat} {xs:List af},w.ownsRow (a+1) e s i o xs->(∀g,h.ownBlock=some g->i.ownBlock≠some g)->∀g,(aa c (f.fp.length+1) d).ownBlock=some g->i.ownBlock≠some g:=by
  intro i e s o xs C hd g t k
  have y:c=g:=by simpa[Value.ownBlock]using t
  subst y;obtain e|e:=x
  .exact hd c e k
  have:=(C.lt c k).2;omega
 exact⟨by simp only[ga,qx,Kq];exact v,It n m q,It p m r,j n q,j p r,B⟩
def nw.aq0{B:Obj}{g:Sc}{k h bv:af}(C:nw w a g k h bv)(y:u.ownsRow (a+1) 3 1 (aa c (g.db.length+1) d) (g.db.length+1) (ints g.db++[I b]))
  (p:(w.alloc B).grownBy u h.ownBlock) (z:h.ownBlock=some c\/c=w.heap.size+1):nw u a {g with db:=g.db++[b]} k (aa c (g.db.length+1) d) bv:=by
 let⟨q,D,r,v,x,s⟩:=C;have m:∀{i:af} {e:TypeId} {t o:Nat} {xs:List af},w.ownsRow (a+1) e t i o xs->(∀f,h.ownBlock=some f->i.ownBlock≠some f)->∀f,(aa c (g.db.length+1) d).ownBlock=some f->i.ownBlock≠some f:=by
  intro i e t o xs l hd f n j
  have A:c=f:=by simpa[Value.ownBlock]using n
  subst A;obtain e|e:=z
  .exact hd c e j
  have:=(l.lt c j).2;omega
 have n:∀f,h.ownBlock=some f->k.ownBlock≠some f:=λf j l=>v f l j
 exact⟨It q p n,by simp only[ga,qx,Kq];exact y,It r p s,λf j l=>m q n f l j,x,m r s⟩
def bd.grown{k:Obj}{e:TypeId}{xs d:List af}(f:bd w a d)(g:0<d.length)(h:w.ownsRow (a+1) e c x b xs)(i:(w.alloc k).grownBy u x.ownBlock):bd u a d:=
 f.cw (by
  have j:=f.lt g;rw[i.block a qB (λe=>by have:=(h.lt a e.symm).1;omega),im _ _ _ j])
def Below.grown{h:Obj}{e:TypeId}{xs:List af}(g:w.ownsRow (a+1) e c x b xs)(i:a<w.heap.size)(d:(w.alloc h).grownBy u x.ownBlock):Below a w u:=by
 refine⟨d.os,d.tape,d.output,by have:=d.size;simp at this;omega,λf j=>?_⟩;rw[d.block f qB (λe=>by have:=(g.lt f e.symm).1;omega),im _ _ _ Q]
def Xt(b:Sc)(a c bv:af):(gw b a c bv)[271]?=some a:=by
 have d:(hj b.row++[I b.rows,a,c,bv])[257]?=some a:=by
  rw[sn<|by simp[hj]];simp[hj]
 exact d
def Lx(b:Sc)(c a bv:af):(gw b c a bv)[272]?=some a:=by
 have d:(hj b.row++[I b.rows,c,a,bv])[258]?=some a:=by
  rw[sn<|by simp[hj]];simp[hj]
 exact d
def aud(a:Sc)(d b bv c:af):(gw a d b bv).set 271 c=gw a c b bv:=by
 have e:(hj a.row++[I a.rows,d,b,bv]).set 257 c=hj a.row++[I a.rows,c,b,bv]:=by
  rw[yyj _ _<|by simp[hj]];simp[hj]
 simp only[gw,yyl];rw[e]
def auc(a:Sc)(b d bv c:af):(gw a b d bv).set 272 c=gw a b c bv:=by
 have e:(hj a.row++[I a.rows,b,d,bv]).set 258 c=hj a.row++[I a.rows,b,c,bv]:=by
  rw[yyj _ _<|by simp[hj]];simp[hj]
 simp only[gw,yyl];rw[e]
def ap1:(prog.info? 3).map (λa=>(a.zero,a.size,a.bytes))=some (some<|I 0,1,8):=qF
def Kg(w:ae)(b:Nat):ae:=(((w.setCell (O b 2)<|I 0).setCell (O b 3)<|I 0).setCell (O b 4)<|I 0).setCell (O b 5)<|I 0
def ab3(a:Nat):bf a W (Kg W a):=((xxs.setCell _ _).setCell _ _).setCell _ _
def anl{b:Sc}{c d bv:af}(e:bd w a (gw b c d bv)):bd (Kg w a) a (gw {b with L:=⟨0,0,0,0⟩} c d bv):=
 bd.head (x:={b with L:=⟨0,0,0,b.L.l⟩}) (bd.head (x:={b with L:=⟨0,0,b.L.a,b.L.l⟩}) (bd.head (x:={b with L:=⟨0,b.L.o,b.L.a,b.L.l⟩}) (bd.head e 2 _ Q rfl) 3 _ Q rfl) 4 _ Q rfl) 5 _ Q rfl
def ab2(a:Nat):(Kg W a).heap.size=W.heap.size:=by simp[Kg]
structure Gr(w w':ae)(b:Nat)(x:Sc)(pv lv bv:af):Prop where
 row:bd w' b (gw x pv lv bv)
 xn:nw w' b x pv lv bv
 below:Below b w w'
def Gr.one{n:Obj}{e:Sc}{g h bv:af}(f:Gr w u a e g h bv)(l:v.ownsRow (a+1) 3 1 (aa c (e.fp.length+1) d) (e.fp.length+1) (ints e.fp++[I b]))
  (i:(u.alloc n).grownBy v g.ownBlock) (m:g.ownBlock=some c\/c=u.heap.size+1):
  bd v a (gw e g h bv)/\Gr w (v.setCell (O a 271)<|aa c (e.fp.length+1) d) a {e with fp:=e.fp++[b]} (aa c (e.fp.length+1) d) h bv:=by
 have j:=bd.grown f.row (by rw[dm];omega) f.xn.o1 i;have k:bf a v (v.setCell (O a 271)<|aa c (e.fp.length+1) d):=(bf.refl _ _).setCell _ _;refine⟨j,?_,(f.xn.aqz l i m).bj k,(f.below.trans<|Below.grown f.xn.o1 (f.row.lt<|by rw[dm];omega) i).trans<|bf.below k⟩;have:=j.put 271 (by rw[dm];omega)<|aa c (e.fp.length+1) d;rw[aud]at this;exact this
def Gr.two{n:Obj}{b i c e:Nat}{a:Sc}{g f bv:af}(d:Gr w u b a g f bv)(l:v.ownsRow (b+1) 3 1 (aa c (a.db.length+1) e) (a.db.length+1) (ints a.db++[I i]))
  (h:(u.alloc n).grownBy v f.ownBlock) (m:f.ownBlock=some c\/c=u.heap.size+1):
  bd v b (gw a g f bv)/\Gr w (v.setCell (O b 272)<|aa c (a.db.length+1) e) b {a with db:=a.db++[i]} g (aa c (a.db.length+1) e) bv:=by
 have j:=bd.grown d.row (by rw[dm];omega) d.xn.o2 h;have k:bf b v (v.setCell (O b 272)<|aa c (a.db.length+1) e):=(bf.refl _ _).setCell _ _;refine⟨j,?_,(d.xn.aq0 l h m).bj k,(d.below.trans<|Below.grown d.xn.o2 (d.row.lt<|by rw[dm];omega) h).trans<|bf.below k⟩;have:=j.put 272 (by rw[dm];omega)<|aa c (a.db.length+1) e;rw[auc]at this;exact this
def Qjb{H:Nat}(e:u.heap.size=H)(a:af)(c:TypeId):∀b d,[a][b]?=some d->(u.alloc<|.cells #[a] c).cell? (((O H 0):Addr).add b)=some d:=by
 subst e;exact cell_one_new u a c
def Yi(a:Sc)(e:Nat)(c:ae)(f:ez c i a)(W:a.fp.length<=1000)(S:a.db.length<=1000)(V:e<=1000):
  Calls prog 85 #[.pointer<|some ⟨i,0,none⟩,.int .i64 e] c λD x=>D=.returned (.tuple #[])/\Below i c x/\ez x i (pattern a e):=by
 let⟨g,d,bv,b,h⟩:=f;let⟨p,y,z,m,n⟩:=yyf ap1;have q:Y (Gr c (Kg c i) i {a with L:=⟨0,0,0,0⟩} g d bv):=by
  let⟨j,k,l,o,r,s⟩:=h.bj<|ab3 c i;exact⟨anl b,⟨j,k,l,o,r,s⟩,bf.below<|ab3 c i⟩
 have T:=b.lt (by rw[dm];omega);have l:=b.xc 2;have B:=b.xf 2;have C:=b.xc 3;have E:=b.xf 3;have M:=b.xc 4;have F:=b.xf 4;have P:=b.xc 5;have H:=b.xf 5;have u:=b.cell<|Xt a g d bv;have v:=b.xf 271;have w:=b.cell<|Lx a g d bv;have A:=b.xf 272;go_in;go_wp2_with (at_builtin;first
  |(have b:=l;refine wpList_append_lies _ rfl _ _ 56 rfl (i+1) 3 p (I 0) 1 8 underlying56 y z m n rfl Q g a.fp.length (ints a.fp) rfl (q.xn.o1.alloc _) (O c.heap.size 0) 1 1 [I e] rfl rfl (Qjb (ab2 c i) _ _) (λa f=>by simp at f;subst f;rfl) Q qH Q qB (c.heap.size+1) qD ?_;intro j k h s r t b;have b:Y (bd h i (gw {a with L:=⟨0,0,0,0⟩} g d bv)/\Gr c (h.setCell (O i 271)<|aa j (a.fp.length+1) k) i {a with L:=⟨0,0,0,0⟩,fp:=a.fp++[e]} (aa j (a.fp.length+1) k) d bv):=Gr.one q s r (by rw[ab2];exact t);have o:Y ((h.setCell (O i 271)<|aa j (a.fp.length+1) k).heap.size=h.heap.size):=(by rw[Y];simp);have U:=b.1.lt (by rw[dm];omega);have qa:=b.1.cell<|Xt _ g d bv;have K:=b.1.xf 271;have R:=b.1.cell<|Lx _ g d bv;have L:=b.1.xf 272;clear s r t l C M P B E F H u w v A)
  |(refine wpList_append_lies _ rfl _ _ 56 rfl (i+1) 3 p (I 0) 1 8 underlying56 y z m n rfl Q d a.db.length (ints a.db) rfl (b.2.xn.o2.alloc _) (O h.heap.size 0) 1 1 [I 0] rfl rfl (Qjb o _ _) (λa f=>by simp at f;subst f;rfl) Q qH Q qB (h.heap.size+1) qD ?_;intro r v s u t w l;have l:Y (bd s i (gw {a with L:=⟨0,0,0,0⟩,fp:=a.fp++[e]} (aa j (a.fp.length+1) k) d bv)/\Gr c (s.setCell (O i 272)<|aa r (a.db.length+1) v) i {a with L:=⟨0,0,0,0⟩,fp:=a.fp++[e],db:=a.db++[0]} (aa j (a.fp.length+1) k) (aa r (a.db.length+1) v) bv):=Gr.two (i:=0) b.2 u t (by rw[o.out];exact w);have B:=l.1.cell<|Lx _ _ d bv;have A:=l.1.xf 272;clear u t w qa K R L))
 go_returns;exact⟨rfl,l.2.below,_,_,_,l.2.row,l.2.xn⟩
def Nl(c:List Qja)(a:Qja)(b:Nat):Hw (c++[a]) b=c++[⟨a.name++[b],a.H,a.cn⟩]:=by
 unfold Hw;simp
def aiy(b:List Nat)(a:Nat):str (b++[a])=str b++⟨#[UInt8.ofNat a]⟩:=by
 apply va;simp[str,ByteArray.data_append]
def Ir(a:List Qja):(xb a).length=a.length*3:=by
 induction a with
 |nil=>rfl
 |cons c a b=>simp only[xb,zyd,ga,xv,List.length_nil]at b|-;omega
def Ku(b:List Qja)(a:Qja):xb (b++[a])=xb b++[Value.string<|str a.name,I a.H,.bool a.cn]:=by simp[xb]
def Jd(a:Sc)(b c bv:af):(gw a b c bv)[273]?=some bv:=by
 have d:(hj a.row++[I a.rows,b,c,bv])[259]?=some bv:=by
  rw[sn<|by simp[hj]];simp[hj]
 exact d
def aub(a:Sc)(b c bv d:af):(gw a b c bv).set 273 d=gw a b c d:=by
 have e:(hj a.row++[I a.rows,b,c,bv]).set 259 d=hj a.row++[I a.rows,b,c,d]:=by
  rw[yyj _ _<|by simp[hj]];simp[hj]
 simp only[gw,yyl];rw[e]
def nw.aq1{A:Obj}{q:Qja}{f:Sc}{j k bv:af}(B:nw w a f j k bv)(y:u.ownsRow (a+1) 122 3 (aa b (f.bu.length+1) c) (f.bu.length+1) (xb f.bu++[Value.string<|str q.name,I q.H,.bool q.cn]))
  (p:(w.alloc A).grownBy u bv.ownBlock) (z:bv.ownBlock=some b\/b=w.heap.size+1):nw u a {f with bu:=f.bu++[q]} j k (aa b (f.bu.length+1) c):=by
 let⟨r,s,D,C,v,x⟩:=B;have l:∀{i:af} {e:TypeId} {t o:Nat} {xs:List af},w.ownsRow (a+1) e t i o xs->(∀d,bv.ownBlock=some d->i.ownBlock≠some d)->∀d,(aa b (f.bu.length+1) c).ownBlock=some d->i.ownBlock≠some d:=by
  intro i e t o xs h hd d m g
  have n:b=d:=by simpa[Value.ownBlock]using m
  subst n;obtain e|e:=z
  .exact hd b e g
  have:=(h.lt b g).2;omega
 have m:∀d,bv.ownBlock=some d->j.ownBlock≠some d:=λd h g=>v d g h
 have n:∀d,bv.ownBlock=some d->k.ownBlock≠some d:=λd h g=>x d g h
 exact⟨It r p m,It s p n,by simp only[ga,qx,Ku];exact y,C,λd h g=>l r m d g h,λd h g=>l s n d g h⟩
def nw.aei{e:ae}{d b i c:Nat}{l0:List Qja}{q:Qja}{x:Sc}{j k:af}(s:x.bu=l0++[q])(t:nw e d x j k (aa b (l0.length+1) i)):
  nw (e.setCell (O b<|l0.length*3)<|.string<|str<|q.name++[c]) d {x with bu:=l0++[⟨q.name++[c],q.H,q.cn⟩]} j k (aa b (l0.length+1) i):=by
 let⟨u,v,f,w,l,m⟩:=t;have h:∀{g:af} {a:TypeId} {n p:Nat} {xs:List af},e.ownsRow (d+1) a n g p xs->g.ownBlock≠some b->(e.setCell (O b<|l0.length*3)<|.string<|str<|q.name++[c]).ownsRow (d+1) a n g p xs:=λy hd=>
  Qzo y λr o=>er _ _ _ _<|λa=>hd<|by rw[o];simp only at a;rw[a]
 rw[s]at f;simp only[ga,qx]at f;have o:=(f.stored (l0.length*3)<|.string<|str<|q.name++[c]).1;have r:(xb<|l0++[q]).set (l0.length*3) (.string<|str<|q.name++[c])=xb (l0++[⟨q.name++[c],q.H,q.cn⟩]):=by
  rw[Ku,Ku,yyj _ _<|by rw[Ir];omega,Ir];simp
 rw[r]at o;exact⟨h u<|λa=>l b a rfl,h v<|λa=>m b a rfl,by simp only[ga,qx];exact o,w,l,m⟩
def aq4(a:Sc)(b t:Nat)(e:ae)(B:ez e i a)(T:Sm a)(qa:97<=b)(R:b<=122)(W:a.bm<8)(V:a.bm≠0)(C:a.bu≠[])(a6:a.bu.length<=1000)(aF:t<=900)(L:∀d∈a.bu,(str d.name).size<=1000):
  Calls prog 84 #[.pointer<|some ⟨i,0,none⟩,.int .u8 b,.int .i64 t] e (Sd i e<|named a b t):=by
 let⟨u,v,bv,k,o⟩:=B;have aK:=k.xc 7;have aE:=k.xf 7;obtain⟨c,d,m⟩:∃c U,a.bu=c++[U]:=⟨a.bu.dropLast,a.bu.getLast C,(yzf C).symm⟩;have A:a.bu.length=c.length+1:=by rw[m];simp
 let⟨g,M,P,a8,a9⟩:=o.o3.form Q;rw[A]at P;subst P;have a2:=k.cell<|Jd a _ _ _;have aA:e.cell? (O g<|c.length*3)=some (.string<|str d.name):=by
  have h:=o.o3;rw[A]at h;rw[h.cellAt (c.length*3) Q,m,Ku,sn<|by rw[Ir];omega,Ir];simp
 have aB:e.frozen? (O g<|c.length*3)=false:=by
  have h:=o.o3;rw[A]at h;exact h.frozenAt _
 have aG:(97:Int)<=b:=Q
 have aH:(b:Int)<=122:=Q
 have aI:(a.bm:Int)<8:=Q
 have aJ:((a.bm:Int)+1==1)=false:=qB
 have aC:=k.lt (by rw[dm];omega);have aD:(convert 99 9<|aa e.heap.size 1 1).run prog (((e.setCell (O i 7)<|I<|(a.bm:Int)+1).alloc<|Obj.cells #[.int .u8 b] 5).drew)=.ok (.string ⟨#[UInt8.ofNat b]⟩) (((e.setCell (O i 7)<|I<|(a.bm:Int)+1).alloc<|Obj.cells #[.int .u8 b] 5).drew):=by
  have:=yyt (P:=prog) (((e.setCell (O i 7)<|I<|(a.bm:Int)+1).alloc<|Obj.cells #[.int .u8 b] 5).drew) 99 9 5 (O e.heap.size 0) 1 [UInt8.ofNat b] underlying99 underlying5 underlying9 (λp n=>by
   have f:p=0:=qK n
   subst f;have l:=Qjb (u:=e.setCell (O i 7)<|I<|(a.bm:Int)+1) (H:=e.heap.size) qD (.int .u8 b) 5 0 (.int .u8 b) rfl;have j:((UInt8.ofNat b).toNat:Int)=b:=by
    have:(UInt8.ofNat b).toNat=b:=qB
    rw[this]
   simp only[List.getElem_cons_zero,j];exact l)
  exact this
 have a4:=L d (by rw[m];simp);have a5:∀s:ae,(Op.stringOp .add (str d.name) ⟨#[UInt8.ofNat b]⟩).run prog s=.ok (.string<|str d.name++⟨#[UInt8.ofNat b]⟩) s:=λs=>yzx (P:=prog) (w:=s) _ _ Q<|by simp[ByteArray.size]
 have S:Y (named a b t=some {a with bm:=a.bm+1,bu:=c++[⟨d.name++[b],d.H,d.cn⟩]}):=by
  rw[named,Y,G ⟨qa,R,W⟩,N V,m,Nl]
 have D:Y (ez ((((e.setCell (O i 7)<|I<|(a.bm:Int)+1).setCell (O g<|c.length*3)<|.string<|str d.name++⟨#[UInt8.ofNat b]⟩).alloc<|Obj.cells #[.int .u8 b] 5).drew) i {a with bm:=a.bm+1,bu:=c++[⟨d.name++[b],d.H,d.cn⟩]}/\Below i e ((((e.setCell (O i 7)<|I<|(a.bm:Int)+1).setCell (O g<|c.length*3)<|.string<|str d.name++⟨#[UInt8.ofNat b]⟩).alloc<|Obj.cells #[.int .u8 b] 5).drew)):=by
  have X:((a.bm:Int)+1)=((a.bm+1:Nat):Int):=Q
  rw[Y,<-aiy,X];have E:=bd.head (x':={a with bm:=a.bm+1}) k 7 (I ((a.bm+1:Nat):Int)) Q rfl;have s1:bf i e (e.setCell (O i 7)<|I ((a.bm+1:Nat):Int)):=(bf.refl _ _).setCell _ _;have F:nw (e.setCell (O i 7)<|I ((a.bm+1:Nat):Int)) i {a with bm:=a.bm+1} u v (aa g (c.length+1) M):=by
   let⟨p,q,h,w,x,y⟩:=o.bj s1;exact⟨p,q,h,w,x,y⟩
  have z:=nw.aei (c:=b) (q:=d) (l0:=c) (x:={a with bm:=a.bm+1}) m F;have Z:=s1.size;generalize e.setCell (O i 7) (I ((a.bm+1:Nat):Int))=l at E s1 F z Z|-;have H:bd (l.setCell (O g<|c.length*3)<|.string<|str<|d.name++[b]) i (gw {a with bm:=a.bm+1} u v<|aa g (c.length+1) M):=E.cw (er _ _ _ _ qC);have K:Below i l (l.setCell (O g<|c.length*3)<|.string<|str<|d.name++[b]):=⟨rfl,rfl,rfl,by simp[World.setCell],λf j=>er l (O g<|c.length*3) _ f qC⟩;have a0:(l.setCell (O g<|c.length*3)<|.string<|str<|d.name++[b]).heap.size=l.heap.size:=qD
  generalize l.setCell (O g<|c.length*3) (.string<|str<|d.name++[b])=r at H z K a0|-;have n:∀f,f<r.heap.size->((r.alloc<|Obj.cells #[.int .u8 b] 5).drew).heap[f]?=r.heap[f]? :=λf j=>im r _ f j
  refine⟨⟨u,v,_,H.cw<|n i Q,?_⟩,((bf.below s1).trans K).trans ⟨rfl,rfl,rfl,qD,λf j=>n f Q⟩⟩;let⟨p,q,h,w,x,y⟩:=z;exact⟨Qzo p λf j=>n f (p.lt f j).2,Qzo q λf j=>n f (q.lt f j).2,Qzo h λf j=>n f (h.lt f j).2,w,x,y⟩
 go_in;go_wp21;go_region;go_wp21;go_ret;rw[S.out];exact⟨true,rfl,D.2,.inl ⟨_,rfl,rfl,D.1⟩⟩
def bd.wk{c:Sc}{d e bv:af}(b:bd w a (gw c d e bv)):Qqa 2 w a c.L:=
 ⟨b.cell (k:=2) rfl,b.cell (k:=3) rfl,b.cell (k:=4) rfl,b.cell (k:=5) rfl,b.frozen (k:=2)<|by rw[dm];omega,b.frozen (k:=3)<|by rw[dm];omega,b.frozen (k:=4)<|by rw[dm];omega,b.frozen (k:=5)<|by rw[dm];omega⟩
def gu.bj{c w':ae}(b:gu 2 a c w'):bf a c w':=⟨b.os,b.tape,b.output,b.size,b.block⟩
def bd.walked{m:Sc}{h:St}{i j bv:af}(g:bd w a (gw m i j bv))(e:gu 2 a w u)(f:Qqa 2 u a h):bd u a (gw {m with L:=h} i j bv):=by
 have n:∀c d,(gw {m with L:=h} i j bv)[c]?=some d->u.cell? (O a c)=some d:=λc d b=>by
  match c,b with
  |0,b=>exact(e.cell 0 Q).trans<|g.cell (k:=0) b
  |1,b=>exact(e.cell 1 Q).trans<|g.cell (k:=1) b
  |2,b=>exact f.c0.trans b
  |3,b=>exact f.c1.trans b
  |4,b=>exact f.c2.trans b
  |5,b=>exact f.c3.trans b
  |k+6,b=>exact(e.cell (k+6) Q).trans<|g.cell (k:=k+6) b
 refine⟨λc d b=>by rw[qo];exact n c d b,λc l=>⟨?_,?_⟩⟩
 .rw[qo,n c _<|dy l];simp
 rw[qo,e.cd];exact g.frozen (by rw[dm]at l|-;exact l)
def acf(a:St)(d:ae)(m:Small a)(k:Qqa 2 d i a):
  Calls prog 125 #[.pointer<|some ⟨i,2,none⟩] d λj l=>j=.returned (.bool<|lx a)/\l=d:=by
 let⟨c,n,o,p,q,r,s,t⟩:=k;obtain h|h|h|h:a.m=3\/a.m=9\/a.m=10\/(a.m≠3/\a.m≠9/\a.m≠10):=Q
 .have b:Y (lx a=true):=by rw[Y];rw[lx,h];rfl
  rw[h]at c;go_in;go_wp21;go_ret;rw[b.out];exact⟨rfl,rfl⟩
 .have b:Y (lx a=true):=by rw[Y];rw[lx,h];rfl
  rw[h]at c;go_in;go_wp21;go_ret;rw[b.out];exact⟨rfl,rfl⟩
 .have b:Y (lx a=true):=by rw[Y];rw[lx,h];rfl
  rw[h]at c;go_in;go_wp21;go_ret;rw[b.out];exact⟨rfl,rfl⟩
 let⟨e,f,g⟩:=h;have b:Y (lx a=false):=by rw[Y];simp[lx,e,f,g]
 have u:((a.m:Int)==3)=false:=qB
 have v:((a.m:Int)==9)=false:=qB
 have w:((a.m:Int)==10)=false:=qB
 go_in;go_wp21;go_ret;rw[b.out];exact⟨rfl,rfl⟩
def Ny(b:List Nat)(a:Nat):Bj (b++[a])=b++[a+1]:=by
 unfold Bj;simp
def nw.alm{i:Sc}{k bv:af}(q:i.db=g++[d])(r:nw w a i k (aa b (g.length+1) c) bv):
  nw (w.setCell (O b g.length)<|I ((d+1:Nat):Int)) a {i with db:=g++[d+1]} k (aa b (g.length+1) c) bv:=by
 let⟨s,f,t,l,u,m⟩:=r;have j:∀{h:af} {e:TypeId} {n p:Nat} {xs:List af},w.ownsRow (a+1) e n h p xs->h.ownBlock≠some b->(w.setCell (O b g.length)<|I ((d+1:Nat):Int)).ownsRow (a+1) e n h p xs:=λv hd=>
  Qzo v λx o=>er _ _ _ _<|λe=>hd<|by rw[o];simp only at e;rw[e]
 rw[q]at f;simp only[ga,qx]at f;have o:=(f.stored g.length<|I ((d+1:Nat):Int)).1;have x:(ints<|g++[d]).set g.length (I ((d+1:Nat):Int))=ints (g++[d+1]):=by
  rw[Kq,Kq,yyj _ _<|by simp[ints]];simp[ints]
 rw[x]at o;exact⟨j s<|λe=>l b e rfl,by simp only[ga,qx];exact o,j t<|λe=>m b rfl e,l,u,m⟩
def Sp(b:Nat)(x:Sc)(c:Nat)(w:ae)(e:Ending)(w':ae):Prop:=
 ∃ok,e=.returned (.tuple #[.bool ok,.bool (pi x c).2])/\Below b w w'/\((pi x c).2=true->w'=w/\ok=whole x.L)/\((pi x c).2=false->(∃x',(pi x c).1=some x'/\ok=true/\ez w' b x')\/((pi x c).1=none/\ok=false))
def Pa(a:Sc)(e:Nat)(d:ae)(X:ez d i a)(z:Sm a)(P:e<256)(A:a.db≠[])(E:∀a0∈a.db,a0<=1000)(U:a.db.length<=1000):
  Calls prog 82 #[.pointer<|some ⟨i,0,none⟩,.int .u8 e] d (Sp i a e d):=by
 let⟨qa,a6,bv,o,k⟩:=X;have p:=J z.L;have B:=bd.wk o;by_cases v:e=47/\lx a.L=false
 .obtain⟨rfl,b⟩:=v;have r:Y (pi a 47=(if whole a.L=true then some a else none,true)):=by rw[pi,Y,G ⟨rfl,b⟩]
  have c:=J b;go_in;go_wp21;refine(acf i a.L d p B).mono ?_;rw[c.out];rintro n h ⟨rfl,rfl⟩;go_wp21;go_call aw1 as n t ⟨rfl,rfl⟩;go_wp21;go_ret2;rw[Sp,r.out];exact⟨whole a.L,rfl,bp _ _,λ_=>⟨rfl,rfl⟩,λg=>by cases g⟩
 have r:Y (pi a e=((step a.L e).map λa1=>{a with L:=a1,db:=Bj a.db},false)):=by rw[pi,Y,N v]
 obtain⟨b,c,j⟩:∃b c,a.db=b++[c]:=⟨a.db.dropLast,a.db.getLast A,(yzf A).symm⟩;have w:a.db.length=b.length+1:=by rw[j];simp
 have a5:=E c (by rw[j];simp);have a2:b.length<=1000:=Q
 let⟨f,F,H,a3,a4⟩:=k.o2.form Q;rw[w]at H;subst H;have S:=o.cell<|Lx a _ _ _;have K:d.cell? (O f b.length)=some (I c):=by
  have m:=k.o2;rw[w]at m;rw[m.cellAt b.length Q,j,Kq];simp[ints]
 have M:d.frozen? (O f b.length)=false:=by
  have m:=k.o2;rw[w]at m;exact m.frozenAt _
 have T:Y (((c:Int)+1)=((c+1:Nat):Int)):=J Q
 have x:Y (nw (d.setCell (O f b.length)<|I<|(c:Int)+1).drew i {a with db:=b++[c+1]} qa (aa f (b.length+1) F) bv):=by
  rw[T.out];exact(k.alm j).bj (w':=(d.setCell (O f b.length)<|I ((c+1:Nat):Int)).drew) ⟨rfl,rfl,rfl,rfl,λ_ _=>rfl⟩
 have l:Y (bd (d.setCell (O f b.length)<|I<|(c:Int)+1).drew i<|gw {a with db:=b++[c+1]} qa (aa f (b.length+1) F) bv):=by
  exact o.cw (w':=(d.setCell (O f b.length)<|I<|(c:Int)+1).drew)<|er _ _ _ _ qC
 have y:Y (Below i d (d.setCell (O f b.length)<|I<|(c:Int)+1).drew):=⟨rfl,rfl,rfl,by simp[World.setCell],λZ u=>er d (O f b.length) _ Z qC⟩;have R:Y (Bj a.db=b++[c+1]):=by rw[Y,j,Ny]
 have V:(e=47/\lx a.L=true)\/(e≠47):=by
  by_cases g:e=47
  .refine .inl ⟨g,?_⟩;rcases df (lx a.L)with C|C
   .exact C
   exact cb ⟨g,C⟩ v
  exact .inr g
 go_in;go_wp21;refine(acf i a.L d p B).mono ?_;obtain⟨rfl,L⟩|L:=V
 .rw[L];rintro n h ⟨rfl,rfl⟩;go_wp21;go_region;go_wp21;generalize(h.setCell (O f b.length)<|I<|(c:Int)+1).drew=w at x l y|-;go_call Qjh i a.L 47 w P p (bd.wk l)as n t ⟨q,rfl,s,hd⟩;have D:=y.trans<|bf.below<|gu.bj s;have C:Y (Sp i a 47 h (.returned<|.tuple #[.bool q,.bool false]) t):=by
   rw[Sp,Y,r.out];refine⟨q,rfl,D,λg=>(by cases g),λ_=> ?_⟩;obtain⟨W,j,rfl,u⟩|⟨j,rfl⟩:=hd
   .refine .inl ⟨_,by rw[j];rfl,rfl,?_⟩;rw[R.out];exact ez.put x (gu.bj s) (bd.walked l s u) rfl rfl rfl
   exact .inr ⟨by rw[j];rfl,rfl⟩
  go_wp21;go_ret2;exact C
 have a7:((e:Int)==47)=false:=qB
 rintro n h ⟨rfl,rfl⟩;go_wp21;go_region;go_wp21;generalize(h.setCell (O f b.length)<|I<|(c:Int)+1).drew=w at x l y|-;go_call Qjh i a.L e w P p (bd.wk l)as n t ⟨q,rfl,s,hd⟩;have D:=y.trans<|bf.below<|gu.bj s;have C:Y (Sp i a e h (.returned<|.tuple #[.bool q,.bool false]) t):=by
  rw[Sp,Y,r.out];refine⟨q,rfl,D,λg=>(by cases g),λ_=> ?_⟩;obtain⟨W,j,rfl,u⟩|⟨j,rfl⟩:=hd
  .refine .inl ⟨_,by rw[j];rfl,rfl,?_⟩;rw[R.out];exact ez.put x (gu.bj s) (bd.walked l s u) rfl rfl rfl
  exact .inr ⟨by rw[j];rfl,rfl⟩
 go_wp21;go_ret2;exact C
def aql(o:Nat)(a:Sc)(b:Nat)(p:ae)(s:ez p o a)(r:Sm a)(z:b<256):
  Calls prog 124 #[.pointer<|some ⟨o,0,none⟩,.int .u8 b] p (Sd o p<|di a b):=by
 let⟨A,B,bv,d,e⟩:=s;have C:=d.xc 0;have D:=d.xf 0;have E:=d.xc 1;have F:=d.xf 1;have H:=d.xc 7;have K:=d.xf 7;have L:=d.xc 9;have M:=d.xf 9;have x:=d.xc 10;have y:=d.xf 10;have P:=r.op;by_cases h:b=123
 .subst h;have j:Y (((a.op:Int)+1)=((a.op+1:Nat):Int)):=J Q
  have k:=J<|bd.head (x':={a with op:=a.op+1,ax:=0}) (bd.head (x':={a with op:=a.op+1}) d 1 (I ((a.op+1:Nat):Int)) Q rfl) 0 (I 0) Q rfl;by_cases g:a.op+1<=5
  have c:Y (di a 123=some {a with op:=a.op+1,ax:=0}):=by rw[di,Y,G rfl,G g]
  have m:((a.op:Int)+1<=5):=Q
  rotate_left
  have c:Y (di a 123=none):=by rw[di,Y,G rfl,N g]
  have m:¬((a.op:Int)+1<=5):=Q
  all_goals
   go_in;go_wp21;go_ret;rw[c.out];first|exact⟨_,rfl,bf.below<|by repeat first|refine bf.setCell ?_ _ _|exact bf.refl _ _,.inr ⟨rfl,by first|(simp;done)|(simp;omega)⟩⟩|(rw[j.out];exact⟨_,rfl,bf.below<|by repeat first|refine bf.setCell ?_ _ _|exact bf.refl _ _,.inl ⟨_,rfl,by first|(simp;done)|(simp;omega),ez.put e (by repeat first|refine bf.setCell ?_ _ _|exact bf.refl _ _) k rfl rfl rfl⟩⟩)
 have qa:((b:Int)==123)=false:=qB
 rcases df (bn Gy b)with i|i
 have c:Y (di a b=some {a with ax:=7}):=by rw[di,Y,N h,G i]
 have k:=J<|bd.head (x':={a with ax:=7}) d 0 (I 7) Q rfl;rotate_left
 rcases df (bn Je b)with l|l
 have c:Y (di a b=some {a with ax:=8}):=by rw[di,Y,N h,N<|by rw[i];simp,G l]
 have k:=J<|bd.head (x':={a with ax:=8}) d 0 (I 8) Q rfl;rotate_left
 have g:Y (di a b=if b=98\/b=116 then some {a with ax:=10,gf:=0,bm:=0,cn:=false} else if b=115 then some {a with ax:=11} else if b=121 then some {a with ax:=16} else none):=by rw[di,Y,N h,N<|by rw[i];simp,N<|by rw[l];simp]
 by_cases w:b=98\/b=116
 have c:=J<|g.trans<|G w;have k:=J<|bd.head (x':={a with ax:=10,gf:=0,bm:=0,cn:=false}) (bd.head (x':={a with ax:=10,gf:=0,bm:=0}) (bd.head (x':={a with ax:=10,gf:=0}) (bd.head (x':={a with ax:=10}) d 0 (I 10) Q rfl) 9 (I 0) Q rfl) 7 (I 0) Q rfl) 10 (.bool false) Q rfl;obtain rfl|rfl:=w
 rotate_left 2
 by_cases u:b=115
 subst u;have c:Y (di a 115=some {a with ax:=11}):=by rw[Y,g.out,N,G rfl]
 have k:=J<|bd.head (x':={a with ax:=11}) d 0 (I 11) Q rfl;rotate_left
 by_cases v:b=121
 subst v;have c:Y (di a 121=some {a with ax:=16}):=by rw[Y,g.out,N,N,G rfl]
 have k:=J<|bd.head (x':={a with ax:=16}) d 0 (I 16) Q rfl;rotate_left
 obtain⟨R,S,T,U⟩:((b:Int)==98)=false/\((b:Int)==116)=false/\((b:Int)==115)=false/\((b:Int)==121)=false:=qB
 have c:Y (di a b=none):=by rw[Y,g.out,N w,N u,N v]
 all_goals
  have m:=J i;(try have q:=J l);(try clear l);(try clear w u v);go_in;go_wp21;refine(sz Gy _ _ qG).mono ?_;rw[m.out];rintro j n ⟨rfl,rfl⟩;go_wp21;(try (have:=q;refine(sz Je _ _ qG).mono ?_;rw[q.out];rintro j n ⟨rfl,rfl⟩;go_wp21));go_ret;rw[c.out];first|exact Sd.no (bp _ _) rfl|exact Sd.yes e (by repeat first|refine bf.setCell ?_ _ _|exact bf.refl _ _) k rfl
def Np(a:Sc)(d:Nat)(m:ae)(s:ez m i a)(r:Sm a)(w:d<256):
  Calls prog 81 #[.pointer<|some ⟨i,0,none⟩,.int .u8 d] m (Sd i m<|lc a d):=by
 have u:=J s;let⟨A,B,bv,l,v⟩:=s;have C:=l.xc 0;have D:=l.xf 0;have z:=r.ax;have b:=aql i a d m u r w;have n:=J b;by_cases q:d=32
 .subst q;by_cases g:a.ax=4\/a.ax=2\/a.ax=5\/a.ax=1
  .by_cases e:a.ax=5
   .have c:Y (lc a 32=some a):=by rw[lc,Y,G ⟨rfl,g⟩,G e]
    have t:(a.ax:Int)=5:=Q
    go_in;go_wp21;go_ret;rw[c.out];exact⟨true,rfl,bp _ _,.inl ⟨a,rfl,rfl,u⟩⟩
   have c:Y (lc a 32=some {a with ax:=4}):=by rw[lc,Y,G ⟨rfl,g⟩,N e]
   obtain t|t|t:(a.ax:Int)=4\/(a.ax:Int)=2\/(a.ax:Int)=1:=Q
   all_goals
    go_in;go_wp21;go_ret;rw[c.out];exact Sd.yes (x':={a with ax:=4}) v xxs (bd.head l 0 _ Q rfl) rfl
  have c:Y (lc a 32=di a 32):=by rw[lc,Y,N<|λb=>g b.2,N]
  have E:((a.ax:Int)==4)=false:=qB
  have F:((a.ax:Int)==2)=false:=qB
  have x:((a.ax:Int)==5)=false:=qB
  have y:((a.ax:Int)==1)=false:=qB
  go_in;go_wp21;go_call n;rw[<-c.out];intro p o b
  obtain⟨k,rfl,h,f⟩:=b;have j:=J f;go_wp21;go_ret;exact⟨k,rfl,h,j⟩
 by_cases g:d=33
 .subst g;by_cases e:a.ax=5
  .have c:Y (lc a 33=di a 33):=by rw[lc,Y,N,N<|λb=>b.2 e]
   have t:(a.ax:Int)=5:=Q
   go_in;go_wp21;go_call n;rw[<-c.out];intro p o b
   obtain⟨k,rfl,h,f⟩:=b;have j:=J f;go_wp21;go_ret;exact⟨k,rfl,h,j⟩
  have c:Y (lc a 33=some {a with ax:=5}):=by rw[lc,Y,N,G ⟨rfl,e⟩]
  have y:((a.ax:Int) !=5)=true:=qB
  go_in;go_wp21;go_ret;rw[c.out];exact Sd.yes (x':={a with ax:=5}) v xxs (bd.head l 0 _ Q rfl) rfl
 have F:((d:Int)==33)=false:=qB
 have c:Y (lc a d=di a d):=by rw[lc,Y,N<|λb=>q b.1,N<|λb=>g b.1]
 go_in;go_wp21;go_call n;rw[<-c.out];intro p o b
 obtain⟨k,rfl,h,f⟩:=b;have j:=J f;go_wp21;go_ret;exact⟨k,rfl,h,j⟩
def aaq(a:Sc)(c:Nat)(h:ae)(o:ez h i a)(j:Sm a)(t:c<256):
  Calls prog 79 #[.pointer<|some ⟨i,0,none⟩,.int .u8 c] h (Sd i h<|vf a c):=by
 have u:=J o;let⟨v,w,bv,e,s⟩:=o;have x:=e.xc 0;have y:=e.xf 0;have z:=e.xc 6;have A:=e.xf 6;have b:=Np i a c h u j t;have m:=J b;by_cases n:c=44
 .subst n;by_cases b:a.part=1
  .have f:Y (vf a 44=some {a with ax:=3,part:=2}):=by rw[vf,Y,G ⟨rfl,b⟩]
   have p:(a.part:Int)=1:=Q
   go_in;go_wp21;go_ret;rw[f.out];exact Sd.yes (x':={a with ax:=3,part:=2}) s (xxs.setCell _ _) (bd.head (x:={a with ax:=3}) (bd.head e 0 _ Q rfl) 6 _ Q rfl) rfl
  have f:Y (vf a 44=lc a 44):=by rw[vf,Y,N<|λd=>b d.2]
  have p:((a.part:Int)==1)=false:=qB
  go_in;go_wp21;go_call m;rw[<-f.out];intro r q d
  obtain⟨l,rfl,b,g⟩:=d;have k:=J g;go_wp21;go_ret;exact⟨l,rfl,b,k⟩
 have p:((c:Int)==44)=false:=qB
 have f:Y (vf a c=lc a c):=by rw[vf,Y,N<|λd=>n d.1]
 go_in;go_wp21;go_call m;rw[<-f.out];intro r q d
 obtain⟨l,rfl,b,g⟩:=d;have k:=J g;go_wp21;go_ret;exact⟨l,rfl,b,k⟩
def amh(a:Sc)(b:Nat)(n:ae)(p:ez n i a)(k:Sm a)(s:b<256):
  Calls prog 78 #[.pointer<|some ⟨i,0,none⟩,.int .u8 b] n (Sd i n<|ua a b):=by
 have t:=J p;let⟨B,C,bv,f,j⟩:=p;have D:=f.xc 7;have E:=f.xf 7;have F:=f.xc 8;have H:=f.xf 8;have z:=k.bm;have A:=k.zero;have c:=aaq i a b n t k s;have x:=J c;clear k c;by_cases hd:48<=b/\b<=57/\a.bm<4
 .let⟨u,v,w⟩:=hd;have l:Y (((a.bm:Int)+1)=((a.bm+1:Nat):Int)):=J Q
  have c:ua a b=if a.bm+1<4\/(if b=48 then a.zero else 1)=1 then some {a with bm:=a.bm+1,zero:=if b=48 then a.zero else 1} else none:=by rw[ua,G ⟨u,v,w⟩]
  by_cases q:b=48
  .subst q;rw[G rfl]at c;have e:=bd.head (x':={a with bm:=a.bm+1}) f 7 (I ((a.bm+1:Nat):Int)) Q rfl;have g:Y _:=e;clear e;by_cases m:a.bm+1<4\/a.zero=1
   .have d:Y (ua a 48=some {a with bm:=a.bm+1}):=by rw[Y,c,G m]
    have o:(a.bm+1<4)\/(¬a.bm+1<4/\a.zero=1):=Q
    clear c m;obtain o|⟨o,h⟩:=o
    .go_in;go_wp21;go_ret;rw[d.out,l.out];exact Sd.yes (x':={a with bm:=a.bm+1}) j xxs g rfl
    have r:¬((a.bm:Int)+1<4):=Q
    go_in;go_wp21;go_ret;rw[d.out,l.out];exact Sd.yes (x':={a with bm:=a.bm+1}) j xxs g rfl
   have d:Y (ua a 48=none):=by rw[Y,c,N m]
   have y:(a.zero:Int)=0:=Q
   have r:¬((a.bm:Int)+1<4):=Q
   clear c m;go_in;go_wp21;go_ret;rw[d.out];exact Sd.no (bf.below xxs) rfl
  rw[N q,G<|.inr rfl]at c;have d:Y (ua a b=some {a with bm:=a.bm+1,zero:=1}):=by rw[Y,c]
  have m:((b:Int)==48)=false:=qB
  have e:=bd.head (x':={a with bm:=a.bm+1,zero:=1}) (bd.head (x':={a with bm:=a.bm+1}) f 7 (I ((a.bm+1:Nat):Int)) Q rfl) 8 (I 1) Q rfl;have g:Y _:=e;clear e c;obtain K|K:=hb (a.bm+1) 4
  .go_in;go_wp21;go_ret;rw[d.out,l.out];exact Sd.yes (x':={a with bm:=a.bm+1,zero:=1}) j (xxs.setCell _ _) g rfl
  have r:¬((a.bm:Int)+1<4):=Q
  go_in;go_wp21;go_ret;rw[d.out,l.out];exact Sd.yes (x':={a with bm:=a.bm+1,zero:=1}) j (xxs.setCell _ _) g rfl
 have c:ua a b=if a.zero=0 then none else vf a b:=by rw[ua,N hd]
 have l:b<48\/(48<=b/\57<b)\/(48<=b/\b<=57/\4<=a.bm):=Q
 by_cases h:a.zero=0
 .have d:Y (ua a b=none):=by rw[Y,c,G h]
  have m:(a.zero:Int)=0:=Q
  clear c h hd;obtain e|⟨e,g⟩|⟨e,g,o⟩:=l
  all_goals
   go_in;go_wp21;go_ret;rw[d.out];exact Sd.no (bp _ _) rfl
 have d:Y (ua a b=vf a b):=by rw[Y,c,N h]
 have m:((a.zero:Int)==0)=false:=qB
 clear c h hd;obtain e|⟨e,g⟩|⟨e,g,o⟩:=l
 all_goals
  go_in;go_wp21;go_call x;rw[<-d.out];intro v w e
  obtain⟨u,rfl,q,h⟩:=e;have r:=J h;clear h;go_wp21;go_ret;exact⟨u,rfl,q,r⟩
def aoq(b:Sc)(a:Nat)(t:ae)(y:ez t i b)(x:Sm b)(D:a<256):
  Calls prog 87 #[.pointer<|some ⟨i,0,none⟩,.int .u8 a] t (Sd i t<|uv b a):=by
 have E:=J y;let⟨M,P,bv,k,w⟩:=y;have z:=k.xc 11;have H:=k.xf 11;have A:=k.xc 12;have K:=k.xf 12;have B:=k.xc 13;have L:=k.xf 13;have c:=Lz i b a t E x D;have p:=J c;clear x c;by_cases l:a=103/\b.all=false
 .obtain⟨rfl,c⟩:=l;have f:Y (uv b 103=some {b with all:=true}):=by rw[uv,Y,G ⟨rfl,c⟩]
  rw[c]at z;clear c;go_in;go_wp21;go_ret;rw[f.out];exact Sd.yes (x':={b with all:=true}) w xxs (bd.head k 11 _ Q rfl) rfl
 by_cases o:a=112/\b.print=false
 .obtain⟨rfl,c⟩:=o;have f:Y (uv b 112=some {b with print:=true}):=by rw[uv,Y,N,G ⟨rfl,c⟩]
  rw[c]at A;clear c l;go_in;go_wp21;go_ret;rw[f.out];exact Sd.yes (x':={b with print:=true}) w xxs (bd.head k 12 _ Q rfl) rfl
 by_cases s:49<=a/\a<=57/\b.uw=false
 .let⟨m,n,c⟩:=s;have f:Y (uv b a=some {b with uw:=true}):=by rw[uv,Y,N,N,G ⟨m,n,c⟩]
  have u:((a:Int)==103)=false:=qB
  have v:((a:Int)==112)=false:=qB
  rw[c]at B;clear c l o;go_in;go_wp21;go_ret;rw[f.out];exact Sd.yes (x':={b with uw:=true}) w xxs (bd.head k 13 _ Q rfl) rfl
 have f:Y (uv b a=qk b a):=by rw[uv,Y,N l,N o,N s]
 have C:(a=103/\b.all=true)\/(a=112/\b.print=true)\/(49<=a/\a<=57/\b.uw=true)\/(a≠103/\a≠112/\a<49)\/(a≠103/\a≠112/\49<=a/\57<a):=by
  cases e:b.all<;>cases d:b.print<;>cases g:b.uw<;>simp only[e,d,g,and_true,and_false,Bool.true_eq_false,Ax,false_or,or_false]at l o s|-<;>omega
 clear l o s;obtain⟨rfl,c⟩|⟨rfl,c⟩|⟨m,n,c⟩|⟨m,n,F⟩|⟨m,n,F,U⟩:=C
 rw[c]at z;rotate_left
 rw[c]at A;rotate_left
 rw[c]at B;rotate_left
 all_goals
  (try have u:((a:Int)==103)=false/\((a:Int)==112)=false:=by simp;omega);(try let⟨u,v⟩:=u);(try clear c);go_in;go_wp21;go_call p;rw[<-f.out];intro r q g
  obtain⟨j,rfl,e,d⟩:=g;have h:=J d;clear d;go_wp21;go_ret;exact⟨j,rfl,e,h⟩
def avy(b:Sc)(l:ae)(n:ez l i b)(m:Sm b):
  Calls prog 54 #[.pointer<|some ⟨i,0,none⟩] l λr u=>r=.returned (.bool<|jj b)/\∃s,u=l.drewN s:=by
 let⟨x,y,bv,c,d⟩:=n;have f:=c.xc 0;have A:=c.xc 1;have C:=c.xc 7;have E:=c.xc 9;have e:Y (∀(k:Bool),k=(decide (b.ax=0)||decide (b.ax=7)||decide (b.ax=9)||decide (b.ax=15)||(decide (b.ax=10)&&decide (b.gf<=b.bm)))->jj b=(k&&decide (b.op=0))):=λk j=>by rw[j];rfl
 have g:((b.op:Int)==0)=decide (b.op=0):=by
  by_cases j:b.op=0
  .simp[j]
  have:((b.op:Int)==0)=false:=qB
  rw[this];simp[j]
 obtain a|a|a|a|a|a|a:b.ax=0\/b.ax=7\/b.ax=9\/b.ax=15\/(b.ax=10/\b.gf<=b.bm)\/(b.ax=10/\¬b.gf<=b.bm)\/(b.ax≠0/\b.ax≠7/\b.ax≠9/\b.ax≠15/\b.ax≠10):=Q
 iterate 4 have c:=J (e true<|by rw[a];rfl);rw[a]at f;rotate_left
 let⟨d,h⟩:=a;have c:=J (e true<|by rw[d];simp[h]);rw[d]at f;have t:(b.gf:Int)<=b.bm:=Q
 rotate_left
 let⟨d,h⟩:=a;have c:=J (e false<|by rw[d];simp[h]);rw[d]at f
 have o:decide (b.gf<=b.bm)=false:=qB
 rotate_left
 let⟨h,o,p,q,d⟩:=a;have c:=J (e false<|by simp[h,o,p,q,d]);have H:((b.ax:Int)==0)=false:=qB
 have K:((b.ax:Int)==7)=false:=qB
 have L:((b.ax:Int)==9)=false:=qB
 have M:((b.ax:Int)==15)=false:=qB
 have P:((b.ax:Int)==10)=false:=qB
 all_goals go_in;go_wp21;go_quiet (fail);go_wp21;go_ret;rw[c.out];exact⟨pp<|by first|rfl|simpa using g|simp,_,rfl⟩
def ado(a:Sc)(b:Nat)(o:ae)(s:ez o i a)(m:Sm a)(F:b<256):
  Calls prog 86 #[.pointer<|some ⟨i,0,none⟩,.int .u8 b] o (Sd i o<|sy a b):=by
 have t:=J s;let⟨H,K,bv,e,h⟩:=s;have L:=e.xc 0;have M:=e.xf 0;have P:=e.xc 4;have U:=e.xf 4;have x:=e.xc 11;have y:=e.xf 11;have z:=e.xc 12;have A:=e.xf 12;have B:=e.xc 13;have C:=e.xf 13;have D:=m.ax;have E:=m.L.2.2.1;clear m;by_cases j:a.ax=14
 .have v:(a.ax:Int)=14:=Q
  have c:sy a b=if bn Dm b=true\/(49<=b/\b<=57/\b-48<=a.L.a)then some {a with ax:=13} else none:=by rw[sy,G j]
  have g:=bd.head (x':={a with ax:=13}) e 0 (I 13) Q rfl;have k:Y _:=g;clear j g;rcases df (bn Dm b)with f|f
  have l:=J f;have d:Y (sy a b=some {a with ax:=13}):=by rw[Y,c,G<|.inl f]
  clear c f;rotate_left
  have l:=J f;by_cases hd:49<=b/\b<=57/\b-48<=a.L.a
  have d:Y (sy a b=some {a with ax:=13}):=by rw[Y,c,G<|.inr hd]
  let⟨n,q,u⟩:=hd;have w:(b:Int)-48<=(a.L.a:Int):=Q
  clear c f;rotate_left
  have d:Y (sy a b=none):=by rw[Y,c,N<|by rw[f];simp;omega]
  have w:b<49\/(49<=b/\57<b)\/(49<=b/\b<=57/\¬(b:Int)-48<=(a.L.a:Int)):=Q
  clear c f hd;obtain n|⟨n,q⟩|⟨n,q,u⟩:=w
  all_goals
   go_in;go_wp21;refine(sz Dm b _ qG).mono ?_;rw[l.out];rintro r p ⟨rfl,rfl⟩;go_wp21;go_ret;rw[d.out]
   first
    |exact Sd.yes (x':={a with ax:=13}) h xxs k rfl
    |exact Sd.no (bf.below xxs) rfl
    |exact⟨_,rfl,bf.below xxs,.inr ⟨rfl,wu Q⟩⟩
 have v:((a.ax:Int)==14)=false:=qB
 have c:sy a b=if b=47 then some {a with ax:=15,all:=false,print:=false,uw:=false} else if b=92 then some {a with ax:=14} else if b=10 then none else some a:=by rw[sy,N j]
 clear j;by_cases f:b=47
 .subst f;have d:Y (sy a 47=some {a with ax:=15,all:=false,print:=false,uw:=false}):=by rw[Y,c,G rfl]
  have g:=bd.head (x':={a with ax:=15,all:=false,print:=false,uw:=false}) (bd.head (x':={a with ax:=15,all:=false,print:=false}) (bd.head (x':={a with ax:=15,all:=false}) (bd.head (x':={a with ax:=15}) e 0 (I 15) Q rfl) 11 (.bool false) Q rfl) 12 (.bool false) Q rfl) 13 (.bool false) Q rfl;have k:Y _:=g;clear c g;go_in;go_wp21;go_ret;rw[d.out];exact Sd.yes (x':={a with ax:=15,all:=false,print:=false,uw:=false}) h (((xxs.setCell _ _).setCell _ _).setCell _ _) k rfl
 by_cases l:b=92
 .subst l;have d:Y (sy a 92=some {a with ax:=14}):=by rw[Y,c,N,G rfl]
  clear c;go_in;go_wp21;go_ret;rw[d.out];exact Sd.yes (x':={a with ax:=14}) h xxs (bd.head e 0 _ Q rfl) rfl
 by_cases n:b=10
 .subst n;have d:Y (sy a 10=none):=by rw[Y,c,N,N,G rfl]
  clear c;go_in;go_wp21;go_ret;rw[d.out];exact Sd.no (bp _ _) rfl
 have d:Y (sy a b=some a):=by rw[Y,c,N f,N l,N n]
 have p:((b:Int)==47)=false:=qB
 have q:((b:Int)==92)=false:=qB
 clear c;go_in;go_wp21;go_ret;rw[d.out];exact⟨_,rfl,bp _ _,.inl ⟨a,rfl,by first|rfl|(simp;omega),t⟩⟩
def Ss(b:Nat)(w:ae)(r:Option Sc)(e:Ending)(w':ae):Prop:=
 ∃q,e=.returned (.bool q)/\Below b w w'/\((∃x',r=some x'/\q=true/\ez w' b x')\/(r=none/\q=false/\w'=w))
def Ss.yes{b x':Sc}{c d bv:af}{f:Option Sc}(h:nw w a b c d bv)(e:bf a w u)(i:bd u a (gw x' c d bv))(g:f=some x')(j:x'.fp=b.fp:=by rfl)(k:x'.db=b.db:=by rfl)(l:x'.bu=b.bu:=by rfl):Ss a w f (.returned<|.bool true) u:=
 ⟨true,rfl,bf.below e,.inl ⟨x',g,rfl,ez.put h e i j k l⟩⟩
def Ss.sd{d:Option Sc}{c:Ending}(h:Ss a w d c u):Sd a w d c u:=by
 let⟨i,e,f,b⟩:=h;refine⟨i,e,f,?_⟩;obtain b|⟨b,g,_⟩:=b
 .exact .inl b
 exact .inr ⟨b,g⟩
def aig(a:Sc)(b c:Nat)(g:ae)(o:ez g i a)(x:b<256)(p:a.fp.length<=1000)(u:a.db.length<=1000)(K:c<=900):
  Calls prog 80 #[.pointer<|some ⟨i,0,none⟩,.int .u8 b,.int .i64 c] g (Ss i g<|spot a b c):=by
 let⟨y,z,bv,e,k⟩:=o;have A:=e.xc 0;have B:=e.xf 0;have C:=e.xc 7;have D:=e.xf 7;have E:=e.xc 8;have F:=e.xf 8;by_cases hd:48<=b/\b<=57
 .let⟨f,j⟩:=hd
  have n:(b:Int)<=57:=Q
  by_cases h:b=48
  .have d:Y (spot a b c=some {a with ax:=1,bm:=1,zero:=0}):=by rw[spot,Y,G ⟨f,j⟩,G h]
   have l:Y _:=bd.head (x':={a with ax:=1,bm:=1,zero:=0}) (bd.head (x':={a with ax:=1,bm:=1}) (bd.head (x':={a with ax:=1}) e 0 (I 1) Q rfl) 7 (I 1) Q rfl) 8 (I 0) Q rfl;subst h;go_in;go_wp21;go_ret;rw[d.out];exact Ss.yes (x':={a with ax:=1,bm:=1,zero:=0}) k ((xxs.setCell _ _).setCell _ _) l rfl
  have d:Y (spot a b c=some {a with ax:=1,bm:=1,zero:=1}):=by rw[spot,Y,G ⟨f,j⟩,N h]
  have l:Y _:=bd.head (x':={a with ax:=1,bm:=1,zero:=1}) (bd.head (x':={a with ax:=1,bm:=1,zero:=0}) (bd.head (x':={a with ax:=1,bm:=1}) (bd.head (x':={a with ax:=1}) e 0 (I 1) Q rfl) 7 (I 1) Q rfl) 8 (I 0) Q rfl) 8 (I 1) Q rfl
  have r:((b:Int) !=48)=true:=qB
  go_in;go_wp21;go_ret;rw[d.out];exact Ss.yes (x':={a with ax:=1,bm:=1,zero:=1}) k (((xxs.setCell _ _).setCell _ _).setCell _ _) l rfl
 by_cases h:b=36
 .subst h;have d:Y (spot a 36 c=some {a with ax:=2}):=by rw[spot,Y,N,G rfl]
  go_in;go_wp21;go_ret;rw[d.out];exact Ss.yes (x':={a with ax:=2}) k xxs (bd.head e 0 _ Q rfl) rfl
 by_cases l:b=47
 .subst l;have d:Y (spot a 47 c=some (pattern {a with ax:=6} (c+1))):=by rw[spot,Y,N,N,G rfl]
  have m:=Yi i {a with ax:=6} (c+1) (g.setCell (O i 0)<|I 6) (ez.put k xxs (bd.head (x':={a with ax:=6}) e 0 _ Q rfl) rfl rfl rfl) p u Q;rw[show((c+1:Nat):Int)=c+1 from Q]at m;have v:=J m;go_in;go_wp21;go_call v;rintro H w ⟨rfl,m,n⟩;have s:=(bf.below<|(bf.refl i g).setCell 0<|I 6).trans m;have t:=J n;go_wp21;go_ret;rw[d.out];exact⟨true,rfl,s,.inl ⟨_,rfl,rfl,t⟩⟩
 have d:Y (spot a b c=none):=by rw[spot,Y,N hd,N h,N l]
 have q:((b:Int)==36)=false:=qB
 have r:((b:Int)==47)=false:=qB
 have m:¬(48:Int)<=b\/((48:Int)<=b/\¬(b:Int)<=57):=Q
 obtain f|⟨f,j⟩:=m
 .go_in;go_wp21;go_ret;rw[d.out];exact⟨false,rfl,bp _ _,.inr ⟨rfl,rfl,rfl⟩⟩
 go_in;go_wp21;go_ret;rw[d.out];exact⟨false,rfl,bp _ _,.inr ⟨rfl,rfl,rfl⟩⟩
def as7(e:Nat->Bool)(b:Nat)(g:b<256):(hj e).set b (.bool true)=hj λa=>if a=b then true else e a:=by
 apply yyy;intro a
 by_cases c:a<256
 .by_cases d:b=a
  .subst d;rw[zv<|by simp[hj];omega];simp[hj,c]
  rw[xe d];have f:¬a=b:=λc=>d c.symm
  simp[hj,c,f]
 rw[je<|by simp[hj];omega,je<|by simp[hj];omega]
def ah2(a:Sc)(d e bv:af)(c:Nat)(f:c<256):(gw a d e bv).set (c+14) (.bool true)=gw {a with row:=λb=>if b=c then true else a.row b} d e bv:=by
 have g:(hj a.row++[I a.rows,d,e,bv]).set c (.bool true)=hj (λb=>if b=c then true else a.row b)++[I a.rows,d,e,bv]:=by
  rw[List.set_append_left _ _<|by simp[hj];omega,as7 _ _ f]
 simp only[gw,yyl];rw[g]
def Xs(a:Sc)(b c bv:af)(d:Nat):(gw a b c bv).set 270 (I d)=gw {a with rows:=d} b c bv:=by
 have e:(hj a.row++[I a.rows,b,c,bv]).set 256 (I d)=hj a.row++[I d,b,c,bv]:=by
  rw[yyj _ _<|by simp[hj]];simp[hj]
 simp only[gw,yyl];rw[e]
def awx(b:a<256):val a<256:=by unfold val;split<;>omega
def adn(a:Sc)(b:Nat)(u:ae)(B:ez u i a)(w:Sm a)(r:b<256):
  Calls prog 88 #[.pointer<|some ⟨i,0,none⟩,.int .u8 b] u (Sd i u<|pg a b):=by
 have H:=J B;let⟨C,D,bv,h,l⟩:=B;have X:=h.xc 0;have V:=h.xf 0;have Z:=h.xc 7;have W:=h.xf 7;have R:=h.cell (k:=270)<|Xu a C D bv;have S:=h.xf 270;have t:Y (∀q,q<256->u.cell? (O i<|14+q)=some (.bool<|a.row q)/\u.frozen? (O i<|14+q)=false):=λq n=>by
  rw[yzq];exact⟨h.cell<|aue a C D bv q n,h.frozen<|by rw[dm];omega⟩
 have T:=w.ax;have U:=w.rows;clear w;have E:Y (((a.rows:Int)+1)=((a.rows+1:Nat):Int)):=J Q
 by_cases o:a.ax=18
 .have F:(a.ax:Int)=18:=Q
  rcases df (bn Qqg b)with p|p
  have k:pg a b=yt {a with ax:=17} (val b):=by rw[pg,G o,G p]
  have n:=awx r;let⟨mv,K⟩:=t (val b) n;rcases df (a.row<|val b)with d|d
  have c:Y (pg a b=none):=by rw[Y,k];rw[yt,G d]
  rw[d]at mv;clear k d;rotate_left
  have c:Y (pg a b=some {a with ax:=17,row:=λe=>if e=val b then true else a.row e,rows:=a.rows+1}):=by rw[Y,k];rw[yt,N<|by rw[d];simp]
  have y:Y _:=bd.head (x':={a with ax:=17,row:=λe=>if e=val b then true else a.row e,rows:=a.rows+1}) (bd.head (x':={a with ax:=17,row:=λe=>if e=val b then true else a.row e}) (bd.head (x':={a with ax:=17}) h 0 (I 17) Q rfl) (14+val b) (.bool true) Q<|by rw[yzq 14];exact ah2 _ _ _ _ _ n) 270 (I ((a.rows+1:Nat):Int)) Q<|Xs _ _ _ _ _;rw[d]at mv;clear k d;rotate_left
  have c:Y (pg a b=none):=by rw[pg,Y,G o,N<|by rw[p];simp]
  all_goals
   have j:=J p;clear o p;go_in;go_wp21;go_call Ew b _ r as g f ⟨rfl,rfl⟩;go_wp21;refine(sz Qqg b _ qG).mono ?_;rw[j.out];rintro g f ⟨rfl,rfl⟩;go_wp21;go_ret;rw[c.out];first|exact Sd.no (bf.below xxs) rfl|(rw[E.out];exact Sd.yes l (by repeat first|refine bf.setCell ?_ _ _|exact bf.refl _ _) y rfl)
 have F:((a.ax:Int)==18)=false:=qB
 have f:pg a b=if b=47 then some {a with ax:=if a.rows=0 then 21 else 19,bm:=0} else if b=92 then(if a.row 10=false\/a.row 92=false\/a.row 47=false then some {a with ax:=18} else none)else if b=10 then none else yt a b:=by rw[pg,N o]
 clear o;by_cases z:b=47
 subst z;have y:=bd.head (x':={a with ax:=19,bm:=0}) (bd.head (x':={a with ax:=19}) h 0 (I 19) Q rfl) 7 (I 0) Q rfl;by_cases g:a.rows=0
 have c:Y (pg a 47=some {a with ax:=21,bm:=0}):=by rw[Y,f,G rfl,G g]
 have m:(a.rows:Int)=0:=Q
 have y:=J (bd.head (x':={a with ax:=21,bm:=0}) y 0 (I 21) Q rfl);clear f g;rotate_left
 have c:Y (pg a 47=some {a with ax:=19,bm:=0}):=by rw[Y,f,G rfl,N g]
 have m:((a.rows:Int)==0)=false:=qB
 have y:=J y;clear f g;rotate_left
 by_cases A:b=92
 subst A;let⟨s,L⟩:=t 10 Q;let⟨v,M⟩:=t 92 Q;let⟨x,P⟩:=t 47 Q;simp only[Nat.reduceAdd]at s v x L M P;have y:=J (bd.head (x':={a with ax:=18}) h 0 (I 18) Q rfl);have k:Y (pg a 92=if a.row 10=false\/a.row 92=false\/a.row 47=false then some {a with ax:=18} else none):=by rw[Y,f,N,G rfl]
 clear f;generalize a.row 10=g at s k;generalize a.row 92=j at v k;generalize a.row 47=m at x k;cases g<;>cases j<;>cases m
 iterate 8
  have c:=k;simp only[Y]at c;simp at c;have c:=J c;clear k;rotate_left
 by_cases g:b=10
 subst g;have c:Y (pg a 10=none):=by rw[Y,f,N,N,G rfl]
 clear f;rotate_left
 have k:pg a b=yt a b:=by rw[f,N z,N A,N g]
 have j:((b:Int)==92)=false:=qB
 have m:((b:Int)==47)=false:=qB
 have s:((b:Int)==10)=false:=qB
 let⟨mv,K⟩:=t b r;clear f z A g;rcases df (a.row<|b)with d|d
 have c:Y (pg a b=none):=by rw[Y,k];rw[yt,G d]
 rw[d]at mv;clear k d;rotate_left
 have c:Y (pg a b=some {a with row:=λe=>if e=b then true else a.row e,rows:=a.rows+1}):=by rw[Y,k];rw[yt,N<|by rw[d];simp]
 have y:Y _:=bd.head (x':={a with row:=λe=>if e=b then true else a.row e,rows:=a.rows+1}) (bd.head (x':={a with row:=λe=>if e=b then true else a.row e}) h (14+b) (.bool true) Q<|by rw[yzq 14];exact ah2 _ _ _ _ _ r) 270 (I ((a.rows+1:Nat):Int)) Q<|Xs _ _ _ _ _;rw[d]at mv;clear k d
 all_goals
  go_in;go_wp21;go_ret;rw[c.out];(try rw[E.out]);first|exact Sd.no (bf.below<|by repeat first|refine bf.setCell ?_ _ _|exact bf.refl _ _) rfl|exact Sd.yes l (by repeat first|refine bf.setCell ?_ _ _|exact bf.refl _ _) y rfl
