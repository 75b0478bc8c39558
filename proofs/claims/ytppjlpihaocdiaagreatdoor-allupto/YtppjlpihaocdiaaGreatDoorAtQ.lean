import Derived.Deep.RegionHeld3
import Derived.Test.YtppjlpihaocdiaaGreatDoorAnQ
import Derived.Test.YtppjlpihaocdiaaGreatDoorAsQ
set_option linter.all false
set_option maxRecDepth 100000
set_option maxHeartbeats 16000000
namespace Go.Proofs.YtppjlpihaocdiaaGreatDoor
open Go.RowKit Go.Proofs.Tryz
variable{w u v:ae}{a b c d e:Nat}{s t:ag}{x y z:af}{p D:Int}{l:List af}{f:Bool}{g:List Nat}{h:Nat->Prop}{o:Option Addr}{r:List UInt8}{A:Nat->Bool}{B:Nat->Nat->Bool}{C:Nat->Nat->Prop}(i:Nat)(S T:ag)(V X:af)(j k m n:Nat)(Z:Int)(W:ae)
section
structure Fg(p:Fp)(ob:Option Nat)(w w':ae):Prop where
 os:w'.os=w.os
 tape:w'.tape=w.tape
 output:w'.output=w.output
 size:w.heap.size<=w'.heap.size
 block:∀k,k<w.heap.size->k≠p.kb->k≠p.eb->ob≠some k->w'.heap[k]?=w.heap[k]?
def Fg.refl(p:Fp)(ob:Option Nat)(w:ae):Fg p ob w w:=⟨rfl,rfl,rfl,ah,λ_ _ _ _ _=>rfl⟩
def Fg.trans{p:Fp}{ob:Option Nat}{j k w:ae}(a:Fg p ob j k)(b:Fg p ob k w):Fg p ob j w:=
 ⟨b.os.trans a.os,b.tape.trans a.tape,b.output.trans a.output,bq a.size b.size,λi e f g h=>(b.block i (ew e a.size) f g h).trans<|a.block i e f g h⟩
def Fm.fg{p:Fp}{ob:Option Nat}{w w':ae}(a:Fm p w w'):Fg p ob w w':=⟨a.os,a.tape,a.output,a.size,λg b e f _=>a.block g b e f⟩
structure Gs(w wr:ae)(p:Fp)(ob:Option Nat)(c:co):Prop where
 fd:et wr p
 c4:∃ao cap,wr.cell? (O p.fb 4)=some (.slice ao c.length cap)/\∀o,ob=some o->ao=some (O o 0)
 cs:∀(k:Nat)(q:Int×Int),c[k]?=some q->∃o,ob=some o/\wr.cell? (O o<|k*2)=some (I q.1)/\wr.cell? (O o<|k*2+1)=some (I q.2)/\wr.frozen? (O o<|k*2)=false/\wr.frozen? (O o<|k*2+1)=false
 fr:Fg p ob w wr
 ap:∀o,ob=some o->p.N0<=o/\o≠p.fb/\o≠p.kb/\o≠p.eb/\o<wr.heap.size
section
variable {w wr w':ae} {p:Fp} {ob:Option Nat} {c:co}
def Gs.base(a:Gs w wr p ob c):Gs wr wr p ob c:=⟨a.fd,a.c4,a.cs,Fg.refl _ _ _,a.ap⟩
def Gs.trans(e:Gs w wr p ob c){b:co}(a:Gs wr w' p ob b):Gs w w' p ob b:=⟨a.fd,a.c4,a.cs,e.fr.trans a.fr,a.ap⟩
theorem Gs.keep(h:Gs w wr p ob c)(r:et w' p)(s:w'.heap[p.fb]?=wr.heap[p.fb]?)(k:∀a,ob=some a->w'.heap[a]?=wr.heap[a]?)(t:Fg p ob w w')(y:wr.heap.size<=w'.heap.size:=by omega):Gs w w' p ob c:=by
 let⟨ao,n,u,v⟩:=h.c4;refine⟨r,⟨ao,n,(ac 4 s).trans u,v⟩,λo q x=> ?_,t,λa e=> ?_⟩
 .let⟨a,e,f,g,i,j⟩:=h.cs o q x;have l:∀b,w'.cell? (O a b)=wr.cell? (O a b):=λb=>ac b (k a e)
  have m:∀b,w'.frozen? (O a b)=wr.frozen? (O a b):=λb=>ad b<|k a e
  grind
 let⟨f,g,i,j,b⟩:=h.ap a e;omega
def Gs.grow(b:Gs w wr p ob c)(a:Below wr.heap.size wr w'):Gs w w' p ob c:=
 b.keep (b.fd.grow a) (a.block _ b.fd.lt) (λf e=>a.block _ (b.ap f e).2.2.2.2) (b.fr.trans<|Fm.fg<|Below.fm a) a.size
def Gs.fm(a:Gs w wr p ob c)(g:et w' p)(b:Fm p wr w'):Gs w w' p ob c:=
 a.keep g (b.block _ a.fd.lt a.fd.fk a.fd.fe) (λf e=>b.block _ (a.ap f e).2.2.2.2 (a.ap f e).2.2.1 (a.ap f e).2.2.2.1) (a.fr.trans<|Fm.fg b) b.size
def Gs.bj(e:Gs w wr p ob c){b:Nat}(a:bf b wr w')(t:w.heap.size<=b)(i:p.N0<=b)(g:b≠p.fb)(j:b≠p.kb)(k:b≠p.eb)(l:ob≠some b):Gs w w' p ob c:=
 e.keep (e.fd.bj a i g j k) (a.block _<|λf=>g f.symm) (λs f=>a.block _<|λm=>l<|by rw[f,m]) ⟨a.os.trans e.fr.os,a.tape.trans e.fr.tape,a.output.trans e.fr.output,by rw[a.size];exact e.fr.size,λh n o q r=>(a.block h Q).trans<|e.fr.block h n o q r⟩ (by rw[a.size];exact ah)
theorem Gs.put(g:Gs w wr p ob c)(o:a<c.length)(l:ob=some b)(i n:Int):Gs w ((wr.setCell (O b<|a*2)<|I i).setCell (O b<|a*2+1)<|I n) p ob (c.set a (i,n)):=by
 let⟨y,r,z,A,M⟩:=g.ap b l;have h:bf b wr ((wr.setCell (O b<|a*2)<|I i).setCell (O b<|a*2+1)<|I n):=xxs.setCell _ _;let⟨ao,L,B,C⟩:=g.c4;have D:=h.block p.fb<|λe=>r e.symm;refine⟨g.fd.bj h y r z A,⟨ao,L,?_,C⟩,λj U f=> ?_,⟨h.os.trans g.fr.os,h.tape.trans g.fr.tape,h.output.trans g.fr.output,by rw[h.size];exact g.fr.size,λj m E F s=>(h.block j<|λe=>s<|by rw[l,e]).trans<|g.fr.block j m E F s⟩,λt e=>by simp_all⟩
 .rw[tj];exact(ac 4 D).trans B
 have m:j<c.length:=by
  have:=(jy.1 f).1;simpa using this
 let⟨t,u,v,x,H,K⟩:=g.cs j c[j]<|dy m;rw[l]at u;cases u
 let⟨P,q,qa,R,S,T⟩:=g.cs a c[a]<|dy o;rw[l]at q;cases q
 refine⟨b,l,?_,?_,by simp_all,by simp_all⟩
 .rw[jm (h:=λe=>qE)];by_cases k:j=a
  .subst k;rw[zv o]at f;cases f
   rw[qz (h:=v)]
  rw[xe<|λe=>k e.symm]at f;rw[dy m]at f;cases f
  rw[jm (h:=λe=>qE)];exact v
 by_cases k:j=a
 .subst k;rw[zv o]at f;cases f
  exact qz (h:=(jm (h:=λe=>qE) ..).trans x) ..
 rw[xe<|λe=>k e.symm]at f;rw[dy m]at f;cases f
 rw[jm (h:=λe=>qE),jm (h:=λe=>qE)];exact x
end
def yj(p:Fp)(n:Nat):Prop:=∀(w:ae)(i j:Nat)(c:co)(ob:Option Nat),Gs w w p ob c->c.length=p.eu->i<=j->j<=p.s.size->bi p.s p.bc n i j->
  Calls prog 186 #[.pointer<|some ⟨p.fb,0,none⟩,.int .i64 n,.int .i64 i,.int .i64 j] w λe w'=>e=.returned (.tuple #[])/\∃c',Gq p.s p.bc n i j c c'/\c'.length=c.length/\Gs w w' p ob c'
structure Gl(w wr:ae)(p:Fp)(ob:Option Nat)(c:co)(d:Nd)(ao:Option Addr)(cc:Nat):Prop where
 gs:Gs w wr p ob c
 nd:bd wr w.heap.size (dk d<|.slice ao d.ba.length cc)
 fl:p.fb<w.heap.size
 kl:p.kb<w.heap.size
 el:p.eb<w.heap.size
 ol:∀o,ob=some o->o<w.heap.size
 nl:p.N0<=w.heap.size
 sa:Ad wr p.N0 d ao
section
variable {w wr w':ae} {p:Fp} {ob:Option Nat} {c:co} {d:Nd} {ao:Option Addr} {cc:Nat}
def Gl.lt(a:Gl w wr p ob c d ao cc):w.heap.size<wr.heap.size:=a.nd.lt (by rw[gy];omega)
theorem Fg.below{p:Fp}{ob:Option Nat}{w w':ae}(a:Fg p ob w w')(i:p.N0<=p.kb)(j:p.N0<=p.eb)(f:∀e,ob=some e->p.N0<=e)(k:p.N0<=w.heap.size:=by omega):Below p.N0 w w':=
 ⟨a.os,a.tape,a.output,a.size,λb h=>a.block b Q Q Q (λg=>qE)⟩
def Gl.call(a:Gl w wr p ob c d ao cc){f:co}(e:Gs wr w' p ob f):Gl w w' p ob f d ao cc:=by
 have g:=a.lt;have i:=a.kl;have j:=a.el;refine⟨a.gs.trans e,a.nd.cw<|e.fr.block _ g Q Q (λb=>by have:=a.ol _ b;omega),a.fl,a.kl,a.el,a.ol,a.nl,a.sa.below<|Fg.below e.fr a.gs.fd.nk a.gs.fd.ne (λh b=>(a.gs.ap h b).1) (by have:=a.nl;omega)⟩
def Gl.fm(a:Gl w wr p ob c d ao cc)(b:et w' p)(e:Fm p wr w'):Gl w w' p ob c d ao cc:=a.call<|a.gs.base.fm b e
def Gl.grow(a:Gl w wr p ob c d ao cc)(b:Below wr.heap.size wr w'):Gl w w' p ob c d ao cc:=a.call<|a.gs.base.grow b
def Gl.bj(a:Gl w wr p ob c d ao cc){e:Nat}(b:bf e wr w')(l:w.heap.size<e:=by omega):Gl w w' p ob c d ao cc:=by
 have h:=a.kl;have i:=a.el;have j:=a.fl;have k:=a.nl;exact⟨a.gs.bj b Q Q Q Q Q (λf=>by have:=a.ol e f;omega),a.nd.bj b,a.fl,a.kl,a.el,a.ol,a.nl,a.sa.below ⟨b.os,b.tape,b.output,by rw[b.size];exact ah,λg m=>b.block g Q⟩⟩
end
end
section
attribute [local go_sem↓] Ba ze Fb Fh Go.wp_at_zero Go.wp_at_succ
def flat(l:co):List af:=l.flatMap λq=>[I q.1,I q.2]
def Ui:∀(a:co),(flat a).length=a.length*2
 | []=>rfl
 |q::a=>by
  have:=Ui a;simp only[flat,zyd,ga,xv,List.length_nil]at this|-;omega
theorem Uh:∀(c:co)(b:Nat)(d:Int×Int),c[b]?=some d->(flat c)[b*2]?=some (I d.1)/\(flat c)[b*2+1]?=some (I d.2)
 | [],b,d,h=>by simp at h
 |a::c,0,d,h=>by
  have:a=d:=qK h
  subst this;exact⟨rfl,rfl⟩
 |a::c,b+1,d,h=>by
  have e:c[b]?=some d:=qK h
  let⟨f,g⟩:=Uh c b d e;have i:flat (a::c)=[I a.1,I a.2]++flat c:=rfl;grind
def aos(a b:co):flat (a++b)=flat a++flat b:=by simp[flat,List.flatMap_append]
def aou(c:co):∀b∈flat c,b.oneCell'=true:=by
 intro b a
 simp only[flat,List.mem_flatMap]at a;let⟨d,_,a⟩:=a;simp at a;obtain rfl|rfl:=a<;>rfl
theorem aot{c:co}(m:rx w a c):∀(b:Nat)(f:af),(flat c)[b]?=some f->w.cell? (O a b)=some f:=by
 intro b f d
 have o:b<c.length*2:=by
  have:=(jy.1 d).1;rw[Ui]at this;exact this
 have n:b/2<c.length:=Q
 have g:c[b/2]?=some c[b/2]:=dy n;let⟨h,i⟩:=Uh c (b/2) c[b/2] g;let⟨j,l,_,_⟩:=m (b/2) c[b/2].1 c[b/2].2 g;grind
def aft(a b:af):(W.alloc<|.cells #[a,b] 48).ownsRow W.heap.size 48 2 (aa W.heap.size 1 1) 1 [a,b]:=
 ⟨rfl,.inr ⟨W.heap.size,1,#[a,b],rfl,ah,heap_alloc_last W _,ah,qH,rfl,rfl⟩⟩
theorem Wq{l:co}(k:w.ownsRow a 48 2 (aa b c d) c (flat l)):rx w b l:=by
 intro m n o p
 obtain⟨q,_⟩|⟨x,y,h,r,_,i,_,_,_,s⟩:=k.2
 .cases q
 cases r
 let⟨t,u⟩:=Uh l m (n,o) p;have j:∀e g,(flat l)[e]?=some g->w.cell? (O b e)=some g:=by
  intro e g v
  rw[yya w b e h 48 (0,0) i];have:h.toList[e]?=some g:=by
   have f:(h.toList.take<|c*2)[e]?=some g:=by rw[s,v]
   rw[Cg]at f;split at f
   .exact f
   cases f
  simpa using this
 have f:∀e,w.frozen? (O b e)=false:=λe=>by simp[World.frozen?,i]
 grind
theorem et.Kl{c:Fp}(a:et w c)(e:af):et (w.setCell (O c.fb 4) e) c:=by
 have n:∀b,b≠c.fb->(w.setCell (O c.fb 4) e).heap[b]?=w.heap[b]? :=λb i=>er _ _ _ _ i
 have j:∀d b,d≠c.fb->(w.setCell (O c.fb 4) e).cell? (O d b)=w.cell? (O d b):=λd b k=>ac b<|n d k
 have o:∀d b,d≠c.fb->(w.setCell (O c.fb 4) e).frozen? (O d b)=w.frozen? (O d b):=λd b k=>ad b<|n d k
 have h:∀b,b≠4->(w.setCell (O c.fb 4) e).cell? (O c.fb b)=w.cell? (O c.fb b):=λb i=>jm (h:=λl=>i qE) ..
 have p:(w.setCell (O c.fb 4) e).heap.size=w.heap.size:=by simp[World.setCell]
 have s:Below c.N0 w (w.setCell (O c.fb 4) e):=(bp _ _).setCell a.nf _;let⟨t,u,q,r,v⟩:=a.De.kn;refine⟨(h 0 Q).trans a.c0,(h 1 Q).trans a.c1,(h 2 Q).trans a.c2,(h 3 Q).trans a.c3,a.tree.below s,⟨t,u,λf g=>?_,λf g=>?_,v⟩,a.nf,a.nk,a.ne,a.fk,a.fe,a.ke,by rw[p];exact a.kl,by rw[p];exact a.el,a.js,a.wf⟩
 .exact⟨(j _ _ a.fk.symm).trans (q f g).1,(o _ _ a.fk.symm).trans (q f g).2⟩
 refine⟨λm x y=>(j _ _ a.fe.symm).trans<|(r f g).1 m x y,λm z=>?_⟩;rw[j _ _ a.fe.symm,o _ _ a.fe.symm];exact(r f g).2 m z
structure Ly(w wr:ae)(p:Fp)(B k:Nat)(v:af):Prop where
 fd:et wr p
 c4:wr.cell? (O p.fb 4)=some v
 f4:wr.frozen? (O p.fb 4)=false
 own:wr.ownsRow B 48 2 v k (flat<|List.replicate k ((-1:Int),(-1:Int)))
 bl:Below p.N0 w wr
 nz:k=0->v=.slice none 0 0
theorem Ly.more{A wr i:ae}{h:Fp}(k:Ly A wr h a b x)(K:h.fb<a/\h.kb<a/\h.eb<a/\a<=wr.heap.size)
  (t:i.ownsRow a 48 2 (aa c (b+1) d) (b+1) (flat (List.replicate b ((-1:Int),(-1:Int)))++[I<|-1,I<|-1]))
  (o:(wr.alloc<|.cells #[I<|-1,I<|-1] 48).grownBy i x.ownBlock):
  Ly A (i.setCell (O h.fb 4)<|aa c (b+1) d) h a (b+1) (aa c (b+1) d)/\i.cell? (O h.fb 4)=some x/\i.frozen? (O h.fb 4)=false:=by
 let⟨m,u,q,U⟩:=K;have R:(wr.alloc<|.cells #[I<|-1,I<|-1] 48).heap.size=wr.heap.size+1:=qD
 have L:∀e,x.ownBlock=some e->a<=e/\e<wr.heap.size:=λe j=>k.own.lt e j
 have n:∀e,e<wr.heap.size->e<a->i.heap[e]?=wr.heap[e]? :=λe j S=>by
  rw[o.block e Q (λp=>qE),im _ _ _ j]
 have M:=k.fd.nf;have V:=o.size;have W:=(t.lt c rfl).1;have v:Below h.N0 wr i:=⟨o.os,o.tape,o.output,Q,λe j=>n e Q Q⟩;have P:et i h:=by
  have f:=k.fd;have l:∀g b,g<a->i.cell? (O g b)=wr.cell? (O g b):=λg b r=>ac b<|n g Q r
  have w:∀g b,g<a->i.frozen? (O g b)=wr.frozen? (O g b):=λg b r=>ad b<|n g Q r
  let⟨B,C,y,z,D⟩:=f.De.kn;refine⟨(l _ _ m).trans f.c0,(l _ _ m).trans f.c1,(l _ _ m).trans f.c2,(l _ _ m).trans f.c3,f.tree.below v,⟨B,C,λe j=>⟨(l _ _ u).trans (y e j).1,(w _ _ u).trans (y e j).2⟩,λe j=>⟨λs E F=>(l _ _ q).trans<|(z e j).1 s E F,λs H=>?_⟩,D⟩,f.nf,f.nk,f.ne,f.fk,f.fe,f.ke,Q,Q,f.js,f.wf⟩;rw[l _ _ q,w _ _ q];exact(z e j).2 s H
 have f:=(ac 4<|n h.fb Q m).trans k.c4;have g:=(ad 4<|n h.fb Q m).trans k.f4;refine⟨⟨et.Kl P _,qz _ _ _ f,by rw[jf];exact g,?_,(k.bl.trans v).setCell M _,λp=>Q⟩,f,g⟩;have p:flat (List.replicate (b+1) ((-1:Int),(-1:Int)))=flat (List.replicate b ((-1:Int),(-1:Int)))++[I<|-1,I<|-1]:=by
  rw[List.replicate_succ',aos];rfl
 rw[p];exact Qqo t λe j=>er _ _ _ _ (by
  have:c=e:=by simpa[Value.ownBlock]using j
  simp only;omega)
theorem Ly.gs{u wr:ae}{b:Fp}(d:Ly u wr b a b.eu x)(o:b.fb<a/\b.kb<a/\b.eb<a)(v:b.N0<=a):Gs wr wr b x.ownBlock (tc b.eu)/\(tc b.eu).length=b.eu:=by
 have i:(tc b.eu).length=b.eu:=by simp[tc]
 let⟨w,y,z⟩:=o;refine⟨⟨d.fd,?_,λj k l=>?_,Fg.refl _ _ _,λg e=>?_⟩,i⟩
 .rw[i];obtain⟨e,m⟩|⟨h,n,p,f,_⟩:=d.own.2
  .exact⟨none,0,by rw[d.c4,e,m],λg c=>by rw[e]at c;cases c⟩
  exact⟨some<|O h 0,n,by rw[d.c4,f],λg c=>by rw[f]at c;have:h=g:=(by simpa[Value.ownBlock]using c);rw[this]⟩
 .obtain⟨e,m⟩|⟨h,n,p,f,_⟩:=d.own.2
  .grind
  have c:=d.own;rw[f]at c;let⟨q,r,s,t⟩:=Wq c j k.1 k.2 l;exact⟨h,by rw[f];rfl,q,r,s,t⟩
 have:=d.own.lt g e;omega
def ap2:(prog.info? 48).map (λa=>(a.zero,a.size,a.bytes))=some (some<|.agg #[I 0,I 0],2,16):=qF
end
section
attribute [local go_sem↓] Ba ze Fb Fh Go.wp_at_zero Go.wp_at_succ
def Rx(R:Nat->Nat->Prop)(pl:Nat)(em:Bool)(i j:Nat):Prop:=R i j/\(em=false->¬(i=pl/\j=pl))
structure Fj(w wr:ae)(p:Fp)(v:af):Prop where
 fd:et wr p
 c4:wr.cell? (O p.fb 4)=some v
 f4:wr.frozen? (O p.fb 4)=false
 fm:Fm p w wr
def Fj.of{w wr c:ae}{b:Fp}(a:Fj w wr b x)(e:et c b)(d:Fm b wr c):Fj w c b x:=
 ⟨e,(ac 4<|d.block _ a.fd.lt a.fd.fk a.fd.fe).trans a.c4,(ad 4<|d.block _ a.fd.lt a.fd.fk a.fd.fe).trans a.f4,a.fm.trans d⟩
def Fj.grow{e wr f:ae}{c:Fp}{d:af}(b:Fj e wr c d)(a:Below wr.heap.size wr f):Fj e f c d:=b.of (b.fd.grow a)<|Below.fm a
def Fj.bj{b wr w':ae}{a:Fp}{g:af}{f:Nat}(c:Fj b wr a g)(d:bf f wr w')(h:b.heap.size<=f:=by omega)(j:a.fb<b.heap.size:=by omega)(k:a.kb<b.heap.size:=by omega)(l:a.eb<b.heap.size:=by omega):Fj b w' a g:=by
 have i:=c.fd.nf;have e:=d.block a.fb Q;exact⟨c.fd.bj d,(ac 4 e).trans c.c4,(ad 4 e).trans c.f4,c.fm.bj d h⟩
def Qjc(e:Nat->Bool)(b:Nat)(f:b<82):(dj e).set b (.bool false)=dj (λa=>if a=b then false else e a):=by
 apply yyy;intro a
 by_cases c:a<82
 .rw[qb _ c];by_cases d:b=a
  .subst d;rw[zv<|by rw[ek];exact c];simp
  rw[xe d,qb _ c];simp[Ne.symm d]
 rw[je<|by rw[tj,ek];omega,je<|by rw[ek];omega]
def acl{a:Fp}(c:et w a)(d:w.cell? (O a.fb 4)=some x)(e:w.frozen? (O a.fb 4)=false)(b:Below w.heap.size w u):et u a/\(∃x,u.cell? (O a.fb 4)=some x)/\u.frozen? (O a.fb 4)=false:=
 ⟨c.grow b,⟨x,(ac 4<|b.block _ c.lt).trans d⟩,(ad 4<|b.block _ c.lt).trans e⟩
theorem aoc(a:Fp)(h:Nat)(p:Bool)(X:af)(x:ae)(c3:h<=a.s.size)(y:et x a)(aV:x.cell? (O a.fb 4)=some X)(aW:x.frozen? (O a.fb 4)=false)(aX:vx a a.root)(aY:yj a a.root)(c4:a.eu<=1000):
  Calls prog 147 #[.pointer<|some ⟨a.fb,0,none⟩,.int .i64 h,.bool p] x
   λt a9=>(Below a.N0 x a9/\et a9 a/\(∃w,a9.cell? (O a.fb 4)=some w)/\a9.frozen? (O a.fb 4)=false)/\((t=.returned (.tuple #[.slice none 0 0,.bool false])/\∀c f,h<=c->c<=a.s.size->¬Rx (bi a.s a.bc a.root) h p c f)\/
    ∃aI c f M aU,t=.returned (.tuple #[.slice (some ⟨aI,0,none⟩) (a.eu+1) M,.bool true])/\a.N0<=aI/\zw a.s.size (Rx (bi a.s a.bc a.root) h p) h c f/\rx a9 aI (((c:Int),(f:Int))::aU)/\aU.length=a.eu/\Gq a.s a.bc a.root c f (tc a.eu) aU):=by
 have c5:=J y;have aZ:=J (vz a.s y.wf (a.root+1) a.root Q);have b0:Y (Fj x x a X):=⟨y,aV,aW,Fm.refl _ _⟩;have c6:=y.js;have R:=y.lt;have S:=y.kl;have aA:=y.el;have bI:=y.nf;have aJ:=y.nk;have aK:=y.ne;have bJ:=J aX;have bK:=J aY;have c7:=y.tree.xm;let⟨b1,b2,b3,b4,b5⟩:=yyf ap2;go_in;go_wp21;go_loopw [8] (λw wr=>∃c:Nat,w=.int .i64 c/\h<=c/\c<=a.s.size+1/\Fj x wr a X/\Y (∀u l,h<=u->u<c->¬Rx (bi a.s a.bc a.root) h p u l)) (λw _=>a.s.size+1-(intOf w).toNat)
 .exact⟨h,rfl,ah,Q,b0,λu l j v=>Q⟩
 obtain⟨c,rfl,bL,c8,hF,aL⟩:=hrel;have T:=J hF;have bM:=hF.fd.c0;have bN:=hF.fd.c1;have bO:=hF.fd.tree.c2;by_cases aM:c<=a.s.size
 .go_wp21;have d:=bJ wr c T.fd aM;go_call d;rintro t aB ⟨A,rfl,d,b,k⟩;have Z:=J<|T.of b k;have g:=J d;have c9:=Z.fm.size;have B:=Z.fd.c1;have cA:(0:Int)<=c:=Q
  have cC:(c:Int)<82:=Q
  have bP:(c=h/\p=false)\/(((c:Int)==h)=false/\¬(c=h/\p=false))\/(((c:Int)==h)=true/\p=true):=by
   by_cases U:c=h
   .simp_all
   exact .inr<|.inl ⟨qB,λj=>U j.1⟩
  obtain⟨d,b⟩|⟨e,F⟩|⟨e,C⟩:=bP
  have e:((c:Int)==h)=true:=by rw[d];simp
  have n:Y (c=h/\p=false):=⟨d,b⟩;have E:(!p)=true:=by rw[b];rfl
  clear d b
  focus go_wp2_with (first
    |(refine gm 9 rfl rfl 246 rfl _ ld ?_;intro b6 b7 m o;have a0:=J m;have a1:=J o;clear m o)
    |(refine hw rfl 246 (.tmp 9) (.tmp 32) rfl _ rfl _ rfl _ a0 (by rw[ek,ek]) (gh _) (oh _) ?_;intro aC d i;have b:=J ((Z.grow a1).bj i Q R S aA);have s:=J d;have q:=b.fd.c1;have z:=d.cell<|qb A (k:=c);have r:=d.frozen (k:=c) (by rw[ek];omega);clear d i B))
  have aD:Y (bd (aC.setCell ⟨aB.heap.size,c,none⟩<|.bool false) aB.heap.size<|dj λk=>if k=c then false else A k):=by
   rw[Y,<-Qjc A c Q];exact s.put c (by rw[ek];omega) _
  have aE:Y (Fj x (aC.setCell ⟨aB.heap.size,c,none⟩<|.bool false) a X):=b.bj xxs Q R S aA;have a2:Y (io (λk=>if k=c then false else A k)<|Rx (bi a.s a.bc a.root) h p c):=λf H=>by
   by_cases a3:f=c
   .subst a3;exact⟨λj=>by simp at j,λj=>cb ⟨n.1,n.1⟩<|j.2 n.2⟩
   show(if f=c then false else A f)=true↔_
   rw[N a3];exact⟨λj=>⟨(g f H).1 j,λ_ v=>a3<|by rw[v.2,n.1]⟩,λj=>(g f H).2 j.1⟩
  generalize(λk=>if k=c then false else A k)=V at*
  rotate_left
  have a2:Y (io A<|Rx (bi a.s a.bc a.root) h p c):=λf H=>⟨λj=>⟨(g f H).1 j,λn v=>F ⟨v.1,n⟩⟩,λj=>(g f H).2 j.1⟩
  clear F
  focus go_wp2_with (first
    |(refine gm 9 rfl rfl 246 rfl _ ld ?_;intro b6 b7 m o;have a0:=J m;have a1:=J o;clear m o)
    |(refine hw rfl 246 (.tmp 9) (.tmp 32) rfl _ rfl _ rfl _ a0 (by rw[ek,ek]) (gh _) (oh _) ?_;intro aC d i;have b:=J ((Z.grow a1).bj i Q R S aA);have s:=J d;have q:=b.fd.c1;have z:=d.cell<|qb A (k:=c);have r:=d.frozen (k:=c) (by rw[ek];omega);clear d i B))
  have aE:=b;have aD:=s;generalize A=V at*
  rotate_left
  have a2:Y (io A<|Rx (bi a.s a.bc a.root) h p c):=λf H=>⟨λj=>⟨(g f H).1 j,λn v=>by simp_all⟩,λj=>(g f H).2 j.1⟩
  have E:(!p)=false:=by rw[C];rfl
  clear C
  focus go_wp2_with (first
    |(refine gm 9 rfl rfl 246 rfl _ ld ?_;intro b6 b7 m o;have a0:=J m;have a1:=J o;clear m o)
    |(refine hw rfl 246 (.tmp 9) (.tmp 32) rfl _ rfl _ rfl _ a0 (by rw[ek,ek]) (gh _) (oh _) ?_;intro aC d i;have b:=J ((Z.grow a1).bj i Q R S aA);have s:=J d;have q:=b.fd.c1;have z:=d.cell<|qb A (k:=c);have r:=d.frozen (k:=c) (by rw[ek];omega);clear d i B))
  have aE:=b;have aD:=s;generalize A=V at*
  rotate_left
  all_goals
   go_loopw [10] (λw a4=>∃f:Nat,w=.int .i64 ((f:Int)-1)/\c<=f/\f<=a.s.size+1/\Fj x a4 a X/\bd a4 aB.heap.size (dj V)/\Y (∀l,f<=l->l<=a.s.size->¬Rx (bi a.s a.bc a.root) h p c l)) (λw _=>(intOf w+1).toNat)
   .exact⟨a.s.size+1,by congr 1;omega,Q,ah,aE,aD,λl n v=>Q⟩
   obtain⟨f,rfl,cE,H,aN,aF,aO⟩:=hrel;have s:=J aN;have b8:=J aF;by_cases cF:c<f
   .obtain⟨d,rfl⟩:∃d,f=d+1:=⟨f-1,Q⟩;rw[show(((d+1:Nat):Int)-1)=(d:Int)by omega];have aP:=aF.cell<|qb V (k:=d);have cG:(0:Int)<=d:=Q
    have cH:(d:Int)<82:=Q
    have a3:(c:Int)<=d:=Q
    rcases df (V d)with z|z
    .have a5:=J ((a2 d Q).1 z);rw[z]at aP;have aG:=s.c4;have b:=s.f4;have cI:=s.fm.size;have g:Y (Ly x (wr.setCell ⟨a.fb,4,none⟩<|.slice none 0 0) a wr.heap.size 0<|.slice none 0 0):=⟨et.Kl s.fd _,qz _ _ _ aG,by rw[jf];exact b,yyc _ _ _ _,(s.fm.below aJ aK).setCell bI _,λ_=>rfl⟩;clear z aP aG b;have q:=s.c4;have r:=s.f4;have i:=b8.cell<|qb V (k:=d);rw[(a2.out d Q).2 a5.out]at i;go_wp21;have e:Y (∃m,m=wr.heap.size):=⟨_,rfl⟩;let⟨m,b⟩:=e.out;have o:Y (a.fb<m/\a.kb<m/\a.eb<m/\a.N0<=m):=by rw[Y,b];omega
     have aQ:Y (Ly x (wr.setCell ⟨a.fb,4,none⟩<|.slice none 0 0) a m 0<|.slice none 0 0):=by rw[b];exact g
     have aR:Y (m<=(wr.setCell ⟨a.fb,4,none⟩<|.slice none 0 0).heap.size):=by rw[Y,b];simp[World.setCell]
     clear b e g q r i;generalize wr.setCell ⟨a.fb,4,none⟩ (.slice none 0 0)=cJ at aQ aR|-;go_loopw [11] (λw a4=>∃(k:Nat)(B:af),w=.int .i64 k/\k<=a.eu/\Ly x a4 a m k B/\m<=a4.heap.size) (λw _=>a.eu-(intOf w).toNat)
     .exact⟨0,_,rfl,ey _,aQ,aR⟩
     obtain⟨k,B,rfl,cK,b,i⟩:=hrel;have g:=J b;have E:=J i;have bQ:=b.fd.c0;have bR:=b.fd.tree.c1;have bS:=b.c4;clear b i aQ aR;by_cases cM:k<a.eu
     .have q:Y (∀{b:ae} {C M:Nat},b.ownsRow m 48 2 (.slice (some ⟨C,0,none⟩) (k+1) M) (k+1) (flat (List.replicate k ((-1:Int),(-1:Int)))++[.int .i64<|-1,.int .i64<|-1])->(wr.alloc<|.cells #[.int .i64<|-1,.int .i64<|-1] 48).grownBy b B.ownBlock->_):=fun {b C M} n v=>g.more ⟨o.1,o.2.1,o.2.2.1,E⟩ n v
      go_wp2_with (at_builtin;refine wpList_append_lies _ rfl _ _ 41 rfl m 48 b1 _ 2 16 underlying41 b2 b3 b4 b5 rfl Q B k (flat<|List.replicate k ((-1:Int),(-1:Int))) rfl (g.own.alloc _) ⟨wr.heap.size,0,none⟩ 1 1 [.int .i64<|-1,.int .i64<|-1] rfl rfl (World.news_of_block (cs:=#[.int .i64<|-1,.int .i64<|-1]) (t:=48) (fr:=(0,0))<|heap_alloc_last wr _) (λb9 U=>by simp at U;subst U;rfl) Q qH Q (by have:=E.out;simp;omega) (wr.heap.size+1) qD ?_;intro C M r i F aS K;let⟨e,a6,a7⟩:=q.out i F;have L:=J e;have P:Y (m<=(r.setCell ⟨a.fb,4,none⟩<|.slice (some ⟨C,0,none⟩) (k+1) M).heap.size):=(by have n:=F.size;have v:=E.out;simp at n;simp[Y,World.setCell];omega);clear e i F aS K);go_roundw
      .exact⟨k+1,_,qJ,Q,L,P⟩
      simp[intOf];omega
     have bT:k=a.eu:=Q
     subst bT;have a8:=g.fd.tree.c2;let⟨b,e⟩:=g.gs ⟨o.1,o.2.1,o.2.2.1⟩ o.2.2.2;have bU:=J b;have bA:=J e;have bD:Y (∀i,B.ownBlock=some i->m<=i/\i<wr.heap.size):=λi a6=>g.own.lt i a6
     clear b e;go_wp21;have b:=bK wr c d (tc a.eu) B.ownBlock bU bA Q Q a5.1;go_call b;clear b;rintro t b ⟨rfl,r,qa,D,e⟩;have bE:=J qa;have a7:Y (r.length=a.eu):=by rw[Y,D];exact bA
     have bV:=J e;have cN:=e.fr.size;have aG:=(bz (w:=wr) (w':=b) (a:=⟨a.fb,4,none⟩)<|e.fr.block a.fb g.fd.lt g.fd.fk g.fd.fe (λt=>by have:=(bD _ t).1;have:=o.1;omega)).trans g.c4;have K:Y (b.frozen? ⟨a.fb,4,none⟩=false/\b.cell? ⟨a.fb,4,none⟩=some B/\et b a):=⟨(hz (w:=wr) (w':=b) (a:=⟨a.fb,4,none⟩)<|e.fr.block a.fb g.fd.lt g.fd.fk g.fd.fe (λt=>by have:=(bD _ t).1;have:=o.1;omega)).trans g.f4,aG,e.fd⟩;have bF:=J (g.bl.trans<|Fg.below e.fr aJ aK (λq t=>(e.ap q t).1) (by have:=E.out;have:=o.2.2.2;omega));have aH:Y (zw a.s.size (Rx (bi a.s a.bc a.root) h p) h c d):=⟨bL,Q,Q,a5,λu l P j=>aL u l P j,λl j L=>by
      have:=aZ c l aM L.1;exact aO l Q Q L⟩
     have cP:=e.fd.lt;clear qa D e bQ bR a8 bS;by_cases a8:a.eu=0
     .have aT:=g.nz a8;subst aT;have e:r=[]:=Ex.1 (by rw[a7.out];exact a8);have D:=J e;clear e;have e:=J a8;go_wp21;go_ret2;have qa:a.N0<=b.heap.size:=by have:=E.out;have:=o.2.2.2;omega
      have n:Below b.heap.size b (b.alloc<|.cells #[.int .i64 c,.int .i64 d] 48):=(bp _ _).alloc ah _;refine⟨⟨bF.trans<|n.mono qa,acl K.2.2 K.2.1 K.1 n⟩,.inr ⟨b.heap.size,c,d,1,r,by rw[e.out];rfl,qa,aH,?_,a7,bE⟩⟩;rw[D.out];exact Wq (l:=[((c:Int),(d:Int))])<|aft b _ _
     let⟨q,bW,aT,cR,cS⟩:=g.own.form Q;subst aT;have bX:Y (rx b q r):=λi b9 bY a6=>by
      let⟨D,W,aH,e,R,S⟩:=bV.cs i (b9,bY) a6;have:q=D:=by simpa[Value.ownBlock]using W
      simp_all
     have bZ:q<b.heap.size:=Q
     have c0:Y (∀f D,(flat r)[f]?=some D->(b.alloc<|.cells #[.int .i64 c,.int .i64 d] 48).cell? ((⟨q,0,none⟩:Addr).add f)=some D):=λf D c1=>by
      have W:(⟨q,0,none⟩:Addr).add f=⟨q,f,none⟩:=by unfold Addr.add;split<;>simp_all
      rw[W,World.cell?_alloc_lt _ _ _<|by exact bZ];exact aot bX f D c1
     go_wp2_with (at_builtin;refine wpList_append_lies _ rfl _ _ 41 rfl b.heap.size 48 b1 _ 2 16 underlying41 b2 b3 b4 b5 rfl Q (.slice (some ⟨b.heap.size,0,none⟩) 1 1) 1 [.int .i64 c,.int .i64 d] rfl (aft b _ _) ⟨q,0,none⟩ a.eu bW (flat r) rfl (by rw[Ui,a7.out]) c0 (aou _) Q qH Q qD (b.heap.size+1) qD ?_;intro C M W bG F aS c2;have bH:=J bG;have e:Y ((b.alloc<|.cells #[.int .i64 c,.int .i64 d] 48).grownBy W<|some b.heap.size):=F;clear bG F aS c2);go_ret2;have qa:a.N0<=b.heap.size:=by have:=E.out;have:=o.2.2.2;omega
     have n:Below b.heap.size b (b.alloc<|.cells #[.int .i64 c,.int .i64 d] 48):=(bp _ _).alloc ah _;have v:Below b.heap.size (b.alloc<|.cells #[.int .i64 c,.int .i64 d] 48) W:=⟨e.os,e.tape,e.output,e.size,λi a6=>e.block i qB (λt=>by simp_all)⟩;exact⟨⟨bF.trans<|(n.trans v).mono qa,acl K.2.2 K.2.1 K.1<|n.trans v⟩,.inr ⟨C,c,d,M,r,by first|rfl|(rw[yzq 1 a.eu];rfl),by have:=(bH.lt C rfl).1;omega,aH,Wq (l:=((c:Int),(d:Int))::r) bH,a7,bE⟩⟩
    have a5:Y (¬Rx (bi a.s a.bc a.root) h p c d):=λj=>by rw[(a2.out d Q).2 j]at z;cases z
    rw[z]at aP;clear z;go_wp21;go_roundw
    .exact⟨d,rfl,Q,Q,s,b8,λl n v=>by
     by_cases t:l=d
     .subst t;exact a5
     exact aO l Q v⟩
    first|(simp[intOf];done)|(simp[intOf];omega)
   have d:Y (∀u l,h<=u->u<c+1->¬Rx (bi a.s a.bc a.root) h p u l):=λu l P j L=>by
    by_cases t:u=c
    .subst t;have:=aZ u l aM L.1;exact aO l Q Q L
    exact aL u l P Q L
   have a3:¬(c:Int)<=f-1:=Q
   clear aN aF;go_wp21;go_roundw
   .exact⟨c+1,qJ,Q,Q,s,d⟩
   simp[intOf];omega
 have d:Y (∀c f,h<=c->c<=a.s.size->¬Rx (bi a.s a.bc a.root) h p c f):=λu l P j=>aL u l P Q
 go_wp21;go_ret2;exact⟨⟨T.fm.below aJ aK,T.fd,⟨_,T.c4⟩,T.f4⟩,.inl ⟨rfl,d⟩⟩
end
section
def Gl.start{b w3 w4:ae}{f:Fp}{h:Option Nat}{g:co}{d:Nd}(c:Gs b b f h g)(i:Below b.heap.size b w3)(j:bf b.heap.size w3 w4)(p:bd w4 b.heap.size (dk d<|.slice o d.ba.length a))(k:Ad b f.N0 d o):Gl b w4 f h g d o a:=by
 have l:=c.fd.lt;have m:=c.fd.kl;have n:=c.fd.el;have s:=c.fd.nf;refine⟨(c.grow i).bj j ah Q Q Q Q (λe=>by have:=(c.ap _ e).2.2.2.2;omega),p,l,m,n,λq e=>(c.ap q e).2.2.2.2,Q,k.below ?_⟩;have r:=Below.bj i j ah;exact r.mono Q
attribute [local go_sem↓] Ba ze Fb Fh Go.wp_at_zero Go.wp_at_succ
def Um(c:Fp)(b:Nat)(a:Nd)(hd:c.bc[b]?=some a)(k:a.R=0\/a.R=1\/a.R=2)(f:∀(b:Nat)(a:Nd),c.bc[b]?=some a->a.R=3->a.ba≠[]):yj c b:=by
 intro P s t e z j w x A l
 have d:=j.fd;have B:b<c.bc.length:=by
  obtain h|h:=hb b c.bc.length
  .exact h
  rw[je h]at hd;cases hd
 let⟨m,n,i,g⟩:=d.tree.node b a hd;have u:=J i;have v:=J g;let⟨y,o⟩:=d.tree.c0;have p:=d.c0;have C:(0:Int)<=b:=Q
 have D:(b:Int)<c.bc.length:=Q
 have E:((a.R:Int)==3)=false:=qB
 have F:((a.R:Int)==4)=false:=qB
 have H:((a.R:Int)==5)=false:=qB
 have K:((a.R:Int)==6)=false:=qB
 have q:Y (Gq c.s c.bc b s t e e):=by
  rw[Y,Jo d.wf f hd,N,N,N,N]
 go_in;go_wp2_with (first
  |(refine wpList_load_mid rfl 271 (.tmp 25) rfl c.nb (b*261) rfl (dk a<|.slice m a.ba.length n) _ u underlying271 rfl (jc _ _) ?_)
  |(refine gm 8 rfl rfl 271 rfl _ xa ?_;intro w3 f l r)
  |(refine hw rfl 271 (.tmp 8) (.tmp 26) rfl _ rfl _ rfl _ l (by rw[gy,gy]) (jc _ _) (vl _ _ _ _) ?_;intro w4 d g;have i:=Gl.start j r g d v;have L:=i.nd.R;clear d g p o))
 go_returns;exact⟨rfl,e,q,rfl,i.gs⟩
def ao6(b:Fp)(c:Nat)(a:Nd)(hd:b.bc[c]?=some a)(v:a.R=3)(m:∀(c:Nat)(a:Nd),b.bc[c]?=some a->a.R=3->a.ba≠[])(f:Nat)(l:a.ba=[f])(x:yj b f)(a4:a.ba.length<=1000)(R:a.num<b.eu)(a5:b.eu<=1000):yj b c:=by
 intro aK g i d s k D E U n
 have A:=k;have e:=k.fd;have aA:c<b.bc.length:=by
  obtain h|h:=hb c b.bc.length
  .exact h
  rw[je h]at hd;cases hd
 let⟨S,T,y,u⟩:=e.tree.node c a hd;have K:=J y;have L:=J u;let⟨a6,W⟩:=e.tree.c0;have qa:=e.c0;have aB:(0:Int)<=c:=Q
 have aC:(c:Int)<b.bc.length:=Q
 have aG:(a.R:Int)=3:=Q
 have p:a.ba[0]?=some f:=by rw[l];rfl
 have z:a.ba.getD 0 0=f:=by rw[yz,p];rfl
 have C:Y (∀o,Gq b.s b.bc f g i (d.set a.num ((g:Int),(i:Int))) o->Gq b.s b.bc c g i d o):=by
  intro o h
  rw[Jo e.wf m hd,G v,z];exact h
 have B:Y (bi b.s b.bc f g i):=by
  rw[oy e.wf hd,N,N,N,N,N]at n;let⟨r,j,q⟩:=n;rw[l]at j;obtain rfl:r=f:=qK j
  exact q
 have M:=J p;have P:=J x;obtain⟨j,w⟩:∃j,s=some j:=by
  let⟨j,t,_⟩:=k.cs a.num d[a.num] (dy Q);exact⟨j,t⟩
 have a2:(0:Int)<a.ba.length:=by rw[l];simp
 have q:Y (a.num<d.length):=J Q
 have r:=J w;go_in;go_upto_region 3 with(first
  |(refine wpList_load_mid rfl 271 (.tmp 25) rfl b.nb (c*261) rfl (dk a<|.slice S a.ba.length T) _ K underlying271 rfl (jc _ _) ?_)
  |(refine gm 8 rfl rfl 271 rfl _ xa ?_;intro w3 m X u)
  |(refine hw rfl 271 (.tmp 8) (.tmp 26) rfl _ rfl _ rfl _ X (by rw[gy,gy]) (jc _ _) (vl _ _ _ _) ?_;intro w4 k n;have e:=Gl.start A u n k L;have V:=e.nd.R;clear k n qa W))
 let⟨R,W,z,p⟩:=e.gs.c4;have y:=p j r;subst y;let⟨aF,n,s1,s2,s3,s4⟩:=e.gs.cs a.num d[a.num]<|dy q;rw[r.out]at n;cases n
 have w:=e.nd.cell (k:=258)<|wl a _ 1;have aD:(0:Int)<=a.num:=Q
 generalize d[a.num].1=aI at s1;generalize d[a.num].2=aJ at s2;have k:=(e.call<|e.gs.base.put q r g i).grow (bp _ _).drew;go_region;generalize((w4.setCell (O j<|a.num*2)<|I g).setCell (O j<|a.num*2+1)<|I i).drew=aL at k|-;have a3:=k.nd.ba;let⟨aH,p,a8,a9⟩:=k.sa 0 f M;subst p;go_wp21;go_call P _ g i _ s k.gs.base (by rw[tj];exact D) E U B as t V ⟨rfl,Z,F,e,H⟩;have w:=k.gs.trans H;have z:=J<|C Z F;have qa:Y (Z.length=d.length):=by rw[Y,e,tj]
 go_wp21;go_returns;exact⟨rfl,Z,z,qa,w⟩
end
section
attribute [local go_sem↓] Ba ze Fb Fh Go.wp_at_zero Go.wp_at_succ
def drop_cons(c:g[a]?=some b):g.drop a=b::g.drop (a+1):=by
 have d:=(jy.1 c).1;rw[Dn d];rw[dy d]at c;cases c
 rfl
def ao5(b:Fp)(g:Nat)(c:Nd)(hd:b.bc[g]?=some c)(U:c.R=4)(A:∀(g:Nat)(c:Nd),b.bc[g]?=some c->c.R=3->c.ba≠[])(H:∀i∈c.ba,i<b.bc.length/\vx b i/\yj b i)(aQ:c.ba.length<=1000):yj b g:=by
 intro aH l f j Z B a6 a7 aG p
 have d:=B.fd;have aX:g<b.bc.length:=by
  obtain h|h:=hb g b.bc.length
  .exact h
  rw[je h]at hd;cases hd
 have aL:=d.js;let⟨R,T,m,n⟩:=d.tree.node g c hd;have a8:=J m;have a9:=J n;let⟨aR,q⟩:=d.tree.c0;have o:=d.c0;have aY:(0:Int)<=g:=Q
 have aZ:(g:Int)<b.bc.length:=Q
 have b3:(c.R:Int)=4:=Q
 have a1:Y (∀k,altG (bi b.s b.bc) (Gq b.s b.bc) c.ba l f j k->Gq b.s b.bc g l f j k):=by
  intro k h
  rw[Jo d.wf A hd,N,G U];exact h
 have aA:=J H;have b2:(0:Int)<=f:=Q
 have aS:(f:Int)<82:=Q
 clear d m n hd U p A H;go_in;go_wp2_with (first
  |(refine wpList_load_mid rfl 271 (.tmp 25) rfl b.nb (g*261) rfl (dk c<|.slice R c.ba.length T) _ a8 underlying271 rfl (jc _ _) ?_)
  |(refine gm 8 rfl rfl 271 rfl _ xa ?_;intro w3 A a2 a3)
  |(refine hw rfl 271 (.tmp 8) (.tmp 26) rfl _ rfl _ rfl _ a2 (by rw[gy,gy]) (jc _ _) (vl _ _ _ _) ?_;intro w4 d m;have C:=Gl.start B a3 m d a9;have n:=C.nd.R;clear d m o q))
 clear n;go_loopw [9] (λF wr=>∃d:Nat,d<=c.ba.length/\F=I d/\Gl aH wr b Z j c R T/\Y (∀k,altG (bi b.s b.bc) (Gq b.s b.bc) (c.ba.drop d) l f j k->Gq b.s b.bc g l f j k)) (λF _=>c.ba.length-(intOf F).toNat)
 .exact⟨0,ey _,rfl,C,a1⟩
 obtain⟨d,aW,rfl,n,x⟩:=hrel;have t:=n;have s:=n.nd.ba;by_cases aB:d<c.ba.length
 .obtain⟨i,m⟩:∃i,c.ba[d]?=some i:=⟨c.ba[d],dy aB⟩;have o:=qy m;let⟨b4,aC,aT,p⟩:=n.sa d i m;(try simp only[O]at aC);subst aC;have r:=J m;have b0:(0:Int)<=d:=Q
  have b1:(d:Int)<c.ba.length:=Q
  have K:=J<|aA i o;clear m o n C B;go_wp21;go_call K.2.1 _ l t.gs.fd Q as e b5 ⟨z,rfl,m,P,qa⟩;have o:=t.fm P qa;have L:=J (m f Q);have M:=o.lt;clear m P qa s p;have s:=o.nd.ba;let⟨aU,a4,aM,a0⟩:=o.sa d i r;cases a4
  rcases df (z f)with a|a
  .have q:=J<|L.1 a;have u:=J a;go_wp2_with (first
    |(refine gm 10 rfl rfl 246 rfl _ ld ?_;intro aI aF D E)
    |(refine hw rfl 246 (.tmp 10) (.tmp 65) rfl _ rfl _ rfl _ D (by rw[ek,ek]) (gh _) (oh _) ?_;intro aJ v p;have m:=(o.grow E).bj p M;have y:=v.cell (qb z (k:=f));rw[u.out]at y;have aN:=m.nd.ba;let⟨aV,a5,aO,aP⟩:=m.sa d i r;cases a5;clear s a0 p))
   go_call K.2.2 _ l f j Z m.gs.base a6 a7 aG q as e b6 ⟨rfl,S,V,W,X⟩;have aD:=m.gs.trans X;have w:=J (x S<|by rw[drop_cons r.out];exact .inl ⟨q,V⟩);have aE:=J W;go_wp21;go_returns;exact⟨rfl,S,w,aE,aD⟩
  have q:Y (¬bi b.s b.bc i l f):=λh=>by rw[L.2 h]at a;cases a
  have u:=J a;go_wp2_with (first
   |(refine gm 10 rfl rfl 246 rfl _ ld ?_;intro aI aF D E)
   |(refine hw rfl 246 (.tmp 10) (.tmp 65) rfl _ rfl _ rfl _ D (by rw[ek,ek]) (gh _) (oh _) ?_;intro aJ v p;have m:=(o.grow E).bj p M;have y:=v.cell (qb z (k:=f));rw[u.out]at y;clear s a0 p))
  go_roundw
  .exact⟨d+1,Q,qJ,m,λk h=>x k<|by rw[drop_cons r.out];exact .inr ⟨q,h⟩⟩
  simp[intOf];omega
 have w:=J (x j<|by rw[yym Q];rfl);go_wp21;go_returns;exact⟨rfl,j,w,rfl,t.gs⟩
end
def IX(v u:af):Sem af:=Instr.index 246 v u
def Zu:Instr.index 246 V X=IX V X:=rfl
def ahy(b:Nat->Bool)(a:Nat)(c:a<82)(d:ae):(IX (.agg (dj b).toArray)<|I a).run prog d=.ok (.bool<|b a) d:=by
 have f:=underlying246;have g:=underlying4;have e:=qb b c;have h:(0:Int)<=a:=Q
 have i:(a:Int)<82:=Q
 simp[IX,Instr.index,yzz,run_underlying f,asIntOf,h,i];rw[G c];simp[part,isAgg,yzz,run_underlying g,e]
section
attribute [local go_sem↓] Ba ze Fb Fh Zu Go.wp_at_zero Go.wp_at_succ
def pr.of(e:a<=c)(f:c<=b)(g:∀d,c<d->d<=b->¬h d)(i:c=a\/h c:=by omega):pr h a b c:=⟨e,f,g,i⟩
structure Qqe(w wr:ae)(p:Fp)(ob:Option Nat)(n i j:Nat)(c:co)(d:Nd)(ao:Option Addr)(cc k a:Nat)(c':co):Prop where
 gl:Gl w wr p ob c' d ao cc
 cl:c'.length=c.length
 ia:i<=a
 aj:a<=j
 ch:ku ((d.ba.drop k).map<|bi p.s p.bc) a j
 gq:∀c'',ik (bi p.s p.bc) (Gq p.s p.bc) (d.ba.drop k) a j c' c''->Gq p.s p.bc n i j c c''
set_option maxHeartbeats 60000000 in
theorem ao7(c:Fp)(k:Nat)(d:Nd)(hd:c.bc[k]?=some d)(a9:d.R=5)(aA:∀(k:Nat)(d:Nd),c.bc[k]?=some d->d.R=3->d.ba≠[])(a4:∀j∈d.ba,j<c.bc.length/\vx c j/\yj c j)(aZ:d.ba.length<=1000):yj c k:=by
 intro t w h F H aB aK b0 bO e
 have a:=aB.fd;have aL:=J a.wf;have bP:k<c.bc.length:=by
  obtain b|b:=hb k c.bc.length
  .exact b
  rw[je b]at hd;cases hd
 have bR:=a.js;obtain⟨aM,p,i,V⟩:=a.tree.node k d hd;have b1:=J i;have b2:=J V;obtain⟨bS,f⟩:=a.tree.c0;have l:=a.c0;have bT:(0:Int)<=k:=Q
 have bU:(k:Int)<c.bc.length:=Q
 have bV:(d.R:Int)=5:=Q
 have b3:Y (∀m,ik (bi c.s c.bc) (Gq c.s c.bc) d.ba w h F m->Gq c.s c.bc k w h F m):=by
  intro m b
  rw[Jo a.wf aA hd,N Q,N Q,G a9];exact b
 have b4:Y (ku (d.ba.map<|bi c.s c.bc) w h):=by
  rw[oy a.wf hd,N Q,N Q,N Q,G a9]at e;exact e
 have b5:=J a4;have b6:Y (∀j∈d.ba,j<c.bc.length/\vx c j):=λj x=>⟨(a4 j x).1,(a4 j x).2.1⟩
 have bX:(h:Int)<82:=Q
 clear a i V hd a9 e aA a4;go_in;go_wp2_with (first
  |(refine wpList_load_mid rfl 271 (.tmp 25) rfl c.nb (k*261) rfl (dk d<|.slice aM d.ba.length p) _ b1 underlying271 rfl (jc _ _) ?_)
  |(refine gm 8 rfl rfl 271 rfl _ xa ?_;intro w3 aA b7 b8)
  |(refine hw rfl 271 (.tmp 8) (.tmp 26) rfl _ rfl _ rfl _ b7 (by rw[gy,gy]) (jc _ _) (vl _ _ _ _) ?_;intro w4 a e;have aC:=Gl.start aB b8 e a b2;have i:=aC.nd.R;clear a e l f))
 clear i;go_loopw [2,11] (λb9 K wr=>∃(e i:Nat)(m:co),e<=d.ba.length/\K=I e/\b9=I i/\Qqe t wr c H k w h F d aM p e i m) (λ_ K _=>d.ba.length-(intOf K).toNat)
 .exact⟨0,w,F,ey _,rfl,rfl,⟨aC,rfl,ah,b0,b4,b3⟩⟩
 obtain⟨e,i,m,bY,rfl,rfl,y⟩:=hrel;have l:=y;have W:=y.gl.nd.ba;have bA:=y.aj;by_cases bD:e<d.ba.length
 .obtain⟨j,x⟩:∃j,d.ba[e]?=some j:=⟨d.ba[e],dy bD⟩;have f:=qy x;obtain⟨u,bE,bZ,n⟩:=y.gl.sa e j x;simp only[O]at bE;subst bE;have a0:=J x;have c0:(0:Int)<=e:=Q
  have c1:(e:Int)<d.ba.length:=Q
  have aD:=J<|b5 j f;have aN:Y (∃a,i<=a/\a<=h/\(bi c.s c.bc j i a/\ku ((d.ba.drop<|e+1).map<|bi c.s c.bc) a h)):=by
   have b:=y.ch;rw[drop_cons x]at b;obtain⟨a,X,z⟩:=b;have V:=vz c.s aL (j+1) j Q i a Q X;have o:=nj.chain (L:=c.s.size) (l:=(d.ba.drop<|e+1).map<|bi c.s c.bc) (λv r=>by
    obtain⟨g,_,rfl⟩:=List.mem_map.1 r;exact vz c.s aL (g+1) g Q) a h V.2 z
   exact⟨a,V.1,o.1,X,z⟩
  clear x f y aC aB;go_wp21;go_call aD.2.1 _ i l.gl.gs.fd Q as r bF ⟨a1,rfl,f,g,o⟩;have aO:=l.gl.fm g o;have aP:=J f;have aQ:=aO.lt;clear f g o W n;go_wp2_with (first
    |(refine gm 12 rfl rfl 246 rfl _ ld ?_;intro c2 aR bG bH)
    |(refine hw rfl 246 (.tmp 12) (.tmp 94) rfl _ rfl _ rfl _ bG (by rw[ek,ek]) (gh _) (oh _) ?_;intro c3 aE f;have aS:=(aO.grow bH).bj f aQ;clear f))
  generalize bF.heap.size=L at aE aQ aR|-;go_loopw [13] (λK aT=>∃a:Nat,K=I a/\i<=a/\a<=h/\Gl t aT c H m d (some<|O u 0) p/\bd aT L (dj a1)/\Y (∀f,a<f->f<=h->¬(bi c.s c.bc j i f/\ku ((d.ba.drop<|e+1).map<|bi c.s c.bc) f h))) (λK _=>(intOf K).toNat)
  .exact⟨h,rfl,bA,ah,aS,aE,λf X z=>Q⟩
  obtain⟨a,rfl,a2,a3,M,Z,a5⟩:=hrel
  have c5:(a:Int)<82:=Q
  have aU:=Z.lt (by rw[ek];omega);clear aS aE aR;by_cases c7:i<a
  .have aV:decide ((i:Int)<a)=true:=qB
   have a6:=Z.cell (qb a1 (k:=a) Q);rcases df (a1 a)with o|o
   .have aF:=J o;have bI:=J ((aP a Q).1 o);rw[o]at a6;clear o;have qa:=M.grow (bp _ _).drew;have bJ:=Z.drew;have R:=By qa.nd;have bK:Y (∀n,(λn=>decide (n=a)) n=true->n<=c.s.size):=λn bL=>by
     have:n=a:=qK bL
     omega
    have aW:Y (wr.drew.heap.size=wr.heap.size):=rfl;go_wp21;have bM:Y (IntKind.i64.wrap ((e:Int)+1)=((e+1:Nat):Int)):=by rw[Y,IntWalk.i64_in _ Q];omega
    have s:wr.drew.cell? (O L a)=some (.bool true)/\(Bb<|ab t.heap.size 0).run prog wr.drew=.ok (.agg (dk d<|aa u d.ba.length p).toArray) wr.drew:=⟨a6,R⟩;go_region_held3 (λaG=>aG.cell? (O L a)=some (.bool true)/\(Bb<|ab t.heap.size 0).run prog aG=.ok (.agg (dk d<|aa u d.ba.length p).toArray) aG) (first|exact s|exact S|exact T)
     (first
      |(go_at_call 216;have g:=Oj a wr.drew Q;go_call g;clear g;rintro r q ⟨rfl,v⟩;have S:q.cell? (O L a)=some (.bool true)/\(Bb<|ab t.heap.size 0).run prog q=.ok (.agg (dk d<|aa u d.ba.length p).toArray) q:=⟨(v.cell (p:=O L a) aU).trans s.1,By<|qa.nd.below v qa.lt⟩)
      |(go_at_call 215;have g:=Qe c d (some<|O u 0) p b6 (λn=>decide (n=a)) (e+1) q (qa.grow v).gs.fd (qa.grow v).sa aZ bK;rw[bM.out];go_call g;clear g;rintro r a7 ⟨aH,rfl,D,U,E⟩;have a8:=λaI=>ahy aH h Q aI;have aX:Y (aH h=true↔ku ((d.ba.drop<|e+1).map<|bi c.s c.bc) a h):=⟨λb=>(by obtain⟨f,aJ,bN⟩:=(D h Q).1 b;have:f=a:=(qK aJ);subst this;exact bN),λb=>(D h Q).2 ⟨a,qD,b⟩⟩;have g:=(qa.grow v).fm U E;have aY:=(bJ.below v<|by rw[aW.out];exact aU).fm E (by have:=v.size;rw[aW.out]at this;omega) (by have:=M.kl;omega) (by have:=M.el;omega);have T:a7.cell? (O L a)=some (.bool true)/\(Bb<|ab t.heap.size 0).run prog a7=.ok (.agg (dk d<|aa u d.ba.length p).toArray) a7:=⟨(by have:=aY.cell (qb a1 (k:=a) Q);rw[aF.out]at this;exact this),By g.nd⟩;clear D U E))
    clear R a6 s S T;rcases df (aH h)with v|v
    .have D:=J<|aX.1 v;have q:=J<|pr.of a2 a3 a5<|.inr ⟨bI,D⟩;rw[v]at a8|-;clear v a8;have s:=J<|q.holds aN;have W:=g.nd.ba;obtain⟨aI,E,aJ,R⟩:=g.sa e j a0;cases E
     go_wp21;go_call aD.2.2 _ i a m H g.gs.base (by rw[l.cl];exact aK) a2 Q s.1 as r S ⟨rfl,P,A,B,C⟩;have T:Y (Qqe t S c H k w h F d (some<|O u 0) p (e+1) a P):=⟨g.call C,by rw[B];exact l.cl,by have:=l.ia;omega,a3,s.2,λU b=>l.gq U<|by rw[drop_cons a0.out];exact ag7 q A b⟩;clear A B C W R;go_wp21;go_roundw
     .exact⟨e+1,a,P,Q,qJ,rfl,T⟩
     simp[intOf];omega
    have D:Y (¬ku ((d.ba.drop<|e+1).map<|bi c.s c.bc) a h):=λb=>by rw[aX.2 b]at v;cases v
    rw[v]at a8|-;clear v a8;go_wp21;go_roundw
    .exact⟨a-1,by rw[Int.ofNat_sub Q];rfl,Q,Q,g,aY,λf X z=>by
     by_cases r:f=a
     .subst r;exact λb=>D b.2
     exact a5 f Q z⟩
    simp[intOf];omega
   have aF:Y (¬bi c.s c.bc j i a):=λb=>by rw[(aP.out a Q).2 b]at o;cases o
   rw[o]at a6;clear o;go_wp21;go_quiet (fail);go_wp21;go_roundw
   .exact⟨a-1,by rw[Int.ofNat_sub Q];rfl,Q,Q,M.grow ⟨rfl,rfl,rfl,ah,λ_ _=>rfl⟩,Z.cw rfl,λf X z=>by
    by_cases r:f=a
    .subst r;exact λb=>aF b.1
    exact a5 f Q z⟩
   simp[intOf];omega
  have aV:decide ((i:Int)<a)=false:=qB
  have n:decide (i<a)=false:=qB
  have o:a=i:=Q
  have q:=J<|pr.of a2 a3 a5<|.inl o;clear Z o;go_wp21;go_quiet (fail);have g:Gl t (wr.drewN nq) c H m d (some<|O u 0) p:=M.grow ⟨rfl,rfl,rfl,ah,λ_ _=>rfl⟩;generalize wr.drewN nq=a7 at g|-;clear aV n;have s:=J<|q.holds aN;have W:=g.nd.ba;obtain⟨aI,E,aJ,R⟩:=g.sa e j a0;cases E
  go_wp21;go_call aD.2.2 _ i a m H g.gs.base (by rw[l.cl];exact aK) a2 Q s.1 as r S ⟨rfl,P,A,B,C⟩;have T:Y (Qqe t S c H k w h F d (some<|O u 0) p (e+1) a P):=⟨g.call C,by rw[B];exact l.cl,by have:=l.ia;omega,a3,s.2,λU b=>l.gq U<|by rw[drop_cons a0.out];exact ag7 q A b⟩;clear A B C W R;go_wp21;go_roundw
  .exact⟨e+1,a,P,Q,qJ,rfl,T⟩
  simp[intOf];omega
 have a:Y (Gq c.s c.bc k w h F m):=by
  have b:=y.gq m;rw[List.drop_eq_nil_of_le Q]at b;exact b rfl
 clear y;go_wp21;go_returns;exact⟨rfl,m,a,l.cl,l.gl.gs⟩
end
