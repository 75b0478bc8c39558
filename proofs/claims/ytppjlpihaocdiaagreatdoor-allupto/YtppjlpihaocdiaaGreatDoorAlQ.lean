import Derived.Great.BuildSlice
import Derived.Test.YtppjlpihaocdiaaGreatDoorAfQ
import Derived.Test.YtppjlpihaocdiaaGreatDoorAkQ
set_option linter.all false
set_option maxRecDepth 100000
set_option maxHeartbeats 16000000
namespace Go.Proofs.YtppjlpihaocdiaaGreatDoor
open Go.RowKit Go.Proofs.Tryz
variable{w u v:ae}{a b c d e:Nat}{s t:ag}{x y z:af}{p D:Int}{l:List af}{f:Bool}{g:List Nat}{h:Nat->Prop}{o:Option Addr}{r:List UInt8}{A:Nat->Bool}{B:Nat->Nat->Bool}{C:Nat->Nat->Prop}(i:Nat)(S T:ag)(V X:af)(j k m n:Nat)(Z:Int)(W:ae)
def Qzf(w:ae)(b:Nat)(nv:af)(xs:List af)(l:List Nd)(X:Nat->Prop):Prop:=∀(k:Nat)(d:Nd),l[k]?=some d->
 ∃ao c,uj w b nv X ao d.ba/\∀o v,(dk d<|.slice ao d.ba.length c)[o]?=some v->xs[k*261+o]?=some v
def Qzf.of{xs:List af}{g:List Nd}(m:Qzf w a x xs g h)(n:∀b,b<w.heap.size->b≠a->some b≠x.ownBlock->¬h b->u.heap[b]?=w.heap[b]?):Qzf u a x xs g h:=λb k hd=>by
 let⟨o,j,c,p⟩:=m b k hd;refine⟨o,j,?_,p⟩;obtain c|⟨d,q,e,f,i,r⟩:=c
 .exact .inl c
 refine .inr ⟨d,q,e,f,i,λb t s=>?_⟩;have:=r b t s;exact(ac b<|n d (dw w _ this) e (λl=>f l.symm) i).trans this
structure Dr(w:ae)(b:Nat)(s:ag)(p:bs)(nv:af)(X:Nat->Prop):Prop where
 c0:w.cell? (O b 0)=some nv
 c1:w.cell? (O b 1)=some (I p.g)
 c2:w.cell? (O b 2)=some (I 0)
 c3:w.cell? (O b 3)=some (.string s)
 c4:w.cell? (O b 4)=some (I p.H)
 f0:w.frozen? (O b 0)=false
 f1:w.frozen? (O b 1)=false
 f2:w.frozen? (O b 2)=false
 f4:w.frozen? (O b 4)=false
 le:p.H<=s.size
 li:s.size<=40
 own:∃xs,w.ownsRow (b+1) 271 261 nv p.l.length xs/\Qzf w b nv xs p.l X
def Dr.lt{c:bs}(b:Dr w a s c x h):a<w.heap.size:=dw w _ b.c0
theorem Dr.tu{j:bs}(K:Dr w a s j x h)(i:Nat->Prop)(L:∀b,b<w.heap.size->i b->h b):Dr w a s j x i:=by
 let⟨M,P,U,m,n,o,p,q,r,t,F,xs,E,H⟩:=K;refine⟨M,P,U,m,n,o,p,q,r,t,F,xs,E,λb c hd=>?_⟩;let⟨u,D,d,v⟩:=H b c hd;refine⟨u,D,?_,v⟩;obtain d|⟨e,y,z,A,B,k⟩:=d
 .exact .inl d
 by_cases l:c.ba=[]
 .exact .inl l
 obtain⟨g,f⟩:∃g,c.ba[0]?=some g:=by
  grind
 have C:e<w.heap.size:=dw w _<|k 0 g f;exact .inr ⟨e,y,z,A,λf=>B<|L e C f,k⟩
def Dr.grow{j:bs}(n:Dr w a s j x h)(d:Below w.heap.size w u):Dr u a s j x h:=by
 let⟨g,p,q,r,t,v,y,z,A,B,l,xs,f,m⟩:=n;have i:a<w.heap.size:=dw w _ g;have c:∀b,u.cell? (O a b)=w.cell? (O a b):=λb=>d.cell (p:=O a b) i
 have e:∀b,u.frozen? (O a b)=w.frozen? (O a b):=λb=>d.frozen (p:=O a b) i
 exact⟨(c 0).trans g,(c 1).trans p,(c 2).trans q,(c 3).trans r,(c 4).trans t,(e 0).trans v,(e 1).trans y,(e 2).trans z,(e 4).trans A,B,l,xs,
  Qqo f λb o=>d.block b (f.lt b o).2,m.of λb k _ _ _=>d.block b k⟩
def Dr.bj{d w':ae}{k:bs}(t:Dr d a s k x h)(i:bf b d w')(u:b≠a)(z:x.ownBlock≠some b)(A:h b):Dr w' a s k x h:=by
 let⟨B,C,D,E,F,l,m,n,o,p,v,xs,r,w⟩:=t;have j:=i.block a<|λf=>u f.symm;have e:∀c,w'.cell? (O a c)=d.cell? (O a c):=λc=>ac c j
 have g:∀c,w'.frozen? (O a c)=d.frozen? (O a c):=λc=>ad c j
 exact⟨(e 0).trans B,(e 1).trans C,(e 2).trans D,(e 3).trans E,(e 4).trans F,(g 0).trans l,(g 1).trans m,(g 2).trans n,(g 4).trans o,p,v,xs,
  Qqo r λc y=>i.block c<|λf=>z<|by rw[<-f];exact y,w.of λc _ _ _ q=>i.block c<|λf=>q<|by rw[f];exact A⟩
def Qjd:(prog.info? 271).map (λa=>(a.zero,a.size,a.bytes))=some (some<|.agg (dk ⟨0,dp,[],0,0,0⟩<|.slice none 0 0).toArray,261,312):=qF
def LN(v:af):Sem af:=Instr.loadAt 271 v
def BN(ps:Array (Nat×af)):Sem af:=Instr.buildSlice 239 1 ps
def aj8:Instr.loadAt 271 V=LN V:=rfl
def aj2(a:Array (Nat×af)):Instr.buildSlice 239 1 a=BN a:=rfl
def at0(c:bd w a l)(b:l.length=261):(LN<|ab a 0).run prog w=.ok (.agg l.toArray) w:=
 run_loadAt_mid (P:=prog) w a 0 271 l _ c.km underlying271 rfl (by rw[b];kernel_rfl)
def aty(a:List af)(f:a.length=261):(BN #[(0,.agg a.toArray)]).run prog W=.ok (aa W.heap.size 1 1) (W.alloc<|.cells a.toArray 271):=by
 let⟨h,d,e,b,j⟩:=yyf Qjd;have i:=Great.fill_whole (s:=261) Q [Value.agg a.toArray] ((Array.range<|1*261).map ((Value.agg (dk ⟨0,dp,[],0,0,0⟩<|.slice none 0 0).toArray).cells[·%(Value.agg (dk ⟨0,dp,[],0,0,0⟩<|.slice none 0 0).toArray).cells.size]!))
  (λg c=>by
   obtain rfl:g=.agg a.toArray:=qK c
   simp[Value.cells,f]) qD
 have:=run_buildSlice (P:=prog) W 239 271 1 #[(0,.agg a.toArray)] a.toArray h _ underlying239 d e (by rw[b];omega) (by rw[b];omega) (by
  rw[b];have g:(#[(0,Value.agg a.toArray)]:Array (Nat×af)).toList=(([Value.agg a.toArray].zipIdx 0).map λc=>(c.2,c.1)):=rfl;rw[g,i];simp[Value.cells])
 exact this
theorem Qzf.added{d r:ae}{f l x:Nat}{o:af}{xs:List af}{b:List Nd}{i:Nat->Prop}{j:Nd}{e:Option Addr}{c:Nat}
  (m:Qzf d f o xs b i) (z:xs.length=b.length*261) (D:∀a,a<d.heap.size->a≠f->some a≠o.ownBlock->r.heap[a]?=d.heap[a]?)
  (g:o.ownBlock=some l\/d.heap.size<=l) (A:uj d f o i e j.ba):
  Qzf r f (aa l (b.length+1) x) (xs++dk j (.slice e j.ba.length c)) (b++[j]) i:=by
 have y:∀{e:Option Addr} {h:List Nat},uj d f o i e h->uj r f (aa l (b.length+1) x) i e h:=by
  intro e h m
  obtain m|⟨n,B,q,u,s,v⟩:=m
  .exact .inl m
  by_cases w:h=[]
  .exact .inl w
  obtain⟨p,t⟩:∃p,h[0]?=some p:=by
   grind
  have E:n<d.heap.size:=dw d _<|v 0 p t;refine .inr ⟨n,B,q,?_,s,λa p t=>?_⟩
  .intro k
   have C:l=n:=by simpa[Value.ownBlock]using k
   grind
  exact(ac a<|D n E q<|λk=>u k.symm).trans<|v a p t
 intro a t p
 by_cases k:a<b.length
 .have B:b[a]?=some t:=by
   rwa[oq k]at p
  let⟨C,w,q,s⟩:=m a t B;refine⟨C,w,y q,λu v n=>?_⟩;grind
 have B:a=b.length:=by
  have:=(jy.1 p).1;simp at this;omega
 subst B;have w:t=j:=qK p.symm
 subst w;refine⟨e,c,y A,λu v n=>?_⟩;grind
theorem Dr.added{d h:ae}{b f i:Nat}{e:bs}{o:Nat->Prop}{l:Nd}{w:ag}{j:af}{y S:Obj}{xs:List af}{r:Option Addr}{c:Nat}(z:Dr d b w e j o)(T:d.ownsRow (b+1) 271 261 j e.l.length xs)(U:Qzf d b j xs e.l o)
  (m:((d.alloc y).alloc S).drew.grownBy h j.ownBlock) (u:h.ownsRow (b+1) 271 261 (aa f (e.l.length+1) i) (e.l.length+1) (xs++dk l (.slice r l.ba.length c)))
  (g:j.ownBlock=some f\/f=d.heap.size+2) (A:uj d b j o r l.ba):
  Dr (h.setCell (O b 0)<|aa f (e.l.length+1) i) b w ⟨e.H,e.g,e.l++[l]⟩ (aa f (e.l.length+1) i) o/\
  Qql b j (aa f (e.l.length+1) i) d (h.setCell (O b 0)<|aa f (e.l.length+1) i):=by
 let⟨x,B,C,D,E,F,H,K,L,M,V,a0,P,Z⟩:=z;have qa:b<d.heap.size:=dw d _ x;have s:=Qqs m qa (λn=>by have:=(P.lt _ n.symm).1;omega);have t:∀a,h.cell? (O b a)=d.cell? (O b a):=λa=>ac a s
 have R:∀a,h.frozen? (O b a)=d.frozen? (O b a):=λa=>ad a s
 have p:∀a,a≠0->(h.setCell (O b 0)<|aa f (e.l.length+1) i).cell? (O b a)=d.cell? (O b a):=λa k=>
  (jm (h:=λn=>k qE) ..).trans (t a)
 have q:∀a,(h.setCell (O b 0)<|aa f (e.l.length+1) i).frozen? (O b a)=d.frozen? (O b a):=λa=>by
  simp_all
 have a1:=(u.lt f rfl).1;have v:∀a,a<d.heap.size->a≠b->some a≠j.ownBlock->(h.setCell (O b 0)<|aa f (e.l.length+1) i).heap[a]?=d.heap[a]? :=λa k W X=>by
  rw[er _ _ _ _ W,Qqs m k X]
 refine⟨⟨?_,(p 1 Q).trans B,(p 2 Q).trans C,(p 3 Q).trans D,(p 4 Q).trans E,(q 0).trans F,(q 1).trans H,(q 2).trans K,(q 4).trans L,M,V,xs++dk l (.slice r l.ba.length c),?_,Qzf.added (c:=c) U T.1 v (g.imp id λa3=>Q) A⟩,?_⟩
 .exact qz _ _ _<|(t 0).trans x
 .rw[ga];exact Qqo u λa k=>er _ _ _ _ (by
   have:f=a:=by simpa[Value.ownBlock]using k
   simp only;omega)
 have a2:d.heap.size+2<=h.heap.size:=by have:=m.size;simp at this;omega
 refine⟨m.os,m.tape,m.output,by simp[World.setCell];omega,v,?_⟩
 .obtain g|g:=g
  .exact .inl g.symm
  right;intro a k
  have:f=a:=by simpa[Value.ownBlock]using k
  omega
attribute [local go_sem↓] aj8 aj2 Go.wp_at_zero Go.wp_at_succ
def Qzg(b:bs)(k:Nat->Prop)(q:ag)(f:af)(a:ae)(r:Dr a i q b f k)(M:b.l.length<=1000)(g:Nd)(n:Option Addr)(z:Nat)(s:uj a i f k n g.ba):
  Calls prog 213 #[.pointer<|some ⟨i,0,none⟩,.agg (dk g<|.slice n g.ba.length z).toArray] a
   λo A=>∃B,o=.returned (.int .i64 b.l.length)/\Dr A i q ⟨b.H,b.g,b.l++[g]⟩ B k/\Qql i f B a A:=by
 have P:=r;let⟨t,qa,R,S,T,U,V,W,X,a6,a3,xs,l,C⟩:=r;have Z:i<a.heap.size:=dw a _ t;have u:=J l;have L:Y (∀j,f.ownBlock=some j->i+1<=j/\j<a.heap.size):=λj a0=>l.lt j a0
 generalize m:dk g (.slice n g.ba.length z)=c;have p:Y (c.length=261):=by rw[Y,<-m,gy]
 have D:Y (∀a2∈c,a2.oneCell'=true):=by rw[Y,<-m];exact vl _ _ _ _
 have v:Y (∀{e:ae} {d h:Nat} {w x:Obj},((a.alloc w).alloc x).drew.grownBy e f.ownBlock->e.ownsRow (i+1) 271 261 (aa d (b.l.length+1) h) (b.l.length+1) (xs++c)->(f.ownBlock=some d\/d=a.heap.size+2)->
   Dr (e.setCell (O i 0)<|aa d (b.l.length+1) h) i q ⟨b.H,b.g,b.l++[g]⟩ (aa d (b.l.length+1) h) k/\
   Qql i f (aa d (b.l.length+1) h) a (e.setCell (O i 0)<|aa d (b.l.length+1) h)):=by
  intro e d h w x E y F
  rw[<-m]at y;exact Dr.added P l C E y F s
 let⟨a1,E,F,H,K⟩:=yyf Qjd;have y:=bd.new a c 271;have a5:=at0 (w:=(a.alloc<|.cells c.toArray 271).drew) (y.cw rfl) p;have a4:=aty (a.alloc<|.cells c.toArray 271).drew c p;generalize T:b.l.length=nl at u v M|-;go_in;go_wp21;go_region_law
  ((refine step_append_lies _ (by rfl) _ _ _ (by rfl) (i+1) 271 a1 _ 261 312 underlying239 E F H K (by simp[Value.cells,gy]) Q f nl xs (by rfl) (((u.alloc _).alloc _).drew)
     (O (a.heap.size+1) 0) 1 1 c (by rfl) (by rw[p.out]) (World.news_of_block (cs:=c.toArray) (t:=271) (fr:=(0,0))<|ae2 a _ _) D
     Q qH Q qB (a.heap.size+2) qD ?_;intro d h e R m y V;have l:=Qqs m Z (λo=>by have:=(L _ o.symm).1;omega);have C:=ac 0 l;have qa:=ad 0 l;rw[t]at C;rw[U]at qa;clear l))
 all_goals go_wp2
 all_goals go_ret
 all_goals exact⟨_,rfl,v m R y⟩
