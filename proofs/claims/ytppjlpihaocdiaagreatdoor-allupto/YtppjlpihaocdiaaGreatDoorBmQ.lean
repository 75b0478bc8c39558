import Derived.Test.YtppjlpihaocdiaaGreatDoorBgQ
set_option linter.all false
set_option maxRecDepth 100000
set_option maxHeartbeats 16000000
namespace Go.Proofs.YtppjlpihaocdiaaGreatDoor
open Go.RowKit Go.Proofs.Tryz
variable{w u v:ae}{a b c d e:Nat}{s t:ag}{x y z:af}{p D:Int}{l:List af}{f:Bool}{g:List Nat}{h:Nat->Prop}{o:Option Addr}{r:List UInt8}{A:Nat->Bool}{B:Nat->Nat->Bool}{C:Nat->Nat->Prop}(i:Nat)(S T:ag)(V X:af)(j k m n:Nat)(Z:Int)(W:ae)
def qV(d:Bool)(a:List Cm)(b:ae)(q:zy b (λc=>b.heap.size<=c) V a)(E:a.length<=1000):
  Calls prog 47 #[V,.agg #[.int .i64 j,.int .i64 k,.int .i64 m,.bool d]] b λe t=>∃h n,e=.returned (.pointer<|some ⟨h,0,none⟩)/\At t h ⟨j,k,m,d,a⟩ (fy ⟨j,k,m,d,a⟩) n/\Below b.heap.size b t/\b.heap.size<=h/\(∀c,ib h n c->b.heap.size<=c)/\n.cm=V:=by
 have x:Y (zy b (λc=>b.heap.size<=c) V a):=q;let⟨_,xs,r,_⟩:=q;let⟨g,i,B⟩:=yq r;let⟨l,f,p,D⟩:=Xn a.length Q;have o:Y (l.size=a.length):=f;have u:Y (l.toList=ov (List.replicate a.length false)):=p;subst B;have v:Y (∀f,At (((b.alloc f).alloc<|.cells l 4).alloc<|.cells (pb ⟨j,k,m,d,a⟩ (fy ⟨j,k,m,d,a⟩)<|yp b (.slice g a.length i) a.length).toArray 112).drew (b.heap.size+1+1) ⟨j,k,m,d,a⟩ (fy ⟨j,k,m,d,a⟩)<|yp b (.slice g a.length i) a.length):=λf=>Is (cf:=⟨j,k,m,d,a⟩) o u x E
 have w:Y (∀f r s,Below b.heap.size b (((b.alloc f).alloc r).alloc s).drew):=λf r s=>ss<|(Hz b _ _).trans<|(mj _ _).mono qB
 have y:Y (∀c,ib (b.heap.size+1+1) (yp b (.slice g a.length i) a.length) c->b.heap.size<=c):=λc C=>by
  obtain e|e|e|e|e:=C
  .omega
  .cases e
  .cases e
  .cases e
  have:b.heap.size+1=c:=by simpa[yp,Value.ownBlock]using e
  omega
 generalize A:a.length=z at D o;have p:Y (a.length=z):=A;go_in;go_wp21;go_region
 all_goals
  go_wp21;go_ret;refine⟨b.heap.size+1+1,yp b (.slice g a.length i) a.length,rfl,?_,w _ _ _,Q,y,by rw[<-p.out];rfl⟩;have:=v<|Obj.cells #[I j,I k,I m,.bool d] 23;rw[p.out]at this|-;exact this
def kY(P:Nat->Prop)(w:ae):Prop:=Tw w<|λk=>w.heap.size<=k\/P k
def kY.below(d:kY h w)(a:Below w.heap.size w u):kY h u:=
 Tw.keep d (λc b _=>a.block c b) a.size (λc b=> .inl<|b.imp (bq a.size) id)
def QW{d:List Cm}(m:Ci w a x d)(q:kY h w)(g:∀b,h b->b<a):zy w (λb=>w.heap.size<=b\/h b) x d:=by
 obtain⟨xs,i,n⟩:=m;refine⟨q,xs,World.ownsRow.mono i Q,λf o c=>?_,λb v r=>?_⟩
 .have:=i.lt f o;obtain e|e:=c
  .omega
  have:=g f e;omega
 obtain⟨t,p,u,y,j,z,k,l⟩:=n b v r;exact⟨t,p,u,j,λs A B c=>by
  obtain e|e:=c
  .omega
  have:=g s e;omega,k,l⟩
def XK(P:Nat->Prop)(s:ag)(a b c:Int)(q:Bool)(w:ae):Ending->ae->Prop:=λe w'=>Below w.heap.size w w'/\
 (((jb s).2.1≠0/\e=.returned (.tuple #[.pointer none,.int .i64 ((jb s).2.1:Int)]))\/
  ((jb s).2.1=0/\uo a b c=false/\e=.returned (.tuple #[.pointer none,.int .i64 5]))\/
  ((jb s).2.1=0/\uo a b c=true/\∃bl v,e=.returned (.tuple #[.pointer<|some ⟨bl,0,none⟩,.int .i64 0])/\w.heap.size<=bl/\At w' bl (xj s a b c q) (fy<|xj s a b c q) v/\(∀k,ib bl v k->w.heap.size<=k)/\zy w' (λk=>ib bl v k\/P k) v.cm (jb s).1))
def KZ(c d e:Int)(f:Bool)(b:ae)(T:S.size<=maxLen)(U:kY h b)(R:∀a,h a->a<b.heap.size):
  Calls prog 27 #[.string S,.agg #[.int .i64 c,.int .i64 d,.int .i64 e,.bool f]] b (XK h S c d e f b):=by
 have a4:Y (kY h b):=U;have a2:Y (∀k,Calls prog 45 #[.string S] k<|Ff S k):=λk=>atb S k T
 have W:Y (∀k,Calls prog 46 #[.agg #[.int .i64 c,.int .i64 d,.int .i64 e,.bool f]] k λr w=>r=.returned (.bool<|uo c d e)/\Below k.heap.size k w):=λk=>akt c d e f k
 have a3:Y ((jb S).2.1=0->(jb S).1.length<=1000):=λz=>(agw S z).1
 have a1:Y (∀a,h a->a<b.heap.size):=R;go_in;go_wp21;go_call a2;rintro r g ⟨n,rfl,j,l,m⟩;have s:Y (Below b.heap.size b g):=(mj b _).trans (j.mono qD);have i:∀a C,(#[I c,I d,I e,.bool f]:Array af)[a]?=some C->g.cell? (O b.heap.size a)=some C:=λa C a6=>by
  rw[ac a<|j.block b.heap.size qD];rw[yya _ b.heap.size a #[I c,I d,I e,.bool f] 23 (0,0)<|heap_alloc_last b _];exact a6
 have y:=i 0 _ rfl;have F:=i 1 _ rfl;have H:=i 2 _ rfl;have K:=i 3 _ rfl;have V:Y ((jb S).2.1=0->Ci g (b.alloc<|.cells #[I c,I d,I e,.bool f] 23).heap.size n (jb S).1):=m;by_cases q:(jb S).2.1=0
 .have t:Y ((jb S).2.1=0):=q;have i:=QW (V q) (a4.below s) (λa j=>Nat.lt_trans (a1 a j) qD);have a5:=a3 q;have X:Y (zy g (λa=>g.heap.size<=a\/h a) n (jb S).1):=i;rw[q];go_wp21;go_call W;rintro r i ⟨rfl,l⟩;have p:Y (Below g.heap.size g i):=l;have B:=s.size;have v:b.heap.size<g.heap.size:=dw g _ y;have a8:=(ac 0<|l.block _ v).trans y;have a9:=(ac 1<|l.block _ v).trans F;have aA:=(ac 2<|l.block _ v).trans H;have aB:=(ac 3<|l.block _ v).trans K;rcases df (uo c d e)with m|m
  .have x:Y (uo c d e=true):=m;rw[m];unfold uo at m;simp only[Aw]at m;let⟨⟨M,P⟩,qa⟩:=m;have A:=(Ji M).1;have D:=(Ji P).1;have L:=(Ji qa).1;have E:Y (zy i (λa=>i.heap.size<=a\/h a) n (jb S).1):=X.keep (λa j _=>p.block a j) p.size<|λa j=> .inl<|j.imp (bq p.size) id;have u:=qV n c.toNat d.toNat e.toNat f (jb S).1 i (E.keep (λ_ _ _=>rfl) ah λ_ z=> .inl<|.inl z) a5;rw[<-A,<-D,<-L]at u;have a0:Y (Calls prog 47 #[n,.agg #[.int .i64 c,.int .i64 d,.int .i64 e,.bool f]] i λr w=>∃l o,r=.returned (.pointer<|some ⟨l,0,none⟩)/\At w l (xj S c d e f) (fy<|xj S c d e f) o/\Below i.heap.size i w/\i.heap.size<=l/\(∀a,ib l o a->i.heap.size<=a)/\o.cm=n):=u;clear u A D L M P qa;go_wp21;go_call a0;rintro r w3 ⟨l,o,rfl,L,u,aC,A,M⟩;have D:Y (zy w3 (λa=>ib l o a\/h a) n (jb S).1):=E.keep (λa j _=>u.block a j) u.size<|λa j=> .inl<|j.imp (A a) id;rw[<-M]at D;have P:Y (At w3 l (xj S c d e f) (fy<|xj S c d e f) o):=L;have qa:Y (Below b.heap.size b w3):=(s.trans<|p.mono B).trans<|u.mono<|bq B p.size;have aD:=p.size;have Z:Y (∀a,ib l o a->i.heap.size<=a):=A;clear L u A M;go_wp21;go_ret2;exact⟨qa,.inr<|.inr ⟨t,x,l,o,rfl,Q,P,λa j=>by have:=Z a j;omega,D⟩⟩
  have x:Y (uo c d e=false):=m;rw[m];clear m;go_wp21;go_ret2;exact⟨s.trans<|p.mono B,.inr<|.inl ⟨t,x,rfl⟩⟩
 have j:(((jb S).2.1:Int) !=0)=true:=qB
 have t:Y ((jb S).2.1≠0):=q;clear q;go_wp21;go_ret2;exact⟨s,.inl ⟨t,rfl⟩⟩
def qY(b c d:Int)(k:Bool)(f:ae)(t:S.size<=maxLen)(u:kY h f)(s:∀e,h e->e<f.heap.size):
  Calls prog 27 #[.string S,.agg #[.int .i64 b,.int .i64 c,.int .i64 d,.bool k]] f λm l=>Below f.heap.size f l/\
   ((zp S b c d=false/\Ah S b c d≠0/\m=.returned (.tuple #[.pointer none,.int .i64 (Ah S b c d:Int)]))\/
    (zp S b c d=true/\∃g i,m=.returned (.tuple #[.pointer<|some ⟨g,0,none⟩,.int .i64 0])/\At l g (xj S b c d k) (fy<|xj S b c d k) i/\(∀e,ib g i e->f.heap.size<=e)/\zy l (λe=>ib g i e\/h e) i.cm (jb S).1)):=by
 go_call KZ;rintro m l ⟨r,n⟩;refine⟨r,?_⟩;obtain⟨a,rfl⟩|⟨a,j,rfl⟩|⟨a,j,g,i,rfl,v,o,p,q⟩:=n
 .refine .inl ⟨by simp[zp,a],by rw[Ah,N a];exact a,by rw[Ah,N a]⟩
 .refine .inl ⟨by simp[zp,j],by rw[Ah,G a,N<|by rw[j];simp];omega,by rw[Ah,G a,N<|by rw[j];simp];rfl⟩
 exact .inr ⟨by simp[zp,a,j],g,i,rfl,o,p,q⟩
