import Derived.Lib.BytesEntry
import Derived.Lib.SlBytesConst
import Derived.Test.YtppjlpihaocdiaaGreatDoorAdQ
import Derived.Test.YtppjlpihaocdiaaGreatDoorAgQ
set_option linter.all false
set_option maxRecDepth 100000
set_option maxHeartbeats 16000000
namespace Go.Proofs.YtppjlpihaocdiaaGreatDoor
open Go.RowKit Go.Proofs.Tryz
variable{w u v:ae}{a b c d e:Nat}{s t:ag}{x y z:af}{p D:Int}{l:List af}{f:Bool}{g:List Nat}{h:Nat->Prop}{o:Option Addr}{r:List UInt8}{A:Nat->Bool}{B:Nat->Nat->Bool}{C:Nat->Nat->Prop}(i:Nat)(S T:ag)(V X:af)(j k m n:Nat)(Z:Int)(W:ae)
def Lf(w:ae)(b:Nat)(i j:Int):Prop:=w.cell? (O b 0)=some (I i)/\w.cell? (O b 1)=some (I j)/\w.frozen? (O b 0)=false
def Lf.of(c:Lf w a p D)(d:u.heap[a]?=w.heap[a]?):Lf u a p D:=by
 have e:∀b,u.cell? (O a b)=w.cell? (O a b):=λb=>ac b d
 exact⟨(e 0).trans c.1,(e 1).trans c.2.1,(ad 0 d).trans c.2.2⟩
def Lf.new(c d:Int)(a:TypeId):Lf (W.alloc<|.cells #[I c,I d] a) W.heap.size c d:=by
 have b:=yyb W<|.cells #[I c,I d] a;generalize(W.alloc<|.cells #[I c,I d] a)=e at b;exact⟨by rw[yya e _ 0 _ a (0,0) b];rfl,by rw[yya e _ 1 _ a (0,0) b];rfl,by simp[World.frozen?,b]⟩
def aoz(a:Pp)(s:Nat->Nat->Nat->Nat->Bool)(V:Nat->Nat)(k:ae)(l F:Nat)(o:Ctx a s V k l)(P:Fa a s V k l F)
  (e:List Nat) (n aK b c:Nat) (mt:Int×Int) (i:co) (f:ae) (Q:∀q∈e,q<F/\q<a.bc.length) (aY:e.length<=1000) (a5:n<k.heap.size) (R:∀(d q:Nat),e[d]?=some q->k.cell? (O n d)=some (I q))
  (x:uk a k l mt i f) (a6:b<=c) (aI:c<=a.s.size):
  Calls prog 160 #[.pointer<|some ⟨a.tb,0,none⟩,.slice (some ⟨n,0,none⟩) e.length aK,.agg #[.int .i64 b,.int .i64 c],.slice (some ⟨l,0,none⟩) (a.eu+1)<|a.eu+1] f
   λj W=>j=.returned (.tuple #[])/\∃g,uk a k l mt g W/\altG (bi a.s a.bc) (jg a.s a.bc) e b c i g/\Fo l f W:=by
 have a4:=J P;have a7:=J Q;have a2:=J R;have aS:=o.tb.js;have h:Below f.heap.size f (f.alloc<|.cells #[I b,I c] 48):=(bp _ _).alloc ah _;have a8:(f.alloc<|.cells #[I b,I c] 48).heap.size=f.heap.size+1:=by simp
 have m:=Lf.new f b c 48;go_in;go_wp21;generalize(f.alloc<|.cells #[I b,I c] 48)=X at h a8 m;have C:=h;have D:=J m;have y:=x.below h;go_loopw [12] (λB wr=>∃d:Nat,d<=e.length/\B=I d/\Y (∀g,altG (bi a.s a.bc) (jg a.s a.bc) (e.drop d) b c i g->altG (bi a.s a.bc) (jg a.s a.bc) e b c i g)/\Y (Below X.heap.size X wr)) (λB _=>e.length+1-(intOf B).toNat)
 .exact⟨0,ey _,rfl,λg p=>p,bp _ _⟩
 obtain⟨d,aZ,rfl,w,m⟩:=hrel;by_cases A:d<e.length
 .obtain⟨h,r⟩:∃h,e[d]?=some h:=⟨_,dy A⟩;have a3:=J r;have⟨a9,t⟩:=a7.out h<|qy r;have u:=y.below m;have a1:=m.size;have aJ:=(ac d<|u.b.block n a5).trans<|a2 d h r;have⟨aH,aG,E,v⟩:=(o.tb.below u.b).Ze t;have aA:=E.below (bp wr.heap.size wr).drew;obtain⟨Z,a0,aM,aN,aO,aP,aQ⟩:=v.cell b (by omega);have aB:=J (D.of<|m.block f.heap.size<|by omega);have⟨S,T,U⟩:=aB.out;have aW:(b:Int)<a.s.size+1:=by omega
  have aX:(0:Int)<=b:=by omega
  go_upto_region 4 with fail
  go_cut [25] (λaC aL=>aC=.bool (s h 0 b c)/\Below wr.heap.size wr aL)
  case first=>
   go_region_with (first
    |(go_at_call 66;(go_call Qy as j v ⟨rfl,E⟩;subst v))
    |(go_at_call 193;(go_call Gj as j w3 ⟨rfl,H⟩;have r:=(bp wr.heap.size wr).drew.trans H;clear H)))
   all_goals (go_wp21;go_meet;exact⟨rfl,r⟩)
  obtain⟨rfl,r⟩:=hcut;have v:=m.trans<|r.mono a1;have r:e.drop d=h::e.drop (d+1):=by
   have j:=a3.out;rw[dy A]at j;have E:e[d]=h:=by simpa using j
   rw[Dn A,E]
  have E:=J r;rcases df (s h 0 b c)with z|z
  .have r:=J ((o.tl t b (by omega) c).1 z);rw[z];have aD:=J (D.of<|v.block f.heap.size<|by omega);have⟨S,T,U⟩:=aD.out;go_wp21;go_call a4.out h b c mt i _ a9 t (y.below v) r.out a6 aI as j b0 ⟨rfl,g,L,M,K⟩;have aE:=J M;have aF:=((Fo.wm C).trans<|Fo.wm v).trans K;go_wp21;go_returns;exact⟨rfl,g,L,w g<|by rw[E.out];exact .inl ⟨r,aE⟩,aF⟩
  have r:Y (¬bi a.s a.bc h b c):=λp=>by
   have:=(o.tl t b (by omega) c).2 p;rw[z]at this;cases this
  rw[z];go_wp21;go_roundw
  .exact⟨d+1,by omega,by go_num,λg p=>w g<|by rw[E.out];exact .inr ⟨r,p⟩,v⟩
  simp[intOf];omega
 have h:d=e.length:=by omega
 subst h;go_wp21;have u:=y.below m;go_returns;exact⟨rfl,i,u,w i<|by rw[List.drop_length];rfl,(Fo.wm C).trans<|Fo.wm m⟩
def pr.sat{c:Nat->Prop}{f g d:Nat}(l:pr c f g d)(h:∃b,f<=b/\b<=g/\c b):c d:=by
 have⟨m,n,i,a⟩:=l;rcases a with a|a
 .have⟨b,o,k,e⟩:=h;by_cases j:b=d
  .subst j;exact e
  exact cb e<|i b (by omega) k
 exact a
def Lf.set{i b:Int}(c:Lf w a i b)(v:Int):Lf (w.setCell (O a 0)<|I v) a v b:=by
 have⟨d,e,f⟩:=c;refine⟨?_,?_,?_⟩<;>go_simp
def ao3(a:Pp)(A:Nat->Nat->Nat->Nat->Bool)(x:Nat->Nat)(j:ae)(k z:Nat)(f:Ctx a A x j k)(a5:Fa a A x j k z)
  (g:Nat) (c:Nd) (hd:a.bc[g]?=some c) (K:c.R=5) (bE:g<=z) (h d:Nat) (mt:Int×Int) (C:co) (e:ae) (t:uk a j k mt C e) (aB:h<=d) (aZ:d<=a.s.size) (a3:bi a.s a.bc g h d):
  Calls prog 159 #[.pointer<|some ⟨a.tb,0,none⟩,.int .i64 g,.agg #[.int .i64 h,.int .i64 d],.slice (some ⟨k,0,none⟩) (a.eu+1)<|a.eu+1] e
   λv a6=>v=.returned (.tuple #[])/\∃n,uk a j k mt n a6/\ik (bi a.s a.bc) (jg a.s a.bc) c.ba h d C n/\Fo k e a6:=by
 have L:=f;have a9:=J a5;have aC:=(jy.1 hd).1;have aD:Y (∀s∈c.ba,s<z/\s<a.bc.length):=λs b1=>by have:=(f.pn g c hd).sub s b1;omega
 obtain⟨a2,bF⟩:=(f.pn g c hd).two<|.inr K;have aE:Y (ku (c.ba.map<|bi a.s a.bc) h d):=by
  have:=(oy f.wf hd h d).1 a3;rw[N<|by omega,N<|by omega,N<|by omega,G K]at this;exact this
 obtain⟨bG,l⟩:=(f.ri g c hd).row K;have aF:=J l;obtain⟨b6,bV,c1,c2,c3,c4,E,S,bY,o⟩:=f.tb.node g c hd;have r:=o 1 _ rfl;rcases S with S|⟨bU,rfl,bH,i⟩
 .rw[S]at a2;simp at a2
 have a8:=J i;obtain⟨b3,y,b4⟩:=f.tb.row g aC;have b7:=f.tb.js;have b8:=t.lt;have b5:=f.tb.ko;have bI:=t.b.size;have bJ:=f.ob
 --what the walk reads of the table,in whatever world
 have aG:=J r;have aH:=J y;have aI:=J f.tb.c0;have aJ:=J f.tb.c4;have q:Y (∀(B:ae),Below j.heap.size j B->∀u H p,j.cell? (O u H)=some p->B.cell? (O u H)=some p):=λB aY u H p a4=>(ac H<|aY.block u<|dw j _ a4).trans a4
 have w:Below e.heap.size e (e.alloc<|.cells #[I h,I d] 48):=(bp _ _).alloc ah _;have aK:(e.alloc<|.cells #[I h,I d] 48).heap.size=e.heap.size+1:=by simp
 have b:=Lf.new e h d 48;have m:=q _ (t.below w).b _ _ _ aI;have D:=q _ (t.below w).b _ _ _ aG;clear f a5 i o r l a3 y E;go_in;go_wp21;generalize(e.alloc<|.cells #[I h,I d] 48)=bZ at w aK b m D;have aL:=J b;have aM:=t.below w;clear b m D;go_loopw [20] (λp wr=>∃(b m:Nat)(r:co),b<=c.ba.length/\m<=d/\p=I b/\Y (Lf wr e.heap.size m d)/\Y (uk a j k mt r wr)/\Y (Fo k e wr)/\Y (ku ((c.ba.map<|bi a.s a.bc).drop b) m d)/\Y (∀n,ik (bi a.s a.bc) (jg a.s a.bc) (c.ba.drop b) m d r n->ik (bi a.s a.bc) (jg a.s a.bc) c.ba h d C n)) (λp _=>c.ba.length+1-(intOf p).toNat)
 case atStart=>exact⟨0,h,C,ey _,aB,rfl,aL,aM,Fo.wm w,aE,λn R=>R⟩
 obtain⟨b,m,r,bP,aN,rfl,a1,o,M,aA,a0⟩:=hrel;by_cases y:b<c.ba.length
 .obtain⟨l,E⟩:∃l,c.ba[b]?=some l:=⟨_,dy y⟩;obtain⟨aO,aP⟩:=aD l<|qy E;have P:c.ba.drop b=l::c.ba.drop (b+1):=by
   have v:=E;rw[dy y]at v;have D:c.ba[b]=l:=by simpa using v
   rw[Dn y,D]
  have aQ:=J P;have T:∃i,m<=i/\i<=d/\(bi a.s a.bc l m i/\ku ((c.ba.map<|bi a.s a.bc).drop<|b+1) i d):=by
   have X:=aA.out;rw[<-List.map_drop,P]at X;obtain⟨i,Z,Q⟩:=X;rw[List.map_drop]at Q;have s1:=L.st l m i (by omega) Z;have s2:=nj.chain (L:=a.s.size) (l:=(c.ba.map<|bi a.s a.bc).drop<|b+1) (λb3 a7=>by
    obtain⟨s,_,rfl⟩:=yzg.1<|List.mem_of_mem_drop a7;exact L.st s) i d s1.2 Q
   exact⟨i,s1.1,s2.1,Z,Q⟩
  have X:Y _:=T;have b9:=M.size;have aR:b+1<x g:=by omega
  obtain⟨aX,aW,Z,bA,a7⟩:=b4.H (b+1) aR;have bQ:=q wr o.b _ _ _<|a8 b l E;have bR:=q wr o.b _ _ _ aH;have bS:=q wr o.b _ _ _ aJ;have bT:=q wr o.b _ _ _ Z;obtain⟨b2,bW,bX⟩:=a1.out;have bK:IntKind.i64.wrap ((b:Int)+1)=(b:Int)+1:=Mr b (b+1) rfl (by omega);have bL:(b:Int)+1<(x g:Int):=by omega
  have Q:(0:Int)<=b+1:=by omega
  have aS:=o.out.below (bp wr.heap.size wr).drew;have bD:=o.lt;have aT:e.heap.size<wr.heap.size:=dw wr _ b2;clear E P T Z;go_wp21;go_region_with (first
    |(go_at_call 192;(go_call ac4 a A x j k z L a9 l m d aX aW mt r _ (A g<|b+1) (ku<|(c.ba.map<|bi a.s a.bc).drop<|b+1) aO aP aS aN aZ a7 (aF (b+1) y) (λi b0=>(b0.sat X).1)as v c0 ⟨i,rfl,F,Q,U,V,W⟩;have E:=J F;have Z:=J V;have P:=(Fo.wm (bp wr.heap.size wr).drew).trans W;have T:=a1.of (P.block e.heap.size aT<|by omega);have aU:=J T;obtain⟨bM,bN,bO⟩:=T;clear F V W)))
  all_goals
   go_wp21;go_roundw
   case rel=>
    have aV:=E.2.1;refine⟨b+1,i,Q,y,aV,by go_num,aU.set _,?_,(M.trans P).fi ah _ _,(E.sat X).2,λn R=>a0.out n<|by rw[aQ.out];exact⟨i,Q,by rw[List.map_drop];exact E,Z,R⟩⟩;exact⟨U.b.setCell (by simp only;omega) _,U.o.cw<|er _ _ _ _<|by simp only;omega,U.l⟩
   simp[intOf];omega
 have i:b=c.ba.length:=by omega
 subst i;go_wp21;go_returns;exact⟨rfl,r,o.out,a0.out r<|by rw[List.drop_length];rfl,M.out⟩
def Nj(f:nj a C)(h:d<=a)(k:Zt C b p c d e):d<=e/\e<=a:=by
 have⟨m,n,i,_,j⟩:=Ae.1 k;have g:=Pow.le f h i;have l:=Pow.le f.full g.2 j;omega
def aao(o:p=-1\/(a:Int)<=p)(i:Zt C a p b c d)(n:c<d):(b<a\/p<0\/(b:Int)<p)/\∃e,C c e/\(b<a\/c≠e)/\Zt C a p (b+1) e d:=by
 by_cases k:b<a
 .have⟨e,f,g⟩:=(Js k).1 i;exact⟨.inl k,e,f,.inl k,g⟩
 by_cases l:p<0
 .have⟨j,m⟩:=(Jr (by omega) l).1 i;cases j with
  |zero=>cases m;omega
  |succ j=>
   have⟨e,⟨f,g⟩,h⟩:=m;exact⟨.inr<|.inl l,e,f,.inr g,(Jr (by omega) l).2 ⟨j,h⟩⟩
 by_cases m:(b:Int)<p
 .rcases(aan (by omega) m).1 i with i|⟨e,⟨f,g⟩,h⟩
  .omega
  exact⟨.inr<|.inr m,e,f,.inr g,h⟩
 exfalso;have⟨e,j,f,g,h⟩:=Ae.1 i;rw[show a-b=0 by omega]at f;cases f
 obtain rfl:j=0:=by omega
 cases h
 omega
def Bx(w:ae)(b kb kc:Nat)(ll:Int):Prop:=w.cell? (O b 1)=some (aa kb 1 kc)/\w.cell? (O b 7)=some (I ll)
def Bx.of(f:Bx w a b c p)(g:u.heap[a]?=w.heap[a]?):Bx u a b c p:=by
 have e:∀d,u.cell? (O a d)=w.cell? (O a d):=λd=>ac d g
 exact⟨(e 1).trans f.1,(e 7).trans f.2⟩
def ao0(b:Pp)(E:Nat->Nat->Nat->Nat->Bool)(aB:Nat->Nat)(n:ae)(s W:Nat)(l:Ctx b E aB n s)(aV:Fa b E aB n s W)
  (o e:Nat) (a:Nd) (hd:b.bc[o]?=some a) (Z:a.R=6) (t:a.ba=[e]) (bR:o<=W) (m c:Nat) (mt:Int×Int) (P:co) (g:ae) (X:uk b n s mt P g) (bG:m<=c) (aR:c<=b.s.size) (aP:bi b.s b.bc o m c):
  Calls prog 158 #[.pointer<|some ⟨b.tb,0,none⟩,.int .i64 o,.agg #[.int .i64 m,.int .i64 c],.slice (some ⟨s,0,none⟩) (b.eu+1)<|b.eu+1] g
   λa5 aX=>a5=.returned (.tuple #[])/\∃k,uk b n s mt k aX/\repP (bi b.s b.bc) (jg b.s b.bc) e a.lo a.hi (a.lo+b.s.size+1) 0 m c P k/\Fo s g aX:=by
 have K:=l;have aN:=J aV;have bA:=(jy.1 hd).1;have cF:=(l.pn o a hd).sub e (by rw[t];simp);have aT:e<W:=by omega
 have aU:e<b.bc.length:=by omega
 obtain⟨bO,bP,bQ⟩:=(l.pn o a hd).Hc Z;have b7:Y (Zt (bi b.s b.bc e) a.lo a.hi 0 m c):=by
  have:=(oy l.wf hd m c).1 aP;rw[N<|by omega,N<|by omega,N<|by omega,N<|by omega,G Z,t]at this;exact(Se (by omega) m c).2 this
 obtain⟨a4,x⟩:=(l.ri o a hd).Hc Z;have aL:Y (∀aD,aD<=qi a->Tl b.s.size (E o aD) (Zt (bi b.s b.bc e) a.lo a.hi aD)):=by rw[t]at x;exact x
 have bX:qi a<=9:=by unfold qi;split<;>omega
 have aJ:Y ((a.hi<0->qi a=a.lo)/\(¬a.hi<0->(qi a:Int)=a.hi)):=⟨λh=>by unfold qi;rw[G h],λh=>by unfold qi;rw[N h];omega⟩;obtain⟨bN,r,y,z,A,B,a6,aC,cR,f⟩:=l.tb.node o a hd;rcases aC with aC|⟨q,rfl,bW,a2⟩
 .rw[aC]at t;cases t
 have b0:=J (a2 0 e<|by rw[t];rfl);have a3:a.ba.length=1:=by rw[t];rfl
 obtain⟨bI,v,aW⟩:=l.tb.row o bA;rw[a4]at v aW;have c8:=l.tb.js;have c5:=X.lt;have c0:=l.tb.ko;have a8:=X.b.size;have c4:=l.ob;have b4:=J v;have j:Y (∀(F:ae),Below n.heap.size n F->∀M a1 u,n.cell? (O M a1)=some u->F.cell? (O M a1)=some u):=λF bD M a1 u aS=>(ac a1<|bD.block M<|dw n _ aS).trans aS
 have i:Below g.heap.size g (g.alloc<|.cells #[I m,I c] 48):=(bp _ _).alloc ah _;have aA:(g.alloc<|.cells #[I m,I c] 48).heap.size=g.heap.size+1:=by simp
 have w:=Lf.new g m c 48;have d:=(X.below i).b;have U:=j _ d _ _ _ l.tb.c0;have V:=j _ d _ _ _ l.tb.c4;have a0:=j _ d _ _ _ b4;have C:=j _ d _ _ _<|f 0 _ rfl;have p:=j _ d _ _ _<|f 1 _ rfl;have D:=j _ d _ _ _<|f 2 _ rfl;have H:=j _ d _ _ _<|f 3 _ rfl;have L:=j _ d _ _ _<|f 4 _ rfl;have Q:=j _ d _ _ _<|f 5 _ rfl;have R:=j _ d _ _ _<|f 6 _ rfl;have S:=j _ d _ _ _<|f 7 _ rfl;have T:=j _ d _ _ _<|f 8 _ rfl;simp only[yzp]at C p D H L Q R S T;rw[a3]at p;have c9:b.tb<g.heap.size:=ew (dw n _ l.tb.c0) a8;have c3:b.nb<g.heap.size:=ew (dw n _<|f 0 _ rfl) a8;have cC:b.vb<g.heap.size:=ew (dw n _ v) a8;clear l aV a2 f x aP v a6 d Z a4 t a3 hd;go_enter func158,ntmps158;go_wp21;generalize(g.alloc<|.cells #[I m,I c] 48)=v at i aA w U V a0 C p D H L Q R S T;go_cut [8,9] (λbJ bK F=>bJ= ab (g.heap.size+1) 0/\bK= aa bI (qi a+1) (qi a+1)/\F=(v.alloc<|.cells #[I<|jr a.R, aa q 1 r,.int .u64 y,.int .u64 z,.int .u64 A,.int .u64 B,I<|na a,I a.lo,I a.hi] 151).drew)
 case first=>
  go_region
  all_goals (go_wp21;go_meet;exact⟨rfl,rfl,rfl⟩)
 case rest=>
 obtain⟨rfl,rfl,rfl⟩:=hcut;have d:Below v.heap.size v (v.alloc<|.cells #[I<|jr a.R, aa q 1 r,.int .u64 y,.int .u64 z,.int .u64 A,.int .u64 B,I<|na a,I a.lo,I a.hi] 151).drew:=((bp _ _).alloc ah _).drew;have f:(v.alloc<|.cells #[I<|jr a.R, aa q 1 r,.int .u64 y,.int .u64 z,.int .u64 A,.int .u64 B,I<|na a,I a.lo,I a.hi] 151).drew.heap[g.heap.size+1]?=some (.cells #[I<|jr a.R, aa q 1 r,.int .u64 y,.int .u64 z,.int .u64 A,.int .u64 B,I<|na a,I a.lo,I a.hi] 151):=by
  have:=yyb v<|.cells #[I<|jr a.R, aa q 1 r,.int .u64 y,.int .u64 z,.int .u64 A,.int .u64 B,I<|na a,I a.lo,I a.hi] 151;rw[aA]at this;exact this
 have bH:(v.alloc<|.cells #[I<|jr a.R, aa q 1 r,.int .u64 y,.int .u64 z,.int .u64 A,.int .u64 B,I<|na a,I a.lo,I a.hi] 151).drew.heap.size=g.heap.size+2:=by simp[aA]
 generalize(v.alloc<|.cells #[I<|jr a.R, aa q 1 r,.int .u64 y,.int .u64 z,.int .u64 A,.int .u64 B,I<|na a,I a.lo,I a.hi] 151).drew=aE at d f bH;have aG:=i.trans (d.mono<|by omega);have b6:=X.below aG;have b1:=J (w.of<|d.block g.heap.size<|by omega);have aZ:Y (Bx aE (g.heap.size+1) q r a.lo):=⟨by rw[yya aE _ 1 _ 151 (0,0) f];rfl,by rw[yya aE _ 7 _ 151 (0,0) f];rfl⟩;clear U V a0 C p D H L Q R S T i w d f;go_wp21;(try go_simp);go_loopw [10] (λu wr=>∃(d f:Nat)(p:co),d<=a.lo+b.s.size/\f<=c/\(a.lo-d)+(c-f)+d<=a.lo+b.s.size/\u=I d/\Y (Lf wr g.heap.size f c)/\Y (Bx wr (g.heap.size+1) q r a.lo)/\Y (uk b n s mt p wr)/\Y (Fo s g wr)/\Y (Zt (bi b.s b.bc e) a.lo a.hi d f c)/\Y (∀k,repP (bi b.s b.bc) (jg b.s b.bc) e a.lo a.hi (a.lo+b.s.size+1-d) d f c p k->repP (bi b.s b.bc) (jg b.s b.bc) e a.lo a.hi (a.lo+b.s.size+1) 0 m c P k)) (λu _=>a.lo+b.s.size+2-(intOf u).toNat)
 case atStart=>exact⟨0,m,P,ey _,bG,by omega,rfl,b1,aZ,b6,Fo.wm aG,b7,λk h=>h⟩
 obtain⟨d,f,p,c2,bF,c1,rfl,aI,aH,D,a2,aM,aF⟩:=hrel;obtain⟨cI,cJ,cK⟩:=aI.out;obtain⟨bM,cS⟩:=aH.out;have c6:=D.out.lt;have cE:g.heap.size+1<wr.heap.size:=dw wr _ bM;have cG:=j wr D.out.b _ _ _ b0;by_cases a7:f<c
 .obtain⟨T,x,C,a3,H⟩:=aao (by omega) aM.out a7;have V:=K.st e f x (by omega) C;have a0:=Nj (K.st e) V.2 H;have aK:Y (∃i,f<=i/\i<=c/\(bi b.s b.bc e f i/\Zt (bi b.s b.bc e) a.lo a.hi (d+1) i c)):=⟨x,V.1,a0.1,C,H⟩;have b3:Y (∀i,pr (λi=>bi b.s b.bc e f i/\Zt (bi b.s b.bc e) a.lo a.hi (d+1) i c) f c i->d<a.lo\/f<i):=λi a9=>by
   by_cases U:d<a.lo
   .exact .inl U
   right;obtain⟨L,Q,w,R⟩:=a9;rcases hb i x with h|h
   .exact cb ⟨C,H⟩<|w x h a0.1
   omega
  obtain⟨w,bU,bV,b5⟩:∃w:Nat,min ((d:Int)+1) (qi a:Int)=w/\w<=qi a/\Y (Tl b.s.size (E o w)<|Zt (bi b.s b.bc e) a.lo a.hi<|d+1):=by
   by_cases Q:d+1<=qi a
   .exact⟨d+1,by omega,Q,aL (d+1) Q⟩
   refine⟨qi a,by omega,ah,?_⟩;have R:=aJ.1;have S:=aJ.2;by_cases L:a.hi<0
   .exact(aL (qi a) ah).iff λa4 u=>by rw[Jr (by rw[R L];exact ah) L,Jr (by rw[R L]at Q;omega) L]
   exfalso;have:=S (by omega);omega
  obtain⟨b9,b8,L,bS,bE⟩:=aW.H w (by omega);have cH:=j wr D.out.b _ _ _ L;have a4:=D.out.below (bp wr.heap.size wr).drew;have bT:(f:Int)<c:=by omega
  have bY:((qi a:Int)+1-1)=(qi a:Int):=by omega
  have bZ:(w:Int)<(qi a:Int)+1:=by omega
  clear C a3 H V a0 L T;go_wp21;go_region_with (first
    |(go_at_call 192;(go_call ac4 b E aB n s W K aN e f c b9 b8 mt p _ (E o w) (Zt (bi b.s b.bc e) a.lo a.hi<|d+1) aT aU a4 bF aR bE b5.out (λi a9=>(a9.sat aK).1)as a5 bL ⟨i,rfl,aQ,Q,T,S,R⟩;have L:=J aQ;have a3:=J S;have a6:=(Fo.wm (bp wr.heap.size wr).drew).trans R;have aO:=aI.out.of (a6.block g.heap.size (by omega)<|by omega);have b2:=J aO;obtain⟨cM,cN,cP⟩:=aO;have aY:=J (aH.out.of<|a6.block (g.heap.size+1) (by omega)<|by omega);clear aQ S R)))
  all_goals
   have aQ:=L.2.1;have cA:=L.1;have c7:=b3 i L;go_wp21;go_roundw
   case rel=>
    refine⟨d+1,i,Q,by omega,aQ,by omega,by go_num,b2.set _,aY.of<|er _ _ _ _<|by simp only;omega,?_,(a2.out.trans a6).fi ah _ _,(L.sat aK).2,λk h=>aF.out k ?_⟩
    .exact⟨T.b.setCell (by simp only;omega) _,T.o.cw<|er _ _ _ _<|by simp only;omega,T.l⟩
    rw[show a.lo+b.s.size+1-d=(a.lo+b.s.size+1-(d+1))+1 by omega];exact .inr ⟨a7,i,Q,L,a3,h⟩
   simp[intOf];omega
 have a6:f=c:=by omega
 subst a6;have i:Y (∀k,((d<a.lo/\jg b.s b.bc e f f p k)\/(¬d<a.lo/\k=p))->repP (bi b.s b.bc) (jg b.s b.bc) e a.lo a.hi (a.lo+b.s.size+1) 0 m f P k):=λk h=>aF.out k (by
  rw[show a.lo+b.s.size+1-d=(a.lo+b.s.size-d)+1 by omega];exact .inl ⟨a7,h⟩)
 by_cases U:d<a.lo
 .have L:Y (bi b.s b.bc e f f):=by
   obtain⟨x,C,H⟩:=(Js U).1 aM.out;have V:=K.st e f x (by omega) C;have a0:=Nj (K.st e) V.2 H;obtain rfl:x=f:=by omega
   exact C
  have a4:=D.out.below (bp wr.heap.size wr).drew;go_wp21;go_region_with (first
   |(go_at_call 108;(go_call aN e f f mt p _ aT aU a4 L ah aR as a5 bL ⟨rfl,Q,T,S,R⟩;have a3:=J S;have w:=(Fo.wm (bp wr.heap.size wr).drew).trans R;clear S R)))
  all_goals
   go_wp21;go_returns;exact⟨rfl,Q,T,i Q<|.inl ⟨U,a3⟩,a2.out.trans w⟩
 go_wp21;go_returns;exact⟨rfl,p,D.out,i p<|.inr ⟨U,rfl⟩,a2.out⟩
def ao4(b:Pp)(H:Nat->Nat->Nat->Nat->Bool)(L:Nat->Nat)(o:ae)(j F:Nat)(q:Ctx b H L o j)(aK:Fa b H L o j F):Fa b H L o j (F+1):=by
 intro m c d mt i g bA aO Z x a3 a4
 obtain ⟨a,hd⟩:∃a,b.bc[m]? =some a:=⟨_,dy aO⟩;have a7:=q;have a2:=J aK;have a8:=J x;have z:=q.pn m a hd;have aG:=J hd;have W:Y (∀k,jg b.s b.bc m c d i k↔_):=fun k=>yk q.wf q.h3 hd c d i k
 have aP:Y (bi b.s b.bc m c d↔_):=oy q.wf hd c d;obtain ⟨D,v,R,S,T,U,C,y,bM,t⟩:=q.tb.node m a hd;have aH:=J y;have b6:=q.tb.js;have bD:=q.g9;have b7:=Z.lt;have b5:=q.tb.ko;have aQ:=Z.b.size;have bE:=q.ob;have bF:=z.k6;have s:Y (∀(a6:ae),Below o.heap.size o a6->∀X a5 aC,o.cell? (O X a5)=some aC->a6.cell? (O X a5)=some aC):=fun a6 aX X a5 aC a0=>(ac a5 (aX.block X (dw o _ a0))).trans a0
 have u:Below g.heap.size g (g.alloc (.cells #[I c, I d] 48)):=(bp _ _).alloc ah _;have aD:(g.alloc (.cells #[I c, I d] 48)).heap.size=g.heap.size+1:=by simp
 have w:=Lf.new g c d 48;have p:=(Z.below u).b;have aE:=s _ p _ _ _ q.tb.c0;have A:=s _ p _ _ _ (t 0 _ rfl);have B:=s _ p _ _ _ (t 1 _ rfl);have E:=s _ p _ _ _ (t 2 _ rfl);have K:=s _ p _ _ _ (t 3 _ rfl);have P:=s _ p _ _ _ (t 4 _ rfl);have Q:=s _ p _ _ _ (t 5 _ rfl);have a1:=s _ p _ _ _ (t 6 _ rfl);have aA:=s _ p _ _ _ (t 7 _ rfl);have aB:=s _ p _ _ _ (t 8 _ rfl);simp only [Nat.add_zero] at A B E K P Q a1 aA aB;clear q aK x hd C y t p;go_in;go_upto_region 2 with fail
 have C:Below g.heap.size g ((g.alloc (.cells #[I c, I d] 48)).alloc (.cells #[I (jr a.R), .slice D a.ba.length v, .int .u64 R, .int .u64 S, .int .u64 T, .int .u64 U, I (na a), I a.lo, I a.hi] 151)):=u.alloc (by omega) _;have t:((g.alloc (.cells #[I c, I d] 48)).alloc (.cells #[I (jr a.R), .slice D a.ba.length v, .int .u64 R, .int .u64 S, .int .u64 T, .int .u64 U, I (na a), I a.lo, I a.hi] 151)).heap[g.heap.size+1]? =some (.cells #[I (jr a.R), .slice D a.ba.length v, .int .u64 R, .int .u64 S, .int .u64 T, .int .u64 U, I (na a), I a.lo, I a.hi] 151):=Vy g _ _;have a9:Lf ((g.alloc (.cells #[I c, I d] 48)).alloc (.cells #[I (jr a.R), .slice D a.ba.length v, .int .u64 R, .int .u64 S, .int .u64 T, .int .u64 U, I (na a), I a.lo, I a.hi] 151)) g.heap.size c d:=w.of (im _ _ _ (by omega));have aR:((g.alloc (.cells #[I c, I d] 48)).alloc (.cells #[I (jr a.R), .slice D a.ba.length v, .int .u64 R, .int .u64 S, .int .u64 T, .int .u64 U, I (na a), I a.lo, I a.hi] 151)).heap.size=g.heap.size+2:=by simp
 clear aE A B E K P Q a1 aA aB u w aD;generalize ((g.alloc (.cells #[I c, I d] 48)).alloc (.cells #[I (jr a.R), .slice D a.ba.length v, .int .u64 R, .int .u64 S, .int .u64 T, .int .u64 U, I (na a), I a.lo, I a.hi] 151))=p at C t a9 aR;have y:=Z.below C;have aS:=J a9;have Q:p.cell? (O (g.heap.size+1) 0)=some (I (jr a.R)):=by rw [cell_of_row p _ 0 _ 151 (0,0) t];rfl
 have aL:p.cell? (O (g.heap.size+1) 1)=some (.slice D a.ba.length v):=by rw [cell_of_row p _ 1 _ 151 (0,0) t];rfl
 have aM:p.cell? (O (g.heap.size+1) 6)=some (I (na a)):=by rw [cell_of_row p _ 6 _ 151 (0,0) t];rfl
 obtain ⟨aY,aZ,b0⟩:=a9;clear t;obtain f|f|f|f|f:a.R<=2\/a.R=3\/a.R=4\/a.R=5\/a.R=6:=by omega
 .--m leaf
  have w:Y (jg b.s b.bc m c d i i):=by
   rw [Y,W.out];rw [N (by omega),N (by omega),N (by omega),N (by omega)]
  obtain hp|hp|hp:jr a.R=2\/jr a.R=0\/jr a.R=1:=by
   unfold jr;obtain h|h|h:a.R=0\/a.R=1\/a.R=2:=by omega
   all_goals rw [h];decide
  all_goals
   rw [hp] at Q;clear hp f;go_wp21;go_returns;exact ⟨rfl,i,y,w,Fo.wm C⟩
 .--m b4
  rw [show jr a.R=3 from by rw [f];rfl] at Q;rw [show na a=(a.num:Int)+1 from by unfold na;rw [G f]] at aM;obtain ⟨x,t⟩:=z.one (.inl f);have bG:=z.num f;have bH:=z.sub x (by rw [t];simp);have aA:=J t;rcases aH with aB|⟨K,rfl,aT,P⟩
  .rw [aB] at t;cases t
  have E:=J (P 0 x (by rw [t];rfl));have A:a.ba.length=1:=by rw [t];rfl
  rw [A] at aL;have aU:Y (bi b.s b.bc x c d):=by
   have:=aP.1 a8;rw [N (by omega),N (by omega),N (by omega),N (by omega),N (by omega),t] at this;obtain ⟨u,a1,B⟩:=this;obtain rfl:u=x:=by simpa using a1
   exact B
  have w:Y (∀k,jg b.s b.bc x c d (i.set a.num ((c:Int),(d:Int))) k->jg b.s b.bc m c d i k):=fun k h=>by
   rw [W.out,G f,aA.out];exact h
  have aN:=Z.l;obtain ⟨aD,aE,a0⟩:∃aD aE,(mt::i)[a.num+1]? =some (aD,aE):=by
   rw [List.getElem?_cons_succ,dy (by omega)];exact ⟨_,_,rfl⟩
  obtain ⟨aF,b1,b2,b3⟩:=y.o (a.num+1) aD aE a0;have b8:K<g.heap.size:=ew (dw o _ E) aQ;have b9:K≠j:=by have:=dw o _ E;simp only at this;omega
  have B:=s p y.b _ _ _ E;clear f P t A a0;go_wp21;have aI:Fo j g ((p.setCell (O j ((a.num+1)*2)) (I c)).setCell (O j ((a.num+1)*2+1)) (I d)):=((Fo.wm C).set _ _).set _ _;have A:uk b o j mt (i.set a.num ((c:Int),(d:Int))) ((p.setCell (O j ((a.num+1)*2)) (I c)).setCell (O j ((a.num+1)*2+1)) (I d)):=by
   refine ⟨(y.b.setCell (by simp only;omega) _).setCell (by simp only;omega) _, ?_,by rw [tj];exact aN⟩;have:=y.o.put (q:=a.num+1) c d (by simp;omega);rw [List.set_cons_succ] at this;exact this
  have aJ:Lf ((p.setCell (O j ((a.num+1)*2)) (I c)).setCell (O j ((a.num+1)*2+1)) (I d)) g.heap.size c d:=(aS.of (er _ _ _ _ (by simp only;omega))).of (er _ _ _ _ (by simp only;omega));have aV:((p.setCell (O j ((a.num+1)*2)) (I c)).setCell (O j ((a.num+1)*2+1)) (I d)).cell? (O (g.heap.size+1) 1)=some (aa K 1 v):=by go_simp
  generalize ((p.setCell (O j ((a.num+1)*2)) (I c)).setCell (O j ((a.num+1)*2+1)) (I d))=w3 at aI A aJ aV;have aW:=A.below (bp w3.heap.size w3).drew;obtain ⟨bI,bJ,bK⟩:=aJ;have bL:=s w3 A.b _ _ _ E;clear A aF b1 b2 b3 Q aL aM aY aZ b0 B;go_region_with (first
   |(go_at_call 108;(go_call a2 x c d mt (i.set a.num ((c:Int),(d:Int))) _ (by omega) (by omega) aW aU a3 a4 as e aF ⟨rfl,M,l,n,r⟩;have A:=J n;have B:=(Fo.wm (bp w3.heap.size w3).drew).trans r;clear n r)))
  all_goals
   go_wp21;go_returns;exact ⟨rfl,M,l,w M A,aI.trans B⟩
 .--ways
  rw [show jr a.R=6 from by rw [f];rfl] at Q;obtain ⟨aD,aI⟩:=z.two (.inl f);rcases aH with aB|⟨K,rfl,aT,P⟩
  .rw [aB] at aD;simp at aD
  have E:=J P;have aJ:Y (∀u∈a.ba,u<F/\u<b.bc.length):=fun u a1=>by have:=z.sub u a1;omega
  have aE:K<o.heap.size:=by
   obtain ⟨u,a1⟩:∃u,a.ba[0]? =some u:=⟨_,dy (by omega)⟩;exact dw o _ (P 0 u a1)
  have w:Y (∀k,altG (bi b.s b.bc) (jg b.s b.bc) a.ba c d i k->jg b.s b.bc m c d i k):=fun k h=>by
   rw [W.out,N (by omega),G f];exact h
  clear f P;go_wp21;go_call aoz b H L o j F a7 a2 a.ba K v c d mt i _ aJ aI aE E y a3 a4 as e aF ⟨rfl,M,l,n,r⟩;have A:=J (w M n);have B:=(Fo.wm C).trans r;clear n r;go_wp21;go_returns;exact ⟨rfl,M,l,A,B⟩
 .--m row
  rw [show jr a.R=5 from by rw [f];rfl] at Q;have w:Y (∀k,ik (bi b.s b.bc) (jg b.s b.bc) a.ba c d i k->jg b.s b.bc m c d i k):=fun k h=>by
   rw [W.out,N (by omega),N (by omega),G f];exact h
  have P:=J f;clear f;go_wp21;go_call ao3 b H L o j F a7 a2 m a aG P (by omega) c d mt i _ y a3 a4 a8 as e aF ⟨rfl,M,l,n,r⟩;have A:=J (w M n);have B:=(Fo.wm C).trans r;clear n r;go_wp21;go_returns;exact ⟨rfl,M,l,A,B⟩
 --m V
 rw [show jr a.R=4 from by rw [f];rfl] at Q;obtain ⟨x,t⟩:=z.one (.inr f);have w:Y (∀k,repP (bi b.s b.bc) (jg b.s b.bc) x a.lo a.hi (a.lo+b.s.size+1) 0 c d i k->jg b.s b.bc m c d i k):=fun k h=>by
  rw [W.out,N (by omega),N (by omega),N (by omega),G f,t];exact h
 have P:=J f;have aA:=J t;clear f t;go_wp21;go_call ao0 b H L o j F a7 a2 m x a aG P aA (by omega) c d mt i _ y a3 a4 a8 as e aF ⟨rfl,M,l,n,r⟩;have A:=J (w M n);have B:=(Fo.wm C).trans r;clear n r;go_wp21;go_returns;exact ⟨rfl,M,l,A,B⟩
def ac5(e:Pp)(a:Nat->Nat->Nat->Nat->Bool)(d:Nat->Nat)(b:ae)(c:Nat)(f:Ctx e a d b c):∀N,Fa e a d b c N
 |0=>fun g j k mt h l i=>by omega
 |N+1=>ao4 e a d b c N f (ac5 e a d b c f N)
section
def MO(a b:af):Sem af:=Instr.makeSlice 41 a b
def aab:Instr.makeSlice 41 V X=MO V X:=rfl
attribute [local go_sem↓] aab
def apx:(prog.info? 48).map (λa=>(a.zero,a.size,a.bytes))=some (some<|.agg #[I 0,I 0],2,16):=by kernel_rfl
def at3(n:i<=100000):∃d:Array af,(∀b,b<i*2->d[b]?=some (I 0))/\∀a,(MO (I i)<|I i).run prog a=.ok (aa a.heap.size i i) (a.alloc<|.cells d 48):=by
 have⟨j,e,f,g,h⟩:=yyf apx;refine⟨madeCells (Value.agg #[I 0,I 0]).cells<|i*2,λb k=>Pj _ _ ?_ ?_ _ b k,λa=>?_⟩
 .intro c l
  have m:c<2:=by simpa[Value.cells]using l
  obtain rfl|rfl:c=0\/c=1:=by omega
  .rfl
  rfl
 .simp[Value.cells]
 have:=yxt (P:=prog) a 41 48 j _ underlying41 e f .i64 .i64 i i (by omega) (yzw _) (by rw[h];omega) (by omega);rw[g]at this;rw[<-aab];simpa using this
def tc(n:Nat):co:=List.replicate n ((-1:Int),(-1:Int))
def auy(a:Pp)(o:Nat->Nat->Nat->Nat->Bool)(q:Nat->Nat)(b:ae)(k:pz b a a.bc.length o q)(T:∀(j:Nat)(l:Nd),a.bc[j]?=some l->Cn a.s (bi a.s a.bc) l (q j) (o j))(E:∀(j:Nat)(l:Nd),a.bc[j]?=some l->ww j a.eu l)
  (U:a.eu<=9) (X:a.root<a.bc.length) (d c:Nat) (Q:bi a.s a.bc a.root d c) (Z:d<=c) (a9:c<=a.s.size):
  Calls prog 68 #[.pointer<|some ⟨a.tb,0,none⟩,.agg #[.int .i64 d,.int .i64 c]] b
   λp S=>∃r,p=.returned (.slice (some ⟨r,0,none⟩) (a.eu+1)<|a.eu+1)/\b.heap.size<=r/\∃z,rx S r (((d:Int),(c:Int))::z)/\z.length=a.eu/\jg a.s a.bc a.root d c (tc a.eu) z/\Below b.heap.size b S:=by
 have V:Y (Ctx a o q b<|b.heap.size+1):=⟨k,T,E,by omega,U⟩;have W:=J Q;have aE:=k.js;have aD:=k.ko;have h:=k.c1;have m:=k.c2;have a0:=J h;have aG:=J m;have H:a.tb<b.heap.size:=dw b _ h;obtain⟨g,e,x⟩:=at3 (a.eu+1) (by omega);rw[show((a.eu+1:Nat):Int)=1+(a.eu:Int)by omega]at x;have L:=J e;clear k T E Q e;go_in;go_upto_region 2 with fail
 have y:Below b.heap.size b ((b.alloc<|.cells #[I d,I c] 48).alloc<|.cells g 48):=((bp _ _).alloc ah _).alloc (by simp) _;have e:((b.alloc<|.cells #[I d,I c] 48).alloc<|.cells g 48).heap[b.heap.size+1]?=some (.cells g 48):=Vy b _ _;have A:Lf ((b.alloc<|.cells #[I d,I c] 48).alloc<|.cells g 48) b.heap.size d c:=(Lf.new b d c 48).of (im _ _ _<|by simp);have a1:((b.alloc<|.cells #[I d,I c] 48).alloc<|.cells g 48).heap.size=b.heap.size+2:=by simp
 generalize((b.alloc<|.cells #[I d,I c] 48).alloc<|.cells g 48)=n at y e A a1;have w:rx n (b.heap.size+1) (List.replicate (a.eu+1) ((0:Int),(0:Int))):=by
  intro f t u i
  have s:f<a.eu+1:=by
   have:=(jy.1 i).1;simpa using this
  rw[yxc s]at i;cases i
  refine⟨?_,?_,?_,?_⟩
  .rw[yya n _ _ g 48 (0,0) e];exact L _<|by omega
  .rw[yya n _ _ g 48 (0,0) e];exact L _<|by omega
  .simp[World.frozen?,e]
  simp[World.frozen?,e]
 have a2:=J w;have a3:=J A;obtain⟨aA,aB,aC⟩:=A;obtain⟨s,t,u,v⟩:=w 0 0 0 (by rw[yxc<|by omega]);have aI:=(ac 2<|y.block a.tb H).trans m;have aF:a.tb≠b.heap.size+1:=by omega
 simp only[zyh,qo]at s t u v;clear e w h m x;go_wp21;go_loopw [22] (λB wr=>∃(e:Nat)(h:List (Int×Int)),e<=a.eu/\B=I e/\h.length=a.eu/\Y (rx wr (b.heap.size+1) (((d:Int),(c:Int))::h))/\Y (∀f,f<e->h[f]?=some ((-1:Int),(-1:Int)))/\Y (Below b.heap.size b wr)/\Y (Lf wr b.heap.size d c)) (λB _=>a.eu+1-(intOf B).toNat)
 case atStart=>
  refine⟨0,List.replicate a.eu ((0:Int),(0:Int)),ey _,rfl,by simp,?_,λf w=>by omega,(y.setCell (by simp only;omega) _).setCell (by simp only;omega) _,(a3.of<|er _ _ _ _<|by simp only;omega).of<|er _ _ _ _<|by simp only;omega⟩;have:=a2.put (q:=0) d c (by simp);rw[List.replicate_succ,List.set_cons_zero]at this;simp only[zyh,qo]at this;exact this
 obtain⟨e,h,aJ,rfl,K,w,P,x,M⟩:=hrel;by_cases a4:e<a.eu
 .obtain⟨C,D,R⟩:∃C D,(((d:Int),(c:Int))::h)[1+e]?=some (C,D):=by
   rw[dy<|by simp;omega];exact⟨_,_,rfl⟩
  obtain⟨u1,u2,u3,u4⟩:=w.out (1+e) C D R;clear R s t u v;go_wp21;go_roundw
  case rel=>
   refine⟨e+1,h.set e ((-1:Int),(-1:Int)),a4,by go_num,by rw[tj];exact K,?_,λf i=>?_,(x.setCell (by simp only;omega) _).setCell (by simp only;omega) _,(M.of<|er _ _ _ _<|by simp only;omega).of<|er _ _ _ _<|by simp only;omega⟩
   .have:=w.put (q:=1+e) (-1) (-1) (by simp;omega);rw[yzq 1 e,yyl]at this;rw[yzq 1 e];exact this
   by_cases p:f=e
   .subst p;rw[zv<|by omega]
   rw[xe<|by omega];exact P.out f<|by omega
  simp[intOf];omega
 have R:e=a.eu:=by omega
 subst R;have a5:h=tc a.eu:=by
  unfold tc;refine yyy λf=>?_
  by_cases i:f<a.eu
  .rw[P.out f i,yxc i]
  rw[je<|by omega,je<|by simp;omega]
 subst a5;have D:Y (uk a b (b.heap.size+1) ((d:Int),(c:Int)) (tc a.eu) wr):=⟨x.out,w.out,K⟩;have a6:=D.below (bp wr.heap.size wr).drew;obtain⟨aA,aB,aC⟩:=M.out;have aH:=(ac 1<|x.block a.tb H).trans a0;clear s t u v;go_wp21;go_region_with (first
  |(go_at_call 108;(go_call ac5 a o q b (b.heap.size+1) V (a.root+1) a.root d c ((d:Int),(c:Int)) (tc a.eu) _ (by omega) X a6 W Z a9 as p aK ⟨rfl,m,F,C,a7⟩;have a8:=J C;clear C a7)))
 all_goals
  go_wp21;go_ret;exact⟨_,rfl,by omega,m,F.o,F.l,a8,F.b⟩
def zw(L:Nat)(R:Nat->Nat->Prop)(pl i j:Nat):Prop:=pl<=i/\i<=j/\j<=L/\R i j/\(∀i' j',pl<=i'->i'<i->¬R i' j')/\∀j',j<j'->¬R i j'
def zw.one{g d f b c:Nat}(k:zw a C g d f)(j:zw a C g b c):d=b/\f=c:=by
 have⟨l,r,s,h,m,n⟩:=k;have⟨o,t,u,i,p,q⟩:=j;have e:d=b:=by
  rcases yyx d b with e|e|e
  .exact cb h<|p d f l e
  .exact e
  exact cb i<|m b c o e
 subst e;refine⟨rfl,?_⟩;rcases yyx f c with e|e|e
 .exact cb i<|n c e
 .exact e
 exact cb h<|q f e
def aob(a:Pp)(u:Nat->Nat->Nat->Nat->Bool)(v:Nat->Nat)(h:ae)(l:pz h a a.bc.length u v)(C:∀(m:Nat)(q:Nd),a.bc[m]?=some q->Cn a.s (bi a.s a.bc) q (v m) (u m))(D:∀(m:Nat)(q:Nd),a.bc[m]?=some q->ww m a.eu q)
  (E:a.eu<=9) (r:a.root<a.bc.length) (i:Nat) (a5:i<=a.s.size+1):
  Calls prog 44 #[.pointer<|some ⟨a.tb,0,none⟩,.int .i64 i] h
   λk M=>Below h.heap.size h M/\((k=.returned (.slice none 0 0)/\∀b d,i<=b->b<=a.s.size->¬bi a.s a.bc a.root b d)\/
    ∃o b d p,k=.returned (.slice (some ⟨o,0,none⟩) (a.eu+1)<|a.eu+1)/\h.heap.size<=o/\zw a.s.size (bi a.s a.bc a.root) i b d/\rx M o (((b:Int),(d:Int))::p)/\p.length=a.eu/\jg a.s a.bc a.root b d (tc a.eu) p):=by
 have a3:=l;have a6:=J C;have a7:=J D;have n:Y (Ctx a u v h h.heap.size):=⟨l,C,D,by omega,E⟩;have aF:=l.js;have aK:=l.c1;have⟨aB,aA,W,P⟩:=l.Ze r;have X:=P.lt;go_in;go_wp21;go_call Qy as k H ⟨rfl,aG⟩;subst H;go_wp21;go_loopw [6] (λB wr=>∃(b:Nat),i<=b/\b<=a.s.size+1/\B=I b/\Y (∀f c,i<=f->f<b->¬bi a.s a.bc a.root f c)/\Y (Below h.heap.size h wr)) (λB _=>a.s.size+2-(intOf B).toNat)
 .exact⟨i,ah,a5,rfl,λf c g e=>by omega,bp _ _⟩
 obtain⟨b,a8,aH,rfl,y,t⟩:=hrel;by_cases j:b<=a.s.size
 .have a9:=P.below t X;have⟨T,V,K,Q,R,S,aD⟩:=a9.cell b j;go_wp21;go_call apa as k H ⟨d,ok,rfl,A,aC⟩;have w:=t.trans<|A.mono t.size;have Z:=w.size;rcases aC with⟨rfl,aI,F,s⟩|⟨rfl,s⟩
  .have z:=J<|(n.tl r b j d).1 F;have x:=n.st a.root b d j z;have U:Y (zw a.s.size (bi a.s a.bc a.root) i b d):=by
    refine⟨a8,x.1,x.2,z,y,λc g e=>?_⟩;have a4:=n.st a.root b c j e;have:=(n.tl r b j c).2 e;rw[s c g<|by omega]at this;cases this
   go_wp21;go_call auy a u v _ (a3.below w) a6 a7 E r b d z x.1 x.2 as k aL ⟨o,rfl,aJ,p,g,e,h3,L⟩;have a0:=J g;have a1:=J h3;have a2:=w.trans<|L.mono Z;go_wp21;go_ret;exact⟨a2,.inr ⟨o,b,d,p,rfl,by omega,U,a0,e,a1⟩⟩
  have x:Y (∀c,¬bi a.s a.bc a.root b c):=λc e=>by
   have a4:=n.st a.root b c j e;have:=(n.tl r b j c).2 e;rw[s c<|by omega]at this;cases this
  go_wp21;go_roundw
  .exact⟨b+1,by omega,by omega,by go_num,λf c g e=>by
         by_cases k:f=b
         .subst k;exact x c
         exact y f c g<|by omega,w⟩
  simp[intOf];omega
 go_wp21;go_ret;exact⟨t,.inl ⟨rfl,λf c g e=>y f c g<|by omega⟩⟩
end
section
def ady:(prog.info? 3).map (λa=>(a.zero,a.size,a.bytes))=some (some<|I 0,1,8):=by kernel_rfl
section
variable {ch:bs->bs×Nat} {s:ag}
def Oz(a:bs)(c:Nat)(b:Nd):a.l.length<=(cp a c b).1.l.length:=by simp[cp]
def ape(b:∀a,a.l.length<=(ch a).1.l.length)(a:bs):a.l.length<=(qv ch s a).1.l.length:=by
 unfold qv;simp only
 (repeat' split)<;>first|exact Oz _ _ _|exact bq (b ⟨a.H+1,a.g+1,a.l⟩)<|Oz _ _ _
def adf(c:∀a,a.l.length<=(ch a).1.l.length)(a:bs):a.l.length<=(xc ch s a).1.l.length:=by
 have b:=ape (s:=s) c a;unfold xc;simp only
 (repeat' split)<;>first|exact bq b (Oz _ _ _)|exact b
def ade(b:List Nat)(a:bs):a.l.length<=(joinF i b a).1.l.length:=by
 unfold joinF;split
 .exact ah
 exact Oz _ _ _
def Uq(c:∀a,a.l.length<=(ch a).1.l.length):∀(f:Nat)(a:bs)(b:List Nat),a.l.length<=(wayL ch s f a b).1.l.length
 |0,a,b=>ah
 |f+1,a,b=>by
  have d:=adf (s:=s) c a;unfold wayL;simp only;split
  .exact bq d<|Uq c f _ _
  exact bq d<|ade _ _ _
def adc(c:∀a,a.l.length<=(ch a).1.l.length):∀(f:Nat)(a:bs)(b:List Nat),a.l.length<=(wy ch s f a b).1.l.length
 |0,a,b=>ah
 |f+1,a,b=>by
  have d:a.l.length<=(wt ch s a).1.l.length:=Uq c _ _ _;unfold wy;simp only;split
  .exact bq d<|adc c f ⟨(wt ch s a).1.H+1,(wt ch s a).1.g,(wt ch s a).1.l⟩ _
  exact bq d<|ade _ _ _
end
def Up(s:ag):∀(n:Nat)(a:bs),a.l.length<=(ml s n a).1.l.length
 |0,a=>ah
 |n+1,a=>adc (Up s n) _ _ _
structure Zs(w wr:ae)(b i o:Nat)(n:NX)(s:ag)(nv kv:af)(j g':Nat)(n':NX)(nv':af)(zs:List Nat)(st:St):Prop where
 rd:Qqk wr b s j o g' nv' n'
 fr:Qql b nv nv' w wr
 kd:Qqt wr w.heap.size nv' kv zs
 run:run s j=some st
 o:st.o=o
 a:st.a=g'
 ij:i+zs.length<=j
 nn:n'.l.length+zs.length+2*i<=n.l.length+2*j
 X:n'.X=λk=>n.X k\/kv.ownBlock=some k
 zn:∀z∈zs,z<n'.l.length
def ou.ofX{xs:List af}{e:NX}(k:ou w a x xs e)(o:∀b,b<w.heap.size->b≠a->some b≠x.ownBlock->¬e.X b->u.heap[b]?=w.heap[b]?):ou u a x xs e:=λb j hd=>by
 have⟨l,m,n,p,q,r,t,c,v,y⟩:=k b j hd;refine⟨l,m,n,p,q,r,t,?_,v,y⟩;rcases c with c|⟨d,z,f,g,h,A⟩
 .exact .inl c
 refine .inr ⟨d,z,f,g,h,λb B C=>?_⟩;have:=A b B C;exact(ac b<|o d (dw w _ this) f (λi=>g i.symm) h).trans this
def ad8{l wr d:ae}{b v:Nat}{s:ag}{B j:af}{t r:Nat}{u p:NX}{i:af}{m:List Nat}{o:Nat}{g y:Nat}
  (a5:b<l.heap.size) (C:Qqk wr b s t v r i p) (a2:p.X=λa=>u.X a\/j.ownBlock=some a) (k:Qql b B i l wr) (z:Qqt wr l.heap.size i j m)
  (H:d.ownsRow l.heap.size 3 1 (aa g (m.length+1) y) (m.length+1) ((m.map λo:Nat=>I o)++[I o]))
  (q:(wr.alloc<|.cells #[I o] 3).grownBy d j.ownBlock) (D:j.ownBlock=some g\/g=wr.heap.size+1):
  Qqk d b s t v r i ⟨p.l,λa=>u.X a\/(aa g (m.length+1) y).ownBlock=some a⟩/\Qql b B i l d/\Qqt d l.heap.size i (aa g (m.length+1) y) (m++[o]):=by
 have a6:(wr.alloc<|.cells #[I o] 3).heap.size=wr.heap.size+1:=by simp
 have w:∀a,a<wr.heap.size->some a≠j.ownBlock->d.heap[a]?=wr.heap[a]? :=λa c K=>by
  rw[q.block a (by omega) K,im _ _ _ c]
 have E:∀a,j.ownBlock=some a->l.heap.size<=a/\a<wr.heap.size:=λa c=>z.own.lt a c
 have a7:=q.size;refine⟨?_,?_,?_⟩
 .have L:Qqk wr b s t v r i ⟨p.l,λa=>(u.X a\/j.ownBlock=some a)\/g=a⟩:=Qqk.tu C _ (λa c e=>by
   rw[a2];rcases e with e|e
   .exact e
   subst e;rcases D with f|f
   .exact .inr f
   omega)
  have⟨⟨F,M,P,Q,R⟩,S,T,U,V,W,X,⟨xs,x,Z⟩,a0⟩:=L;have a1:b<wr.heap.size:=dw wr _ F;have A:=w b a1 (λf=>by have:=(E b f.symm).1;omega);have h:∀a,d.cell? (O b a)=wr.cell? (O b a):=λa=>ac a A
  have n:∀a,d.frozen? (O b a)=wr.frozen? (O b a):=λa=>ad a A
  have a3:Qqk d b s t v r i ⟨p.l,λa=>(u.X a\/j.ownBlock=some a)\/g=a⟩:=⟨⟨(h 0).trans F,(h 1).trans M,(n 1).trans P,Q,R⟩,(h 2).trans S,(h 3).trans T,(h 4).trans U,(n 2).trans V,(n 3).trans W,(n 4).trans X,⟨xs,
   Qqo x λa c=>w a (x.lt a c).2<|λf=>z.ne a f.symm c,Z.ofX λa c _ _ a4=>w a c<|λf=>a4<|.inl<|.inr f.symm⟩,a0⟩
  exact Qqk.tu a3 _ (λa _ e=>by
   rcases e with e|e
   .exact .inl<|.inl e
   exact .inr<|by simpa[Value.ownBlock]using e)
 .refine⟨q.os.trans k.os,q.tape.trans k.tape,q.output.trans k.output,by have:=k.size;omega,λa c h n=>?_,k.km⟩;rw[w a (by have:=k.size;omega) (λf=>by have:=(E a f.symm).1;omega)];exact k.block a c h n
 refine⟨?_,λa c=>?_⟩
 .rw[yys,ga];exact H
 have h:g=a:=by simpa[Value.ownBlock]using c
 subst h;rcases D with f|f
 .exact z.ne g f
 intro e
 have⟨xs,x,_⟩:=C.own;have:=(x.lt g e).2;omega
def Va{e:Nat}{c:List Nat}{d:bs}(f:2<=c.length):joinF e c d=cp d d.H (ct e c):=by
 match c,f with
 |a::b::l,_=>rfl
def Za(a5:Hj i)(j k C t:Nat)(d:NX)(s:ag)(T:af)(z:St)(m:ae)(f:Cl i m j k C t d s T z):
  Calls prog 99 #[.pointer (some ⟨j,0,none⟩)] m fun B b7=>∃(E:Int) (U:Bool),B= .returned (.tuple #[.int .i64 E, .bool U])/\ul j s k C d T m (aal s) (wt (ml s i) s ⟨k,t,d.l⟩) E U b7:=by
 generalize a:wt (ml s i) s ⟨k,t,d.l⟩=b8;have a6:=J a;clear a;have a7:=f.rd;have b9:=f.n2;have bA:=f.rd.rc.li;have bD:=f.N;have H:j<m.heap.size:=dw m _ f.rd.rc.c0;have aN:=J a5;obtain ⟨aO,aP,aQ,aR,aS⟩:=info_parts ady;clear a5;go_in;go_wp21;go_loopw [4] (fun aT wr=>∃o D p P e z a8,Zs m wr j k C d s T aT o D p P e z/\s.size<=a8+o/\Y (wayL (ml s i) s s.size ⟨k,t,d.l⟩ []=wayL (ml s i) s a8 ⟨o,D,p.l⟩ e)/\z.m<=2/\(z.m=0\/ue s o=true)) (fun _ wr=>s.size-Qqx wr j)
 case atStart=>exact ⟨k,t,⟨d.l,fun g=>d.X g\/(Value.slice none 0 0).ownBlock=some g⟩,T, [],z,s.size,⟨Qqk.tu a7 _ (fun g _ u=>u.elim id fun u=>by cases u),Qql.refl _ _ _,⟨World.ownsRow_nil _ _ _ _,fun g aU=>by cases aU⟩,f.run,f.o,f.a,by simp,by simp,rfl,fun E a9=>by cases a9⟩,by omega,rfl,f.m2,f.st⟩
 obtain ⟨o,D,p,P,e,Q,v,a,bE,V,R,c⟩:=hrel;have aV:Y (∀K,p.X K->K<wr.heap.size):=fun K y=>by
  rw [a.X] at y;rcases y with y|y
  .exact ew (f.X K y) a.fr.size
  exact (a.kd.own.lt K y).2
 have bF:=a.ij;have aW:=a.nn;have bG:=a.rd.rc.le;have aX:=J (Qqy a.rd.rc.c1);have aY:Y (Cl i wr j o C D p s P Q):=⟨a.rd,by omega,aV,a.run,a.o,a.a,R,c,by omega⟩;clear R c;go_wp21;go_call Wr i aN j o C D p s P Q _ aY as B aA ⟨E,U,rfl,aZ⟩;rcases aZ with ⟨rfl,c,aB,l,q,b0,w,L,x,M,W,X,bH,bI,aC,aD,rfl,aE,Z⟩|⟨rfl,c,L,x,M⟩
 .have aF:=a.kd.fr x H;have aG:=a.fr.trans x;have a0:=J M;have a1:=J aC;have aH:=L.rc.le;have bJ:=aG.size;have a9:e.length<=400:=by omega
  have b1:Y (l.X=fun g=>d.X g\/u4.ownBlock=some g):=by rw [Y,aD];exact a.X
  have b2:Y (p.l.length<=l.l.length):=by
   have:=adf (s:=s) (Up s i) ⟨o,D,p.l⟩;rw [Z] at this;exact this
  have a2:Y _:=Z;clear x M aC aD Z;go_wp2_with (at_builtin;refine wpList_append_lies _ rfl _ _ 56 rfl m.heap.size 3 aO (I 0) 1 8 underlying56 aP aQ aR aS rfl (by omega) u4 e.length (e.map fun E:Nat=>I (E:Int)) rfl (aF.own.alloc _) (O aA.heap.size 0) 1 1 [I (w:Int)] rfl rfl (cell_one_new _ _ _) (fun aI aJ=>by simp at aJ;subst aJ;rfl) (by omega) (by unfold maxLen;omega) (by omega) (by simp;omega) (aA.heap.size+1) (by simp) ?_;intro b3 b4 bK h n r A);have b:=ad8 H L b1 aG aF h n r;have aK:Y (∀S∈e++ [w],S<l.l.length):=fun S F=>by
   rcases og.1 F with F|F
   .exact ew (a.zn S F) b2
   have:S=w:=by simpa using F
   rw [this];exact aE
  have a3:=b.1;have aL:=b.2.1;have aM:=b.2.2;clear b h n r A;refine (Ym j s c _ a3.rc).mono ?_;rcases df (ue s c) with hs|hs
  .have h:=J hs;rw [hs];clear hs;rintro B w3 ⟨rfl,b⟩;have n:=Mv.Qqp b a3 aH;have r:=aL.trans (Mv.Qqn b q);have A:=aM.fr (Mv.Qqn b q) H;clear b;go_wp21;go_roundw
   case rel=>exact ⟨c,aB,⟨l.l,fun g=>d.X g\/(aa b3 (e.length+1) b4).ownBlock=some g⟩,q,e++ [w],b0,v-1,⟨n,r,A,a0,W,X,by simp;omega,by simp;omega,rfl,aK⟩,by omega,by rw [V.out,show v=(v-1)+1 by omega,wayL];(try simp only);rw [a2.out];(try simp only);rw [G (show om s c=true from h.out)];rfl,by rcases a1 with aI|aI<;>omega, .inr h⟩
   have Q:=Qqy n.rc.c1;have R:=aX;rw [Q,R];omega
  have h:=J hs;rw [hs];clear hs;rintro B w3 ⟨rfl,b⟩;have n:=Mv.Qqp b a3 aH;have r:=aL.trans (Mv.Qqn b q);have A:=aM.fr (Mv.Qqn b q) H;clear b;go_wp21;by_cases b:e= []
  .subst b;go_call ad6 j q _ m.heap.size _ w _ A as B w4 ⟨rfl,a4⟩;subst a4;go_wp21;go_ret2;simp only [List.length_nil] at aW;exact ⟨_,true,rfl, .inl ⟨rfl,_,_,_,q,_,w,(Qqk.tu n d.X (fun g _ u=> .inl u)),r,a0,W,X,by omega,by show l.l.length+1+2*k<=d.l.length+2*c;omega,⟨a1,h⟩,rfl,rfl,aE,by rw [←a6.out];show wayL (ml s i) s s.size ⟨k,t,d.l⟩ []=_;rw [V.out,show v=(v-1)+1 by omega,wayL];(try simp only);rw [a2.out];(try simp only);rw [N (show ¬om s c=true from by rw [show om s c=ue s c from rfl,h.out];simp)];rfl⟩⟩
  have bL:1<=e.length:=by cases e with|nil=>exact cb rfl b|cons bM bN=>simp
  go_call ad5 j c C aB ⟨l.l,d.X⟩ s q _ m.heap.size _ 5 (e++ [w]) _ (Qqk.tu n d.X (fun g _ u=> .inl u)) (by show l.l.length<=1000;omega) A (by simp;omega) (by simp;omega) (by omega) rfl f.X H aK as B w4 ⟨a4,rfl,b5,b6⟩;go_wp21;go_ret2;exact ⟨_,true,rfl, .inl ⟨rfl,_,_,_,a4,_,l.l.length,b5,r.trans b6,a0,W,X,by omega,by rw [oc];show l.l.length+1+1+2*k<=_;omega,⟨a1,h⟩,rfl,rfl,by rw [oc];show l.l.length<l.l.length+1;omega,by rw [←a6.out];show wayL (ml s i) s s.size ⟨k,t,d.l⟩ []=_;rw [V.out,show v=(v-1)+1 by omega,wayL];(try simp only);rw [a2.out];(try simp only);rw [N (show ¬om s c=true from by rw [show om s c=ue s c from rfl,h.out];simp)];rw [Va (by simp;omega)];rfl⟩⟩
 have b:=J L;have h:=(a.fr.below a7).trans M;have F:=J x;clear L x M;go_wp21;go_ret2;exact ⟨_,false,rfl, .inr ⟨rfl,c,b,F,h⟩⟩
def Yo{a:St}(c:a.m=1\/a.m=2):step a 124=some ⟨0,a.o,a.a,a.l⟩:=by
 have⟨d,e,f,g⟩:=a;have h:¬(bn xr 124=true):=by rw[Eh];omega
 simp only at c;have i:step ⟨d,e,f,g⟩ 124=nr ⟨d,e,f,g⟩ 124:=by
  unfold step;rw[N<|by simp only;omega,G c]
 rw[i];unfold nr;rw[N<|λb=>h b.2,N (λb=>by have:=b.2;omega),G rfl]
def alz(aB:Hj i)(f h B t:Nat)(b:NX)(s:ag)(a0:af)(y:St)(n:ae)(k:Cl i n f h B t b s a0 y)(aR:y.m=0):
  Calls prog 64 #[.pointer (some ⟨f,0,none⟩)] n fun P bF=>∃(F:Int) (a1:Bool),P= .returned (.tuple #[.int .i64 F, .bool a1])/\ul f s h B b a0 n (Rm s) (Ta (ml s i) s ⟨h,t,b.l⟩) F a1 bF:=by
 generalize a:Ta (ml s i) s ⟨h,t,b.l⟩=bG;have aC:=J a;clear a;have aD:=k.rd;have bH:=k.n2;have bI:=k.rd.rc.li;have bJ:=k.N;have H:f<n.heap.size:=dw n _ k.rd.rc.c0;have aS:=J aB;obtain ⟨aT,aU,aV,aW,aX⟩:=info_parts ady;clear aB;go_in;go_wp21;go_loopw [4] (fun aY wr=>∃m p l Q c y aE,Zs n wr f h B b s a0 aY m p l Q c y/\s.size<=aE+m/\Y (wy (ml s i) s s.size ⟨h,t,b.l⟩ []=wy (ml s i) s aE ⟨m,p,l.l⟩ c)/\y.m=0) (fun _ wr=>s.size-Qqx wr f)
 case atStart=>exact ⟨h,t,⟨b.l,fun e=>b.X e\/(Value.slice none 0 0).ownBlock=some e⟩,a0, [],y,s.size,⟨Qqk.tu aD _ (fun e _ u=>u.elim id fun u=>by cases u),Qql.refl _ _ _,⟨World.ownsRow_nil _ _ _ _,fun e aZ=>by cases aZ⟩,k.run,k.o,k.a,by simp,by simp,rfl,fun F aF=>by cases aF⟩,by omega,rfl,aR⟩
 obtain ⟨m,p,l,Q,c,R,w,a,bK,a2,S⟩:=hrel;have b0:Y (∀C,l.X C->C<wr.heap.size):=fun C v=>by
  rw [a.X] at v;rcases v with v|v
  .exact ew (k.X C v) a.fr.size
  exact (a.kd.own.lt C v).2
 have bL:=a.ij;have b1:=a.nn;have bM:=a.rd.rc.le;have b2:=J (Qqy a.rd.rc.c1);have b3:Y (Cl i wr f m B p l s Q R):=⟨a.rd,by omega,b0,a.run,a.o,a.a,by omega, .inl S,by omega⟩;clear S;go_wp21;go_call Za i aS f m B p l s Q R _ b3 as P aG ⟨F,a1,rfl,b4⟩;rcases b4 with ⟨rfl,U,aH,g,q,a3,x,K,E,M,a4,a5,bN,bO,aI,aJ,rfl,aK,a6⟩|⟨rfl,U,K,E,M⟩
 .have aL:=a.kd.fr E H;have aM:=a.fr.trans E;have a7:=J M;have a8:=J aI;have b5:=K.rc.le;have bP:=aM.size;have aF:c.length<=400:=by omega
  have b6:Y (g.X=fun e=>b.X e\/u4.ownBlock=some e):=by rw [Y,aJ];exact a.X
  have b7:Y (l.l.length<=g.l.length):=by
   have:=Uq (s:=s) (Up s i) s.size ⟨m,p,l.l⟩ [];rw [show wayL (ml s i) s s.size ⟨m,p,l.l⟩ []=wt (ml s i) s ⟨m,p,l.l⟩ from rfl,a6] at this;exact this
  have a9:Y _:=a6;clear E M aI aJ a6;go_wp2_with (at_builtin;refine wpList_append_lies _ rfl _ _ 56 rfl n.heap.size 3 aT (I 0) 1 8 underlying56 aU aV aW aX rfl (by omega) u4 c.length (c.map fun F:Nat=>I (F:Int)) rfl (aL.own.alloc _) (O aG.heap.size 0) 1 1 [I (x:Int)] rfl rfl (cell_one_new _ _ _) (fun L aN=>by simp at aN;subst aN;rfl) (by omega) (by unfold maxLen;omega) (by omega) (by simp;omega) (aG.heap.size+1) (by simp) ?_;intro b8 b9 bQ j o r z);have d:=ad8 H K b6 aM aL j o r;have aO:Y (∀V∈c++ [x],V<g.l.length):=fun V D=>by
   rcases og.1 D with D|D
   .exact ew (a.zn V D) b7
   have:V=x:=by simpa using D
   rw [this];exact aK
  have aA:=d.1;have aP:=d.2.1;have aQ:=d.2.2;clear d j o r z;go_call Nk f s U 124 _ aA.rc (by omega) as P w3 ⟨C,T,rfl,d,bA⟩;rcases bA with ⟨rfl,j,r⟩|⟨rfl,j,r⟩
  .obtain ⟨Z,A⟩:=Qqw (c:=124) j;have X:Y (run s T=some ⟨0,a3.o,a3.a,a3.l⟩):=by
    rw [r,Y,lf a7.out,A];exact Yo (by
     rcases a8.1 with L|L
     .exact .inl L.1
     exact .inr L)
   have o:=Mv.Qqp d aA (by omega);have z:=aP.trans (Mv.Qqn d q);have W:=aQ.fr (Mv.Qqn d q) H;go_wp21;go_roundw
   case rel=>exact ⟨T,aH,⟨g.l,fun e=>b.X e\/(aa b8 (c.length+1) b9).ownBlock=some e⟩,q,c++ [x],_,w-1,⟨o,z,W,X,a4,a5,by simp;omega,by simp;omega,rfl,aO⟩,by omega,by rw [a2.out,show w=(w-1)+1 by omega,wy];(try simp only);rw [a9.out];(try simp only);rw [G (show pk s U=124 from j),r];rfl,rfl⟩
   have R:=Qqy o.rc.c1;have S:=b2;rw [R,S];omega
  have A:=J j;subst r;have o:=Mv.Qqp d aA b5;have z:=aP.trans (Mv.Qqn d q);have W:=aQ.fr (Mv.Qqn d q) H;clear j;go_wp21;by_cases X:c= []
  .subst X;go_call ad6 f q _ n.heap.size _ x _ W as P w4 ⟨rfl,Z⟩;subst Z;go_wp21;go_ret2;simp only [List.length_nil] at b1;exact ⟨_,true,rfl, .inl ⟨rfl,_,_,_,q,_,x,(Qqk.tu o b.X (fun e _ u=> .inl u)),z,a7,a4,a5,by omega,by show g.l.length+1+2*h<=b.l.length+2*T;omega,⟨a8,A⟩,rfl,rfl,aK,by rw [←aC.out];show wy (ml s i) s s.size ⟨h,t,b.l⟩ []=_;rw [a2.out,show w=(w-1)+1 by omega,wy];(try simp only);rw [a9.out];(try simp only);rw [N (show ¬pk s T=124 from A.out)];rfl⟩⟩
  have bR:1<=c.length:=by cases c with|nil=>exact cb rfl X|cons bS bT=>simp
  go_call ad5 f T B aH ⟨g.l,b.X⟩ s q _ n.heap.size _ 4 (c++ [x]) _ (Qqk.tu o b.X (fun e _ u=> .inl u)) (by show g.l.length<=1000;omega) W (by simp;omega) (by simp;omega) (by omega) rfl k.X H aO as P w4 ⟨Z,rfl,bD,bE⟩;go_wp21;go_ret2;exact ⟨_,true,rfl, .inl ⟨rfl,_,_,_,Z,_,g.l.length,bD,z.trans bE,a7,a4,a5,by omega,by rw [oc];show g.l.length+1+1+2*h<=_;omega,⟨a8,A⟩,rfl,rfl,by rw [oc];show g.l.length<g.l.length+1;omega,by rw [←aC.out];show wy (ml s i) s s.size ⟨h,t,b.l⟩ []=_;rw [a2.out,show w=(w-1)+1 by omega,wy];(try simp only);rw [a9.out];(try simp only);rw [N (show ¬pk s T=124 from A.out)];rw [Va (by simp;omega)];rfl⟩⟩
 have d:=J K;have D:=(a.fr.below aD).trans M;have j:=J E;clear K E M;go_wp21;go_ret2;exact ⟨_,false,rfl, .inr ⟨rfl,U,d,j,D⟩⟩
def aa4:∀a,Hj a
 |0=>by
  intro c d e f g s h i j _ _ _ _ _ _ _ b
  omega
 |a+1=>by
  intro c d e f g s h i j k l m n b o p q
  exact alz a (aa4 a) c d e f g s h i j ⟨k,l,m,n,o,p,by omega,.inl b,q⟩ b
end
structure Tr(w:ae)(N:Nat)(v0 v1 v2:af):Prop where
 c0:w.cell? (O N 0)=some v0
 c1:w.cell? (O N 1)=some v1
 c2:w.cell? (O N 2)=some v2
 f0:w.frozen? (O N 0)=false
 f1:w.frozen? (O N 1)=false
 f2:w.frozen? (O N 2)=false
def Tr.below(d:Tr w a x y z)(h:Below b w u)(i:a<b:=by omega):Tr u a x y z:=by
 have g:=h.block a i;have e:∀c,u.cell? (O a c)=w.cell? (O a c):=λc=>ac c g
 have f:∀c,u.frozen? (O a c)=w.frozen? (O a c):=λc=>ad c g
 exact⟨(e 0).trans d.c0,(e 1).trans d.c1,(e 2).trans d.c2,(f 0).trans d.f0,(f 1).trans d.f1,(f 2).trans d.f2⟩
def Dv(w:ae)(lo hi nb:Nat)(bc:List Nd)(eu:Nat):Prop:=
 hi<=w.heap.size/\∀w':ae,(∀k,lo<k->k<hi->w'.heap[k]?=w.heap[k]?)->hi<=w'.heap.size->yl w' nb bc eu
def Dv.of{i:List Nd}(k:Dv w a b c i d)(g:∀e,a<e->e<b->u.heap[e]?=w.heap[e]?)(l:b<=u.heap.size:=by omega):Dv u a b c i d:=
 ⟨l,λj m n=>k.2 j (λe f h=>(m e f h).trans<|g e f h) n⟩
def Rd.awq{q R i r T:Nat}{d:NX}(t:Qqk w q s R i r x d)(u:0<d.l.length)(v:∀a,a<=T->d.X a)(a3:T<q):
  ∃b j,x= aa b d.l.length j/\(d.l.length<=200->∀e:ae,(∀a,T<a->a<w.heap.size->e.heap[a]?=w.heap[a]?)->w.heap.size<=e.heap.size->yl e b d.l r):=by
 have⟨xs,k,S⟩:=t.own;obtain⟨b,j,rfl,X,Z⟩:=k.form (by omega);refine⟨b,j,rfl,λy e n a0=>⟨λg h hd=>?_,t.wf,y,u⟩⟩;have⟨z,Q,A,B,C,D,E,l,F,H⟩:=S g h hd;refine⟨z,Q,A,B,C,D,E,?_,F,λi U K=>?_⟩
 .rcases l with l|⟨c,L,a1,a2,M,o⟩
  .exact .inl l
  by_cases p:h.ba=[]
  .exact .inl p
  obtain⟨f,m⟩:∃f,h.ba[0]?=some f:=by
   cases hd:h.ba with
   |nil=>exact cb hd p
   |cons g P=>exact⟨g,rfl⟩
  have V:c<w.heap.size:=dw w _<|o 0 f m;have W:T<c:=by
   by_cases P:T<c
   .exact P
   exact cb (v c<|by omega) M
  exact .inr ⟨c,L,by omega,λa f m=>(ac a<|n c W V).trans<|o a f m⟩
 have c:=H i U K;have f:=(k.lt b rfl);rcases k.2 with⟨p,_⟩|⟨V,P,m,o,_,L,_,_,_,M⟩
 .cases p
 cases o
 rw[ac (g*9+i)<|n b (by omega) f.2,yya w b _ m 151 (0,0) L];rw[<-M,Cg]at c;split at c
 .simpa using c
 cases c
def afv(aA:S.size<=400)(aS:S.size<i):
  Calls prog 42 #[.string S] W λy e=>∃(K:Option Addr)(P w:Nat)(T L:Int)(Q:Int)(n:Bool),y=.returned (.tuple #[.agg #[.slice K P w,.int .i64 T,.int .i64 L],.int .i64 Q,.bool n])/\
   ((n=true/\iu S/\L=(eo S:Nat)/\∃f:Nat,K=some (O f 0)/\P=(ml S i ⟨0,0,[]⟩).1.l.length/\T=((ml S i ⟨0,0,[]⟩).2:Nat)/\(ml S i ⟨0,0,[]⟩).1.g=eo S/\(ml S i ⟨0,0,[]⟩).2<(ml S i ⟨0,0,[]⟩).1.l.length/\eo S<=9/\(S.size<=40->Dv e W.heap.size e.heap.size f (ml S i ⟨0,0,[]⟩).1.l (eo S)))\/(n=false/\∃c:Nat,Q=c/\kw S c))/\Below W.heap.size W e:=by
 obtain⟨E,rfl⟩:∃E,i=E:=⟨i,rfl⟩;go_in;go_wp21;have j:Qqk ((W.alloc<|.cells #[.slice none 0 0,I 0,I 0] 88).alloc<|.cells #[.string S,I 0,I 0,I 0,.slice none 0 0] 140) (W.heap.size+1) S 0 0 0 (.slice none 0 0) ⟨[],λa=>a<=W.heap.size⟩:=
  ⟨⟨by go_simp,by go_simp,by go_simp,ey _,aA⟩,by go_simp,by go_simp,by go_simp,by go_simp,by go_simp,by go_simp,⟨[],yyc _ _ _ _,λa b hd=>by cases hd⟩,λH b hd=>by cases hd⟩
 have k:Tr ((W.alloc<|.cells #[.slice none 0 0,I 0,I 0] 88).alloc<|.cells #[.string S,I 0,I 0,I 0,.slice none 0 0] 140) W.heap.size (.slice none 0 0) (I 0) (I 0):=by
  constructor<;>go_simp
 have l:Below W.heap.size W ((W.alloc<|.cells #[.slice none 0 0,I 0,I 0] 88).alloc<|.cells #[.string S,I 0,I 0,I 0,.slice none 0 0] 140):=((bp _ _).alloc ah _).alloc (by simp) _;have V:W.heap.size<((W.alloc<|.cells #[.slice none 0 0,I 0,I 0] 88).alloc<|.cells #[.string S,I 0,I 0,I 0,.slice none 0 0] 140).heap.size:=by simp;omega
 generalize((W.alloc<|.cells #[.slice none 0 0,I 0,I 0] 88).alloc<|.cells #[.string S,I 0,I 0,I 0,.slice none 0 0] 140)=aY at j k l V;go_call aa4 i (W.heap.size+1) 0 0 0 ⟨[],λa=>a<=W.heap.size⟩ S (.slice none 0 0) ⟨0,0,0,0⟩ _ j (by simp) (λaT a9=>by simp only at a9;omega) rfl rfl rfl rfl (by omega)as y F ⟨z,n,rfl,a7⟩;have C:W.heap.size<W.heap.size+1:=by omega
 rcases a7 with⟨rfl,c,o,t,aI,aD,aH,g,u,b,v,aB,aU,aC,p,R,rfl,X,D⟩|⟨rfl,c,g,u,b⟩
 .have d:=u.below j;have A:=k.below d C;have r:=l.trans (d.mono<|by omega);have B:=g.rc.le;have Z:o<=9:=by have:=(Me b).2.2.1;omega
  have m:=J D;have s:S.size<=40->t.l.length<=200:=λh=>by have a6:=aC;simp only[List.length_nil]at a6;omega
  obtain⟨f,a0,rfl,q⟩:=Rd.awq (T:=W.heap.size) g (by omega) (λa a8=>by rw[R];exact a8) (by omega);have a1:Y (S.size<=40->∀e:ae,(∀a,W.heap.size<a->a<F.heap.size->e.heap[a]?=F.heap[a]?)->F.heap.size<=e.heap.size->yl e f t.l o):=λh=>q<|s h
  have a2:=J aB;clear q R D s;obtain⟨⟨aV,aW,aX,a3,aJ⟩,aM,aN,aO,aP,aQ,aR,q,s⟩:=g;obtain⟨aE,aF,aG,u0,u1,u2⟩:=A;have aK:W.heap.size+1≠W.heap.size:=by omega
  clear q s j k l u d;by_cases aL:c<S.size
  .have s:=J (kw.here b a3 (λh=>aiw p h<|.inr v)<|λy=>by omega);clear b p;go_wp21;go_region
   all_goals go_wp2
   all_goals exact yyd (v:=.tuple #[.agg #[.slice none 0 0,I 0,I 0],I c,.bool false]) (by simp[results,results42,go_sem, *]) rfl ⟨_,_,_,_,_,_,false,rfl,.inr ⟨rfl,c,rfl,s⟩,(((r.setCell ah _).setCell ah _).setCell ah _).drew⟩
  have B:c=S.size:=by omega
  have q:Y (eo S=o):=by
   rw[B]at b;rw[Y,eo,b];exact a2
  have U:Y (iu S):=by
   rw[B]at b;refine⟨aD,b,?_⟩;rcases p.1.1 with x|x
   .simp[whole,v,x.1]
   simp[whole,v,x]
  clear b p;go_wp21;refine yyd (v:=.tuple #[.agg #[aa f t.l.length a0,I aH,I o],I 0,.bool true]) (by simp[results,results42,go_sem, *]) rfl ⟨_,_,_,_,_,_,true,rfl,.inl ⟨rfl,U,by rw[q.out],f,rfl,by rw[m.out],by rw[m.out],by rw[m.out,q.out],by rw[m.out];exact X,by rw[q.out];exact Z,λh=>?_⟩,((r.setCell ah _).setCell ah _).setCell ah _⟩;rw[m.out,q.out];refine⟨ah,λa4 a5 M=>a1 h a4 (λa H w=>?_)<|by rw[kg,kg,kg]at M;exact M⟩;rw[a5 a H<|by rw[kg,kg,kg];exact w,er _ _ _ _<|by simp only;omega,er _ _ _ _<|by simp only;omega,er _ _ _ _<|by simp only;omega]
 have d:=b;have A:=k.below d C;have r:=l.trans (d.mono<|by omega);have s:=J g;obtain⟨aE,aF,aG,u0,u1,u2⟩:=A;clear j k l g d b;go_wp21;go_region
 all_goals go_wp2
 all_goals exact yyd (v:=.tuple #[.agg #[.slice none 0 0,I 0,I 0],I c,.bool false]) (by simp[results,results42,go_sem, *]) rfl ⟨_,_,_,_,_,_,false,rfl,.inr ⟨rfl,c,rfl,s⟩,(((r.setCell ah _).setCell ah _).setCell ah _).drew⟩
def jz(w:ae)(lo hi:Nat)(t:ag)(v0 v1 v2:af):Prop:=
 v2=I (eo t:Nat)/\eo t<=9/\(t.size<=40->∃nb cap:Nat,v0= aa nb (il t).1.l.length cap/\v1=I ((il t).2:Nat)/\(il t).1.g=eo t/\(il t).2<(il t).1.l.length/\Dv w lo hi nb (il t).1.l (eo t))
def Ik{t:ag}:∀(f c:Nat)(a:St),run t c=some a->f+c=t.size->(∀d,Ij t f c a=some d->kw t d)/\(Ij t f c a=none->iu t)
 |0,c,a,h,e=>by
  obtain rfl:c=t.size:=by omega
  unfold Ij;split
  .rename_i g;exact⟨λd b=>(by cases b),λ_=>⟨a,h,g⟩⟩
  rename_i g;refine⟨λd b=>?_,λb=>(by cases b)⟩;cases b
  exact⟨a,h,ah,λi=>cb i<|by omega,λ_=>by simpa using g⟩
 |f+1,c,a,h,e=>by
  unfold Ij;cases g:step a (au t c)with
  |some j=>
   simp only;exact Ik f (c+1) j (by rw[lf h,g])<|by omega
  |none=>
   simp only;refine⟨λd b=>?_,λb=>(by cases b)⟩;cases b
   exact⟨a,h,by omega,λ_=>g,λi=>cb i<|by omega⟩
def ach(c:kw s a):uu s=some a:=by
 have⟨d,e⟩:=Ik s.size 0 ⟨0,0,0,0⟩ (t:=s) rfl (by omega);cases b:uu s with
 |some f=>rw[(d f b).unique c]
 |none=>exact(c.Gv<|e b).elim
def aci(c:iu s):uu s=none:=by
 have⟨a,e⟩:=Ik s.size 0 ⟨0,0,0,0⟩ (t:=s) rfl (by omega);cases b:uu s with
 |some d=>exact((a d b).Gv c).elim
 |none=>rfl
def afw(p:S.size<=400):
  Calls prog 42 #[.string S] W λm h=>∃(i:Option Addr)(k g:Nat)(l j:Int)(e:Int)(c:Bool),m=.returned (.tuple #[.agg #[.slice i k g,.int .i64 l,.int .i64 j],.int .i64 e,.bool c])/\
   ((c=true/\uu S=none/\jz h W.heap.size h.heap.size S (.slice i k g) (I l) (I j))\/(c=false/\∃d:Nat,e=d/\d<=S.size/\uu S=some d))/\Below W.heap.size W h:=by
 by_cases o:S.size<=40
 .go_call afv 41 S W p (by omega)as m h ⟨i,k,g,l,j,e,c,rfl,b,f⟩;refine⟨_,_,_,_,_,e,c,rfl,?_,f⟩;rcases b with⟨rfl,a,rfl,q,rfl,rfl,rfl,r,s,n,t⟩|⟨rfl,d,rfl,a⟩
  .exact .inl ⟨rfl,aci a,rfl,n,λ_=>⟨q,g,rfl,rfl,r,s,t o⟩⟩
  exact .inr ⟨rfl,d,rfl,by have⟨_,_,b,_⟩:=a;exact b,ach a⟩
 go_call afv 401 S W p (by omega)as m h ⟨i,k,g,l,j,e,c,rfl,b,f⟩;refine⟨_,_,_,_,_,e,c,rfl,?_,f⟩;rcases b with⟨rfl,a,rfl,q,rfl,rfl,rfl,r,s,n,t⟩|⟨rfl,d,rfl,a⟩
 .exact .inl ⟨rfl,aci a,rfl,n,λb=>cb b o⟩
 exact .inr ⟨rfl,d,rfl,by have⟨_,_,b,_⟩:=a;exact b,ach a⟩
def agy{u:Nat->Nat->Nat->Prop}{l:Nat->Nat->Nat->co->co->Prop}(p:∀k c d b e g,l k c d b e->l k c d b g->e=g){k t:Nat}{s:Int}:∀{f m c d:Nat} {b e g:co},repP u l k t s f m c d b e->repP u l k t s f m c d b g->e=g
 |0,_,_,_,_,_,_,h,a=>by rw[h,a]
 |f+1,m,c,d,b,e,g,h,a=>by
  rcases h with⟨q,h⟩|⟨q,B,A,w,x,v⟩
  .rcases a with⟨_,a⟩|⟨r,_⟩
   .rcases h with⟨i,j⟩|⟨i,j⟩
    .rcases a with⟨_,n⟩|⟨o,_⟩
     .exact p _ _ _ _ _ _ j n
     exact cb i o
    rcases a with⟨o,_⟩|⟨_,n⟩
    .exact cb o i
    rw[j,n]
   exact cb r q
  rcases a with⟨r,_⟩|⟨_,y,z,i,j,o⟩
  .exact cb q r
  have n:=w.one i;subst n;have n:=p _ _ _ _ _ _ x j;subst n;exact agy p v o
def af7(k:ag)(j:List Nd):∀{f m e g:Nat} {d h i:co},md k j f m e g d h->md k j f m e g d i->h=i
 |0,_,_,_,_,_,_,c,_=>c.elim
 |f+1,m,e,g,d,h,i,c,b=>by
  obtain⟨s,r,c⟩:=c;obtain⟨t,n,b⟩:=b;rw[r]at n;cases n
  have l:∀o e g d h i,md k j f o e g d h->md k j f o e g d i->h=i:=λ_ _ _ _ _ _ p q=>af7 k j p q
  split at c
  .rename_i a;rw[G a]at b;exact l _ _ _ _ _ _ c b
  rename_i a;rw[N a]at b;split at c
  .rename_i a;rw[G a]at b;exact altG.one l c b
  rename_i a;rw[N a]at b;split at c
  .rename_i a;rw[G a]at b;exact ik.one l c b
  rename_i a;rw[N a]at b;split at c
  .rename_i a;rw[G a]at b;exact agy l c b
  rename_i a;rw[N a]at b;rw[c,b]
def sq(p t:ag)(pl:Nat)(sp:List (Int×Int)):Prop:=
 ∃(i j:Nat)(c:co),sp=((i:Int),(j:Int))::c/\zw t.size (bi t (il p).1.l (il p).2) pl i j/\c.length=eo p/\jg t (il p).1.l (il p).2 i j (tc<|eo p) c
def sq.one{d e:ag}{b:Nat}{c a:List (Int×Int)}(i:sq d e b c)(f:sq d e b a):c=a:=by
 obtain⟨m,n,l,rfl,g,o,h⟩:=i;obtain⟨p,q,r,rfl,j,s,k⟩:=f;obtain⟨rfl,rfl⟩:=g.one j;have:=af7 _ _ h k;rw[this]
def fj(mf:Mf):Prop:=∀p t pl,(∀sp,sq p t pl sp->mf p t pl=some sp)/\((∀sp,¬sq p t pl sp)->mf p t pl=none)
def fj.sj{g:Mf}(f:fj g){b:List (Int×Int)}(c:g s t a=some b):sq s t a b:=by
 by_cases d:∃b,sq s t a b
 .obtain⟨h,e⟩:=d;have:=(f s t a).1 h e;rw[this]at c;cases c
  exact e
 have:=(f s t a).2<|λb e=>d ⟨b,e⟩;rw[this]at c;cases c
def aqw:∃j:Mf,fj j:=by
 have h:∀a:ag×ag×Nat,∃g:Option (List<|Int×Int),(∀b,sq a.1 a.2.1 a.2.2 b->g=some b)/\((∀b,¬sq a.1 a.2.1 a.2.2 b)->g=none):=λa=>by
  by_cases f:∃b,sq a.1 a.2.1 a.2.2 b
  .obtain⟨b,d⟩:=f;exact⟨some b,λe c=>by rw[d.one c],λc=>cb d<|c b⟩
  exact⟨none,λe c=>cb ⟨e,c⟩ f,λ_=>rfl⟩
 obtain⟨f,i⟩:=Classical.axiomOfChoice h;exact⟨λd e c=>f (d,e,c),λd e c=>i (d,e,c)⟩
def Pt(w:ae)(t:ag)(v0 v1 v2:af):Prop:=
 ∃nb cap:Nat,v0= aa nb (il t).1.l.length cap/\v1=I ((il t).2:Nat)/\v2=I (eo t:Nat)/\eo t<=9/\(il t).2<(il t).1.l.length/\∀w',Below w.heap.size w w'->yl w' nb (il t).1.l (eo t)
def jz.pt(g:jz w a b s x y z)(f:s.size<=40):Pt w s x y z:=by
 obtain⟨h,i,k⟩:=g;obtain⟨l,e,m,n,r,o,c⟩:=k f;exact⟨l,e,m,n,h,i,o,λp d=>c.2 p (λj _ q=>d.block j<|ew q c.1)<|bq c.1 d.size⟩
def Pt.below(e:Pt w s x y z)(a:Below w.heap.size w u):Pt u s x y z:=by
 obtain⟨f,b,g,h,i,j,k,l⟩:=e;exact⟨f,b,g,h,i,j,k,λc d=>l c<|a.trans<|d.mono a.size⟩
def Tb(w:ae)(p t:ag)(tb:Nat):Prop:=∃nb vb cap T m,pz w ⟨(il p).1.l,t,(il p).2,eo p,tb,nb,vb,cap⟩ (il p).1.l.length T m/\(∀a d,(il p).1.l[a]?=some d->Cn t (bi t (il p).1.l) d (m a) (T a))/\(∀a d,(il p).1.l[a]?=some d->ww a (eo p) d)/\eo p<=9/\(il p).2<(il p).1.l.length
def Tb.below{a e:ae}{c d:ag}{b:Nat}(m:Tb a c d b)(h:Below a.heap.size a e):Tb e c d b:=by
 obtain⟨i,j,g,f,n,k,l⟩:=m;exact⟨i,j,g,f,n,k.below h,l⟩
def Vo(b d:ag)(g h j:af)(a:ae)(o:Pt a b g h j)(p:d.size<=80):
  Calls prog 43 #[.agg #[g,h,j],.string d] a λi e=>∃c,i=.returned (.pointer<|some ⟨c,0,none⟩)/\Tb e b d c/\Below a.heap.size a e:=by
 obtain⟨k,f,rfl,rfl,rfl,q,t,l⟩:=o;go_call aqq d k f (il b).2 (eo b) (il b).1.l a (l a<|bp _ _) p as i e ⟨c,rfl,n,T,m,r,s,u⟩;exact⟨c,rfl,⟨k,n,f,T,m,r,s,(l a<|bp _ _).wf,q,t⟩,u⟩
def Hu(w:ae)(r:Option (List<|Int×Int))(u:af)(lo:Nat):Prop:=
 match r with
 |none=>u=.slice none 0 0
 |some sp=>∃ob,u= aa ob sp.length sp.length/\lo<=ob/\rx w ob sp
def Gg(h:Mf)(m:fj h)(a c:ag)(i b:Nat)(d:ae)(C:Tb d a c i)(A:b<=c.size+1:=by omega):
  Calls prog 44 #[.pointer<|some ⟨i,0,none⟩,.int .i64 b] d λl k=>Below d.heap.size d k/\∃p,l=.returned p/\Hu k (h a c b) p d.heap.size:=by
 obtain⟨F,H,B,z,E,K,L,q,r,s⟩:=C;go_call aob ⟨(il a).1.l,c,(il a).2,eo a,i,F,H,B⟩ z E d K L q r s b A as l k ⟨t,j⟩;refine⟨t,?_⟩;rcases j with⟨rfl,j⟩|⟨u,f,g,n,rfl,v,w,x,o,y⟩
 .refine⟨_,rfl,?_⟩;have:h a c b=none:=(m a c b).2 λM D=>by
   obtain⟨f,g,P,_,e,_,_⟩:=D;exact j f g e.1 (bq e.2.1 e.2.2.1) e.2.2.2.1
  rw[this];rfl
 refine⟨_,rfl,?_⟩;have:h a c b=some (((f:Int),(g:Int))::n):=(m a c b).1 _ ⟨f,g,n,rfl,w,o,y⟩;rw[this];refine⟨u,?_,v,x⟩;rw[xv,o]
def py(l:List Nat):List af:=l.map λc:Nat=>Value.int .u8 c
def amd(c:List Nat)(b:Nat)(e:∀a∈c,a<256)(h:b<256):(Lib.bytesOf (c.map λa:Nat=>(a:Int))).any (λa=>a==(b:Int).toNat.toUInt8)=c.contains b:=by
 induction c with
 |nil=>rfl
 |cons d c i=>
  have k:=e d (by simp);have f:=i (λa l=>e a<|by simp[l]);have g:((d:Int).toNat.toUInt8==(b:Int).toNat.toUInt8)=(b==d):=by
   rw[vv];simp only[ra,yxl];constructor
   .intro j
    have:=congrArg UInt8.toNat j;simp[yxn,k,h]at this;omega
   rintro rfl;rfl
  simp only[vw,Lib.bytesOf] at*
  rw[yxe,f,List.contains_cons,g]
def Nv(b:List Nat)(c:Nat)(e:ae)(j:e.ownsRow i 5 1 V b.length (py b))(p:∀a∈b,a<256)(q:c<256):
  Calls prog 245 #[V,.int .u8 c] e λl t=>∃a:Int,l=.returned (.int .i64 a)/\(b.contains c=true/\0<=a\/b.contains c=false/\a<0)/\t=e:=by
 have hd:∃a:Int,Sem.run prog (callFunc 255 #[V,.int .u8 c]) e=.ok (.value<|I a) e/\(b.contains c=true/\0<=a\/b.contains c=false/\a<0):=by
  have⟨v,r⟩:=j;rcases r with⟨rfl,h⟩|⟨k,m,n,rfl,_,s,w,_,x,o⟩
  .have:b=[]:=Ex.1 h;subst this;refine⟨-1,?_,.inr ⟨rfl,by omega⟩⟩;rw[yxf func255 (by kernel_rfl) (by kernel_rfl) (by kernel_rfl) (e:=Extern.BytealgIndexByte.indexByte)<|by kernel_rfl,Lib.run_indexByteNil e 0 0 _];rfl
  refine⟨Lib.indexByte (Lib.bytesOf (b.map λa:Nat=>(a:Int))) (c:Int).toNat.toUInt8,?_,?_⟩
  .rw[yxf func255 (by kernel_rfl) (by kernel_rfl) (by kernel_rfl) (e:=Extern.BytealgIndexByte.indexByte)<|by kernel_rfl,Lib.run_indexByteSlice e k 0 b.length m (b.map λa:Nat=>(a:Int)) (by simp) ?_ _]
   .rfl
   intro g u
   rw[qo,yya e k g n 5 (0,0) s];have f:(py b)[g]?=some (.int .u8<|(b.map λa:Nat=>(a:Int)).getD g 0):=by
    simp[py,yz,dy u]
   rw[<-o,Cg]at f;split at f
   .simpa using f
   cases f
  have g:=adv (Lib.bytesOf (b.map λa:Nat=>(a:Int))) (c:Int).toNat.toUInt8;rw[amd b c p q]at g;rcases df (b.contains c)with d|d
  .exact .inl ⟨d,g.2 d⟩
  refine .inr ⟨d,?_⟩;by_cases h:0<=Lib.indexByte (Lib.bytesOf (b.map λa:Nat=>(a:Int))) (c:Int).toNat.toUInt8
  .rw[g.1 h]at d;cases d
  omega
 have⟨a,hd,f⟩:=hd;have g:=J f;go_in;go_wp2;go_ret;exact⟨a,rfl,g,rfl⟩
def arj(e:List Nat)(b:ae)(p:b.ownsRow i 5 1 V e.length (py e))(v:∀y∈e,y<256):
  Calls prog 254 #[V] b λk P=>k=.returned (.bool<|vm e)/\Below b.heap.size b P:=by
 have C:Y (∀s,Below b.heap.size b s->s.ownsRow i 5 1 V e.length (py e)):=λs D=>da p λa w=>D.block a (p.lt a w).2
 have E:=J v;clear p v;have Q:=λ(b:ae) (A:Array af) (M c:Nat)=>Lib.run_convert_bytes_const (P:=prog) b 99 5 A M c underlying99 underlying5
 go_in;go_wp21;go_loopw [8] (λq wr=>∃a:Nat,q=I a/\a<=3/\Below b.heap.size b wr/\wr.cell? (O b.heap.size 0)=some (.int .u8 10)/\wr.cell? (O b.heap.size 1)=some (.int .u8 92)/\wr.cell? (O b.heap.size 2)=some (.int .u8 47)/\Y (∀g c,g<a-> [10,92,47][g]?=some c->e.contains c=true)) (λq _=>3-(intOf q).toNat)
 case atStart=>
  refine⟨0,rfl,by omega,(bp _ _).alloc ah _,yya _ b.heap.size 0 _ 5 (3,4)<|yyb b _,yya _ b.heap.size 1 _ 5 (3,4)<|yyb b _,yya _ b.heap.size 2 _ 5 (3,4)<|yyb b _,λg c l=>by omega⟩
 obtain⟨a,rfl,w,j,r,t,u,m⟩:=hrel;have HOr:=J<|C _ j;by_cases z:a=3
 .subst z;have n:Y (vm e=true):=by
   have d:=m 0 10 (by omega) rfl;have f:=m 1 92 (by omega) rfl;have h:=m 2 47 (by omega) rfl;simp[Y,vm]at d f h|-;exact⟨⟨d,f⟩,h⟩
  go_wp21;go_ret;exact⟨pp n.symm,j⟩
 obtain⟨c,d,S⟩:∃c:Nat,[10,92,47][a]?=some c/\wr.cell? (O b.heap.size a)=some (.int .u8 c):=by
  have h:a=0\/a=1\/a=2:=by omega
  rcases h with rfl|rfl|rfl
  .exact⟨10,rfl,r⟩
  .exact⟨92,rfl,t⟩
  exact⟨47,rfl,u⟩
 have L:c<256:=by
  have h:a=0\/a=1\/a=2:=by omega
  rcases h with rfl|rfl|rfl<;>(simp at d;omega)
 have x:=J d;have o:Y (wr.cell? (O b.heap.size 0)=some (.int .u8 10)/\wr.cell? (O b.heap.size 1)=some (.int .u8 92)/\wr.cell? (O b.heap.size 2)=some (.int .u8 47)):=⟨r,t,u⟩
 have U:(a:Int)<3:=by omega
 clear d r t u;go_wp21;go_call Nv i V e c _ HOr E L as k W ⟨y,rfl,R,F⟩;subst F;rcases R with⟨d,B⟩|⟨d,B⟩
 .have H:=J d;go_wp21;go_roundw
  case rel=>
   refine⟨a+1,rfl,by omega,j,o.1,o.2.1,o.2.2,λg K X f=> ?_⟩;by_cases k:g=a
   .subst k;rw[x.out]at f;cases f
    exact H
   exact m g K (by omega) f
  simp[intOf];omega
 have n:Y (vm e=false):=by
  have h:a=0\/a=1\/a=2:=by omega
  have f:=x;rcases h with rfl|rfl|rfl
  .simp at f;subst f;simp[Y,vm]at d|-;intro l;exact cb l d
  .simp at f;subst f;simp[Y,vm]at d|-;intro _ l;exact cb l d
  simp at f;subst f;simp[Y,vm]at d|-;intro _ _;exact d
 go_wp21;go_ret;exact⟨pp n.symm,j⟩
def ag2(b:br s mg a=true):a<s.size/\(au s a=110\/au s a=92\/au s a=47):=by
 simp[br]at b;refine⟨b.1,?_⟩;have c:=b.2;simp[bn,mg]at c;omega
def ant(m:af)(a:List Nat)(n:ae)(o:Rc n i S j)(t:pk S j=92)(a0:i<k)(U:n.ownsRow k 5 1 m a.length (py a))(P:∀D∈a,D<256):
  Calls prog 244 #[.pointer<|some ⟨i,0,none⟩,m] n λf Z=>f=.returned (.tuple #[.int .u8 ((fa S a j).2.1:Int),.bool (fa S a j).2.2])/\Mk i n Z (fa S a j).1:=by
 have a4:=Rc.lt o;have a1:=o.le;have a5:=o.li;have v:=J U;have w:=J P;have⟨a2,_⟩:=ho (s:=S) (i:=j) (by rw[t];decide);have x:Y (fa S a j=if vm a=true then(j,0,false)else if br S mg (j+1)=true then(if a.contains (val<|au S<|j+1)=true then(j+1,0,false)else(j+2,val<|au S<|j+1,true))else(j+1,0,false)):=by rw[Y,fa,G t]
 generalize b:fa S a j=c;have Q:=J b;go_in;go_wp21;go_call arj k m a _ v.out w.out as f C ⟨rfl,b⟩;have F:=(Mk.ee o).below b;have H:=J<|Rc.below o b;have K:=J<|da v λr y=>b.block r (v.lt r y).2;have⟨a8,a9,aA,_,_⟩:=H.out;rcases df (vm a)with A|A
 .have b:Y (c=(j,0,false)):=by rw[Y,<-Q.out,x.out,G A]
  rw[A];go_wp21;go_ret2;rw[b.out];exact⟨rfl,F⟩
 rw[A];have s:Y (c=if br S mg (j+1)=true then(if a.contains (val<|au S<|j+1)=true then(j+1,0,false)else(j+2,val<|au S<|j+1,true))else(j+1,0,false)):=by rw[Y,<-Q.out,x.out,A];rfl
 have B:Rc (C.setCell (O i 1)<|I<|(j:Int)+1) i S (j+1):=H.put (j+1);have L:Mk i n (C.setCell (O i 1)<|I<|(j:Int)+1) (j+1):=F.set (j+1);rcases df (br S mg<|j+1)with h|h
 .have p:=J h;have⟨R,V⟩:=ag2 h;have e:=J<|oz S (j+1) R;have W:((S[j+1]).toNat:Int)=(au S (j+1):Int):=oz S (j+1) R;have d:Y (c=if a.contains (val<|au S<|j+1)=true then(j+1,0,false)else(j+2,val<|au S<|j+1,true)):=by rw[Y,s.out,G h]
  generalize au S (j+1)=b at d V W;have a6:(0:Int)<=j+1:=by omega
  have a7:(j:Int)+1<(S.size:Int):=by omega
  have X:b<256:=by omega
  have q:Y (∀l,Mk i n ((C.setCell (O i 1)<|I<|(j:Int)+1).drewN l)<|j+1):=λl=>L.drewN l
  have M:Y (∀l,((C.setCell (O i 1)<|I<|(j:Int)+1).drewN l).ownsRow k 5 1 m a.length<|py a):=λl=>da K λr y=>er _ _ _ _ (by have:=(K.lt r y).1;simp only;omega)
  by_cases z:b=110
  .subst z;go_wp21;refine(oj i S mg (j+1) _ B).mono ?_;rw[p.out];rintro f w3 ⟨rfl,T,rfl⟩;go_wp21;go_quiet (fail);go_wp21;go_call Nv k m a 10 _ (M.out _) w.out (by omega)as f w4 ⟨D,rfl,h,u⟩;subst u;rcases h with⟨e,E⟩|⟨e,E⟩
   .have g:Y (c=(j+1,0,false)):=by rw[Y,d.out,show val 110=10 from rfl,G e]
    go_wp21;go_ret2;rw[g.out];exact⟨rfl,q _⟩
   have g:Y (c=(j+2,10,true)):=by rw[Y,d.out,show val 110=10 from rfl,e];rfl
   go_wp21;go_ret2;rw[g.out];exact⟨rfl,(q _).set (j+2)⟩
  have a3:((b:Int)==110)=false:=hh (by omega);go_wp21;refine(oj i S mg (j+1) _ B).mono ?_;rw[p.out];rintro f w3 ⟨rfl,T,rfl⟩;go_wp21;go_quiet (fail);go_wp21;go_call Nv k m a b _ (M.out _) w.out X as f w4 ⟨D,rfl,h,u⟩;subst u;rcases h with⟨e,E⟩|⟨e,E⟩
  .have g:Y (c=(j+1,0,false)):=by rw[Y,d.out,show val b=b from N z,G e]
   go_wp21;go_ret2;rw[g.out];exact⟨rfl,q _⟩
  have g:Y (c=(j+2,b,true)):=by rw[Y,d.out,show val b=b from N z,e];rfl
  go_wp21;go_ret2;rw[g.out];exact⟨rfl,(q _).set (j+2)⟩
 have p:=J h;have d:Y (c=(j+1,0,false)):=by rw[Y,s.out,h];rfl
 go_wp21;refine(oj i S mg (j+1) _ B).mono ?_;rw[p.out];rintro f w3 ⟨rfl,T,rfl⟩;go_wp21;go_ret2;rw[d.out];exact⟨rfl,L.drewN _⟩
def ty(a:j+m<k:=by omega):au (S.extract j k) m=au S (j+m):=by
 unfold au;rw[yz,yz,Lib.extract_data,Cg,G,zya]
def Yg(a:ag)(b:Nat)(i:b<=a.size):∀(f c:Nat),ic (a.extract b a.size) f c+b=ic a f (b+c)
 |0,c=>by simp[ic,lw];omega
 |f+1,c=>by
  unfold ic;have g:(a.extract b a.size).size=a.size-b:=by simp[lw]
  by_cases h:c<a.size-b
  .rw[G<|by rw[g];exact h,G (show b+c<a.size by omega),ty a b a.size c];by_cases d:au a (b+c)=47
   .rw[G d,G d];omega
   rw[N d,N d];by_cases e:au a (b+c)=92
   .rw[G e,G e,Yg a b i f<|c+2];rfl
   rw[N e,N e,Yg a b i f<|c+1];rfl
  rw[N<|by rw[g];exact h,N (show ¬b+c<a.size by omega)];omega
def Ye(d:ag):∀(f c a:Nat),d.size<f+a->d.size<c+a->ic d f a=ic d c a
 |0,0,a,_,_=>rfl
 |0,c+1,a,h,b=>by unfold ic;rw[N]
 |f+1,0,a,h,b=>by unfold ic;rw[N]
 |f+1,c+1,a,h,b=>by
  unfold ic;split
  .split
   .rfl
   split
   .exact Ye d f c (a+2) (by omega)<|by omega
   exact Ye d f c (a+1) (by omega)<|by omega
  rfl
def Es(b:ag):∀(f a:Nat),a<=b.size->a<=ic b f a
 |0,a,h=>h
 |f+1,a,h=>by
  unfold ic;split
  .split
   .exact ah
   split
   .by_cases c:a+2<=b.size
    .have:=Es b f (a+2) c;omega
    have d:ic b f (a+2)=b.size:=by
     cases f with
     |zero=>rfl
     |succ f=>rw[ic,N]
    omega
   have:=Es b f (a+1) (by omega);omega
  omega
def ash(a:j<=S.size):(S.extract j S.size).extract 0 (bw (S.extract j S.size) 0)=S.extract j (bw S j):=by
 have b:=Yg S j a ((S.extract j S.size).size+1) 0;have e:(S.extract j S.size).size=S.size-j:=by simp[lw]
 have c:ic S ((S.extract j S.size).size+1) (j+0)=bw S j:=Ye S _ _ _ (by omega) (by omega);rw[c]at b;have d:bw (S.extract j S.size) 0=bw S j-j:=by unfold bw at*;omega
 have f:j<=bw S j:=Es S _ j a;have g:bw S j<=S.size:=Er S _ _;rw[d];apply va;apply yzd.1;rw[Lib.extract_data,Lib.extract_data,Lib.extract_data];rw[zyi,List.drop_zero,List.take_take];congr 1;omega
def Ws(b:j<=S.size):(S.extract j<|bw S j).size=bw S j-j:=by
 have a:bw S j<=S.size:=Er S _ _;simp[lw];omega
structure Cu(w:ae)(b:Nat)(s:ag)(i:Nat)(lg:Int):Prop where
 rc:Rc w b s i
 c5:w.cell? (O b 5)=some (I lg)
 f5:w.frozen? (O b 5)=false
structure Mw(b:Nat)(w w':ae):Prop where
 os:w'.os=w.os
 tape:w'.tape=w.tape
 output:w'.output=w.output
 size:w.heap.size<=w'.heap.size
 block:∀k,k<w.heap.size->k≠b->w'.heap[k]?=w.heap[k]?
 cell:∀k,k≠1->k≠5->w'.cell? (O b k)=w.cell? (O b k)
 cd:∀k,w'.frozen? (O b k)=w.frozen? (O b k)
def Mw.refl:Mw i W W:=⟨rfl,rfl,rfl,ah,λ_ _ _=>rfl,λ_ _ _=>rfl,λ_=>rfl⟩
def Mw.trans{b:Nat}{i j k:ae}(a:Mw b i j)(d:Mw b j k):Mw b i k:=
 ⟨d.os.trans a.os,d.tape.trans a.tape,d.output.trans a.output,bq a.size d.size,λc e f=>(d.block c (ew e a.size) f).trans<|a.block c e f,λc g h=>(d.cell c g h).trans<|a.cell c g h,λc=>(d.cd c).trans<|a.cd c⟩
def Mw.mv(c:Mv a w u b):Mw a w u:=
 ⟨c.only.os,c.only.tape,c.only.output,by rw[c.only.size];exact ah,λd _ e=>c.only.block d e,λd f _=>c.cell d f,c.cd⟩
def Mw.below(b:Below w.heap.size w u)(d:a<w.heap.size:=by omega):Mw a w u:=
 ⟨b.os,b.tape,b.output,b.size,λc e _=>b.block c e,λc _ _=>b.cell (p:=O a c) d,λc=>b.frozen (p:=O a c) d⟩
def Mw.drewN(b:Mw a w u)(c:Nat):Mw a w (u.drewN c):=b.trans ⟨rfl,rfl,rfl,ah,λ_ _ _=>rfl,λ_ _ _=>rfl,λ_=>rfl⟩
def Mw.sg(f:Mw a w u)(g:af):Mw a w (u.setCell (O a 1) g):=
 f.trans ⟨rfl,rfl,rfl,by rw[kg];exact ah,λc _ d=>er _ _ _ _ d,λc e _=>jm (h:=λb=>e<|by injection b with _ b _;exact b.symm) ..,λc=>jf ..⟩
def Mw.Xw(f:Mw a w u)(g:af):Mw a w (u.setCell (O a 5) g):=
 f.trans ⟨rfl,rfl,rfl,by rw[kg];exact ah,λc _ d=>er _ _ _ _ d,λc _ e=>jm (h:=λb=>e<|by injection b with _ b _;exact b.symm) ..,λc=>jf ..⟩
def Mw.alloc{a:Nat}{b e:ae}(c:Mw a b e)(f:a<b.heap.size)(d:Obj):Mw a b (e.alloc d):=
 c.trans (Mw.below ((bp _ _).alloc ah d)<|ew f c.size)
def Mw.fi(d:Mw a w u)(m:w.heap.size<=b)(n:a<w.heap.size)(l:af):Mw a w (u.setCell (O b c) l):=by
 have g:a≠b:=by omega
 exact⟨d.os,d.tape,d.output,by rw[kg];exact d.size,λe i h=>by rw[er _ _ _ _<|by simp only;omega];exact d.block e i h,λe j k=>by rw[jm (h:=λf=>g<|by injection f with f _ _;exact f.symm)];exact d.cell e j k,λe=>by rw[jf];exact d.cd e⟩
def Cu.lt(c:Cu w a s b p):a<w.heap.size:=dw w _ c.rc.c0
def Cu.below(h:Cu w a s b p)(e:Below w.heap.size w u):Cu u a s b p:=by
 have f:=h.lt;have⟨⟨k,l,m,i,j⟩,n,o⟩:=h;have d:∀c,u.cell? (O a c)=w.cell? (O a c):=λc=>e.cell (p:=O a c) f
 have g:∀c,u.frozen? (O a c)=w.frozen? (O a c):=λc=>e.frozen (p:=O a c) f
 exact⟨⟨(d 0).trans k,(d 1).trans l,(g 1).trans m,i,j⟩,(d 5).trans n,(g 5).trans o⟩
def Cu.mv(e:Cu w a s b p)(d:Mv a w u c)(f:c<=s.size:=by omega):Cu u a s c p:=
 ⟨d.rc e.rc f,(d.cell 5<|by omega).trans e.c5,(d.cd 5).trans e.f5⟩
def Cu.drewN{g:ae}{b:Nat}{f:ag}{c:Nat}{d:Int}(a:Cu g b f c d)(e:Nat):Cu (g.drewN e) b f c d:=⟨a.rc.drewN e,a.c5,a.f5⟩
def Cu.alloc{f:ae}{a:Nat}{e:ag}{b:Nat}{c:Int}(g:Cu f a e b c)(d:Obj):Cu (f.alloc d) a e b c:=g.below<|(bp _ _).alloc ah d
def Cu.fi(m:Cu w a s d p)(l:a≠b)(h:af):Cu (w.setCell (O b c) h) a s d p:=by
 have⟨⟨n,o,q,j,k⟩,r,t⟩:=m;have f:∀e,(w.setCell (O b c) h).cell? (O a e)=w.cell? (O a e):=λe=>jm (h:=λg=>l<|by injection g with g _ _;exact g.symm) ..
 have i:∀e,(w.setCell (O b c) h).frozen? (O a e)=w.frozen? (O a e):=λe=>jf ..
 exact⟨⟨(f 0).trans n,(f 1).trans o,(i 1).trans q,j,k⟩,(f 5).trans r,(i 5).trans t⟩
def Cu.put{h:ae}{b:Nat}{d:ag}{i:Nat}{f:Int}(e:Cu h b d i f){g:Int}(a:Nat)(j:g=a:=by omega)(c:a<=d.size:=by omega):Cu (h.setCell (O b 1)<|I g) b d a f:=e.mv (.put e.rc.c1 a j) c
def Cu.agq(f:Cu w a s b p)(c:Int):Cu (w.setCell (O a 5)<|I c) a s b c:=by
 have⟨⟨g,h,i,d,e⟩,j,k⟩:=f;exact⟨⟨by go_simp,by go_simp,by go_simp,d,e⟩,by go_simp,by go_simp⟩
structure Th(w:ae)(N:Nat)(v0 v1 v2:af):Prop where
 c0:w.cell? (O N 0)=some v0
 c1:w.cell? (O N 1)=some v1
 c2:w.cell? (O N 2)=some v2
 f0:w.frozen? (O N 0)=false
 f1:w.frozen? (O N 1)=false
 f2:w.frozen? (O N 2)=false
def Th.of(c:Th w a x y z)(g:u.heap[a]?=w.heap[a]?):Th u a x y z:=by
 have d:∀b,u.cell? (O a b)=w.cell? (O a b):=λb=>ac b g
 have e:∀b,u.frozen? (O a b)=w.frozen? (O a b):=λb=>ad b g
 exact⟨(d 0).trans c.c0,(d 1).trans c.c1,(d 2).trans c.c2,(e 0).trans c.f0,(e 1).trans c.f1,(e 2).trans c.f2⟩
def jz.of{w d:ae}{c a:Nat}{i:ag}{e f h:af}(m:jz w c a i e f h)(l:∀b,c<b->b<a->d.heap[b]?=w.heap[b]?)(g:a<=d.heap.size:=by omega):jz d c a i e f h:=by
 have⟨n,o,p⟩:=m;refine⟨n,o,λj=> ?_⟩;have⟨q,k,r,s,t,u,v⟩:=p j;exact⟨q,k,r,s,t,u,v.of l g⟩
def jz.wide(g:jz w a b s x y z)(D:c<=a)(v:b<=d)(h:d<=w.heap.size):jz w c d s x y z:=by
 have⟨i,k,l⟩:=g;refine⟨i,k,λe=> ?_⟩;have⟨m,f,n,o,p,q,r⟩:=l e;exact⟨m,f,n,o,p,q,h,λt u A=>r.2 t (λj B C=>u j (by omega)<|by omega)<|by omega⟩
structure du(lo hi:Nat)(u w:ae):Prop where
 same:∀k,lo<k->k<hi->w.heap[k]?=u.heap[k]?
 size:hi<=w.heap.size
def du.refl(c:b<=w.heap.size):du a b w w:=⟨λ_ _ _=>rfl,c⟩
def du.set(e:du a b w u){v:af}(i:c<=a\/b<=c:=by omega):du a b w (u.setCell (O c d) v):=
 ⟨λh f g=>by rw[er _ _ _ _<|by simp only;omega];exact e.same h f g,by rw[kg];exact e.size⟩
def du.alloc(c:du a b w u){g:Obj}:du a b w (u.alloc g):=
 ⟨λf e d=>by rw[im _ _ _<|ew d c.size];exact c.same f e d,by have:=c.size;simp;omega⟩
def du.drewN(c:du a b w u)(d:Nat):du a b w (u.drewN d):=⟨c.same,c.size⟩
def jz.kept(d:jz w a b s x y z)(c:du a b w u):jz u a b s x y z:=d.of c.same c.size
def jz.keep(f:jz w a c s x y z)(d:du a c w u)(e:b<=a:=by omega):jz u b u.heap.size s x y z:=(f.of d.same d.size).wide e d.size ah
structure Fl(b P:Nat)(w w':ae)(j:Nat)(a p:Bool)(n:Nat):Prop where
 os:w'.os=w.os
 tape:w'.tape=w.tape
 output:w'.output=w.output
 size:w'.heap.size=w.heap.size
 block:∀k,k≠b->k≠P->w'.heap[k]?=w.heap[k]?
 c1:w'.cell? (O b 1)=some (I j)
 cell:∀k,k≠1->w'.cell? (O b k)=w.cell? (O b k)
 cd:∀k,w'.frozen? (O b k)=w.frozen? (O b k)
 p4:w'.cell? (O P 4)=some (I n)
 p5:w'.cell? (O P 5)=some (.bool a)
 p6:w'.cell? (O P 6)=some (.bool p)
 pc:∀k,k<4->w'.cell? (O P k)=w.cell? (O P k)
 pf:∀k,w'.frozen? (O P k)=w.frozen? (O P k)
def Fl.drewN{f g:Bool}(e:Fl a b w u c f g d)(h:Nat):Fl a b w (u.drewN h) c f g d:=
 ⟨e.os,e.tape,e.output,e.size,e.block,e.c1,e.cell,e.cd,e.p4,e.p5,e.p6,e.pc,e.pf⟩
def Cr(h:a≠b\/c≠d):((O a c):Addr)≠(O b d):=λe=>by
 injection e with f g;rcases h with h|h
 .exact h f
 exact h g
def Fl.go{l n:Bool}(f:Fl a b w u c l n d)(i:a≠b){v:Int}(k:Nat)(o:v=k:=by omega):Fl a b w (u.setCell (O a 1)<|I v) k l n d:=by
 subst o;have h:∀j e,(a≠j\/1≠e)->(u.setCell (O a 1)<|I k).cell? (O j e)=u.cell? (O j e):=λj e g=>jm (h:=Cr g) ..
 exact⟨f.os,f.tape,f.output,by rw[kg];exact f.size,λe m p=>by rw[er _ _ _ _ m];exact f.block e m p,qz _ _ _ f.c1,λe g=>(h a e<|.inr<|Ne.symm g).trans<|f.cell e g,λe=>by rw[jf];exact f.cd e,
  (h b 4<|.inl i).trans f.p4,(h b 5<|.inl i).trans f.p5,(h b 6<|.inl i).trans f.p6,λe g=>(h b e<|.inl i).trans<|f.pc e g,λe=>by rw[jf];exact f.pf e⟩
def Fl.at5{n m:Bool}(f:Fl a b w u c n m d)(k:a≠b)(j:Bool):Fl a b w (u.setCell (O b 5)<|.bool j) c j m d:=by
 have g:∀i e,(b≠i\/5≠e)->(u.setCell (O b 5)<|.bool j).cell? (O i e)=u.cell? (O i e):=λi e h=>jm (h:=Cr h) ..
 exact⟨f.os,f.tape,f.output,by rw[kg];exact f.size,λe o l=>by rw[er _ _ _ _ l];exact f.block e o l,(g a 1<|.inl<|Ne.symm k).trans f.c1,λe h=>(g a e<|.inl<|Ne.symm k).trans<|f.cell e h,λe=>by rw[jf];exact f.cd e,
  (g b 4<|.inr<|by omega).trans f.p4,qz _ _ _ f.p5,(g b 6<|.inr<|by omega).trans f.p6,λe h=>(g b e<|.inr<|by omega).trans<|f.pc e h,λe=>by rw[jf];exact f.pf e⟩
def Fl.Ns{k o:Bool}(f:Fl a b w u c k o d)(l:a≠b)(j:Bool):Fl a b w (u.setCell (O b 6)<|.bool j) c k j d:=by
 have g:∀i e,(b≠i\/6≠e)->(u.setCell (O b 6)<|.bool j).cell? (O i e)=u.cell? (O i e):=λi e h=>jm (h:=Cr h) ..
 exact⟨f.os,f.tape,f.output,by rw[kg];exact f.size,λe n m=>by rw[er _ _ _ _ m];exact f.block e n m,(g a 1<|.inl<|Ne.symm l).trans f.c1,λe h=>(g a e<|.inl<|Ne.symm l).trans<|f.cell e h,λe=>by rw[jf];exact f.cd e,
  (g b 4<|.inr<|by omega).trans f.p4,(g b 5<|.inr<|by omega).trans f.p5,qz _ _ _ f.p6,λe h=>(g b e<|.inr<|by omega).trans<|f.pc e h,λe=>by rw[jf];exact f.pf e⟩
def Fl.ry{k n:Bool}(f:Fl a b w u c k n d)(l:a≠b){v:Int}(j:Nat)(o:v=j:=by omega):Fl a b w (u.setCell (O b 4)<|I v) c k n j:=by
 subst o;have g:∀i e,(b≠i\/4≠e)->(u.setCell (O b 4)<|I j).cell? (O i e)=u.cell? (O i e):=λi e h=>jm (h:=Cr h) ..
 exact⟨f.os,f.tape,f.output,by rw[kg];exact f.size,λe p m=>by rw[er _ _ _ _ m];exact f.block e p m,(g a 1<|.inl<|Ne.symm l).trans f.c1,λe h=>(g a e<|.inl<|Ne.symm l).trans<|f.cell e h,λe=>by rw[jf];exact f.cd e,
  qz _ _ _ f.p4,(g b 5<|.inr<|by omega).trans f.p5,(g b 6<|.inr<|by omega).trans f.p6,λe h=>(g b e<|.inr<|by omega).trans<|f.pc e h,λe=>by rw[jf];exact f.pf e⟩
def Fl.rc{h j:Bool}(g:Fl a b w u d h j e)(f:Rc w a s c)(i:d<=s.size:=by omega):Rc u a s d:=
 ⟨by rw[g.cell 0<|by omega];exact f.c0,g.c1,by rw[g.cd];exact f.f1,i,f.li⟩
def qt(a p:Bool)(n:Nat):Nat:=(if a then 1 else 0)+(if p then 1 else 0)+(if n=0 then 0 else 1)
def Ug(a c:Bool)(b:Nat):qt a c b<=3:=by
 unfold qt;cases a<;>cases c<;>by_cases d:b=0<;>simp[d]
def arm(b:br s po a=true):a<s.size/\49<=au s a/\au s a<=57:=by
 simp[br]at b;refine⟨b.1,?_⟩;have c:=b.2;simp[bn,po]at c;omega
def xxb{p q:Bool}{i j:Nat}(m:Fl i j w u (a+1) p q e)(H:xi v i=a)(l:a<b):b-xi u i<b-xi v i:=by have:=pu m.c1;rw[this,H];omega
def aor(b:ag)(D:Nat)(A:ae)(K:Rc A i b D)(g:i≠j)(T:A.cell? (O j 4)=some (I 0))(U:A.cell? (O j 5)=some (.bool false))(V:A.cell? (O j 6)=some (.bool false))(W:∀X,X<7->A.frozen? (O j X)=false):
  Calls prog 231 #[.pointer (some ⟨i,0,none⟩), .pointer (some ⟨j,0,none⟩)] A fun d a5=>d= .returned (.tuple #[])/\Fl i j A a5 (flagF b 4 D false false 0).1 (flagF b 4 D false false 0).2.1 (flagF b 4 D false false 0).2.2.1 (flagF b 4 D false false 0).2.2.2/\(flagF b 4 D false false 0).1<=b.size:=by
 have Z:=J K;have a0:=K.le;have a6:=K.li;have Q:=J W;have a1:Y (Fl i j A A D false false 0):=⟨rfl,rfl,rfl,rfl,fun _ _ _=>rfl,K.c1,fun _ _=>rfl,fun _=>rfl,T,U,V,fun _ _=>rfl,fun _=>rfl⟩;clear K T U V W;generalize hF:flagF b 4 D false false 0=F;have a2:=J hF;clear hF;go_in;go_wp21;go_loopw [] (fun wr=>∃(a e:Nat) (h k:Bool),Fl i j A wr a h k e/\a<=b.size/\e<=9/\qt h k e<=3/\Y (F=flagF b (4-qt h k e) a h k e)) (fun wr=>b.size-xi wr i)
 case atStart=>exact ⟨D,0,false,false,a1.out,a0,by omega,by simp [qt],a2.symm⟩
 obtain ⟨a,e,h,k,m,B,R,a7,n⟩:=hrel;have q:=J m;have c:=J (m.rc Z.out B);have H:=J (pu m.c1);have E:Y (F=if h=false/\pk b a=103 then flagF b (3-qt h k e) (a+1) true k e else if k=false/\pk b a=112 then flagF b (3-qt h k e) (a+1) h true e else if e=0/\br b po a=true then flagF b (3-qt h k e) (a+1) h k (au b a-48) else (a,h,k,max e 1)):=by
  rw [Y,n.out]
  conv=>lhs;rw [show 4-qt h k e=(3-qt h k e)+1 by omega,flagF]
 obtain ⟨a8,a9,aA,aB,aC⟩:=c.out;have aD:=m.p4;have aE:=m.p5;have aF:=m.p6;have aG:=(m.pf 4).trans (Q.out 4 (by omega));have aH:=(m.pf 5).trans (Q.out 5 (by omega));have aI:=(m.pf 6).trans (Q.out 6 (by omega));clear m n;by_cases r:h=false/\pk b a=((103:Nat):Int)
 .obtain ⟨rfl,r⟩:=r;have L:=J r;obtain ⟨S,_⟩:=ho (s:=b) (i:=a) (by rw [r];decide);have u:Y (F=flagF b (4-qt true k e) (a+1) true k e):=by
   rw [Y,E.out,G ⟨rfl,by rw [r];rfl⟩,show 3-qt false k e=4-qt true k e by simp [qt];omega]
  have C:=Ug true k e;clear r E;go_wp2_with (go_at_call 100;go_call Bh i b a 103 _ c.out (by omega) L.out as d n ⟨rfl,m,rfl⟩);go_roundw
  .exact ⟨a+1,_,_,_,((q.out.go g (v:=(a:Int)+1) (a+1) (by omega)).drewN _).at5 g true,by omega,by omega,C,u⟩
  exact xxb (((q.out.go g (v:=(a:Int)+1) (a+1) (by omega)).drewN _).at5 g true) H.out S
 by_cases p:k=false/\pk b a=((112:Nat):Int)
 .obtain ⟨rfl,p⟩:=p;have L:=J p;have x:Y (pk b a≠((103:Nat):Int)):=by rw [Y,p];decide
  obtain ⟨S,_⟩:=ho (s:=b) (i:=a) (by rw [p];decide);have u:Y (F=flagF b (4-qt h true e) (a+1) h true e):=by
   rw [Y,E.out,N (fun m=>cb m.2 (by rw [p];decide)),G ⟨rfl,by rw [p];rfl⟩,show 3-qt h false e=4-qt h true e by simp [qt];omega]
  have C:=Ug h true e;have o:=J (@id (h=false));clear p E r;cases h
  all_goals
   go_wp21;try (have:=o.out (by trivial);go_call tq i b a 103 _ (by first|exact c.out|exact c.out.drewN _) (by omega) x.out as d n ⟨rfl,l,rfl⟩;go_wp21)
   go_call Bh i b a 112 _ (by first|exact c.out|exact c.out.drewN _) (by omega) L.out as d n ⟨rfl,l,rfl⟩;go_wp21;go_roundw
   .first|exact ⟨a+1,_,_,_,(((q.out.drewN _).go g (v:=(a:Int)+1) (a+1) (by omega)).drewN _).Ns g true,by omega,by omega,C,u⟩|exact ⟨a+1,_,_,_,((q.out.go g (v:=(a:Int)+1) (a+1) (by omega)).drewN _).Ns g true,by omega,by omega,C,u⟩
   first|exact xxb ((((q.out.drewN _).go g (v:=(a:Int)+1) (a+1) (by omega)).drewN _).Ns g true) H.out S|exact xxb (((q.out.go g (v:=(a:Int)+1) (a+1) (by omega)).drewN _).Ns g true) H.out S
 by_cases t:e=0/\br b po a=true
 .obtain ⟨rfl,t⟩:=t;obtain ⟨S,a3,a4⟩:=arm t;have y:=J t;have s:=fh S;have u:Y (F=flagF b (3-qt h k 0) (a+1) h k (au b a-48)):=by
   rw [Y,E.out,N (fun m=>r ⟨m.1,by rw [m.2];rfl⟩),N (fun m=>p ⟨m.1,by rw [m.2];rfl⟩),G ⟨rfl,t⟩]
  generalize au b a=o at a3 a4 s u;have M:=J s;have x:Y (pk b a≠((103:Nat):Int)):=by rw [Y,s];omega
  have z:Y (pk b a≠((112:Nat):Int)):=by rw [Y,s];omega
  have u:Y (F=flagF b (4-qt h k (o-48)) (a+1) h k (o-48)):=by
   rw [Y,u.out,show 3-qt h k 0=4-qt h k (o-48) by rw [qt,qt,G rfl,N (show ¬o-48=0 by omega)];omega]
  have C:=Ug h k (o-48);have r:=J (@id (h=false));have p:=J (@id (k=false));clear t s E;cases h<;>cases k
  all_goals
   go_wp21;try (have:=r.out (by trivial);go_call tq i b a 103 _ (by first|exact c.out|exact c.out.drewN _) (by omega) x.out as d n ⟨rfl,l,rfl⟩;go_wp21)
   try (have:=p.out (by trivial);go_call tq i b a 112 _ (by first|exact c.out|exact c.out.drewN _) (by omega) z.out as d n ⟨rfl,l,rfl⟩;go_wp21)
   refine (oj i b po a _ (by first|exact c.out|exact c.out.drewN _)).mono ?_;rw [y.out];rintro d n ⟨rfl,l,rfl⟩;go_wp21;refine (iz i b a _ (by first|exact c.out|exact c.out.drewN _)).mono ?_;rw [M.out];rintro d n ⟨rfl,l,rfl⟩;go_wp21;go_roundw
   .exact ⟨a+1,_,_,_,((q.out.drewN _).ry g (v:=(o:Int)-48) (o-48) (by omega)).go g (v:=(a:Int)+1) (a+1) (by omega),by omega,by omega,C,u⟩
   exact xxb (((q.out.drewN _).ry g (v:=(o:Int)-48) (o-48) (by omega)).go g (v:=(a:Int)+1) (a+1) (by omega)) H.out S
 have u:Y (F=(a,h,k,max e 1)):=by
  rw [Y,E.out,N (fun m=>r ⟨m.1,by rw [m.2];rfl⟩),N (fun m=>p ⟨m.1,by rw [m.2];rfl⟩),N t]
 have x:Y (h=false->pk b a≠((103:Nat):Int)):=fun d m=>r ⟨d,m⟩
 have z:Y (k=false->pk b a≠((112:Nat):Int)):=fun d m=>p ⟨d,m⟩
 have y:Y (e=0->br b po a=false):=fun d=>by
  rcases df (br b po a) with m|m
  .exact cb ⟨d,m⟩ t
  exact m
 clear E r p t;cases h<;>cases k<;>obtain rfl|o:e=0\/((e:Int)==0)=false:=(by simp;omega)
 all_goals
  go_wp21;try (have x:=x.out (by trivial);go_call tq i b a 103 _ (by first|exact c.out|exact c.out.drewN _) (by omega) x as d n ⟨rfl,l,rfl⟩;go_wp21)
  try (have z:=z.out (by trivial);go_call tq i b a 112 _ (by first|exact c.out|exact c.out.drewN _) (by omega) z as d n ⟨rfl,l,rfl⟩;go_wp21)
  try (have y:=y.out (by trivial);refine (oj i b po a _ (by first|exact c.out|exact c.out.drewN _)).mono ?_;rw [y];rintro d n ⟨rfl,l,rfl⟩;go_wp21)
  rw [u.out];go_returns;(first|refine ⟨rfl,Fl.ry (d:=0) ?_ g _ (by rfl),B⟩|refine ⟨rfl,Fl.ry (d:=e) ?_ g _ (by show max (e:Int) 1=((max e 1:Nat):Int);omega),B⟩);repeat first|refine Fl.drewN ?_ _|exact q.out
def Mw.vp(c:Mk a w u b):Mw a w u:=⟨c.os,c.tape,c.output,c.size,c.block,λd e _=>c.cell d e,c.cd⟩
def Cu.vp(e:Cu w a s b p)(d:Mk a w u c)(f:c<=s.size):Cu u a s c p:=
 ⟨d.rc e.rc f,(d.cell 5<|by omega).trans e.c5,(d.cd 5).trans e.f5⟩
def Cu.drew(c:Cu w a s b p):Cu w.drew a s b p:=⟨⟨c.rc.c0,c.rc.c1,c.rc.f1,c.rc.le,c.rc.li⟩,c.c5,c.f5⟩
def Lj(b:j<=S.size:=by omega):(dx S j Z).1<=S.size/\j<=(dx S j Z).1:=by
 have f:j<=bw S j:=Es S _ j b;have g:bw S j<=S.size:=Er S _ _;have h:=Ws S j b;unfold dx;simp only;cases c:uu (S.extract j<|bw S j)with
 |some d=>
  simp only;obtain⟨a,e⟩:=Ik (S.extract j<|bw S j).size 0 ⟨0,0,0,0⟩ (t:=S.extract j<|bw S j) rfl (by omega);obtain⟨_,_,i,_⟩:=a d c;omega
 |none=>
  simp only;split
  .rename_i a;obtain⟨e,_⟩:=ho (s:=S) (i:=j+(S.extract j<|bw S j).size) (by rw[a];decide);simp only;omega
  simp only;omega
def xxa{d:ae}{r q:Int}{a:ag}{i j n:Nat}(A:Cu d i S j q)(M:Mw i W d)(Q:jz d W.heap.size n a x y z)(k:Th d W.heap.size (.slice none 0 0) (I 0) (I 0))(t:r=q)(f:j+a.size<=S.size)(g:W.heap.size<d.heap.size)(h:i<W.heap.size)(p:d.heap.size=n):Cu ((d.setCell (O i 1)<|I<|(j:Int)+a.size).alloc<|.cells #[x,y,z] 88) i S (j+a.size) r/\Mw i W ((d.setCell (O i 1)<|I<|(j:Int)+a.size).alloc<|.cells #[x,y,z] 88)/\jz ((d.setCell (O i 1)<|I<|(j:Int)+a.size).alloc<|.cells #[x,y,z] 88) W.heap.size n a x y z/\Th ((d.setCell (O i 1)<|I<|(j:Int)+a.size).alloc<|.cells #[x,y,z] 88) n x y z/\Th ((d.setCell (O i 1)<|I<|(j:Int)+a.size).alloc<|.cells #[x,y,z] 88) W.heap.size (.slice none 0 0) (I 0) (I 0)/\n<=((d.setCell (O i 1)<|I<|(j:Int)+a.size).alloc<|.cells #[x,y,z] 88).heap.size:=by
 subst t p;obtain⟨v,w,u,u0,u1,u2⟩:=k
 refine⟨(A.put (j+a.size) (by omega) f).alloc _,(M.sg _).alloc h _,Q.kept<|((du.refl ah).set<|by omega).alloc,?_,?_,by simp[World.setCell]⟩<;>constructor<;>go_simp
def Ps(a3:Cu W i S j Z):
  Calls prog 226 #[.pointer<|some ⟨i,0,none⟩] W λm a5=>∃(b:Option Addr)(g c:Nat)(e f:Int),m=.returned (.tuple #[.agg #[.slice b g c,.int .i64 e,.int .i64 f],.bool (dx S j Z).2.2.2])/\Mw i W a5/\Cu a5 i S (dx S j Z).1 (dx S j Z).2.2.1/\
   ((dx S j Z).2.2.2=true->jz a5 W.heap.size a5.heap.size (dx S j Z).2.1 (.slice b g c) (I e) (I f)):=by
 have aD:=J a3;have q:=a3.lt;have aE:=Lj S j Z a3.rc.le;obtain⟨⟨C,D,E,a6,aL⟩,F,H⟩:=a3;have aM:(0:Int)<=j:=by omega
 have aN:(j:Int)<=S.size:=by omega
 generalize hF:dx S j Z=K at aE;have L:=J hF;clear hF;have aF:=J<|ash S j a6;have aG:=J<|Ws S j a6;have aO:bw S j<=S.size:=Er S _ _;have aP:j<=bw S j:=Es S _ j a6;go_in;go_wp21;refine(aww (S.extract j S.size) _<|by simp[lw];omega).mono ?_;rw[aF.out];rintro m aQ ⟨rfl,aB,rfl⟩;obtain⟨a,a4⟩:∃a,S.extract j (bw S j)=a:=⟨_,rfl⟩;have aH:Y (a.size=bw S j-j):=by rw[Y,<-a4];exact aG
 have P:j+a.size<=S.size:=by rw[aH.out];omega
 rw[a4];go_wp21;go_call afw a _ (by omega)as m d ⟨b,g,c,e,f,p,ok,rfl,aI,h⟩;have l:Below W.heap.size W ((W.alloc<|.cells #[.slice none 0 0, I 0, I 0] 88).drewN aB):=⟨rfl,rfl,rfl,by simp,λaR aJ=>im _ _ _ aJ⟩;have k:=l.trans (h.mono<|by simp);have M:=J<|Mw.below k q;have A:=J<|aD.below k;have aS:W.heap.size+1<=d.heap.size:=by have:=h.size;simp at this;omega
 have aK:Y (Th d W.heap.size (.slice none 0 0) (I 0)<|I 0):=by
  refine Th.of (w:=W.alloc _) ?_ ((h.block W.heap.size<|by simp).trans rfl);constructor<;>go_simp
 have aT:Y (((W.alloc<|.cells #[.slice none 0 0, I 0, I 0] 88).drewN aB).heap.size=W.heap.size+1):=by simp[Y]
 clear h k l C D E F H;obtain⟨⟨C,D,E,_,_⟩,F,H⟩:=A.out;obtain⟨v,w,x,u0,u1,u2⟩:=aK;have aU:i<d.heap.size:=by omega
 have aV:W.heap.size<d.heap.size:=by omega
 have aW:i≠W.heap.size:=by omega
 rcases aI with⟨rfl,a7,a8⟩|⟨rfl,a9,rfl,aX,a7⟩
 .obtain⟨B,R⟩:∃B,B=(if 40<a.size/\Z=-1 then(j:Int)else Z):=⟨_,rfl⟩;have y:Y (K=if pk S (j+a.size)=47 then(j+a.size+1,a,B,true)else(j+a.size,a,B,false)):=by
   rw[Y,<-L.out,dx,R];simp only[a4,a7]
  have aA:(40<a.size/\Z=-1/\B=j)\/B=Z/\(a.size<=40\/40<a.size/\(Z==-1)=false):=by
   rw[R];split
   .rename_i k;exact .inl ⟨k.1,k.2,rfl⟩
   refine .inr ⟨rfl,?_⟩;by_cases k:a.size<=40
   .exact .inl k
   exact .inr ⟨by omega,hh<|by omega⟩
  have Q:Y (jz d W.heap.size d.heap.size a (.slice b g c) (I e)<|I f):=a8.wide (by simp) ah ah;clear a8 R;rcases aA with⟨aA,rfl,t⟩|⟨t,aA|⟨aY,aZ⟩⟩
  all_goals
   first
   |(have h:=xxa S W (A.agq (j:Int)) (M.Xw _) (Q.kept<|(du.refl ah).set<|by omega) (by constructor<;>go_simp) t P (by simp;omega) q (by simp);have h:=J h;go_wp21;generalize((d.setCell (O i 5)<|I j).setCell (O i 1)<|I<|(j:Int)+a.size).alloc (.cells #[.slice b g c, I e, I f] 88)=T at h|-)
   |(have h:=J<|xxa S W A M Q ⟨v,w,x,u0,u1,u2⟩ t P aV q rfl;go_wp21;generalize(d.setCell (O i 1)<|I<|(j:Int)+a.size).alloc (.cells #[.slice b g c, I e, I f] 88)=T at h|-)
   clear C D E F H v w x u0 u1 u2;obtain⟨h,l,r,n,o,s⟩:=h;obtain⟨V,X,a0,_,_,_⟩:=n;obtain⟨v,w,x,u0,u1,u2⟩:=o;have a1:i≠d.heap.size:=by omega
   have a2:W.heap.size≠d.heap.size:=by omega
   by_cases k:pk S (j+a.size)=((47:Nat):Int)
   .have z:=J k;obtain⟨aC,_⟩:=ho (s:=S) (i:=j+a.size) (by rw[k];decide);have u:Y (K=((j+a.size+1),a,B,true)):=by rw[Y,y.out,G<|by rw[k];rfl]
    clear k y t;go_region_with (go_at_call 100;go_call Bh i S (j+a.size) 47 _ (by first|exact h.rc|exact h.drew.rc|exact(h.drewN _).rc|(refine Cu.rc (lg:=B) ?_;repeat first|exact h|refine Cu.drewN ?_ _|refine Cu.drew ?_|refine Cu.fi ?_ (by omega) _)) (by omega) z as m w3 ⟨rfl,U,rfl⟩)
    all_goals go_wp21
    all_goals rw[u.out]
    all_goals refine bodyPost_ret (v:=.tuple #[.agg #[.slice b g c, I e, I f],.bool true]) (by simp[results,results226,go_sem, *]) rfl ⟨b,g,c,e,f,rfl,?_,?_,λ_=>r.keep ?_ ah⟩
    all_goals first
     |((repeat first|refine Mw.sg ?_ _|refine Mw.fi ?_ (by omega) q _|refine Mw.drewN ?_ _|refine Mw.drew ?_|exact l);done)
     |(show Cu _ i S (j+a.size+1) B;(repeat first|refine Cu.fi ?_ (by omega) _|refine Cu.drewN ?_ _|refine Cu.drew ?_|refine Cu.put (i:=j+a.size) ?_ (j+a.size+1) (by omega) (by omega)|exact h);done)
     |((repeat first|refine du.set ?_ (by omega)|refine du.drewN ?_ _|refine du.drew ?_|exact du.refl s);done)
   have z:=J k;have u:Y (K=((j+a.size),a,B,false)):=by rw[Y,y.out,N<|λm=>k<|by rw[m];rfl]
   clear k y t;go_region_with (go_at_call 100;go_call tq i S (j+a.size) 47 _ (by first|exact h.rc|exact h.drew.rc|exact(h.drewN _).rc|(refine Cu.rc (lg:=B) ?_;repeat first|exact h|refine Cu.drewN ?_ _|refine Cu.drew ?_|refine Cu.fi ?_ (by omega) _)) (by omega) z as m w3 ⟨rfl,U,rfl⟩)
   all_goals go_wp21
   all_goals rw[u.out]
   all_goals refine bodyPost_ret (v:=.tuple #[.agg #[.slice b g c, I e, I f],.bool false]) (by simp[results,results226,go_sem, *]) rfl ⟨b,g,c,e,f,rfl,?_,?_,λB=>(by cases B)⟩
   all_goals first
    |((repeat first|refine Mw.sg ?_ _|refine Mw.fi ?_ (by omega) q _|refine Mw.drewN ?_ _|refine Mw.drew ?_|exact l);done)
    |(show Cu _ i S (j+a.size) B;(repeat first|refine Cu.fi ?_ (by omega) _|refine Cu.drewN ?_ _|refine Cu.drew ?_|exact h);done)
 have u:Y (K=(j+a9,fo,Z,false)):=by
  rw[Y,<-L.out,dx];simp only[a4,a7]
 have h:=J A;go_wp21;rw[u.out];refine bodyPost_ret (v:=.tuple #[.agg #[.slice b g c, I e, I f],.bool false]) (by simp[results,results226,go_sem, *]) rfl ⟨b,g,c,e,f,rfl,?_,?_,λB=>(by cases B)⟩
 . (repeat first|refine Mw.sg ?_ _|refine Mw.Xw ?_ _|refine Mw.fi ?_ (by omega) q _|refine Mw.drewN ?_ _|refine Mw.alloc ?_ q _|exact M)
 show Cu _ i S (j+a9) Z
 (repeat first|refine Cu.fi ?_ (by omega) _|refine Cu.alloc ?_ _|refine Cu.drewN ?_ _|refine Cu.put (i:=j) ?_ (j+a9) (by omega) (by omega)|exact A)
section
def dSetL(s:ag):Nat->Nat->(Nat->Bool)->Nat×(Nat->Bool)
 |0,i,S=>(i,S)
 |f+1,i,S=>if pk s i=93 then(i+1,S)else dSetL s f (kf s i).2.2 (kx S (kf s i).1 (kf s i).2.1)
def vh(s:ag)(i:Nat):Nat×(Nat->Bool):=
 if pk s (i+1)=94 then((dSetL s (s.size+1) (i+2) dp).1,λc=> !(dSetL s (s.size+1) (i+2) dp).2 c)else dSetL s (s.size+1) (i+1) dp
section
variable (ch:bs->bs×Nat) (s:ag)
def ep(p:bs):bs×Nat:=
 let c:=au s p.H
 if c=94 then cp p (p.H+1) (gb 1 dp)
 else if c=36 then cp p (p.H+1) (gb 2 dp)
 else if c=46 then cp p (p.H+1) (gb 0 λ_=>true)
 else if c=40 then
  let r:=ch ⟨p.H+1,p.g+1,p.l⟩
  cp r.1 (r.1.H+1) (qc r.2 p.g)
 else if c=91 then cp p (vh s p.H).1 (gb 0 (vh s p.H).2)
 else if c=92 then cp p (p.H+2) (gb 0<|kx dp (val<|au s<|p.H+1)<|val<|au s<|p.H+1)
 else cp p (p.H+1) (gb 0<|kx dp c c)
def ki(p:bs):bs×Nat:=
 let r:=ep ch s p
 let c:=pk s r.1.H
 if c=42 then cp r.1 (r.1.H+1) (gr r.2 0<|-1)
 else if c=43 then cp r.1 (r.1.H+1) (gr r.2 1<|-1)
 else if c=63 then cp r.1 (r.1.H+1) (gr r.2 0 1)
 else if c=123 then
  let lo:=au s (r.1.H+1)-48
  if pk s (r.1.H+2)=44 then cp r.1 (r.1.H+5) (gr r.2 lo ((au s (r.1.H+3)-48:Nat):Int))
  else cp r.1 (r.1.H+3) (gr r.2 lo (lo:Int))
 else r
def qs:Nat->bs->List Nat->bs×Nat
 |0,p,_=>(p,0)
 |f+1,p,zs=>
  if pk s p.H=124\/pk s p.H=41\/p.H=s.size then cp p p.H (ct 5 zs)
  else
   let r:=ki ch s p
   qs f r.1 (zs++[r.2])
def ip(p:bs):bs×Nat:=qs ch s (s.size+1) p []
def sw:Nat->bs->List Nat->bs×Nat
 |0,p,_=>(p,0)
 |f+1,p,zs=>
  let r:=ip ch s p
  if pk s r.1.H=124 then sw f ⟨r.1.H+1,r.1.g,r.1.l⟩ (zs++[r.2])else cp r.1 r.1.H (ct 4<|zs++[r.2])
def Od(p:bs):bs×Nat:=sw ch s (s.size+1) p []
end
def dz(s:ag):Nat->bs->bs×Nat
 |0,p=>(p,0)
 |n+1,p=>Od (dz s n) s p
def jv(s:ag):bs×Nat:=dz s 41 ⟨0,0,[]⟩
def avu{a:Nd}(b:a.ba≠[]):a.ba.getD 0 0∈a.ba:=zk b
def aek(s:ag){b k:List Nd}(l:Wf b):∀(f c:Nat),c<b.length->se s (b++k) f c=se s b f c
 |0,_,_=>rfl
 |f+1,c,hn=>by
  funext i j;simp only[se];rw[oq hn];cases hd:b[c]? with
  |none=>rfl
  |some d=>
   have⟨o,p⟩:=l c d hd;have e:∀a∈d.ba,se s (b++k) f a=se s b f a:=λa h=>aek s l f a (by have:=o a h;omega)
   have q:(d.ba.map λa=>se s (b++k) f a)=d.ba.map λa=>se s b f a:=yyz e
   simp only;rw[q];split
   .rfl
   split
   .rfl
   split
   .rfl
   split
   .rfl
   split
   .rename_i n;rw[e _<|avu<|p n]
   apply propext;exact yzo λa=>yyr λh=>by rw[e a h]
def My(s:ag){b e:List Nd}(c:Wf b)(d:a<b.length):bi s (b++e) a=bi s b a:=aek s c (a+1) a d
section
variable {m m':Nat->Nat->Nat->Prop} {g g':Nat->Nat->Nat->co->co->Prop}
def altG.Dy:∀{l:List Nat},(∀x∈l,m x=m' x)->(∀x∈l,g x=g' x)->altG m g l=altG m' g' l
 | [],_,_=>by funext i j c d;rfl
 |x::xs,h,b=>by
  funext i j c d;simp only[altG];rw[h x<|by simp,b x<|by simp,altG.Dy (l:=xs) (λe a=>h e<|xw _ a)<|λe a=>b e<|xw _ a]
def ik.Dy:∀{l:List Nat},(∀x∈l,m x=m' x)->(∀x∈l,g x=g' x)->ik m g l=ik m' g' l
 | [],_,_=>by funext i j c d;rfl
 |x::xs,h,b=>by
  funext i j c d;simp only[ik];have f:=yyz λe a=>h e<|xw _ a
  rw[h x<|by simp,b x<|by simp,f,ik.Dy (l:=xs) (λe a=>h e<|xw _ a)<|λe a=>b e<|xw _ a]
def repP.Dy{b l:Nat}{k:Int}(h:m b=m' b)(e:g b=g' b):∀f,repP m g b l k f=repP m' g' b l k f
 |0=>by funext a i j c d;rfl
 |f+1=>by
  funext a i j c d;simp only[repP];rw[h,e,repP.Dy h e f]
end
def af5(s:ag){b p:List Nd}(l:Wf b)(q:∀(e:Nat)(d:Nd),b[e]?=some d->d.R=3->d.ba≠[]):∀(f e:Nat),e<b.length->md s (b++p) f e=md s b f e
 |0,_,_=>rfl
 |f+1,e,hn=>by
  funext i j c u;simp only[md];apply propext;rw[oq hn];refine yzo λd=>yyr λhd=> ?_
  have⟨r,t⟩:=l e d hd;have h:∀a∈d.ba,md s (b++p) f a=md s b f a:=λa n=>af5 s l q f a (by have:=r a n;omega)
  have o:∀a∈d.ba,bi s (b++p) a=bi s b a:=λa n=>My s l (by have:=r a n;omega)
  split
  .rename_i k;rw[h _<|zk<|q e d hd k]
  split
  .rw[altG.Dy o h]
  split
  .rw[ik.Dy o h]
  split
  .rename_i k;rw[repP.Dy (o _<|zk<|t k)<|h _<|zk<|t k]
  exact Iff.rfl
def aad(s:ag){b h:List Nd}(d:Wf b)(e:∀(a:Nat)(c:Nd),b[a]?=some c->c.R=3->c.ba≠[])(f:a<b.length):jg s (b++h) a=jg s b a:=af5 s d e (a+1) a f
def ad2(s:ag)(a:Nat):a<(hy s a).2:=by
 unfold hy;split<;>simp
def Jy(s:ag)(a:Nat):a<(kf s a).2.2:=by
 have b:=ad2 s a;unfold kf;split
 .have:=ad2 s<|(hy s a).2+1;simp only;omega
 exact b
def Tn(s:ag):∀(f c:Nat)(d:Nat->Bool),pk s c≠93->s.size<c+f->(setL s f c d).1<=s.size->dSetL s (f+1) c d=setL s f c d
 |0,c,d,_,a,h3=>by
  have:c<=s.size:=h3;omega
 |f+1,c,d,b,a,h3=>by
  have h:=Jy s c;rw[dSetL,N b];rw[setL]at h3|-;split
  .rename_i e;rw[dSetL,G e]
  rename_i e;rw[N e]at h3;exact Tn s f _ _ e (by omega) h3
def abv{s:ag}(d:pk s (a+1)=94->pk s (a+2)≠93)(e:pk s (a+1)≠93)(b:(sh s a).1<=s.size):vh s a=sh s a:=by
 unfold vh;unfold sh at b|-;split
 .rename_i c;rw[G c]at b;rw[Tn s s.size (a+2) dp (d c) (by omega) b]
 rename_i c;rw[N c]at b;exact Tn s s.size (a+1) dp e (by omega) b
end
