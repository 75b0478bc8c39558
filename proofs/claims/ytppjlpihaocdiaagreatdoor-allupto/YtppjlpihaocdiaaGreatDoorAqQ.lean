import Derived.Deep.Onto
import Derived.Test.YtppjlpihaocdiaaGreatDoorAdQ
import Derived.Test.YtppjlpihaocdiaaGreatDoorApQ
import Derived.Test.YtppjlpihaocdiaaGreatDoorAjQ
import Derived.Test.YtppjlpihaocdiaaGreatDoorAhQ
set_option linter.all false
set_option maxRecDepth 100000
set_option maxHeartbeats 16000000
namespace Go.Proofs.YtppjlpihaocdiaaGreatDoor
open Go.RowKit Go.Proofs.Tryz
variable{w u v:ae}{a b c d e:Nat}{s t:ag}{x y z:af}{p D:Int}{l:List af}{f:Bool}{g:List Nat}{h:Nat->Prop}{o:Option Addr}{r:List UInt8}{A:Nat->Bool}{B:Nat->Nat->Bool}{C:Nat->Nat->Prop}(i:Nat)(S T:ag)(V X:af)(j k m n:Nat)(Z:Int)(W:ae)
def pr.sat{c:Nat->Prop}{f g d:Nat}(l:pr c f g d)(h:∃b,f<=b/\b<=g/\c b):c d:=by
 let⟨m,n,i,a⟩:=l;obtain a|a:=a
 .let⟨b,o,k,e⟩:=h;by_cases j:b=d
  .subst j;exact e
  exact cb e<|i b Q k
 exact a
def Lf.set{i b:Int}(c:Lf w a i b)(v:Int):Lf (w.setCell (O a 0)<|I v) a v b:=by
 let⟨d,e,f⟩:=c;refine⟨?_,?_,?_⟩<;>go_simp
def ao3(a:Pp)(A:Nat->Nat->Nat->Nat->Bool)(x:Nat->Nat)(j:ae)(k z:Nat)(f:Ctx a A x j k)(a5:Fa a A x j k z)
  (g:Nat) (c:Nd) (hd:a.bc[g]?=some c) (K:c.R=5) (bE:g<=z) (h d:Nat) (mt:Int×Int) (C:co) (e:ae) (t:uk a j k mt C e) (aB:h<=d) (aZ:d<=a.s.size) (a3:bi a.s a.bc g h d):
  Calls prog 159 #[.pointer<|some ⟨a.tb,0,none⟩,.int .i64 g,.agg #[.int .i64 h,.int .i64 d],.slice (some ⟨k,0,none⟩) (a.eu+1)<|a.eu+1] e
   λv a6=>v=.returned (.tuple #[])/\∃n,uk a j k mt n a6/\ik (bi a.s a.bc) (jg a.s a.bc) c.ba h d C n/\Fo k e a6:=by
 have L:=f;have a9:=J a5;have aC:=(jy.1 hd).1;have aD:Y (∀s∈c.ba,s<z/\s<a.bc.length):=λs b1=>by have:=(f.pn g c hd).sub s b1;omega
 obtain⟨a2,bF⟩:=(f.pn g c hd).two<|.inr K;have aE:Y (ku (c.ba.map<|bi a.s a.bc) h d):=by
  have:=(oy f.wf hd h d).1 a3;rw[N Q,N Q,N Q,G K]at this;exact this
 obtain⟨bG,l⟩:=(f.ri g c hd).row K;have aF:=J l;obtain⟨b6,bV,c1,c2,c3,c4,E,S,bY,o⟩:=f.tb.node g c hd;have r:=o 1 _ rfl;obtain S|⟨bU,rfl,bH,i⟩:=S
 .rw[S]at a2;simp at a2
 have a8:=J i;obtain⟨b3,y,b4⟩:=f.tb.row g aC;have b7:=f.tb.js;have b8:=t.lt;have b5:=f.tb.ko;have bI:=t.b.size;have bJ:=f.ob
 --what the walk reads of the table,in whatever world
 have aG:=J r;have aH:=J y;have aI:=J f.tb.c0;have aJ:=J f.tb.c4;have q:Y (∀(B:ae),Below j.heap.size j B->∀u H p,j.cell? (O u H)=some p->B.cell? (O u H)=some p):=λB aY u H p a4=>(ac H<|aY.block u<|dw j _ a4).trans a4
 have w:Below e.heap.size e (e.alloc<|.cells #[I h,I d] 48):=(bp _ _).alloc ah _;have aK:(e.alloc<|.cells #[I h,I d] 48).heap.size=e.heap.size+1:=qD
 have b:=Lf.new e h d 48;have m:=q _ (t.below w).b _ _ _ aI;have D:=q _ (t.below w).b _ _ _ aG;clear f a5 i o r l a3 y E;go_in;go_wp21;generalize(e.alloc<|.cells #[I h,I d] 48)=bZ at w aK b m D;have aL:=J b;have aM:=t.below w;clear b m D;go_loopw [20] (λp wr=>∃(b m:Nat)(r:co),b<=c.ba.length/\m<=d/\p=I b/\Y (Lf wr e.heap.size m d)/\Y (uk a j k mt r wr)/\Y (Fo k e wr)/\Y (ku ((c.ba.map<|bi a.s a.bc).drop b) m d)/\Y (∀n,ik (bi a.s a.bc) (jg a.s a.bc) (c.ba.drop b) m d r n->ik (bi a.s a.bc) (jg a.s a.bc) c.ba h d C n)) (λp _=>c.ba.length+1-(intOf p).toNat)
 case atStart=>exact⟨0,h,C,ey _,aB,rfl,aL,aM,Fo.wm w,aE,λn R=>R⟩
 obtain⟨b,m,r,bP,aN,rfl,a1,o,M,aA,a0⟩:=hrel;by_cases y:b<c.ba.length
 .obtain⟨l,E⟩:∃l,c.ba[b]?=some l:=⟨_,dy y⟩;obtain⟨aO,aP⟩:=aD l<|qy E;have P:c.ba.drop b=l::c.ba.drop (b+1):=by
   have v:=E;rw[dy y]at v;have D:c.ba[b]=l:=qK v
   rw[Dn y,D]
  have aQ:=J P;have T:∃i,m<=i/\i<=d/\(bi a.s a.bc l m i/\ku ((c.ba.map<|bi a.s a.bc).drop<|b+1) i d):=by
   have X:=aA.out;rw[<-List.map_drop,P]at X;obtain⟨i,Z,qa⟩:=X;rw[List.map_drop]at qa;have s1:=L.st l m i Q Z;have s2:=nj.chain (L:=a.s.size) (l:=(c.ba.map<|bi a.s a.bc).drop<|b+1) (λb3 a7=>by
    obtain⟨s,_,rfl⟩:=yzg.1<|List.mem_of_mem_drop a7;exact L.st s) i d s1.2 qa
   exact⟨i,s1.1,s2.1,Z,qa⟩
  have X:Y _:=T;have b9:=M.size;have aR:b+1<x g:=Q
  obtain⟨aX,aW,Z,bA,a7⟩:=b4.H (b+1) aR;have bQ:=q wr o.b _ _ _<|a8 b l E;have bR:=q wr o.b _ _ _ aH;have bS:=q wr o.b _ _ _ aJ;have bT:=q wr o.b _ _ _ Z;obtain⟨b2,bW,bX⟩:=a1.out;have bK:IntKind.i64.wrap ((b:Int)+1)=(b:Int)+1:=Mr b (b+1) rfl Q;have bL:(b:Int)+1<(x g:Int):=Q
  have qa:(0:Int)<=b+1:=Q
  have aS:=o.out.below (bp wr.heap.size wr).drew;have bD:=o.lt;have aT:e.heap.size<wr.heap.size:=dw wr _ b2;clear E P T Z;go_wp21;go_region_with (first
    |(go_at_call 192;(go_call ac4 a A x j k z L a9 l m d aX aW mt r _ (A g<|b+1) (ku<|(c.ba.map<|bi a.s a.bc).drop<|b+1) aO aP aS aN aZ a7 (aF (b+1) y) (λi b0=>(b0.sat X).1)as v c0 ⟨i,rfl,F,qa,U,V,W⟩;have E:=J F;have Z:=J V;have P:=(Fo.wm (bp wr.heap.size wr).drew).trans W;have T:=a1.of (P.block e.heap.size aT Q);have aU:=J T;obtain⟨bM,bN,bO⟩:=T;clear F V W)))
  all_goals
   go_wp21;go_roundw
   case rel=>
    have aV:=E.2.1;refine⟨b+1,i,qa,y,aV,qJ,aU.set _,?_,(M.trans P).fi ah _ _,(E.sat X).2,λn R=>a0.out n<|by rw[aQ.out];exact⟨i,qa,by rw[List.map_drop];exact E,Z,R⟩⟩;exact⟨U.b.setCell qC _,U.o.cw<|er _ _ _ _ qC,U.l⟩
   simp[intOf];omega
 have i:b=c.ba.length:=Q
 subst i;go_wp21;go_returns;exact⟨rfl,r,o.out,a0.out r<|by rw[List.drop_length];rfl,M.out⟩
def Nj(f:nj a C)(h:d<=a)(k:Zt C b p c d e):d<=e/\e<=a:=by
 let⟨m,n,i,_,j⟩:=Ae.1 k;have g:=Pow.le f h i;have l:=Pow.le f.full g.2 j;omega
theorem aao(o:p=-1\/(a:Int)<=p)(i:Zt C a p b c d)(n:c<d):(b<a\/p<0\/(b:Int)<p)/\∃e,C c e/\(b<a\/c≠e)/\Zt C a p (b+1) e d:=by
 by_cases k:b<a
 .let⟨e,f,g⟩:=(Js k).1 i;grind
 by_cases l:p<0
 .let⟨j,m⟩:=(Jr Q l).1 i;cases j with
  |zero=>cases m;omega
  |succ j=>
   let⟨e,⟨f,g⟩,h⟩:=m;exact⟨.inr<|.inl l,e,f,.inr g,(Jr Q l).2 ⟨j,h⟩⟩
 by_cases m:(b:Int)<p
 .rcases(aan Q m).1 i with i|⟨e,⟨f,g⟩,h⟩
  all_goals grind
 exfalso;let⟨e,j,f,g,h⟩:=Ae.1 i;rw[show a-b=0 from Q]at f;cases f
 obtain rfl:j=0:=Q
 cases h
 omega
def Bx(w:ae)(b kb kc:Nat)(ll:Int):Prop:=w.cell? (O b 1)=some (aa kb 1 kc)/\w.cell? (O b 7)=some (I ll)
def Bx.of(f:Bx w a b c p)(g:u.heap[a]?=w.heap[a]?):Bx u a b c p:=by
 have e:∀d,u.cell? (O a d)=w.cell? (O a d):=λd=>ac d g
 exact⟨(e 1).trans f.1,(e 7).trans f.2⟩
theorem ao0(b:Pp)(E:Nat->Nat->Nat->Nat->Bool)(aB:Nat->Nat)(n:ae)(s W:Nat)(l:Ctx b E aB n s)(aV:Fa b E aB n s W)
  (o e:Nat) (a:Nd) (hd:b.bc[o]?=some a) (Z:a.R=6) (t:a.ba=[e]) (bR:o<=W) (m c:Nat) (mt:Int×Int) (P:co) (g:ae) (X:uk b n s mt P g) (bG:m<=c) (aR:c<=b.s.size) (aP:bi b.s b.bc o m c):
  Calls prog 158 #[.pointer<|some ⟨b.tb,0,none⟩,.int .i64 o,.agg #[.int .i64 m,.int .i64 c],.slice (some ⟨s,0,none⟩) (b.eu+1)<|b.eu+1] g
   λa5 aX=>a5=.returned (.tuple #[])/\∃k,uk b n s mt k aX/\repP (bi b.s b.bc) (jg b.s b.bc) e a.lo a.hi (a.lo+b.s.size+1) 0 m c P k/\Fo s g aX:=by
 have K:=l;have aN:=J aV;have bA:=(jy.1 hd).1;have cF:=(l.pn o a hd).sub e (by rw[t];simp);have aT:e<W:=Q
 have aU:e<b.bc.length:=Q
 obtain⟨bO,bP,bQ⟩:=(l.pn o a hd).Hc Z;have b7:Y (Zt (bi b.s b.bc e) a.lo a.hi 0 m c):=by
  have:=(oy l.wf hd m c).1 aP;rw[N Q,N Q,N Q,N Q,G Z,t]at this;exact(Se Q m c).2 this
 obtain⟨a4,x⟩:=(l.ri o a hd).Hc Z;have aL:Y (∀aD,aD<=qi a->Tl b.s.size (E o aD) (Zt (bi b.s b.bc e) a.lo a.hi aD)):=by rw[t]at x;exact x
 have bX:qi a<=9:=by unfold qi;split<;>omega
 have aJ:Y ((a.hi<0->qi a=a.lo)/\(¬a.hi<0->(qi a:Int)=a.hi)):=⟨λh=>by rw[qi,G h],λh=>by rw[qi,N h];omega⟩;obtain⟨bN,r,y,z,A,B,a6,aC,cR,f⟩:=l.tb.node o a hd;obtain aC|⟨q,rfl,bW,a2⟩:=aC
 .rw[aC]at t;cases t
 have b0:=J (a2 0 e<|by rw[t];rfl);have a3:a.ba.length=1:=by rw[t];rfl
 obtain⟨bI,v,aW⟩:=l.tb.row o bA;rw[a4]at v aW;have c8:=l.tb.js;have c5:=X.lt;have c0:=l.tb.ko;have a8:=X.b.size;have c4:=l.ob;have b4:=J v;have j:Y (∀(F:ae),Below n.heap.size n F->∀M a1 u,n.cell? (O M a1)=some u->F.cell? (O M a1)=some u):=λF bD M a1 u aS=>(ac a1<|bD.block M<|dw n _ aS).trans aS
 have i:Below g.heap.size g (g.alloc<|.cells #[I m,I c] 48):=(bp _ _).alloc ah _;have aA:(g.alloc<|.cells #[I m,I c] 48).heap.size=g.heap.size+1:=qD
 have w:=Lf.new g m c 48;have d:=(X.below i).b;have U:=j _ d _ _ _ l.tb.c0;have V:=j _ d _ _ _ l.tb.c4;have a0:=j _ d _ _ _ b4;have C:=j _ d _ _ _<|f 0 _ rfl;have p:=j _ d _ _ _<|f 1 _ rfl;have D:=j _ d _ _ _<|f 2 _ rfl;have H:=j _ d _ _ _<|f 3 _ rfl;have L:=j _ d _ _ _<|f 4 _ rfl;have qa:=j _ d _ _ _<|f 5 _ rfl;have R:=j _ d _ _ _<|f 6 _ rfl;have S:=j _ d _ _ _<|f 7 _ rfl;have T:=j _ d _ _ _<|f 8 _ rfl;simp only[yzp]at C p D H L qa R S T;rw[a3]at p;have c9:b.tb<g.heap.size:=ew (dw n _ l.tb.c0) a8;have c3:b.nb<g.heap.size:=ew (dw n _<|f 0 _ rfl) a8;have cC:b.vb<g.heap.size:=ew (dw n _ v) a8;clear l aV a2 f x aP v a6 d Z a4 t a3 hd;go_enter func158,ntmps158;go_wp21;generalize(g.alloc<|.cells #[I m,I c] 48)=v at i aA w U V a0 C p D H L qa R S T;go_cut [8,9] (λbJ bK F=>bJ= ab (g.heap.size+1) 0/\bK= aa bI (qi a+1) (qi a+1)/\F=(v.alloc<|.cells #[I<|jr a.R, aa q 1 r,.int .u64 y,.int .u64 z,.int .u64 A,.int .u64 B,I<|na a,I a.lo,I a.hi] 151).drew)
 case first=>
  go_region
  all_goals (go_wp21;go_meet;grind)
 case rest=>
 obtain⟨rfl,rfl,rfl⟩:=hcut;have d:Below v.heap.size v (v.alloc<|.cells #[I<|jr a.R, aa q 1 r,.int .u64 y,.int .u64 z,.int .u64 A,.int .u64 B,I<|na a,I a.lo,I a.hi] 151).drew:=((bp _ _).alloc ah _).drew;have f:(v.alloc<|.cells #[I<|jr a.R, aa q 1 r,.int .u64 y,.int .u64 z,.int .u64 A,.int .u64 B,I<|na a,I a.lo,I a.hi] 151).drew.heap[g.heap.size+1]?=some (.cells #[I<|jr a.R, aa q 1 r,.int .u64 y,.int .u64 z,.int .u64 A,.int .u64 B,I<|na a,I a.lo,I a.hi] 151):=by
  have:=yyb v<|.cells #[I<|jr a.R, aa q 1 r,.int .u64 y,.int .u64 z,.int .u64 A,.int .u64 B,I<|na a,I a.lo,I a.hi] 151;rw[aA]at this;exact this
 have bH:(v.alloc<|.cells #[I<|jr a.R, aa q 1 r,.int .u64 y,.int .u64 z,.int .u64 A,.int .u64 B,I<|na a,I a.lo,I a.hi] 151).drew.heap.size=g.heap.size+2:=by simp[aA]
 generalize(v.alloc<|.cells #[I<|jr a.R, aa q 1 r,.int .u64 y,.int .u64 z,.int .u64 A,.int .u64 B,I<|na a,I a.lo,I a.hi] 151).drew=aE at d f bH;have aG:=i.trans (d.mono Q);have b6:=X.below aG;have b1:=J (w.of<|d.block g.heap.size Q);have aZ:Y (Bx aE (g.heap.size+1) q r a.lo):=⟨by rw[yya aE _ 1 _ 151 (0,0) f];rfl,by rw[yya aE _ 7 _ 151 (0,0) f];rfl⟩;clear U V a0 C p D H L qa R S T i w d f;go_wp21;(try go_simp);go_loopw [10] (λu wr=>∃(d f:Nat)(p:co),d<=a.lo+b.s.size/\f<=c/\(a.lo-d)+(c-f)+d<=a.lo+b.s.size/\u=I d/\Y (Lf wr g.heap.size f c)/\Y (Bx wr (g.heap.size+1) q r a.lo)/\Y (uk b n s mt p wr)/\Y (Fo s g wr)/\Y (Zt (bi b.s b.bc e) a.lo a.hi d f c)/\Y (∀k,repP (bi b.s b.bc) (jg b.s b.bc) e a.lo a.hi (a.lo+b.s.size+1-d) d f c p k->repP (bi b.s b.bc) (jg b.s b.bc) e a.lo a.hi (a.lo+b.s.size+1) 0 m c P k)) (λu _=>a.lo+b.s.size+2-(intOf u).toNat)
 case atStart=>exact⟨0,m,P,ey _,bG,Q,rfl,b1,aZ,b6,Fo.wm aG,b7,λk h=>h⟩
 obtain⟨d,f,p,c2,bF,c1,rfl,aI,aH,D,a2,aM,aF⟩:=hrel;obtain⟨cI,cJ,cK⟩:=aI.out;obtain⟨bM,cS⟩:=aH.out;have c6:=D.out.lt;have cE:g.heap.size+1<wr.heap.size:=dw wr _ bM;have cG:=j wr D.out.b _ _ _ b0;by_cases a7:f<c
 .obtain⟨T,x,C,a3,H⟩:=aao Q aM.out a7;have V:=K.st e f x Q C;have a0:=Nj (K.st e) V.2 H;have aK:Y (∃i,f<=i/\i<=c/\(bi b.s b.bc e f i/\Zt (bi b.s b.bc e) a.lo a.hi (d+1) i c)):=⟨x,V.1,a0.1,C,H⟩;have b3:Y (∀i,pr (λi=>bi b.s b.bc e f i/\Zt (bi b.s b.bc e) a.lo a.hi (d+1) i c) f c i->d<a.lo\/f<i):=λi a9=>by
   by_cases U:d<a.lo
   .exact .inl U
   right;obtain⟨L,qa,w,R⟩:=a9;grind
  obtain⟨w,bU,bV,b5⟩:∃w:Nat,min ((d:Int)+1) (qi a:Int)=w/\w<=qi a/\Y (Tl b.s.size (E o w)<|Zt (bi b.s b.bc e) a.lo a.hi<|d+1):=by
   by_cases qa:d+1<=qi a
   .exact⟨d+1,Q,qa,aL (d+1) qa⟩
   refine⟨qi a,Q,ah,?_⟩;have R:=aJ.1;have S:=aJ.2;by_cases L:a.hi<0
   .exact(aL (qi a) ah).iff λa4 u=>by rw[Jr Q L,Jr Q L]
   omega
  obtain⟨b9,b8,L,bS,bE⟩:=aW.H w Q;have cH:=j wr D.out.b _ _ _ L;have a4:=D.out.below (bp wr.heap.size wr).drew;have bT:(f:Int)<c:=Q
  have bY:((qi a:Int)+1-1)=(qi a:Int):=Q
  have bZ:(w:Int)<(qi a:Int)+1:=Q
  clear C a3 H V a0 L T;go_wp21;go_region_with (first
    |(go_at_call 192;(go_call ac4 b E aB n s W K aN e f c b9 b8 mt p _ (E o w) (Zt (bi b.s b.bc e) a.lo a.hi<|d+1) aT aU a4 bF aR bE b5.out (λi a9=>(a9.sat aK).1)as a5 bL ⟨i,rfl,aQ,qa,T,S,R⟩;have L:=J aQ;have a3:=J S;have a6:=(Fo.wm (bp wr.heap.size wr).drew).trans R;have aO:=aI.out.of (a6.block g.heap.size Q Q);have b2:=J aO;obtain⟨cM,cN,cP⟩:=aO;have aY:=J (aH.out.of<|a6.block (g.heap.size+1) Q Q);clear aQ S R)))
  all_goals
   have aQ:=L.2.1;have cA:=L.1;have c7:=b3 i L;go_wp21;go_roundw
   case rel=>
    refine⟨d+1,i,qa,Q,aQ,Q,qJ,b2.set _,aY.of<|er _ _ _ _ qC,?_,(a2.out.trans a6).fi ah _ _,(L.sat aK).2,λk h=>aF.out k ?_⟩
    .exact⟨T.b.setCell qC _,T.o.cw<|er _ _ _ _ qC,T.l⟩
    rw[show a.lo+b.s.size+1-d=(a.lo+b.s.size+1-(d+1))+1 from Q];exact .inr ⟨a7,i,qa,L,a3,h⟩
   simp[intOf];omega
 have a6:f=c:=Q
 subst a6;have i:Y (∀k,((d<a.lo/\jg b.s b.bc e f f p k)\/(¬d<a.lo/\k=p))->repP (bi b.s b.bc) (jg b.s b.bc) e a.lo a.hi (a.lo+b.s.size+1) 0 m f P k):=λk h=>aF.out k (by
  rw[show a.lo+b.s.size+1-d=(a.lo+b.s.size-d)+1 from Q];exact .inl ⟨a7,h⟩)
 by_cases U:d<a.lo
 .have L:Y (bi b.s b.bc e f f):=by
   obtain⟨x,C,H⟩:=(Js U).1 aM.out;have V:=K.st e f x Q C;have a0:=Nj (K.st e) V.2 H;obtain rfl:x=f:=Q
   exact C
  have a4:=D.out.below (bp wr.heap.size wr).drew;go_wp21;go_region_with (first
   |(go_at_call 108;(go_call aN e f f mt p _ aT aU a4 L ah aR as a5 bL ⟨rfl,qa,T,S,R⟩;have a3:=J S;have w:=(Fo.wm (bp wr.heap.size wr).drew).trans R;clear S R)))
  all_goals
   go_wp21;go_returns;exact⟨rfl,qa,T,i qa<|.inl ⟨U,a3⟩,a2.out.trans w⟩
 go_wp21;go_returns;exact⟨rfl,p,D.out,i p<|.inr ⟨U,rfl⟩,a2.out⟩
theorem ao4(b:Pp)(H:Nat->Nat->Nat->Nat->Bool)(L:Nat->Nat)(o:ae)(j F:Nat)(q:Ctx b H L o j)(aK:Fa b H L o j F):Fa b H L o j (F+1):=by
 intro m c d mt i g bA aO Z x a3 a4
 obtain ⟨a,hd⟩:∃a,b.bc[m]? =some a:=⟨_,dy aO⟩;have a7:=q;have a2:=J aK;have a8:=J x;have z:=q.pn m a hd;have aG:=J hd;have W:Y (∀k,jg b.s b.bc m c d i k↔_):=fun k=>yk q.wf q.h3 hd c d i k
 have aP:Y (bi b.s b.bc m c d↔_):=oy q.wf hd c d;obtain ⟨D,v,R,S,T,U,C,y,bM,t⟩:=q.tb.node m a hd;have aH:=J y;have b6:=q.tb.js;have bD:=q.g9;have b7:=Z.lt;have b5:=q.tb.ko;have aQ:=Z.b.size;have bE:=q.ob;have bF:=z.k6;have s:Y (∀(a6:ae),Below o.heap.size o a6->∀X a5 aC,o.cell? (O X a5)=some aC->a6.cell? (O X a5)=some aC):=fun a6 aX X a5 aC a0=>(ac a5 (aX.block X (dw o _ a0))).trans a0
 have u:Below g.heap.size g (g.alloc (.cells #[I c, I d] 48)):=(bp _ _).alloc ah _;have aD:(g.alloc (.cells #[I c, I d] 48)).heap.size=g.heap.size+1:=qD
 have w:=Lf.new g c d 48;have p:=(Z.below u).b;have aE:=s _ p _ _ _ q.tb.c0;have A:=s _ p _ _ _ (t 0 _ rfl);have B:=s _ p _ _ _ (t 1 _ rfl);have E:=s _ p _ _ _ (t 2 _ rfl);have K:=s _ p _ _ _ (t 3 _ rfl);have P:=s _ p _ _ _ (t 4 _ rfl);have qa:=s _ p _ _ _ (t 5 _ rfl);have a1:=s _ p _ _ _ (t 6 _ rfl);have aA:=s _ p _ _ _ (t 7 _ rfl);have aB:=s _ p _ _ _ (t 8 _ rfl);simp only [Nat.add_zero] at A B E K P qa a1 aA aB;clear q aK x hd C y t p;go_in;go_upto_region 2 with fail
 have C:Below g.heap.size g ((g.alloc (.cells #[I c, I d] 48)).alloc (.cells #[I (jr a.R), .slice D a.ba.length v, .int .u64 R, .int .u64 S, .int .u64 T, .int .u64 U, I (na a), I a.lo, I a.hi] 151)):=u.alloc Q _;have t:((g.alloc (.cells #[I c, I d] 48)).alloc (.cells #[I (jr a.R), .slice D a.ba.length v, .int .u64 R, .int .u64 S, .int .u64 T, .int .u64 U, I (na a), I a.lo, I a.hi] 151)).heap[g.heap.size+1]? =some (.cells #[I (jr a.R), .slice D a.ba.length v, .int .u64 R, .int .u64 S, .int .u64 T, .int .u64 U, I (na a), I a.lo, I a.hi] 151):=Vy g _ _;have a9:Lf ((g.alloc (.cells #[I c, I d] 48)).alloc (.cells #[I (jr a.R), .slice D a.ba.length v, .int .u64 R, .int .u64 S, .int .u64 T, .int .u64 U, I (na a), I a.lo, I a.hi] 151)) g.heap.size c d:=w.of (im _ _ _ Q);have aR:((g.alloc (.cells #[I c, I d] 48)).alloc (.cells #[I (jr a.R), .slice D a.ba.length v, .int .u64 R, .int .u64 S, .int .u64 T, .int .u64 U, I (na a), I a.lo, I a.hi] 151)).heap.size=g.heap.size+2:=qD
 clear aE A B E K P qa a1 aA aB u w aD;generalize ((g.alloc (.cells #[I c, I d] 48)).alloc (.cells #[I (jr a.R), .slice D a.ba.length v, .int .u64 R, .int .u64 S, .int .u64 T, .int .u64 U, I (na a), I a.lo, I a.hi] 151))=p at C t a9 aR;have y:=Z.below C;have aS:=J a9;have qa:p.cell? (O (g.heap.size+1) 0)=some (I (jr a.R)):=by rw [cell_of_row p _ 0 _ 151 (0,0) t];rfl
 have aL:p.cell? (O (g.heap.size+1) 1)=some (.slice D a.ba.length v):=by rw [cell_of_row p _ 1 _ 151 (0,0) t];rfl
 have aM:p.cell? (O (g.heap.size+1) 6)=some (I (na a)):=by rw [cell_of_row p _ 6 _ 151 (0,0) t];rfl
 obtain ⟨aY,aZ,b0⟩:=a9;clear t;obtain f|f|f|f|f:a.R<=2\/a.R=3\/a.R=4\/a.R=5\/a.R=6:=Q
 .--m leaf
  have w:Y (jg b.s b.bc m c d i i):=by
   rw [Y,W.out];rw [N Q,N Q,N Q,N Q]
  obtain hp|hp|hp:jr a.R=2\/jr a.R=0\/jr a.R=1:=by
   unfold jr;omega
  all_goals
   rw [hp] at qa;clear hp f;go_wp21;go_returns;exact ⟨rfl,i,y,w,Fo.wm C⟩
 .--m b4
  rw [show jr a.R=3 from by rw [f];rfl] at qa;rw [show na a=(a.num:Int)+1 from by rw [na,G f]] at aM;obtain ⟨x,t⟩:=z.one (.inl f);have bG:=z.num f;have bH:=z.sub x (by rw [t];simp);have aA:=J t;obtain aB|⟨K,rfl,aT,P⟩:=aH
  .rw [aB] at t;cases t
  have E:=J (P 0 x (by rw [t];rfl));have A:a.ba.length=1:=by rw [t];rfl
  rw [A] at aL;have aU:Y (bi b.s b.bc x c d):=by
   have:=aP.1 a8;rw [N Q,N Q,N Q,N Q,N Q,t] at this;obtain ⟨u,a1,B⟩:=this;obtain rfl:u=x:=qK a1
   exact B
  have w:Y (∀k,jg b.s b.bc x c d (i.set a.num ((c:Int),(d:Int))) k->jg b.s b.bc m c d i k):=fun k h=>by
   rw [W.out,G f,aA.out];exact h
  have aN:=Z.l;obtain ⟨aD,aE,a0⟩:∃aD aE,(mt::i)[a.num+1]? =some (aD,aE):=by
   grind
  obtain ⟨aF,b1,b2,b3⟩:=y.o (a.num+1) aD aE a0;have b8:K<g.heap.size:=ew (dw o _ E) aQ;have b9:K≠j:=by have:=dw o _ E;simp only at this;omega
  have B:=s p y.b _ _ _ E;clear f P t A a0;go_wp21;have aI:Fo j g ((p.setCell (O j ((a.num+1)*2)) (I c)).setCell (O j ((a.num+1)*2+1)) (I d)):=((Fo.wm C).set _ _).set _ _;have A:uk b o j mt (i.set a.num ((c:Int),(d:Int))) ((p.setCell (O j ((a.num+1)*2)) (I c)).setCell (O j ((a.num+1)*2+1)) (I d)):=by
   refine ⟨(y.b.setCell qC _).setCell qC _, ?_,qE⟩;have:=y.o.put (q:=a.num+1) c d qB;rw [List.set_cons_succ] at this;exact this
  have aJ:Lf ((p.setCell (O j ((a.num+1)*2)) (I c)).setCell (O j ((a.num+1)*2+1)) (I d)) g.heap.size c d:=(aS.of (er _ _ _ _ qC)).of (er _ _ _ _ qC);have aV:((p.setCell (O j ((a.num+1)*2)) (I c)).setCell (O j ((a.num+1)*2+1)) (I d)).cell? (O (g.heap.size+1) 1)=some (aa K 1 v):=qI
  generalize ((p.setCell (O j ((a.num+1)*2)) (I c)).setCell (O j ((a.num+1)*2+1)) (I d))=w3 at aI A aJ aV;have aW:=A.below (bp w3.heap.size w3).drew;obtain ⟨bI,bJ,bK⟩:=aJ;have bL:=s w3 A.b _ _ _ E;clear A aF b1 b2 b3 qa aL aM aY aZ b0 B;go_region_with (first
   |(go_at_call 108;(go_call a2 x c d mt (i.set a.num ((c:Int),(d:Int))) _ Q Q aW aU a3 a4 as e aF ⟨rfl,M,l,n,r⟩;have A:=J n;have B:=(Fo.wm (bp w3.heap.size w3).drew).trans r;clear n r)))
  all_goals
   go_wp21;go_returns;exact ⟨rfl,M,l,w M A,aI.trans B⟩
 .--ways
  rw [show jr a.R=6 from by rw [f];rfl] at qa;obtain ⟨aD,aI⟩:=z.two (.inl f);obtain aB|⟨K,rfl,aT,P⟩:=aH
  .rw [aB] at aD;simp at aD
  have E:=J P;have aJ:Y (∀u∈a.ba,u<F/\u<b.bc.length):=fun u a1=>by have:=z.sub u a1;omega
  have aE:K<o.heap.size:=by
   obtain ⟨u,a1⟩:∃u,a.ba[0]? =some u:=⟨_,dy Q⟩;exact dw o _ (P 0 u a1)
  have w:Y (∀k,altG (bi b.s b.bc) (jg b.s b.bc) a.ba c d i k->jg b.s b.bc m c d i k):=fun k h=>by
   rw [W.out,N Q,G f];exact h
  clear f P;go_wp21;go_call aoz b H L o j F a7 a2 a.ba K v c d mt i _ aJ aI aE E y a3 a4 as e aF ⟨rfl,M,l,n,r⟩;have A:=J (w M n);have B:=(Fo.wm C).trans r;clear n r;go_wp21;go_returns;exact ⟨rfl,M,l,A,B⟩
 .--m row
  rw [show jr a.R=5 from by rw [f];rfl] at qa;have w:Y (∀k,ik (bi b.s b.bc) (jg b.s b.bc) a.ba c d i k->jg b.s b.bc m c d i k):=fun k h=>by
   rw [W.out,N Q,N Q,G f];exact h
  have P:=J f;clear f;go_wp21;go_call ao3 b H L o j F a7 a2 m a aG P Q c d mt i _ y a3 a4 a8 as e aF ⟨rfl,M,l,n,r⟩;have A:=J (w M n);have B:=(Fo.wm C).trans r;clear n r;go_wp21;go_returns;exact ⟨rfl,M,l,A,B⟩
 --m V
 rw [show jr a.R=4 from by rw [f];rfl] at qa;obtain ⟨x,t⟩:=z.one (.inr f);have w:Y (∀k,repP (bi b.s b.bc) (jg b.s b.bc) x a.lo a.hi (a.lo+b.s.size+1) 0 c d i k->jg b.s b.bc m c d i k):=fun k h=>by
  rw [W.out,N Q,N Q,N Q,G f,t];exact h
 have P:=J f;have aA:=J t;clear f t;go_wp21;go_call ao0 b H L o j F a7 a2 m x a aG P aA Q c d mt i _ y a3 a4 a8 as e aF ⟨rfl,M,l,n,r⟩;have A:=J (w M n);have B:=(Fo.wm C).trans r;clear n r;go_wp21;go_returns;exact ⟨rfl,M,l,A,B⟩
def ac5(e:Pp)(a:Nat->Nat->Nat->Nat->Bool)(d:Nat->Nat)(b:ae)(c:Nat)(f:Ctx e a d b c):∀N,Fa e a d b c N
 |0=>fun g j k mt h l i=>Q
 |N+1=>ao4 e a d b c N f (ac5 e a d b c f N)
section
def MO(a b:af):Sem af:=Instr.makeSlice 41 a b
def aab:Instr.makeSlice 41 V X=MO V X:=rfl
attribute [local go_sem↓] aab
def apx:(prog.info? 48).map (λa=>(a.zero,a.size,a.bytes))=some (some<|.agg #[I 0,I 0],2,16):=qF
theorem at3(n:i<=100000):∃d:Array af,(∀b,b<i*2->d[b]?=some (I 0))/\∀a,(MO (I i)<|I i).run prog a=.ok (aa a.heap.size i i) (a.alloc<|.cells d 48):=by
 let⟨j,e,f,g,h⟩:=yyf apx;refine⟨madeCells (Value.agg #[I 0,I 0]).cells<|i*2,λb k=>Pj _ _ ?_ ?_ _ b k,λa=>?_⟩
 .intro c l
  have m:c<2:=by simpa[Value.cells]using l
  obtain rfl|rfl:c=0\/c=1:=Q
  .rfl
  rfl
 .simp[Value.cells]
 have:=yxt (P:=prog) a 41 48 j _ underlying41 e f .i64 .i64 i i Q (yzw _) (by rw[h];omega) Q;rw[g]at this;rw[<-aab];grind
def tc(n:Nat):co:=List.replicate n ((-1:Int),(-1:Int))
theorem auy(a:Pp)(o:Nat->Nat->Nat->Nat->Bool)(q:Nat->Nat)(b:ae)(k:pz b a a.bc.length o q)(T:∀(j:Nat)(l:Nd),a.bc[j]?=some l->Cn a.s (bi a.s a.bc) l (q j) (o j))(E:∀(j:Nat)(l:Nd),a.bc[j]?=some l->ww j a.eu l)
  (U:a.eu<=9) (X:a.root<a.bc.length) (d c:Nat) (qa:bi a.s a.bc a.root d c) (Z:d<=c) (a9:c<=a.s.size):
  Calls prog 68 #[.pointer<|some ⟨a.tb,0,none⟩,.agg #[.int .i64 d,.int .i64 c]] b
   λp S=>∃r,p=.returned (.slice (some ⟨r,0,none⟩) (a.eu+1)<|a.eu+1)/\b.heap.size<=r/\∃z,rx S r (((d:Int),(c:Int))::z)/\z.length=a.eu/\jg a.s a.bc a.root d c (tc a.eu) z/\Below b.heap.size b S:=by
 have V:Y (Ctx a o q b<|b.heap.size+1):=⟨k,T,E,Q,U⟩;have W:=J qa;have aE:=k.js;have aD:=k.ko;have h:=k.c1;have m:=k.c2;have a0:=J h;have aG:=J m;have H:a.tb<b.heap.size:=dw b _ h;obtain⟨g,e,x⟩:=at3 (a.eu+1) Q;rw[show((a.eu+1:Nat):Int)=1+(a.eu:Int)by omega]at x;have L:=J e;clear k T E qa e;go_in;go_upto_region 2 with fail
 have y:Below b.heap.size b ((b.alloc<|.cells #[I d,I c] 48).alloc<|.cells g 48):=((bp _ _).alloc ah _).alloc qD _;have e:((b.alloc<|.cells #[I d,I c] 48).alloc<|.cells g 48).heap[b.heap.size+1]?=some (.cells g 48):=Vy b _ _;have A:Lf ((b.alloc<|.cells #[I d,I c] 48).alloc<|.cells g 48) b.heap.size d c:=(Lf.new b d c 48).of (im _ _ _ qD);have a1:((b.alloc<|.cells #[I d,I c] 48).alloc<|.cells g 48).heap.size=b.heap.size+2:=qD
 generalize((b.alloc<|.cells #[I d,I c] 48).alloc<|.cells g 48)=n at y e A a1;have w:rx n (b.heap.size+1) (List.replicate (a.eu+1) ((0:Int),(0:Int))):=by
  intro f t u i
  have s:f<a.eu+1:=by
   have:=(jy.1 i).1;simpa using this
  rw[yxc s]at i;cases i
  refine⟨?_,?_,?_,?_⟩
  .rw[yya n _ _ g 48 (0,0) e];exact L _ Q
  .rw[yya n _ _ g 48 (0,0) e];exact L _ Q
  .simp[World.frozen?,e]
  simp[World.frozen?,e]
 have a2:=J w;have a3:=J A;obtain⟨aA,aB,aC⟩:=A;obtain⟨s,t,u,v⟩:=w 0 0 0 qE;have aI:=(ac 2<|y.block a.tb H).trans m;have aF:a.tb≠b.heap.size+1:=Q
 simp only[zyh,qo]at s t u v;clear e w h m x;go_wp21;go_loopw [22] (λB wr=>∃(e:Nat)(h:List (Int×Int)),e<=a.eu/\B=I e/\h.length=a.eu/\Y (rx wr (b.heap.size+1) (((d:Int),(c:Int))::h))/\Y (∀f,f<e->h[f]?=some ((-1:Int),(-1:Int)))/\Y (Below b.heap.size b wr)/\Y (Lf wr b.heap.size d c)) (λB _=>a.eu+1-(intOf B).toNat)
 case atStart=>
  refine⟨0,List.replicate a.eu ((0:Int),(0:Int)),ey _,rfl,qD,?_,λf w=>Q,(y.setCell qC _).setCell qC _,(a3.of<|er _ _ _ _ qC).of<|er _ _ _ _ qC⟩;have:=a2.put (q:=0) d c qD;rw[List.replicate_succ,List.set_cons_zero]at this;simp only[zyh,qo]at this;exact this
 obtain⟨e,h,aJ,rfl,K,w,P,x,M⟩:=hrel;by_cases a4:e<a.eu
 .obtain⟨C,D,R⟩:∃C D,(((d:Int),(c:Int))::h)[1+e]?=some (C,D):=by
   grind
  obtain⟨u1,u2,u3,u4⟩:=w.out (1+e) C D R;clear R s t u v;go_wp21;go_roundw
  case rel=>
   refine⟨e+1,h.set e ((-1:Int),(-1:Int)),a4,qJ,by rw[tj];exact K,?_,λf i=>?_,(x.setCell qC _).setCell qC _,(M.of<|er _ _ _ _ qC).of<|er _ _ _ _ qC⟩
   .have:=w.put (q:=1+e) (-1) (-1) qB;rw[yzq 1 e,yyl]at this;rw[yzq 1 e];exact this
   by_cases p:f=e
   .grind
   rw[xe Q];exact P.out f Q
  simp[intOf];omega
 have R:e=a.eu:=Q
 subst R;have a5:h=tc a.eu:=by
  unfold tc;refine yyy λf=>?_
  by_cases i:f<a.eu
  .rw[P.out f i,yxc i]
  rw[je Q,je qB]
 subst a5;have D:Y (uk a b (b.heap.size+1) ((d:Int),(c:Int)) (tc a.eu) wr):=⟨x.out,w.out,K⟩;have a6:=D.below (bp wr.heap.size wr).drew;obtain⟨aA,aB,aC⟩:=M.out;have aH:=(ac 1<|x.block a.tb H).trans a0;clear s t u v;go_wp21;go_region_with (first
  |(go_at_call 108;(go_call ac5 a o q b (b.heap.size+1) V (a.root+1) a.root d c ((d:Int),(c:Int)) (tc a.eu) _ Q X a6 W Z a9 as p aK ⟨rfl,m,F,C,a7⟩;have a8:=J C;clear C a7)))
 all_goals
  go_wp21;go_ret;exact⟨_,rfl,Q,m,F.o,F.l,a8,F.b⟩
def zw(L:Nat)(R:Nat->Nat->Prop)(pl i j:Nat):Prop:=pl<=i/\i<=j/\j<=L/\R i j/\(∀i' j',pl<=i'->i'<i->¬R i' j')/\∀j',j<j'->¬R i j'
theorem zw.one{g d f b c:Nat}(k:zw a C g d f)(j:zw a C g b c):d=b/\f=c:=by
 let⟨l,r,s,h,m,n⟩:=k;let⟨o,t,u,i,p,q⟩:=j;grind
def aob(a:Pp)(u:Nat->Nat->Nat->Nat->Bool)(v:Nat->Nat)(h:ae)(l:pz h a a.bc.length u v)(C:∀(m:Nat)(q:Nd),a.bc[m]?=some q->Cn a.s (bi a.s a.bc) q (v m) (u m))(D:∀(m:Nat)(q:Nd),a.bc[m]?=some q->ww m a.eu q)
  (E:a.eu<=9) (r:a.root<a.bc.length) (i:Nat) (a5:i<=a.s.size+1):
  Calls prog 44 #[.pointer<|some ⟨a.tb,0,none⟩,.int .i64 i] h
   λk M=>Below h.heap.size h M/\((k=.returned (.slice none 0 0)/\∀b d,i<=b->b<=a.s.size->¬bi a.s a.bc a.root b d)\/
    ∃o b d p,k=.returned (.slice (some ⟨o,0,none⟩) (a.eu+1)<|a.eu+1)/\h.heap.size<=o/\zw a.s.size (bi a.s a.bc a.root) i b d/\rx M o (((b:Int),(d:Int))::p)/\p.length=a.eu/\jg a.s a.bc a.root b d (tc a.eu) p):=by
 have a3:=l;have a6:=J C;have a7:=J D;have n:Y (Ctx a u v h h.heap.size):=⟨l,C,D,Q,E⟩;have aF:=l.js;have aK:=l.c1;let⟨aB,aA,W,P⟩:=l.Ze r;have X:=P.lt;go_in;go_wp21;go_call Qy as k H ⟨rfl,aG⟩;subst H;go_wp21;go_loopw [6] (λB wr=>∃(b:Nat),i<=b/\b<=a.s.size+1/\B=I b/\Y (∀f c,i<=f->f<b->¬bi a.s a.bc a.root f c)/\Y (Below h.heap.size h wr)) (λB _=>a.s.size+2-(intOf B).toNat)
 .exact⟨i,ah,a5,rfl,λf c g e=>Q,bp _ _⟩
 obtain⟨b,a8,aH,rfl,y,t⟩:=hrel;by_cases j:b<=a.s.size
 .have a9:=P.below t X;let⟨T,V,K,qa,R,S,aD⟩:=a9.cell b j;go_wp21;go_call apa as k H ⟨d,ok,rfl,A,aC⟩;have w:=t.trans<|A.mono t.size;have Z:=w.size;obtain⟨rfl,aI,F,s⟩|⟨rfl,s⟩:=aC
  .have z:=J<|(n.tl r b j d).1 F;have x:=n.st a.root b d j z;have U:Y (zw a.s.size (bi a.s a.bc a.root) i b d):=by
    refine⟨a8,x.1,x.2,z,y,λc g e=>?_⟩;have a4:=n.st a.root b c j e;have:=(n.tl r b j c).2 e;rw[s c g Q]at this;cases this
   go_wp21;go_call auy a u v _ (a3.below w) a6 a7 E r b d z x.1 x.2 as k aL ⟨o,rfl,aJ,p,g,e,h3,L⟩;have a0:=J g;have a1:=J h3;have a2:=w.trans<|L.mono Z;go_wp21;go_ret;exact⟨a2,.inr ⟨o,b,d,p,rfl,Q,U,a0,e,a1⟩⟩
  have x:Y (∀c,¬bi a.s a.bc a.root b c):=λc e=>by
   have a4:=n.st a.root b c j e;have:=(n.tl r b j c).2 e;rw[s c Q]at this;cases this
  go_wp21;go_roundw
  .exact⟨b+1,Q,Q,qJ,λf c g e=>by
         by_cases k:f=b
         .subst k;exact x c
         exact y f c g Q,w⟩
  simp[intOf];omega
 go_wp21;go_ret;exact⟨t,.inl ⟨rfl,λf c g e=>y f c g Q⟩⟩
end
def agy{u:Nat->Nat->Nat->Prop}{l:Nat->Nat->Nat->co->co->Prop}(p:∀k c d b e g,l k c d b e->l k c d b g->e=g){k t:Nat}{s:Int}:∀{f m c d:Nat} {b e g:co},repP u l k t s f m c d b e->repP u l k t s f m c d b g->e=g
 |0,_,_,_,_,_,_,h,a=>by rw[h,a]
 |f+1,m,c,d,b,e,g,h,a=>by
  obtain⟨q,h⟩|⟨q,B,A,w,x,v⟩:=h
  .obtain⟨_,a⟩|⟨r,_⟩:=a
   .obtain⟨i,j⟩|⟨i,j⟩:=h
    .obtain⟨_,n⟩|⟨o,_⟩:=a
     .exact p _ _ _ _ _ _ j n
     exact cb i o
    obtain⟨o,_⟩|⟨_,n⟩:=a
    .exact cb o i
    rw[j,n]
   exact cb r q
  obtain⟨r,_⟩|⟨_,y,z,i,j,o⟩:=a
  .exact cb q r
  have n:=w.one i;subst n;have n:=p _ _ _ _ _ _ x j;subst n;exact agy p v o
def af7(k:ag)(j:List Nd):∀{f m e g:Nat} {d h i:co},md k j f m e g d h->md k j f m e g d i->h=i
 |0,_,_,_,_,_,_,c,_=>c.elim
 |f+1,m,e,g,d,h,i,c,b=>by
  obtain⟨s,r,c⟩:=c;obtain⟨t,n,b⟩:=b;rw[r]at n;cases n
  have l:∀o e g d h i,md k j f o e g d h->md k j f o e g d i->h=i:=λ_ _ _ _ _ _ p q=>af7 k j p q
  split at c
  .rename_i a;rw[G a]at b;exact l _ _ _ _ _ _ c b
  rename_i a;rw[N a]at b;split at c
  .rename_i a;rw[G a]at b;exact altG.one l c b
  rename_i a;rw[N a]at b;split at c
  .rename_i a;rw[G a]at b;exact ik.one l c b
  rename_i a;rw[N a]at b;split at c
  .rename_i a;rw[G a]at b;exact agy l c b
  rename_i a;rw[N a]at b;rw[c,b]
def sq(p t:ag)(pl:Nat)(sp:List (Int×Int)):Prop:=
 ∃(i j:Nat)(c:co),sp=((i:Int),(j:Int))::c/\zw t.size (bi t (il p).1.l (il p).2) pl i j/\c.length=eo p/\jg t (il p).1.l (il p).2 i j (tc<|eo p) c
def sq.one{d e:ag}{b:Nat}{c a:List (Int×Int)}(i:sq d e b c)(f:sq d e b a):c=a:=by
 obtain⟨m,n,l,rfl,g,o,h⟩:=i;obtain⟨p,q,r,rfl,j,s,k⟩:=f;obtain⟨rfl,rfl⟩:=g.one j;have:=af7 _ _ h k;rw[this]
def fj(mf:Mf):Prop:=∀p t pl,(∀sp,sq p t pl sp->mf p t pl=some sp)/\((∀sp,¬sq p t pl sp)->mf p t pl=none)
def fj.sj{g:Mf}(f:fj g){b:List (Int×Int)}(c:g s t a=some b):sq s t a b:=by
 by_cases d:∃b,sq s t a b
 .obtain⟨h,e⟩:=d;have:=(f s t a).1 h e;rw[this]at c;cases c
  exact e
 have:=(f s t a).2<|λb e=>d ⟨b,e⟩;rw[this]at c;cases c
def aqw:∃j:Mf,fj j:=by
 have h:∀a:ag×ag×Nat,∃g:Option (List<|Int×Int),(∀b,sq a.1 a.2.1 a.2.2 b->g=some b)/\((∀b,¬sq a.1 a.2.1 a.2.2 b)->g=none):=λa=>by
  by_cases f:∃b,sq a.1 a.2.1 a.2.2 b
  .obtain⟨b,d⟩:=f;exact⟨some b,λe c=>by rw[d.one c],λc=>cb d<|c b⟩
  exact⟨none,λe c=>cb ⟨e,c⟩ f,λ_=>rfl⟩
 obtain⟨f,i⟩:=Classical.axiomOfChoice h;exact⟨λd e c=>f (d,e,c),λd e c=>i (d,e,c)⟩
def Pt(w:ae)(t:ag)(v0 v1 v2:af):Prop:=
 ∃nb cap:Nat,v0= aa nb (il t).1.l.length cap/\v1=I ((il t).2:Nat)/\v2=I (eo t:Nat)/\eo t<=9/\(il t).2<(il t).1.l.length/\∀w',Below w.heap.size w w'->yl w' nb (il t).1.l (eo t)
def jz.pt(g:jz w a b s x y z)(f:s.size<=40):Pt w s x y z:=by
 obtain⟨h,i,k⟩:=g;obtain⟨l,e,m,n,r,o,c⟩:=k f;exact⟨l,e,m,n,h,i,o,λp d=>c.2 p (λj _ q=>d.block j<|ew q c.1)<|bq c.1 d.size⟩
def Pt.below(e:Pt w s x y z)(a:Below w.heap.size w u):Pt u s x y z:=by
 obtain⟨f,b,g,h,i,j,k,l⟩:=e;exact⟨f,b,g,h,i,j,k,λc d=>l c<|a.trans<|d.mono a.size⟩
def Tb(w:ae)(p t:ag)(tb:Nat):Prop:=∃nb vb cap T m,pz w ⟨(il p).1.l,t,(il p).2,eo p,tb,nb,vb,cap⟩ (il p).1.l.length T m/\(∀a d,(il p).1.l[a]?=some d->Cn t (bi t (il p).1.l) d (m a) (T a))/\(∀a d,(il p).1.l[a]?=some d->ww a (eo p) d)/\eo p<=9/\(il p).2<(il p).1.l.length
def Tb.below{a e:ae}{c d:ag}{b:Nat}(m:Tb a c d b)(h:Below a.heap.size a e):Tb e c d b:=by
 obtain⟨i,j,g,f,n,k,l⟩:=m;exact⟨i,j,g,f,n,k.below h,l⟩
def Vo(b d:ag)(g h j:af)(a:ae)(o:Pt a b g h j)(p:d.size<=80):
  Calls prog 43 #[.agg #[g,h,j],.string d] a λi e=>∃c,i=.returned (.pointer<|some ⟨c,0,none⟩)/\Tb e b d c/\Below a.heap.size a e:=by
 obtain⟨k,f,rfl,rfl,rfl,q,t,l⟩:=o;go_call aqq d k f (il b).2 (eo b) (il b).1.l a (l a<|bp _ _) p as i e ⟨c,rfl,n,T,m,r,s,u⟩;exact⟨c,rfl,⟨k,n,f,T,m,r,s,(l a<|bp _ _).wf,q,t⟩,u⟩
def Hu(w:ae)(r:Option (List<|Int×Int))(u:af)(lo:Nat):Prop:=
 match r with
 |none=>u=.slice none 0 0
 |some sp=>∃ob,u= aa ob sp.length sp.length/\lo<=ob/\rx w ob sp
def Gg(h:Mf)(m:fj h)(a c:ag)(i b:Nat)(d:ae)(C:Tb d a c i)(A:b<=c.size+1:=by omega):
  Calls prog 44 #[.pointer<|some ⟨i,0,none⟩,.int .i64 b] d λl k=>Below d.heap.size d k/\∃p,l=.returned p/\Hu k (h a c b) p d.heap.size:=by
 obtain⟨F,H,B,z,E,K,L,q,r,s⟩:=C;go_call aob ⟨(il a).1.l,c,(il a).2,eo a,i,F,H,B⟩ z E d K L q r s b A as l k ⟨t,j⟩;refine⟨t,?_⟩;obtain⟨rfl,j⟩|⟨u,f,g,n,rfl,v,w,x,o,y⟩:=j
 .refine⟨_,rfl,?_⟩;have:h a c b=none:=(m a c b).2 λM D=>by
   obtain⟨f,g,P,_,e,_,_⟩:=D;exact j f g e.1 (bq e.2.1 e.2.2.1) e.2.2.2.1
  rw[this];rfl
 refine⟨_,rfl,?_⟩;have:h a c b=some (((f:Int),(g:Int))::n):=(m a c b).1 _ ⟨f,g,n,rfl,w,o,y⟩;rw[this];refine⟨u,?_,v,x⟩;rw[xv,o]
def alp:prog.cellsOf 5=1:=qF
theorem aqs(h:i<=1000000):∃b:Array af,b.size=i/\∀a:ae,(Instr.makeSlice 99 (I i)<|I i).run prog a=.ok (aa a.heap.size i i) (a.alloc<|.cells b 5):=by
 let⟨g,c,d,e,f⟩:=yyf Ei;refine⟨madeCells (Value.int .u8 0).cells<|i*1,by simp[size_madeCells],λa=> ?_⟩;have:=yxt (P:=prog) a 99 5 g _ underlying99 c d .i64 .i64 i i Q (yzw _) (by rw[f];omega) Q;grind
theorem copied(a:Array af)(b:a.size=S.size):(a.toList.take 0++Lib.byteCells S.data.toList++a.toList.drop (0+S.size)).toArray=(Lib.byteCells S.data.toList).toArray:=by
 grind
theorem ap9(f:S.size<=1000000):
  Calls prog 242 #[.string S] W λc n=>c=.returned (.string S)/\Below W.heap.size W n:=by
 by_cases d:S.size=0
 .obtain rfl:S=⟨#[]⟩:=by
   apply va;simp_all
  go_in;go_wp2;go_ret;exact⟨rfl,bp _ _⟩
 let⟨a,g,q⟩:=aqs S.size f;have o:((S.size:Int)==0)=false:=hh;have e:(prog.info? 5).map (·.size)=some 1:=qF
 have h:(Lib.byteCells S.data.toList).length=S.size:=by rw[Lib.byteCells_length,<-Lib.size_eq]
 have i:=Lib.run_copy_row_string (P:=prog) (W.alloc<|.cells a 5) 99 9 3 5 W.heap.size 0 S.size S.size S a 5 underlying99 e (yyb W _) ah Q;rw[copied S a g]at i;have b:((W.alloc<|.cells a 5).setRow W.heap.size (Lib.byteCells S.data.toList).toArray).heap[W.heap.size]?=some (.cells (Lib.byteCells S.data.toList).toArray 5 (0,0)):=setRow_heap _ _ a _ 5 (0,0)<|yyb W _;have k:=Lib.run_unsafeString_row (P:=prog) ((W.alloc<|.cells a 5).setRow W.heap.size (Lib.byteCells S.data.toList).toArray) 301 3 9 5 underlying301 alp W.heap.size (Lib.byteCells S.data.toList).toArray.size (by unfold World.shape?;rw[b]) S.data.toList (λc=>d<|by rw[Lib.size_eq,c];rfl) (by simp_all) (by rw[<-Lib.size_eq];omega)
  (λj m l=>Lib.cells_of_row b (Lib.byteCells S.data.toList).toArray.size j _<|by rw[Hh qE];simp[Lib.byteCells,l])
 rw[<-Lib.size_eq]at k;have j:Y (Below W.heap.size W<|((W.alloc<|.cells a 5).setRow W.heap.size (Lib.byteCells S.data.toList).toArray).freeze (O W.heap.size 0) S.size):=by
  have l:Below W.heap.size W (W.alloc<|.cells a 5):=(bp _ W).alloc ah _;have m:Below W.heap.size (W.alloc<|.cells a 5) ((W.alloc<|.cells a 5).setRow W.heap.size (Lib.byteCells S.data.toList).toArray):=⟨rfl,rfl,rfl,qD,λp r=>setRow_other _ _ _ _ Q⟩;exact Lib.below_freeze (l.trans m) (p:=O W.heap.size 0) ah _
 go_in;go_wp2;go_ret;exact⟨rfl,j⟩
theorem aua(c:S.size<=1000000):
  Calls prog 229 #[.string S] W λb e=>b=.returned (.string S)/\Below W.heap.size W e:=by
 go_in;go_wp21;go_call ap9 as b d ⟨rfl,a⟩;go_wp21;go_ret;simp_all
theorem ab9(a:ag)(b:Nat)(i:b<=a.size):∀(f c:Nat),jh (a.extract b a.size) f c+b=jh a f (b+c)
 |0,c=>by simp[jh];omega
 |f+1,c=>by
  unfold jh;have h:(a.extract b a.size).size=a.size-b:=by simp[lw]
  by_cases g:c<a.size-b
  .rw[ty a b a.size c];by_cases e:au a (b+c)≠10
   .rw[G ⟨by rw[h];exact g,e⟩,G ⟨Q,e⟩,ab9 a b i f<|c+1];rfl
   grind
  grind
theorem Ki(c:j<=S.size:=by omega):(S.extract j S.size).extract 0 (ci (S.extract j S.size) 0)=S.extract j (ci S j)/\(S.extract j<|ci S j).size=ci S j-j/\j<=ci S j/\ci S j<=S.size:=by
 have d:(S.extract j S.size).size=S.size-j:=by simp[lw]
 have k:ci (S.extract j S.size) 0+j=ci S j:=by
  unfold ci;rw[ab9 S j c _ 0,d,zyi,yzp]
 have g:∀(b a:Nat),a<=S.size->a<=jh S b a/\jh S b a<=S.size:=by
  intro b
  induction b with
  |zero=>intro a e;simp[jh];omega
  |succ b f=>
   intro a e
   unfold jh;grind
 let⟨h,i⟩:=g (S.size-j) j c;have e:j<=ci S j:=h;have f:ci S j<=S.size:=i;refine⟨?_,by simp[lw];omega,e,f⟩;rw[show ci (S.extract j S.size) 0=ci S j-j from Q];apply va;simp_all
theorem Vm(c:Rc W i S j):
  Calls prog 198 #[.pointer<|some ⟨i,0,none⟩] W λb g=>
   (pk S j=32/\b=.returned (.tuple #[.string<|S.extract (j+1)<|ci S<|j+1,.bool true])/\Mk i W g (ci S<|j+1)/\ci S (j+1)<=S.size)\/(pk S j≠32/\b=.returned (.tuple #[.string fo,.bool false])/\Mk i W g j):=by
 have A:=c.li;by_cases d:pk S j=((32:Nat):Int)
 .have f:=J d;let⟨x,_⟩:=ho (s:=S) (i:=j) (by rw[d];decide);let⟨q,r,s,o⟩:=Ki S (j+1);have t:=J q;obtain⟨a,l⟩:∃a,S.extract (j+1) (ci S<|j+1)=a:=⟨_,rfl⟩;have n:Y (j+1+a.size=ci S (j+1)):=by rw[Y,<-l,r];omega
  have p:=J l;have v:j+1+a.size<=S.size:=by rw[n.out];exact o
  have C:(0:Int)<=j+1:=Q
  have D:(j:Int)+1<=(S.size:Int):=Q
  have k:Y (∀e,Calls prog 228 #[.string<|S.extract (j+1) S.size,.string ⟨#[10]⟩] e λb g=>b=.returned (.tuple #[.string a,.string<|(S.extract (j+1) S.size).extract (ci (S.extract (j+1) S.size) 0+1) (S.extract (j+1) S.size).size,.bool<|decide (ci (S.extract (j+1) S.size) 0<(S.extract (j+1) S.size).size)])/\∃u,g=e.drewN u):=λe=>by
   have:=Xr (S.extract (j+1) S.size) e (by simp[lw];omega);rw[t.out,p.out]at this;exact this
  generalize(S.extract (j+1) S.size).extract (ci (S.extract (j+1) S.size) 0+1) (S.extract (j+1) S.size).size=E at k;generalize decide (ci (S.extract (j+1) S.size) 0<(S.extract (j+1) S.size).size)=y at k;go_in;go_wp21;go_call sr i S j 32 _ c Q f as b m ⟨rfl,h⟩;have l:Y (Mk i W m<|j+1):=.mv h;have o:=h.rc c;let⟨r,s,F,_,_⟩:=o;go_wp21;go_quiet ((go_at_call 228;exact Calls.quiet_of<|k _));go_wp21;go_call aua as b H ⟨rfl,B⟩;have q:=((l.drewN nq).set (j+1+a.size)).below B;go_wp21;exact yyd (v:=.tuple #[.string a,.bool true]) (by simp[results,results198,go_sem]) rfl<|.inl ⟨f,by rw[p.out],qE,Q⟩
 have f:=J d;go_in;go_wp21;go_call qq as b m ⟨rfl,h⟩;have l:Y (Mk i W m j):=.mv h;go_wp21;exact yyd (v:=.tuple #[.string fo,.bool false]) (by simp[results,results198,go_sem];rfl) rfl<|.inr ⟨d,rfl,l⟩
def Ft(w:ae)(lo hi:Nat)(x:Wh)(ao:Option Addr)(l c:Nat)(r g:Int):Prop:=x.sort=3->jz w lo hi x.L (.slice ao l c) (I r) (I g)
def Qx(c:j<=S.size:=by omega):(dc S j Z).1<=S.size/\j<=(dc S j Z).1:=by
 unfold dc;split
 .rename_i a;let⟨b,_⟩:=ho (s:=S) (i:=j) (by rw[a];decide);simp only;omega
 split
 .rename_i a;let⟨b,_⟩:=ho (s:=S) (i:=j) (by rw[a];decide);have:=Lj S (j+1) Z;simp only;omega
 have:=Wc S 4 j 0 c;simp only;omega
structure Fv(w:ae)(N:Nat)(v0 v1 v2 v3 v4:af):Prop where
 c0:w.cell? (O N 0)=some v0
 c1:w.cell? (O N 1)=some v1
 c2:w.cell? (O N 2)=some v2
 c3:w.cell? (O N 3)=some v3
 c4:w.cell? (O N 4)=some v4
 f0:w.frozen? (O N 0)=false
 f1:w.frozen? (O N 1)=false
 f2:w.frozen? (O N 2)=false
 f3:w.frozen? (O N 3)=false
 f4:w.frozen? (O N 4)=false
def Fv.new{f g h i k:af}{e:TypeId}(j:w.heap[a]?=some (.cells #[f,g,h,i,k] e (0,0))):Fv w a f g h i k:=by
 have b:=λd=>yya w a d _ e (0,0) j
 have c:∀d,w.frozen? (O a d)=false:=λd=>by simp[World.frozen?,j]
 exact⟨b 0,b 1,b 2,b 3,b 4,c 0,c 1,c 2,c 3,c 4⟩
def Cu.Xb(d:Cu w a s b p)(c:Obj):Rc (w.alloc c) a s b:=(d.alloc c).rc
def ajq(d:Cu W i S j Z):
  Calls prog 195 #[.pointer<|some ⟨i,0,none⟩] W λb y=>∃(o:Option Addr)(r p:Nat)(s q:Int),b=.returned (.tuple #[.agg #[.int .i64 ((dc S j Z).2.1.sort:Int),.int .i64 ((dc S j Z).2.1.num:Int),.slice o r p,.int .i64 s,.int .i64 q],.bool (dc S j Z).2.2.2])/\Mw i W y/\Cu y i S (dc S j Z).1 (dc S j Z).2.2.1/\
   ((dc S j Z).2.2.2=true->Ft y W.heap.size y.heap.size (dc S j Z).2.1 o r p s q):=by
 have e:=d.lt;have T:=d.rc.le;have U:Y (W.heap.size<(W.alloc<|.cells #[I 0,I 0,.slice none 0 0,I 0,I 0] 195).heap.size):=by simp[Y]
 by_cases c:pk S j=((36:Nat):Int)
 .have t:=J c;let⟨V,_⟩:=ho (s:=S) (i:=j) (by rw[c];decide);have f:Y (dc S j Z=(j+1,⟨2,0,fo⟩,Z,true)):=by rw[Y,dc,G<|by rw[c];rfl]
  rw[f.out];go_in;go_wp21;go_call sr i S j 36 _ (d.Xb _) Q t as b k ⟨rfl,a⟩;have u:=((Mw.refl i W).alloc e _).trans<|.mv a;have g:=(d.alloc _).mv a;let⟨K,L,M,P,qa,u0,u1,u2,u3,u4⟩:=Fv.new ((a.only.block W.heap.size Q).trans<|yyb W _);go_wp21;refine yyd (v:=.tuple #[.agg #[I 2,I 0,.slice none 0 0,I 0,I 0],.bool true]) (by simp[results,results195,go_sem, *]) rfl ⟨none,0,0,0,0,rfl,?_,?_,λ_ v=>cb v qD⟩
  . (repeat first|refine Mw.fi ?_ Q e _|exact u)
  (repeat first|refine Cu.fi ?_ Q _|exact g)
 by_cases h:pk S j=((47:Nat):Int)
 .have t:=J c;have E:=J h;let⟨V,_⟩:=ho (s:=S) (i:=j) (by rw[h];decide);have m:=Lj S (j+1) Z;have f:Y (dc S j Z=((dx S (j+1) Z).1,⟨3,0,(dx S (j+1) Z).2.1⟩,(dx S (j+1) Z).2.2.1,(dx S (j+1) Z).2.2.2)):=by rw[Y,dc,N<|λb=>c<|by rw[b];rfl,G<|by rw[h];rfl]
  rw[f.out];generalize l:dx S (j+1) Z=F at m;have H:=J l;let⟨R,a3,a4,z⟩:=F;simp only at m|-;go_in;go_wp21;go_call qq i S j 36 _ (d.Xb _) Q t as b k ⟨rfl,a⟩;have u:=((Mw.refl i W).alloc e _).trans<|.mv a;have g:=(d.alloc _).mv a;have A:Y (k.heap[W.heap.size]?=some (.cells #[I 0,I 0,.slice none 0 0,I 0,I 0] 195)):=(a.only.block W.heap.size Q).trans<|yyb W _;have a5:W.heap.size<k.heap.size:=by have:=a.only.size;have:=U.out;simp only[I]at this;omega
  go_wp21;go_call sr i S j 47 _ g.rc Q E as b n ⟨rfl,a⟩;have B:=u.trans<|.mv a;have x:=g.mv a;have C:=J (a.only.block W.heap.size Q);have X:W.heap.size<n.heap.size:=by have:=a.only.size;omega
  go_wp21;go_call Ps;rw[H.out];rintro b w3 ⟨o,r,p,s,q,rfl,a,a0,w⟩;have D:=B.trans a;have a1:=J w;let⟨K,L,M,P,qa,u0,u1,u2,u3,u4⟩:=Fv.new ((a.block W.heap.size X Q).trans<|C.trans A);have a6:W.heap.size<w3.heap.size:=by have:=a.size;omega
  simp only;go_wp21;refine yyd (v:=.tuple #[.agg #[I 3,I 0,.slice o r p,I s,I q],.bool z]) (by simp[results,results195,go_sem, *]) rfl ⟨o,r,p,s,q,rfl,?_,?_,λv _=>(a1 v).keep ?_⟩
  . (repeat first|refine Mw.fi ?_ Q e _|refine Mw.alloc ?_ e _|exact D)
  . (repeat first|refine Cu.fi ?_ Q _|refine Cu.alloc ?_ _|exact a0)
  (repeat first|refine du.set ?_ Q|refine du.alloc ?_|exact du.refl ah)
 have t:=J c;have E:=J h;have f:Y (dc S j Z=((numF S 4 j 0).1,⟨1,(numF S 4 j 0).2.1,fo⟩,Z,(numF S 4 j 0).2.2)):=by rw[Y,dc,N<|λb=>c<|by rw[b];rfl,N<|λb=>h<|by rw[b];rfl]
 have m:=Wc S 4 j 0 T;rw[f.out];generalize l:numF S 4 j 0=F at m;have H:=J l;let⟨R,l,z⟩:=F;simp only at m|-;go_in;go_wp21;go_call qq i S j 36 _ (d.Xb _) Q t as b k ⟨rfl,a⟩;have u:=((Mw.refl i W).alloc e _).trans<|.mv a;have g:=(d.alloc _).mv a;have A:Y (k.heap[W.heap.size]?=some (.cells #[I 0,I 0,.slice none 0 0,I 0,I 0] 195)):=(a.only.block W.heap.size Q).trans<|yyb W _;go_wp21;go_call qq i S j 47 _ g.rc Q E as b n ⟨rfl,a⟩;have B:=u.trans<|.mv a;have x:=g.mv a;have C:=J (a.only.block W.heap.size Q);go_wp21;refine(arn i S j _ x.rc).mono ?_;rw[H.out];rintro b w3 ⟨rfl,a⟩;have D:=B.trans<|.mv a;have w:Cu w3 i S R Z:=x.mv a;let⟨K,L,M,P,qa,u0,u1,u2,u3,u4⟩:=Fv.new ((a.only.block W.heap.size Q).trans<|C.trans A);simp only;go_wp21;refine yyd (v:=.tuple #[.agg #[I 1,I l,.slice none 0 0,I 0,I 0],.bool z]) (by simp[results,results195,go_sem, *]) rfl ⟨none,0,0,0,0,rfl,?_,?_,λ_ v=>cb v qD⟩
 . (repeat first|refine Mw.fi ?_ Q e _|exact D)
 (repeat first|refine Cu.fi ?_ Q _|exact w)
def Du(w:ae)(lo hi:Nat)(ps:List Pc)(v:af):Prop:=
 v.oneCell'=true/\hi<=w.heap.size/\∀w':ae,(∀k,lo<k->k<hi->w'.heap[k]?=w.heap[k]?)->w'.ownsRow (lo+1) 293 2 v ps.length (rq ps)
def Ni.av7{d:List Pc}(f:Ni w a c d x)(k:b<a)(g:du b c w u):Du u b u.heap.size d x:=
 ⟨f.1,ah,λi j=>World.ownsRow.mono (f.2.2 i λh l e=>(j h Q<|ew e g.size).trans<|g.same h Q e) Q⟩
structure fw where
 a1:Option Addr
 l1:Nat
 c1:Nat
 r1:Int
 g1:Int
 a2:Option Addr
 l2:Nat
 c2:Nat
 r2:Int
 g2:Int
 a3:Option Addr
 l3:Nat
 c3:Nat
 r3:Int
 g3:Int
 tv:af
def Dh:fw:=⟨none,0,0,0,0,none,0,0,0,0,none,0,0,0,0,.slice none 0 0⟩
def ff(x:Cm)(q:fw):List af:=
 [I x.R,I x.fst.sort,I x.fst.num,.slice q.a1 q.l1 q.c1,I q.r1,I q.g1,
  I x.snd.sort,I x.snd.num,.slice q.a2 q.l2 q.c2,I q.r2,I q.g2,
  .bool x.neg,I x.cn,.string x.text,
  .slice q.a3 q.l3 q.c3,I q.r3,I q.g3,q.tv,I x.num,.bool x.all,.bool x.kr,.string x.la,.string x.oo]
def abe(b:Cm)(a:fw):(ff b a).length=23:=rfl
structure mq(w:ae)(lo hi:Nat)(x:Cm)(q:fw):Prop where
 fst:Ft w lo hi x.fst q.a1 q.l1 q.c1 q.r1 q.g1
 snd:Ft w lo hi x.snd q.a2 q.l2 q.c2 q.r2 q.g2
 L:x.R=19->jz w lo hi x.L (.slice q.a3 q.l3 q.c3) (I q.r3) (I q.g3)
 gj:x.R=19->Du w lo hi x.gj q.tv
 one:q.tv.oneCell'=true
def mq.keep{j:Cm}{i:fw}(e:mq w a b j i)(d:du a b w u):mq u a b j i:=
 ⟨λc=>(e.fst c).of d.same d.size,λc=>(e.snd c).of d.same d.size,λc=>(e.L c).of d.same d.size,λc=>⟨(e.gj c).1,d.size,λk l=>(e.gj c).2.2 k λh f g=>(l h f g).trans<|d.same h f g⟩,e.one⟩
def Rn(w:ae)(b:Nat)(cv lv:af)(xs:List af)(cs:List Cm):Prop:=∀(k:Nat)(x:Cm),cs[k]?=some x->
 ∃lo hi q,b<=lo/\hi<=w.heap.size/\(∀g,cv.ownBlock=some g->g<=lo\/hi<=g)/\(∀g,lv.ownBlock=some g->g<=lo\/hi<=g)/\mq w lo hi x q/\∀o v,(ff x q)[o]?=some v->xs[k*23+o]?=some v
def Bs(l:List ft):List af:=l.flatMap λx=>[Value.string x.name,I x.H,I x.cmd,.bool x.want]
def aqc(b:List ft)(a:ft):Bs (b++[a])=Bs b++[Value.string a.name,I a.H,I a.cmd,.bool a.want]:=by simp[Bs]
structure Rk(w:ae)(b:Nat)(s:ag)(p:cj)(cv lv:af):Prop where
 cu:Cu w b s p.H p.bk
 c2:w.cell? (O b 2)=some (I p.op)
 c3:w.cell? (O b 3)=some cv
 c4:w.cell? (O b 4)=some lv
 f2:w.frozen? (O b 2)=false
 f3:w.frozen? (O b 3)=false
 f4:w.frozen? (O b 4)=false
 own:∃xs,w.ownsRow (b+1) 200 23 cv p.U.length xs/\Rn w b cv lv xs p.U
 wj:w.ownsRow (b+1) 191 4 lv p.bh.length (Bs p.bh)
 apart:∀k,cv.ownBlock=some k->lv.ownBlock≠some k
structure Fq(b:Nat)(cv cv' lv lv':af)(w w':ae):Prop where
 os:w'.os=w.os
 tape:w'.tape=w.tape
 output:w'.output=w.output
 size:w.heap.size<=w'.heap.size
 block:∀k,k<w.heap.size->k≠b->some k≠cv.ownBlock->some k≠lv.ownBlock->w'.heap[k]?=w.heap[k]?
 cl:cv'.ownBlock=cv.ownBlock\/∀k,cv'.ownBlock=some k->w.heap.size<=k
 ll:lv'.ownBlock=lv.ownBlock\/∀k,lv'.ownBlock=some k->w.heap.size<=k
def Fq.refl:Fq i V V X X W W:=⟨rfl,rfl,rfl,ah,λ_ _ _ _ _=>rfl,.inl rfl,.inl rfl⟩
def Fq.trans{b:Nat}{l j i m k c:af}{r s t:ae}(a:Fq b l j m k r s)(d:Fq b j i k c s t):Fq b l i m c r t:=by
 refine⟨d.os.trans a.os,d.tape.trans a.tape,d.output.trans a.output,bq a.size d.size,λf n o p q=>?_,?_,?_⟩
 .refine(d.block f (ew n a.size) o ?_ ?_).trans (a.block f n o p q)
  .obtain e|e:=a.cl
   .rw[e];exact p
   intro g;have:=e f g.symm;omega
  obtain e|e:=a.ll
  .rw[e];exact q
  intro g;have:=e f g.symm;omega
 .obtain e|e:=d.cl
  .rw[e];exact a.cl
  exact .inr λg h=>bq a.size<|e g h
 obtain e|e:=d.ll
 .rw[e];exact a.ll
 exact .inr λg h=>bq a.size<|e g h
def Fq.mw(b:Mw a w u):Fq a x x y y w u:=⟨b.os,b.tape,b.output,b.size,λe c d _ _=>b.block e c d,.inl rfl,.inl rfl⟩
def Rk.mw{i:cj}(A:Rk w a s i x y)(c:Mw a w u)(D:Cu u a s b p):Rk u a s {i with H:=b,bk:=p} x y:=by
 obtain⟨P,E,F,H,L,M,j,⟨xs,f,z⟩,g,v⟩:=A;refine⟨D,(c.cell 2 Q Q).trans E,(c.cell 3 Q Q).trans F,(c.cell 4 Q Q).trans H,(c.cd 2).trans L,(c.cd 3).trans M,(c.cd 4).trans j,⟨xs,da f λd e=>c.block d (f.lt d e).2 (by have:=(f.lt d e).1;omega),λd K k=>?_⟩,da g λd e=>c.block d (g.lt d e).2 (by have:=(g.lt d e).1;omega),v⟩;obtain⟨l,m,C,n,h,o,q,r,t⟩:=z d K k;exact⟨l,m,C,n,bq h c.size,o,q,r.keep ⟨λB U R=>c.block B Q Q,bq h c.size⟩,t⟩
def Rk.lt{b:ae}{a:Nat}{g:ag}{f:cj}{c d:af}(e:Rk b a g f c d):a<b.heap.size:=e.cu.lt
section
def Am(b:ag):∀(f a:Nat),a<=b.size->eg b f a<=b.size/\a<=eg b f a
 |0,a,h=>⟨h,ah⟩
 |f+1,a,h=>by
  unfold eg;split
  .rename_i c;let⟨d,_⟩:=ho (s:=b) (i:=a);have:=Am b f (a+1) Q;omega
  omega
def apu:(prog.info? 191).map (λa=>(a.zero,a.size,a.bytes))=some (some<|.agg #[.string ⟨#[]⟩,I 0,I 0,.bool false],4,40):=qF
theorem Rk.labelled{f h:ae}{b d i:Nat}{D:ag}{g:cj}{o j:af}{L:Obj}{x:ft}(B:Rk f b D g o j)
  (k:(f.alloc L).drew.grownBy h j.ownBlock) (C:h.ownsRow (b+1) 191 4 (aa d (g.bh.length+1) i) (g.bh.length+1) (Bs g.bh++[Value.string x.name,I x.H,I x.cmd,.bool x.want]))
  (r:j.ownBlock=some d\/d=f.heap.size+1):
  Rk (h.setCell (O b 4)<|aa d (g.bh.length+1) i) b D {g with bh:=g.bh++[x]} o (aa d (g.bh.length+1) i)/\
  Fq b o o j (aa d (g.bh.length+1) i) f (h.setCell (O b 4)<|aa d (g.bh.length+1) i):=by
 have M:=B.lt;let⟨⟨⟨P,qa,R,S,T⟩,U,V⟩,W,X,Z,a0,a1,a2,⟨xs,p,a3⟩,a4,E⟩:=B;have F:∀a,a<f.heap.size->some a≠j.ownBlock->h.heap[a]?=f.heap[a]? :=λa c s=>by
  rw[k.block a qB s];exact im _ _ _ c
 have H:=(C.lt d rfl).1;have q:=F b M (λe=>by have:=(a4.lt b e.symm).1;omega);have K:∀a,h.cell? (O b a)=f.cell? (O b a):=λa=>ac a q
 have a5:∀a,h.frozen? (O b a)=f.frozen? (O b a):=λa=>ad a q
 have l:∀a,a≠4->(h.setCell (O b 4)<|aa d (g.bh.length+1) i).cell? (O b a)=f.cell? (O b a):=λa c=>
  (jm (h:=Cr<|.inr<|Ne.symm c) ..).trans (K a)
 have m:∀a,(h.setCell (O b 4)<|aa d (g.bh.length+1) i).frozen? (O b a)=f.frozen? (O b a):=λa=>by
  simp_all
 have wg:∀a,a<f.heap.size->a≠b->some a≠j.ownBlock->(h.setCell (O b 4)<|aa d (g.bh.length+1) i).heap[a]?=f.heap[a]? :=λa c t s=>by
  rw[er _ _ _ _ t];exact F a c s
 have u:f.heap.size<=(h.setCell (O b 4)<|aa d (g.bh.length+1) i).heap.size:=by
  have:=k.size;rw[kg];simp at this;omega
 refine⟨⟨⟨⟨(l 0 Q).trans P,(l 1 Q).trans qa,(m 1).trans R,S,T⟩,(l 5 Q).trans U,(m 5).trans V⟩,(l 2 Q).trans W,(l 3 Q).trans X,qz _ _ _<|(K 4).trans Z,(m 2).trans a0,(m 3).trans a1,(m 4).trans a2,⟨xs,da p λa c=>wg a (p.lt a c).2 (by have:=(p.lt a c).1;omega)<|λe=>E a c e.symm,λa x q=>?_⟩,?_,?_⟩,?_⟩
 .let⟨a6,a7,a8,H,n,a9,w,aA,aB⟩:=a3 a x q;refine⟨a6,a7,a8,H,bq n u,a9,λy aC=>?_,aA.keep ⟨λz aD A=>wg z Q Q (λe=>qE),bq n u⟩,aB⟩;have v:d=y:=by simpa[Value.ownBlock]using aC
  grind
 .simp only[ga,qx,aqc];exact da C λa c=>er _ _ _ _ (by
   have:d=a:=by simpa[Value.ownBlock]using c
   simp only;omega)
 .intro a c n
  have v:d=a:=by simpa[Value.ownBlock]using n
  obtain e|e:=r
  .grind
  have:=(p.lt a c).2;omega
 refine⟨k.os,k.tape,k.output,u,λa c t _ A=>wg a c t A,.inl rfl,?_⟩;obtain e|e:=r
 .exact .inl (by rw[e];rfl)
 right;intro a c
 have:d=a:=by simpa[Value.ownBlock]using c
 omega
attribute [local go_sem↓] Go.wp_at_zero Go.wp_at_succ
theorem Vh(b:cj)(A o:af)(q:Bool)(E:ae)(r:Rk E i S b A o)(b0:b.bh.length<=1000)(b1:b.U.length<=1000):
  Calls prog 196 #[.pointer<|some ⟨i,0,none⟩,.bool q] E λl aE=>∃a4,l=.returned (.string<|S.extract b.H<|eg S 8 b.H)/\Rk aE i S (b.qu S b.H q) A a4/\Fq i A A o a4 E aE:=by
 have a5:=J r;have b2:=r.lt;have a6:=r.cu.rc.le;have b3:=r.cu.rc.li;have R:=J r.cu.rc;let⟨aF,aG,aH,aI,aJ⟩:=yyf apu;have aK:∃L a7,A=.slice L b.U.length a7:=by
  let⟨xs,B,_⟩:=r.own;obtain⟨l,a⟩|⟨e,c,_,l,_⟩:=B.2
  .grind
  exact⟨_,_,l⟩
 obtain⟨L,a8,rfl⟩:=aK;have aL:=Am S 8 b.H a6;generalize a:eg S 8 b.H=m at aL;have a9:=J a;clear a;have a:b.qu S b.H q={b with H:=m,bh:=b.bh++[⟨S.extract b.H m,b.H,b.U.length,q⟩]}:=by rw[cj.qu,a9.out]
 have aM:=J a;clear a;let⟨aN,aO,aP,_,_⟩:=R.out;clear r;generalize b4:b.H=j at*
 go_in;go_wp21;go_loopw [] (λwr=>∃(a e:Nat),Mv i E wr a/\a<=S.size/\a+e=j+8/\Y (m=eg S e a)) (λwr=>S.size-xi wr i)
 .exact⟨j,8,R.ee,a6,rfl,a9.symm⟩
 let⟨a,e,c,aA,b5,T⟩:=hrel;have C:=J c;have s:=J<|c.rc R aA;have aQ:=J<|pu c.c1;let⟨D,t,F,_,_⟩:=s.out;clear c aN aO aP;have h:Y (e≠0->m=if 97<=pk S a/\pk S a<=122 then eg S (e-1) (a+1)else a):=λg=>by
  rw[T.out]
  conv=>lhs;rw[show e=(e-1)+1 from Q,eg]
 have k:Y (pk S a≠-1->a<S.size):=λg=>(ho g).1
 have aR:pk S a<=255:=by
  by_cases g:pk S a=-1
  .rw[g];decide
  rw[(ho g).2];have:=ms S a;omega
 generalize n:pk S a=c at aR;have U:=J n;have M:Y (e≠0->m=if 97<=c/\c<=122 then eg S (e-1) (a+1)else a):=by rw[<-n];exact h
 have V:Y (c≠-1->a<S.size):=by rw[<-n];exact k
 clear n h k;go_upto_region 2 with fail
 go_cut [33] (λaS aT=>aS=.bool (decide (e≠0)&&decide (97<=c)&&decide (c<=122))/\∃k,aT=wr.drewN k)
 case first=>
  by_cases h:e=0
  .subst h;have t:decide ((a:Int)<j+8)=false:=qB
   go_wp21;go_meet;exact⟨qD,0,rfl⟩
  have t:decide ((a:Int)<j+8)=true:=qB
  by_cases H:97<=c
  .by_cases K:c<=122
   .go_wp2_with (first|(go_at_call 110;refine(iz i S a _<|by first|exact s.out|exact s.drewN _).mono ?_;rw[U.out];rintro l z ⟨rfl,d,rfl⟩));go_meet;exact⟨by simp[h,H,K],_,rfl⟩
   have f:122<c:=Q
   go_wp2_with (first|(go_at_call 110;refine(iz i S a _<|by first|exact s.out|exact s.drewN _).mono ?_;rw[U.out];rintro l z ⟨rfl,d,rfl⟩));go_meet;exact⟨by simp[h,H,K],_,rfl⟩
  have f:c<97:=Q
  go_wp2_with (first|(go_at_call 110;refine(iz i S a _<|by first|exact s.out|exact s.drewN _).mono ?_;rw[U.out];rintro l z ⟨rfl,d,rfl⟩));go_meet;exact⟨by simp[h];omega,_,rfl⟩
 obtain⟨rfl,k,rfl⟩:=hcut;by_cases P:e≠0/\97<=c/\c<=122
 .let⟨h,H,K⟩:=P;have d:(decide (e≠0)&&decide (97<=c)&&decide (c<=122))=true:=by simp[h,H,K]
  have aB:=V Q;have f:Y (m=eg S (e-1) (a+1)):=by rw[Y,M.out h,G ⟨H,K⟩]
  rw[d];clear d M V;go_wp21;go_roundw
  .exact⟨a+1,e-1,(C.drewN k).set<|a+1,Q,Q,f⟩
  have u:=pu ((C.drewN k).set (v:=(a:Int)+1)<|a+1).c1;have v:=aQ.out;rw[u,v];omega
 have d:(decide (e≠0)&&decide (97<=c)&&decide (c<=122))=false:=by
  rcases df (decide (e≠0)&&decide (97<=c)&&decide (c<=122))with g|g
  .simp at g;omega
  exact g
 have aU:Y (m=a):=by
  by_cases h:e=0
  .rw[Y,T.out,h];rfl
  rw[Y,M.out h,N<|λg=>P ⟨h,g.1,g.2⟩]
 rw[d];obtain rfl:a=m:=aU.symm;have d:=J<|a5.mw (.mv<|C.drewN k)<|a5.cu.mv (C.drewN k) aA;have p:Y (Fq i (.slice L b.U.length a8) (.slice L b.U.length a8) o o E<|wr.drewN k):=Fq.mw<|.mv<|C.drewN k;have b6:(0:Int)<=j:=Q
 have b7:(j:Int)<=a:=Q
 have b8:(a:Int)<=S.size:=Q
 let⟨⟨⟨D,t,F,_,_⟩,W,X⟩,Z,a0,u,a1,a2,v,B,f,x⟩:=d.out;have y:=J f;generalize w:wr.drewN k=qa at d p y D t F W X Z a0 u a1 a2 v|-;go_wp21;go_quiet (fail);have w:=J<|d.mw ((Mw.refl i qa).drewN nq)<|d.cu.drewN nq;have aC:=J<|p.trans<|Fq.mw<|(Mw.refl i qa).drewN nq;have a3:Y ((qa.drewN nq).ownsRow (i+1) 191 4 o b.bh.length<|Bs b.bh):=y;generalize qa.drewN nq=d at w aC a3|-;let⟨⟨⟨D,t,F,_,_⟩,W,X⟩,Z,a0,u,a1,a2,v,B,f,x⟩:=w.out;have aV:=w.lt;have aW:Y (∀f,o.ownBlock=some f->i+1<=f/\f<d.heap.size):=λf aX=>a3.lt f aX
 go_wp21;go_region_law
  ((refine step_append_lies _ (by rfl) _ _ _ (by rfl) (i+1) 191 aF _ 4 40 underlying160 aG aH aI aJ rfl Q o b.bh.length (Bs b.bh) (by rfl) ((a3.alloc _).drew)
     (O d.heap.size 0) 1 1 [.string<|S.extract j a,I j,I b.U.length,.bool q] (by rfl) (by rfl) (World.news_of_block (cs:=#[.string<|S.extract j a,I j,I b.U.length,.bool q]) (t:=191) (fr:=(0,0))<|yyb d _) (by simp[Value.oneCell'])
     Q qH Q qB (d.heap.size+1) qD ?_;intro b9 a7 z x p y aB;have n:=(p.block i qB (λl=>by have:=(aW _ l.symm).1;omega)).trans<|im d _ i aV;have aY:=ac 4 n;have aZ:=ad 4 n;rw[u]at aY;rw[v]at aZ;have aD:Y _:=w.labelled (x:=⟨S.extract j a,j,b.U.length,q⟩) p x y;clear n x p y aB))
 all_goals go_wp2
 all_goals go_ret
 all_goals exact⟨rfl,_,by rw[aM.out];exact aD.1,aC.trans aD.2⟩
end
