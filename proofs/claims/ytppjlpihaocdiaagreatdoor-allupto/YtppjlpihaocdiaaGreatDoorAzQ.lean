import Derived.Test.YtppjlpihaocdiaaGreatDoorAuQ
import Derived.Test.YtppjlpihaocdiaaGreatDoorArQ
set_option linter.all false
set_option maxRecDepth 100000
set_option maxHeartbeats 16000000
namespace Go.Proofs.YtppjlpihaocdiaaGreatDoor
open Go.RowKit Go.Proofs.Tryz
variable{w u v:ae}{a b c d e:Nat}{s t:ag}{x y z:af}{p D:Int}{l:List af}{f:Bool}{g:List Nat}{h:Nat->Prop}{o:Option Addr}{r:List UInt8}{A:Nat->Bool}{B:Nat->Nat->Bool}{C:Nat->Nat->Prop}(i:Nat)(S T:ag)(V X:af)(j k m n:Nat)(Z:Int)(W:ae)
def avq(b:Sc)(a c:Nat)(h:ae)(l:ez h i b)(n:a<256)(g:b.ax=8):
  Calls prog 53 #[.pointer<|some ⟨i,0,none⟩,.int .u8 a,.int .i64 c] h (Sd i h<|bx b a c):=by
 have f:Y (bx b a c=if a=32 then some {b with ax:=9} else none):=by rw[Y];simp[bx,g]
 let⟨o,p,bv,e,k⟩:=l;have m:=e.xc 0;rw[g]at m;have q:=e.xf 0;by_cases d:a=32
 .subst d;go_in;go_wp21;go_ret;rw[f.out];exact Sd.yes (x':={b with ax:=9}) k xxs (bd.head e 0 _ Q rfl) rfl
 have r:((a:Int)==32)=false:=qB
 have j:Y (bx b a c=none):=by rw[Y,f.out,N d]
 go_in;go_wp21;go_ret;rw[j.out];exact Sd.no (bf.below<|(bf.refl _ _).setCell _ _) rfl
def avr(a:Sc)(b c:Nat)(h:ae)(j:ez h i a)(o:b<256)(g:a.ax=9):
  Calls prog 53 #[.pointer<|some ⟨i,0,none⟩,.int .u8 b,.int .i64 c] h (Sd i h<|bx a b c):=by
 have f:Y (bx a b c=some (if b=10 then {a with ax:=0} else a)):=by rw[Y];simp[bx,g]
 have m:=J j;let⟨p,q,bv,e,l⟩:=j;have n:=e.xc 0;rw[g]at n;have r:=e.xf 0;by_cases d:b=10
 .subst d;go_in;go_wp21;go_ret;rw[f.out];exact Sd.yes (x':={a with ax:=0}) l xxs (bd.head e 0 _ Q rfl) rfl
 have s:((b:Int)==10)=false:=qB
 have k:Y (bx a b c=some a):=by rw[Y,f.out,N d]
 go_in;go_wp21;go_ret;rw[k.out];exact⟨true,rfl,bp _ _,.inl ⟨a,rfl,rfl,m⟩⟩
def avl(b:Sc)(a c:Nat)(h:ae)(l:ez h i b)(n:a<256)(g:b.ax=21):
  Calls prog 53 #[.pointer<|some ⟨i,0,none⟩,.int .u8 a,.int .i64 c] h (Sd i h<|bx b a c):=by
 have f:Y (bx b a c=if a=47 then some {b with ax:=7} else none):=by rw[Y];simp[bx,g]
 let⟨o,p,bv,e,k⟩:=l;have m:=e.xc 0;rw[g]at m;have q:=e.xf 0;by_cases d:a=47
 .subst d;go_in;go_wp21;go_ret;rw[f.out];exact Sd.yes (x':={b with ax:=7}) k xxs (bd.head e 0 _ Q rfl) rfl
 have r:((a:Int)==47)=false:=qB
 have j:Y (bx b a c=none):=by rw[Y,f.out,N d]
 go_in;go_wp21;go_ret;rw[j.out];exact Sd.no (bf.below<|(bf.refl _ _).setCell _ _) rfl
def avb(a:Sc)(c b:Nat)(f:ae)(s:ez f i a)(u:c<256)(p:a.fp.length<=1000)(m:a.db.length<=1000)(z:b<=900)(h:a.ax=11):
  Calls prog 53 #[.pointer<|some ⟨i,0,none⟩,.int .u8 c,.int .i64 b] f (Sd i f<|bx a c b):=by
 have j:Y (bx a c b=if c=47 then some (pattern {a with ax:=12} (b+1))else none):=by rw[Y];simp[bx,h]
 let⟨v,w,bv,d,k⟩:=s;have o:Y (ez (f.setCell (O i 0)<|I 12) i {a with ax:=12}):=ez.put k xxs (bd.head d 0 _ Q rfl) rfl rfl rfl;have t:=d.xc 0;rw[h]at t;have x:=d.xf 0;have q:Y (((b:Int)+1)=((b+1:Nat):Int)):=J Q
 by_cases d:c=47
 .subst d;go_in;go_wp21;rw[q.out];go_call Yi i {a with ax:=12} (b+1) _ o p m Q as e n ⟨rfl,g,l⟩;have k:=(bf.below<|(bf.refl _ _).setCell _ _).trans g;have r:=J l;go_wp21;go_ret;rw[j.out];exact⟨true,rfl,k,.inl ⟨_,rfl,rfl,r⟩⟩
 have y:((c:Int)==47)=false:=qB
 have r:Y (bx a c b=none):=by rw[Y,j.out,N d]
 go_in;go_wp21;rw[q.out];go_call Yi i {a with ax:=12} (b+1) _ o p m Q as e n ⟨rfl,g,l⟩;have k:=(bf.below<|(bf.refl _ _).setCell _ _).trans g;go_wp21;go_ret;rw[r.out];exact Sd.no k rfl
def avs(b:Sc)(c t:Nat)(g:ae)(D:ez g i b)(s:Sm b)(x:c<256)(n:b.db≠[])(v:∀T∈b.db,T<=1000)(w:b.db.length<=1000)(h:b.ax=6\/b.ax=12):
  Calls prog 53 #[.pointer<|some ⟨i,0,none⟩,.int .u8 c,.int .i64 t] g (Sd i g<|bx b c t):=by
 have o:=J D;have y:Y (bx b c t=(pi b c).1.map λL=>if(pi b c).2=true then {L with ax:=if b.ax=12 then 13 else 2} else L):=by
  rw[Y];unfold bx;obtain h|h:=h<;>simp[h]
 have M:Y ((pi b c).2=true->(pi b c).1=if whole b.L=true then some b else none):=λa=>by
  unfold pi at a|-;split at a
  .rename_i d;rw[G d]
  cases a
 let⟨qa,R,bv,q,P⟩:=D;have E:=q.xc 0;have U:=q.xf 0;have F:Y (∀r:ae,∀f:Bool,f=whole b.L->(pi b c).2=true->bd r i (gw {b with ax:=if b.ax=12 then 13 else 2} qa R bv)->bf i g r->Sd i g (bx b c t) (.returned<|.bool f) r):=λr f k a S K=>by
  rw[y.out,M.out a];rcases df (whole b.L)with u|u
  .rw[u,G rfl,k,u];refine Sd.yes P K S ?_;rw[a];rfl
  rw[u,N Bool.false_ne_true,k,u];exact Sd.no (bf.below K) rfl
 obtain h|h:=h
 all_goals
  rw[h]at E;obtain a|a:=df (pi b c).2
  .have d:=J a;clear a;go_in;go_wp21;go_call Pa as e H ⟨f,rfl,p,j,_⟩;obtain⟨rfl,k⟩:=j d;have C:=J k;clear k j p;rw[d.out];go_wp21;go_ret;exact F _ _ C d (by (first|rw[G h]|rw[N]);exact bd.head q 0 _ Q rfl)<|(bf.refl _ _).setCell _ _
  have d:=J a;clear a;go_in;go_wp21;go_call Pa as e H ⟨f,rfl,p,_,j⟩;have z:Y _:=j d;clear j;rw[d.out];go_wp21;go_ret;rw[y.out];obtain⟨A,l,m,B⟩|⟨l,m⟩:=z
  .exact⟨f,rfl,p,.inl ⟨A,by rw[l];simp[d.out],m,B⟩⟩
  exact⟨f,rfl,p,.inr ⟨by rw[l];rfl,m⟩⟩
def ajy:zeroCells116=(hj λ_=>false).toArray:=qF
def Qjf:(prog.info? 116).map (·.size)=some 256:=qF
def ah1(a:Sc)(b c bv:af)(d:Nat->Bool):(gw a b c bv).take 14++hj d++(gw a b c bv).drop (14+(hj d).length)=gw {a with row:=d} b c bv:=by
 have f:(hj d).length=256:=by simp[hj]
 have e:(hj a.row).length=256:=by simp[hj]
 rw[f];have g:(gw a b c bv).drop (14+256)=[I a.rows,b,c,bv]:=by
  have:(hj a.row++[I a.rows,b,c,bv]).drop 256=[I a.rows,b,c,bv]:=by
   rw[List.drop_append,e];simp[e]
  exact this
 rw[g];have h:(gw a b c bv).take 14=[I a.ax,I a.op,I a.L.m,I a.L.o,I a.L.a,I a.L.l,I a.part,I a.bm,I a.zero,I a.gf,.bool a.cn,.bool a.all,.bool a.print,.bool a.uw]:=rfl;rw[h,nt];rfl
def avf(a:Sc)(f k:Nat)(g:ae)(u:ez g i a)(E:f<256)(n:a.ax=16):
  Calls prog 53 #[.pointer<|some ⟨i,0,none⟩,.int .u8 f,.int .i64 k] g (Sd i g<|bx a f k):=by
 have r:Y (bx a f k=if f=47 then some {a with ax:=17,row:=λ_=>false,rows:=0} else none):=by rw[Y];simp[bx,n]
 let⟨d,e,bv,c,D⟩:=u;have t:bd (g.setCell (O i 0)<|I 17) i (gw {a with ax:=17} d e bv):=bd.head c 0 _ Q rfl;have l:Y (∀b:ae,bd b i (gw {a with ax:=17,row:=λ_=>false} d e bv)->b.cell? (O i 270)=some (I a.rows)/\b.frozen? (O i 270)=false):=λb m=>⟨m.cell (k:=270)<|Xu {a with ax:=17,row:=λ_=>false} d e bv,m.xf 270⟩
 have v:=c.xc 0;rw[n]at v;have F:=c.xf 0;have s:Y (∀b:ae,bd b i (gw {a with ax:=17,row:=λ_=>false} d e bv)->bf i (g.setCell (O i 0)<|I 17) b->bd (b.setCell (O i 270)<|I 0) i (gw {a with ax:=17,row:=λ_=>false,rows:=0} d e bv)/\bf i g (b.setCell (O i 270)<|I 0)):=λb m w=>by
  refine⟨?_,(xxs.trans w).trans<|(bf.refl _ _).setCell _ _⟩;have:=m.put 270 (by rw[dm];omega)<|I ((0:Nat):Int);rw[Xs]at this;exact this
 by_cases o:f=47
 .subst o;go_in;go_wp2_with (refine Av rfl 116 (.tmp 121) (.tmp 119) rfl i 14 rfl (hj λ_=>false) (by show Value.agg zeroCells116=_;rw[ajy]) (gw {a with ax:=17} d e bv) (gw {a with ax:=17,row:=λ_=>false} d e bv) t (by rw[dm];simp[hj]) (ah1 _ _ _ _ _) (by rw[Qjf];simp[hj]) (by intro C j;simp[hj]at j;rw[<-j.2];rfl) ?_;intro x c h;have p:Y _:=c;have q:Y _:=h;have y:=(l _ c).1;have z:=(l _ c).2;clear c h);go_ret;rw[r.out];let⟨A,B⟩:=s _ p q;exact Sd.yes (x':={a with ax:=17,row:=λ_=>false,rows:=0}) D B A rfl
 have B:((f:Int)==47)=false:=qB
 have A:Y (bx a f k=none):=by rw[Y,r.out,N o]
 go_in;go_wp2_with (refine Av rfl 116 (.tmp 121) (.tmp 119) rfl i 14 rfl (hj λ_=>false) (by show Value.agg zeroCells116=_;rw[ajy]) (gw {a with ax:=17} d e bv) (gw {a with ax:=17,row:=λ_=>false} d e bv) t (by rw[dm];simp[hj]) (ah1 _ _ _ _ _) (by rw[Qjf];simp[hj]) (by intro C j;simp[hj]at j;rw[<-j.2];rfl) ?_;intro x c h;have p:Y _:=c;have q:Y _:=h;have y:=(l _ c).1;have z:=(l _ c).2;clear c h);go_ret;rw[A.out];exact Sd.no (bf.below (s _ p q).2) rfl
structure jd(x:Sc)(i:Nat):Prop where
 op:x.op<=5
 bm:x.bm<=i
 zero:x.zero<=1
 gf:x.gf<=1
 rows:x.rows<=i
 part:x.part<=2
 ax:x.ax<=21
 L:Small x.L
 pa:x.fp.length<=i
 pl:x.db.length<=i
 pn:∀n∈x.db,n<=i
 lb:x.bu.length<=i
 nm:∀q∈x.bu,q.name.length<=i
 m10:x.ax=10->x.bm≠0->x.bu≠[]
 m6:x.ax=6\/x.ax=12->x.db≠[]
 pe:x.fp.length=x.db.length
 nc:∀q∈x.bu,∀c∈q.name,c<256
def jd.sm{c:Sc}(b:jd c a)(d:a<=900):Sm c:=⟨b.op,by have:=b.bm;omega,b.zero,b.gf,by have:=b.rows;omega,b.part,b.ax,b.L⟩
def aof:jd yu 0:=⟨qG,qG,qG,qG,qG,qG,qG,by unfold Small yu;decide,qG,qG,by intro c a;simp[yu]at a,qG,by intro c a;simp[yu]at a,λb=>by simp[yu]at b,λb=>by simp[yu]at b,rfl,λe d=>by simp[yu]at d⟩
def jd.of{d b:Sc}(c:jd d a)(m:b.op<=5)(n:b.bm<=a+1)(o:b.zero<=1)(q:b.gf<=1)(p:b.rows<=a+1)(s:b.part<=2)(t:b.ax<=21)(u:b.L=d.L)(j:b.fp=d.fp)(f:b.db=d.db)(g:b.bu=d.bu)
  (k:b.ax=10->b.bm=0) (l:b.ax=6\/b.ax=12->d.ax=b.ax):jd b (a+1):=
 ⟨m,n,o,q,p,s,t,by rw[u];exact c.L,by rw[j];have:=c.pa;omega,by rw[f];have:=c.pl;omega,by rw[f];intro h i;have:=c.pn h i;omega,by rw[g];have:=c.lb;omega,by rw[g];intro h i;have:=c.nm h i;omega,λe r=>cb (k e) r,λe=>by rw[f];exact c.m6<|by rw[l e];exact e,by rw[j,f];exact c.pe,by rw[g];exact c.nc⟩
def Uf{f e:Sc}(c:jd f a)(d:qk f b=some e):jd e (a+1):=by
 have j:=c.op;have k:=c.bm;have g:=c.zero;have h:=c.gf;have l:=c.rows;have i:=c.part;unfold qk at d
 (repeat' split at d)<;>first|(cases d;done)|(cases d;exact c.of qC qC g h qC i qD rfl rfl rfl rfl qD qD)
def aon{f e:Sc}(c:jd f a)(d:di f b=some e):jd e (a+1):=by
 have i:=c.op;have j:=c.bm;have g:=c.zero;have k:=c.gf;have l:=c.rows;have h:=c.part;unfold di at d
 (repeat' split at d)<;>first|(cases d;done)|(cases d;exact c.of qC qC g qC qC h qD rfl rfl rfl rfl qD qD)
def acq{f e:Sc}{c d:Nat}(b:jd f c)(h:d<=21)(g:d≠10)(i:some (pattern {f with ax:=d} (c+1))=some e):jd e (c+1):=by
 cases i
 have n:=b.bm;have o:=b.rows;have p:=b.pa;have q:=b.pl;have r:=b.lb;refine⟨b.op,by simp only[pattern];omega,b.zero,b.gf,by simp only[pattern];omega,b.part,h,by unfold Small pattern;simp,by simp[pattern];omega,by simp[pattern];omega,?_,by simp only[pattern];omega,λj k=>by have:=b.nm j k;omega,λl=>cb l g,λ_=>by simp[pattern],by simp[pattern,b.pe],b.nc⟩;intro m a
 simp[pattern]at a;obtain a|a:=a
 .have:=b.pn m a;omega
 omega
theorem acs{i e:Sc}(c:jd i a)(d:spot i b a=some e):jd e (a+1):=by
 have f:=c.op;have k:=c.bm;have j:=c.zero;have g:=c.gf;have l:=c.rows;have h:=c.part;unfold spot at d;split at d
 .cases d
  exact c.of f qC qE g qC h qD rfl rfl rfl rfl qD qD
 split at d
 .cases d
  exact c.of f qC j g qC h qD rfl rfl rfl rfl qD qD
 split at d
 .exact acq c Q Q d
 cases d
def Ud{j i:Sc}(c:jd j a)(d:lc j b=some i):jd i (a+1):=by
 have e:=c.op;have l:=c.bm;have f:=c.zero;have g:=c.gf;have m:=c.rows;have h:=c.part;have k:=c.ax;unfold lc at d;split at d
 .split at d
  .cases d
   exact c.of e Q f g Q h k rfl rfl rfl rfl Q Q
  cases d
  exact c.of e qC f g qC h qD rfl rfl rfl rfl qD qD
 split at d
 .cases d
  exact c.of e qC f g qC h qD rfl rfl rfl rfl qD qD
 exact aon c d
def acp{d:Sc}(c:jd d a)(e:b<=2:=by omega):jd {d with part:=b} a:=⟨c.op,c.bm,c.zero,c.gf,c.rows,e,c.ax,c.L,c.pa,c.pl,c.pn,c.lb,c.nm,c.m10,c.m6,c.pe,c.nc⟩
def aog{g h:Sc}(d:jd g a)(m:g.ax=0)(c:begin' g b a=some h):jd h (a+1):=by
 have i:=d.op;have n:=d.bm;have e:=d.zero;have j:=d.gf;have o:=d.rows;have f:=d.part;have k:=d.ax;unfold begin' at c;split at c
 .cases c
  exact d.of i Q e j Q f k rfl rfl rfl rfl Q Q
 split at c
 .split at c
  .cases c
   exact d.of qC qC e j qC f qD rfl rfl rfl rfl qD qD
  cases c
 split at c
 .cases c
  exact d.of i qD e qD qC f qD rfl rfl rfl rfl qD qD
 split at c
 .rename_i p l;cases c
  exact acs (acp d Q) l
 exact Ud (acp d Q) c
def acn{f e:Sc}(c:jd f a)(d:vf f b=some e):jd e (a+1):=by
 have g:=c.op;have j:=c.bm;have h:=c.zero;have i:=c.gf;have k:=c.rows;unfold vf at d;split at d
 .cases d
  exact c.of g qC h i qC qD qD rfl rfl rfl rfl qD qD
 exact Ud c d
def aoh{e f:Sc}(d:jd e a)(l:e.ax=1)(c:ua e b=some f):jd f (a+1):=by
 have h:=d.op;have m:=d.bm;have n:=d.zero;have i:=d.gf;have o:=d.rows;have j:=d.part;have k:=d.ax;unfold ua at c;have g:(if b=48 then e.zero else 1)<=1:=by split<;>omega
 generalize(if b=48 then e.zero else 1)=p at c g;split at c
 .split at c
  .cases c
   exact d.of h qC g i qC j k rfl rfl rfl rfl qC qC
  cases c
 split at c
 .cases c
 exact acn d c
theorem aoo{c o:Sc}{h j:Nat}(b:jd c h)(q:c.ax=10)(i:named c j h=some o):jd o (h+1):=by
 have r:=b.op;have A:=b.bm;have s:=b.zero;have t:=b.gf;have B:=b.rows;have a:=b.part;have u:=b.ax;have C:=b.pa;have D:=b.pl;have v:=b.lb;unfold named at i;split at i
 .rename_i E;have w:∃e g,Hw (if c.bm=0 then c.bu++[⟨[],h,c.cn⟩] else c.bu) j=e++[g]/\e.length<=h/\(∀d∈e,d.name.length<=h)/\g.name.length<=h+1/\(∀d∈e,∀j∈d.name,j<256)/\∀j∈g.name,j<256:=by
   by_cases k:c.bm=0
   .rw[G k,Nl];exact⟨c.bu,_,rfl,v,b.nm,qD,b.nc,λl hd=>qE⟩
   rw[N k];have m:=b.m10 q k;obtain⟨e,g,f⟩:∃e n,c.bu=e++[n]:=⟨c.bu.dropLast,c.bu.getLast m,(yzf m).symm⟩;have p:c.bu.length=e.length+1:=by rw[f];simp
   rw[f,Nl];refine⟨e,_,rfl,Q,λd a=>b.nm d<|by rw[f];simp[a],?_,λd a=>b.nc d<|by rw[f];simp[a],λl hd=>?_⟩
   .have:=b.nm g (by rw[f];simp);simp;exact this
   obtain hd|hd:=og.1 hd
   .exact b.nc g (by rw[f];simp) l hd
   simp at hd;omega
  let⟨e,g,k,F,l,m,p,x⟩:=w;rw[k]at i;cases i
  refine⟨r,qC,s,t,qC,a,u,b.L,qC,qC,λy z=>by have:=b.pn y z;omega,qB,?_,λ_ _=>qD,λn=>qE,b.pe,λd a=>(og.1 a).elim (p d) (λf=>qE)⟩;grind
 split at i
 .cases i
 exact Uf b i
theorem aok{b i:Sc}{d f:Nat}(h:jd b d)(s:f<256)(l:b.ax=6\/b.ax=12)(c:bx b f d=some i):jd i (d+1):=by
 have m:=h.op;have D:=h.bm;have n:=h.zero;have o:=h.gf;have E:=h.rows;have p:=h.part;have t:=h.ax;have y:=h.pa;have z:=h.pl;have A:=h.lb;have u:bx b f d=(pi b f).1.map λi=>if(pi b f).2=true then {i with ax:=if b.ax=12 then 13 else 2} else i:=by
  unfold bx;obtain h|h:=l<;>simp[h]
 rw[u]at c;unfold pi at c;split at c
 .simp only[if_true]at c;rcases df (whole b.L)with a|a
  .rw[a,G rfl,yxq]at c;cases c
   exact h.of m qC n o qC p qE rfl rfl rfl rfl qE qE
  grind
 have q:=h.m6 l;obtain⟨a,e,j⟩:∃a e,b.db=a++[e]:=⟨b.db.dropLast,b.db.getLast q,(yzf q).symm⟩;have v:b.db.length=a.length+1:=by rw[j];simp
 rw[j,Ny]at c;cases k:step b.L f with
 |none=>grind
 |some B=>
  rw[k]at c;cases c
  refine⟨m,qE,n,o,qE,p,t,aid h.L s k,qE,qE,?_,qE,λw x=>by have:=h.nm w x;omega,h.m10,λ_=>qE,by show b.fp.length=(a++[e+1]).length;rw[h.pe,v];simp,h.nc⟩;intro r g
  rcases og.1 (show r∈a++[e+1] from g)with g|g
  .have:=h.pn r (by rw[j];simp[g]);omega
  have C:=h.pn e (by rw[j];simp);simp at g;omega
theorem aol{e f:Sc}(c:jd e a)(k:e.ax=13\/e.ax=14)(d:sy e b=some f):jd f (a+1):=by
 have g:=c.op;have l:=c.bm;have h:=c.zero;have i:=c.gf;have m:=c.rows;have j:=c.part;have n:=c.ax;unfold sy at d
 (repeat' split at d)<;>first|(cases d;done)|(cases d;exact c.of g (by first|omega|grind) h i (by first|omega|grind) j (by first|omega|simp) rfl rfl rfl rfl (by first|omega|simp)<|by first|omega|simp)
def aoi{j k:Sc}(c:jd j a)(l:j.ax=15)(d:uv j b=some k):jd k (a+1):=by
 have e:=c.op;have m:=c.bm;have f:=c.zero;have g:=c.gf;have n:=c.rows;have h:=c.part;have i:=c.ax;unfold uv at d;split at d
 .cases d
  exact c.of e qC f g qC h i rfl rfl rfl rfl qC qC
 split at d
 .cases d
  exact c.of e qC f g qC h i rfl rfl rfl rfl qC qC
 split at d
 .cases d
  exact c.of e qC f g qC h i rfl rfl rfl rfl qC qC
 exact Uf c d
def acr{e f:Sc}(c:jd e a)(l:e.ax=17)(d:yt e b=some f):jd f (a+1):=by
 have g:=c.op;have m:=c.bm;have h:=c.zero;have i:=c.gf;have n:=c.rows;have j:=c.part;have k:=c.ax;unfold yt at d;split at d
 .cases d
 cases d
 exact c.of g qC h i qC j k rfl rfl rfl rfl qC qC
theorem aco{e:Sc}{d c:Nat}(b:jd e d)(h:c<=21:=by omega)(f:c≠10:=by omega)(i:c≠6:=by omega)(g:c≠12:=by omega):jd {e with ax:=c} d:=⟨b.op,b.bm,b.zero,b.gf,b.rows,b.part,h,b.L,b.pa,b.pl,b.pn,b.lb,b.nm,λa=>cb a f,(λa=>qE),b.pe,b.nc⟩
theorem aoj{e f:Sc}(d:jd e a)(k:e.ax=17\/e.ax=18)(c:pg e b=some f):jd f (a+1):=by
 have g:=d.op;have l:=d.bm;have h:=d.zero;have i:=d.gf;have m:=d.rows;have j:=d.part;have n:=d.ax;unfold pg at c;split at c
 .split at c
  .exact acr (aco d) rfl c
  cases c
 split at c
 .cases c
  exact d.of g qD h i qC j qE rfl rfl rfl rfl qD qE
 split at c
 .split at c
  .cases c
   exact d.of g qC h i qC j qD rfl rfl rfl rfl qD qD
  cases c
 split at c
 .cases c
 exact acr d Q c
theorem act{c d:Sc}(b:jd c a)(j:c.ax=19)(e:some (As c)=some d):jd d (a+1):=by
 have f:=b.op;have k:=b.bm;have g:=b.zero;have h:=b.gf;have l:=b.rows;have i:=b.part;have m:=b.ax;cases e
 unfold As;exact b.of f qC g h qC i qE rfl rfl rfl rfl qE qE
def aom{e f:Sc}(d:jd e a)(k:e.ax=19\/e.ax=20)(c:rj e b=some f):jd f (a+1):=by
 have g:=d.op;have l:=d.bm;have h:=d.zero;have i:=d.gf;have m:=d.rows;have j:=d.part;have n:=d.ax;unfold rj at c;split at c
 .split at c
  .exact act (aco d) rfl c
  cases c
 split at c
 .cases c
  exact d.of g qC h i qC j qD rfl rfl rfl rfl qD qD
 split at c
 .cases c
 exact act d Q c
theorem aop{f l:Sc}(e:jd f a)(m:b<256)(d:bx f b a=some l):jd l (a+1):=by
 have n:f.ax=6\/f.ax=12->jd l (a+1):=λc=>aok e m c d
 have h:=e.op;have p:=e.bm;have i:=e.zero;have j:=e.gf;have q:=e.rows;have k:=e.part;have o:=e.ax;unfold bx at d;by_cases c:f.ax=0
 .rw[G c]at d;exact aog e c d
 rw[N c]at d;clear c;by_cases c:f.ax=1
 .rw[G c]at d;exact aoh e c d
 rw[N c]at d;clear c;by_cases c:f.ax=2
 .rw[G c]at d;exact acn e d
 rw[N c]at d;clear c;by_cases c:f.ax=3
 .rw[G c]at d;exact acs e d
 rw[N c]at d;clear c;by_cases c:f.ax=4\/f.ax=5
 .rw[G c]at d;exact Ud e d
 rw[N c]at d;clear c;by_cases c:f.ax=6\/f.ax=12
 .grind
 rw[N c]at d;clear c;by_cases c:f.ax=7
 .rw[G c]at d;exact Uf e d
 rw[N c]at d;clear c;by_cases c:f.ax=8
 .rw[G c]at d;by_cases g:b=32
  .rw[G g]at d;cases d
   exact e.of h qC i j qC k qD rfl rfl rfl rfl qD qD
  grind
 rw[N c]at d;clear c;by_cases c:f.ax=9
 .rw[G c]at d;cases d
  split
  .exact e.of h qC i j qC k qD rfl rfl rfl rfl qD qD
  exact e.of h Q i j Q k o rfl rfl rfl rfl Q Q
 rw[N c]at d;clear c;by_cases c:f.ax=10
 .rw[G c]at d;exact aoo e c d
 rw[N c]at d;clear c;by_cases c:f.ax=11
 .rw[G c]at d;by_cases g:b=47
  .rw[G g]at d;exact acq e Q Q d
  grind
 rw[N c]at d;clear c;by_cases c:f.ax=13\/f.ax=14
 .rw[G c]at d;exact aol e c d
 rw[N c]at d;clear c;by_cases c:f.ax=15
 .rw[G c]at d;exact aoi e c d
 rw[N c]at d;clear c;by_cases c:f.ax=16
 .rw[G c]at d;by_cases g:b=47
  .rw[G g]at d;cases d
   exact e.of h qC i j qD k qD rfl rfl rfl rfl qD qD
  grind
 rw[N c]at d;clear c;by_cases c:f.ax=17\/f.ax=18
 .rw[G c]at d;exact aoj e c d
 rw[N c]at d;clear c;by_cases c:f.ax=19\/f.ax=20
 .rw[G c]at d;exact aom e c d
 rw[N c]at d;clear c;by_cases g:b=47
 .rw[G g]at d;cases d
  exact e.of h qC i j qC k qD rfl rfl rfl rfl qD qD
 grind
def avt(a:List Nat):(str a).size=a.length:=by simp[str,ByteArray.size]
def Qo(a:Sc)(c b:Nat)(d:ae)(f:ez d i a)(j:jd a b)(g:c<256)(k:b<=900):
  Calls prog 53 #[.pointer<|some ⟨i,0,none⟩,.int .u8 c,.int .i64 b] d (Sd i d<|bx a c b):=by
 have h:=j.sm k;have m:a.fp.length<=1000:=by have:=j.pa;omega
 have l:a.db.length<=1000:=by have:=j.pl;omega
 have p:a.bu.length<=1000:=by have:=j.lb;omega
 have q:∀n∈a.bu,(str n.name).size<=1000:=λn r=>by rw[avt];have:=j.nm n r;omega
 have s:∀o∈a.db,o<=1000:=λo t=>by have:=j.pn o t;omega
 have v:=j.ax;by_cases e:a.ax<=5\/a.ax=7\/a.ax=10\/13<=a.ax/\a.ax<=20/\a.ax≠16
 .exact au8 i a c b d f h g m l k j.m10 p q e
 obtain e|e|e|e|e|e:(a.ax=6\/a.ax=12)\/a.ax=8\/a.ax=9\/a.ax=11\/a.ax=16\/a.ax=21:=Q
 .exact avs i a c b d f h g (j.m6 e) s l e
 .exact avq i a c b d f g e
 .exact avr i a c b d f g e
 .exact avb i a c b d f g m l k e
 .exact avf i a c b d f g e
 exact avl i a c b d f g e
def aen:∀(d e:List Nat),(∀c∈d,c<256)->(∀c∈e,c<256)->d.map UInt8.ofNat=e.map UInt8.ofNat->d=e
 | [],[],_,_,_=>rfl
 | [],b::e,_,_,h=>by simp at h
 |a::d,[],_,_,h=>by simp at h
 |a::d,b::e,f,g,h=>by
  simp only[vw,yxs]at h;have j:a=b:=by
   have i:=f a qD;have k:=g b qD;have:=congrArg UInt8.toNat h.1;simp at this;omega
  rw[j,aen d e (λc i=>f c<|by simp[i]) (λc i=>g c<|by simp[i]) h.2]
def str_inj{a b:List Nat}(d:∀c∈a,c<256)(e:∀c∈b,c<256)(f:str a=str b):a=b:=by
 apply aen a b d e;have:=congrArg (λg:ag=>g.data.toList) f;simpa[str]using this
def Di(L:List Qja)(i k:Nat):Bool:=match L[k]?,L[i]? with
 |some a,some b=>a.cn&&decide (str a.name=str b.name)
 |_,_=>false
def zr(L:List Qja)(i:Nat):Nat->Bool
 |0=>false
 |k+1=>zr L i k||Di L i k
def Au(L:List Qja)(i:Nat):Nat->Bool
 |0=>false
 |k+1=>Au L i k||(Di L i k&&decide (k<i))
def ai8(c:List Qja)(d:Nat):∀n,zr c d n=true↔∃a,a<n/\Di c d a=true
 |0=>by simp[zr]
 |n+1=>by
  rw[zr,uz,ai8 c d n];constructor
  .rintro(⟨a,e,b⟩|h)
   .exact⟨a,Q,b⟩
   exact⟨n,Q,h⟩
  rintro⟨a,e,b⟩;by_cases f:a=n
  .subst f;exact .inr b
  exact .inl ⟨a,Q,b⟩
def ajd(d:List Qja)(c:Nat):∀n,Au d c n=true↔∃a,a<n/\a<c/\Di d c a=true
 |0=>by simp[Au]
 |n+1=>by
  rw[Au,uz,ajd d c n,Aw,xz];constructor
  .rintro(⟨a,f,b⟩|h)
   .exact⟨a,Q,b⟩
   exact⟨n,Q,h.2,h.1⟩
  rintro⟨a,f,b,e⟩;by_cases g:a=n
  .subst g;exact .inr ⟨e,b⟩
  exact .inl ⟨a,Q,b,e⟩
def Qf{d:List Qja}(h:∀l∈d,∀j∈l.name,j<256){e:Qja}(i:d[a]?=some e):Di d a b=true↔∃c,d[b]?=some c/\c.cn=true/\c.name=e.name:=by
 rw[Di,i];cases k:d[b]? with
 |none=>simp
 |some c=>
  simp only[Aw,xz,Option.some.injEq];constructor
  .rintro⟨f,g⟩;exact⟨c,rfl,f,str_inj (h c<|qy k) (h e<|qy i) g⟩
  rintro⟨m,rfl,f,g⟩;exact⟨f,by rw[g]⟩
def ak3{b:Sc}(j:∀q∈b.bu,∀p∈q.name,p<256){i:Qja}(c:b.bu[a]?=some i):vd b a↔((i.cn&&Au b.bu a b.bu.length)|| !zr b.bu a b.bu.length)=true:=by
 have v:=(jy.1 c).1;have r:zr b.bu a b.bu.length=false↔¬∃d,d<b.bu.length/\Di b.bu a d=true:=by
  rw[<-ai8];simp
 rw[uz,Aw,zyf,r,ajd];constructor
 .rintro⟨u,l,h⟩;rw[c]at l;cases l
  obtain⟨m,n,o,k,f,g,s⟩|h:=h
  .exact .inl ⟨m,n,Q,k,(Qf j c).2 ⟨o,f,g,s⟩⟩
  refine .inr λ⟨d,_,t⟩=>h ?_
  let⟨e,k,f,g⟩:=(Qf j c).1 t;exact⟨d,e,k,f,g⟩
 rintro(⟨m,d,k,f,g⟩|h)
 .let⟨e,l,n,o⟩:=(Qf j c).1 g;exact⟨i,c,.inl ⟨m,d,e,f,l,n,o⟩⟩
 refine⟨i,c,.inr λ⟨d,e,l,n,o⟩=>h ⟨d,(jy.1 l).1,(Qf j c).2 ⟨e,l,n,o⟩⟩⟩
def aw8:zeroCells119=(gw yu (.slice none 0 0) (.slice none 0 0)<|.slice none 0 0).toArray:=qF
def ez.new(b:ae):ez (b.alloc<|Obj.cells zeroCells119 119) b.heap.size yu:=by
 rw[aw8];exact⟨.slice none 0 0,.slice none 0 0,.slice none 0 0,bd.new b _ _,yyc _ _ _ _,yyc _ _ _ _,yyc _ _ _ _,(λc a=>by cases a),(λc a=>by cases a),(λc a=>by cases a)⟩
def ez.drewN{c:ae}{a:Nat}{d:Sc}(b:ez c a d):∀n,ez (c.drewN n) a d
 |0=>b
 |n+1=>(b.drewN n).drew
def Ue{b:ag}:∀(i:Nat)(a:Sc),ed b i=some a->jd a i
 |0,a,h=>by cases h;exact aof
 |i+1,a,h=>by
  simp only[ed,Ey]at h;let⟨e,c,d⟩:=h;exact aop (Ue i e c) (ms b i) d
def nw.wj{k:Sc}(p:nw w a k x y (aa b k.bu.length c)){h:Qja}(l:k.bu[d]?=some h)(g:Nat)(j:af)(m: [Value.string<|str h.name,I h.H,.bool h.cn][g]?=some j):w.cell? (O b<|d*3+g)=some j:=by
 have s:=(jy.1 l).1;have q:g<3:=by have:=(jy.1 m).1;simpa using this
 rw[p.o3.cellAt (d*3+g) Q];have n:∀(e:List Qja)(d:Nat),e[d]?=some h->(xb e)[d*3+g]?=some j:=by
  intro e
  induction e with
  |nil=>intro d f;simp at f
  |cons i e r=>
   intro d f
   have o:xb (i::e)=[Value.string<|str i.name,I i.H,.bool i.cn]++xb e:=by simp[xb]
   rw[o];cases d with
   |zero=>
    simp at f;subst f;rw[zyh,qo,oq<|qK q];exact m
   |succ d=>
    rw[sn qB];have:=r d (qK f);rw[<-this];congr 1;simp;omega
 exact n _ d l
def Fy(b:Nat)(a:ae):∀n,Below b a (a.drewN n)
 |0=>bp _ _
 |n+1=>(Fy b a n).trans (c:=(a.drewN n).drew) ⟨rfl,rfl,rfl,ah,λ_ _=>rfl⟩
def aaw(a:decide (s=t)=false):(s.toList==t.toList)=false:=by
 rcases df (s.toList==t.toList)with e|e
 .exfalso;rw[ra,yyn,yyn]at e;have:s=t:=va<|yzd.1 e;simp[this]at a
 exact e
def ints_at(c:g[a]?=some b):(ints g)[a]?=some (I b):=by simp[ints,c]
def aly(g:ag)(f:ae)(aP:g.size<=maxLen):
  Calls prog 37 #[.string g] f λd aX=>∃t v:Int,d=.returned (.tuple #[.int .i64 t,.int .i64 v])/\Fk g t v/\Below f.heap.size f aX:=by
 unfold maxLen at aP;by_cases aG:400<g.size
 .go_in;go_wp21;go_ret2;exact⟨1,0,rfl,.inl ⟨aG,rfl,rfl⟩,bp _ _⟩
 have z:g.size<=400:=Q
 go_in;go_wp21;go_loopw [5] (λi wr=>∃(a:Nat)(b:Sc),a<=g.size/\i=I a/\Y (ed g a=some b)/\Y (ez wr f.heap.size b)/\Y (Below f.heap.size f wr)) (λi _=>g.size-(intOf i).toNat)
 .exact⟨0,yu,ey _,rfl,rfl,ez.new f,(bp _ _).alloc ah _⟩
 obtain⟨a,b,k,rfl,s,o,r⟩:=hrel;by_cases w:a<g.size
 .have e:=J<|Cx g a w;go_wp21;go_call Qo f.heap.size b (g[a]'w).toNat a _ o.out (Ue a b s.out) (yxj _) Q as d a7 ⟨m,rfl,u,hd⟩;have A:=J<|r.trans u;clear u;obtain⟨j,c,rfl,h⟩|⟨c,rfl⟩:=hd
  .have l:Y (ed g (a+1)=some j):=by rw[Y,Yj s.out,<-e.out];exact c
   have a2:=J h;clear c h;go_wp21;go_roundw
   .exact⟨a+1,j,Q,qJ,l,a2,A⟩
   simp[intOf];omega
  have a0:Y (jt g a):=⟨b,s,k,λ_=>by rw[<-e.out];exact c,λd=>Q⟩;clear c;go_wp21;go_ret2;exact⟨3,a,rfl,.inr<|.inl ⟨z,rfl,a,rfl,a0⟩,A⟩
 have aK:a=g.size:=Q
 subst aK;have R:=Ue _ b s;have aZ:=R.pl;have b0:=R.lb;go_wp21;go_call avy f.heap.size b _ o.out (R.sm Q)as d a7 ⟨rfl,aE,W⟩;have a2:Y (ez a7 f.heap.size b):=by rw[W];exact o.drewN aE
 have A:Y (Below f.heap.size f a7):=by rw[W];exact r.trans<|Fy _ _ aE
 clear W o r;rcases df (jj b)with X|X
 .have a1:Y (Ng g b):=⟨s,X⟩;rw[X];clear X;go_wp21;go_loopw [8] (λi wr=>∃(c:Nat),c<=b.db.length/\i=I c/\Y (∀a j:Nat,a<c->b.db[a]?=some j->j<=40)/\Y (ez wr f.heap.size b)/\Y (Below f.heap.size f wr)) (λi _=>b.db.length-(intOf i).toNat)
  .exact⟨0,ey _,rfl,λa j k=>Q,a2,A⟩
  obtain⟨c,aO,rfl,C,o,r⟩:=hrel;let⟨T,S,bv,l,e⟩:=o.out;obtain⟨P,D,rfl⟩:∃P D,S=.slice P b.db.length D:=by
   obtain⟨d,qa⟩|⟨Z,aN,_,d,_⟩:=e.o2.2
   .exact⟨none,0,by rw[d,qa]⟩
   exact⟨_,_,d⟩
  have aH:=l.cell<|Lx b T _ bv;by_cases w:c<b.db.length
  .have a4:=R.pe;let⟨Z,a8,d,x,U⟩:=e.o2.form Q;simp only[Value.slice.injEq]at d;obtain⟨rfl,_,rfl⟩:=d;obtain⟨a6,V,rfl,n,B⟩:=e.o1.form Q;have a3:=l.cell<|Xt b _ _ bv;obtain⟨j,q⟩:∃j,b.db[c]?=some j:=⟨_,dy w⟩;obtain⟨h,p⟩:∃h,b.fp[c]?=some h:=⟨_,dy (show c<b.fp.length from Q)⟩;have a9:wr.cell? (O Z c)=some (I j):=by rw[e.o2.cellAt c Q];exact ints_at q
   have a5:wr.cell? (O a6 c)=some (I h):=by rw[e.o1.cellAt c Q];exact ints_at p
   have aS:(0:Int)<=c:=Q
   have aT:(c:Int)<b.db.length:=Q
   have aU:(c:Int)<b.fp.length:=Q
   clear l e n B x U;by_cases E:40<j
   .have M:decide ((j:Int)>40)=true:=qB
    have B:Y (Fc b h):=⟨c,p,⟨j,q,E⟩,λF H k n=>C.out F H k n⟩;clear q p C;go_wp21;go_region;go_wp21;go_ret2;exact⟨2,h,rfl,.inr<|.inr ⟨z,b,a1,.inl ⟨rfl,h,rfl,B⟩⟩,r.trans<|Fy _ _ 1⟩
   have M:decide ((j:Int)>40)=false:=qB
   have F:Y (∀a B:Nat,a<c+1->b.db[a]?=some B->B<=40):=λa B k n=>by
    by_cases d:a=c
    .subst d;rw[q]at n;cases n;omega
    exact C a B Q n
   clear q p C E;go_wp21;go_roundw
   .exact⟨c+1,Q,qJ,F,o,r⟩
   simp[intOf];omega
  have aA:Y (Mz b):=λa j k=>C a j (by have:=(jy.1 k).1;omega) k
  clear l e;go_wp21;clear aH;go_loopw [9] (λi wr=>∃(c:Nat),c<=b.bu.length/\i=I c/\Y (∀a:Nat,a<c->¬vd b a)/\Y (ez wr f.heap.size b)/\Y (Below f.heap.size f wr)) (λi _=>b.bu.length-(intOf i).toNat)
  .exact⟨0,ey _,rfl,λa k=>Q,o,r⟩
  obtain⟨c,aO,rfl,V,a3,a4⟩:=hrel;clear o r;let⟨T,S,bv,l,e⟩:=a3.out;obtain⟨P,D,rfl⟩:∃P D,bv=.slice P b.bu.length D:=by
   obtain⟨d,qa⟩|⟨Z,aN,_,d,_⟩:=e.o3.2
   .exact⟨none,0,by rw[d,qa]⟩
   exact⟨_,_,d⟩
  have a9:=l.cell<|Jd b T S _;by_cases w:c<b.bu.length
  .let⟨Z,a8,d,x,U⟩:=e.o3.form Q;simp only[Value.slice.injEq]at d;obtain⟨rfl,_,rfl⟩:=d;obtain⟨m,n⟩:∃m,b.bu[c]?=some m:=⟨_,dy w⟩;have E:=J n;have aL:=J<|ak3 R.nc n;clear l e n;go_wp21;clear a9 x U;go_loopw [10,11,12] (λaW aV i wr=>∃(a:Nat),a<=b.bu.length/\i=I a/\aW=.bool (Au b.bu c a)/\aV=.bool (zr b.bu c a)/\Y (ez wr f.heap.size b)/\Y (Below f.heap.size f wr)) (λ_ _ i _=>b.bu.length-(intOf i).toNat)
   .exact⟨0,ey _,rfl,rfl,rfl,a3,a4⟩
   obtain⟨a,b1,rfl,rfl,rfl,F,H⟩:=hrel;clear a3 a4;let⟨T,S,bv,l,e⟩:=F.out;obtain⟨b2,a8,rfl,x,U⟩:=e.o3.form Q;have a9:=l.cell<|Jd b T S _;have aC:=e.wj E 0 _ rfl;have b3:=e.wj E 1 _ rfl;have aQ:=e.wj E 2 _ rfl;rw[yzp]at aC;have aS:(0:Int)<=c:=Q
   have aT:(c:Int)<b.bu.length:=Q
   by_cases aM:a<b.bu.length
   .obtain⟨h,p⟩:∃h,b.bu[a]?=some h:=⟨_,dy aM⟩;have aD:=e.wj p 0 _ rfl;have aR:=e.wj p 2 _ rfl;rw[yzp]at aD;have aU:(0:Int)<=a:=Q
    have b4:(a:Int)<b.bu.length:=Q
    have a5:Y (Di b.bu c a=(h.cn&&decide (str h.name=str m.name))):=by rw[Y,Di,p,E.out]
    have n:Y (Au b.bu c (a+1)=(Au b.bu c a||((h.cn&&decide (str h.name=str m.name))&&decide (a<c)))):=by rw[Y,Au,a5.out]
    have q:Y (zr b.bu c (a+1)=(zr b.bu c a||(h.cn&&decide (str h.name=str m.name)))):=by rw[Y,zr,a5.out]
    generalize Au b.bu c a=M at n|-;generalize zr b.bu c a=B at q|-;generalize str h.name=aF at aD n q;generalize str m.name=nq at aC n q;generalize h.cn=a6 at aR n q;clear l e p a5 x;rcases df (decide (a<c))with aB|aB
    all_goals have aI:decide ((a:Int)<c)=decide (a<c):=qD
    all_goals rw[aB]at aI n
    all_goals (
     obtain a5|a5:=df a6
     .subst a5;rcases df (decide (aF=nq))with y|y
      .rw[y]at n q;have aJ:aF=nq:=qK y
       subst aJ;clear y;obtain K|K:=df M<;>obtain L|L:=df B<;>subst K<;>subst L
       all_goals (
        go_wp21;go_region;go_wp21;go_roundw
        .exact⟨a+1,Q,qJ,by rw[n.out];rfl,by rw[q.out];rfl,F.drew,H.trans<|Fy _ _ 1⟩
        simp[intOf];omega)
      have aY:=aaw y;rw[y]at n q;obtain K|K:=df M<;>obtain L|L:=df B<;>subst K<;>subst L
      all_goals (
       go_wp21;go_region;go_wp21;go_roundw
       .exact⟨a+1,Q,qJ,by rw[n.out];rfl,by rw[q.out];rfl,F.drew,H.trans<|Fy _ _ 1⟩
       simp[intOf];omega)
     subst a5;obtain K|K:=df M<;>obtain L|L:=df B<;>subst K<;>subst L
     all_goals (
      go_wp21;go_region;go_wp21;go_roundw
      .exact⟨a+1,Q,qJ,by rw[n.out];rfl,by rw[q.out];rfl,F.drew,H.trans<|Fy _ _ 1⟩
      simp[intOf];omega))
   have aD:a=b.bu.length:=Q
   subst aD;have n:=aL;generalize Au b.bu c b.bu.length=M at n|-;generalize zr b.bu c b.bu.length=B at n|-;have aF:Y (∀t v:Int,vd b c->t=4->v=m.H->Fk g t v):=λt v u aI qa=> .inr<|.inr ⟨z,b,a1,.inr<|.inl ⟨aA,aI,c,m,E,qa,u,V⟩⟩
   have aB:Y (¬vd b c->∀a:Nat,a<c+1->¬vd b a):=λu a k=>by
    by_cases d:a=c
    .subst d;exact u
    exact V a Q
   generalize m.cn=aJ at aQ n;clear l e x;obtain a5|a5:=df aJ<;>obtain K|K:=df M<;>obtain L|L:=df B<;>subst a5<;>subst K<;>subst L
   all_goals (
    simp only[Bool.and_true,Bool.and_false,Bool.true_and,Bool.false_and,Bool.or_true,yzs,Bool.true_or,Bool.false_or,Bool.not_true,Bool.not_false,iff_true,iff_false,Ax]at n;have q:Y _:=n;clear n;go_wp21
    first
     |(go_region
       go_wp21;go_ret2;exact⟨4,m.H,rfl,aF _ _ q rfl rfl,H.trans<|Fy _ _ 1⟩)
     |(go_roundw
       case rel=>exact⟨c+1,Q,qJ,aB q,F,H⟩
       simp[intOf];omega))
  have n:Y (∀a,¬vd b a):=λa k=>by
   by_cases d:a<c
   .exact V a d k
   let⟨B,q,_⟩:=k;have:=(jy.1 q).1;omega
  clear l e V;go_wp21;go_ret2;exact⟨0,0,rfl,.inr<|.inr ⟨z,b,a1,.inr<|.inr ⟨aA,rfl,rfl,n⟩⟩,a4⟩
 have a0:Y (jt g g.size):=⟨b,s,ah,λc=>cb c<|Nat.lt_irrefl _,λ_=>X⟩;rw[X];clear X;go_wp21;go_ret2;exact⟨3,g.size,rfl,.inr<|.inl ⟨z,rfl,g.size,rfl,a0⟩,A⟩
def next{b c:Sc}(e:ed s a=some b)(d:bx b (au s a) a=some c):ed s (a+1)=some c:=by rw[Yj e,d]
def np{b:Sc}(d:ed s a=some b)(f:a<s.size)(c:bx b (au s a) a=none):jt s a:=⟨b,d,Q,λ_=>c,λe=>Q⟩
def kj{b:Sc}(d:ed s a=some b)(f:a=s.size)(c:jj b=false):jt s a:=⟨b,d,Q,λe=>Q,λ_=>c⟩
def ub(x:ag):List Nat:=x.data.toList.map UInt8.toNat
def ma(l:List ft):List Qja:=(l.filter λx=>decide (x.name.size≠0)).map λx=>⟨ub x.name,x.H, !x.want⟩
def Mx(pa pl:List Nat)(lg:Int):Prop:=
 pa.length=pl.length/\((lg=-1/\∀(k n:Nat),pl[k]?=some n->n<=40)\/
 ∃k a n:Nat,lg=a/\pa[k]?=some a/\pl[k]?=some n/\40<n/\∀k' n':Nat,k'<k->pl[k']?=some n'->n'<=40)
structure Nt(x:Sc)(lg:Int)(bh:List ft):Prop where
 bu:x.bu=ma bh
 bk:Mx x.fp x.db lg
def ah8{c i:ag}{b:Sc}(d:∀g j,bn i g=true->bx b g j=some b):∀(f a:Nat),ed c a=some b->ed c (skipF c i f a)=some b
 |0,a,h=>h
 |f+1,a,h=>by
  unfold skipF;split
  .rename_i e;simp[br]at e;exact ah8 d f (a+1)<|next h<|d _ _ e.2
  exact h
def Md{b:Sc}(d:∀c f,bn t c=true->bx b c f=some b)(e:ed s a=some b):ed s (skip s t a)=some b:=ah8 d _ a e
theorem ah7(b d:ag):∀(f a:Nat),b.size<=f+a->br b d (skipF b d f a)=false
 |0,a,h=>by
  have c:¬a<b.size:=Q
  simp[skipF,br,c]
 |f+1,a,h=>by
  unfold skipF;split
  .exact ah7 b d f (a+1) Q
  grind
def Mc:br S T (skip S T j)=false:=ah7 S T _ j Q
def xd(b:br s t a=false):skip s t a=a:=by
 unfold skip;cases s.size-a with
 |zero=>rfl
 |succ c=>rw[skipF,b];rfl
def Ar{i:Nat}(a:br s t i=true):skip s t i=skip s t (i+1):=by
 have b:=vo a;unfold skip;rw[show s.size-i=(s.size-(i+1))+1 from Q,skipF,G a]
def wi:bn dh i=true↔i=32:=by simp[bn,dh];omega
def Ak:bn fc i=true↔i=32\/i=59\/i=10:=by simp[bn,fc];omega
def ads:bn parts i=true↔i=59\/i=10:=by simp[bn,parts];omega
structure Ay(s:ag)(j:Nat)(x:Sc):Prop where
 sep:j<s.size->bx x (au s j) j=qk x (au s j)
 fin:jj x=decide (x.op=0)
def aio(a:Sc)(c:a.ax=7)(b d:Nat):bx a b d=qk a b:=by
 simp[bx,c]
def Mi(a:Sc)(d:a.ax=0)(b c:Nat):bx a b c=begin' a b c:=by
 simp[bx,d]
def Nr{b:Sc}(c:b.ax=7):Ay s a b:=⟨λ_=>aio b c _ _,by simp[jj,c]⟩
theorem ak8{b:Sc}(f:ed s a=some b)(e:Ay s a b):∃d,ed s (skip s dh a)=some d/\Ay s (skip s dh a) d/\(d=b\/d={b with ax:=7}):=by
 cases c:br s dh a with
 |false=>rw[xd c];grind
 |true=>
  have i:=vo c;have g:au s a=32:=by simp[br]at c;exact(wi _).1 c.2
  have j:=next f (by rw[e.sep i,g];rfl)
  rw[Ar c];refine⟨{b with ax:=7},Md (λh l k=> ?_) j,Nr rfl,.inr rfl⟩;rw[aio _ rfl,(wi h).1 k];rfl
theorem akp{a b:Sc}(c:b=a\/b={a with ax:=7}):b.op=a.op/\b.bu=a.bu/\b.fp=a.fp/\b.db=a.db:=by
 grind
def Nt.of{a b:Sc}{d:List ft}(c:Nt a p d)(e:b.bu=a.bu:=by omega)(f:b.fp=a.fp:=by omega)(g:b.db=a.db:=by omega):Nt b p d:=⟨e.trans c.bu,by rw[f,g];exact c.bk⟩
structure Ry(s:ag)(i:Nat)(x:Sc):Prop where
 run:ed s i=some x
 le:i<=s.size
 head:x.ax=0\/(Ay s i x/\(i=s.size\/au s i=59\/au s i=10\/(au s i=125/\0<x.op)))
structure aaj(s:ag)(j:Nat)(x:Sc):Prop where
 run:ed s j=some x
 le:j<=s.size
 out:(j=s.size/\jj x=decide (x.op=0))\/(j<s.size/\au s j=125/\0<x.op/\bx x 125 j=some {x with op:=x.op-1,ax:=7})
def ak7{b:Sc}(g:Ry s a b):∃c,ed s (skip s fc a)=some c/\c.op=b.op/\c.bu=b.bu/\c.fp=b.fp/\c.db=b.db/\(c.ax=0\/(skip s fc a=a/\c=b/\Ay s a b/\(a=s.size\/(au s a=125/\0<b.op)))):=by
 have k:∀c:Sc,c.ax=0->∀i l,bn fc i=true->bx c i l=some c:=λc p i l h=>by
  rw[Mi c p];have:=(Ak i).1 h;rw[begin',G this]
 obtain m|⟨n,o⟩:=g.head
 .exact⟨b,Md (k b m) g.run,rfl,rfl,rfl,rfl,.inl m⟩
 by_cases d:a<s.size/\(au s a=59\/au s a=10)
 .have j:br s fc a=true:=by simp[br,d.1];exact(Ak _).2 (.inr d.2)
  have f:ed s (a+1)=some {b with ax:=0}:=next g.run (by
   rw[n.sep d.1];rw[qk,N,G d.2])
  rw[Ar j];exact⟨{b with ax:=0},Md (k _ rfl) f,rfl,rfl,rfl,rfl,.inl rfl⟩
 have j:br s fc a=false:=by
  cases h:br s fc a with
  |false=>rfl
  |true=>
   have f:=vo h;have q:bn fc (au s a)=true:=by simp[br]at h;exact h.2
   rw[Ak]at q;omega
 rw[xd j];refine⟨b,g.run,rfl,rfl,rfl,rfl,.inr ⟨rfl,rfl,n,?_⟩⟩;obtain e|e|e|e:=o
 .exact .inl e
 .by_cases f:a<s.size
  .omega
  exact .inl (by have:=g.le;omega)
 .by_cases f:a<s.size
  .omega
  exact .inl (by have:=g.le;omega)
 exact .inr e
def Hi(s:ag)(i:Nat)(r:cj×Bool)(op:Nat):Prop:=
 (r.2=true/\r.1.op=op/\i<r.1.H/\r.1.H<=s.size/\∃y,ed s r.1.H=some y/\Ay s r.1.H y/\y.op=op/\Nt y r.1.bk r.1.bh)\/(r.2=false/\jt s r.1.H)
def Nf(s:ag)(row:cj->cj×Bool)(D:Nat):Prop:=∀(p:cj)(x:Sc),Ry s p.H x->x.op=p.op->p.op<=5->6<=p.op+D->Nt x p.bk p.bh->
 ((row p).2=true/\(row p).1.op=p.op/\p.H<=(row p).1.H/\∃y,aaj s (row p).1.H y/\y.op=p.op/\Nt y (row p).1.bk (row p).1.bh)\/((row p).2=false/\jt s (row p).1.H)
def ase:(pk S j=-1\/br S parts j=true\/(decide (0<k)&&decide (pk S j=125))=true)↔(¬j<S.size\/(j<S.size/\(au S j=59\/au S j=10\/(au S j=125/\0<k)))):=by
 by_cases a:j<S.size
 .rw[fh a];have b:¬((au S j:Int)=-1):=Q
  simp[br,a,b,ads];omega
 rw[qj a];simp[a]
theorem atr{row:cj->cj×Bool}
  (a9:∀(b:cj)(i:Sc),ed s b.H=some i->i.ax=0->b.H<s.size->¬bn fc (au s b.H)=true->¬(au s b.H=125/\0<b.op)->i.op=b.op->b.op<=5->6<=b.op+1+a->Nt i b.bk b.bh->Hi s b.H (iw row s b) b.op):Nf s (Lv row s) (a+1):=by
 have a1:∀(g:Nat)(b:cj)(i:Sc),s.size+1<=g+b.H->Ry s b.H i->i.op=b.op->b.op<=5->6<=b.op+(a+1)->Nt i b.bk b.bh->
   ((rowL' row s g b).2=true/\(rowL' row s g b).1.op=b.op/\b.H<=(rowL' row s g b).1.H/\∃m,aaj s (rowL' row s g b).1.H m/\m.op=b.op/\Nt m (rowL' row s g b).1.bk (rowL' row s g b).1.bh)\/((rowL' row s g b).2=false/\jt s (rowL' row s g b).1.H):=by
  intro g
  induction g with
  |zero=>intro b i aA n;have:=n.le;omega
  |succ g aB=>
   intro b i aA n x A R F
   let⟨m,B,a0,aK,aJ,aL,u⟩:=ak7 n;have S:=si s fc b.H n.le;have H:=An s fc b.H n.le;have K:=Mc s fc b.H;unfold rowL';simp only;generalize skip s fc b.H=h at B u S K H;have V:=F.of aK aJ aL;by_cases k:pk s h=-1\/uq s {b with H:=h}=true
   .rw[G k];refine .inl ⟨rfl,rfl,H,m,⟨B,S,?_⟩,by rw[a0,x],V⟩;show(h=s.size/\_)\/_
    have d:h<s.size->au s h=125/\0<b.op:=λf=>by
     obtain k|k:=k
     .rw[fh f]at k;omega
     simp[uq,fh f]at k;omega
    by_cases f:h<s.size
    .let⟨c,j⟩:=d f;refine .inr ⟨f,c,Q,?_⟩;obtain o|⟨e,rfl,v,_⟩:=u
     .rw[Mi m o];rw[begin',N,G rfl,G]
     have:=v.sep (by rw[<-e];exact f);rw[<-e,c]at this;rw[this];grind[qk]
    refine .inl ⟨Q,?_⟩;obtain o|⟨e,rfl,v,_⟩:=u
    .simp[jj,o]
    exact v.fin
   rw[N k];have f:h<s.size:=by
    by_cases f:h<s.size
    .exact f
    exact cb (.inl<|qj f) k
   have W:¬(au s h=125/\0<b.op):=λd=>k<|.inr<|by simp[uq,fh f,d.1,d.2]
   have o:m.ax=0:=by
    obtain o|⟨e,rfl,v,O⟩:=u
    .exact o
    obtain O|O:=O
    .omega
    exact cb ⟨by rw[e];exact O.1,Q⟩ W
   have a3:¬bn fc (au s h)=true:=λd=>by simp[br,f,d]at K
   have X:=a9 {b with H:=h} m B o f a3 W (by rw[a0,x]) A qE V;generalize iw row s {b with H:=h}=a2 at X;let⟨j,aM⟩:=a2;obtain⟨p,l,a4,C,aN,U,L,y,M⟩|⟨p,l⟩:=X
   .simp only at p l C U L y M a4;subst p;simp only[if_true];let⟨Z,D,z,a5⟩:=ak8 U L;let⟨E,aG,aF,aH⟩:=akp a5;have T:=si s dh j.H C;have a6:=An s dh j.H C;have P:=Mc s dh j.H;generalize skip s dh j.H=c at D z T a6 P;have qa:=ase s c j.op;by_cases w:pk s c=-1\/br s parts c=true\/uq s {j with H:=c}=true
    .rw[G w];have r:=qa.1 w;have:=aB {j with H:=c} Z qE ⟨D,T,.inr ⟨z,?_⟩⟩ qE qE qE (M.of aG aF aH)
     .grind
     grind
    rw[N w];refine .inr ⟨rfl,?_⟩;show jt s c
    have r:¬(¬c<s.size\/(c<s.size/\(au s c=59\/au s c=10\/(au s c=125/\0<j.op)))):=λd=>w<|qa.2 d
    have t:c<s.size:=by
     by_cases d:c<s.size
     .exact d
     exact cb (.inl d) r
    refine np D t ?_;rw[z.sep t];have a8:¬au s c=32:=λd=>by
     have a7:=(wi _).2 d;simp[br,t,a7]at P
    grind[qk]
   simp only at p l;subst p;simp only[Ax,if_false];grind
 intro b i n x A R F
 exact a1 (s.size+1) b i Q n x A R F
def prun(s:ag)(i:Nat):Nat->Option St
 |0=>some ⟨0,0,0,0⟩
 |k+1=>(prun s i k).bind λst=>step st<|au s<|i+k
def agd(c:ag)(a b:Nat):∀k,a+k<=b->run (c.extract a b) k=prun c a k
 |0,_=>rfl
 |k+1,h=>by
  rw[run,prun,agd c a b k Q,ty c a b k]
def Ty(a:St):lx a=true↔a.m=3\/a.m=9\/a.m=10:=by simp[lx];omega
def Oo(a:St):lx a=false↔¬(a.m=3\/a.m=9\/a.m=10):=by
 rw[<-Ty];simp
theorem aax{g f:St}(b:kh g a=some f):f.m=if a=40 then 0 else if a=91 then 4 else if a=92 then 3 else 1:=by
 unfold kh at b;grind
theorem acc{c e:St}(b:step c a=some e)(h:lx c=false):lx e=decide (a=92):=by
 rw[Oo]at h;have f:(e.m=3\/e.m=9\/e.m=10)↔a=92:=by
  unfold step at b;split at b
  .have:=aax b;grind
  split at b
  .unfold nr at b;split at b
   .rename_i d;have g:=(Eh a).1 d.2;grind
   split at b
   .grind
   split at b
   .grind
   split at b
   .grind
   have:=aax b;grind
  split at b
  .omega
  split at b
  .unfold rz at b;grind
  have g:c.m=4\/c.m=5\/c.m=6\/c.m=7\/c.m=8:=Q
  let⟨k,l,i,j⟩:=c;simp only at g;obtain rfl|rfl|rfl|rfl|rfl:=g
  .rw[Ai]at b
   grind
  .rw[Da]at b
   grind
  .rw[Aj]at b
   grind
  .rw[Bp]at b
   grind
  rw[Bq]at b
  repeat' split at b
  all_goals grind
 by_cases d:a=92
 .rw[d];simp;rw[Ty];exact f.2 d
 rw[wu d,Oo];omega
theorem anu{c f:St}(b:step c a=some f)(d:lx c=true):lx f=false:=by
 rw[Ty]at d;rw[Oo];unfold step at b;obtain e|e|e:=d
 .grind
 .simp[e,oi]at b;rw[<-b.2];simp
 simp[e,oi]at b;rw[<-b.2];simp
theorem Qk(d:ag)(c:Nat):∀(f b:Nat),c<=b->d.size<f+b->(∀a,prun d c (b-c)=some a->lx a=false)->
  (∀e a,b<=e->e<ic d f b->prun d c (e-c)=some a->au d e=47->lx a=true)/\(ic d f b<d.size->au d (ic d f b)=47/\∀a,prun d c (ic d f b-c)=some a->lx a=false)
 |0,b,r,y,h3=>by
  refine⟨λe a g h=>?_,λg=>?_⟩
  .simp[ic]at h;omega
  simp[ic]at g
 |f+1,b,r,y,h3=>by
  unfold ic;by_cases v:b<d.size
  .rw[G v];by_cases n:au d b=47
   .grind
   rw[N n];have q:∀i,c<=i->prun d c (i+1-c)=(prun d c<|i-c).bind λa=>step a (au d i):=λi z=>by
    rw[show i+1-c=(i-c)+1 from Q,prun,show c+(i-c)=i from Q]
   by_cases o:au d b=92
   .rw[G o];have p:∀a,prun d c (b+1-c)=some a->lx a=true:=λa j=>by
     rw[q b r,Ey]at j;let⟨k,g,h⟩:=j;rw[acc h<|h3 k g,o];rfl
    have x:∀a,prun d c (b+2-c)=some a->lx a=false:=λa j=>by
     rw[show b+2=(b+1)+1 from rfl,q (b+1) Q,Ey]at j;let⟨k,g,h⟩:=j;exact anu h<|p k g
    let⟨s,t⟩:=Qk d c f (b+2) Q Q x;refine⟨λe a g h l m=>?_,t⟩;by_cases u:e=b
    .subst u;omega
    by_cases w:e=b+1
    all_goals grind
   rw[N o];have p:∀a,prun d c (b+1-c)=some a->lx a=false:=λa j=>by
    rw[q b r,Ey]at j;let⟨k,g,h⟩:=j;rw[acc h<|h3 k g];simp[o]
   let⟨s,t⟩:=Qk d c f (b+1) Q Q p;grind
  grind
def Qji(a:List Nat)(b:Nat):Bj (a++[b])=a++[b+1]:=by
 unfold Bj;simp
def ais(a:Sc)(e:a.ax=6\/a.ax=12)(b c:Nat)(h:¬(b=47/\lx a.L=false)):bx a b c=(step a.L b).map λf=>{a with L:=f,db:=Bj a.db}:=by
 have g:bx a b c=(pi a b).1.map λd=>if(pi a b).2=true then {d with ax:=if a.ax=12 then 13 else 2} else d:=by
  unfold bx;obtain h|h:=e<;>simp[h]
 rw[g];rw[pi,N h];simp only[Option.map_map];rfl
theorem air(a:Sc)(d:a.ax=6\/a.ax=12)(b:Nat)(h:lx a.L=false):bx a 47 b=if whole a.L=true then some {a with ax:=if a.ax=12 then 13 else 2} else none:=by
 have e:bx a 47 b=(pi a 47).1.map λc=>if(pi a 47).2=true then {c with ax:=if a.ax=12 then 13 else 2} else c:=by
  unfold bx;obtain h|h:=d<;>simp[h]
 rw[e];grind[pi]
def aw2{a:St}(b:whole a=true):lx a=false:=by
 rw[Oo];simp[whole]at b;omega
def anz(b:uu s=some a):kw s a:=(Ik s.size 0 ⟨0,0,0,0⟩ (t:=s) rfl Q).1 a b
def ajs(a:uu s=none):iu s:=(Ik s.size 0 ⟨0,0,0,0⟩ (t:=s) rfl Q).2 a
theorem af0{c:ag}{a:Nat}{b:Sc}{d:List Nat}(m:ed c a=some b)(n:b.ax=6\/b.ax=12)(g:b.L=⟨0,0,0,0⟩)(i:b.db=d++[0])(q:a<=c.size):
  ∀(k:Nat)(e:St),a+k<=bw c a->prun c a k=some e->ed c (a+k)=some {b with L:=e,db:=d++[k]}
 |0,e,_,h=>by
  cases h
  have f:({b with L:=⟨0,0,0,0⟩,db:=d++[0]}:Sc)=b:=by cases b;simp at g i;subst g i;rfl
  rw[f];exact m
 |k+1,e,v,h=>by
  rw[prun,Ey]at h;let⟨f,o,s⟩:=h;have t:=af0 m n g i q k f Q o;let⟨u,_⟩:=Qk c a (c.size+1) a ah Q (λe l=>by rw[xx]at l;cases l;rfl);have r:¬(au c (a+k)=47/\lx f=false):=λj=>by
   have:=u (a+k) f Q (by show a+k<bw c a;omega) (by rw[yyi];exact o) j.1;grind
  have p:bx {b with L:=f,db:=d++[k]} (au c<|a+k) (a+k)=some {b with L:=e,db:=d++[k+1]}:=by
   rw[ais {b with L:=f,db:=d++[k]} n _ _ r];simp only;rw[s,Qji];rfl
  exact next t p
def aiz{a:Sc}(b:a.ax=6\/a.ax=12):jj a=false:=by
 obtain h|h:=b<;>simp[jj,h]
theorem af2{d:Sc}(u:ed s a=some d)(e:d.ax=6\/d.ax=12)(v:d.L=⟨0,0,0,0⟩)(w:d.db=g++[0])(m:a<=s.size):
  ((dx s a Z).2.2.2=true/\a<(dx s a Z).1/\(dx s a Z).1<=s.size/\(dx s a Z).2.2.1=(if 40<(dx s a Z).2.1.size/\Z=-1 then(a:Int)else Z)/\
   ∃b,b.a=eo (dx s a Z).2.1/\ed s (dx s a Z).1=some {d with L:=b,db:=g++[(dx s a Z).2.1.size],ax:=if d.ax=12 then 13 else 2})\/
  ((dx s a Z).2.2.2=false/\jt s (dx s a Z).1):=by
 have B:=Es s (s.size+1) a m;have K:a<=bw s a:=B;have E:bw s a<=s.size:=Er s _ _;have F:=Ws s a m;let⟨x,o⟩:=Qk s a (s.size+1) a ah Q (λb r=>by rw[xx]at r;cases r;rfl);have t:=af0 u e v w m;have i:=agd s a<|bw s a;rcases hf:uu (s.extract a<|bw s a)with _|c
 rotate_left
 .have l:dx s a Z=(a+c,fo,Z,false):=by simp only[dx,hf]
  rw[l];refine .inr ⟨rfl,?_⟩;show jt s (a+c)
  let⟨b,h,H,p,q⟩:=anz hf;have f:=t c b Q qE;by_cases y:c<(s.extract a<|bw s a).size
  .refine np f Q ?_;have k:¬(au s (a+c)=47/\lx b=false):=λj=>by
    have:=x (a+c) b Q (by show a+c<bw s a;omega) qE j.1;grind
   rw[ais {d with L:=b,db:=g++[c]} e _ _ k];have:=p y;rw[ty s a (bw s a) c]at this;grind
  have C:c=(s.extract a<|bw s a).size:=Q
  have z:=q C;by_cases k:bw s a<s.size
  .refine np f Q ?_;have j:a+c=bw s a:=Q
   let⟨n,A⟩:=o k;have D:au s (bw s a)=47:=n;rw[j,D,air {d with L:=b,db:=g++[c]} e _<|A b<|by show prun s a (bw s a-a)=some b;grind];grind
  exact kj f Q<|aiz e
 have l:dx s a Z=(if pk s (a+(s.extract a<|bw s a).size)=47 then(a+(s.extract a<|bw s a).size+1,s.extract a<|bw s a,if 40<(s.extract a<|bw s a).size/\Z=-1 then(a:Int)else Z,true)else(a+(s.extract a<|bw s a).size,s.extract a<|bw s a,if 40<(s.extract a<|bw s a).size/\Z=-1 then(a:Int)else Z,false)):=by simp only[dx,hf]
 rw[l];let⟨b,p,q⟩:=ajs hf;have f:=t (s.extract a<|bw s a).size b Q qE;have j:a+(s.extract a<|bw s a).size=bw s a:=Q
 by_cases h:pk s (a+(s.extract a<|bw s a).size)=47
 .rw[G h];let⟨A,y⟩:=ho (s:=s) (i:=a+(s.extract a<|bw s a).size) (by rw[h];decide);refine .inl ⟨rfl,qC,qC,rfl,b,?_,?_⟩
  .show b.a=eo (s.extract a<|bw s a)
   rw[eo,p]
  refine next f ?_
  have z:au s (a+(s.extract a<|bw s a).size)=47:=by rw[y]at h;omega
  rw[z,air {d with L:=b,db:=g++[(s.extract a<|bw s a).size]} e _<|aw2 q];grind
 rw[N h];refine .inr ⟨rfl,?_⟩;have y:¬bw s a<s.size:=λk=>by
  have n:au s (bw s a)=47:=(o k).1;apply h;rw[j,fh k,n];rfl
 exact kj f Q<|aiz e
theorem Mx.more{l d:List Nat}{lg:Int}(c:Mx l d lg)(i f:Nat):Mx (l++[i]) (d++[f]) (if 40<f/\lg=-1 then(i:Int)else lg):=by
 obtain⟨m,c⟩:=c;refine⟨by simp[m],?_⟩;obtain⟨rfl,c⟩|⟨e,q,k,rfl,n,o,s,t⟩:=c
 .by_cases g:40<f
  .rw[G ⟨g,rfl⟩];refine .inr ⟨d.length,i,f,rfl,by rw[<-m];simp,qD,g,λh j a b=> ?_⟩;grind
  grind
 rw[N<|λp=>Q];have r:=(jy.1 n).1;have b:=(jy.1 o).1;refine .inr ⟨e,q,k,rfl,qE,qE,s,λh j a g=> ?_⟩;grind
def Ur:bn ju i=true↔48<=i/\i<=57:=by simp[bn,ju];omega
def adt:bn ws i=true↔(48<=i/\i<=57)\/i=36\/i=47:=by simp[bn,ws];omega
structure Rr(x y:Sc):Prop where
 op:y.op=x.op
 part:y.part=x.part
 bu:y.bu=x.bu
 fp:y.fp=x.fp
 db:y.db=x.db
structure Sa(s:ag)(j:Nat)(y:Sc):Prop where
 ax:y.ax=1\/y.ax=2
 sep:j<s.size->bx y (au s j) j=vf y (au s j)
def Mj(a:Sc)(c:a.ax=1)(b d:Nat):bx a b d=ua a b:=by simp[bx,c]
def aim(a:Sc)(c:a.ax=2)(b d:Nat):bx a b d=vf a b:=by simp[bx,c]
def au5(a:Sc)(d:a.ax=3)(b c:Nat):bx a b c=spot a b c:=by simp[bx,d]
theorem Qn(a:Sc)(h:a.ax=4\/a.ax=5)(b c:Nat):bx a b c=lc a b:=by grind[bx]
def Qr{a:Sc}(h:a.ax=1\/a.ax=2\/a.ax=3\/a.ax=4\/a.ax=5):jj a=false:=by
 obtain h|h|h|h|h:=h<;>simp[jj,h]
theorem ae9{c:ag}{k:Sc}:∀(l b d f:Nat),ed c b=some {k with ax:=1,bm:=f,zero:=if d=0 then 0 else 1}->f+l=4->b<=c.size->(l=0->0<d)->
  ((numF c l b d).2.2=true/\b<=(numF c l b d).1/\(numF c l b d).1<=c.size/\∃m,ed c (numF c l b d).1=some m/\Sa c (numF c l b d).1 m/\Rr k m)\/((numF c l b d).2.2=false/\jt c (numF c l b d).1)
 |0,b,d,f,h,hc,p,j=>by
  have j:=j rfl;have i:¬d=0:=Q
  refine .inl ⟨by simpa[numF]using j,ah,p,_,h,⟨.inl rfl,λo=> ?_⟩,⟨rfl,rfl,rfl,rfl,rfl⟩⟩;rw[Mj _ rfl];unfold ua;simp only;grind
 |l+1,b,d,f,h,hc,p,j=>by
  unfold numF;by_cases hd:br c ju b=true
  .rw[G hd];let⟨g,t,u⟩:=Tq hd;by_cases q:l=0/\10*d+(au c b-48)=0
   .rw[G q];refine .inr ⟨rfl,np h g ?_⟩;rw[Mj _ rfl];unfold ua;simp only;grind
   rw[N q];have s:ed c (b+1)=some {k with ax:=1,bm:=f+1,zero:=if 10*d+(au c b-48)=0 then 0 else 1}:=by
    refine next h ?_
    rw[Mj _ rfl];unfold ua;simp only;have n:(if au c b=48 then(if d=0 then 0 else 1)else 1)=(if 10*d+(au c b-48)=0 then 0 else 1:Nat):=by
     by_cases a:au c b=48
     .grind
     rw[N a,N]
    rw[n,G,G (by
     grind)]
   rcases ae9 l (b+1) (10*d+(au c b-48)) (f+1) s Q Q (λn=>Q)with⟨a,e,r⟩|a
   all_goals grind
  rw[N hd];have n:b<c.size->¬(48<=au c b/\au c b<=57):=λg e=>hd (by simp[br,g];exact(Ur _).2 e)
  by_cases i:d=0
  .refine .inr ⟨by simp[i],?_⟩;by_cases g:b<c.size
   .refine np h g ?_;rw[Mj _ rfl];unfold ua;simp only;grind
   exact kj h qC<|Qr<|.inl rfl
  refine .inl ⟨qB,ah,p,_,h,⟨.inl rfl,λo=> ?_⟩,⟨rfl,rfl,rfl,rfl,rfl⟩⟩;rw[Mj _ rfl];unfold ua;simp only;grind
theorem ajr{c:ag}{b:Nat}{p z:Sc}{e:Int}{q:List ft}(i:ed c b=some p)(x:b<=c.size)(l:b<c.size->bx p (au c b) b=spot z (au c b) b)(r:b=c.size->jj p=false)(m:Nt z e q):
  ((dc c b e).2.2.2=true/\b<(dc c b e).1/\(dc c b e).1<=c.size/\∃g,ed c (dc c b e).1=some g/\Sa c (dc c b e).1 g/\g.op=z.op/\g.part=z.part/\Nt g (dc c b e).2.2.1 q)\/((dc c b e).2.2.2=false/\jt c (dc c b e).1):=by
 unfold dc;by_cases j:pk c b=36
 .rw[G j];let⟨d,n⟩:=px (c:=36) j;refine .inl ⟨rfl,yxo _,d,{z with ax:=2},?_,⟨.inr rfl,λ_=>aim _ rfl _ _⟩,rfl,rfl,m.of rfl rfl rfl⟩;refine next i ?_
  rw[l d,n];rfl
 rw[N j];by_cases k:pk c b=47
 .rw[G k];let⟨d,n⟩:=px (c:=47) k;have o:ed c (b+1)=some (pattern {z with ax:=6} (b+1)):=by
   refine next i ?_
   rw[l d,n];rfl
  simp only;obtain⟨f,h,s,t,v,w,u⟩|⟨f,h⟩:=af2 e o (.inl rfl) rfl rfl d
  .refine .inl ⟨f,Q,s,_,u,⟨.inr rfl,λ_=>aim _ rfl _ _⟩,rfl,rfl,?_⟩;refine⟨m.bu,?_⟩;rw[t];exact m.bk.more (b+1) _
  grind
 rw[N k];simp only;by_cases hd:br c ju b=true
 .let⟨d,u,v⟩:=Tq hd;have f:numF c 4 b 0=numF c 3 (b+1) (au c b-48):=by
   rw[numF,G hd,N];simp
  rw[f];have o:ed c (b+1)=some {z with ax:=1,bm:=1,zero:=if au c b-48=0 then 0 else 1}:=by
   refine next i ?_
   rw[l d];rw[spot,G ⟨u,v⟩];have f:(if au c b=48 then 0 else 1:Nat)=if au c b-48=0 then 0 else 1:=by
    by_cases a:au c b=48
    .rw[G a,G]
    rw[N a,N]
   rw[f]
  rcases ae9 3 (b+1) _ 1 o rfl d (λf=>Q)with⟨a,w,s,g,t,f,h⟩|a
  .exact .inl ⟨a,Q,s,g,t,f,h.op,h.part,m.of h.bu h.fp h.db⟩
  exact .inr a
 have f:numF c 4 b 0=(b,0,false):=by
  rw[numF,N hd];rfl
 rw[f];refine .inr ⟨rfl,?_⟩;by_cases d:b<c.size
 .refine np i d ?_;rw[l d];unfold spot;rw[fh d]at j k;have s:¬(48<=au c b/\au c b<=57):=λh=>hd (by simp[br,d];exact(Ur _).2 h)
  rw[N s,N,N]
 exact kj i qC<|r Q
structure Zj(s:ag)(j:Nat)(y:Sc):Prop where
 ax:y.ax=1\/y.ax=2\/y.ax=4
 sep:j<s.size->au s j≠32/\bx y (au s j) j=lc y (au s j)
def ajb{b:Sc}{l:List ft}(k:ed s a=some b)(t:a<=s.size)(g:Sa s a b)(h:b.part=1->pk s a≠44)(m:Nt b p l):
  ∃f,ed s (skip s dh a)=some f/\Zj s (skip s dh a) f/\f.op=b.op/\Nt f p l:=by
 have i:a<s.size->bx b (au s a) a=lc b (au s a):=λc=>by
  rw[g.sep c];rw[vf,N<|λd=>h d.2<|by rw[fh c,d.1];rfl]
 cases d:br s dh a with
 |false=>
  rw[xd d];refine⟨b,k,⟨?_,λc=>⟨λe=> ?_,i c⟩⟩,rfl,m⟩
  .obtain e|e:=g.ax
   all_goals omega
  have:=(wi _).2 e;simp[br,c,this]at d
 |true=>
  have c:=vo d;have o:au s a=32:=by simp[br]at d;exact(wi _).1 d.2
  have q:ed s (a+1)=some {b with ax:=4}:=by
   refine next k ?_
   rw[i c,o];unfold lc;have:=g.ax;rw[G,N]
  have n:ed s (skip s dh a)=some {b with ax:=4}:=by
   rw[Ar d];refine Md (λj r h=> ?_) q;rw[Qn _<|.inl rfl,(wi j).1 h];unfold lc;simp
  have j:=Mc s dh a;generalize skip s dh a=r at n j;refine⟨_,n,⟨.inr<|.inr rfl,λc=>⟨λe=> ?_,Qn _ (.inl rfl) _ _⟩⟩,rfl,m.of rfl rfl rfl⟩;have:=(wi _).2 e;simp[br,c,this]at j
theorem akm{b:Sc}{D:List ft}(T:ed s a=some b)(E:b.ax=0)(e:br s ws a=true)(F:Nt b p D):
  ((cq s a p).2.2.2.2=true/\a<(cq s a p).1/\(cq s a p).1<=s.size/\∃c,ed s (cq s a p).1=some c/\Zj s (cq s a p).1 c/\c.op=b.op/\Nt c (cq s a p).2.2.2.1 D)\/((cq s a p).2.2.2.2=false/\jt s (cq s a p).1):=by
 rw[cq,G e];have U:=vo e;have H:a<s.size->bx b (au s a) a=spot {b with part:=1} (au s a) a:=λ_=>by
  rw[Mi b E];have f:bn ws (au s a)=true:=by simp[br]at e;exact e.2
  rw[adt]at f;rw[begin',N,N,N];cases d:spot {b with part:=1} (au s a) a with
  |some c=>rfl
  |none=>
   unfold spot at d;grind
 have m:=ajr (z:={b with part:=1}) T (yyh U) H (λk=>Q)<|F.of rfl rfl rfl;simp only;generalize dc s a p=j at m;let⟨d,a0,V,a1⟩:=j;simp only at m;obtain⟨n,v,o,c,w,x,y,K,z⟩|⟨n,v⟩:=m
 .subst n;simp only[if_true];by_cases f:pk s d=44
  .rw[G f];let⟨C,W⟩:=px (c:=44) f;have L:ed s (d+1)=some {c with ax:=3,part:=2}:=by
    refine next w ?_
    rw[x.sep C,W];rw[vf,G ⟨rfl,K⟩]
   have l:=ajr (z:={c with ax:=3,part:=2}) L C (λ_=>au5 _ rfl _ _) (λ_=>Qr<|.inr<|.inr<|.inl rfl)<|z.of rfl rfl rfl;generalize dc s (d+1) V=j at l;let⟨A,a2,X,Z⟩:=j;simp only at l;obtain⟨q,B,t,a3,M,P,qa,R,S⟩|⟨q,B⟩:=l
   .subst q;simp only[if_true];let⟨r,u,g,h,i⟩:=ajb M t P (λk=>Q) S;have:=An s dh A t;refine .inl ⟨trivial,Q,si s dh A t,r,u,g,by rw[h,qa];exact y,i⟩
   subst q;simp only[Ax,yyv];grind
  rw[N f];simp only;let⟨r,u,g,h,i⟩:=ajb w o x (λ_=>f) z;have:=An s dh d o;exact .inl ⟨trivial,Q,si s dh d o,r,u,g,by rw[h,y],i⟩
 subst n;simp only[Ax,yyv];grind
def Ut:bn po i=true↔49<=i/\i<=57:=by simp[bn,po];omega
def Uu:bn xp i=true↔i=92\/i=47\/i=38:=by simp[bn,xp];omega
def apl:bn Dm i=true↔i=110\/i=92\/i=47\/i=38:=by simp[bn,Dm];omega
def Yk(a:Sc)(h:a.ax=13\/a.ax=14)(b c:Nat):bx a b c=sy a b:=by unfold bx;obtain h|h:=h<;>simp[h]
def au4(a:Sc)(c:a.ax=15)(b d:Nat):bx a b d=uv a b:=by simp[bx,c]
def aip(a:Sc)(c:a.ax=8)(b d:Nat):bx a b d=if b=32 then some {a with ax:=9} else none:=by simp[bx,c]
def aiq(a:Sc)(c:a.ax=9)(b d:Nat):bx a b d=some (if b=10 then {a with ax:=0} else a):=by simp[bx,c]
def aii(a:Sc)(d:a.ax=10)(b c:Nat):bx a b c=named a b c:=by simp[bx,d]
def adh:eo S<=9:=by
 unfold eo;split
 .rename_i b a;exact(Me a).2.2.1
 omega
def asp{c:Sc}(i:ed s b=some c)(m:c.ax=13)(u:c.L.a=a)(x:a<=9)(y:b<=s.size)(r:pk s b≠47):
  ((ih s a b).2.2=true/\ed s (ih s a b).1=some c)\/((ih s a b).2.2=false/\jt s (ih s a b).1):=by
 have v:jj c=false:=by simp[jj,m]
 by_cases h:b<s.size
 .rw[fh h]at r;have d:∀e,e=au s b->bx c e b=if e=92 then some {c with ax:=14} else if e=10 then none else some c:=λe g=>by
   rw[Yk c<|.inl m];rw[sy,N,N]
  have d:=d _ rfl;rw[ih,fh h];by_cases p:((au s b:Nat):Int)=38
  .rw[G p];refine .inl ⟨rfl,next i ?_⟩;rw[d,N,N]
  rw[N p];by_cases q:((au s b:Nat):Int)=92
  .rw[G q];have l:=next i (by rw[d,G])
   have t:jj {c with ax:=14}=false:=by simp[jj]
   have w:({{c with ax:=14} with ax:=13}:Sc)=c:=by cases c;simp at m;subst m;rfl
   unfold qf;by_cases j:b+1<s.size
   .have k:bx {c with ax:=14} (au s<|b+1) (b+1)=if bn Dm (au s<|b+1)=true\/(49<=au s (b+1)/\au s (b+1)<=57/\au s (b+1)-48<=a)then some c else none:=by
     rw[Yk _<|.inr rfl];unfold sy;simp only;rw[G trivial,u,w]
    simp only[fh j];simp only[apl]at k;by_cases n:49<=((au s (b+1):Nat):Int)/\((au s (b+1):Nat):Int)<=48+(a:Int)
    .rw[G n];exact .inl ⟨rfl,next l<|by rw[k,G]⟩
    rw[N n];by_cases o:((au s (b+1):Nat):Int)=110
    .rw[G o];exact .inl ⟨rfl,next l<|by rw[k,G]⟩
    rw[N o];by_cases f:br s xp (b+1)=true
    .rw[G f];have:bn xp (au s<|b+1)=true:=by simp[br]at f;exact f.2
     rw[Uu]at this;exact .inl ⟨rfl,next l<|by rw[k,G]⟩
    rw[N f];have:¬(au s (b+1)=92\/au s (b+1)=47\/au s (b+1)=38):=λg=>f (by simp[br,j];exact(Uu _).2 g)
    exact .inr ⟨rfl,np l j<|by rw[k,N]⟩
   have f:br s xp (b+1)=false:=by simp[br,j]
   rw[qj j,N,N,f,N qD];exact .inr ⟨rfl,kj l qC t⟩
  rw[N q];rw[th,fh h];by_cases g:((au s b:Nat):Int)=-1\/((au s b:Nat):Int)=10
  .rw[G g];exact .inr ⟨rfl,np i h<|by rw[d,N,G]⟩
  rw[N g];exact .inl ⟨rfl,next i<|by rw[d,N,N]⟩
 rw[ih,th,qj h,N,N,G<|.inl rfl];exact .inr ⟨rfl,kj i qC v⟩
theorem ai6{b:ag}{g:Nat}{x:Sc}(j:x.ax=13:=by omega)(m:x.L.a=g:=by omega)(n:g<=9:=by omega):∀(f a:Nat)(c:List Pc),ed b a=some x->a<=b.size->b.size<f+a->
  ((qe b g f a c).2.2=true/\ed b (qe b g f a c).1=some {x with ax:=15,all:=false,print:=false,uw:=false})\/((qe b g f a c).2.2=false/\jt b (qe b g f a c).1)
 |0,a,c,h,k,hf=>Q
 |f+1,a,c,h,k,hf=>by
  unfold qe;by_cases e:pk b a=47
  .rw[G e];obtain⟨l,d⟩:=px (c:=47) e;refine .inl ⟨rfl,next h ?_⟩;rw[d,Yk x<|.inl j];grind[sy]
  rw[N e];have p:=asp h j m n k e;have o:=Pv b g a k;have l:=aga b g a k;obtain⟨d,i⟩|⟨d,i⟩:=p
  .rw[G d];have:=l d;exact ai6 j m n f _ _ i o.1 Q
  grind
theorem Ow{b:ag}{x:Sc}(n:x.ax=15):∀(f a:Nat)(c e:Bool)(d:Nat),ed b a=some {x with all:=c,print:=e,uw:=decide (d≠0)}->a<=b.size->(if c=true then 0 else 1)+(if e=true then 0 else 1)+(if d=0 then 1 else 0)<f->
  (flagF b f a c e d).1<=b.size/\∃q,ed b (flagF b f a c e d).1=some q/\Ay b (flagF b f a c e d).1 q/\Rr x q
 |0,a,c,e,d,h,t,hf=>Q
 |f+1,a,c,e,d,h,t,hf=>by
  have p:∀o,bx {x with all:=c,print:=e,uw:=decide (d≠0)} o a=uv {x with all:=c,print:=e,uw:=decide (d≠0)} o:=λo=>au4 {x with all:=c,print:=e,uw:=decide (d≠0)} n o a
  unfold flagF;by_cases k:c=false/\pk b a=103
  .rw[G k];obtain⟨rfl,k⟩:=k;let⟨g,l⟩:=px (c:=103) k;refine Ow n f (a+1) true e d (next h ?_) g qE;rw[p,l];rw[uv,G ⟨rfl,rfl⟩]
  rw[N k];by_cases m:e=false/\pk b a=112
  .rw[G m];obtain⟨rfl,m⟩:=m;let⟨g,l⟩:=px (c:=112) m;refine Ow n f (a+1) c true d (next h ?_) g qE;rw[p,l];rw[uv,N,G ⟨rfl,rfl⟩]
  rw[N m];by_cases i:d=0/\br b po a=true
  .rw[G i];obtain⟨rfl,i⟩:=i;have g:=vo i;have l:bn po (au b a)=true:=by simp[br]at i;exact i.2
   rw[Ut]at l;have j:au b a-48≠0:=Q
   refine Ow n f (a+1) c e (au b a-48) (next h ?_) g qE;rw[p];rw[uv,N,N,G ⟨l.1,l.2,qD⟩];simp[j]
  rw[N i];refine⟨t,_,h,⟨λg=>?_,?_⟩,⟨rfl,rfl,rfl,rfl,rfl⟩⟩
  .simp only at g|-;rw[p];rw[fh g]at k m;rw[uv,N<|λj=>k ⟨j.2,Q⟩,N<|λj=>m ⟨j.2,Q⟩,N<|λj=>i ⟨qE,by simp[br,g];exact(Ut _).2 ⟨j.1,j.2.1⟩⟩]
  simp[jj,n]
theorem aca{b:ag}{d:Sc}(i:d.ax=9:=by omega):∀(f a:Nat),ed b a=some d->a<=b.size->b.size<=f+a->ed b (jh b f a)=some d/\a<=jh b f a/\jh b f a<=b.size/\(jh b f a<b.size->au b (jh b f a)=10)
 |0,a,h,j,hf=>⟨h,ah,j,λe=>by simp only[jh]at e;omega⟩
 |f+1,a,h,j,hf=>by
  unfold jh;by_cases c:a<b.size/\au b a≠10
  .rw[G c];have l:=next h (by rw[aiq d i,N c.2])
   obtain⟨g,m,k⟩:=aca i f (a+1) l c.1 Q;grind
  grind
def ako{b:Sc}(c:b.ax=9)(d:a<s.size->au s a=10):Ay s a b:=⟨λe=>by
 rw[aiq b c,d e,G rfl];rfl,by simp[jj,c]⟩
theorem ari(c:j<=k)(b:k<S.size):ub (S.extract j<|k+1)=ub (S.extract j k)++[au S k]:=by
 have hd:k<S.data.size:=b;unfold ub;rw[yyg,yyg,Array.extract_succ_right Q hd];have a:au S k=(S.data[k]).toNat:=by
  rw[au,yz,Array.getElem?_toList,Array.getElem?_eq_getElem hd];rfl
 grind
def arh:ub (S.extract j j)=[]:=by
 rw[ub,yyg];simp
def aee{b:ag}{c:Sc}{i0:Nat}(j:c.ax=10):∀(f a:Nat),i0<=a->a<=b.size->(a-i0)+f=8->
  ed b a=some {c with bm:=a-i0,bu:=c.bu++(if a=i0 then [] else [⟨ub<|b.extract i0 a,i0,c.cn⟩])}->
  ed b (eg b f a)=some {c with bm:=eg b f a-i0,bu:=c.bu++(if eg b f a=i0 then [] else [⟨ub<|b.extract i0<|eg b f a,i0,c.cn⟩])}/\(eg b f a<b.size->¬(97<=au b (eg b f a)/\au b (eg b f a)<=122)\/eg b f a-i0=8)
 |0,a,d,g,hf,h=>⟨h,λ_=> .inr<|by simp only[eg];omega⟩
 |f+1,a,d,g,hf,h=>by
  unfold eg;by_cases i:97<=pk b a/\pk b a<=122
  .rw[G i];let⟨e,l⟩:=ho (s:=b) (i:=a);rw[l]at i;refine aee j f (a+1) Q e Q<|next h ?_;rw[aii]
   rotate_left
   .exact j
   unfold named;simp only;rw[G,N (Q:¬a+1=i0),ari b i0 a d e,show a+1-i0=a-i0+1 from Q];by_cases k:a=i0
   .subst k;rw[G<|xx _,G rfl,arh,xu];unfold Hw;simp
   rw[N (Q:¬a-i0=0),N k];unfold Hw;simp
  rw[N i];refine⟨h,λe=> .inl ?_⟩;rw[fh e]at i;omega
theorem Ph(c:List ft)(a:ft):ma (c++[a])=ma c++(if a.name.size=0 then [] else [⟨ub a.name,a.H, !a.want⟩]):=by
 grind[ma]
theorem aef{b:Sc}{lg:Int}{bh:List ft}(h:Bool)(r:ed s a=some b)(e:b.ax=10)(m:b.bm=0)(v:b.cn= !h)(l:a<=s.size)(n:Nt b lg bh):
  ∃g,ed s (eg s 8 a)=some g/\g.op=b.op/\Nt g lg (bh++[⟨s.extract a<|eg s 8 a,a,i,h⟩])/\(b.gf<=eg s 8 a-a->Ay s (eg s 8 a) g)/\(eg s 8 a-a<b.gf->jt s (eg s 8 a)):=by
 let⟨t,u⟩:=Am s 8 a l;let⟨f,o⟩:=aee (i0:=a) e 8 a ah l Q (by
  rw[G rfl,xu,xx,r];cases b;grind)
 have j:(s.extract a<|eg s 8 a).size=eg s 8 a-a:=by rw[lw];omega
 generalize eg s 8 a=c at f o t u j;have k:c<s.size->bx {b with bm:=c-a,bu:=b.bu++(if c=a then [] else [⟨ub<|s.extract a c,a,b.cn⟩])} (au s c) c=if c-a<b.gf then none else qk {b with bm:=c-a,bu:=b.bu++(if c=a then [] else [⟨ub<|s.extract a c,a,b.cn⟩])} (au s c):=λd=>by
  rw[aii]
  rotate_left
  .exact e
  unfold named;simp only;grind
 refine⟨_,f,rfl,⟨?_,n.bk⟩,λp=>⟨λd=>?_,?_⟩,λp=>?_⟩
 .rw[Ph];simp only;rw[j,n.bu,v];grind
 .rw[k d,N]
 .simp[jj,e];intro _
  omega
 by_cases d:c<s.size
 .exact np f d<|by rw[k d,G p]
 refine kj f Q ?_;simp[jj,e];intro _
 omega
def Kn:bn yr i=true↔i=10\/i=47:=by simp[bn,yr];omega
def Pb:bn mg i=true↔i=110\/i=92\/i=47:=by simp[bn,mg];omega
def Pd:bn Qqg i=true↔i=110\/i=92\/i=47:=by simp[bn,Qqg];omega
def aik(a:Sc)(c:a.ax=16)(b d:Nat):bx a b d=if b=47 then some {a with ax:=17,row:=λ_=>false,rows:=0} else none:=by simp[bx,c]
def Yl(a:Sc)(h:a.ax=17\/a.ax=18)(b c:Nat):bx a b c=pg a b:=by unfold bx;obtain h|h:=h<;>simp[h]
def ail(a:Sc)(h:a.ax=19\/a.ax=20)(b c:Nat):bx a b c=rj a b:=by unfold bx;obtain h|h:=h<;>simp[h]
def ain(a:Sc)(c:a.ax=21)(b d:Nat):bx a b d=if b=47 then some {a with ax:=7} else none:=by simp[bx,c]
def vq(x:Sc)(l:List Nat):Sc:={x with ax:=17,row:=λk=>l.contains k,rows:=l.length}
def Jc(x:Sc)(l:List Nat):Sc:={x with ax:=18,row:=λk=>l.contains k,rows:=l.length}
theorem aex(f:Sc)(c:List Nat)(a:Nat):yt (vq f c) a=if c.contains a=true then none else some (vq f<|c++[a]):=by
 grind[yt,vq]
theorem aoe(f:Sc)(a:List Nat)(b i:Nat)(g:b≠47):bx (vq f a) b i=if b=92 then(if vm a=true then none else some (Jc f a))else if b=10\/a.contains b=true then none else some (vq f<|a++[b]):=by
 rw[Yl _<|.inl rfl];rw[pg,N<|by unfold vq;simp,N g];by_cases d:b=92
 .rw[G d,G d];by_cases c:vm a=true
  .rw[G c,if_neg];unfold vm at c;grind[vq]
  rw[N c,if_pos]
  .rfl
  unfold vm at c;grind[vq]
 rw[N d,N d];by_cases c:b=10
 .grind
 rw[N c,aex];grind
def acm(d:Sc)(b:List Nat)(a g:Nat):bx (Jc d b) a g=if bn mg a=true then(if b.contains (val a)=true then none else some (vq d<|b++[val a]))else none:=by
 rw[Yl _<|.inr rfl];rw[pg,G<|by unfold Jc;rfl];have f:({Jc d b with ax:=17}:Sc)=vq d b:=rfl;rw[f,aex];by_cases c:bn mg a=true
 .rw[G c,G<|(Pd a).2<|(Pb a).1 c]
 rw[N c,N<|λe=>c<|(Pb a).2<|(Pd a).1 e]
theorem aod{c:ag}{h:Sc}{d:List Nat}{b:Nat}(j:ed c b=some (vq h d))(t:b<=c.size)(q:pk c b≠47):
  ((fa c d b).2.2=true/\ed c (fa c d b).1=some (vq h<|d++[(fa c d b).2.1]))\/((fa c d b).2.2=false/\jt c (fa c d b).1):=by
 have s:jj (vq h d)=false:=by simp[jj,vq]
 have r:jj (Jc h d)=false:=by simp[jj,Jc]
 unfold fa;by_cases f:b<c.size
 .rw[fh f]at q;simp only[fh f];have e:=aoe h d (au c b) b Q;by_cases m:((au c b:Nat):Int)=92
  .rw[G m];rw[G]at e;by_cases o:vm d=true
   .rw[G o]at e|-;exact .inr ⟨rfl,np j f e⟩
   rw[N o]at e|-;have l:=next j e
   by_cases g:br c mg (b+1)=true
   .rw[G g];have k:=vo g;have a:bn mg (au c<|b+1)=true:=by simp[br]at g;exact g.2
    have i:=acm h d (au c<|b+1)<|b+1;rw[G a]at i;by_cases p:d.contains (val<|au c<|b+1)=true
    .rw[G p]at i|-;exact .inr ⟨rfl,np l k i⟩
    rw[N p]at i|-;exact .inl ⟨rfl,next l i⟩
   rw[N g];refine .inr ⟨rfl,?_⟩;by_cases k:b+1<c.size
   .refine np l k ?_;rw[acm,N<|λa=>g<|by simp[br,k,a]]
   exact kj l qC r
  rw[N m];rw[N]at e;by_cases a:((au c b:Nat):Int)=-1\/br c yr b=true\/d.contains (au c b)=true
  .rw[G a];refine .inr ⟨rfl,np j f ?_⟩;rw[e,if_pos];obtain a|a|a:=a
   .omega
   .have:bn yr (au c b)=true:=by simp[br]at a;exact a.2
    rw[Kn]at this;left;omega
   exact .inr a
  rw[N a];refine .inl ⟨rfl,next j ?_⟩;rw[e,if_neg];rintro(n|n)
  .exact a<|.inr<|.inl<|by simp[br,f];exact(Kn _).2<|.inl n
  grind
 rw[qj f,N,G<|.inl rfl];exact .inr ⟨rfl,kj j qC s⟩
theorem ahf{b:ag}{k:Sc}:∀(f a:Nat)(c:List Nat),ed b a=some (vq k c)->a<=b.size->b.size<f+a->
  ((rowL b f a c).2.2=true/\ed b (rowL b f a c).1=some {k with ax:=if(rowL b f a c).2.1.length=0 then 21 else 19,row:=λl=>(rowL b f a c).2.1.contains l,rows:=(rowL b f a c).2.1.length,bm:=0})\/((rowL b f a c).2.2=false/\jt b (rowL b f a c).1)
 |0,a,c,h,g,hf=>Q
 |f+1,a,c,h,g,hf=>by
  unfold rowL;by_cases e:pk b a=47
  .rw[G e];let⟨i,d⟩:=px (c:=47) e;refine .inl ⟨rfl,next h ?_⟩;rw[d,Yl _<|.inl rfl];rw[pg,N<|by unfold vq;simp,G rfl];rfl
  rw[N e];have j:=Hd b c a g;obtain⟨d,i⟩|⟨d,i⟩:=aod h g e
  .rw[G d];have:=j.2.2.2 d;exact ahf f _ _ i j.1 Q
  grind
def wo(x:Sc)(m k:Nat):Sc:={x with ax:=m,bm:=k}
def awa(c:Sc)(b a d:Nat):bx (wo c 19 b) a d=if a=92 then some (wo c 20 b)else if a=47\/a=10 then none else some (wo c (if b+1=c.rows then 21 else 19)<|b+1):=by
 rw[ail _<|.inl rfl];rw[rj,N<|by unfold wo;simp];rfl
def ai7(d:Sc)(c a f:Nat):bx (wo d 20 c) a f=if bn mg a=true then some (wo d (if c+1=d.rows then 21 else 19)<|c+1)else none:=by
 rw[ail _<|.inr rfl];rw[rj,G<|by unfold wo;rfl];by_cases b:bn mg a=true
 .rw[G b,G<|(Pd a).2<|(Pb a).1 b];rfl
 rw[N b,N<|λe=>b<|(Pb a).2<|(Pd a).1 e]
def av9{c:ag}{e:Sc}{d b:Nat}(i:ed c b=some (wo e 19 d))(p:b<=c.size):
  ((fa c [] b).2.2=true/\ed c (fa c [] b).1=some (wo e (if d+1=e.rows then 21 else 19)<|d+1))\/((fa c [] b).2.2=false/\jt c (fa c [] b).1):=by
 have o:jj (wo e 19 d)=false:=by simp[jj,wo]
 have m:jj (wo e 20 d)=false:=by simp[jj,wo]
 have n:vm []=false:=rfl;unfold fa;by_cases h:b<c.size
 .simp only[fh h];have f:=awa e d (au c b) b;by_cases k:((au c b:Nat):Int)=92
  .rw[G k,n,N qD];rw[G]at f;have j:=next i f
   by_cases g:br c mg (b+1)=true
   .rw[G g,N qD];have a:bn mg (au c<|b+1)=true:=by simp[br]at g;exact g.2
    have l:=ai7 e d (au c<|b+1)<|b+1;rw[G a]at l;exact .inl ⟨rfl,next j l⟩
   rw[N g];refine .inr ⟨rfl,?_⟩;by_cases l:b+1<c.size
   .refine np j l ?_;rw[ai7,N<|λa=>g<|by simp[br,l,a]]
   exact kj j qC m
  rw[N k];rw[N]at f;by_cases a:((au c b:Nat):Int)=-1\/br c yr b=true\/List.contains [] (au c b)=true
  .rw[G a];refine .inr ⟨rfl,np i h ?_⟩;rw[f,if_pos];obtain a|a|a:=a
   .omega
   .have:bn yr (au c b)=true:=by simp[br]at a;exact a.2
    rw[Kn]at this;omega
   simp at a
  rw[N a];refine .inl ⟨rfl,next i ?_⟩;rw[f,if_neg];intro g
  exact a<|.inr<|.inl<|by simp[br,h];exact(Kn _).2 Q
 rw[qj h,N,G<|.inl rfl];exact .inr ⟨rfl,kj i qC o⟩
theorem ahj{a:ag}{x:Sc}:∀(f b e:Nat)(d:List Nat),ed a b=some (wo x (if f=0 then 21 else 19) e)->e+f=x.rows->b<=a.size->
  ((mp a f b d).2.2=true/\(mp a f b d).1<=a.size/\ed a (mp a f b d).1=some (wo x 21 x.rows))\/((mp a f b d).2.2=false/\jt a (mp a f b d).1)
 |0,b,e,d,h,g,c=> .inl ⟨rfl,c,by rw[G rfl]at h;rw[<-g];exact h⟩
 |f+1,b,e,d,h,g,c=>by
  rw[N]at h;unfold mp;have l:=Hd a [] b c;obtain⟨i,j⟩|⟨i,j⟩:=av9 h c
  .rw[G i];refine ahj f _ (e+1) _ ?_ Q l.1;grind
  grind
theorem atw{b:Sc}(k:ed s a=some b)(m:b.ax=16)(E:a<=s.size):
  ((jo s a).2.2.2=true/\(jo s a).1<=s.size/\∃t,ed s (jo s a).1=some t/\t.ax=7/\Rr b t)\/((jo s a).2.2.2=false/\jt s (jo s a).1):=by
 unfold jo;by_cases f:pk s a=47
 .rw[G f];let⟨d,x⟩:=px (c:=47) f;have y:ed s (a+1)=some (vq b []):=by
   refine next k ?_
   rw[x,aik b m,G rfl];unfold vq;simp
  have n:=ahf (s.size+1) (a+1) [] y d Q;have j:=Xl s (s.size+1) (a+1) [] d;simp only;generalize rowL s (s.size+1) (a+1) []=A at n j;let⟨v,c,C⟩:=A;simp only at n j;obtain⟨h,i⟩|⟨h,i⟩:=n
  .subst h;simp only[if_true];have o:=ahj (x:={b with row:=λl=>c.contains l,rows:=c.length}) c.length v 0 [] i qD j.2;generalize mp s c.length v []=z at o;let⟨p,D,B⟩:=z;simp only at o;obtain⟨q,u,r⟩|⟨q,u⟩:=o
   .subst q;simp only[if_true];by_cases g:pk s p=47
    .rw[G g];let⟨e,w⟩:=px (c:=47) g;refine .inl ⟨rfl,e,{wo {b with row:=λl=>c.contains l,rows:=c.length} 21 c.length with ax:=7},next r ?_,rfl,⟨rfl,rfl,rfl,rfl,rfl⟩⟩;rw[w,ain _ rfl,G rfl]
    rw[N g];refine .inr ⟨rfl,?_⟩;by_cases e:p<s.size
    .refine np r e ?_;rw[fh e]at g;have w:¬au s p=47:=Q
     rw[ain _ rfl,N w]
    exact kj r qC<|by simp[jj,wo]
   grind
  subst h;simp only[Ax,yyv];grind
 rw[N f];refine .inr ⟨rfl,?_⟩;by_cases d:a<s.size
 .refine np k d ?_;rw[fh d]at f;have c:¬au s a=47:=Q
  rw[aik b m,N c]
 exact kj k qC<|by simp[jj,m]
def Km:bn pm i=true↔i=123\/i=100\/i=68\/i=110\/i=78\/i=112\/i=80\/i=103\/i=71\/i=104\/i=72\/i=120\/i=61\/i=113\/i=97\/i=105\/i=99\/i=98\/i=116\/i=115\/i=121:=by simp[bn,pm];omega
def apk:bn Gy i=true↔i=100\/i=68\/i=110\/i=78\/i=112\/i=80\/i=103\/i=71\/i=104\/i=72\/i=120\/i=61\/i=113:=by simp[bn,Gy];omega
def apm:bn Je i=true↔i=97\/i=105\/i=99:=by simp[bn,Je];omega
def kinds(b:Sc)(a:Nat)(c:bn pm a=true):
  (ei a=0/\di b a=if b.op+1<=5 then some {b with op:=b.op+1,ax:=0} else none)\/
  ((ei a=14\/ei a=15\/ei a=16)/\di b a=some {b with ax:=8})\/
  ((ei a=17\/ei a=18)/\di b a=some {b with ax:=10,gf:=0,bm:=0,cn:=false})\/
  (ei a=19/\di b a=some {b with ax:=11})\/
  (ei a=20/\di b a=some {b with ax:=16})\/
  ((ei a≠0/\¬(ei a=14\/ei a=15\/ei a=16)/\¬(ei a=17\/ei a=18)/\ei a≠19/\ei a≠20)/\di b a=some {b with ax:=7}):=by
 rcases(Km a).1 c with rfl|rfl|rfl|rfl|rfl|rfl|rfl|rfl|rfl|rfl|rfl|rfl|rfl|rfl|rfl|rfl|rfl|rfl|rfl|rfl|rfl
 .exact .inl ⟨qG,rfl⟩
 iterate 13 ·exact .inr (.inr<|.inr<|.inr<|.inr ⟨qG,rfl⟩)
 iterate 3 ·exact .inr (.inl ⟨qG,rfl⟩)
 iterate 2 ·exact .inr (.inr<|.inl ⟨qG,rfl⟩)
 .exact .inr<|.inr<|.inr<|.inl ⟨qG,rfl⟩
 exact .inr<|.inr<|.inr<|.inr<|.inl ⟨qG,rfl⟩
def Pq(c:Sc)(a:Nat)(b:¬bn pm a=true):di c a=none:=by
 rw[Km]at b;rw[di,N,N<|by rw[apk];omega,N<|by rw[apm];omega,N,N,N]
def Hi.lt{d:cj×Bool}(h:Hi s b d c)(j:a<=b:=by omega):Hi s a d c:=by
 obtain⟨e,f,i,g⟩|h:=h
 .exact .inl ⟨e,f,Q,g⟩
 exact .inr h
def aij(a:Sc)(d:a.ax=11)(b c:Nat):bx a b c=if b=47 then some (pattern {a with ax:=12} (c+1))else none:=by simp[bx,d]
theorem as5{d:Sc}{lg:Int}{bh:List ft}(e:Cm)(n:ed s a=some d)(o:d.ax=11)(S:a<=s.size)(y:Nt d lg bh):
  ((ii s a lg e).2.2.2=true/\a<(ii s a lg e).1/\(ii s a lg e).1<=s.size/\∃f,ed s (ii s a lg e).1=some f/\Ay s (ii s a lg e).1 f/\f.op=d.op/\Nt f (ii s a lg e).2.2.1 bh)\/((ii s a lg e).2.2.2=false/\jt s (ii s a lg e).1):=by
 unfold ii;by_cases g:pk s a=47
 .rw[G g];let⟨h,z⟩:=px (c:=47) g;have A:=next n (by rw[z,aij d o,G rfl])
  have p:=af2 lg A (.inr rfl) rfl rfl h;have l:=adh (dx s (a+1) lg).2.1;simp only;generalize dx s (a+1) lg=L at p l;let⟨c,b,M,U⟩:=L;simp only at p l;obtain⟨q,v,r,B,w,C,D⟩|⟨q,v⟩:=p
  .subst q;simp only[if_true];have j:=ai6 (g:=eo b) (x:={pattern {d with ax:=12} (a+1)with L:=w,db:=d.db++[b.size],ax:=13}) rfl C l (s.size+1) c [] D r Q;have m:=Yt s (eo b) (s.size+1) c [] r;have i:=ai3 s (eo b) (s.size+1) c [] r;change(((ks s (eo b) c).2.2=true/\ed s (ks s (eo b) c).1=_)\/((ks s (eo b) c).2.2=false/\jt s (ks s (eo b) c).1))at j;change c<=(ks s (eo b) c).1 at m;change(ks s (eo b) c).1<=s.size at i;generalize ks s (eo b) c=K at j m i;let⟨x,R,P⟩:=K;simp only at j m i;obtain⟨t,u⟩|⟨t,u⟩:=j
   .subst t;simp only[if_true];let⟨E,f,F,H,k⟩:=Ow (x:={pattern {d with ax:=12} (a+1)with L:=w,db:=d.db++[b.size],ax:=15}) rfl 4 x false false 0 u i qG;have hF:=Kj s 4 x false false 0;refine .inl ⟨trivial,Q,E,f,F,H,k.op,?_⟩;refine⟨k.bu.trans y.bu,?_⟩;rw[k.fp,k.db,B];exact y.bk.more (a+1) _
   subst t;simp only[Ax,yyv];grind
  subst q;simp only[Ax,yyv];grind
 rw[N g];refine .inr ⟨rfl,?_⟩;by_cases h:a<s.size
 .refine np n h ?_;rw[fh h]at g;have b:¬au s a=47:=Q
  rw[aij d o,N b]
 exact kj n qC<|by simp[jj,o]
theorem ajn{row:cj->cj×Bool}(K:Nf s row a){p:cj}(v:Cm){D x:Sc}(i:ed s p.H=some D)(W:p.H<=s.size)(E:p.H<s.size->bx D (au s p.H) p.H=di x (au s p.H))
  (M:p.H=s.size->jj D=false) (u:x.op=p.op) (S:p.op<=5) (V:6<=p.op+1+a) (n:Nt x p.bk p.bh):Hi s p.H (lm row s p v) p.op:=by
 unfold lm;by_cases o:br s pm p.H=true
 .rw[G o];have d:=vo o;have y:bn pm (au s p.H)=true:=by simp[br]at o;exact o.2
  have c:=E d;simp only;obtain⟨g,h⟩|⟨g,h⟩|⟨g,h⟩|⟨g,h⟩|⟨g,h⟩|⟨⟨j,g,m,t,z⟩,h⟩:=kinds x (au s p.H) y
  .rw[G g];unfold qr;rw[h]at c;by_cases F:p.op=5
   .rw[G F];rw[N]at c;exact .inr ⟨rfl,np i d c⟩
   rw[N F];rw[G]at c;have e:=next i c
   simp only;have q:=K {p with H:=p.H+1,op:=p.op+1,U:=p.U++[{v with R:=ei<|au s p.H}]} _ ⟨e,d,.inl rfl⟩ qE qE Q<|n.of rfl rfl rfl;generalize row {p with H:=p.H+1,op:=p.op+1,U:=p.U++[{v with R:=ei<|au s p.H}]}=P at q;let⟨C,X⟩:=P;simp only at q;obtain⟨w,H,U,r,A,T,qa⟩|⟨w,H⟩:=q
   .subst w;obtain⟨b,f⟩|⟨b,f,l,k⟩:=A.out
    .have B:¬(true=true/\pk s C.H=125):=λL=>by
      have:=L.2;rw[qj]at this;omega
     rw[N B];refine .inr ⟨rfl,kj A.run b ?_⟩;grind
    have B:(true=true/\pk s C.H=125):=⟨rfl,by rw[fh b,f];rfl⟩;rw[G B];have R:=next A.run (by rw[f];exact k)
    have L:p.H<C.H+1:=Q
    exact .inl ⟨rfl,qC,L,b,_,R,Nr rfl,qC,qa.of rfl rfl rfl⟩
   subst w;rw[N qD];exact .inr ⟨rfl,H⟩
  .have j:¬ei (au s p.H)=0:=Q
   rw[N j,G g];rw[h]at c;have e:=next i c
   by_cases w:pk s (p.H+1)=32
   .rw[G w];let⟨q,A⟩:=px (c:=32) w;have B:ed s (p.H+1+1)=some {x with ax:=9}:=next e (by rw[A,aip _ rfl,G rfl])
    obtain⟨b,f,l,k⟩:=aca rfl (s.size-(p.H+1+1)) (p.H+1+1) B q Q;change ed s (ci s<|p.H+1+1)=_ at b;change p.H+1+1<=ci s (p.H+1+1)at f;exact .inl ⟨rfl,rfl,qC,l,_,b,ako rfl k,u,n.of rfl rfl rfl⟩
   rw[N w];refine .inr ⟨rfl,?_⟩;by_cases q:p.H+1<s.size
   .refine np e q ?_;rw[fh q]at w;have A:¬au s (p.H+1)=32:=Q
    rw[aip _ rfl,N A]
   exact kj e qC<|by simp[jj]
  .have j:¬ei (au s p.H)=0:=Q
   have m:¬(ei (au s p.H)=14\/ei (au s p.H)=15\/ei (au s p.H)=16):=Q
   rw[N j,N m,G g];rw[h]at c;have e:=next i c
   let⟨r,b,f,l,k,_⟩:=aef (lg:=p.bk) (bh:=p.bh) p.U.length true e rfl rfl rfl d<|n.of rfl rfl rfl;let⟨q,w⟩:=Am s 8 (p.H+1) d;exact .inl ⟨rfl,rfl,by show p.H<eg s 8 (p.H+1);omega,q,r,b,k<|ey _,f.trans u,l⟩
  .have j:¬ei (au s p.H)=0:=Q
   have m:¬(ei (au s p.H)=14\/ei (au s p.H)=15\/ei (au s p.H)=16):=Q
   have t:¬(ei (au s p.H)=17\/ei (au s p.H)=18):=Q
   rw[N j,N m,N t,G g];rw[h]at c;have e:=next i c
   rcases as5 (lg:=p.bk) (bh:=p.bh) {v with R:=ei<|au s p.H} e rfl d (n.of rfl rfl rfl)with⟨b,f,l,r,k,w,q,A⟩|⟨b,f⟩
   .exact .inl ⟨b,rfl,qE,l,r,k,w,q.trans u,A⟩
   exact .inr ⟨b,f⟩
  .have j:¬ei (au s p.H)=0:=Q
   have m:¬(ei (au s p.H)=14\/ei (au s p.H)=15\/ei (au s p.H)=16):=Q
   have t:¬(ei (au s p.H)=17\/ei (au s p.H)=18):=Q
   have z:¬ei (au s p.H)=19:=Q
   rw[N j,N m,N t,N z,G g];rw[h]at c;have e:=next i c
   obtain⟨b,l,r,k,w,q⟩|⟨b,f⟩:=atw e rfl d
   .have A:=aht s (p.H+1) d;exact .inl ⟨b,rfl,qE,l,r,k,Nr w,q.op.trans u,n.of q.bu q.fp q.db⟩
   exact .inr ⟨b,f⟩
  rw[N j,N g,N m,N t,N z];rw[h]at c;have e:=next i c
  exact .inl ⟨rfl,rfl,yxo _,d,_,e,Nr rfl,u,n.of rfl rfl rfl⟩
 rw[N o];refine .inr ⟨rfl,?_⟩;by_cases d:p.H<s.size
 .refine np i d ?_;rw[E d];exact Pq x _<|λy=>o<|by simp[br,d,y]
 exact kj i qE<|M Q
theorem Nq(b:Sc)(a:Nat)(d:a≠32)(e:a≠33\/b.ax=5):lc b a=di b a:=by
 grind[lc]
def ak4(b:Sc)(a c:Nat)(e:¬bn fc a=true)(f:a≠125)(g:a≠58)(h:¬bn ws a=true):begin' b a c=lc {b with part:=1} a:=by
 rw[Ak]at e;rw[adt]at h;have d:spot {b with part:=1} a c=none:=by
  rw[spot,N,N,N]
 rw[begin',N,N f,N g,d]
theorem amb{c:ag}{row:cj->cj×Bool}{K:Nat}(T:Nf c row K)(b:cj)(j:Sc)(D:ed c b.H=some j)(q:j.ax=0)(L:b.H<c.size)(M:¬bn fc (au c b.H)=true)(Z:¬(au c b.H=125/\0<b.op))
  (E:j.op=b.op) (R:b.op<=5) (S:6<=b.op+1+K) (w:Nt j b.bk b.bh):Hi c b.H (iw row c b) b.op:=by
 --where the H ends:what comes next is a4 by 'm of a state there
 have F:((cq c b.H b.bk).2.2.2.2=true/\b.H<=(cq c b.H b.bk).1/\(cq c b.H b.bk).1<=c.size/\∃h i,ed c (cq c b.H b.bk).1=some h/\i.op=j.op/\Nt i (cq c b.H b.bk).2.2.2.1 b.bh/\i.ax≠5/\
   ((cq c b.H b.bk).1=c.size->jj h=false)/\
   ((cq c b.H b.bk).1<c.size->au c (cq c b.H b.bk).1≠32/\(((cq c b.H b.bk).1=b.H/\h=j/\au c b.H=58/\(cq c b.H b.bk).2.2.2.1=b.bk)\/
    (((cq c b.H b.bk).1=b.H->au c b.H≠58)/\(bx h (au c (cq c b.H b.bk).1) (cq c b.H b.bk).1=lc i (au c (cq c b.H b.bk).1))))))\/((cq c b.H b.bk).2.2.2.2=false/\jt c (cq c b.H b.bk).1):=by
  by_cases f:br c ws b.H=true
  .obtain⟨o,r,x,h,p,l,s,y⟩|g:=akm D q f w
   .refine .inl ⟨o,Q,x,h,h,p,s,y,by have:=l.ax;omega,λ_=>Qr (by have:=l.ax;omega),λe=>⟨(l.sep e).1,.inr ⟨λd=>Q,(l.sep e).2⟩⟩⟩
   exact .inr g
  have d:cq c b.H b.bk=(b.H,gi,gi,b.bk,true):=by rw[cq,N f]
  rw[d];have n:¬bn ws (au c b.H)=true:=λk=>f<|by simp[br,L,k]
  refine .inl ⟨rfl,ah,yyh L,j,{j with part:=1},D,rfl,w.of rfl rfl rfl,by simp[q],λd=>?_,λ_=>⟨λd=>M<|(Ak _).2<|.inl d,?_⟩⟩
  .omega
  by_cases g:au c b.H=58
  .grind
  refine .inr ⟨λ_=>g,?_⟩;simp only;rw[Mi j q];by_cases e:au c b.H=125
  .rw[e];rw[begin',N,G rfl,N<|λz=>Z ⟨e,Q⟩];rw[Nq _ _ Q<|.inl Q];exact(Pq _ _<|by rw[Km];omega).symm
  exact ak4 j _ _ M e g n
 unfold iw;simp only;generalize cq c b.H b.bk=W at F;let⟨f,a7,a8,U,a6⟩:=W;simp only at F;obtain⟨o,r,x,h,i,p,l,s,y,a2,t⟩|⟨o,r⟩:=F
 .subst o;simp only[if_true];by_cases v:pk c f=33
  .rw[G v];let⟨e,k⟩:=px (c:=33) v;have X:bx h (au c f) f=lc i (au c f):=by
    rcases(t e).2 with⟨d,_,A,_⟩|⟨_,d⟩
    .rw[d]at k;omega
    exact d
   have B:ed c (f+1)=some {i with ax:=5}:=by
    refine next p ?_
    rw[X,k];rw[lc,N,G ⟨rfl,y⟩]
   have C:ed c (skip c dh<|f+1)=some {i with ax:=5}:=by
    refine Md (λn P u=>?_) B;rw[Qn _<|.inr rfl,(wi n).1 u];unfold lc;simp
   have a0:=An c dh (f+1) e;have P:=si c dh (f+1) e;have qa:=Mc c dh<|f+1;generalize skip c dh (f+1)=n at C a0 P qa;have V:n<c.size->bx {i with ax:=5} (au c n) n=di {i with ax:=5} (au c n):=λu=>by
    rw[Qn _<|.inr rfl];refine Nq _ _ (λd=>?_)<|.inr rfl;have a1:=(wi _).2 d;simp[br,u,a1]at qa
   by_cases g:pk c n=58
   .rw[G g];let⟨u,a1⟩:=px (c:=58) g;refine .inr ⟨rfl,np C u ?_⟩;rw[V u,a1];exact Pq _ _ (by rw[Km];omega)
   rw[N g];exact(ajn T (p:={b with H:=n,bk:=U}) _ C P V (λ_=>Qr<|.inr<|.inr<|.inr<|.inr rfl) (l.trans E) R S<|s.of rfl rfl rfl).lt qE
  rw[N v];by_cases g:pk c f=58
  .rw[G g];let⟨e,k⟩:=px (c:=58) g;rcases(t e).2 with⟨d,n,A,C⟩|⟨d,n⟩
   .rw[G d];subst d n C;have B:ed c (b.H+1)=some {h with ax:=10,gf:=1,bm:=0,cn:=true}:=by
     refine next D ?_
     rw[k,Mi h q];rfl
    let⟨a3,P,qa,V,X,a0⟩:=aef (lg:=b.bk) (bh:=b.bh) b.U.length false B rfl rfl rfl e<|w.of rfl rfl rfl;let⟨a1,a5⟩:=Am c 8 (b.H+1) e;by_cases u:b.H+1<eg c 8 (b.H+1)
    .exact .inl ⟨qK u,rfl,by show b.H<eg c 8 (b.H+1);omega,a1,a3,P,X<|by show 1<=_;omega,qa.trans E,V⟩
    exact .inr ⟨qK u,a0<|by show _<1;omega⟩
   have u:¬f=b.H:=λz=>d z (by rw[<-z];exact k)
   rw[N u];refine .inr ⟨rfl,np p e ?_⟩;rw[n,k,Nq _ _ Q<|.inl Q];exact Pq _ _ (by rw[Km];omega)
  rw[N g];refine(ajn T (p:={b with H:=f,bk:=U}) _ (x:=i) p x (λe=>?_) a2 (l.trans E) R S s).lt r;simp only at e|-;rw[fh e]at v g;rcases(t e).2 with⟨d,_,A,_⟩|⟨_,d⟩
  .grind
  rw[d];exact Nq _ _ (t e).1<|.inl Q
 subst o;simp only[Ax,yyv];exact .inr ⟨rfl,r⟩
def ahp(a:ag):∀N,Nf a (Qqf a N) N
 |0=>λg h b c d e f=>Q
 |N+1=>atr<|λg h b c d e f i j k l=>amb (ahp a N) g h b c d e f i j k l
theorem atv:((hq S).2=true/\∃a,Ng S a/\Nt a (hq S).1.bk (hq S).1.bh)\/((hq S).2=false/\jt S (hq S).1.H):=by
 rcases ahp S 7 ⟨0,0,[],[],-1⟩ yu ⟨rfl,ey _,.inl rfl⟩ rfl qG qG ⟨rfl,rfl,.inl ⟨rfl,λm n g=>by simp[yu]at g⟩⟩with⟨e,k,l,a,b,c,f⟩|h
 .refine .inl ⟨e,a,?_,f⟩;obtain⟨i,j⟩|⟨_,_,o,_⟩:=b.out
  .have d:=b.run;rw[i]at d;exact⟨d,by rw[j,c];rfl⟩
  grind
 exact .inr h
