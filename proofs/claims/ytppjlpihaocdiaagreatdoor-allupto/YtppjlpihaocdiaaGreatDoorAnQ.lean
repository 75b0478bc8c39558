import Derived.Test.YtppjlpihaocdiaaGreatDoorAkQ
set_option linter.all false
set_option maxRecDepth 100000
set_option maxHeartbeats 16000000
namespace Go.Proofs.YtppjlpihaocdiaaGreatDoor
open Go.RowKit Go.Proofs.Tryz
variable{w u v:ae}{a b c d e:Nat}{s t:ag}{x y z:af}{p D:Int}{l:List af}{f:Bool}{g:List Nat}{h:Nat->Prop}{o:Option Addr}{r:List UInt8}{A:Nat->Bool}{B:Nat->Nat->Bool}{C:Nat->Nat->Prop}(i:Nat)(S T:ag)(V X:af)(j k m n:Nat)(Z:Int)(W:ae)
def Bb(v:af):Sem af:=Instr.loadAt 271 v
def S73(v u:af):Sem Unit:=Instr.storeAt 271 v u
def Fb:Instr.loadAt 271 V=Bb V:=rfl
def Fh:Instr.storeAt 271 V X=S73 V X:=rfl
attribute [local go_sem↓] Ba ze Fb Fh Go.wp_at_zero Go.wp_at_succ
def xa:(prog.info? 271).map (λa=>(a.zero,a.size))=some (some<|.agg (dk ⟨0,λ_=>false,[],0,0,0⟩<|.slice none 0 0).toArray,(dk ⟨0,λ_=>false,[],0,0,0⟩<|.slice none 0 0).length):=qF
def jc(a:Nd)(sv:af):(prog.info? 271).map (·.size)=some (dk a sv).length:=by
 rw[gy];kernel_rfl
def bd.R{b:Nd}{sv:af}(c:bd w a (dk b sv)):w.cell? (O a 0)=some (I b.R):=c.cell<|Pn b sv
def bd.aur{c:Nd}{sv:af}(e:bd w a (dk c sv))(b:Nat)(d:b<256):w.cell? (O a<|1+b)=some (.bool<|c.set b):=by
 rw[Nat.add_comm 1 b];exact e.cell<|La c sv d
def bd.ba{b:Nd}{sv:af}(c:bd w a (dk b sv)):w.cell? (O a 257)=some sv:=c.cell (k:=257)<|wl b sv 0
structure zf(w w4:ae)(p:Fp)(d:Nd)(ao:Option Addr)(c:Nat):Prop where
 nd:bd w4 (w.heap.size+1+1) (dk d<|.slice ao d.ba.length c)
 below:Below w.heap.size w w4
 e:bd w4 (w.heap.size+1) (dj λ_=>false)
 z:bd w4 w.heap.size (dj λ_=>false)
 size:w4.heap.size=w.heap.size+1+1+1
 s:w4.cell? (O p.fb 1)=some (.string p.s)
def zf.mk'{b d f w3 w4:ae}{c:Fp}{h:Nd}(s:d.heap.size=b.heap.size+1)(t:f.heap.size=b.heap.size+1+1)(q:w3.heap.size=b.heap.size+1+1+1)(k:Below b.heap.size b d)(i:Below (b.heap.size+1) d f)(g:Below (b.heap.size+1+1) f w3)
  (l:bd d b.heap.size (dj λ_=>false)) (m:bd f (b.heap.size+1) (dj λ_=>false)) (e:bf (b.heap.size+1+1) w3 w4) (n:bd w4 (b.heap.size+1+1) (dk h<|.slice o h.ba.length a)) (p:c.fb<b.heap.size) (r:b.cell? (O c.fb 1)=some (.string c.s)):zf b w4 c h o a:=by
 have j:=Below.bj ((k.trans<|i.mono Q).trans<|g.mono Q) e Q;exact⟨n,j,(m.below g Q).bj e Q,((l.below i Q).below g Q).bj e Q,e.size.trans q,(j.cell (p:=O c.fb 1) p).trans r⟩
def zf.e0{c w4:ae}{g:Fp}{f:Nd}(e:zf c w4 g f o a)(b:Nat)(d:b<82:=by omega):w4.cell? (O (c.heap.size+1) b)=some (.bool false)/\w4.frozen? (O (c.heap.size+1) b)=false:=
 ⟨e.e.cell<|qb (λ_=>false) d,e.e.frozen<|by rw[ek];exact d⟩
def Eu{a:Fp}(c:et u a)(hF:Fm a w u)(b:bf w.heap.size u v)(d:a.fb<w.heap.size)(e:a.kb<w.heap.size)(f:a.eb<w.heap.size)(g:a.N0<=a.fb):et v a/\Fm a w v:=
 ⟨c.bj b Q Q Q Q,hF.bj b ah⟩
def By{b:Nd}{sv:af}(c:bd w a (dk b sv)):(Bb<|ab a 0).run prog w=.ok (.agg (dk b sv).toArray) w:=
 run_loadAt_mid (P:=prog) w a 0 271 _ _ c.km underlying271 rfl (jc _ _)
def bd.drew(b:bd w a l):bd w.drew a l:=⟨b.km,b.free⟩
def xxd{a:Fp}{e:Nat}{f:Nd}(c:et w a)(hd:a.bc[e]?=some f):∃q r,Y (w.rangeAt a.nb (e*261)<|dk f<|.slice q f.ba.length r)/\Y (Ad w a.N0 f q)/\a.s.size<=80/\a.fb<w.heap.size/\a.kb<w.heap.size/\a.eb<w.heap.size/\a.N0<=a.fb/\a.N0<=a.kb/\a.N0<=a.eb/\e<a.bc.length/\a.bc.length<=1000/\a.tb<a.N0/\a.nb<a.N0/\(∃b,w.cell? (O a.tb 0)=some (aa a.nb a.bc.length b))/\w.cell? (O a.fb 0)=some (ab a.tb 0)/\w.cell? (O a.fb 1)=some (.string a.s)/\(0:Int)<=e/\(e:Int)<a.bc.length:=by
 have g:e<a.bc.length:=by
  obtain b|b:=hb e a.bc.length
  .exact b
  rw[je b]at hd;cases hd
 obtain⟨q,r,b,i⟩:=c.tree.node e f hd;exact⟨q,r,b,i,c.js,c.lt,c.kl,c.el,c.nf,c.nk,c.ne,g,c.tree.ko,c.tree.xm,c.tree.Ao,c.tree.c0,c.c0,c.c1,Q,Q⟩
def et.xxe{p:Fp}{e:Nat}(c:et w p)(B:Y (w.rangeAt p.nb (e*261) l))(C:w.cell? (O p.tb 0)=some x)(b:Below w.heap.size w u):u.cell? (O p.fb 0)=some (ab p.tb 0)/\u.cell? (O p.tb 0)=some x/\Y (u.rangeAt p.nb (e*261) l):=by
 have n:=c.lt;have f:=c.nf;have g:=c.tree.xm;have i:=c.tree.Ao;exact⟨(b.cell (p:=O p.fb 0) n).trans c.c0,(b.cell (p:=O p.tb 0) qB).trans C,λh K R=>(b.cell (p:=(O p.nb<|e*261+h)) qB).trans<|B h K R⟩
def zf.xxf{g w4:ae}{a:Fp}{f:Nd}(b:zf g w4 a f o c)(W:et g a)(k:Nat)(v:Bool)(h:k<82):bd (w4.setCell (O (g.heap.size+1) k)<|.bool v) (g.heap.size+1) (dj λh=>if h=k then v else false)/\bd (w4.setCell (O (g.heap.size+1) k)<|.bool v) g.heap.size (dj λ_=>false)/\et (w4.setCell (O (g.heap.size+1) k)<|.bool v) a/\Fm a g (w4.setCell (O (g.heap.size+1) k)<|.bool v):=by
 have n:=W.lt;have X:=W.kl;have z:=W.el;have A:=W.nf;have y:=b.e.put k (by rw[ek];omega)<|.bool v;rw[yd]at y;exact⟨y,b.z.bj ((bf.refl _ _).setCell _ _) Q,(W.grow b.below).bj ((bf.refl _ _).setCell _ _) Q Q Q Q,(Below.fm b.below).bj ((bf.refl _ _).setCell _ _) Q⟩
def awf(a:Fp)(e d:Nat)(f:Nd)(hd:a.bc[e]?=some f)(p:f.R=1\/f.R=2\/f.R=0/\d<a.s.size)(g:ae)(c:et g a)(aH:d<=a.s.size):
  Calls prog 214 #[.pointer<|some ⟨a.fb,0,none⟩,.int .i64 e,.int .i64 d] g λk x=>∃o,k=.returned (.agg (dj o).toArray)/\io o (bi a.s a.bc e d)/\et x a/\Fm a g x:=by
 have W:=c;obtain⟨q,r,B,i,Z,n,X,z,A,a0,a1,a2,a3,a5,a6,⟨a7,C⟩,D,E,a8,a9⟩:=xxd c hd;obtain⟨k,aM,U,F,aA,e1,e2⟩|⟨k,aM,U,F,aA,e1,e2⟩|⟨k,aM,U,F,aA,R,aI,aJ,aK,e1,e2⟩:(∃k v,k<82/\Y (io (λh=>if h=k then v else false)<|bi a.s a.bc e d)/\(f.R:Int)=1/\d=k/\((d:Int)==0)=v)\/(∃k v,k<82/\Y (io (λh=>if h=k then v else false)<|bi a.s a.bc e d)/\(f.R:Int)=2/\d=k/\((d:Int)==a.s.size)=v)\/∃k v,k<82/\Y (io (λh=>if h=k then v else false)<|bi a.s a.bc e d)/\(f.R:Int)=0/\∃h:d<a.s.size,(0:Int)<=d/\(d:Int)<a.s.size/\((a.s[d]'h).toNat:Int)<256/\d+1=k/\f.set ((a.s[d]'h).toNat)=v:=by
  obtain p|p|⟨p,h⟩:=p
  .refine .inl ⟨_,_,Q,λh l=> ?_,Q,rfl,rfl⟩;rw[oy c.wf hd,N Q,G p];by_cases k:h=d
   .subst k;simp
   simp[k]
  .refine .inr (.inl ⟨_,_,Q,λh l=> ?_,Q,rfl,rfl⟩);rw[oy c.wf hd,N Q,N Q,G p];by_cases k:h=d
   .subst k;simp;omega
   simp[k]
  refine .inr (.inr ⟨_,_,Q,λi l=> ?_,Q,h,Q,Q,by have:=(a.s[d]'h).toNat_lt;omega,rfl,rfl⟩);rw[oy c.wf hd,G p,Cx a.s d h];by_cases k:i=d+1
  .subst k;simp[h]
  simp[k]
 all_goals
  clear c i hd p;go_in;go_wp2_with (first
   |(refine gm 6 rfl rfl 246 rfl _ ld ?_;intro aB s H t)
   |(refine gm 7 rfl rfl 246 rfl _ ld ?_;intro K i u l;rw[s]at u l i;obtain⟨L,M,P⟩:=W.xxe B C<|t.trans<|l.mono Q)
   |(refine wpList_load_mid rfl 271 (.tmp 18) rfl a.nb (e*261) rfl (dk f<|.slice q f.ba.length r) _ P underlying271 rfl (jc _ _) ?_)
   |(refine gm 8 rfl rfl 271 rfl _ xa ?_;intro w3 v S w;rw[i]at w v)
   |(refine hw rfl 271 (.tmp 8) (.tmp 19) rfl _ rfl _ rfl _ S (by rw[gy,gy]) (jc _ _) (vl _ _ _ _) ?_;intro w4 j m;rw[i]at j m;have b:=zf.mk' s i v t l w H u m j n E;have aC:=b.nd.R;have aE:=b.s;have aF:=b.e0 d Q;have aG:=b.e0 (d+1) Q;(try have aL:=b.nd.aur (a.s[d]'R).toNat<|UInt8.toNat_lt _);have y:=J<|b.xxf W k aM U;subst e1 e2;clear j m b L M)
   |(refine ir 91 rfl rfl 246 (.tmp 7) rfl _ rfl _ _ y.1 underlying246 rfl (gh _) ?_)
   |(refine hw rfl 246 (.tmp 6) (.tmp 91) rfl _ rfl _ rfl _ y.2.1 (by simp only[ek]) (gh _) (oh _) ?_;intro m b j))
  exact wb 6 246 results214 rfl _ rfl _ _ b underlying246 rfl (gh _) ⟨_,rfl,F,Eu y.2.2.1 y.2.2.2 j n X z A⟩
def awk(a:Fp)(e d:Nat)(f:Nd)(hd:a.bc[e]?=some f)(p:f.R=0)(F:¬d<a.s.size)(g:ae)(c:et g a)(aJ:d<=a.s.size):
  Calls prog 214 #[.pointer<|some ⟨a.fb,0,none⟩,.int .i64 e,.int .i64 d] g λk x=>∃o,k=.returned (.agg (dj o).toArray)/\io o (bi a.s a.bc e d)/\et x a/\Fm a g x:=by
 have W:=c;obtain⟨q,r,B,i,Z,n,X,z,A,a0,a1,a2,a3,a5,a6,⟨a7,C⟩,D,E,a8,a9⟩:=xxd c hd;have aC:(f.R:Int)=0:=Q
 have y:Y (io (λ_=>false)<|bi a.s a.bc e d):=by
  intro n j
  rw[oy c.wf hd,G p];constructor
  .intro c;cases c
  rintro⟨c,_⟩;exact cb c F
 clear c i hd p;go_in;go_wp2_with (first
  |(refine gm 6 rfl rfl 246 rfl _ ld ?_;intro aB s H t)
  |(refine gm 7 rfl rfl 246 rfl _ ld ?_;intro K i u l;rw[s]at u l i;obtain⟨L,M,P⟩:=W.xxe B C<|t.trans<|l.mono Q)
  |(refine wpList_load_mid rfl 271 (.tmp 18) rfl a.nb (e*261) rfl (dk f<|.slice q f.ba.length r) _ P underlying271 rfl (jc _ _) ?_)
  |(refine gm 8 rfl rfl 271 rfl _ xa ?_;intro w3 v S w;rw[i]at w v)
  |(refine hw rfl 271 (.tmp 8) (.tmp 19) rfl _ rfl _ rfl _ S (by rw[gy,gy]) (jc _ _) (vl _ _ _ _) ?_;intro w4 j m;rw[i]at j m;have b:=zf.mk' s i v t l w H u m j n E;have aI:=b.nd.R;have aE:=b.s;have T:=b.e;have U:=b.z;have V:=W.grow b.below;have aK:Fm a g w4:=Below.fm b.below;clear j m b L M)
  |(refine ir 91 rfl rfl 246 (.tmp 7) rfl _ rfl _ _ T underlying246 rfl (gh _) ?_)
  |(refine hw rfl 246 (.tmp 6) (.tmp 91) rfl _ rfl _ rfl _ U (by simp only[ek]) (gh _) (oh _) ?_;intro m b j))
 exact wb 6 246 results214 rfl _ rfl _ _ b underlying246 rfl (gh _) ⟨_,rfl,y,Eu V aK j n X z A⟩
def awh(d:Fp)(j k:Nat)(b:Nd)(hd:d.bc[j]?=some b)(X:b.R=3\/b.R=4)(W:∀h∈b.ba,h<d.bc.length/\vx d h)(bE:b.ba.length<=1000)(o:ae)(e:et o d)(bD:k<=d.s.size):
  Calls prog 214 #[.pointer<|some ⟨d.fb,0,none⟩,.int .i64 j,.int .i64 k] o λV a5=>∃i,V=.returned (.agg (dj i).toArray)/\io i (bi d.s d.bc j k)/\et a5 d/\Fm d o a5:=by
 have a6:=J e;have bF:=e.js;have K:=e.lt;have a7:=e.kl;have a8:=e.el;have a9:=e.nf;have aA:=e.nk;have aB:=e.ne;have bG:j<d.bc.length:=by
  obtain g|g:=hb j d.bc.length
  .exact g
  rw[je g]at hd;cases hd
 have bH:=e.tree.ko;have bI:=J hd;obtain⟨C,L,a,c⟩:=e.tree.node j b hd;have aC:=J a;have bJ:=e.tree.xm;have bK:=e.tree.Ao;obtain⟨bL,aD⟩:=e.tree.c0;have aE:=e.c0;have aF:=e.c1;have bM:(0:Int)<=j:=Q
 have bN:(j:Int)<d.bc.length:=Q
 have aG:Y (b.R≠0/\b.R≠1/\b.R≠2/\b.R≠5/\b.R≠6):=by obtain g|g:=X<;>(rw[Y,g];decide)
 have aH:Y (Ad o d.N0 b C):=c;have aI:Y (∀i,io i (λf=>∃h∈b.ba,bi d.s d.bc h k f)->io i (bi d.s d.bc j k)):=by
  intro i p f v
  obtain⟨D,E,F,P,w⟩:=aG;rw[p f v,oy e.wf hd,N D,N E,N F,N P,N w]
 have aJ:=J W;clear W;clear e a c hd;obtain bO|bO:(b.R:Int)=3\/(b.R:Int)=4:=Q
 all_goals
  clear X;go_in;go_wp2_with (first
   |(refine gm 6 rfl rfl 246 rfl _ ld ?_;intro bP Z a c;have aK:=J a;have a0:=J c;clear a c)
   |(refine gm 7 rfl rfl 246 rfl _ ld ?_;intro aL x m c;rw[Z]at m c x;have aM:=J m;have aN:=J c;have a:=a0.trans (c.mono Q);have bQ:=J a;have q:=(a.cell (p:=O d.fb 0) K).trans aE;have s:=(a.cell (p:=O d.tb 0) qB).trans aD;have aO:Y (aL.rangeAt d.nb (j*261)<|dk b<|.slice C b.ba.length L):=λf p aP=>(a.cell (p:=(O d.nb<|j*261+f)) qB).trans<|aC f p aP;clear m c a)
   |(refine wpList_load_mid rfl 271 (.tmp 18) rfl d.nb (j*261) rfl (dk b<|.slice C b.ba.length L) _ aO underlying271 rfl (jc _ _) ?_)
   |(refine gm 8 rfl rfl 271 rfl _ xa ?_;intro w3 a1 c a;rw[x]at a a1;have aQ:=J c;have aR:=J a;clear c a)
   |(refine hw rfl 271 (.tmp 8) (.tmp 19) rfl _ rfl _ rfl _ aQ (by rw[gy,gy]) (jc _ _) (vl _ _ _ _) ?_;intro w4 c n;rw[x]at c n;have a:=zf.mk' Z x a1 a0 aN aR aK aM n c K aF;have m:=J a;have aS:=a.nd.R;have aT:=a.nd.ba;have aU:=a.s;have aV:=a.e0 k Q;have aW:=a.e0 (k+1) Q;clear c n a q s))
  go_loopw [9] (λp wr=>∃(a:Nat)(i:Nat->Bool),a<=b.ba.length/\p=I a/\io i (λf=>∃h∈b.ba.take a,bi d.s d.bc h k f)/\
    bd wr (o.heap.size+1+1) (dk b<|.slice C b.ba.length L)/\bd wr (o.heap.size+1) (dj i)/\bd wr o.heap.size (dj λ_=>false)/\et wr d/\Fm d o wr) (λp _=>b.ba.length-(intOf p).toNat)
  case atStart=>exact⟨0,_,ey _,rfl,λf _=>⟨(λg=>cb g qD),(λ⟨h,n,_⟩=>cb n qD)⟩,m.nd,m.e,m.z,a6.grow m.below,Below.fm m.below⟩
  obtain⟨a,i,bR,rfl,qa,q,y,R,S,s⟩:=hrel;have aX:=J q;have aY:=J y;have a2:=J R;have D:=J S;have E:=J s;have a3:=J qa;have bS:=q.ba;have bT:=q.lt (by rw[gy];omega);clear aS aT aU aV aW;by_cases aZ:a<b.ba.length
  .have bU:=s.size;obtain⟨h,n⟩:∃h,b.ba[a]?=some h:=⟨b.ba[a],dy aZ⟩;have b0:=qy n;obtain⟨bV,b1,bW,bX⟩:=(aH.below<|s.below aA aB Q) a h n;simp only[O]at b1;subst b1;have bY:(0:Int)<=a:=Q
   have bZ:(a:Int)<b.ba.length:=Q
   have b2:=J<|D.grow (bp _ _).drew;have F:=J y.drew;have t:Y (wr.drew.heap.size=wr.heap.size):=rfl;have b3:=J<|aJ h b0;have b4:=Aq F;clear q y R S s qa;go_wp21;go_region_with ((first
    |(go_at_call 185;go_call b3.2 _ k b2 bD as V c0 ⟨Y,rfl,l,A,r⟩;have b5:=J l;have P:=J A;have u:=J r;have c:=F.fm r (by rw[t.out];omega) Q Q;have T:=J c;have c1:=Aq c;clear l A r c)
    |(go_at_call 236;go_call Ks i Y _ as V b6 ⟨rfl,M⟩;obtain⟨c2,b7,w,a4⟩:=Bz (T.below M (by have:=u.size;rw[t.out]at this;omega)) (λf=>i f||Y f))))
   all_goals
    have b8:=u.size;rw[t.out]at b8;have l:=J M;have b9:=J w;have z:=J a4;clear M w a4 b7 b4;go_wp21;go_roundw
    case rel=>
     refine⟨a+1,_,Q,qJ,λf v=> ?_,?_,b9,?_,(P.grow l).bj z Q Q Q Q,(((E.trans<|Below.fm (bp _ _).drew).trans u).trans<|Below.fm l).bj z Q⟩
     .simp only[uz];have bA:b.ba.take (a+1)=b.ba.take a++[h]:=by
       have:=Yq (k0:=0) n<|ey _;simpa using this
      rw[a3.out f v,b5.out f v,bA];constructor
      .rintro(⟨B,U,c⟩|c)
       .exact⟨B,List.mem_append_left _ U,c⟩
       exact⟨h,qD,c⟩
      rintro⟨B,U,c⟩;obtain g|g:=og.1 U
      .exact .inl ⟨B,g,c⟩
      have:B=h:=qK g
      subst this;exact .inr c
     .exact(((bd.drew aX).fm u (by rw[t.out];omega) Q Q).below l Q).bj z Q
     exact(((bd.drew a2).fm u (by rw[t.out];omega) Q Q).below l Q).bj z Q
    simp[intOf];omega
  have H:a=b.ba.length:=Q
  subst H;have c:Y (io i<|bi d.s d.bc j k):=aI i (by
   intro f v
   rw[a3.out f v,List.take_length])
  have T:=aY;have t:=a2;clear q y R S s qa;go_wp2_with (first
   |(refine ir 91 rfl rfl 246 (.tmp 7) rfl _ rfl _ _ T underlying246 rfl (gh _) ?_)
   |(refine hw rfl 246 (.tmp 6) (.tmp 91) rfl _ rfl _ rfl _ t (by simp only[ek]) (gh _) (oh _) ?_;intro b6 u l))
  exact wb 6 246 results214 rfl _ rfl _ _ u underlying246 rfl (gh _) ⟨_,rfl,c,Eu D E l K a7 a8 a9⟩
def awi(a:Fp)(i f:Nat)(e:Nd)(hd:a.bc[i]?=some e)(S:e.R=5)(F:∀v∈e.ba,v<a.bc.length/\vx a v)(aE:e.ba.length<=1000)(q:ae)(c:et q a)(b5:f<=a.s.size):
  Calls prog 214 #[.pointer<|some ⟨a.fb,0,none⟩,.int .i64 i,.int .i64 f] q λB R=>∃l,B=.returned (.agg (dj l).toArray)/\io l (bi a.s a.bc i f)/\et R a/\Fm a q R:=by
 have T:=c;obtain⟨s,D,a0,d,aQ,C,U,V,W,X,Z,aR,aS,aU,aV,⟨aW,a1⟩,a2,a3,aX,aY⟩:=xxd c hd
 have aZ:(e.R:Int)=5:=Q
 have a4:Y (Ad q a.N0 e s):=d;have a5:Y (∀l,io l (λn=>∃t,(λj=>decide (j=f)) t=true/\ku ((e.ba.drop 0).map λv=>bi a.s a.bc v) t n)->io l (bi a.s a.bc i f)):=by
  intro l h n k
  rw[h n k,oy c.wf hd,N Q,N Q,N Q,G S];constructor
  .rintro⟨t,u,o⟩;have:t=f:=qK u
   subst this;exact o
  intro m
  exact⟨f,qD,m⟩
 have a6:=J F;have a7:Y (∀j,(λj=>decide (j=f)) j=true->j<=a.s.size):=λj a8=>by
  have:j=f:=qK a8
  omega
 clear F;clear c d hd S;go_in;go_wp2_with (first
  |(refine gm 6 rfl rfl 246 rfl _ ld ?_;intro b0 u a9 H)
  |(refine gm 7 rfl rfl 246 rfl _ ld ?_;intro aA o K E;rw[u]at K E o;obtain⟨k,p,aB⟩:=T.xxe a0 a1<|H.trans<|E.mono Q)
  |(refine wpList_load_mid rfl 271 (.tmp 18) rfl a.nb (i*261) rfl (dk e<|.slice s e.ba.length D) _ aB underlying271 rfl (jc _ _) ?_)
  |(refine gm 8 rfl rfl 271 rfl _ xa ?_;intro w3 L aF M;rw[o]at M L)
  |(refine hw rfl 271 (.tmp 8) (.tmp 19) rfl _ rfl _ rfl _ aF (by rw[gy,gy]) (jc _ _) (vl _ _ _ _) ?_;intro w4 d h;rw[o]at d h;have b:=zf.mk' u o L H E M a9 K h d C a3;have r:=b.nd.R;have w:=b.nd.ba;have x:=b.s;have y:=b.e0 f Q;have z:=b.e0 (f+1) Q;clear d h k p))
 have aG:=(T.grow b.below).grow (bp _ _).drew;have P:Fm a q w4.drew:=(Below.fm b.below).trans<|Below.fm (bp _ _).drew;have qa:=b.nd.drew;have aH:=b.e.drew;have aI:=b.z.drew;have aJ:=J (a4.below<|P.below X Z Q);have aK:=By qa;have h:Y (w4.drew.heap.size=q.heap.size+1+1+1):=b.size;clear r w x y z;go_region_with ((first
  |(go_at_call 216;go_call Oj f _ Q as B b1 ⟨rfl,d⟩;have b2:=By<|qa.below d<|by rw[h.out];omega)
  |(go_at_call 215;go_call Qe a e s D a6 _ 0 _ (aG.grow d) (aJ.below<|d.mono<|by rw[h.out];omega) aE a7 as B w ⟨r,rfl,k,A,g⟩;obtain⟨b3,x,y,p⟩:=Bz ((aH.below d<|by rw[h.out];omega).fm g (by have:=d.size;rw[h.out]at this;omega) Q Q) r)))
 all_goals
  have b4:=g.size;have z:=d.size;rw[h.out]at z;have aL:=((aI.below d<|by rw[h.out];omega).fm g Q Q Q).bj p Q;have aM:=A.bj p Q Q Q Q;have aN:=((P.trans<|Below.fm d).trans g).bj p Q;have aO:=J<|a5 r k;clear k A g x p aK;go_wp2_with (first
   |(refine ir 91 rfl rfl 246 (.tmp 7) rfl _ rfl _ _ y underlying246 rfl (gh _) ?_)
   |(refine hw rfl 246 (.tmp 6) (.tmp 91) rfl _ rfl _ rfl _ aL (by simp only[ek]) (gh _) (oh _) ?_;intro w aP k))
  exact wb 6 246 results214 rfl _ rfl _ _ aP underlying246 rfl (gh _) ⟨_,rfl,aO,Eu aM aN k C U V W⟩
def awl(a:Fp)(h f:Nat)(c:Nd)(hd:a.bc[h]?=some c)(p:Nat)(R:c.R=6)(z:c.ba[0]?=some p)(S:p<a.bc.length/\vx a p)(T:c.ba.length<=1000)(U:c.lo<=1000)(V:-1<=c.hi/\c.hi<=1000)(W:c.hi<0\/(c.lo:Int)<=c.hi)(o:ae)(d:et o a)(b9:f<=a.s.size):
  Calls prog 214 #[.pointer<|some ⟨a.fb,0,none⟩,.int .i64 h,.int .i64 f] o λF qa=>∃m,F=.returned (.agg (dj m).toArray)/\io m (bi a.s a.bc h f)/\et qa a/\Fm a o qa:=by
 have X:=d;obtain⟨w,K,a4,n,aU,H,Z,a0,a1,a2,a3,aV,aW,aY,aZ,⟨b0,a5⟩,a6,a7,b1,b2⟩:=xxd d hd
 have b3:(c.R:Int)=6:=Q
 have a8:Y (Ad o a.N0 c w):=n;have a9:Y (∀m,io m (un (bi a.s a.bc p) c.lo c.hi 0<|λL=>(λk=>decide (k=f)) L=true)->io m (bi a.s a.bc h f)):=by
  intro m r x s
  have t:c.ba.getD 0 0=p:=by rw[yz,z];rfl
  rw[r x s,oy d.wf hd,N Q,N Q,N Q,N Q,G R,t];unfold un Bg;constructor
  .rintro⟨L,b,e,y,l,q,i⟩;have:L=f:=qK y
   subst this;exact⟨b,e,l,by have:=W;simp at q;omega,i⟩
  rintro⟨b,e,l,q,i⟩;exact⟨f,b,e,qD,l,qB,i⟩
 have aA:=J S;have aB:=J z;have aC:Y (∀k,(λk=>decide (k=f)) k=true->k<=a.s.size):=λk aD=>by
  have:k=f:=qK aD
  omega
 clear S z;clear d n hd R;go_in;go_wp2_with (first
  |(refine gm 6 rfl rfl 246 rfl _ ld ?_;intro b4 y aE r)
  |(refine gm 7 rfl rfl 246 rfl _ ld ?_;intro aF l s n;rw[y]at s n l;obtain⟨j,u,aG⟩:=X.xxe a4 a5<|r.trans<|n.mono Q)
  |(refine wpList_load_mid rfl 271 (.tmp 18) rfl a.nb (h*261) rfl (dk c<|.slice w c.ba.length K) _ aG underlying271 rfl (jc _ _) ?_)
  |(refine gm 8 rfl rfl 271 rfl _ xa ?_;intro w3 q aJ t;rw[l]at t q)
  |(refine hw rfl 271 (.tmp 8) (.tmp 19) rfl _ rfl _ rfl _ aJ (by rw[gy,gy]) (jc _ _) (vl _ _ _ _) ?_;intro w4 e i;rw[l]at e i;have b:=zf.mk' y l q r n t aE s i e H a7;have v:=b.nd.R;have A:=b.nd.ba;have B:=b.s;have D:=b.e0 f Q;have E:=b.e0 (f+1) Q;clear e i j u))
 have aK:=(X.grow b.below).grow (bp _ _).drew;have u:Fm a o w4.drew:=(Below.fm b.below).trans<|Below.fm (bp _ _).drew;have P:=b.nd.drew;have aL:=b.e.drew;have aM:=b.z.drew;have aN:=J (a8.below<|u.below a2 a3 Q);have aO:=By P;have e:Y (w4.drew.heap.size=o.heap.size+1+1+1):=b.size;clear v A B D E;go_region_with ((first
  |(go_at_call 216;go_call Oj f _ Q as F b5 ⟨rfl,M⟩;have b6:=By<|P.below M<|by rw[e.out];omega)
  |(go_at_call 217;go_call aja a c w K p aB aA _ 0 _ (aK.grow M) (aN.below<|M.mono<|by rw[e.out];omega) T U V Q aC as F A ⟨v,rfl,i,C,g⟩;obtain⟨b7,B,D,j⟩:=Bz ((aL.below M<|by rw[e.out];omega).fm g (by have:=M.size;rw[e.out]at this;omega) Q Q) v)))
 all_goals
  have b8:=g.size;have E:=M.size;rw[e.out]at E;have aP:=((aM.below M<|by rw[e.out];omega).fm g Q Q Q).bj j Q;have aQ:=C.bj j Q Q Q Q;have aR:=((u.trans<|Below.fm M).trans g).bj j Q;have aS:=J<|a9 v i;clear i C g B j aO;go_wp2_with (first
   |(refine ir 91 rfl rfl 246 (.tmp 7) rfl _ rfl _ _ D underlying246 rfl (gh _) ?_)
   |(refine hw rfl 246 (.tmp 6) (.tmp 91) rfl _ rfl _ rfl _ aP (by simp only[ek]) (gh _) (oh _) ?_;intro A aT i))
  exact wb 6 246 results214 rfl _ rfl _ _ aT underlying246 rfl (gh _) ⟨_,rfl,aS,Eu aQ aR i H Z a0 a1⟩
structure Bc(d:Nd):Prop where
 R:d.R<=6
 ba:d.ba.length<=1000
 lo:d.lo<=1000
 hi:-1<=d.hi/\d.hi<=1000
 lh:d.hi<0\/(d.lo:Int)<=d.hi
def awe(c:Fp)(d:Nat)(b:Nd)(hd:c.bc[d]?=some b)(g:Bc b)(l:∀j∈b.ba,j<c.bc.length/\vx c j):aak c d:=by
 intro h e f i
 have q:=g.R;obtain⟨_,m⟩:=f.wf d b hd;obtain a|a|a|a|a|a|a:b.R=0\/b.R=1\/b.R=2\/b.R=3\/b.R=4\/b.R=5\/b.R=6:=Q
 .by_cases k:e<c.s.size
  .exact awf c d e b hd (.inr<|.inr ⟨a,k⟩) h f i
  exact awk c d e b hd a k h f i
 .exact awf c d e b hd (.inl a) h f i
 .exact awf c d e b hd (.inr<|.inl a) h f i
 .exact awh c d e b hd (.inl a) l g.ba h f i
 .exact awh c d e b hd (.inr a) l g.ba h f i
 .exact awi c d e b hd a l g.ba h f i
 have n:=m a;obtain⟨j,k⟩:∃j,b.ba[0]?=some j:=by
  cases o:b.ba with
  |nil=>exact cb o n
  |cons p r=>exact⟨p,rfl⟩
 exact awl c d e b hd j a k (l j<|qy k) g.ba g.lo g.hi g.lh h f i
def Uk(b:Fp)(e:Wf b.bc)(d:∀(a:Nat)(f:Nd),b.bc[a]?=some f->Bc f):∀(c a:Nat),a<c->a<b.bc.length->vx b a
 |0,a,h,_=>Q
 |c+1,a,h,hn=>by
  have hd:=dy hn;obtain⟨i,_⟩:=e a _ hd;exact aov b a (awe b a _ hd (d a _ hd) (λg j=>by
   have:=i g j;exact⟨Q,Uk b e d c g Q Q⟩)) hn
