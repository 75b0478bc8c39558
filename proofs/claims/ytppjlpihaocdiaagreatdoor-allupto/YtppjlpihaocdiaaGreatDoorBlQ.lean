import Derived.Test.YtppjlpihaocdiaaGreatDoorBjQ
set_option linter.all false
set_option maxRecDepth 100000
set_option maxHeartbeats 16000000
namespace Go.Proofs.YtppjlpihaocdiaaGreatDoor
open Go.RowKit Go.Proofs.Tryz
variable{w u v:ae}{a b c d e:Nat}{s t:ag}{x y z:af}{p D:Int}{l:List af}{f:Bool}{g:List Nat}{h:Nat->Prop}{o:Option Addr}{r:List UInt8}{A:Nat->Bool}{B:Nat->Nat->Bool}{C:Nat->Nat->Prop}(i:Nat)(S T:ag)(V X:af)(j k m n:Nat)(Z:Int)(W:ae)
def CyQ(mf:Mf)(p:Dw)(d:Bool)(F:List UInt8×Nat)(cv pv:af)(w:ae)(n:Nat)(e:Ending)(w':ae):Prop:=e=.returned (.tuple #[])/\∃D cv',DQ p cv w w' D cv' pv/\(Qt F D\/(Qje mf p.cf d F D/\D.rest.size<=n))
def acw(a:Dd):a.pw.out.size+fz a.pw.ef=a.out.size+fz a.ef:=by
 obtain⟨d,c,b⟩:=Em a.ef a;rw[Dd.pw,c];exact b
def aqr(e:a<=20)(d:a≠0)(c:b=Gp.getD a 0):((b:Int)==123)=false:=by
 rw[c];have:a=1\/a=2\/a=3\/a=4\/a=5\/a=6\/a=7\/a=8\/a=9\/a=10\/a=11\/a=12\/a=13\/a=14\/a=15\/a=16\/a=17\/a=18\/a=19\/a=20:=Q
 obtain rfl|rfl|rfl|rfl|rfl|rfl|rfl|rfl|rfl|rfl|rfl|rfl|rfl|rfl|rfl|rfl|rfl|rfl|rfl|rfl:=this<;>rfl
def amg{z:Mf}(bE:fj z)(b:Dw)(y:Bool)(a1:List UInt8×Nat)(x:Dd)(V o:af)(aL:Nat)(v:List Dc)(bI:List ag)(bA:List Nat)(aV:Nat)(a0:Ed)(aN:List UInt8)(A:ae)(a9:DE b A x V o)(bD:Env A b aL v bI bA)(bF:Rl b.cf y x a0 aN)(bG:To z b.cf y a1 aV 1 a0 aN)(c3:a0.H=0)(c5:1<=x.number):
  Calls prog 57 #[.pointer<|some ⟨b.b,0,none⟩] A (CyQ z b y a1 V o A x.rest.size):=by
 have aT:=hd bE;have D:=hd a9;have d:=hd bD;have c:=hd bF;have u:=hd bG;obtain⟨K,a⟩:∃K,K=x.rest.size:=⟨_,rfl⟩;rw[<-a];have aF:=hd a;have cI:=bq a9.le<|Nat.le_of_lt a9.lt;clear a9 bD bF bG bE a;go_in;go_wp21;go_loopg [2] (2001*K+1001) (λc6 cA wr=>∃(a:Dd)(j:af)(aU:Nat)(g:Ed)(aC:List UInt8),cA=I g.H/\Y (DQ b V A wr a j o)/\Y (Rl b.cf y a g aC)/\Y (To z b.cf y a1 aU 1 g aC)/\Y (1<=a.number/\a.rest.size<=K/\2001*a.rest.size+1001<=c6+a.dt))
 .exact⟨x,V,aV,a0,aN,by rw[c3];rfl,D.q,c,u,c5,by rw[aF.out];exact ah,by have:=aF.out;omega⟩
 clear c u aF;obtain⟨a,j,aU,g,aC,rfl,h,c,u,bO⟩:=hrel;have aY:=hd<|d.up<|h.low D;obtain⟨s1,s2,s3,s4,s5,d0,d1,d2⟩:=c.out.small u d.ok;have cJ:=d.len;have cK:=d.ok.dt;have cM:=d.ok.U;obtain⟨cE,cN,aD,cP⟩:=aY.rc.ls;have aM:=h.1.cell (k:=0) rfl;have bU:=bO.out;by_cases bV:g.H<v.length
 .obtain⟨gk,rfl⟩:∃w,gk=w+1:=⟨gk-1,Q⟩;obtain⟨q,X⟩:∃q,b.cf.U[g.H]?=some q:=⟨_,dy Q⟩;obtain⟨l,W⟩:∃l,v[g.H]?=some l:=⟨_,dy bV⟩;have p:=hd<|d.rel _ _ _ W X;have bP:=hd X;have aS:=hd W;have cV:(g.H:Int)<v.length:=Q
  have bW:=h.1.cell (k:=15) rfl;have bX:=h.1.cd 15 Q;have c8:=h.1.cell (k:=3) rfl;have bY:=h.1.cd 16 Q;have bZ:=h.1.cell (k:=16) rfl;have c0:=u.look d.ok c.es Q;have aI:=hd c.dt;obtain⟨a3,hF⟩|⟨a3,aZ⟩:=c0
  .have bK:((a.dt:Int)==b.cf.dt)=true:=by rw[aI.out,a3];simp
   have E:Y (Qt a1 {a with ck:=5}):=⟨.inl qD,by rw[hF,<-c.out.out]⟩;clear hF a3 X W;go_wp21;go_quiet (fail);go_wp21;go_returns;exact⟨rfl,_,j,(h.drewN _).ck 5,.inl E⟩
  have bK:((a.dt:Int)==b.cf.dt)=false:=hh (by rw[aI.out];omega);obtain⟨d3,d4,d5,r,e⟩:=aY.rc.H _ _ W;have cR:=hd e;have n:q.snd.sort<=3:=by rw[<-p.snd];exact e.snd.1
  have a4:Y (Rl b.cf y {a with dt:=a.dt+1} {g with cx:=g.cx+1,bg:=2} aC):=⟨c.rest,c.dq,c.en,c.number,c.L,c.bt,c.ef,c.out.out,c.out.bo,c.out.put,by show a.dt+1=g.cx+1;rw[aI.out],c.out.st,c.out.es,c.out.ji,c.out.ps,c.out.hs,c.out.nn⟩;have aH:=hd<|auf d.ok aZ a4 rfl X p.out n;have i:=hd λ(aW:ae) (bJ:DQ b V A aW {a with dt:=a.dt+1} j o)=>auh aT.out b {a with dt:=a.dt+1} j o aL g.H v l aW bJ.1 (d.up<|bJ.low D.out).rc aS.out s1 (by show g.H<a.bo.length;omega) (by show a.number<=_;omega)
  have cS:=h.1.lt;obtain⟨f,k⟩:∃f,f={a with dt:=a.dt+1}:=⟨_,rfl⟩;have c1:=hd k;have H:=hd λc9:Nat=>(h.drewN c9).dt<|a.dt+1
  rw[<-k]at a4 aH i H;clear aZ X W a3 n e k;go_wp21;go_quiet (fail);go_wp21;have H:=hd<|H.out nq;go_call i.out _ H.out as a8 d6 ⟨rfl,e⟩;have t:=hd<|H.trans e;have a5:=e.1.cell (k:=17) rfl;clear e i bW bX c8 bY bZ r aD aM;obtain⟨b0,L⟩|⟨aB,bT,b1,b2,aX⟩:=aH.out
  .rw[b0]at a5;have E:=hd L;clear b0 L;go_wp21;go_returns;exact⟨rfl,_,j,t.out,.inl E⟩
  rw[b1]at a5 t|-;rw[show({f with bo:=aB}:Dd).ji=false from a4.out.ji]at a5;have c2:=hd b2;have bR:=hd aX;have b3:=hd<|d.up<|t.low D.out;obtain⟨cT,cF,aD,bS⟩:=b3.rc.ls;rw[bS Q]at aD;have aM:=t.1.cell (k:=0) rfl;obtain⟨aP,aQ,aR,e,i⟩:=b3.rc.H _ _ aS.out;have k:=hd e;have b4:=hd i;clear b1 b2 aX e i aH;go_upto_region 8 with(first
   |(refine gm 4 rfl rfl 177 rfl _ Td ?_;intro w3 r e i)
   |(refine wpList_load_mid rfl 177 (.tmp 51) rfl aL (g.H*16) rfl (ig l aP aQ aR) _ k.out underlying177 rfl (Dx _ _ _ _) ?_)
   |(refine hw rfl 177 (.tmp 4) (.tmp 52) rfl _ rfl (ig l aP aQ aR) rfl _ e rfl (Dx _ _ _ _) (Oe _ _ _ _ b4.one) ?_;intro w4 aK n))
  have b5:=hd<|Below.bj i n ah;have M:=hd<|t.below b5.out;clear n e i r aD aM a5 k;have c7:=aK.cell (k:=0) rfl;have bH:=aK.cell (k:=8) rfl;have n:2001*f.rest.size+1001<=gk+f.dt/\f.rest.size<=K/\1<=f.number/\f.dt<=1001:=by rw[c1.out];simp only;omega
  cases aA:(bT !=q.neg)
  .obtain⟨aG,aE,aO,r,i,k⟩:=c2.out (qK aA);have B:=hd r;have F:=hd i;have s:=hd k;clear r i k aA;by_cases e:q.R=0
   .have P:((l.di:Int)==123)=true:=by rw[p.lt,e];rfl
    rw[p.cn e]at bH;rw[G e]at s;go_wp21;go_roundg gk
    case measure=>omega
    exact⟨_,j,aG,aE,aO,by rw[s.out],M.out,F.out,B.out,n.2.2.1,n.2.1,n.1⟩
   have P:=aqr p.kd e p.lt;rw[N e]at s;go_wp21;go_roundg gk
   case measure=>omega
   exact⟨_,j,aG,aE,aO,by rw[s.out];go_num,M.out,F.out,B.out,n.2.2.1,n.2.1,n.1⟩
  obtain⟨aG,aE,aO,r,i,k,R⟩:=bR.out (qK aA);have s:=am0 (p:=b) d.ok rfl r i R (by rw[k];exact bP.out) p.out;rw[k]at s;obtain⟨S,T,U,Z,a2,_,_,_⟩:=i.small r d.ok;have B:=hd<|d.up<|M.low D.out;have F:=amz aT.out b {f with bo:=aB} j o aP aQ aR v.length bI bA l q w4 ⟨M.1,b4.up<|b5.mono<|bq t.1.le<|Nat.le_of_lt t.1.lt,p.out,B.rs,B.rc.rl,B.rk,Q,S,T,U,Q,n.2.2.1,Q,a4.ji,d.ok.space⟩;unfold Zq at F;have qa:=amm z b q l {f with bo:=aB};generalize Dd.cz z b q l {f with bo:=aB}=bQ at F s qa;obtain⟨e,cC⟩:=bQ;have P:=hd s;have cG:f.number<=e.number:=qa.1;have cH:e.rest.size<=f.rest.size:=qa.2;clear r i k R aA s qa S T U Z a2 B;go_wp2_with (refine ir 63 rfl rfl 177 (.tmp 4) rfl _ rfl _ _ aK underlying177 rfl (Dx _ _ _ _) ?_);refine F.mono ?_;rintro a8 bL ⟨rfl,qa,i⟩;have r:=hd<|M.trans i;simp only at r|-;clear F i c7 bH;obtain⟨C,L⟩|⟨C,R⟩|⟨C,b8,b9,F,B,Z,i,k,S⟩|⟨w,c4,b6,F,B,Z,i,k,S⟩:=P.out
  .simp only at C;subst C;have E:=hd L;clear L P;go_wp21;go_returns;exact⟨rfl,_,qa,r,.inl E⟩
  .simp only at C;subst C;have aJ:=hd R;obtain⟨F,B,Z,i,k,_⟩:=R;have T:=Uj b e qa o bL r.1 (bq (yh (acw e).symm)<|bq (k.small i d.ok).2.2.1 Q);clear i k P;go_wp21;go_call T;rintro a8 bM ⟨rfl,s⟩;have U:=hd<|r.trans s;clear T s;go_wp21;go_returns;exact⟨rfl,_,_,U,.inr ⟨aJ,by rw[(Gh e).2.2];omega⟩⟩
  .simp only at C;subst C;have a2:=hd i;have a6:=hd k;have a7:=hd S;have b7:=J b8;have bN:=J b9;have T:=Uj b e qa o bL r.1 (bq (yh (acw e).symm)<|bq (k.small i d.ok).2.2.1 Q);clear i k S b8 b9 P;go_wp21;go_call T;rintro a8 bM ⟨rfl,s⟩;have U:=hd<|r.trans s;clear T s;go_wp21;go_roundg gk
   case measure=>omega
   exact⟨_,_,F,B,Z,by rw[a7.out];rfl,U,a6,a2,by rw[(Gh e).1];omega,by rw[(Gh e).2.2];omega,by rw[(Gh e).2.1,(Gh e).2.2,b7.out,bN.out];exact n.1⟩
  have a2:=hd i;have a6:=hd k;have a7:=hd S;have T:Y (2001*e.rest.size+1001<=gk+e.dt):=by
   obtain⟨b7,bN⟩|m:=b6
   .rw[show e.dt=f.dt from b7,show e.rest=f.rest from bN];exact n.1
   have:e.rest.size<f.rest.size:=m;rw[Y];omega
  have cU:w<=1000:=by have:=(k.small i d.ok).2.2.2.2.2.2.2;omega
  clear i k S b6 P;obtain⟨C,b7⟩|C:=c4
  .simp only at C;subst C;have bN:=hd b7;clear b7;go_wp21;go_roundg gk
   case measure=>omega
   exact⟨e,qa,F,B,Z,by rw[a7.out,bN.out];go_num,r,a6,a2,Q,Q,T⟩
  simp only at C;subst C;have bN:((w:Int)==-4)=false:=hh Q;have cW:((w:Int)==-2)=false:=hh Q;have cX:((w:Int)==-3)=false:=hh Q;have cZ:((w:Int)==-1)=false:=hh Q;go_wp21;go_roundg gk
  case measure=>omega
  exact⟨e,qa,F,B,Z,by rw[a7.out],r,a6,a2,Q,Q,T⟩
 have i:g.H=b.cf.U.length:=Q
 have iv:=u.wz.iv;have f:=u.step Q (Kk iv) (by unfold mu;simp) rfl λn=>by rw[Ce,G i]
 have R:=f.space.over d.ok c.space;have k:=hd (rfl:a.jk b=(if b.cf.quiet=true then a else a.print a.L).pw);have aJ:=J R;have e:=Ua b a j o wr h.1 Q;have l:=hd (Gf b a).2;clear f R iv i k;go_wp21;go_call e;rintro a8 bM ⟨rfl,s⟩;have U:=hd<|h.trans s;clear e s;go_wp21;go_returns;exact⟨rfl,_,_,U,.inr ⟨aJ,by rw[l.out];exact bU.2.1⟩⟩
def Dq(s:ag)(U:List Cm):Prop:=∀w,Calls prog 55 #[.string s] w λe w'=>∃rb lb cs ns gs,e=.returned (.pointer<|some ⟨rb,0,none⟩)/\Below w.heap.size w w'/\∀p:Dw,p.B=w'.heap.size->p.rb=rb->p.cf.U=U->gx p.cf->Env w' p lb cs ns gs
def Ea(cf:Cf)(inp:ag)(d:Bool):Dd:=⟨inp,d,0,⟨#[]⟩,⟨#[]⟩,[],⟨#[]⟩,List.replicate cf.U.length false,false,0,0,false⟩
def start{mf:Mf}{a:Cf}(e:gx a)(b:ag)(c:Bool)(g:b.size<=2000000):Qje mf a c (res<|nh mf a c (fy a)<|Qjj b) (Ea a b c):=by
 have f:=(Ts (cf:=a) e).2 rfl;refine⟨0,fy a,Qjj b,⟨Q,f,by rw[jn];omega,10000,Gt (K:=0) e,.inl ⟨rfl,?_⟩⟩,⟨rfl,rfl,(λd=>by cases d),rfl,rfl,rfl,rfl,rfl,rfl,rfl,rfl,rfl,rfl,rfl,ey _,ey _,by simp[fy]⟩,rfl⟩;have:(fy a).hu mf a 10000 0=fy a:=by
  rw[zt];have d:({fy a with bg:=0}:Ed).mi a=(fy a,false):=by
   rw[Ed.mi];simp[Ed.mh,Ed.sk,fy]
  rw[d];rfl
 rw[this]
def arb{cf:Cf}{rb:Nat}{a:Array af}{T:TypeId}(b:Bool)(f:a.size=cf.U.length)(d:a.toList=ov (List.replicate cf.U.length false))(g:cf.U.length<=1000):
  DE ⟨w.heap.size,w.heap.size+1,rb,cf⟩ ((w.alloc<|.cells a 4).alloc<|.cells (Ii ⟨w.heap.size,w.heap.size+1,rb,cf⟩ (Ea cf S b) (.slice none 0 0)<|aa w.heap.size cf.U.length cf.U.length).toArray T).drew (Ea cf S b) (.slice none 0 0) (aa w.heap.size cf.U.length cf.U.length):=by
 have c:=bd.new (w.alloc<|.cells a 4) (Ii ⟨w.heap.size,w.heap.size+1,rb,cf⟩ (Ea cf S b) (.slice none 0 0)<|aa w.heap.size cf.U.length cf.U.length) T;rw[show(w.alloc<|.cells a 4).heap.size=w.heap.size+1 by simp]at c;refine⟨c.cw rfl,yyc _ _ _ 1,⟨by simp[Ea,ov],.inr ⟨w.heap.size,cf.U.length,a,by simp[Ea],ah,?_,by simp[Ea],qH,Q,?_⟩⟩,qD,by simp[Value.ownBlock],by simp[Value.ownBlock],λh e=>by simp[Value.ownBlock]at e⟩
 .show((w.alloc<|.cells a 4).alloc _).heap[w.heap.size]?=_
  rw[im _ _ _ qD];exact yyb w _
 show List.take ((List.replicate cf.U.length false).length*1) a.toList=_
 rw[List.length_replicate,Nat.mul_one,d,Hh<|by simp[ov]];rfl
theorem aqp{p:Dw}{D:Dd}(a:D.rm p t=true):1<=(D.oe p t).number:=by
 simp only[Dd.rm,Aw,zyf,xz,yza,Bool.and_eq_false_iff,Bool.not_eq_false']at a;let⟨⟨⟨f,c⟩,e⟩,g⟩:=a;rw[Dd.oe,N,if_neg,N e,N]
 all_goals grind
theorem Xq{k:Mf}(aA:fj k)(aC f:ag)(e:Bool)(a:Cf)(c:ae)(o:gx a)(U:Dq aC a.U)(aX:f.size<=2000000):
  Calls prog 39 #[.string aC,.agg #[.int .i64 a.line,.int .i64 a.space,.int .i64 a.dt,.bool a.quiet],.string f,.bool e] c λB b2=>Below c.heap.size c b2/\B=.returned (.tuple #[.string<|ce (nh k a e (fy a)<|Qjj f).out,.int .i64 ((nh k a e (fy a)<|Qjj f).ck:Int)]):=by
 have aH:=hd aA;have V:=hd<|start (mf:=k) o f e aX;have D:=hd o;have aL:=hd U;obtain⟨j,hF⟩:∃j,j=res (nh k a e (fy a)<|Qjj f):=⟨_,rfl⟩;rw[<-hF]at V;have h:(nh k a e (fy a)<|Qjj f).out=j.1:=by rw[hF];rfl
 have l:(nh k a e (fy a)<|Qjj f).ck=j.2:=by rw[hF];rfl
 rw[h,l];let⟨b3,d,g,aM⟩:=Xn a.U.length (by have:=o.U;omega);have W:=hd d;have X:=hd g;have aN:=o.U;go_in;go_wp21;go_call aL.out as B b ⟨i,aZ,aV,ns,gs,rfl,x,y⟩;have b8:=hd y;have T:=(mj c _).trans (x.mono qD);have u:=hd<|y ⟨b.heap.size,b.heap.size+1,i,a⟩ rfl rfl rfl D;let⟨b7,b9,H,_⟩:=u.rc.ls;rw[u.len]at H;have d:∀g h,(c.alloc<|.cells #[I a.line,I a.space,I a.dt,.bool a.quiet] 23).cell? (O c.heap.size g)=some h->b.cell? (O c.heap.size g)=some h:=λg h p=>(x.cell (p:=O c.heap.size g) qD).trans p
 have qa:=d 0 _<|yya _ c.heap.size 0 _ 23 (0,0)<|heap_alloc_last c _;have a7:=d 1 _<|yya _ c.heap.size 1 _ 23 (0,0)<|heap_alloc_last c _;have a8:=d 2 _<|yya _ c.heap.size 2 _ 23 (0,0)<|heap_alloc_last c _;have a9:=d 3 _<|yya _ c.heap.size 3 _ 23 (0,0)<|heap_alloc_last c _;have Z:=hd<|arb (w:=b) (cf:=a) (rb:=i) (T:=130) f e W X aN;have aO:c.heap.size<b.heap.size:=dw b _ qa;have l:∀g h,b.cell? (O c.heap.size g)=some h->∀F,(b.alloc F).cell? (O c.heap.size g)=some h:=λg h p F=>(ac g<|im b F _ aO).trans p
 have aK:=l 0 _ qa;have w:=l 1 _ a7;have z:=l 2 _ a8;have A:=l 3 _ a9;have a0:=hd λb0 b1=>ss<|(mj b b0).trans<|(mj _ b1).mono qD
 go_upto_region 2 with fail
 go_cut [11] (λh aD=>h= ab (b.heap.size+1) 0/\Y (DE ⟨b.heap.size,b.heap.size+1,i,a⟩ aD (Ea a f e) (.slice none 0 0)<|aa b.heap.size a.U.length a.U.length)/\Y (Below b.heap.size b aD))
 case first=>
  go_region
  all_goals
   go_wp21;go_meet;exact⟨rfl,Z,a0 _ _⟩
 obtain⟨rfl,K,a1⟩:=hcut;have aP:=hd<|u.up a1;have aQ:=hd<|T.trans<|a1.mono T.size;go_wp21;go_loopg [12] (f.size+1) (λg h wr=>∃(d:Dd)(r:af),Y (DQ ⟨b.heap.size,b.heap.size+1,i,a⟩ (.slice none 0 0) wc wr d r<|aa b.heap.size a.U.length a.U.length)/\Y (Qt j d\/(Qje k a e j d/\d.rest.size<g)))
 .exact⟨_,_,K.q,.inr ⟨V,yxo _⟩⟩
 obtain⟨d,r,l,aG⟩:=hrel;have E:=l.1.xc 16;have L:=l.1.xc 17;have a2:=l.1.xc 12;have M:=hd λaJ d (aB:DQ ⟨b.heap.size,b.heap.size+1,i,a⟩ (.slice none 0 0) wc aJ d r (aa b.heap.size a.U.length a.U.length))=>aQ.trans<|(aB.low K.out).mono T.size
 obtain⟨R,m⟩|⟨aR,bA⟩:=aG.out
 .have v:=hd m;obtain C|C:=yzu d.ck
  .have n:=R.resolve_left Q;rw[n]at L;rw[C]at E;go_wp21;go_quiet (fail);go_wp21;go_ret2;exact⟨M.out _ _<|l.drewN _,by rw[v.out,C];rfl⟩
  have aB:((d.ck:Int)==0)=false:=hh Q;go_wp21;go_quiet (fail);go_wp21;go_ret2;exact⟨M.out _ _<|l.drewN _,by rw[v.out];rfl⟩
 obtain⟨gk,rfl⟩:∃aW,gk=aW+1:=⟨gk-1,Q⟩;obtain⟨b6,b5,bD,S,q,aY⟩:=aR;rw[q.st]at E;rw[q.ji]at L;have t:=Vn ⟨b.heap.size,b.heap.size+1,i,a⟩ d r (aa b.heap.size a.U.length a.U.length) ⟨#[]⟩ true wr l.1 (by have:=(q.small S D.out).2.2.2.2.1;omega) (ey _) (by have:=(q.small S D.out).2.2.2.1;omega);have s:=hd<|S.line (p:=⟨b.heap.size,b.heap.size+1,i,a⟩) (t:=⟨#[]⟩) D.out q (.inl ⟨rfl,aY,rfl⟩) rfl rfl;have P:=hd<|aqp (p:=⟨b.heap.size,b.heap.size+1,i,a⟩) (D:=d) (t:=⟨#[]⟩);generalize Dd.oe ⟨b.heap.size,b.heap.size+1,i,a⟩ d ⟨#[]⟩=aE at t s P;generalize Dd.rm ⟨b.heap.size,b.heap.size+1,i,a⟩ d ⟨#[]⟩=b4 at t s P;go_wp21;refine t.mono ?_;rintro B w3 ⟨rfl,w⟩;have n:=hd<|l.trans w;obtain⟨rfl,C,aI,aF,H,m,z,A⟩|⟨rfl,a3⟩:=s.out
 .have a4:=amg aH.out ⟨b.heap.size,b.heap.size+1,i,a⟩ e j aE r (aa b.heap.size a.U.length a.U.length) aZ aV ns gs aI aF H w3 n.1 (aP.up<|n.low K.out) z m (by rw[A];rfl)<|P.out rfl;go_wp21;go_call a4;rintro B w4 ⟨rfl,t,aS,a5,a6⟩;have aT:=hd<|n.trans a5;have aU:Y (Qt j t\/(Qje k a e j t/\t.rest.size<gk)):=a6.imp id λp=>⟨p.1,Q⟩
  go_wp21;go_roundg gk
  case measure=>omega
  grind
 have E:=n.1.xc 16;have a2:=n.1.xc 12;have v:=hd a3.2;go_wp21;go_quiet (fail);go_wp21;go_ret2;exact⟨M _ _<|n.drewN _,by rw[v.out];rfl⟩
