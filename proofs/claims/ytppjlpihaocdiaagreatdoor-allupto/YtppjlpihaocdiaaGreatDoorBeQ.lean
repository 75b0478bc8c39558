import Derived.Test.YtppjlpihaocdiaaGreatDoorAvQ
import Derived.Test.YtppjlpihaocdiaaGreatDoorBdQ
set_option linter.all false
set_option maxRecDepth 100000
set_option maxHeartbeats 16000000
namespace Go.Proofs.YtppjlpihaocdiaaGreatDoor
open Go.RowKit Go.Proofs.Tryz
variable{w u v:ae}{a b c d e:Nat}{s t:ag}{x y z:af}{p D:Int}{l:List af}{f:Bool}{g:List Nat}{h:Nat->Prop}{o:Option Addr}{r:List UInt8}{A:Nat->Bool}{B:Nat->Nat->Bool}{C:Nat->Nat->Prop}(i:Nat)(S T:ag)(V X:af)(j k m n:Nat)(Z:Int)(W:ae)
structure Ls(mf:Mf)(x:Cm)(t:ag)(R:List UInt8×Nat)(cur:Option (List<|Int×Int))(n d:Nat)(any:Bool)(out:List UInt8):Prop where
 Kf:d<=t.size
 Wb:n<=81
 Li:out.length<=n*33000
 cr:∀sp,cur=some sp->(∃pl,d<=pl/\sq x.L t pl sp)/\n<=qn (some sp)/\qn (some sp)<=t.size
 ph:(any=decide (x.num<=n)/\(any=true->x.all=true)/\∃f,replL mf x t f cur n d out=R/\∀sp,cur=some sp->t.size<qn (some sp)+f)\/(any=true/\x.all=false/\x.num<=n/\(out++Qjj (t.extract d t.size),R.2)=R/\x.num<=R.2)
theorem Ls.step{n:Mf}(u:fj n){g:Cm}{x:List UInt8×Nat}{m:List (Int×Int)}(l:Ls n g s x (some m) a b f r)(e:m.getD 0 (-1,-1)=((c:Int),(d:Int)))(S:c<=d)(T:s.size<=80)(H:g.gj.length<=400):
  ((a+1=g.num\/(g.num<a+1/\g.all=true))->Ls n g s x (mz n g.L s d) (a+1) d true (iq s m g.gj<|r++Qjj (s.extract b c)))/\
  (¬(a+1=g.num\/(g.num<a+1/\g.all=true))->Ls n g s x (mz n g.L s d) (a+1) b f r):=by
 let⟨⟨p,U,K⟩,L,z⟩:=l.cr m rfl;have C:qn (some m)=d:=by simp only[qn,e];simp
 rw[C]at L z;have q:∀h,mz n g.L s d=some h->(∃p,d<=p/\sq g.L s p h)/\a+1<=qn (some h)/\qn (some h)<=s.size:=λh i=>⟨Vz u i,by have:=(Le u i).1;omega,(Le u i).2⟩
 have hd:b<=d:=by
  let⟨⟨o,t,j,v,w,A⟩,_,_⟩:=K.vs;rw[List.getD,j]at e;injection e with M y;omega
 have E:=Il s m g.gj<|r++Qjj (s.extract b c);have F:(iq s m g.gj<|r++Qjj (s.extract b c)).length<=(a+1)*33000:=by
  have M:g.gj.length*(s.size+1)<=400*81:=yzy H Q;have y:=pd s b c;have j:=l.Li;rw[ga,jn]at E;omega
 have A:=l.Li;obtain⟨v,t,o,j,w⟩|⟨v,t,j,w,P⟩:=l.ph
 .have qa:=w m rfl;rw[C]at qa;obtain⟨o,rfl⟩:∃R,o=R+1:=⟨o-1,Q⟩;rw[Xf n g s o m a b r c d e]at j;have D:∀h,mz n g.L s d=some h->s.size<qn (some h)+o:=λh i=>by have:=(Le u i).1;omega
  refine⟨λk=>⟨z,Q,F,q,?_⟩,λk=>⟨l.Kf,Q,bq A<|yzm _<|yyk a,λh i=>⟨(q h i).1.imp λp l=>⟨Q,l.2⟩,(q h i).2⟩,?_⟩⟩
  all_goals grind
 refine⟨λk=>?_,λk=>⟨l.Kf,Q,bq A<|yzm _<|yyk a,λh i=>⟨(q h i).1.imp λp l=>⟨Q,l.2⟩,(q h i).2⟩,.inr ⟨v,t,Q,w,P⟩⟩⟩;grind
theorem Ls.done{l:Mf}{h:Cm}{b:List UInt8×Nat}(j:Ls l h s b none a d f r):f=decide (h.num<=b.2)/\(f=true->b.1=r++Qjj (s.extract d s.size)):=by
 obtain⟨c,i,m,e,g⟩|⟨c,i,e,g,k⟩:=j.ph
 .rw[Xe]at e;grind
 grind
def Ec(b:ag)(a:List (Int×Int)):∀(d:List Pc)(c:List UInt8),iq b a d c=c++iq b a d []
 | [],c=>by simp[iq]
 |x::r,c=>by
  rw[iq,iq];split
  .rw[Ec b a r,Ec b a r<|[]++_];simp
  simp only;split
  .rw[Ec b a r,Ec b a r<|[]++_];simp
  exact Ec b a r c
structure Su(c:Dc)(x:Cm):Prop where
 L:c.L=x.L
 all:c.all=x.all
 kr:c.kr=x.kr
 num:x.num=if c.num=0 then 1 else c.num
 n9:c.num<=9
 tz:c.text.size<=400
 tl:x.gj.length<=400
 ok:Gc c.text (eo x.L+1) (c.text.size+1) 0
 eq:∀t sp,sp.length=eo x.L+1->xl c.text t sp (c.text.size+1) 0 ⟨#[]⟩=ce (iq t sp x.gj [])
def Dd.subst(mf:Mf)(p:Dw)(x:Cm)(D:Dd):Dd×Bool:=
 if(sf mf x D.L).2=true then
  if p.cf.space<(sf mf x D.L).1.size then({D with ck:=4},false)
  else(if x.kr=true then {D with L:=(sf mf x D.L).1,put:=true}.print (sf mf x D.L).1 else {D with L:=(sf mf x D.L).1,put:=true},true)
 else(D,true)
def Qv(a b:List UInt8):ce (a++b)=ce a++ce b:=by
 apply va;simp[ce]
def Ez.grow{c g:ae}{d a:Nat}{e f:ag}(k:Ez c d a e f)(b:Below c.heap.size c g):Ez g d a e f:=by
 let⟨h,i,j,l,hF,⟨o,m⟩,n⟩:=k;exact⟨h,i,j,l,hF.grow b,⟨o,(b.cell (p:=O a 4) hF.lt).trans m⟩,(hz<|b.block _ hF.lt).trans n⟩
def hd{a:Prop}(b:a):Y a:=b
def avv{p:Mf}(aR:fj p)(h:Dw)(a:Dd)(a0 a4 aS aT a5:af)(u:Dc)(b:Cm)(P:ae)(x:DE h P a a0 a4)(aU:a.L.size<=80)(bQ:a.out.size<=1099510000000)(bR:h.cf.space<=80)(v:Su u b)(L:ya u.L)(aV:wa P h.B a5 u.L):
  Calls prog 142 #[.pointer<|some ⟨h.b,0,none⟩,.agg (ig u aS aT a5).toArray] P λr aQ=>r=.returned (.bool (a.subst p h b).2)/\DQ h a0 P aQ (a.subst p h b).1 a0 a4:=by
 have a6:=x;have R:=J aR;have b5:=J aV;have bS:=bq x.le<|Nat.le_of_lt x.lt;have bT:=v.n9;obtain⟨k,aE⟩:∃k,Y (replL p b a.L (a.L.size+3) (p b.L a.L 0) 0 0 []=k):=⟨_,rfl⟩;have aF:Y (sf p b a.L=(ce k.1,decide (b.num<=k.2))):=by rw[Y,<-aE.out];rfl
 have bU:1<=b.num/\b.num<=9:=by rw[v.num];split<;>omega
 clear x aR aV;go_in;go_wp2_with (refine ti 3 rfl rfl 177 (.tmp 1) rfl (ig u aS aT a5) rfl ?_;intro D bV i c;have l10:=i.cell (k:=10) rfl;have j:=J<|a6.q.below c;have aW:=j.1.cell (k:=9) rfl);have n:=aeg u.L a.L a5 h.B D L (b5.up ⟨c.os,c.tape,c.output,c.size,λS aX=>c.block S Q⟩) Q aU;refine n.mono ?_;rintro r a7 ⟨aG,rfl,o,d⟩;have b6:=J o;have aY:=i.cw (d.block _ Q);have b7:=J<|j.out.below d;have b8:=aY.cell (k:=13) rfl;have bW:P.heap.size+1<=a7.heap.size:=by have:=d.size;omega
 clear n o d aW l10 c j i;go_upto_if 26 with fail
 go_cut [7] (λaH T=>aH=I b.num/\T=a7)
 case first=>
  have c:=J v.num;by_cases z:u.num=0
  .have d:((u.num:Int)==0)=true:=by simp[z]
   rw[G z]at c;go_wp21;go_meet;exact⟨by rw[c.out];rfl,rfl⟩
  have d:((u.num:Int)==0)=false:=qB
  rw[N z]at c;go_wp21;go_meet;exact⟨by rw[c.out],rfl⟩
 obtain⟨rfl,U⟩:=hcut;have V:=U.symm;subst V;clear U;have W:=Ub R.out u.L a.L D.heap.size aG 0 true a7 L b6.out<|ey _;go_wp21;refine W.mono ?_;rintro r b9 ⟨aZ,c,i⟩;obtain⟨bA,E,rfl,a8⟩:=Tz i;have aI:Y (Ls p b a.L k (p b.L a.L 0) 0 0 false []):=⟨ey _,Q,ey _,λn X=>⟨⟨0,ah,R.sj X⟩,ey _,by
  obtain⟨⟨A,M,z,_,_,bD⟩,_⟩:=(R.sj X).vs;simp only[qn,List.getD,z];simpa using bD⟩,.inl ⟨qB,λx=>(by cases x),a.L.size+3,aE.out,λn _=>Q⟩⟩
 have B:Y (Hl b9 D.heap.size (p b.L a.L 0)<|.returned<|.tuple #[bA,.bool E]):=by rw[Y,<-v.L];exact i
 have b0:=J c;clear W c i a8 aE b8;generalize p b.L a.L 0=bE at aI B;go_wp21;go_loopw [8,9,10,11,12,13] (λaJ aK aL bF bG aM wr=>∃(c j:Nat)(Z E:Bool)(o:List UInt8)(a9:Option (List<|Int×Int)),aJ=.string (ce o)/\aK=I j/\aL=.bool Z/\bG=.bool E/\aM=I ((c+1:Nat):Int)/\Y (Hl wr D.heap.size a9<|.returned<|.tuple #[bF,.bool E])/\Y (Ez wr D.heap.size aG u.L a.L)/\Y (Below D.heap.size a7 wr)/\Y (Ls p b a.L k a9 c j Z o)) (λ_ _ _ _ _ aM _=>100-(intOf aM).toNat)
 case atStart=>exact⟨0,0,false,E,[],bE,rfl,rfl,rfl,rfl,rfl,B.out,b0.out,aZ,aI.out⟩
 clear B b0 aZ aI;obtain⟨c,j,Z,E,o,a9,rfl,rfl,rfl,rfl,rfl,B,bH,aA,qa⟩:=hrel;have bX:=qa.Kf;have bY:=qa.Wb;have bI:=qa.Li;have bZ:o.length<=2673000:=bq bI Q;have aB:=aY.cw (aA.block _ Q);have aN:=J (b7.part a6 aA.out Q);obtain _|n:=a9
 .obtain⟨rfl,rfl⟩:u11=.slice none 0 0/\E=false:=by
   have i:=B.out;simp only[Hl,Ending.returned.injEq,Value.tuple.injEq,Array.mk.injEq,List.cons.injEq,Value.bool.injEq,and_true]at i;exact i
  obtain⟨d,f⟩:=qa.done;have l:=J d;have w:=J f;clear d f;cases Z
  .have f:Y (a.subst p h b=(a,true)):=by rw[Y,Dd.subst,aF.out,<-l.out];rfl
   go_wp21;go_ret;rw[f.out];exact⟨rfl,aN.out⟩
  have bJ:=pd a.L j a.L.size;have q:ce k.1=ce o++a.L.extract j a.L.size:=by rw[w.out rfl,Qv];rfl
  have V:∀d:ae,(Op.stringOp .add (ce o)<|a.L.extract j a.L.size).run prog d=.ok (.string<|ce k.1) d:=λd=>by
   rw[q];exact run_string_add_sum (P:=prog) (w:=d) _ _ (by rw[yx];omega)
  have f:Y (a.subst p h b=if h.cf.space<(ce k.1).size then({a with ck:=4},false)else(if b.kr=true then {a with L:=ce k.1,put:=true}.print (ce k.1)else {a with L:=ce k.1,put:=true},true)):=by rw[Y,Dd.subst,aF.out,<-l.out];rfl
  have s:Y (a.room h (ce k.1)=if h.cf.space<(ce k.1).size then {a with ck:=4} else a):=rfl;have C:=Xk h a a0 a4 (ce k.1) wr aN.1;generalize ce k.1=g at*
  clear q l w aF;go_wp21;refine C.mono ?_;rintro r w3 ⟨rfl,y⟩;have e:=J<|aN.out.trans y;have t:=(aB.cw<|y.keep a6 ah<|aB.lt<|by show 0<16;omega).cell (k:=12) rfl;clear C y;by_cases X:h.cf.space<g.size
  .have aO:decide (g.size<=h.cf.space)=false:=qB
   rw[G X]at f s;rw[s.out]at e;go_wp21;go_ret;rw[f.out];exact⟨rfl,e.out⟩
  have aO:decide (g.size<=h.cf.space)=true:=qB
  rw[N X]at f s;rw[s.out]at e;rw[v.kr]at t;have F:=J<|(e.out.L g).Pz true;have aW:=e.1.cell (k:=9) rfl;have a1:=e.1.cd 9 Q;have a2:=e.1.cell (k:=14) rfl;have a3:=e.1.cd 14 Q;have K:P.heap.size≠h.b:=by have:=a6.lt;omega
  have y:=Eo h _ a0 a4 g _ F.1 (by show a.out.size+g.size<=_;omega);cases H:b.kr<;>rw[H]at t
  .rw[H,N qG]at f;go_wp21;go_ret;rw[f.out];exact⟨rfl,F.out⟩
  rw[H,G rfl]at f;go_wp21;refine y.mono ?_;rintro r b1 ⟨rfl,C⟩;have aC:=hd<|F.trans C;clear y C;go_wp21;go_ret;rw[f.out];exact⟨rfl,aC.out⟩
 obtain⟨f,F,i,c0,e⟩:=B.out;obtain⟨rfl,rfl⟩:u11= aa f n.length F/\E=true:=by
  simp only[Ending.returned.injEq,Value.tuple.injEq,Array.mk.injEq,List.cons.injEq,Value.bool.injEq,and_true]at i;exact i
 obtain⟨⟨c1,bK,s⟩,bL,c2⟩:=qa.cr n rfl;obtain⟨⟨A,M,z,bM,bN,bO⟩,g,l⟩:=s.vs;have q:n.getD 0 (-1,-1)=((A:Int),(M:Int)):=by rw[List.getD,z];rfl
 have w:qn (some n)=M:=by simp only[qn,q];simp
 rw[w]at bL;have c3:=bq bK bM;have aC:=hd<|qa.step R.out q bN aU v.tl;obtain⟨y,C⟩:=Mh e z;have H:f<wr.heap.size:=dw wr _ y;have c4:1<=n.length:=Q
 have t:∀d:ae,(∀S,d.heap[S]?=wr.heap[S]?)->Calls prog 182 #[.string u.text,.string a.L,.slice (some ⟨f,0,none⟩) n.length F] d λr aQ=>r=.returned (.string<|ce<|iq a.L n b.gj [])/\Below d.heap.size d aQ:=λd bP=>by
  have a1:=Uo L;rw[<-(Qu L.w L.z).1,L.g,v.L]at a1;have:=an8 u.text a.L n f F d v.tz Q (afp e λ_=>bP f) (λS a2 a3 aX K=>by
   rcases l (a2,a3) (qy aX)with r|⟨aD,b2,r,aP,b3⟩
   .injection r with r;omega
   injection r with r b4;omega) Q Q (by rw[g];exact v.ok)
  rwa[v.eq a.L n g]at this
 have a1:=hd t;have a2:=aB.cell (k:=11) rfl;have a3:=aB.cell (k:=9) rfl;rw[v.all]at a2;clear i e z g l q w s t qa B;go_upto_region 13 with fail
 go_cut [46] (λaH T=>aH=.bool (decide (c+1=b.num\/(b.num<c+1/\b.all=true)))/\T=wr)
 case first=>
  by_cases g:c+1=b.num
  .have aO:(((c+1:Nat):Int)==b.num)=true:=qB
   have s:((c:Int)+1==(b.num:Int))=true:=qB
   have e:=hd<|decide_eq_true (p:=c+1=b.num\/(b.num<c+1/\b.all=true))<|.inl g;go_wp21;go_meet;exact⟨by rw[e.out],rfl⟩
  have aO:(((c+1:Nat):Int)==b.num)=false:=hh Q;have s:((c:Int)+1==(b.num:Int))=false:=hh Q;by_cases q:b.num<c+1
  .have l:decide (b.num<c+1)=true:=qK q
   have w:decide ((b.num:Int)<c+1)=true:=qB
   have e:=hd (show decide (c+1=b.num\/(b.num<c+1/\b.all=true))=b.all by cases b.all<;>simp[g,q]);go_wp21;go_meet;exact⟨by rw[e.out],rfl⟩
  have l:decide (b.num<c+1)=false:=qK q
  have w:decide ((b.num:Int)<c+1)=false:=qB
  have e:=hd<|wu (p:=c+1=b.num\/(b.num<c+1/\b.all=true))<|λx=>x.elim g λx=>q x.1;go_wp21;go_meet;exact⟨by rw[e.out],rfl⟩
 obtain⟨rfl,U⟩:=hcut;have V:=U.symm;subst V;clear U a2;obtain⟨tk,w⟩:∃tk,Y (decide (c+1=b.num\/(b.num<c+1/\b.all=true))=tk):=⟨_,rfl⟩;rw[w.out];go_upto_if 46 with fail
 go_cut [8,9,10] (λaJ aK aL T=>∃(q:Nat)(g:Bool)(s:List UInt8),aJ=.string (ce s)/\aK=I q/\aL=.bool g/\Y (Below wr.heap.size wr T)/\Y (Ls p b a.L k (mz p b.L a.L M) (c+1) q g s))
 case first=>
  cases tk
  case true=>
   have e:=hd<|aC.1<|of_decide_eq_true w.out;rw[Ec]at e;have bJ:=pd a.L j A;have V:∀d:ae,(Op.stringOp .add (ce o)<|a.L.extract j A).run prog d=.ok (.string<|ce o++a.L.extract j A) d:=λd=>run_string_add_sum (P:=prog) (w:=d) _ _ (by rw[yx];omega)
   have t:=Il a.L n b.gj [];have K:b.gj.length*(a.L.size+1)<=400*81:=Nat.mul_le_mul v.tl Q;generalize iq a.L n b.gj []=l at a1 e t;have aD:=hd (show ce (o++Qjj (a.L.extract j A)++l)=ce o++a.L.extract j A++ce l by rw[Qv,Qv];rfl);have a8:∀d:ae,(Op.stringOp .add (ce o++a.L.extract j A)<|ce l).run prog d=.ok (.string<|ce o++a.L.extract j A++ce l) d:=λd=>run_string_add_sum (P:=prog) (w:=d) _ _ (by rw[uh,yx,yx];simp at t;omega)
   clear t K;go_wp21;go_region_with (go_at_call 182;go_call a1.out wr.drew (λ_=>rfl)as r b1 ⟨rfl,m⟩;have t:Y (Below wr.heap.size wr b1):=⟨m.os,m.tape,m.output,m.size,m.block⟩;have K:=(m.cell (p:=O f 0) H).trans y;have b2:=(m.cell (p:=O f 1) H).trans C;have aP:=(m.cell (p:=O P.heap.size 9)<|dw wr _ a3).trans a3;clear m)
   all_goals
    go_wp21;go_meet;exact⟨M,true,_,by rw[aD.out],rfl,rfl,t.out,e.out⟩
  case false=>
   have e:=hd<|aC.2<|of_decide_eq_false w.out;go_wp21;go_meet;exact⟨j,Z,o,rfl,rfl,rfl,bp _ _,e.out⟩
 obtain⟨q,g,s,rfl,rfl,rfl,e,aD⟩:=hcut;have b2:=(e.cell (p:=O f 1) H).trans C;have W:=Ub R.out u.L a.L D.heap.size aG M false wc L (bH.grow e.out) bO;go_wp21;refine W.mono ?_;rintro r w3 ⟨l,t,i⟩;obtain⟨aP,K,rfl,a8⟩:=Tz i;have B:Y (Hl w3 D.heap.size (mz p b.L a.L M)<|.returned<|.tuple #[aP,.bool K]):=by rw[Y,<-v.L];exact i
 have b3:=hd t;have b4:=aA.trans ((e.mono (by have:=aA.size;omega)).trans l);clear W l t i a8;go_wp21;go_roundw
 case rel=>exact⟨c+1,q,g,K,s,_,rfl,rfl,rfl,rfl,qJ,B.out,b3.out,b4,aD.out⟩
 simp[intOf];omega
def Ql(n:Rc W i S j)(w:bw S j<S.size):
  Calls prog 180 #[.pointer<|some ⟨i,0,none⟩] W λe v=>e=.returned (.string<|S.extract j<|bw S j)/\Mv i W v (bw S j+1):=by
 have o:=n;let⟨x,p,q,B,y⟩:=n;obtain⟨l,a⟩:∃l,l=bw S j:=⟨_,rfl⟩;rw[<-a]at w|-;have r:=J a;go_in;go_wp21;go_loopg [] (S.size+1) (λu wr=>∃a c,Mv i W wr a/\j<=a/\Y (l=ic S c a)/\S.size+1<=c+a/\S.size<u+a)
 .exact⟨j,S.size+1,o.ee,ah,r,Q,Q⟩
 let⟨a,c,d,z,f,C,A⟩:=hrel;have m:=d;have h:a<S.size:=by
  obtain e|e:=hb a S.size
  .exact e
  have b:=f.out;cases c with
  |zero=>rw[ic]at b;omega
  |succ c=>rw[ic,N]at b;omega
 obtain⟨gk,rfl⟩:∃g,gk=g+1:=⟨gk-1,Q⟩;let⟨D,E,F,_,_⟩:=d.rc o<|yyh h;obtain⟨c,rfl⟩:∃g,c=g+1:=⟨c-1,Q⟩;have b:=f.out;rw[ic,G h]at b;have H:=oz S a h;have K:(a:Int)<S.size:=Q
 by_cases d:au S a=47
 .rw[G d]at b;have s:((au S a:Int)==47)=true:=by simp[d]
  have f:=J b;go_wp21;go_quiet (fail);go_wp21;go_quiet (fail);go_wp21;go_ret;rw[f.out];exact⟨rfl,((m.drewN _).set (v:=(a:Int)+1) (a+1)).drewN _⟩
 rw[N d]at b;have s:((au S a:Int)==47)=false:=hh;by_cases f:au S a=92
 .rw[G f]at b;have t:((au S a:Int)==92)=true:=by simp[f]
  have k:=J b;go_wp21;go_quiet (fail);go_wp21;go_quiet (fail);go_wp21;go_roundg gk
  .exact⟨a+2,c,((m.drewN _).set (a+1)).set (a+2),Q,k,Q,Q⟩
  omega
 rw[N f]at b;have t:((au S a:Int)==92)=false:=hh;have k:=J b;go_wp21;go_quiet (fail);go_wp21;go_quiet (fail);go_wp21;go_roundg gk
 .exact⟨a+1,c,(m.drewN _).set (a+1),Q,k,Q,Q⟩
 omega
def PtN(lo:Nat)(w:ae)(tv:af)(pt:ag):Prop:=(∃tb,tv= ab tb 0)/\∀W:ae,(∀k,lo<=k->k<w.heap.size->W.heap[k]?=w.heap[k]?)->wa W w.heap.size tv pt
def ajc(d:Rc W i S j)(p:j<S.size)(s:bw S (j+1)<S.size)(e:ya (S.extract (j+1)<|bw S<|j+1)):
  Calls prog 179 #[.pointer<|some ⟨i,0,none⟩] W λb m=>∃l,b=.returned l/\Mk i W m (bw S (j+1)+1)/\PtN W.heap.size m l (S.extract (j+1)<|bw S<|j+1):=by
 have f:=d;let⟨v,w,x,y,D⟩:=d;have a:Mv i W _ (j+1):=f.ee.set (v:=(j:Int)+1) (j+1);have c:=Ql i S (j+1) _ (a.rc f p) s;generalize S.extract (j+1) (bw S<|j+1)=t at*
 generalize bw S (j+1)=C at*
 go_in;go_wp21;go_call c;rintro b r ⟨rfl,g⟩;have h:=a.trans g;have a:=apd t e.z e.w r;go_wp21;go_call a;rintro b z ⟨c,u,rfl,g,k⟩;have n:=hd g;have o:=hd k;go_wp21;go_ret;have A:=h.only.size;exact⟨_,rfl,(Mk.mv h).below o,⟨c,rfl⟩,λk a=>⟨c,u,rfl,n k λq B g=>a q Q g⟩⟩
def xo(t:ag):Nat->Nat->Nat->Nat
 |0,_,n=>n
 |f+1,i,n=>xo t f (i+1)<|10*n+(au t i-48)
def aro(o:S.size<=4)(e:∀a,a<S.size->48<=au S a/\au S a<=57):
  Calls prog 210 #[.string S] W λh m=>h=.returned (.int .i64 (xo S S.size 0 0:Int))/\m=W:=by
 have g:=hd e;obtain⟨c,b⟩:∃c,c=xo S S.size 0 0:=⟨_,rfl⟩;rw[<-b];have d:=hd b;clear b e;go_in;go_wp21;go_loop [3,4] (λj iv=>∃a b:Nat,j=I b/\iv=I a/\a<=S.size/\b<10^a/\Y (c=xo S (S.size-a) a b)) (λ_ iv=>S.size-(intOf iv).toNat)
 .exact⟨0,0,rfl,rfl,ey _,qD,d⟩
 obtain⟨a,b,rfl,rfl,p,k,d⟩:=hrel;have n:b<10000:=ew k (Nat.pow_le_pow_right Q (Q:a<=4));by_cases f:a<S.size
 .have q:=oz S a f;have r:(a:Int)<S.size:=Q
  let⟨s,t⟩:=g.out a f;have i:Y (c=xo S (S.size-(a+1)) (a+1) (10*b+(au S a-48))):=by
   rw[Y,d.out,show S.size-a=(S.size-(a+1))+1 from Q,xo]
  have l:10*b+(au S a-48)<10^(a+1):=by rw[zyj];omega
  have u:((au S a-48:Nat):Int)=(au S a:Int)-48:=Q
  go_wp21;go_round
  .exact⟨a+1,10*b+(au S a-48),qJ,qJ,Q,l,i⟩
  simp[intOf];omega
 have i:Y (c=b):=by rw[Y,d.out,show S.size-a=0 from Q];rfl
 go_wp21;go_ret;exact⟨by rw[i.out];rfl,rfl⟩
def zq(t:ag):Nat->Nat->List Nat->List Nat
 |0,_,l=>l
 |f+1,i,l=>if i<t.size then(if au t i=92 then zq t f (i+2) (l++[val<|au t<|i+1])else zq t f (i+1) (l++[au t i]))else l
def Gz(t:ag):Nat->Nat->Prop
 |0,_=>True
 |f+1,i=>i<t.size->if au t i=92 then i+1<t.size/\Gz t f (i+2)else Gz t f (i+1)
def adg{g wr w4:ae}{h:TypeId}{xs:List af}{f:Obj}(j:Below a g wr)(l:a<=wr.heap.size)(i:wr.ownsRow a h c x b xs)(d:(wr.alloc f).grownBy w4 x.ownBlock):Below a g w4:=
 j.trans ⟨d.os,d.tape,d.output,bq qD d.size,λe m=>(d.block e qB (λk=>by have:=(i.lt e k.symm).1;omega)).trans<|im wr f e Q⟩
def ajf(b:List Nat)(a:Nat):py b++[Value.int .u8 a]=py (b++[a]):=by simp[py]
def agb(a8:S.size<=400)(C:Gz S (S.size+1) 0):
  Calls prog 181 #[.string S] W λT a2=>T=.returned (.string<|iy<|zq S (S.size+1) 0 [])/\Below W.heap.size W a2:=by
 let⟨qa,D,E,F,H⟩:=yyf Ei;have K:=hd C;obtain⟨o,a⟩:∃o,o=zq S (S.size+1) 0 []:=⟨_,rfl⟩;rw[<-a];have L:=hd a;go_in;go_wp21;go_loopw [3,4] (λa1 iv wr=>∃(a c:Nat)(b:List Nat),iv=I a/\a<=S.size/\S.size+1<=c+a/\b.length<=a/\Y (∀d∈b,d<256)/\Y (wr.ownsRow W.heap.size 5 1 a1 b.length<|py b)/\Y (o=zq S c a b)/\Y (Gz S c a)/\Y (Below W.heap.size W wr)) (λ_ iv _=>S.size+1-(intOf iv).toNat)
 .exact⟨0,S.size+1,[],rfl,ey _,ah,ah,(λd e=>by cases e),yyc _ _ _ _,L,K,bp _ _⟩
 obtain⟨a,c,b,rfl,a7,a6,a3,t,i,R,u,n⟩:=hrel;have P:=n.size;by_cases p:a<S.size
 .obtain⟨c,rfl⟩:∃w,c=w+1:=⟨c-1,Q⟩;have g:=R.out;have l:=u p;rw[zq,G p]at g;have a9:=oz S a p;have a4:=ms S a;have aA:(a:Int)<S.size:=Q
  by_cases m:au S a=92
  .rw[G m]at g l;let⟨U,k⟩:=l;have a0:((au S a:Int)==92)=true:=by simp[m]
   have a5:=oz S (a+1) U;have aB:(a:Int)+1<(S.size:Int):=Q
   have j:=λZ=>Ew (au S<|a+1) Z<|ms _ _
   have V:val (au S<|a+1)<256:=by
    unfold val;split
    .omega
    exact ms _ _
   have q:=hd g;have y:=hd k;obtain⟨f,r⟩:∃f,f=val (au S<|a+1):=⟨_,rfl⟩;rw[<-r]at j V q;have z:Y (∀d∈b++[f],d<256):=λd e=>by
    obtain h|h:=og.1 e
    .exact t d h
    simp at h;omega
   clear g m u k r;go_wp21;go_call j as T aC ⟨rfl,M⟩;have X:=M.symm;subst X;clear M j;go_wp2_with (at_builtin;refine wpList_append_lies _ rfl _ _ 99 rfl W.heap.size 5 qa (.int .u8 0) 1 1 underlying99 D E F H rfl Q u3 b.length (py b) rfl (i.alloc _) (O wr.heap.size 0) 1 1 [Value.int .u8 f] rfl rfl (cell_one_new _ _ _) (λd e=>by simp at e;subst e;rfl) Q qH Q qB (wr.heap.size+1) qD ?_;intro v A w4 j k B x;have r:Y (w4.ownsRow W.heap.size 5 1 (aa v (b.length+1) A) (b++[f]).length<|py<|b++[f]):=(by rw[Y,<-ajf,ga];exact j);have s:=hd<|adg n P i k;clear j k B x);go_roundw
   .exact⟨a+2,c,b++[f],qJ,Q,Q,by rw[ga];show _+1<=_;omega,z,r,q,y,s⟩
   simp[intOf];omega
  rw[N m]at g l;have a0:((au S a:Int)==92)=false:=hh;have q:=hd g;have y:=hd l;have z:Y (∀d∈b++[au S a],d<256):=λd e=>by
   obtain h|h:=og.1 e
   .exact t d h
   simp at h;omega
  clear g l m u;go_wp2_with (at_builtin;refine wpList_append_lies _ rfl _ _ 99 rfl W.heap.size 5 qa (.int .u8 0) 1 1 underlying99 D E F H rfl Q u3 b.length (py b) rfl (i.alloc _) (O wr.heap.size 0) 1 1 [Value.int .u8 (au S a:Int)] rfl rfl (cell_one_new _ _ _) (λd e=>by simp at e;subst e;rfl) Q qH Q qB (wr.heap.size+1) qD ?_;intro v A w4 j k B x;have r:Y (w4.ownsRow W.heap.size 5 1 (aa v (b.length+1) A) (b++[au S a]).length<|py<|b++[au S a]):=(by rw[Y,<-ajf,ga];exact j);have s:=hd<|adg n P i k;clear j k B x);go_roundw
  .exact⟨a+1,c,b++[au S a],qJ,Q,Q,by rw[ga];show _+1<=_;omega,z,r,q,y,s⟩
  simp[intOf];omega
 have f:Y (o=b):=by
  have h:=R.out;obtain⟨c,rfl⟩:∃w,c=w+1:=⟨c-1,Q⟩;rw[zq,N p]at h;exact h
 have g:=Gb W.heap.size u3 b wr i t;go_wp21;go_ret;exact⟨by rw[f.out];rfl,n⟩
