import Derived.Test.YtppjlpihaocdiaaGreatDoorBgQ
set_option linter.all false
set_option maxRecDepth 100000
set_option maxHeartbeats 16000000
namespace Go.Proofs.YtppjlpihaocdiaaGreatDoor
open Go.RowKit
variable{w u v:ae}{a b c d e:Nat}{s t:ag}{x y z:af}{p D:Int}{l:List af}{f:Bool}{g:List Nat}{h:Nat->Prop}{o:Option Addr}{r:List UInt8}{A:Nat->Bool}{B:Nat->Nat->Bool}{C:Nat->Nat->Prop}(i:Nat)(S T:ag)(V X:af)(j k m n:Nat)(Z:Int)(W:ae)
section
theorem ab5(b:ag):∀(f a:Nat),a<=b.size->b.size<=f+a->jh b f a=a+((Qjj b).drop a).findIdx (·==10)
 |0,a,j,k=>by
  have:(Qjj b).drop a=[]:=yym (by rw[jn];omega);rw[this];rfl
 |f+1,a,j,k=>by
  rw[jh];by_cases e:a<b.size
  .have n:a<(Qjj b).length:=by rw[jn];exact e
   have h:au b a=(Qjj b)[a].toNat:=by rw[<-Cx b a e];rfl
   rw[Dn n,List.findIdx_cons];by_cases g:au b a=10
   .rw[N<|λi=>i.2 g];have:((Qjj b)[a]==10)=true:=by
     rw[ra];apply yzt.1;rw[<-h,g];rfl
    rw[this];rfl
   rw[G ⟨e,g⟩,ab5 b f (a+1) e Q];have:((Qjj b)[a]==10)=false:=by
    rw[xy];intro m
    rw[m]at h;exact g h
   grind
  rw[N<|λi=>e i.1];have:(Qjj b).drop a=[]:=yym (by rw[jn];omega);rw[this];rfl
def ab7:ci S 0=(Qjj S).findIdx (·==10):=by
 rw[ci,ab5 S _ 0 (ey _) Q];simp
theorem an9{a b:List UInt8}(h:(10:UInt8)∉a):(a++b).findIdx (·==10)=a.length+b.findIdx (·==10):=by
 grind
section
variable {mf:Mf} {cf:Cf} {d:Bool} {D:Dd} {F:List UInt8×Nat} {K l:Nat} {E:Ed} {r:List UInt8} {x:Cm} {c:Dc}
def Rl.jp(a:Rl cf d D E r)(b e:Nat):Rl cf d D {E with H:=b,bg:=e} r:=⟨a.rest,a.dq,a.en,a.number,a.L,a.bt,a.ef,a.out,a.bo,a.put,a.dt,a.st,a.es,a.ji,a.ps,a.hs,a.nn⟩
def Rl.print(a:Rl cf d D E r)(b:ag):Rl cf d (D.print b) (E.print b) r:=
 ⟨a.rest,a.dq,a.en,a.number,a.L,a.bt,a.ef,by show Qjj (D.out++b++gp)=E.out++Qjj b++[10];rw[<-a.out];simp[Qjj,gp],a.bo,a.put,a.dt,a.st,a.es,a.ji,a.ps,a.hs,a.nn⟩
def Rl.lp:∀(a:List ag) {D:Dd} {E:Ed},Rl cf d D E r->Rl cf d (D.lp a) (E.lp a) r
 | [],_,_,h=>h
 |s::a,_,_,h=>Rl.lp a<|h.print s
def Rl.pw(a:Rl cf d D E r):Rl cf d D.pw E.fq r:=by
 have:=Rl.lp E.cy a;rw[Dd.pw,Ed.fq,a.ef];exact⟨this.rest,this.dq,this.en,this.number,this.L,this.bt,rfl,this.out,this.bo,this.put,this.dt,this.st,this.es,this.ji,this.ps,this.hs,this.nn⟩
def Rl.space(a:Rl cf d D E r):Rl cf d (if cf.quiet=true then D else D.print D.L) (E.ja cf) r:=by
 unfold Ed.ja;split
 .exact a
 rw[a.L];exact a.print _
def Rl.jk(e:Rl cf d D E r){a:Dw}(b:a.cf=cf):Rl cf d (D.jk a) (E.ja cf).fq r:=by
 rw[Dd.jk,b];exact e.space.pw
def Ln(cf:Cf)(join:Bool)(l:Nat)(E:Ed):Prop:=(l=0/\E.bg=0/\join=false)\/(l=2/\E.bg=4/\∃x,cf.U[E.H]?=some x/\(x.R=3\/x.R=4)/\join=decide (x.R=4))
def Ln.Pe{a:Ed}(b:Ln cf f l E)(e:zz E a):Ln cf f l a:=by
 obtain⟨g,h,i,rfl⟩:=e;exact b
def zz.trans{a b e:Ed}(f:zz a b)(h:zz b e):zz a e:=by
 obtain⟨k,m,n,rfl⟩:=f;obtain⟨g,i,j,rfl⟩:=h;exact⟨g,i,j,rfl⟩
def Te(g:E.bg=4)(a:cf.U[E.H]?=some x)(b:x.R=3\/x.R=4)(e:f=decide (x.R=4)):E.dv mf cf=E.kq cf f:=by
 rw[Kb (mf:=mf) a,Ed.choose,N,Ed.cz,N,N,N,G b,ut,N,N,N,e]
def Ln.waits(i:Ln cf f l E)(b:E.mh cf=false)(g:Nat):E.hu mf cf (g+1) l=E:=by
 obtain⟨rfl,a,m⟩|⟨rfl,a,x,e,h,j⟩:=i
 .have k:({E with bg:=0}:Ed)=E:=by rw[<-a]
  rw[zt,k,Ed.mi,b];rfl
 rw[ug,Te a e h j,Ed.kq,b];rfl
def To.zi(s:gx cf)(n:To mf cf d F K l E r)(g:Rl cf d D E r)(o:Ln cf f l E)(t:∀h b,r=h::b->∀(K:Nat)(E:Ed),To mf cf d F K l E b->Rl cf d D E b->Ln cf f l E->
  ∃k a i,To mf cf d F k l a i/\Rl cf d D a i/\zz E a/\(a.mh cf=true\/(i=[]/\d=false/\F=(Qjj D.out,0)/\a.mh cf=false))):
  ∃k a b,To mf cf d F k l a b/\Rl cf d D a b/\zz E a/\(a.mh cf=true\/(b=[]/\d=false/\F=(Qjj D.out,0)/\a.mh cf=false)):=by
 cases m:E.mh cf
 .have j:=m;simp only[Ed.mh,yyw]at j;have q:l=if E.bg=0 then 0 else 2:=by
   obtain⟨rfl,e,_⟩|⟨rfl,e,_⟩:=o<;>simp[e]
  have p:=n.ji s g.es j.1.2 j.1.2<|o.waits m;rw[<-q]at p;obtain⟨h,b,rfl,e⟩|⟨rfl,rfl,e⟩|⟨rfl,rfl,e⟩:=p
  .let⟨k,a,i,u,v,w,y⟩:=t h b rfl (K+1) (E.add h) e (g.add j.1.1 j.1.2)<|o.Pe<|Uy E h;exact⟨k,a,i,u,v,(Uy E h).trans w,y⟩
  .exact⟨K,_,[],e,g.fin,⟨E.next,E.whole,true,rfl⟩,.inl<|by simp[Ed.mh]⟩
  exact⟨K,E,[],n,g,⟨E.next,E.whole,E.dq,rfl⟩,.inr ⟨rfl,rfl,by rw[e,res,g.es,g.out],m⟩⟩
 exact⟨K,E,r,n,g,⟨E.next,E.whole,E.dq,rfl⟩,.inl m⟩
def To.fill(j:gx cf)(r:List UInt8):∀(K:Nat)(E:Ed),To mf cf d F K l E r->Rl cf d D E r->Ln cf f l E->
  ∃m a b,To mf cf d F m l a b/\Rl cf d D a b/\zz E a/\(a.mh cf=true\/(b=[]/\d=false/\F=(Qjj D.out,0)/\a.mh cf=false)):=by
 induction r with
 |nil=>
  intro K E i g h
  exact To.zi j i g h<|λk b e=>by cases e
 |cons k r n=>
  intro K E i g h
  exact To.zi j i g h (λo b e=>by cases e;exact n)
def atq:Qjj (S.extract j S.size)=(Qjj S).drop j:=by
 simp only[Qjj,yyg,Array.toList_extract];show(List.take (S.data.size-j)<|List.drop j S.data.toList)=_
 rw[Hh qD]
def att:Qjj (S.extract 0 j)=(Qjj S).take j:=by
 simp only[Qjj,yyg,Array.toList_extract];rfl
def ahr(a:Qjj s=Qjj t):s=t:=va<|yzd.1 a
theorem atf{j:Bool}(e:t=if j=true then E.L++gp else⟨#[]⟩):E.ej cf j=if E.sk cf=true then({E with ck:=3},false)else if cf.space<t.size+E.next.length then({E.read with ck:=4},false)else({E.read with L:=t++ce E.next,cx:=0,put:=false},true):=by
 have f:E.read.vu cf j (ce E.next)=if cf.space<t.size+E.next.length then none else some {E.read with L:=t++ce E.next}:=by
  have b:(t++ce E.next).size=t.size+E.next.length:=by rw[uh,yx]
  unfold Ed.vu Ed.grow Ed.kz;cases j
  .have a:t++ce E.next=ce E.next:=by rw[e];apply va;simp
   grind
  have a:t=E.L++gp:=by rw[e];rfl
  rw[G rfl,<-b,a];rfl
 grind[Ed.ej]
theorem Ln.reads(m:gx cf)(t:Ln cf f l E)(h:To mf cf d F K l E r)(n:E.mh cf=true)(u:E.more=true)(o:(E.ej cf f).1.dq=E.dq):
  ((E.ej cf f).2=false->∀e,E.hu mf cf (e+1) l=(E.ej cf f).1)/\((E.ej cf f).2=true->To mf cf d F K 1 {(E.ej cf f).1 with H:=if l=0 then 0 else E.H+1} r):=by
 obtain⟨rfl,g,rfl⟩|⟨rfl,g,x,v,w,y⟩:=t
 .have a:({E with bg:=0}:Ed)=E:=by rw[<-g]
  have i:E.mi cf=E.ej cf false:=by rw[Ed.mi,G n,G u]
  refine⟨λj e=>by rw[zt,a,i,N<|by rw[j];decide],λb=> ?_⟩;have p:=Sq m h.wz;rw[a,i]at p;obtain⟨_,q,s⟩|⟨k,_⟩:=p
  .exact h.step Q q s o λe=>by rw[zt,a,i,G b];rfl
  grind
 have a:E.dv mf cf=if(E.ej cf f).2=true then(E.ej cf f).1.fv ((E.ej cf f).1.H+1)else((E.ej cf f).1,0):=by rw[Te g v w y,Ed.kq,G n]
 refine⟨λj e=>by rw[ug,a,j];rfl,λb=> ?_⟩;rw[G b]at a;have:=h.cmd m (by rw[a];exact o) (by rw[a];simp[Ed.fv]);rw[a,Ja]at this;exact this
theorem To.line(y:gx cf){j:Bool}{p:Dw}{t:ag}(Z:To mf cf d F K l E r)(U:Rl cf d D E r)(M:Ln cf j l E)(a0:p.cf=cf)(a2:t=if j=true then D.L++gp else⟨#[]⟩):
  (D.rm p t=true/\(D.oe p t).rest.size<D.rest.size/\∃P a m,To mf cf d F P 1 a m/\Rl cf d (D.oe p t) a m/\a.H=if l=0 then 0 else E.H+1)\/
  (D.rm p t=false/\((D.oe p t).ck≠0\/(D.oe p t).ji=true)/\F=(Qjj (D.oe p t).out,(D.oe p t).ck)):=by
 let⟨P,a,m,n,b,f,h⟩:=To.fill y r K E Z U M;have C:=M.Pe f;have a1:a.H=E.H:=by obtain⟨a3,a4,e,rfl⟩:=f;rfl
 have o:ci D.rest 0=a.next.length+((if a.whole=true then [10] else [])++m).findIdx (·==10):=by rw[ab7,b.rest,nt,an9 b.nn]
 have k:D.rest.size=a.next.length+(if a.whole=true then 1 else 0)+m.length:=by
  rw[<-jn,b.rest];simp only[ga];split<;>simp
 subst a0;generalize V:ci D.rest 0=f at*
 have s:D.oe p t=if p.cf.line<f then {D with ck:=3} else if f=D.rest.size/\D.dq=false then {D with ji:=true} else if D.rest.size=0 then {D with ck:=1} else if p.cf.space<t.size+f then {D with ck:=4} else {D with L:=t++D.rest.extract 0 f,rest:=D.rest.extract (f+1) D.rest.size,number:=D.number+1,put:=false,dt:=0}:=by rw[Dd.oe,V]
 have u:D.rm p t=(decide (f<=p.cf.line)&& !(decide (f=D.rest.size)&& !D.dq)&& !decide (D.rest.size=0)&&decide (t.size+f<=p.cf.space)):=by rw[Dd.rm,V]
 obtain h|⟨rfl,rfl,hF,h⟩:=h
 .have g:=atf (cf:=p.cf) (E:=a) (j:=j) (t:=t) (by rw[a2,b.L]);by_cases v:a.sk p.cf=true
  .have w:=v;simp only[Ed.sk,xz]at w;have i:a.more=true:=by
    have:a.next≠[]:=λe=>qE
    simp[Ed.more,this]
   rw[G v]at g;have hF:=n.stop (by rw[g];simp) ((C.reads y n h i<|by rw[g]).1<|by rw[g]);right;rw[s,u,G];exact⟨qB,.inl qD,by rw[hF,g,res,b.out]⟩
  rw[N v]at g;have w:=v;simp only[Ed.sk,xz]at w;have H:a.whole=true\/(a.dq=true/\a.whole=false):=by
   simp only[Ed.mh,uz]at h;cases z:a.whole
   .grind
   exact .inl rfl
  have qa:f=a.next.length:=by
   obtain e|⟨e,W⟩:=H
   .grind
   rw[W,(b.en e).1]at o;simpa using o
  cases i:a.more
  .simp only[Ed.more,yyw,yza,zye]at i;have R:a.dq=true:=by obtain e|e:=H;rw[i.1]at e;cases e;exact e.1
   obtain⟨rfl,rfl⟩:=b.en R;rw[i.1,i.2]at k;have z:=b.dq;obtain⟨rfl,A,rfl⟩|⟨rfl,A,T⟩:=C
   .have hF:=n.stop (E':={a with ck:=1}) qD λS=>by
     have B:({a with bg:=0}:Ed)=a:=by rw[<-A]
     have L:¬a.more=true:=by simp[Ed.more,i]
     rw[zt,B,Ed.mi,G h,N L,N qD]
    right;rw[s,u,N,N<|by rw[z];simp,G<|qK k];exact⟨qE,.inl qD,by rw[hF,res,b.out]⟩
   have:=n.wz.mr rfl A;simp[Ed.more,i]at this
  have R:¬(f=D.rest.size/\D.dq=false):=λe=>by
   obtain q|⟨q,A⟩:=H
   .grind
   rw[b.dq,(b.en q).2]at e;cases e.2
  have B:D.rest.size≠0:=by
   simp only[Ed.more,uz,xz]at i;obtain q|q:=i
   .grind
   have:a.next.length≠0:=λe=>q<|yyp e
   omega
  rw[<-qa]at g;by_cases L:p.cf.space<t.size+f
  .rw[G L]at g;have hF:=n.stop (by rw[g];simp) ((C.reads y n h i<|by rw[g];rfl).1<|by rw[g]);right;rw[s,u,N,N R,N B,G L];exact⟨qB,.inl qD,by rw[hF,g,res,b.out];rfl⟩
  rw[N L]at g;have X:=(C.reads y n h i<|by rw[g];rfl).2 (by rw[g]);left;rw[s,u,N,N R,N B,N L];rw[g]at X;have S:(Qjj D.rest).take f=a.next/\(Qjj D.rest).drop (f+1)=m:=by
   rw[b.rest,qa];obtain q|⟨q,A⟩:=H
   .rw[q];simp
   rw[A,(b.en q).1];simp
  have T:t++D.rest.extract 0 f=t++ce a.next:=by
   congr 1;apply ahr;rw[att,S.1];simp[Qjj,ce]
  refine⟨?_,?_,P,_,m,X,⟨?_,b.dq,b.en,by show D.number+1=a.number+1;rw[b.number],T,b.bt,b.ef,b.out,b.bo,rfl,rfl,b.st,b.es,b.ji,?_,b.hs,by simp[Ed.read]⟩,by rw[a1]⟩
  .grind
  .show(D.rest.extract (f+1) D.rest.size).size<_
   rw[lw];omega
  .show Qjj (D.rest.extract (f+1) D.rest.size)=[]++[]++m
   rw[atq,S.2];rfl
  show(t++D.rest.extract 0 f).size<=_
  rw[T,uh,yx];omega
 simp only[Ed.mh,Ed.sk,yyw,yza]at h;rw[h.1.1]at o k;have qa:f=a.next.length:=qK o
 have W:D.rest.size=a.next.length:=qK k
 have z:=b.dq;right;rw[s,u,N,G ⟨Q,z⟩];exact⟨by simp[z];omega,.inr rfl,by rw[hF,b.st]⟩
end
end
section
section
variable {mf:Mf} {cf:Cf} {d:Bool} {D D1:Dd} {F:List UInt8×Nat} {K l:Nat} {E E1:Ed} {r:List UInt8} {x:Cm} {c:Dc}
def afu:∀(a:List ag)(E:Ed),E.lp a={E with out:=E.out++a.flatMap λs=>Qjj s++[10]}
 | [],E=>by simp[Ed.lp]
 |s::a,E=>by rw[Ed.lp,afu a];simp[Ed.print]
def Iw(E:Ed):E.fq={E with out:=E.out++E.cy.flatMap λa=>Qjj a++[10],cy:=[]}:=by rw[Ed.fq,afu]
def Lo(E:Ed):E.ja cf={E with out:=if cf.quiet=true then E.out else E.out++Qjj E.L++[10]}:=by
 unfold Ed.ja;split<;>rfl
def Qt(F:List UInt8×Nat)(D:Dd):Prop:=(D.ck≠0\/D.ji=true)/\F=(Qjj D.out,D.ck)
def Qje(mf:Mf)(cf:Cf)(d:Bool)(F:List UInt8×Nat)(D:Dd):Prop:=∃K E r,To mf cf d F K 0 E r/\Rl cf d D E r/\E.bg=0
def To.over(i:gx cf)(e:To mf cf d F K 4 E r)(f:Rl cf d D E r):Qje mf cf d F D.pw:=by
 have iv:=e.wz.iv;rw[show cr 4 E.bg=0 from rfl]at iv;have a:=f.pw;have b:=iv.fq;have h:=e.step Q (Im b a.es) (by unfold mu;rw[Iw];simp[Ed.more]) (by rw[Iw]) λg=>by rw[Jj,G a.es]
 exact⟨K,_,r,h.same (E':={E.fq with bg:=0}) Q (Im (b.jp _ 0 _ _ b.H) a.es) (by simp[mu,Ed.more]) rfl<|λg=>by rw[zt,zt],a.jp _ 0,rfl⟩
def To.space(a:To mf cf d F K 3 E r):To mf cf d F K 4 (E.ja cf) r:=by
 have iv:=a.wz.iv;rw[show cr 3 E.bg=0+81 from rfl]at iv;exact a.step Q (In iv.ja) (by unfold mu;rw[Lo];simp[Ed.more]) (by rw[Lo]) λb=>by rw[Mq]
def Oi(b:E.bg=3)(a:cf.U[E.H]?=some x):E.dv mf cf=E.cz mf cf x:=by rw[Kb (mf:=mf) a,Ed.choose,N]
def To.go(e:gx cf)(g:To mf cf d F K 2 E r)(b:E.dv mf cf=E1.fv a:=by omega)(f:E1.dq=E.dq:=by omega):To mf cf d F K 1 {E1 with H:=a} r:=by
 have:=g.cmd e (by rw[b];exact f) (by rw[b];simp[Ed.fv]);rwa[b]at this
def To.off(b:To mf cf d F K 2 E r)(a:E.dv mf cf=E.stop 4):F=(E.out,4):=b.stop (E':={E with ck:=4}) qD λe=>by rw[ug,a];rfl
def To.Wn(b:gx cf)(f:To mf cf d F K 2 E r)(a:E.dv mf cf=(E1,3))(e:E1.dq=E.dq):To mf cf d F K 4 E1 r:=by
 have:=f.cmd b (by rw[a];exact e) (by rw[a];simp);rwa[a]at this
def To.afo(b:gx cf)(f:To mf cf d F K 2 E r)(a:E.dv mf cf=(E1,4))(e:E1.dq=E.dq):To mf cf d F K 3 E1 r:=by
 have:=f.cmd b (by rw[a];exact e) (by rw[a];simp);rwa[a]at this
def Af(mf:Mf)(cf:Cf)(d:Bool)(F:List UInt8×Nat)(a:Nat)(D:Dd)(R:Dd×Int):Prop:=
 (R.2=-4/\Qt F R.1)\/(R.2=-2/\Qje mf cf d F R.1.pw)\/(R.2=-3/\R.1.dt=D.dt/\R.1.rest=D.rest/\∃K E r,To mf cf d F K 1 E r/\Rl cf d R.1.pw E r/\E.H=0)\/
 ∃g:Nat,((R.2=-1/\g=a+1)\/R.2=(g:Int))/\((R.1.dt=D.dt/\R.1.rest=D.rest)\/R.1.rest.size<D.rest.size)/\∃K E r,To mf cf d F K 1 E r/\Rl cf d R.1 E r/\E.H=g
def wx(b:D1.dt=D.dt)(e:D1.rest=D.rest)(h:To mf cf d F K 1 E r)(f:Rl cf d D1 E r)(g:E.H=a+1):Af mf cf d F a D (D1,-1):=.inr<|.inr<|.inr ⟨a+1,.inl ⟨rfl,rfl⟩,.inl ⟨b,e⟩,K,E,r,h,f,g⟩
def Si(b:D1.ck=4)(e:D1.out=D.out)(f:Rl cf d D E r)(g:F=(E.out,4)):Af mf cf d F a D (D1,-4):=.inl ⟨rfl,.inl<|by rw[b];simp,by rw[g,e,b,f.out]⟩
theorem arf(k:gx cf){e:Dw}(o:e.cf=cf)(L:To mf cf d F K 2 E r)(p:Rl cf d D E r)(m:E.bg=3)(v:cf.U[E.H]?=some x)(q:x.R=3\/x.R=4):Af mf cf d F E.H D (D.next e<|decide<|x.R=4):=by
 have w:∀E:Ed,E.cz mf cf x=E.ix cf (decide (x.R=4)):=λE=>by rw[Ed.cz,N,N,N,G q]
 have a0:(∃s a n,To mf cf d F s 2 a n/\Rl cf d D a n/\a.known=true/\zz E a)\/(D.yg=true/\F=(Qjj D.out,0)):=by
  cases g:E.known
  .exact L.known k p (by rw[m];rfl) g λaD=>by
    have H:E.dv mf cf=(E,0):=by rw[Oi m v,w,ut,G ⟨m,g⟩]
    rw[ug,H];rfl
  exact .inl ⟨K,E,r,L,p,g,E.next,E.whole,E.dq,rfl⟩
 obtain⟨s,a,n,t,h,g,S⟩|⟨U,hF⟩:=a0
 .obtain⟨j,M,a1⟩:a.bg=3/\cf.U[a.H]?=some x/\a.H=E.H:=by obtain⟨_,_,_,rfl⟩:=S;grind
  let⟨V,W,_⟩:=h.known g;generalize T:decide (x.R=4)=i at*
  cases f:a.more
  .rw[Dd.next,V,W,f];have H:a.dv mf cf=(a,4):=by rw[Oi j M,w,ut,N<|by rw[g];simp,G ⟨j,f⟩]
   let⟨a2,b,a3,X,u,Z⟩:=(t.afo k H rfl).space.over k h.space;have A:(D.jk e)=(if cf.quiet=true then D else D.print D.L).pw:=by rw[Dd.jk,o]
   have B:a.dq=true:=by simpa[Ed.known,f]using g
   have y:(D.jk e).rest.size=0:=by
    have C:(D.jk e).rest=D.rest:=by
     let⟨aG,z,_⟩:=Em (if cf.quiet=true then D else D.print D.L).ef<|if cf.quiet=true then D else D.print D.L;rw[A,Dd.pw,z];show(if cf.quiet=true then D else D.print D.L).rest=_
     split<;>rfl
    simp only[Ed.more,yyw,yza,zye]at f;rw[C,<-jn,h.rest,f.1,f.2,(h.en B).1];rfl
   have P:(D.jk e).dq=true:=by rw[A,u.dq];exact(h.en B).2
   rw[<-A]at u;have qa:ci (D.jk e).rest 0=0:=by
    rw[ab7,show Qjj (D.jk e).rest=[] from yyp (by rw[jn];exact y)];rfl
   have R:(D.jk e).oe e ⟨#[]⟩={D.jk e with ck:=1}:=by rw[Dd.oe,qa,N,N<|by rw[P];simp,G y]
   obtain⟨C,_⟩|⟨_,_,hF⟩:=X.line k u (.inl ⟨rfl,Z,rfl⟩) o (t:=⟨#[]⟩) rfl
   .omega
   rw[R]at hF;exact .inl ⟨rfl,.inl qD,hF⟩
  have iv:=t.wz.iv;rw[show cr 2 a.bg=320+81+81 by rw[j];rfl]at iv;obtain⟨b,y⟩:∃b,b=if i=true then a else(a.ja cf).fq:=⟨_,rfl⟩
  have a2:b.H=a.H/\b.more=a.more/\b.dq=a.dq/\b.cx=a.cx/\b.ck=a.ck/\Iv cf s 81 b:=by
   rw[y];split
   .exact⟨rfl,rfl,rfl,rfl,rfl,iv.less⟩
   refine⟨?_,?_,?_,?_,?_,(iv.ja.fq).less⟩<;>rw[Iw,Lo]<;>rfl
  let⟨A,qa,a6,a7,a8,R⟩:=a2;have a3:Rl cf d (if i=true then D else D.jk e) b n:=by
   rw[y];split
   .exact h
   exact h.jk o
  have P:cf.U[b.H]?=some x:=by rw[A];exact M
  have aC:a.dv mf cf=({b with bg:=4}:Ed).dv mf cf:=by
   rw[Oi j M,w,ut,N<|by rw[g];simp,N<|by rw[f];simp,G j,<-y];exact(Te (E:={b with bg:=4}) (x:=x) rfl P q T.symm).symm
  have aE:To mf cf d F s 2 {b with bg:=4} n:=t.same Q ⟨R.jp _ 4 _ _ R.H,λ_=>qE,λ_=>⟨qD,qD⟩,λ_ _ aI aF=>by
    grind,λ_ _=>by show b.more=true;rw[qa];exact f,.inl<|by show b.ck=0;rw[a8];exact h.es⟩ (by
   have aB:({b with bg:=4}:Ed).more=a.more:=qa;grind[mu]) a6 λaD=>by rw[ug,ug,aC]
  have a4:(if i=true then D else D.jk e).rest=D.rest:=by
   split
   .rfl
   let⟨aG,z,_⟩:=Em (if e.cf.quiet=true then D else D.print D.L).ef<|if e.cf.quiet=true then D else D.print D.L;rw[Dd.jk,Dd.pw,z];show(if e.cf.quiet=true then D else D.print D.L).rest=_
   split<;>rfl
  rw[Dd.next,V,W,f,N qG,N qG];have a5:(if i=true then D.L++gp else(⟨#[]⟩:ag))=if i=true then(if i=true then D else D.jk e).L++gp else⟨#[]⟩:=by cases i<;>rfl
  obtain⟨B,u,Z,X,aH,C,a9,aA⟩|⟨B,u,C⟩:=aE.line k (a3.jp b.H 4) (j:=i) (.inr ⟨rfl,rfl,x,P,q,T.symm⟩) o a5
  .simp only[B];exact .inr<|.inr<|.inr ⟨E.H+1,.inl ⟨rfl,rfl⟩,.inr qE,Z,X,aH,C,a9,qE⟩
  simp only[B];exact .inl ⟨rfl,u,C⟩
 rw[Dd.next,U,G rfl,Dd.last,U,G rfl];exact .inl ⟨rfl,.inr rfl,by rw[hF,p.st]⟩
def Rl.Iu(a:Rl cf d D E r)(b:ag)(e:b.size<=cf.space:=by omega):Rl cf d {D with L:=b} {E with L:=b} r:=⟨a.rest,a.dq,a.en,a.number,rfl,a.bt,a.ef,a.out,a.bo,a.put,a.dt,a.st,a.es,a.ji,e,a.hs,a.nn⟩
def Rl.holds(a:Rl cf d D E r)(b:ag)(e:b.size<=cf.space):Rl cf d {D with bt:=b} {E with bt:=b} r:=⟨a.rest,a.dq,a.en,a.number,a.L,rfl,a.ef,a.out,a.bo,a.put,a.dt,a.st,a.es,a.ji,a.ps,e,a.nn⟩
def Rl.agt(a:Rl cf d D E r)(b:Bool):Rl cf d {D with put:=b} {E with put:=b} r:=⟨a.rest,a.dq,a.en,a.number,a.L,a.bt,a.ef,a.out,a.bo,rfl,a.dt,a.st,a.es,a.ji,a.ps,a.hs,a.nn⟩
def Rl.later(a:Rl cf d D E r)(b:ag):Rl cf d {D with ef:=D.ef++[b]} {E with cy:=E.cy++[b]} r:=⟨a.rest,a.dq,a.en,a.number,a.L,a.bt,by show D.ef++[b]=E.cy++[b];rw[a.ef],a.out,a.bo,a.put,a.dt,a.st,a.es,a.ji,a.ps,a.hs,a.nn⟩
def am0(f:gx cf){p:Dw}(m:p.cf=cf){B:ag->Nat}(e:To mf cf d F K 2 E r)(a:Rl cf d D E r)(y:E.bg=3)(z:cf.U[E.H]?=some x)(w:xg B c x):Af mf cf d F E.H D (D.cz mf p x c):=by
 have b:=Oi (mf:=mf) y z;have H:=w.kd;have k:=w.lt;have C:(x.R=3\/x.R=4)\/x.R=0\/x.R=1\/x.R=2\/x.R=5\/x.R=6\/x.R=7\/x.R=8\/x.R=9\/x.R=10\/x.R=11\/x.R=12\/x.R=13\/x.R=14\/x.R=15\/x.R=16\/x.R=17\/x.R=18\/x.R=19\/x.R=20:=Q
 obtain g|g|g|g|g|g|g|g|g|g|g|g|g|g|g|g|g|g|g|g:=C
 .have v:D.cz mf p x c=D.next p (decide (x.R=4)):=by rw[Dd.cz];obtain g|g:=g<;>simp[g]
  rw[v];exact arf f m e a y z g
 all_goals simp only[g,Gp]at k
 all_goals simp[g,Ed.cz,Ed.ea]at b
 all_goals simp[Dd.cz,g]
 .have i:c.di=123:=k;rw[i,Dd.wq,m];have h:(qm 123 D).size<=cf.space/\(ql 123 D).size<=cf.space:=⟨a.ps,a.hs⟩;rw[G h,G h];exact wx rfl rfl (e.go f b rfl) (a.jp _ E.bg) rfl
 .have i:c.di=100:=k;rw[Dd.kj,i];exact .inr<|.inl ⟨rfl,(e.Wn f b rfl).over f a⟩
 .have i:c.di=68:=k;rw[Dd.kj,i];simp only[xk,<-a.L]at b;by_cases n:ci D.L 0<D.L.size
  .simp only[G n]at b;have j:=e.cmd f (by rw[b,Iw]) (by rw[b];simp);rw[b]at j;have t:=(a.Iu (D.L.extract (ci D.L 0+1) D.L.size)<|bq (pd _ _ _) a.ps).pw;simp[n];exact .inr<|.inr<|.inl ⟨rfl,rfl,rfl,K,_,r,j,t.jp 0 _,rfl⟩
  simp only[N n]at b;simp[n];exact .inr<|.inl ⟨rfl,(e.Wn f b rfl).over f a⟩
 .rw[a.L];exact wx rfl rfl (e.go f b rfl) ((a.print _).jp _ E.bg) rfl
 .rw[a.L];exact wx rfl rfl (e.go f b rfl) ((a.print _).jp _ E.bg) rfl
 .have i:c.di=103:=k;rw[i,Dd.wq,m];have h:(qm 103 D).size<=cf.space/\(ql 103 D).size<=cf.space:=⟨a.hs,a.hs⟩;rw[G h,G h];rw[Ed.kz,N (by rw[<-a.bt];have:=a.hs;omega)]at b;have j:=a.Iu E.bt (by rw[<-a.bt];exact a.hs);have o:({D with L:=qm 103 D,bt:=ql 103 D}:Dd)={D with L:=E.bt}:=by rw[<-a.bt];rfl
  rw[o];exact wx rfl rfl (e.go f b rfl) (j.jp _ E.bg) rfl
 .have i:c.di=71:=k;rw[i,Dd.wq,m];have q:qm 71 D=E.L++gp++E.bt/\ql 71 D=D.bt:=by rw[<-a.L,<-a.bt];exact⟨rfl,rfl⟩
  rw[Ed.grow,Ed.kz]at b;rw[q.1,q.2];by_cases h:cf.space<(E.L++gp++E.bt).size
  .rw[G h]at b;rw[N,N];exact Si rfl rfl a<|e.off b
  rw[N h]at b;have s:=a.hs;rw[G ⟨Q,s⟩,G ⟨Q,s⟩];exact wx rfl rfl (e.go f b rfl) ((a.Iu<|E.L++gp++E.bt).jp _ E.bg) rfl
 .have i:c.di=104:=k;rw[i,Dd.wq,m];have h:(qm 104 D).size<=cf.space/\(ql 104 D).size<=cf.space:=⟨a.ps,a.ps⟩;rw[G h,G h];rw[Ed.holds,N (by rw[<-a.L];have:=a.ps;omega)]at b;have j:=a.holds E.L (by rw[<-a.L];exact a.ps);have o:({D with L:=qm 104 D,bt:=ql 104 D}:Dd)={D with bt:=E.L}:=by rw[<-a.L];rfl
  rw[o];exact wx rfl rfl (e.go f b rfl) (j.jp _ E.bg) rfl
 .have i:c.di=72:=k;rw[i,Dd.wq,m];have q:qm 72 D=D.L/\ql 72 D=E.bt++gp++E.L:=by rw[<-a.L,<-a.bt];exact⟨rfl,rfl⟩
  rw[Ed.holds]at b;rw[q.1,q.2];by_cases h:cf.space<(E.bt++gp++E.L).size
  .rw[G h]at b;rw[N,N];exact Si rfl rfl a<|e.off b
  rw[N h]at b;have s:=a.ps;rw[G ⟨s,Q⟩,G ⟨s,Q⟩];exact wx rfl rfl (e.go f b rfl) ((a.holds (E.bt++gp++E.L) Q).jp _ E.bg) rfl
 .have i:c.di=120:=k;rw[i,Dd.wq,m];have h:(qm 120 D).size<=cf.space/\(ql 120 D).size<=cf.space:=⟨a.hs,a.ps⟩;rw[G h,G h];have j:=(a.Iu E.bt<|by rw[<-a.bt];exact a.hs).holds E.L (by rw[<-a.L];exact a.ps);have o:({D with L:=qm 120 D,bt:=ql 120 D}:Dd)={D with L:=E.bt,bt:=E.L}:=by rw[<-a.L,<-a.bt];rfl
  rw[o];exact wx rfl rfl (e.go f b rfl) (j.jp _ E.bg) rfl
 .rw[a.number];exact wx rfl rfl (e.go f b rfl) ((a.print _).jp _ E.bg) rfl
 .have j:=(e.afo f b rfl).space;have t:=a.jk m;have hF:=j.stop (E':={(E.ja cf).fq with ck:=2}) qD λn=>by rw[Jj,Iw,Iw,Lo,Lo];rfl
  exact .inl ⟨rfl,.inl qD,by rw[hF,res,t.out]⟩
 .have j:=a.later x.text;exact wx rfl rfl (e.go f b rfl) (j.jp _ E.bg) rfl
 .exact wx rfl rfl (e.go f b rfl) ((a.print _).jp _ E.bg) rfl
 .have i:c.di=99:=k;rw[Dd.kj,i,w.text<|.inr<|.inr g];exact .inr<|.inl ⟨rfl,(e.Wn f b rfl).over f<|a.print _⟩
 .exact .inr<|.inr<|.inr ⟨x.cn,.inr rfl,.inl ⟨rfl,rfl⟩,K,_,r,e.go f b rfl,a.jp _ E.bg,rfl⟩
 .rw[<-a.put]at b;cases n:D.put
  .rw[n]at b;exact wx rfl rfl (e.go f b rfl) (a.jp _ E.bg) rfl
  rw[n]at b;exact .inr<|.inr<|.inr ⟨x.cn,.inr rfl,.inl ⟨rfl,rfl⟩,K,_,r,e.go f b rfl,(a.agt false).jp _ E.bg,rfl⟩
 .rw[Ed.subst,Ed.kz,<-a.L]at b;rw[Dd.subst,m];obtain⟨n,u,v⟩:∃n u,sf mf x D.L=(n,u):=⟨_,_,rfl⟩;simp only[v]at b|-;cases u
  .exact wx rfl rfl (e.go f b rfl) (a.jp _ E.bg) rfl
  by_cases h:cf.space<n.size
  .simp[h]at b|-;exact Si rfl rfl a<|e.off b
  simp[h]at b|-;have j:=(a.Iu n).agt true;cases A:x.kr<;>simp[A]at b|-
  .exact wx rfl rfl (e.go f b rfl) (j.jp _ E.bg) rfl
  exact wx rfl rfl (e.go f b rfl) ((j.print n).jp _ E.bg) rfl
 rw[a.L];exact wx rfl rfl (e.go f b rfl) ((a.Iu _<|by rw[trans,yx,yxr,jn,<-a.L];exact a.ps).jp _ E.bg) rfl
end
end
