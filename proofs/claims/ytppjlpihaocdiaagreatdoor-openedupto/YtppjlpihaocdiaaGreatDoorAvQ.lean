import Derived.Test.YtppjlpihaocdiaaGreatDoorAtQ
set_option linter.all false
set_option maxRecDepth 100000
set_option maxHeartbeats 16000000
namespace Go.Proofs.YtppjlpihaocdiaaGreatDoor
open Go.RowKit Go.Proofs.Tryz
variable{w u v:ae}{a b c d e:Nat}{s t:ag}{x y z:af}{p D:Int}{l:List af}{f:Bool}{g:List Nat}{h:Nat->Prop}{o:Option Addr}{r:List UInt8}{A:Nat->Bool}{B:Nat->Nat->Bool}{C:Nat->Nat->Prop}(i:Nat)(S T:ag)(V X:af)(j k m n:Nat)(Z:Int)(W:ae)
section
def ab5(b:ag):∀(f a:Nat),a<=b.size->b.size<=f+a->jh b f a=a+((Qjj b).drop a).findIdx (·==10)
 |0,a,j,k=>by
  have:(Qjj b).drop a=[]:=yym (by rw[jn];omega);rw[this];rfl
 |f+1,a,j,k=>by
  rw[jh];by_cases e:a<b.size
  .have n:a<(Qjj b).length:=by rw[jn];exact e
   have h:au b a=(Qjj b)[a].toNat:=by rw[<-Cx b a e];rfl
   rw[Dn n,List.findIdx_cons];by_cases g:au b a=10
   .rw[N<|λi=>i.2 g];have:((Qjj b)[a]==10)=true:=by
     rw[ra];apply yzt.1;rw[<-h,g];rfl
    rw[this];rfl
   rw[G ⟨e,g⟩,ab5 b f (a+1) e<|by omega];have:((Qjj b)[a]==10)=false:=by
    rw[xy];intro m
    rw[m]at h;exact g h
   rw[this];simp only[cond_false];omega
  rw[N<|λi=>e i.1];have:(Qjj b).drop a=[]:=yym (by rw[jn];omega);rw[this];rfl
def ab7:ci S 0=(Qjj S).findIdx (·==10):=by
 rw[ci,ab5 S _ 0 (ey _)<|by omega];simp
def an9{a b:List UInt8}(h:(10:UInt8)∉a):(a++b).findIdx (·==10)=a.length+b.findIdx (·==10):=by
 rw[List.findIdx_append,if_neg]
 .omega
 intro f
 rw[List.findIdx_lt_length]at f;have⟨x,g,e⟩:=f;rw[ra]at e;exact h<|e▸g
section
variable {mf:Mf} {cf:Cf} {d:Bool} {D:Dd} {F:List UInt8×Nat} {K l:Nat} {E:Ed} {r:List UInt8} {x:Cm} {c:Dc}
def Rl.jp(a:Rl cf d D E r)(b e:Nat):Rl cf d D {E with H:=b,bg:=e} r:=⟨a.rest,a.dq,a.en,a.number,a.L,a.bt,a.ef,a.out,a.bo,a.put,a.dt,a.st,a.es,a.ji,a.ps,a.hs,a.nn⟩
def Rl.print(a:Rl cf d D E r)(b:ag):Rl cf d (D.print b) (E.print b) r:=
 ⟨a.rest,a.dq,a.en,a.number,a.L,a.bt,a.ef,by show Qjj (D.out++b++gp)=E.out++Qjj b++[10];rw[<-a.out];simp[Qjj,gp],a.bo,a.put,a.dt,a.st,a.es,a.ji,a.ps,a.hs,a.nn⟩
def Rl.lp:∀(a:List ag) {D:Dd} {E:Ed},Rl cf d D E r->Rl cf d (D.lp a) (E.lp a) r
 | [],_,_,h=>h
 |s::a,_,_,h=>Rl.lp a<|h.print s
def Rl.pw(a:Rl cf d D E r):Rl cf d D.pw E.fq r:=by
 have:=Rl.lp E.cy a;rw[Dd.pw,Ed.fq,a.ef];exact⟨this.rest,this.dq,this.en,this.number,this.L,this.bt,rfl,this.out,this.bo,this.put,this.dt,this.st,this.es,this.ji,this.ps,this.hs,this.nn⟩
def Rl.space(a:Rl cf d D E r):Rl cf d (if cf.quiet=true then D else D.print D.L) (E.ja cf) r:=by
 unfold Ed.ja;split
 .exact a
 rw[a.L];exact a.print _
def Rl.jk(e:Rl cf d D E r){a:Dw}(b:a.cf=cf):Rl cf d (D.jk a) (E.ja cf).fq r:=by
 rw[Dd.jk,b];exact e.space.pw
def Ln(cf:Cf)(join:Bool)(l:Nat)(E:Ed):Prop:=(l=0/\E.bg=0/\join=false)\/(l=2/\E.bg=4/\∃x,cf.U[E.H]?=some x/\(x.R=3\/x.R=4)/\join=decide (x.R=4))
def Ln.Pe{a:Ed}(b:Ln cf f l E)(e:zz E a):Ln cf f l a:=by
 obtain⟨g,h,i,rfl⟩:=e;exact b
def zz.trans{a b e:Ed}(f:zz a b)(h:zz b e):zz a e:=by
 obtain⟨k,m,n,rfl⟩:=f;obtain⟨g,i,j,rfl⟩:=h;exact⟨g,i,j,rfl⟩
def Te(g:E.bg=4)(a:cf.U[E.H]?=some x)(b:x.R=3\/x.R=4)(e:f=decide (x.R=4)):E.dv mf cf=E.kq cf f:=by
 rw[Kb (mf:=mf) a,Ed.choose,N,Ed.cz,N,N,N,G b,ut,N,N,N,e]
def Ln.waits(i:Ln cf f l E)(b:E.mh cf=false)(g:Nat):E.hu mf cf (g+1) l=E:=by
 rcases i with⟨rfl,a,m⟩|⟨rfl,a,x,e,h,j⟩
 .have k:({E with bg:=0}:Ed)=E:=by rw[<-a]
  rw[zt,k,Ed.mi,b];rfl
 rw[ug,Te a e h j,Ed.kq,b];rfl
def To.zi(s:gx cf)(n:To mf cf d F K l E r)(g:Rl cf d D E r)(o:Ln cf f l E)(t:∀h b,r=h::b->∀(K:Nat)(E:Ed),To mf cf d F K l E b->Rl cf d D E b->Ln cf f l E->
  ∃k a i,To mf cf d F k l a i/\Rl cf d D a i/\zz E a/\(a.mh cf=true\/(i=[]/\d=false/\F=(Qjj D.out,0)/\a.mh cf=false))):
  ∃k a b,To mf cf d F k l a b/\Rl cf d D a b/\zz E a/\(a.mh cf=true\/(b=[]/\d=false/\F=(Qjj D.out,0)/\a.mh cf=false)):=by
 cases m:E.mh cf
 .have j:=m;simp only[Ed.mh,yyw]at j;have q:l=if E.bg=0 then 0 else 2:=by
   rcases o with⟨rfl,e,_⟩|⟨rfl,e,_⟩<;>simp[e]
  have p:=n.ji s g.es j.1.2 j.1.2<|o.waits m;rw[<-q]at p;rcases p with⟨h,b,rfl,e⟩|⟨rfl,rfl,e⟩|⟨rfl,rfl,e⟩
  .have⟨k,a,i,u,v,w,y⟩:=t h b rfl (K+1) (E.add h) e (g.add j.1.1 j.1.2)<|o.Pe<|Uy E h;exact⟨k,a,i,u,v,(Uy E h).trans w,y⟩
  .exact⟨K,_,[],e,g.fin,⟨E.next,E.whole,true,rfl⟩,.inl<|by simp[Ed.mh]⟩
  exact⟨K,E,[],n,g,⟨E.next,E.whole,E.dq,rfl⟩,.inr ⟨rfl,rfl,by rw[e,res,g.es,g.out],m⟩⟩
 exact⟨K,E,r,n,g,⟨E.next,E.whole,E.dq,rfl⟩,.inl m⟩
def To.fill(j:gx cf)(r:List UInt8):∀(K:Nat)(E:Ed),To mf cf d F K l E r->Rl cf d D E r->Ln cf f l E->
  ∃m a b,To mf cf d F m l a b/\Rl cf d D a b/\zz E a/\(a.mh cf=true\/(b=[]/\d=false/\F=(Qjj D.out,0)/\a.mh cf=false)):=by
 induction r with
 |nil=>
  intro K E i g h
  exact To.zi j i g h<|λk b e=>by cases e
 |cons k r n=>
  intro K E i g h
  exact To.zi j i g h (λo b e=>by cases e;exact n)
def atq:Qjj (S.extract j S.size)=(Qjj S).drop j:=by
 simp only[Qjj,yyg,Array.toList_extract];show(List.take (S.data.size-j)<|List.drop j S.data.toList)=_
 rw[Hh<|by simp]
def att:Qjj (S.extract 0 j)=(Qjj S).take j:=by
 simp only[Qjj,yyg,Array.toList_extract];rfl
def ahr(a:Qjj s=Qjj t):s=t:=va<|yzd.1 a
def atf{j:Bool}(e:t=if j=true then E.L++gp else⟨#[]⟩):E.ej cf j=if E.sk cf=true then({E with ck:=3},false)else if cf.space<t.size+E.next.length then({E.read with ck:=4},false)else({E.read with L:=t++ce E.next,cx:=0,put:=false},true):=by
 have f:E.read.vu cf j (ce E.next)=if cf.space<t.size+E.next.length then none else some {E.read with L:=t++ce E.next}:=by
  have b:(t++ce E.next).size=t.size+E.next.length:=by rw[uh,yx]
  unfold Ed.vu Ed.grow Ed.kz;cases j
  .have a:t++ce E.next=ce E.next:=by rw[e];apply va;simp
   rw[N<|by decide,<-b,a]
  have a:t=E.L++gp:=by rw[e];rfl
  rw[G rfl,<-b,a];rfl
 unfold Ed.ej;rw[f];by_cases a:E.sk cf=true
 .rw[G a,G a]
 rw[N a,N a];by_cases b:cf.space<t.size+E.next.length
 .rw[G b,G b]
 rw[N b,N b]
def Ln.reads(m:gx cf)(t:Ln cf f l E)(h:To mf cf d F K l E r)(n:E.mh cf=true)(u:E.more=true)(o:(E.ej cf f).1.dq=E.dq):
  ((E.ej cf f).2=false->∀e,E.hu mf cf (e+1) l=(E.ej cf f).1)/\((E.ej cf f).2=true->To mf cf d F K 1 {(E.ej cf f).1 with H:=if l=0 then 0 else E.H+1} r):=by
 rcases t with⟨rfl,g,rfl⟩|⟨rfl,g,x,v,w,y⟩
 .have a:({E with bg:=0}:Ed)=E:=by rw[<-g]
  have i:E.mi cf=E.ej cf false:=by rw[Ed.mi,G n,G u]
  refine⟨λj e=>by rw[zt,a,i,N<|by rw[j];decide],λb=> ?_⟩;have p:=Sq m h.wz;rw[a,i]at p;rcases p with⟨_,q,s⟩|⟨k,_⟩
  .exact h.step (by omega) q s o λe=>by rw[zt,a,i,G b];rfl
  rw[b]at k;cases k
 have a:E.dv mf cf=if(E.ej cf f).2=true then(E.ej cf f).1.fv ((E.ej cf f).1.H+1)else((E.ej cf f).1,0):=by rw[Te g v w y,Ed.kq,G n]
 refine⟨λj e=>by rw[ug,a,j];rfl,λb=> ?_⟩;rw[G b]at a;have:=h.cmd m (by rw[a];exact o) (by rw[a];simp[Ed.fv]);rw[a,Ja]at this;exact this
def To.line(y:gx cf){j:Bool}{p:Dw}{t:ag}(Z:To mf cf d F K l E r)(U:Rl cf d D E r)(M:Ln cf j l E)(a0:p.cf=cf)(a2:t=if j=true then D.L++gp else⟨#[]⟩):
  (D.rm p t=true/\(D.oe p t).rest.size<D.rest.size/\∃P a m,To mf cf d F P 1 a m/\Rl cf d (D.oe p t) a m/\a.H=if l=0 then 0 else E.H+1)\/
  (D.rm p t=false/\((D.oe p t).ck≠0\/(D.oe p t).ji=true)/\F=(Qjj (D.oe p t).out,(D.oe p t).ck)):=by
 have⟨P,a,m,n,b,f,h⟩:=To.fill y r K E Z U M;have C:=M.Pe f;have a1:a.H=E.H:=by obtain⟨a3,a4,e,rfl⟩:=f;rfl
 have o:ci D.rest 0=a.next.length+((if a.whole=true then [10] else [])++m).findIdx (·==10):=by rw[ab7,b.rest,nt,an9 b.nn]
 have k:D.rest.size=a.next.length+(if a.whole=true then 1 else 0)+m.length:=by
  rw[<-jn,b.rest];simp only[ga];split<;>simp
 subst a0;generalize V:ci D.rest 0=f at*
 have s:D.oe p t=if p.cf.line<f then {D with ck:=3} else if f=D.rest.size/\D.dq=false then {D with ji:=true} else if D.rest.size=0 then {D with ck:=1} else if p.cf.space<t.size+f then {D with ck:=4} else {D with L:=t++D.rest.extract 0 f,rest:=D.rest.extract (f+1) D.rest.size,number:=D.number+1,put:=false,dt:=0}:=by rw[Dd.oe,V]
 have u:D.rm p t=(decide (f<=p.cf.line)&& !(decide (f=D.rest.size)&& !D.dq)&& !decide (D.rest.size=0)&&decide (t.size+f<=p.cf.space)):=by rw[Dd.rm,V]
 rcases h with h|⟨rfl,rfl,hF,h⟩
 .have g:=atf (cf:=p.cf) (E:=a) (j:=j) (t:=t) (by rw[a2,b.L]);by_cases v:a.sk p.cf=true
  .have w:=v;simp only[Ed.sk,xz]at w;have i:a.more=true:=by
    have:a.next≠[]:=λe=>by rw[e]at w;simp at w
    simp[Ed.more,this]
   rw[G v]at g;have hF:=n.stop (by rw[g];simp) ((C.reads y n h i<|by rw[g]).1<|by rw[g]);right;rw[s,u,G];exact⟨by simp;omega,.inl<|by simp,by rw[hF,g,res,b.out]⟩
  rw[N v]at g;have w:=v;simp only[Ed.sk,xz]at w;have H:a.whole=true\/(a.dq=true/\a.whole=false):=by
   simp only[Ed.mh,uz]at h;cases z:a.whole
   .rw[z]at h;exact .inr ⟨by rcases h with(e|e)|e;cases e;exact e;exact cb e v,rfl⟩
   exact .inl rfl
  have Q:f=a.next.length:=by
   rcases H with e|⟨e,W⟩
   .rw[e]at o;simpa[List.findIdx_cons]using o
   rw[W,(b.en e).1]at o;simpa using o
  cases i:a.more
  .simp only[Ed.more,yyw,yza,zye]at i;have R:a.dq=true:=by rcases H with e|e;rw[i.1]at e;cases e;exact e.1
   obtain⟨rfl,rfl⟩:=b.en R;rw[i.1,i.2]at k;have z:=b.dq;rcases C with⟨rfl,A,rfl⟩|⟨rfl,A,T⟩
   .have hF:=n.stop (E':={a with ck:=1}) (by simp) λS=>by
     have B:({a with bg:=0}:Ed)=a:=by rw[<-A]
     have L:¬a.more=true:=by simp[Ed.more,i]
     rw[zt,B,Ed.mi,G h,N L,N<|by simp]
    right;rw[s,u,N,N<|by rw[z];simp,G<|by simpa using k];exact⟨by simp at k;simp[k],.inl<|by simp,by rw[hF,res,b.out]⟩
   have:=n.wz.mr rfl A;simp[Ed.more,i]at this
  have R:¬(f=D.rest.size/\D.dq=false):=λe=>by
   rcases H with q|⟨q,A⟩
   .rw[q]at k;simp at k;omega
   rw[b.dq,(b.en q).2]at e;cases e.2
  have B:D.rest.size≠0:=by
   simp only[Ed.more,uz,xz]at i;rcases i with q|q
   .rw[q]at k;simp at k;omega
   have:a.next.length≠0:=λe=>q<|yyp e
   omega
  rw[<-Q]at g;by_cases L:p.cf.space<t.size+f
  .rw[G L]at g;have hF:=n.stop (by rw[g];simp) ((C.reads y n h i<|by rw[g];rfl).1<|by rw[g]);right;rw[s,u,N,N R,N B,G L];exact⟨by simp;omega,.inl<|by simp,by rw[hF,g,res,b.out];rfl⟩
  rw[N L]at g;have X:=(C.reads y n h i<|by rw[g];rfl).2 (by rw[g]);left;rw[s,u,N,N R,N B,N L];rw[g]at X;have S:(Qjj D.rest).take f=a.next/\(Qjj D.rest).drop (f+1)=m:=by
   rw[b.rest,Q];rcases H with q|⟨q,A⟩
   .rw[q];simp
   rw[A,(b.en q).1];simp
  have T:t++D.rest.extract 0 f=t++ce a.next:=by
   congr 1;apply ahr;rw[att,S.1];simp[Qjj,ce]
  refine⟨?_,?_,P,_,m,X,⟨?_,b.dq,b.en,by show D.number+1=a.number+1;rw[b.number],T,b.bt,b.ef,b.out,b.bo,rfl,rfl,b.st,b.es,b.ji,?_,b.hs,by simp[Ed.read]⟩,by rw[a1]⟩
  .have:¬(f=D.rest.size)\/D.dq=true:=by
    by_cases q:f=D.rest.size
    .exact .inr (by cases A:D.dq;exact cb ⟨q,A⟩ R;rfl)
    exact .inl q
   rcases this with q|q
   .simp[q,B];omega
   simp[q,B];omega
  .show(D.rest.extract (f+1) D.rest.size).size<_
   rw[lw];omega
  .show Qjj (D.rest.extract (f+1) D.rest.size)=[]++[]++m
   rw[atq,S.2];rfl
  show(t++D.rest.extract 0 f).size<=_
  rw[T,uh,yx];omega
 simp only[Ed.mh,Ed.sk,yyw,yza]at h;rw[h.1.1]at o k;have Q:f=a.next.length:=by simpa using o
 have W:D.rest.size=a.next.length:=by simpa using k
 have z:=b.dq;right;rw[s,u,N,G ⟨by omega,z⟩];exact⟨by simp[z];omega,.inr rfl,by rw[hF,b.st]⟩
end
end
section
section
variable {mf:Mf} {cf:Cf} {d:Bool} {D D1:Dd} {F:List UInt8×Nat} {K l:Nat} {E E1:Ed} {r:List UInt8} {x:Cm} {c:Dc}
def afu:∀(a:List ag)(E:Ed),E.lp a={E with out:=E.out++a.flatMap λs=>Qjj s++[10]}
 | [],E=>by simp[Ed.lp]
 |s::a,E=>by rw[Ed.lp,afu a];simp[Ed.print]
def Iw(E:Ed):E.fq={E with out:=E.out++E.cy.flatMap λa=>Qjj a++[10],cy:=[]}:=by rw[Ed.fq,afu]
def Lo(E:Ed):E.ja cf={E with out:=if cf.quiet=true then E.out else E.out++Qjj E.L++[10]}:=by
 unfold Ed.ja;split<;>rfl
def Qt(F:List UInt8×Nat)(D:Dd):Prop:=(D.ck≠0\/D.ji=true)/\F=(Qjj D.out,D.ck)
def Qje(mf:Mf)(cf:Cf)(d:Bool)(F:List UInt8×Nat)(D:Dd):Prop:=∃K E r,To mf cf d F K 0 E r/\Rl cf d D E r/\E.bg=0
def To.over(i:gx cf)(e:To mf cf d F K 4 E r)(f:Rl cf d D E r):Qje mf cf d F D.pw:=by
 have iv:=e.wz.iv;rw[show cr 4 E.bg=0 from rfl]at iv;have a:=f.pw;have b:=iv.fq;have h:=e.step (by omega) (Im b a.es) (by unfold mu;rw[Iw];simp[Ed.more]) (by rw[Iw]) λg=>by rw[Jj,G a.es]
 exact⟨K,_,r,h.same (E':={E.fq with bg:=0}) (by omega) (Im (b.jp _ 0 _ _ b.H) a.es) (by unfold mu;simp[Ed.more]) rfl<|λg=>by rw[zt,zt],a.jp _ 0,rfl⟩
def To.space(a:To mf cf d F K 3 E r):To mf cf d F K 4 (E.ja cf) r:=by
 have iv:=a.wz.iv;rw[show cr 3 E.bg=0+81 from rfl]at iv;exact a.step (by omega) (In iv.ja) (by unfold mu;rw[Lo];simp[Ed.more]) (by rw[Lo]) λb=>by rw[Mq]
def Oi(b:E.bg=3)(a:cf.U[E.H]?=some x):E.dv mf cf=E.cz mf cf x:=by rw[Kb (mf:=mf) a,Ed.choose,N]
def To.go(e:gx cf)(g:To mf cf d F K 2 E r)(b:E.dv mf cf=E1.fv a:=by omega)(f:E1.dq=E.dq:=by omega):To mf cf d F K 1 {E1 with H:=a} r:=by
 have:=g.cmd e (by rw[b];exact f) (by rw[b];simp[Ed.fv]);rwa[b]at this
def To.off(b:To mf cf d F K 2 E r)(a:E.dv mf cf=E.stop 4):F=(E.out,4):=b.stop (E':={E with ck:=4}) (by simp) λe=>by rw[ug,a];rfl
def To.Wn(b:gx cf)(f:To mf cf d F K 2 E r)(a:E.dv mf cf=(E1,3))(e:E1.dq=E.dq):To mf cf d F K 4 E1 r:=by
 have:=f.cmd b (by rw[a];exact e) (by rw[a];simp);rwa[a]at this
def To.afo(b:gx cf)(f:To mf cf d F K 2 E r)(a:E.dv mf cf=(E1,4))(e:E1.dq=E.dq):To mf cf d F K 3 E1 r:=by
 have:=f.cmd b (by rw[a];exact e) (by rw[a];simp);rwa[a]at this
def Af(mf:Mf)(cf:Cf)(d:Bool)(F:List UInt8×Nat)(a:Nat)(D:Dd)(R:Dd×Int):Prop:=
 (R.2=-4/\Qt F R.1)\/(R.2=-2/\Qje mf cf d F R.1.pw)\/(R.2=-3/\R.1.dt=D.dt/\R.1.rest=D.rest/\∃K E r,To mf cf d F K 1 E r/\Rl cf d R.1.pw E r/\E.H=0)\/
 ∃g:Nat,((R.2=-1/\g=a+1)\/R.2=(g:Int))/\((R.1.dt=D.dt/\R.1.rest=D.rest)\/R.1.rest.size<D.rest.size)/\∃K E r,To mf cf d F K 1 E r/\Rl cf d R.1 E r/\E.H=g
def wx(b:D1.dt=D.dt)(e:D1.rest=D.rest)(h:To mf cf d F K 1 E r)(f:Rl cf d D1 E r)(g:E.H=a+1):Af mf cf d F a D (D1,-1):=.inr<|.inr<|.inr ⟨a+1,.inl ⟨rfl,rfl⟩,.inl ⟨b,e⟩,K,E,r,h,f,g⟩
def Si(b:D1.ck=4)(e:D1.out=D.out)(f:Rl cf d D E r)(g:F=(E.out,4)):Af mf cf d F a D (D1,-4):=.inl ⟨rfl,.inl<|by rw[b];simp,by rw[g,e,b,f.out]⟩
def arf(k:gx cf){e:Dw}(o:e.cf=cf)(L:To mf cf d F K 2 E r)(p:Rl cf d D E r)(m:E.bg=3)(v:cf.U[E.H]?=some x)(q:x.R=3\/x.R=4):Af mf cf d F E.H D (D.next e<|decide<|x.R=4):=by
 have w:∀E:Ed,E.cz mf cf x=E.ix cf (decide (x.R=4)):=λE=>by rw[Ed.cz,N,N,N,G q]
 have a0:(∃s a n,To mf cf d F s 2 a n/\Rl cf d D a n/\a.known=true/\zz E a)\/(D.yg=true/\F=(Qjj D.out,0)):=by
  cases g:E.known
  .exact L.known k p (by rw[m];rfl) g λaD=>by
    have H:E.dv mf cf=(E,0):=by rw[Oi m v,w,ut,G ⟨m,g⟩]
    rw[ug,H];rfl
  exact .inl ⟨K,E,r,L,p,g,E.next,E.whole,E.dq,rfl⟩
 rcases a0 with⟨s,a,n,t,h,g,S⟩|⟨U,hF⟩
 .obtain⟨j,M,a1⟩:a.bg=3/\cf.U[a.H]?=some x/\a.H=E.H:=by obtain⟨_,_,_,rfl⟩:=S;exact⟨m,v,rfl⟩
  have⟨V,W,_⟩:=h.known g;generalize T:decide (x.R=4)=i at*
  cases f:a.more
  .rw[Dd.next,V,W,f];have H:a.dv mf cf=(a,4):=by rw[Oi j M,w,ut,N<|by rw[g];simp,G ⟨j,f⟩]
   have⟨a2,b,a3,X,u,Z⟩:=(t.afo k H rfl).space.over k h.space;have A:(D.jk e)=(if cf.quiet=true then D else D.print D.L).pw:=by rw[Dd.jk,o]
   have B:a.dq=true:=by simpa[Ed.known,f]using g
   have y:(D.jk e).rest.size=0:=by
    have C:(D.jk e).rest=D.rest:=by
     have⟨aG,z,_⟩:=Em (if cf.quiet=true then D else D.print D.L).ef<|if cf.quiet=true then D else D.print D.L;rw[A,Dd.pw,z];show(if cf.quiet=true then D else D.print D.L).rest=_
     split<;>rfl
    simp only[Ed.more,yyw,yza,zye]at f;rw[C,<-jn,h.rest,f.1,f.2,(h.en B).1];rfl
   have P:(D.jk e).dq=true:=by rw[A,u.dq];exact(h.en B).2
   rw[<-A]at u;have Q:ci (D.jk e).rest 0=0:=by
    rw[ab7,show Qjj (D.jk e).rest=[] from yyp (by rw[jn];exact y)];rfl
   have R:(D.jk e).oe e ⟨#[]⟩={D.jk e with ck:=1}:=by rw[Dd.oe,Q,N,N<|by rw[P];simp,G y]
   rcases X.line k u (.inl ⟨rfl,Z,rfl⟩) o (t:=⟨#[]⟩) rfl with⟨C,_⟩|⟨_,_,hF⟩
   .rw[Dd.rm,y]at C;simp at C
   rw[R]at hF;exact .inl ⟨rfl,.inl<|by simp,hF⟩
  have iv:=t.wz.iv;rw[show cr 2 a.bg=320+81+81 by rw[j];rfl]at iv;obtain⟨b,y⟩:∃b,b=if i=true then a else(a.ja cf).fq:=⟨_,rfl⟩
  have a2:b.H=a.H/\b.more=a.more/\b.dq=a.dq/\b.cx=a.cx/\b.ck=a.ck/\Iv cf s 81 b:=by
   rw[y];split
   .exact⟨rfl,rfl,rfl,rfl,rfl,iv.less⟩
   refine⟨?_,?_,?_,?_,?_,(iv.ja.fq).less⟩<;>rw[Iw,Lo]<;>rfl
  have⟨A,Q,a6,a7,a8,R⟩:=a2;have a3:Rl cf d (if i=true then D else D.jk e) b n:=by
   rw[y];split
   .exact h
   exact h.jk o
  have P:cf.U[b.H]?=some x:=by rw[A];exact M
  have aC:a.dv mf cf=({b with bg:=4}:Ed).dv mf cf:=by
   rw[Oi j M,w,ut,N<|by rw[g];simp,N<|by rw[f];simp,G j,<-y];exact(Te (E:={b with bg:=4}) (x:=x) rfl P q T.symm).symm
  have aE:To mf cf d F s 2 {b with bg:=4} n:=t.same (by omega) ⟨R.jp _ 4 _ _ R.H,λ_=>by show b.H<_;rw[A];exact t.wz.lt rfl,λ_=>⟨by simp,by simp⟩,λ_ _ aI aF=>by
    have:cf.U[b.H]?=some aI:=aF;rw[P]at this;cases this;exact q,λ_ _=>by show b.more=true;rw[Q];exact f,.inl<|by show b.ck=0;rw[a8];exact h.es⟩ (by
   have aB:({b with bg:=4}:Ed).more=a.more:=Q;unfold mu;rw[aB,a7];simp[j]) a6 λaD=>by rw[ug,ug,aC]
  have a4:(if i=true then D else D.jk e).rest=D.rest:=by
   split
   .rfl
   have⟨aG,z,_⟩:=Em (if e.cf.quiet=true then D else D.print D.L).ef<|if e.cf.quiet=true then D else D.print D.L;rw[Dd.jk,Dd.pw,z];show(if e.cf.quiet=true then D else D.print D.L).rest=_
   split<;>rfl
  rw[Dd.next,V,W,f,N<|by decide,N<|by decide];have a5:(if i=true then D.L++gp else(⟨#[]⟩:ag))=if i=true then(if i=true then D else D.jk e).L++gp else⟨#[]⟩:=by cases i<;>rfl
  rcases aE.line k (a3.jp b.H 4) (j:=i) (.inr ⟨rfl,rfl,x,P,q,T.symm⟩) o a5 with⟨B,u,Z,X,aH,C,a9,aA⟩|⟨B,u,C⟩
  .simp only[B];exact .inr<|.inr<|.inr ⟨E.H+1,.inl ⟨rfl,rfl⟩,.inr<|by rw[a4]at u;exact u,Z,X,aH,C,a9,by rw[aA,N];show b.H+1=_;rw[A,a1]⟩
  simp only[B];exact .inl ⟨rfl,u,C⟩
 rw[Dd.next,U,G rfl,Dd.last,U,G rfl];exact .inl ⟨rfl,.inr rfl,by rw[hF,p.st]⟩
def Rl.Iu(a:Rl cf d D E r)(b:ag)(e:b.size<=cf.space:=by omega):Rl cf d {D with L:=b} {E with L:=b} r:=⟨a.rest,a.dq,a.en,a.number,rfl,a.bt,a.ef,a.out,a.bo,a.put,a.dt,a.st,a.es,a.ji,e,a.hs,a.nn⟩
def Rl.holds(a:Rl cf d D E r)(b:ag)(e:b.size<=cf.space):Rl cf d {D with bt:=b} {E with bt:=b} r:=⟨a.rest,a.dq,a.en,a.number,a.L,rfl,a.ef,a.out,a.bo,a.put,a.dt,a.st,a.es,a.ji,a.ps,e,a.nn⟩
def Rl.agt(a:Rl cf d D E r)(b:Bool):Rl cf d {D with put:=b} {E with put:=b} r:=⟨a.rest,a.dq,a.en,a.number,a.L,a.bt,a.ef,a.out,a.bo,rfl,a.dt,a.st,a.es,a.ji,a.ps,a.hs,a.nn⟩
def Rl.later(a:Rl cf d D E r)(b:ag):Rl cf d {D with ef:=D.ef++[b]} {E with cy:=E.cy++[b]} r:=⟨a.rest,a.dq,a.en,a.number,a.L,a.bt,by show D.ef++[b]=E.cy++[b];rw[a.ef],a.out,a.bo,a.put,a.dt,a.st,a.es,a.ji,a.ps,a.hs,a.nn⟩
def am0(f:gx cf){p:Dw}(m:p.cf=cf){B:ag->Nat}(e:To mf cf d F K 2 E r)(a:Rl cf d D E r)(y:E.bg=3)(z:cf.U[E.H]?=some x)(w:xg B c x):Af mf cf d F E.H D (D.cz mf p x c):=by
 have b:=Oi (mf:=mf) y z;have H:=w.kd;have k:=w.lt;have C:(x.R=3\/x.R=4)\/x.R=0\/x.R=1\/x.R=2\/x.R=5\/x.R=6\/x.R=7\/x.R=8\/x.R=9\/x.R=10\/x.R=11\/x.R=12\/x.R=13\/x.R=14\/x.R=15\/x.R=16\/x.R=17\/x.R=18\/x.R=19\/x.R=20:=by omega
 rcases C with g|g|g|g|g|g|g|g|g|g|g|g|g|g|g|g|g|g|g|g
 .have v:D.cz mf p x c=D.next p (decide (x.R=4)):=by rw[Dd.cz];rcases g with g|g<;>simp[g]
  rw[v];exact arf f m e a y z g
 all_goals simp only[g,Gp]at k
 all_goals simp[g,Ed.cz,Ed.ea]at b
 all_goals simp[Dd.cz,g]
 .have i:c.di=123:=k;rw[i,Dd.wq,m];have h:(qm 123 D).size<=cf.space/\(ql 123 D).size<=cf.space:=⟨a.ps,a.hs⟩;rw[G h,G h];exact wx rfl rfl (e.go f b rfl) (a.jp _ E.bg) rfl
 .have i:c.di=100:=k;rw[Dd.kj,i];exact .inr<|.inl ⟨rfl,(e.Wn f b rfl).over f a⟩
 .have i:c.di=68:=k;rw[Dd.kj,i];simp only[xk,<-a.L]at b;by_cases n:ci D.L 0<D.L.size
  .simp only[G n]at b;have j:=e.cmd f (by rw[b,Iw]) (by rw[b];simp);rw[b]at j;have t:=(a.Iu (D.L.extract (ci D.L 0+1) D.L.size)<|bq (pd _ _ _) a.ps).pw;simp[n];exact .inr<|.inr<|.inl ⟨rfl,rfl,rfl,K,_,r,j,t.jp 0 _,rfl⟩
  simp only[N n]at b;simp[n];exact .inr<|.inl ⟨rfl,(e.Wn f b rfl).over f a⟩
 .rw[a.L];exact wx rfl rfl (e.go f b rfl) ((a.print _).jp _ E.bg) rfl
 .rw[a.L];exact wx rfl rfl (e.go f b rfl) ((a.print _).jp _ E.bg) rfl
 .have i:c.di=103:=k;rw[i,Dd.wq,m];have h:(qm 103 D).size<=cf.space/\(ql 103 D).size<=cf.space:=⟨a.hs,a.hs⟩;rw[G h,G h];rw[Ed.kz,N (by rw[<-a.bt];have:=a.hs;omega)]at b;have j:=a.Iu E.bt (by rw[<-a.bt];exact a.hs);have o:({D with L:=qm 103 D,bt:=ql 103 D}:Dd)={D with L:=E.bt}:=by rw[<-a.bt];rfl
  rw[o];exact wx rfl rfl (e.go f b rfl) (j.jp _ E.bg) rfl
 .have i:c.di=71:=k;rw[i,Dd.wq,m];have q:qm 71 D=E.L++gp++E.bt/\ql 71 D=D.bt:=by rw[<-a.L,<-a.bt];exact⟨rfl,rfl⟩
  rw[Ed.grow,Ed.kz]at b;rw[q.1,q.2];by_cases h:cf.space<(E.L++gp++E.bt).size
  .rw[G h]at b;rw[N,N];exact Si rfl rfl a<|e.off b
  rw[N h]at b;have s:=a.hs;rw[G ⟨by omega,s⟩,G ⟨by omega,s⟩];exact wx rfl rfl (e.go f b rfl) ((a.Iu<|E.L++gp++E.bt).jp _ E.bg) rfl
 .have i:c.di=104:=k;rw[i,Dd.wq,m];have h:(qm 104 D).size<=cf.space/\(ql 104 D).size<=cf.space:=⟨a.ps,a.ps⟩;rw[G h,G h];rw[Ed.holds,N (by rw[<-a.L];have:=a.ps;omega)]at b;have j:=a.holds E.L (by rw[<-a.L];exact a.ps);have o:({D with L:=qm 104 D,bt:=ql 104 D}:Dd)={D with bt:=E.L}:=by rw[<-a.L];rfl
  rw[o];exact wx rfl rfl (e.go f b rfl) (j.jp _ E.bg) rfl
 .have i:c.di=72:=k;rw[i,Dd.wq,m];have q:qm 72 D=D.L/\ql 72 D=E.bt++gp++E.L:=by rw[<-a.L,<-a.bt];exact⟨rfl,rfl⟩
  rw[Ed.holds]at b;rw[q.1,q.2];by_cases h:cf.space<(E.bt++gp++E.L).size
  .rw[G h]at b;rw[N,N];exact Si rfl rfl a<|e.off b
  rw[N h]at b;have s:=a.ps;rw[G ⟨s,by omega⟩,G ⟨s,by omega⟩];exact wx rfl rfl (e.go f b rfl) ((a.holds (E.bt++gp++E.L)<|by omega).jp _ E.bg) rfl
 .have i:c.di=120:=k;rw[i,Dd.wq,m];have h:(qm 120 D).size<=cf.space/\(ql 120 D).size<=cf.space:=⟨a.hs,a.ps⟩;rw[G h,G h];have j:=(a.Iu E.bt<|by rw[<-a.bt];exact a.hs).holds E.L (by rw[<-a.L];exact a.ps);have o:({D with L:=qm 120 D,bt:=ql 120 D}:Dd)={D with L:=E.bt,bt:=E.L}:=by rw[<-a.L,<-a.bt];rfl
  rw[o];exact wx rfl rfl (e.go f b rfl) (j.jp _ E.bg) rfl
 .rw[a.number];exact wx rfl rfl (e.go f b rfl) ((a.print _).jp _ E.bg) rfl
 .have j:=(e.afo f b rfl).space;have t:=a.jk m;have hF:=j.stop (E':={(E.ja cf).fq with ck:=2}) (by simp) λn=>by rw[Jj,Iw,Iw,Lo,Lo];rfl
  exact .inl ⟨rfl,.inl<|by simp,by rw[hF,res,t.out]⟩
 .have j:=a.later x.text;exact wx rfl rfl (e.go f b rfl) (j.jp _ E.bg) rfl
 .exact wx rfl rfl (e.go f b rfl) ((a.print _).jp _ E.bg) rfl
 .have i:c.di=99:=k;rw[Dd.kj,i,w.text<|.inr<|.inr g];exact .inr<|.inl ⟨rfl,(e.Wn f b rfl).over f<|a.print _⟩
 .exact .inr<|.inr<|.inr ⟨x.cn,.inr rfl,.inl ⟨rfl,rfl⟩,K,_,r,e.go f b rfl,a.jp _ E.bg,rfl⟩
 .rw[<-a.put]at b;cases n:D.put
  .rw[n]at b;exact wx rfl rfl (e.go f b rfl) (a.jp _ E.bg) rfl
  rw[n]at b;exact .inr<|.inr<|.inr ⟨x.cn,.inr rfl,.inl ⟨rfl,rfl⟩,K,_,r,e.go f b rfl,(a.agt false).jp _ E.bg,rfl⟩
 .rw[Ed.subst,Ed.kz,<-a.L]at b;rw[Dd.subst,m];obtain⟨n,u,v⟩:∃n u,sf mf x D.L=(n,u):=⟨_,_,rfl⟩;simp only[v]at b|-;cases u
  .exact wx rfl rfl (e.go f b rfl) (a.jp _ E.bg) rfl
  by_cases h:cf.space<n.size
  .simp[h]at b|-;exact Si rfl rfl a<|e.off b
  simp[h]at b|-;have j:=(a.Iu n).agt true;cases A:x.kr<;>simp[A]at b|-
  .exact wx rfl rfl (e.go f b rfl) (j.jp _ E.bg) rfl
  exact wx rfl rfl (e.go f b rfl) ((j.print n).jp _ E.bg) rfl
 rw[a.L];exact wx rfl rfl (e.go f b rfl) ((a.Iu _<|by rw[trans,yx,yxr,jn,<-a.L];exact a.ps).jp _ E.bg) rfl
end
end
def Hq.up{n:List ag}(o:Hq w a b n g)(f:Below c w u)(h:a<c)(k:∀e d,w.cell? (O a 3)=some e\/w.cell? (O a 4)=some e->e.ownBlock=some d->d<c):Hq u a b n g:=by
 obtain ⟨⟨p,q,r⟩,⟨e,j,s⟩,⟨l,m,t⟩,v,x⟩:=o;exact ⟨⟨p,q,(f.cell (p:=O a 2) h).trans r⟩,⟨e,(f.cell (p:=O a 3) h).trans j,da s fun d i=>f.block d (k e d (.inl j) i)⟩,⟨l,(f.cell (p:=O a 4) h).trans m,da t fun d i=>f.block d (k l d (.inr m) i)⟩,v,x⟩
def amz{q:Mf}(W:fj q)(c:Dw)(b:Dd)(t v Q K R:af)(M:Nat)(P:List ag)(L:List Nat)(h:Dc)(d:Cm)(D:ae)(A:Dop c b t v Q K R M P L h d D):
  Calls prog 92 #[.pointer (some ⟨c.b,0,none⟩), .agg (ig h Q K R).toArray] D (Zq q c b t v h d D):=by
 have n:=hd A;have a3:=hd W;have aB:=A.r.kd;have o:=A.r.lt;have X:=A.L;have aC:=A.bt;have aD:=A.out;have aE:=A.r.tz;have Z:=A.num;have a4:=A.arl;clear A W;go_in;go_upto_region 1 with (refine ti 3 rfl rfl 177 (.tmp 1) rfl (ig h Q K R) rfl ?_;intro p e F a)
 have k:=J (n.out.de.q.below a);have w:=F.cell (k:=0) rfl;have aF:=F.cell (k:=9) rfl;have a5:=k.1.cell (k:=9) rfl;have aG:=k.1.cell (k:=8) rfl;have H:=hd a;clear a e;have a6:(d.R=1\/d.R=2\/d.R=16)\/d.R=13\/(d.R=3\/d.R=4)\/d.R=5\/d.R=6\/d.R=12\/d.R=14\/d.R=15\/d.R=17\/d.R=18\/d.R=19\/d.R=20\/(d.R=0\/d.R=7\/d.R=8\/d.R=9\/d.R=10\/d.R=11):=by omega
 rcases a6 with a|a|a|a|a|a|a|a|a|a|a|a|a
 .have g:Y (b.cz q c d h=b.kj h):=G a;have i:=anp c b t v Q K R h p k.1 (by omega) (by omega) (by rw [o];rcases a with f|f|f<;>rw [f]<;>decide);generalize b.kj h=T at i g;rcases a with a|a|a<;>rw [o,a] at w
  all_goals
   go_wp2_with (refine ir 21 rfl rfl 177 (.tmp 3) rfl _ rfl _ _ F underlying177 rfl (Dx _ _ _ _) ?_);refine i.mono ?_;rintro f s ⟨rfl,e⟩;have j:=hd (k.trans e);clear i e;go_wp21;go_ret;exact ⟨by rw [g.out];rfl,t,by rw [g.out];exact j.out⟩
 .have g:Y (b.cz q c d h=({b.jk c with ck:=2},-4)):=by rw [Y,Dd.cz];simp [a]
  have i:=Ua c b t v p k.1 (by omega);rw [o,a] at w;go_wp21;refine i.mono ?_;rintro f s ⟨rfl,e⟩;have j:=hd (k.trans e);have l:=e.1.cell (k:=16) rfl;have x:=e.1.cd 16 (by omega);clear i e;go_wp21;go_ret;exact ⟨by rw [g.out];rfl,_,by rw [g.out];exact j.ck 2⟩
 .have g:Y (b.cz q c d h=b.next c (decide (d.R=4))):=by rw [Y,Dd.cz];rcases a with a|a<;>simp [a]
  have i:=ard c b t v (decide (d.R=4)) h.di p (by rw [o];rcases a with f|f<;>rw [f]<;>decide) k.1 (by omega) (by omega) n.out.ji n.out.rest Z;generalize b.next c (decide (d.R=4))=T at i g
  rw [o] at i;rcases a with a|a<;>rw [o,a] at w<;>rw [a] at i
  all_goals
   go_wp21;refine i.mono ?_;rintro f s ⟨rfl,l,e⟩;have j:=hd (k.trans e);clear i e;go_wp21;go_ret;exact ⟨by rw [g.out];rfl,l,by rw [g.out];exact j.out⟩
 .have g:Y (b.cz q c d h=(b.print b.L,-1)):=by rw [Y,Dd.cz];simp [a]
  have i:=Eo c b t v b.L p k.1 (by omega);rw [o,a] at w;go_wp21;refine i.mono ?_;rintro f s ⟨rfl,e⟩;have j:=hd (k.trans e);clear i e;go_wp21;go_ret;exact ⟨by rw [g.out];rfl,_,by rw [g.out];exact j.out⟩
 .obtain ⟨l,y,B⟩:∃l,ci b.L 0=l/\Y (Dz b.L=if l<b.L.size then (l:Int) else-1):=⟨_,rfl,rfl⟩;have g:Y (b.cz q c d h=(b.print (b.L.extract 0 l),-1)):=by rw [Y,Dd.cz,←y];simp [a,qh]
  have i:=Tj b.L p (by omega);have a7:(b.L.extract 0 l).size<=80:=bq (pd b.L _ _) X;have U:=hd fun (x:ae) (e:DE c x b t v)=>Eo c b t v (b.L.extract 0 l) x e (by omega)
  have r:l<=b.L.size:=by rw [←y];exact (Ki b.L 0 (ey _)).2.2.2
  clear y;rw [o,a] at w;go_wp21;refine i.mono ?_;rintro f s ⟨rfl,e⟩;have j:=hd (k.below e);have a5:=j.1.cell (k:=9) rfl;clear i e;have m:=U.out s j.1;rw [B.out];by_cases o:l<b.L.size
  .rw [G o];have z:decide ((l:Int)<0)=false:=by simp
   have u:(l:Int)<=(b.L.size:Int):=by omega
   clear B;go_wp21;refine m.mono ?_;rintro f a0 ⟨rfl,e⟩;have y:=hd (j.trans e);clear m e;go_wp21;go_ret;exact ⟨by rw [g.out];rfl,_,by rw [g.out];exact y.out⟩
  rw [N o];obtain rfl:l=b.L.size:=by omega
  have z:b.L.extract 0 b.L.size=b.L:=by simp
  rw [z] at m g;clear B o r z;go_wp21;refine m.mono ?_;rintro f a0 ⟨rfl,e⟩;have y:=hd (j.trans e);clear m e;go_wp21;go_ret;exact ⟨by rw [g.out];rfl,_,by rw [g.out];exact y.out⟩
 .have g:Y (b.cz q c d h=(b.print (itoa b.number),-1)):=by rw [Y,Dd.cz];simp [a]
  have i:=amk b.number p Z a4;have a7:=yf b.number (by omega);have U:=hd fun (x:ae) (e:DE c x b t v)=>Eo c b t v (itoa b.number) x e (by omega)
  rw [o,a] at w;go_wp21;refine i.mono ?_;rintro f s ⟨rfl,e⟩;have j:=hd (k.below e);have i:=U.out s j.1;go_wp21;refine i.mono ?_;rintro f a0 ⟨rfl,e⟩;have y:=hd (j.trans e);clear i e;go_wp21;go_ret;exact ⟨by rw [g.out];rfl,_,by rw [g.out];exact y.out⟩
 .have g:Y (b.cz q c d h=({b with ef:=b.ef++ [d.text]},-1)):=by rw [Y,Dd.cz];simp [a]
  have B:=hd (n.out.r.text (.inl a));obtain ⟨S,V,a1,a2,a8⟩:=info_parts Ux;have z:=k.1.cell (k:=11) rfl;have a9:=k.1.cd 11 (by omega);have aH:b.ef.length<=1099510000000:=by
   have:b.ef.length<=fz b.ef:=by
    unfold fz;generalize b.ef=l
    induction l with
    |nil=>simp
    |cons m l r=>simp only [vw,List.sum_cons,xv];omega
   omega
  have r:=k.1.lt;have aI:∀l,(p.alloc l).cell? (O c.b 11)=some t:=fun l=>(ac 11 (im p l c.b r)).trans z
  have aJ:=bq k.1.le (Nat.le_of_lt r);rw [o,a] at w;go_wp21;go_region_law
   ((refine step_append_lies _ (by rfl) _ _ _ (by rfl) c.B 9 S _ 1 16 underlying62 V a1 a2 a8 rfl (by omega) t b.ef.length (sv b.ef) (by rfl) ((k.1.cg.alloc _).drew)
      (O p.heap.size 0) 1 1 [.string h.text] (by rfl) (by rfl) (World.news_of_block (cs:= #[.string h.text]) (t:=9) (fr:=(0,0)) (heap_alloc_new p _)) (by simp [Value.oneCell'])
      (by omega) (by unfold maxLen;omega) (by omega) (by simp;omega) (p.heap.size+1) (by simp) ?_;intro aK aL s u C E aA;have m:=k.later u C E;have aM:=(ac 11 m.1).trans z;have aN:=(ad 11 m.1).trans a9;have j:=hd m.2;clear m u C E aA))
  all_goals go_wp21
  all_goals go_ret
  all_goals exact ⟨by rw [g.out];rfl,_,by rw [g.out,←B.out];exact j.out⟩
 .have g:Y (b.cz q c d h=(b.print d.text,-1)):=by rw [Y,Dd.cz];simp [a]
  have B:=hd (n.out.r.text (.inr (.inl a)));have i:=Eo c b t v h.text p k.1 (by omega);rw [o,a] at w;go_wp21;refine i.mono ?_;rintro f s ⟨rfl,e⟩;have j:=hd (k.trans e);clear i e;go_wp21;go_ret;exact ⟨by rw [g.out];rfl,_,by rw [g.out,←B.out];exact j.out⟩
 .have g:Y (b.cz q c d h=(b,(d.cn:Int))):=by rw [Y,Dd.cz];simp [a]
  have V:=k.1.cell (k:=0) rfl;have l:=hd fun (x:ae) (z:Below D.heap.size D x)=>ac8 c.rb M P L h.text x (n.out.rd.up (z.mono (bq n.out.de.le (Nat.le_of_lt n.out.de.lt))) n.out.rl n.out.rk) n.out.n
  rw [show goalF M h.text P L=d.cn from n.out.r.wj (.inl a)] at l;rw [o,a] at w;go_wp21;go_region_with (go_at_call 141;go_call l.out p.drew ⟨H.os,H.tape,H.output,H.size,H.block⟩ as f s ⟨rfl,e⟩;have j:=hd ((k.drewN 1).below e);clear e)
  all_goals
   go_wp21;go_ret;exact ⟨by rw [g.out];rfl,_,by rw [g.out];exact j.out⟩
 .have g:Y (b.cz q c d h=if b.put=true then ({b with put:=false},(d.cn:Int)) else (b,-1)):=by rw [Y,Dd.cz];simp [a]
  have r:=k.1.cell (k:=14) rfl;rw [o,a] at w;cases m:b.put<;>rw [m] at r
  .rw [m,N (by decide)] at g;go_wp21;go_ret;exact ⟨by rw [g.out];rfl,_,by rw [g.out];exact k⟩
  rw [m,G rfl] at g;have C:=k.1.cd 14 (by omega);have j:=hd (k.Pz false);have V:=j.1.cell (k:=0) rfl;have E:D.heap.size≠c.b:=by have:=n.out.de.lt;omega
  have l:=hd fun (x:ae) (z:Below c.B D x)=>ac8 c.rb M P L h.text x (n.out.rd.up z n.out.rl n.out.rk) n.out.n
  rw [show goalF M h.text P L=d.cn from n.out.r.wj (.inr a)] at l;have u:=hd ((j.drewN 1).low n.out.de);go_wp21;go_region_with (go_at_call 141;go_call l.out (p.setCell (O c.b 14) (.bool false)).drew u as f s ⟨rfl,e⟩;have y:=hd ((j.drewN 1).below e);clear e)
  all_goals
   go_wp21;go_ret;exact ⟨by rw [g.out];rfl,_,by rw [g.out];exact y.out⟩
 .have g:Y (b.cz q c d h=((b.subst q c d).1,if (b.subst q c d).2=true then-1 else-4)):=by rw [Y,Dd.cz];simp [a]
  have m:h.di=115:=by rw [o,a];rfl
  have i:=avv a3.out c b t v Q K R h d p k.1 X (by omega) n.out.sp (n.out.r.su a) (n.out.cm.L m).1 ((n.out.cm.L m).2.up (k.low n.out.de));generalize b.subst q c d=T at i g;obtain ⟨u,r⟩:=T;rw [m] at w;go_wp2_with (refine ir 123 rfl rfl 177 (.tmp 3) rfl _ rfl _ _ F underlying177 rfl (Dx _ _ _ _) ?_);refine i.mono ?_;rintro f s ⟨rfl,e⟩;have j:=hd (k.trans e);clear i e;cases r
  all_goals
   go_wp21;go_ret;exact ⟨by rw [g.out];rfl,_,by rw [g.out];exact j.out⟩
 .have g:Y (b.cz q c d h=({b with L:=trans d.la d.oo b.L},-1)):=by rw [Y,Dd.cz];simp [a]
  obtain ⟨m,r,u,C,E⟩:=n.out.r.rows a;have i:=alx b.L h.one h.two p.drew (by omega) u C E;have a1:=F.cell (k:=14) rfl;have a2:=F.cell (k:=15) rfl;have S:=hd (And.intro m r);clear m r u C E;rw [o,a] at w;go_wp21;go_region_with (go_at_call 143;refine i.mono ?_;rintro f s ⟨rfl,e⟩;have j:=hd ((k.drewN 1).below e);have m:=j.1.cell (k:=9) rfl;have r:=j.1.cd 9 (by omega);clear e)
  all_goals
   go_wp21;go_ret;exact ⟨by rw [g.out];rfl,_,by rw [g.out,←S.1,←S.2];exact j.L _⟩
 have g:Y (b.cz q c d h=(b.wq c h.di,if (qm h.di b).size<=c.cf.space/\(ql h.di b).size<=c.cf.space then-1 else-4)):=by rw [Y,Dd.cz];rcases a with f|f|f|f|f|f<;>simp [f]
 have i:=auw c b t v h.di p k.1 (by omega) (by omega) (by rw [o];rcases a with f|f|f|f|f|f<;>rw [f]<;>decide);obtain ⟨m,r⟩:∃m,Y (m=decide ((qm h.di b).size<=c.cf.space/\(ql h.di b).size<=c.cf.space)):=⟨_,rfl⟩;rw [←r.out] at i;have u:Y (b.cz q c d h=(b.wq c h.di,if m=true then-1 else-4)):=by rw [Y,g.out,r.out];simp
 generalize b.wq c h.di=C at i u;clear r g;rcases a with a|a|a|a|a|a<;>rw [o,a] at w i
 all_goals
  go_wp21;refine i.mono ?_;rintro f s ⟨rfl,e⟩;have j:=hd (k.trans e);clear i e;cases m
  all_goals
   go_wp21;go_ret;exact ⟨by rw [u.out];rfl,_,by rw [u.out];exact j.out⟩
section
section
variable {mf:Mf} {cf:Cf} {d:Bool} {D D1:Dd} {F:List UInt8×Nat} {K l:Nat} {E E1:Ed} {r:List UInt8} {x:Cm} {c:Dc}
def Vu{b:Wh}(a:(E.jl mf b).2=false):b.sort=2/\E.known=false:=by
 unfold Ed.jl at a;by_cases e:b.sort=1
 .rw[G e]at a;cases a
 by_cases f:b.sort=2
 .rw[N e,G f]at a;exact⟨f,a⟩
 by_cases g:b.sort=3
 .rw[N e,N f,G g]at a;cases a
 rw[N e,N f,N g]at a;cases a
def abc{b:Wh}(a:(E.qa mf b f).2=false):b.sort=2/\E.known=false:=by
 unfold Ed.qa at a;by_cases e:b.sort=1
 .rw[G e]at a;cases a
 by_cases g:b.sort=3
 .rw[N e,G g]at a;cases a
 rw[N e,N g]at a;exact Vu a
def ah4(j:Rl cf d D E r)(o:c.fst=x.fst)(p:c.snd=x.snd)(a:(E.gz mf x).2.2=false):(E.gz mf x).1=E/\E.known=false/\(D.yg=true->(D.gz mf c E.H).1.ji=true/\(D.gz mf c E.H).1.out=D.out/\(D.gz mf c E.H).1.ck=D.ck):=by
 unfold Ed.gz at a|-;unfold Dd.gz;rw[o,p];have k:∀{n:Wh},n.sort=2->D.yg=true->D.lu n={D with ji:=true}:=λi b=>by rw[Dd.lu,G i,Dd.last,b];rfl
 by_cases h:x.snd.sort=0
 .rw[G h]at a|-;rw[G h];have⟨e,f⟩:=Vu a;exact⟨rfl,f,λb=>by rw[k e b];exact⟨rfl,rfl,rfl⟩⟩
 rw[N h]at a|-;rw[N h,j.bo];simp only at a|-;cases m:E.bo.getD E.H false
 .rw[m]at a;by_cases g:(E.jl mf x.fst).1=false\/(E.jl mf x.fst).2=false
  .rw[G ⟨rfl,g⟩]at a|-;have⟨e,f⟩:=Vu a;exact⟨rfl,f,λb=>by rw[N<|by decide,k e b,G<|.inl rfl];exact⟨rfl,rfl,rfl⟩⟩
  rw[N<|λi=>g i.2]at a|-;simp only at a;simp only[not_or,Bool.not_eq_false]at g;have⟨e,f⟩:=abc a;have⟨q,s⟩:=j.jl g.2;refine⟨by rw[N<|by rw[a];decide],f,λb=> ?_⟩;rw[N<|by decide,q,s,N<|by rw[j.ji,g.1];simp,G e,Dd.last,b];exact⟨rfl,rfl,rfl⟩
 rw[m]at a;rw[N<|by simp]at a|-;simp only at a;have⟨e,f⟩:=abc a;exact⟨by rw[N<|by rw[a];decide],f,λb=>by rw[G rfl,k e b];exact⟨rfl,rfl,rfl⟩⟩
def auf(v:gx cf){y:ag->Nat}(u:To mf cf d F K 2 E r)(j:Rl cf d D E r)(k:E.bg=2)(w:cf.U[E.H]?=some x)(g:xg y c x)(z:x.snd.sort<=3):
  ((D.gz mf c E.H).1.ji=true/\Qt F (D.gz mf c E.H).1)\/
  ∃f m,D.gz mf c E.H=({D with bo:=f},m !=x.neg)/\(m=x.neg->∃K a r,To mf cf d F K 1 a r/\Rl cf d {D with bo:=f} a r/\a.H=if x.R=0 then x.cn else E.H+1)/\(m≠x.neg->∃K a r,To mf cf d F K 2 a r/\Rl cf d {D with bo:=f} a r/\a.H=E.H/\a.bg=3):=by
 have M:(∃i a e,To mf cf d F i 2 a e/\Rl cf d D a e/\a.bg=2/\a.H=E.H/\(a.gz mf x).2.2=true)\/((D.gz mf c E.H).1.ji=true/\Qt F (D.gz mf c E.H).1):=by
  cases n:(E.gz mf x).2.2
  .have⟨t,A,B⟩:=ah4 j g.fst g.snd n;rcases u.known v j (by rw[k];rfl) A (λQ=>by
    have L:E.dv mf cf=(E,0):=by rw[Kb (mf:=mf) w,Ed.choose,G k];simp only[n,t];rfl
    rw[ug,L];rfl)with⟨i,a,e,o,b,p,h⟩|⟨P,hF⟩
   .refine .inl ⟨i,a,e,o,b,?_,?_,?_⟩
    .obtain⟨_,_,_,rfl⟩:=h;exact k
    .obtain⟨_,_,_,rfl⟩:=h;rfl
    cases q:(a.gz mf x).2.2
    .have:=(ah4 b g.fst g.snd q).2.1;rw[p]at this;cases this
    rfl
   have⟨s,C,H⟩:=B P;exact .inr ⟨s,.inr s,by rw[hF,C,H,j.st]⟩
  exact .inl ⟨K,E,r,u,j,k,rfl,n⟩
 rcases M with⟨i,a,e,o,b,p,h,n⟩|q
 .right;have⟨f,A,B,s⟩:=b.gz g.fst g.snd g.neg z n;rw[h]at s;have L:a.gz mf x=({a with bo:=f},(a.gz mf x).2.1,true):=by rw[<-A,<-n]
  have⟨C,H⟩:=o.pick v p b.es (by rw[h];exact w) L B;have t:Rl cf d {D with bo:=f} {a with bo:=f} e:=⟨b.rest,b.dq,b.en,b.number,b.L,b.bt,b.ef,b.out,rfl,b.put,b.dt,b.st,b.es,b.ji,b.ps,b.hs,b.nn⟩;exact⟨f,_,s,λq=>⟨i,_,e,C q,t.jp _ a.bg,by rw[h]⟩,λq=>⟨i,_,e,H q,t.jp a.H 3,h,rfl⟩⟩
 exact .inl q
end
structure Env(w:ae)(p:Dw)(lb:Nat)(cs:List Dc)(ns:List ag)(gs:List Nat):Prop where
 rc:RdC w p.B p.rb lb cs
 rs:Hq w p.rb cs.length ns gs
 rk:∀v k,w.cell? (O p.rb 3)=some v\/w.cell? (O p.rb 4)=some v->v.ownBlock=some k->k<p.B
 len:cs.length=p.cf.U.length
 rel:∀(k:Nat)(c:Dc)(x:Cm),cs[k]?=some c->p.cf.U[k]?=some x->xg (λt=>goalF cs.length t ns gs) c x
 ok:gx p.cf
def Fu.up{g h:ae}{b:Nat}{f:af}{x:Wh}(a:Fu g b f x)(i:Below b g h):Fu h b f x:=⟨a.1,a.2.1,λe=>⟨(a.2.2 e).1,(a.2.2 e).2.up i⟩⟩
def xf.up{j k:ae}{b:Nat}{c:Dc}{f h i:af}(a:xf j b c f h i)(e:Below b j k):xf k b c f h i:=⟨a.one,a.fst.up e,a.snd.up e,λg=>⟨(a.L g).1,(a.L g).2.up e⟩⟩
def Env.up{k m:ae}{g:Dw}{q:Nat}{n:List Dc}{p:List ag}{o:List Nat}(Q:Env k g q n p o)(h:Below g.B k m):Env m g q n p o:=by
 have f:∀e a,e<g.B->m.cell? (O e a)=k.cell? (O e a):=λe a i=>h.cell (p:=O e a) i
 have⟨⟨⟨V,R,v,T⟩,w,b,s,y⟩,z,t,U,rel,A⟩:=Q;refine⟨⟨⟨V,R,(f _ _ b).trans v,T⟩,λa c i=> ?_,b,s,y⟩,z.up h b t,λj a u=>t j a<|by rw[f _ _ b,f _ _ b]at u;exact u,U,rel,A⟩;have⟨B,C,H,L,M⟩:=w a c i;exact⟨B,C,H,λS j P=>(f _ _ s).trans<|L S j P,M.up h⟩
def Rl.small{mf:Mf}{cf:Cf}{d:Bool}{D:Dd}{F:List UInt8×Nat}{K l:Nat}{E:Ed}{r:List UInt8}(a:Rl cf d D E r)(b:To mf cf d F K l E r)(g:gx cf):D.L.size<=80/\D.bt.size<=80/\D.out.size+fz D.ef<=1099510000000/\D.number<=2000000/\D.rest.size<=4000001/\D.bo.length=cf.U.length/\D.dt<=cf.dt/\E.H<=cf.U.length:=by
 have iv:=b.wz.iv;have h:=iv.num;have i:=iv.wn;have j:=iv.next
 have k:=b.kk;have e:=iv.L;have f:=iv.bt;refine⟨by rw[a.L];exact e,by rw[a.bt];exact f,?_,by rw[a.number];omega,?_,by rw[a.bo];exact iv.bo,by rw[a.dt];exact iv.cx,iv.H⟩
 .rw[<-jn,a.out,a.ef];have:402100*(E.number+1)<=402100*2000001:=yzy ah (by omega);omega
 rw[<-jn,a.rest];simp only[ga];split<;>simp<;>omega
def Gh(D:Dd):D.pw.number=D.number/\D.pw.dt=D.dt/\D.pw.rest=D.rest:=by
 have⟨b,a,_⟩:=Em D.ef D;rw[Dd.pw,a];exact⟨rfl,rfl,rfl⟩
def Qqd(D D':Dd):Prop:=D.number<=D'.number/\D'.rest.size<=D.rest.size
def Df{D a:Dd}(b:a.number=D.number)(e:a.rest=D.rest):Qqd D a:=⟨yh b.symm,by rw[e];exact ah⟩
def Gf(a:Dw)(D:Dd):(D.jk a).number=D.number/\(D.jk a).rest=D.rest:=by
 rw[Dd.jk,(Gh _).1,(Gh _).2.2];split<;>exact⟨rfl,rfl⟩
def aqo(a:Dw)(D:Dd)(b:ag):Qqd D (D.oe a b):=by
 unfold Dd.oe
 repeat' split
 all_goals first|exact⟨ah,ah⟩|exact⟨yyk _,pd _ _ _⟩
def are(a:Dw)(b:Bool)(D:Dd):Qqd D (D.next a b).1:=by
 unfold Dd.next
 split
 .unfold Dd.last;split<;>exact Df rfl rfl
 split
 .exact Df (Gf a D).1 (Gf a D).2
 have e:=aqo a (if b=true then D else D.jk a)<|if b=true then D.L++gp else⟨#[]⟩;cases b
 .exact⟨bq (yh (Gf a D).1.symm) e.1,by have f:=e.2;rw[show(if false=true then D else D.jk a).rest=D.rest from(Gf a D).2]at f;exact f⟩
 exact e
def anq(c:Dc)(D:Dd):Qqd D (D.kj c).1:=by
 have:(if c.di=99 then D.print c.text else D).number=D.number/\(if c.di=99 then D.print c.text else D).rest=D.rest:=by split<;>exact⟨rfl,rfl⟩
 unfold Dd.kj;simp only;generalize(if c.di=99 then D.print c.text else D)=D1 at this;split<;>exact Df this.1 this.2
def avw(mf:Mf)(a:Dw)(x:Cm)(D:Dd):Qqd D (D.subst mf a x).1:=by
 unfold Dd.subst;split
 .split
  .exact Df rfl rfl
  simp only;split<;>exact Df rfl rfl
 exact Df rfl rfl
def aux(a:Dw)(c:Nat)(D:Dd):Qqd D (D.wq a c):=by
 unfold Dd.wq;split<;>exact Df rfl rfl
def amm(mf:Mf)(a:Dw)(x:Cm)(c:Dc)(D:Dd):Qqd D (D.cz mf a x c).1:=by
 have g:∀(b:Prop) [Decidable b] (e f:Dd×Int),Qqd D e.1->Qqd D f.1->Qqd D (if b then e else f).1:=λb _ e f h i=>by split<;>assumption
 unfold Dd.cz
 repeat' first|exact are a _ D|exact Df (Gf a D).1 (Gf a D).2|exact anq c D|exact avw mf a x D|exact aux a _ D|apply g|exact Df rfl rfl
end
def Kw(d:Mk a w u c)(e:bf b u v)(j:w.heap.size<=b)(k:a<w.heap.size):Mk a w v c:=
 have h:v.heap[a]?=u.heap[a]? :=e.block a<|by omega
 ⟨e.os.trans d.os,e.tape.trans d.tape,e.output.trans d.output,by rw[e.size];exact d.size,λf g i=>(e.block f<|by omega).trans<|d.block f g i,(bz h).trans d.c1,λf g=>(bz h).trans<|d.cell f g,λf=>(hz h).trans<|d.cd f⟩
def Ds(s:ag)(i:Nat)(x:Wh)(j:Nat):Prop:=
 (pk s i=36/\x=⟨2,0,fo⟩/\j=i+1)\/
 (pk s i=47/\bw s (i+1)<s.size/\ya (s.extract (i+1)<|bw s<|i+1)/\x=⟨3,0,s.extract (i+1)<|bw s<|i+1⟩/\j=bw s (i+1)+1)\/
 (pk s i≠36/\pk s i≠47/\j=skip s ju i/\((j=i/\x=gi)\/(i<j/\j<=i+4/\x=⟨1,xo (s.extract i j) (j-i) 0 0,fo⟩)))
def WhN(lo:Nat)(w:ae)(tv:af)(x:Wh):Prop:=tv.oneCell'=true/\(x.sort=3->ya x.L/\PtN lo w tv x.L)
def Qi(g j:ag):∀(f b:Nat),b<=g.size->∀d,b<=d->d<skipF g j f b->bn j (au g d)=true
 |0,b,_,d,c,a=>by rw[skipF]at a;omega
 |f+1,b,h,d,c,a=>by
  rw[skipF]at a;split at a
  .rename_i i;rcases hb b d with e|e
   .exact Qi g j f (b+1) (vo i) d e a
   obtain rfl:d=b:=by omega
   simp only[br,Aw]at i;exact i.2
  omega
def abx(h:bn ju a=true):48<=a/\a<=57:=by
 simp only[bn,ju,yxe,List.any_nil,uz,ra,yzs]at h;rcases h with h|h|h|h|h|h|h|h|h|h<;>rw[<-h]<;>decide
def au1:(prog.info? 175).map (λa=>(a.zero,a.size))=some (some<|.agg [I 0, I 0,.pointer none].toArray,[I 0, I 0,.pointer none].length):=by kernel_rfl
def au2(a b c:af):(prog.info? 175).map (·.size)=some [a,b,c].length:=by kernel_rfl
def bd.three(b:bd w a [x,y,z]):w.cell? (O a 0)=some x/\w.cell? (O a 1)=some y/\w.cell? (O a 2)=some z/\w.frozen? (O a 0)=false/\w.frozen? (O a 1)=false/\w.frozen? (O a 2)=false:=
 ⟨b.cell (k:=0) rfl,b.cell (k:=1) rfl,b.cell (k:=2) rfl,b.frozen (k:=0)<|by show 0<3;omega,b.frozen (k:=1)<|by show 1<3;omega,b.frozen (k:=2)<|by show 2<3;omega⟩
def aih(z:Wh)(b:Nat)(a:ae)(q:Rc a i S j)(r:Ds S j z b):
  Calls prog 178 #[.pointer<|some ⟨i,0,none⟩] a λc a3=>∃T,c=.returned (.agg #[.int .i64 z.sort,.int .i64 z.num,T])/\Mk i a a3 b/\WhN a.heap.size a3 T z:=by
 have l:=hd q;have x:i<a.heap.size:=dw a _ q.c0;have a8:=q.li;have f:=q.le;obtain⟨C,y⟩:∃B,Y (decide (pk S j=((36:Nat):Int))=B):=⟨_,rfl⟩;obtain⟨V,U⟩:∃B,Y (decide (pk S j=((47:Nat):Int))=B):=⟨_,rfl⟩;have h:=hd λ(e:ae) (n:Rc e i S j)=>Pg i S j 36 e n
 have k:=hd λ(e:ae) (n:Rc e i S j)=>Pg i S j 47 e n
 rw[y.out]at h;rw[U.out]at k;have L:=hd r;clear q r;go_in;go_wp2_with (refine gm 2 rfl rfl 175 rfl _ au1 ?_;intro s m g o;have p:=hd g;have d:=hd<|(Mk.ee l).below o;clear g o);go_call h.out s (d.rc l.out f)as c aG ⟨rfl,K,rfl⟩;go_wp21;go_call k.out (s.drewN K) ((d.drewN K).rc l.out f)as c t ⟨rfl,Z,rfl⟩;have g:=(d.drewN K).drewN Z;have A:bd ((s.drewN K).drewN Z) a.heap.size [I 0, I 0,.pointer none]:=p.cw rfl;have D:Y (((s.drewN K).drewN Z).heap.size=a.heap.size+1):=m;clear m h k;generalize(s.drewN K).drewN Z=t at g A D|-;clear p d;have⟨aB,aC,aD,_,_⟩:=g.rc l.out f;have E:a.heap.size≠i:=by omega
 have a9:Y ((Value.pointer none).oneCell'=true):=rfl;rcases L.out with⟨u,rfl,rfl⟩|⟨h,a4,F,rfl,rfl⟩|⟨u,h,Q,r⟩
 .have d:C=true:=by rw[<-y.out,u];rfl
  subst d;have p:Y (Mk i a (t.setCell (O i 1)<|I<|(j:Int)+1)<|j+1):=g.set (j+1) (by omega);have v:Y (bd (t.setCell (O i 1)<|I<|(j:Int)+1) a.heap.size [I 0, I 0,.pointer none]):=A.cw<|er _ _ _ _ E;clear u;obtain⟨a0,a1,a2,u0,u1,u2⟩:=bd.three v;go_wp21;refine yyd (v:=.agg #[I 2, I 0,.pointer none]) (by simp[results,results178,go_sem, *]) rfl ⟨_,rfl,?_,rfl,λc=>by cases c⟩
  (repeat first|refine Mk.fi ?_ ah x _|exact p)
 .have d:C=false:=by rw[<-y.out,h];rfl
  have m:V=true:=by rw[<-U.out,h];rfl
  subst d m;have a6:=(ho<|by rw[h];decide).1;have o:=ajc i S j t (g.rc l.out f) a6 a4 F;have X:=hd F;clear h F L;go_wp21;go_call o;rintro c w3 ⟨T,rfl,k,⟨H,rfl⟩,R⟩;have p:=hd<|g.trans k;have v:=hd (A.cw<|k.block a.heap.size (by have:=D.out;omega) E);have a5:=hd R;have w:=hd λM i P=>(((bf.refl a.heap.size w3).setCell 0 M).setCell 1 i).setCell 2 P
  clear o k R;have⟨a0,a1,a2,u0,u1,u2⟩:=bd.three v;go_wp21;refine yyd (v:=.agg #[I 3, I 0, ab H 0]) (by simp[results,results178,go_sem, *]) rfl ⟨_,rfl,?_,rfl,λ_=>⟨X,⟨H,rfl⟩,λe W=> ?_⟩⟩
  .exact Kw p (w.out _ _ _) ah x
  have R:=w.out (I 3) (I 0)<|ab H 0;have aA:=D.out;rw[R.size]at W|-;exact a5.out e λo aE a7=>(W o (by omega) a7).trans<|R.block o<|by omega
 have d:C=false:=by rw[<-y.out];exact wu u
 have m:V=false:=by rw[<-U.out];exact wu h
 subst d m;have R:=Ra i S ju j t (g.rc l.out f) (by decide);rw[<-Q]at R;have W:=hd Q;clear u h Q;have H:=hd r;clear r L;go_wp21;refine R.mono ?_;rintro c w3 ⟨rfl,k⟩;have a6:j<=b/\b<=S.size:=by rw[W.out];exact Qzd S ju _ j f
 have p:=hd<|g.trans<|Mk.mv k;have v:=hd<|A.cw<|k.only.block a.heap.size E;have w:=hd λM i P=>(((bf.refl a.heap.size w3).setCell 0 M).setCell 1 i).setCell 2 P
 clear R k;obtain⟨a0,a1,a2,u0,u1,u2⟩:=bd.three v;rcases H.out with⟨d,rfl⟩|⟨a7,aA,rfl⟩
 .have m:S.extract j b=(⟨#[]⟩:ag):=by
   apply ahr;apply yyp;rw[jn,lw];omega
  rw[m];clear d m H;go_wp21;refine yyd (v:=.agg #[I 0, I 0,.pointer none]) (by simp[results,results178,go_sem, *]) rfl ⟨_,rfl,Kw p (w _ _ _) ah x,rfl,λc=>by cases c⟩
 have X:(S.extract j b).size=b-j:=by rw[lw];omega
 have k:=aro (S.extract j b) w3 (by omega) λo aF=>by
  rw[ty S j b o];have:=Qi S ju (S.size-j) j f (j+o) (by omega) (by show j+o<skip S ju j;rw[<-W.out];omega);exact abx this
 have aE:(S.extract j b).toList.isEmpty=false:=by
  cases n:(S.extract j b).toList.isEmpty
  .rfl
  rw[Qc]at n;have:=congrArg List.length n;rw[jn,X]at this;simp at this;omega
 rw[X]at k;clear H;go_wp21;go_call k;rintro c w4 ⟨rfl,R⟩;have a5:=R.symm;subst a5;clear R k;go_wp21;refine yyd (v:=.agg #[I 1, I (xo (S.extract j b) (b-j) 0 0:Int),.pointer none]) (by simp[results,results178,go_sem, *]) rfl ⟨_,rfl,Kw p (w _ _ _) ah x,rfl,λc=>by cases c⟩
section
structure ie where
 H:Nat
 cs:List Dc
 ns:List ag
 gs:List Nat
def Xo(rb:Nat)(lv nv gv:af)(k:Nat):Prop:=k=rb\/lv.ownBlock=some k\/nv.ownBlock=some k\/gv.ownBlock=some k
def Hs(w:ae)(X:Nat->Prop)(P:ae->Prop):Prop:=∀W:ae,w.heap.size<=W.heap.size->(∀k,k<w.heap.size->¬X k->W.heap[k]?=w.heap[k]?)->P W
def Hs.up{w w':ae}{b d:Nat->Prop}{c:ae->Prop}(n:Hs w b c)(f:w.heap.size<=w'.heap.size)(k:∀a,a<w.heap.size->¬b a->w'.heap[a]?=w.heap[a]?)(l:∀a,d a->b a\/w.heap.size<=a):Hs w' d c:=
 λi m o=>n i (bq f m) λa g h=>(o a (ew g f) (λe=>by rcases l a e with e|e;exact h e;omega)).trans<|k a g h
structure RF(rb:Nat)(lv nv gv lv' nv' gv':af)(w w':ae):Prop where
 os:w'.os=w.os
 tape:w'.tape=w.tape
 output:w'.output=w.output
 size:w.heap.size<=w'.heap.size
 block:∀k,k<w.heap.size->¬Xo rb lv nv gv k->w'.heap[k]?=w.heap[k]?
 rp:∀k,Xo rb lv' nv' gv' k->Xo rb lv nv gv k\/w.heap.size<=k
def RF.trans{rb:Nat}{g b c i k h l m n:af}{q r w:ae}(a:RF rb g b c i k h q r)(d:RF rb i k h l m n r w):RF rb g b c l m n q w:=
 ⟨d.os.trans a.os,d.tape.trans a.tape,d.output.trans a.output,bq a.size d.size,λj f o=>(d.block j (ew f a.size) (λe=>by rcases a.rp j e with e|e;exact o e;omega)).trans<|a.block j f o,λj f=>by
  rcases d.rp j f with e|e
  .exact a.rp j e
  exact .inr<|bq a.size e⟩
def RF.mv{rb j:Nat}{lv nv gv:af}{w w':ae}(a:Mk rb w w' j):RF rb lv nv gv lv nv gv w w':=⟨a.os,a.tape,a.output,a.size,λe b c=>a.block e b λd=>c<|.inl d,λ_ a=> .inl a⟩
def RF.below{rb:Nat}{lv nv gv:af}{w w':ae}(a:Below w.heap.size w w'):RF rb lv nv gv lv nv gv w w':=⟨a.os,a.tape,a.output,a.size,λc b _=>a.block c b,λ_ a=> .inl a⟩
structure RE(w:ae)(rb:Nat)(s:ag)(p:ie)(lv nv gv:af):Prop where
 row:bd w rb [.string s,I p.H,lv,nv,gv]
 ls:∃xs,w.ownsRow (rb+1) 177 16 lv p.cs.length xs/\∀(k:Nat)(c:Dc),p.cs[k]?=some c->∃ta tb tt,(∀i v,(ig c ta tb tt)[i]?=some v->xs[k*16+i]?=some v)/\Hs w (Xo rb lv nv gv) λW=>xf W w.heap.size c ta tb tt
 ns:w.ownsRow (rb+1) 9 1 nv p.ns.length (sv p.ns)
 gs:w.ownsRow (rb+1) 3 1 gv p.gs.length (iv p.gs)
 le:p.H<=s.size
 s4:s.size<=400
 a1:∀k,lv.ownBlock=some k->nv.ownBlock≠some k/\gv.ownBlock≠some k
 a2:∀k,nv.ownBlock=some k->gv.ownBlock≠some k
def wa.size{w:ae}(d:wa w a x t)(c:a<=b):wa w b x t:=d.mono c
def xf.mono{w:ae}{d e:Nat}{f:Dc}{g h i:af}(a:xf w d f g h i)(c:d<=e:=by omega):xf w e f g h i:=
 ⟨a.one,⟨a.fst.1,a.fst.2.1,λb=>⟨(a.fst.2.2 b).1,(a.fst.2.2 b).2.mono c⟩⟩,⟨a.snd.1,a.snd.2.1,λb=>⟨(a.snd.2.2 b).1,(a.snd.2.2 b).2.mono c⟩⟩,λb=>⟨(a.L b).1,(a.L b).2.mono c⟩⟩
section
variable {w w':ae} {rb j:Nat} {s:ag} {p:ie} {lv nv gv:af}
def RE.lt(a:RE w rb s p lv nv gv):rb<w.heap.size:=a.row.lt (by show 0<5;omega)
def RE.rc(a:RE w rb s p lv nv gv):Rc w rb s p.H:=⟨a.row.xc 0,a.row.xc 1,a.row.frozen (k:=1)<|by show 1<5;omega,a.le,a.s4⟩
def RE.qg(b:RE w rb s p lv nv gv):lv.ownBlock≠some rb/\nv.ownBlock≠some rb/\gv.ownBlock≠some rb:=by
 have⟨xs,c,_⟩:=b.ls;exact⟨λa=>by have:=(c.lt rb a).1;omega,λa=>by have:=(b.ns.lt rb a).1;omega,λa=>by have:=(b.gs.lt rb a).1;omega⟩
def RE.mv(b:RE w rb s p lv nv gv)(c:Mk rb w w' j)(B:j<=s.size:=by omega):RE w' rb s {p with H:=j} lv nv gv:=by
 have⟨xs,A,C⟩:=b.ls;have⟨D,E,F⟩:=b.qg;have g:∀{d:af} {i h:Nat} {e:TypeId} {m:List af},w.ownsRow (rb+1) e h d i m->w'.ownsRow (rb+1) e h d i m:=fun {d i h e m} l=>da l λk a=>c.block k (l.lt k a).2 (by have:=(l.lt k a).1;omega)
 refine⟨?_,⟨xs,g A,λk z a=>?_⟩,g b.ns,g b.gs,B,b.s4,b.a1,b.a2⟩
 .have o:=b.row.xc 0;have q:=b.row.xc 2;have r:=b.row.xc 3;have n:=b.row.xc 4;have f:∀k d,[Value.string s,I j,lv,nv,gv][k]?=some d->w'.cell? (O rb k)=some d:=λk d a=>match k,a with
   |0,a=>by cases a;exact(c.cell 0<|by omega).trans o
   |1,a=>by cases a;exact c.c1
   |2,a=>by cases a;exact(c.cell 2<|by omega).trans q
   |3,a=>by cases a;exact(c.cell 3<|by omega).trans r
   |4,a=>by cases a;exact(c.cell 4<|by omega).trans n
   |k+5,a=>by simp at a
  refine⟨λk d a=>by rw[qo];exact f k d a,λk a=>⟨?_,(c.cd _).trans (b.row.free k a).2⟩⟩;rw[qo,f k _<|dy a];rfl
 have⟨n,o,q,r,t⟩:=C k z a;exact⟨n,o,q,r,λv x y=>(t.up c.size (λk a u=>c.block k a λf=>u<|.inl f) (λ_ f=> .inl f) v x y).mono c.size⟩
structure Gw(w w':ae)(v:af):Prop where
 os:w'.os=w.os
 tape:w'.tape=w.tape
 output:w'.output=w.output
 size:w.heap.size<=w'.heap.size
 block:∀k,k<w.heap.size->v.ownBlock≠some k->w'.heap[k]?=w.heap[k]?
def Gw.of{c:Obj}(a:(w.alloc c).grownBy w' x.ownBlock):Gw w w' x:=
 ⟨a.os,a.tape,a.output,bq (by simp) a.size,λb d e=>(a.block b (by simp;omega)<|λf=>e f.symm).trans<|im w c b d⟩
def Gw.drew{c:Obj}(a:(w.alloc c).drew.grownBy w' x.ownBlock):Gw w w' x:=
 ⟨a.os,a.tape,a.output,bq (by simp) a.size,λb d e=>(a.block b (by simp;omega)<|λf=>e f.symm).trans<|im w c b d⟩
def RE.Mo{h d f n:af}{c:ie}{gg:Nat}(m:RE w rb s p lv nv gv)(g:Gw w u n)(E:n=lv\/n=nv\/n=gv)(aB:x.ownBlock=some gg)(a6:n.ownBlock=some gg\/w.heap.size<=gg)(a7:rb<gg)
  (V:a<5) (a5:([.string s,I p.H,lv,nv,gv]:List af).set a x=[.string s,I c.H,h,d,f])
  (F:∀b,Xo rb h d f b->Xo rb lv nv gv b\/w.heap.size<=b) (W:c.H=p.H)
  (R:∃xs,u.ownsRow (rb+1) 177 16 h c.cs.length xs/\∀(b:Nat)(l:Dc),c.cs[b]?=some l->∃r o q,(∀M k,(ig l r o q)[M]?=some k->xs[b*16+M]?=some k)/\Hs w (Xo rb lv nv gv) λC=>xf C w.heap.size l r o q)
  (S:u.ownsRow (rb+1) 9 1 d c.ns.length (sv c.ns)) (T:u.ownsRow (rb+1) 3 1 f c.gs.length (iv c.gs))
  (X:∀b,h.ownBlock=some b->d.ownBlock≠some b/\f.ownBlock≠some b) (Z:∀b,d.ownBlock=some b->f.ownBlock≠some b):
  u.heap[rb]?=w.heap[rb]? /\RE (u.setCell (O rb a) x) rb s c h d f/\RF rb lv nv gv h d f w (u.setCell (O rb a) x):=by
 have⟨a8,a9,aA⟩:=m.qg;have H:=g.block rb m.lt (by rcases E with rfl|rfl|rfl<;>assumption);have i:bf rb u (u.setCell (O rb a) x):=(bf.refl _ _).setCell _ _;have t:∀{k:af} {D v:Nat} {B:TypeId} {y:List af},u.ownsRow (rb+1) B v k D y->(u.setCell (O rb a) x).ownsRow (rb+1) B v k D y:=fun {k D v B y} P=>mc i P λe=>by have:=(P.lt rb e).1;omega
 have K:∀b,b<w.heap.size->¬Xo rb lv nv gv b->(u.setCell (O rb a) x).heap[b]?=w.heap[b]? :=λb z L=>(i.block b λe=>L<|.inl e).trans<|g.block b z λe=>L<|.inr<|by rcases E with rfl|rfl|rfl;exact .inl e;exact .inr<|.inl e;exact .inr<|.inr e
 have A:w.heap.size<=(u.setCell (O rb a) x).heap.size:=by rw[i.size];exact g.size
 have Q:=(m.row.cw H).put a V x;rw[a5]at Q;have⟨xs,U,a0⟩:=R;refine⟨H,⟨Q,⟨xs,t U,λb l z=>?_⟩,t S,t T,by rw[W];exact m.le,m.s4,X,Z⟩,i.os.trans g.os,i.tape.trans g.tape,i.output.trans g.output,A,K,F⟩;have⟨r,o,q,a1,a4⟩:=a0 b l z;exact⟨r,o,q,a1,λC a2 a3=>(a4.up A K F C a2 a3).mono A⟩
def RE.name(f:RE w rb s p lv nv gv)(i:Gw w u nv)(k:u.ownsRow (rb+1) 9 1 (aa a (p.ns.length+1) b) (p.ns.length+1) (sv p.ns++[.string t]))(g:nv.ownBlock=some a\/a=w.heap.size+1):
  u.heap[rb]?=w.heap[rb]? /\RE (u.setCell (O rb 3)<|aa a (p.ns.length+1) b) rb s {p with ns:=p.ns++[t]} lv (aa a (p.ns.length+1) b) gv/\RF rb lv nv gv lv (aa a (p.ns.length+1) b) gv w (u.setCell (O rb 3)<|aa a (p.ns.length+1) b):=by
 have⟨xs,h,n⟩:=f.ls;have m:∀c,c<w.heap.size->nv.ownBlock≠some c->a≠c:=λc d o e=>by rcases g with l|l;exact o<|e▸l;omega
 refine f.Mo i (.inr<|.inl rfl) (gg:=a) rfl (g.imp id λe=>by omega) ((k.lt a rfl).1) (by omega) rfl (λc d=>?_) rfl ⟨xs,da h λc d=>i.block c (h.lt c d).2 (f.a1 c d).1,n⟩ (by rw[Dl,ga];exact k) (da f.gs λc d=>i.block c (f.gs.lt c d).2 λe=>f.a2 c e d) (λc d=>⟨λe=>m c (h.lt c d).2 (f.a1 c d).1<|yyo e,(f.a1 c d).2⟩)<|λc d e=>?_
 .rcases d with e|e|e|e
  .exact .inl<|.inl e
  .exact .inl<|.inr<|.inl e
  .cases e
   rcases g with e|e
   .exact .inl<|.inr<|.inr<|.inl e
   exact .inr (by show _<=a;omega)
  exact .inl<|.inr<|.inr<|.inr e
 exact m c (f.gs.lt c e).2 (λl=>f.a2 c l e)<|yyo d
def RE.cn(g:RE w rb s p lv nv gv)(k:Gw w u gv)(m:u.ownsRow (rb+1) 3 1 (aa a (p.gs.length+1) b) (p.gs.length+1) (iv p.gs++[I c]))(h:gv.ownBlock=some a\/a=w.heap.size+1):
  u.heap[rb]?=w.heap[rb]? /\RE (u.setCell (O rb 4)<|aa a (p.gs.length+1) b) rb s {p with gs:=p.gs++[c]} lv nv (aa a (p.gs.length+1) b)/\RF rb lv nv gv lv nv (aa a (p.gs.length+1) b) w (u.setCell (O rb 4)<|aa a (p.gs.length+1) b):=by
 have⟨xs,i,o⟩:=g.ls;have n:∀d,d<w.heap.size->gv.ownBlock≠some d->a≠d:=λd f q e=>by rcases h with l|l;exact q<|e▸l;omega
 refine g.Mo k (.inr<|.inr rfl) (gg:=a) rfl (h.imp id λe=>by omega) ((m.lt a rfl).1) (by omega) rfl (λd f=>?_) rfl ⟨xs,da i λd f=>k.block d (i.lt d f).2 (g.a1 d f).2,o⟩ (da g.ns λd f=>k.block d (g.ns.lt d f).2<|g.a2 d f) (by rw[show iv (p.gs++[c])=iv p.gs++[I c] by simp[iv],ga];exact m) (λd f=>⟨(g.a1 d f).1,λe=>n d (i.lt d f).2 (g.a1 d f).2<|yyo e⟩)<|λd f e=>n d (g.ns.lt d f).2 (g.a2 d f)<|yyo e;rcases f with e|e|e|e
 .exact .inl<|.inl e
 .exact .inl<|.inr<|.inl e
 .exact .inl<|.inr<|.inr<|.inl e
 cases e
 rcases h with e|e
 .exact .inl<|.inr<|.inr<|.inr e
 exact .inr (by show _<=a;omega)
def RE.cmd{o:ae}{d l:Nat}{f:Dc}{g h i:af}{xs:List af}(c:RE w rb s p lv nv gv)(v:Gw w o lv)(B:∀(a:Nat)(f:Dc),p.cs[a]?=some f->∃g h i,(∀k n,(ig f g h i)[k]?=some n->xs[a*16+k]?=some n)/\Hs w (Xo rb lv nv gv) λu=>xf u w.heap.size f g h i)(C:xs.length=p.cs.length*16)
  (D:Hs w (Xo rb lv nv gv) λu=>xf u w.heap.size f g h i) (z:o.ownsRow (rb+1) 177 16 (aa d (p.cs.length+1) l) (p.cs.length+1) (xs++ig f g h i)) (y:lv.ownBlock=some d\/d=w.heap.size+1):
  o.heap[rb]?=w.heap[rb]? /\RE (o.setCell (O rb 2)<|aa d (p.cs.length+1) l) rb s {p with cs:=p.cs++[f]} (aa d (p.cs.length+1) l) nv gv/\RF rb lv nv gv (aa d (p.cs.length+1) l) nv gv w (o.setCell (O rb 2)<|aa d (p.cs.length+1) l):=by
 have A:∀a,a<w.heap.size->lv.ownBlock≠some a->d≠a:=λa b F e=>by rcases y with x|x;exact F<|e▸x;omega
 refine c.Mo v (.inl rfl) (gg:=d) rfl (y.imp id λe=>by omega) ((z.lt d rfl).1) (by omega) rfl (λa b=>?_) rfl ⟨xs++ig f g h i,by rw[ga];exact z,λa r b=>?_⟩ (da c.ns λa b=>v.block a (c.ns.lt a b).2 λe=>(c.a1 a e).1 b) (da c.gs λa b=>v.block a (c.gs.lt a b).2 λe=>(c.a1 a e).2 b) (λa b=>⟨λe=>A a (c.ns.lt a e).2 (λx=>(c.a1 a x).1 e)<|yyo b,λe=>A a (c.gs.lt a e).2 (λx=>(c.a1 a x).2 e)<|yyo b⟩) c.a2
 .rcases b with e|e|e|e
  .exact .inl<|.inl e
  .cases e
   rcases y with e|e
   .exact .inl<|.inr<|.inl e
   exact .inr (by show _<=d;omega)
  .exact .inl<|.inr<|.inr<|.inl e
  exact .inl<|.inr<|.inr<|.inr e
 rcases hb a p.cs.length with e|e
 .have m:p.cs[a]?=some r:=by simpa[oq e]using b
  have⟨L,M,E,H,K⟩:=B a r m;refine⟨L,M,E,λk n t=>?_,K⟩;have:=H k n t;rw[oq<|by rcases hb (a*16+k) xs.length with q|q;exact q;rw[je q]at this;cases this];exact this
 have E:a=p.cs.length/\r=f:=by
  have m:(p.cs++[f])[a]?=some r:=b;rw[sn e]at m;rcases yzu (a-p.cs.length)with q|q
  .rw[q]at m;exact⟨by omega,by cases m;rfl⟩
  rw[je<|by show 1<=_;omega]at m;cases m
 obtain⟨rfl,rfl⟩:=E;refine⟨g,h,i,λk n t=>?_,D⟩;rw[sn<|by omega,C,yyi];exact t
end
end
