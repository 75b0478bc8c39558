import Derived.Test.YtppjlpihaocdiaaGreatDoorAwQ
set_option linter.all false
set_option maxRecDepth 100000
set_option maxHeartbeats 16000000
namespace Go.Proofs.YtppjlpihaocdiaaGreatDoor
open Go.RowKit Go.Proofs.Tryz
variable{w u v:ae}{a b c d e:Nat}{s t:ag}{x y z:af}{p D:Int}{l:List af}{f:Bool}{g:List Nat}{h:Nat->Prop}{o:Option Addr}{r:List UInt8}{A:Nat->Bool}{B:Nat->Nat->Bool}{C:Nat->Nat->Prop}(i:Nat)(S T:ag)(V X:af)(j k m n:Nat)(Z:Int)(W:ae)
structure Kp(cf:Cf)(E E1:Ed):Prop where
 next:E1.next=E.next
 whole:E1.whole=E.whole
 dq:E1.dq=E.dq
 number:E1.number=E.number
 bo:E1.bo=E.bo
 H:E1.H=E.H
 bg:E1.bg=E.bg
 cx:E1.cx=E.cx
 ca:E1.ca=E.ca
 ck:E1.ck=E.ck
 L:E1.L.size<=80
 bt:E1.bt.size<=80
 ny:∀t∈E1.cy,t.size<=1000
 out:E1.out.length+fz E1.cy<=E.out.length+fz E.cy+401
 pre:∃l,E1.out=E.out++l
theorem Hy{d:Cf}{b c:Ed}(a:b.kz d s=some c):c={b with L:=s}/\s.size<=d.space:=by
 unfold Ed.kz at a;grind
theorem adk{d:Cf}{b c:Ed}(a:b.holds d s=some c):c={b with bt:=s}/\s.size<=d.space:=by
 unfold Ed.holds at a;grind
def aea{c:Cf}{a:Ed}(b:ka c a):Kp c a a:=⟨rfl,rfl,rfl,rfl,rfl,rfl,rfl,rfl,rfl,rfl,b.L,b.bt,b.ny,Q,[],qD⟩
def Kt{d:Cf}{a:Ed}(b:ka d a)(c:ag)(e:c.size<=400):Kp d a (a.print c):=
 ⟨rfl,rfl,rfl,rfl,rfl,rfl,rfl,rfl,rfl,rfl,b.L,b.bt,b.ny,by simp only[Ed.print,ga,jn,qx];omega,Qjj c++[10],by simp[Ed.print,nt]⟩
def Ve{c:Cf}{a:Ed}(b:ka c a)(d:ag)(e:d.size<=80:=by omega):Kp c a {a with L:=d}:=⟨rfl,rfl,rfl,rfl,rfl,rfl,rfl,rfl,rfl,rfl,e,b.bt,b.ny,qC,[],qD⟩
def ad9{c:Cf}{a:Ed}(b:ka c a)(d:ag)(e:d.size<=80:=by omega):Kp c a {a with bt:=d}:=⟨rfl,rfl,rfl,rfl,rfl,rfl,rfl,rfl,rfl,rfl,b.L,e,b.ny,qC,[],qD⟩
def awo(b c a:ag):(trans b c a).size=a.size:=by rw[trans,yx,yxr,jn]
theorem ab1{k:Mf}{h:Cf}{f l:Ed}{e:Cm}(d:ka h f)(j:ox a e)(c:f.ea k h e=some l):Kp h f l:=by
 have w:=d.space;unfold Ed.ea at c;by_cases m:e.R=5
 .rw[G m]at c;cases c;exact Kt d _ (by have:=d.L;omega)
 rw[N m]at c;by_cases n:e.R=6
 .rw[G n]at c;cases c;exact Kt d _ (by have:=d.L;have:=pd f.L 0<|ci f.L 0;unfold qh;omega)
 rw[N n]at c;by_cases o:e.R=12
 .rw[G o]at c;cases c;exact Kt d _ (by have:=yf f.number (bq d.number Q);omega)
 rw[N o]at c;by_cases p:e.R=14
 .rw[G p]at c;cases c
  refine⟨rfl,rfl,rfl,rfl,rfl,rfl,rfl,rfl,rfl,rfl,d.L,d.bt,λg b=> ?_,?_,[],qD⟩
  .obtain b|b:=og.1 b
   .exact d.ny g b
   have:g=e.text:=qK b
   subst this;have:=j.tx;omega
  have:=j.tx;simp only[Qw];have i:fz [e.text]=e.text.size+1:=by simp[fz]
  omega
 rw[N p]at c;by_cases i:e.R=15
 .rw[G i]at c;cases c;exact Kt d _ j.tx
 rw[N i]at c;by_cases q:e.R=7
 .rw[G q]at c;obtain⟨rfl,b⟩:=Hy c;exact Ve d _
 rw[N q]at c;by_cases r:e.R=8
 .rw[G r]at c;obtain⟨rfl,b⟩:=Hy c;exact Ve d _
 rw[N r]at c;by_cases s:e.R=9
 .rw[G s]at c;obtain⟨rfl,b⟩:=adk c;exact ad9 d _
 rw[N s]at c;by_cases t:e.R=10
 .rw[G t]at c;obtain⟨rfl,b⟩:=adk c;exact ad9 d _
 rw[N t]at c;by_cases u:e.R=11
 .rw[G u]at c;cases c
  exact⟨rfl,rfl,rfl,rfl,rfl,rfl,rfl,rfl,rfl,rfl,d.bt,d.L,d.ny,qC,[],qD⟩
 rw[N u]at c;by_cases v:e.R=19
 .rw[G v]at c;unfold Ed.subst at c;simp only at c;split at c
  .cases g:f.kz h (sf k e f.L).1 with
   |none=>grind
   |some x=>
    rw[g]at c;obtain⟨rfl,b⟩:=Hy g;simp only at c;split at c
    .cases c
     refine⟨rfl,rfl,rfl,rfl,rfl,rfl,rfl,rfl,rfl,rfl,by simp only[Ed.print];omega,d.bt,d.ny,?_,Qjj (sf k e f.L).1++[10],by simp[Ed.print,nt]⟩;simp only[Ed.print,ga,jn,qx];omega
    cases c
    exact⟨rfl,rfl,rfl,rfl,rfl,rfl,rfl,rfl,rfl,rfl,qC,d.bt,d.ny,qC,[],qD⟩
  cases c;exact aea d
 rw[N v]at c;by_cases g:e.R=20
 .rw[G g]at c;cases c;exact Ve d _ (by rw[awo];exact d.L)
 rw[N g]at c;cases c
 exact aea d
def amq(k:Mf)(q:fj k)(g:Nat)(b:Cf)(a:Ed)(m:Ev)(i l:Nat)(d:Cm)(s:fw)(e:ae)(c:At e g b a m)(f:ni e i l d s)(n:¬ib g m i)(h:ka b a)(o:ox b.U.length d)(j:d.R=1):
  Calls prog 122 #[.pointer<|some ⟨g,0,none⟩,.pointer<|some ⟨i,l,none⟩] e (Step e g b m<|a.cz k b d):=by
 have p:e.cell? (O i l)=some (I d.R):=f.cell 0 _ rfl
 rw[j]at p;have r:Y (a.cz k b d=(a,3)):=by rw[Y,Ed.cz,G j]
 go_in;go_wp21;go_ret;rw[r.out];exact⟨rfl,Ok.refl c⟩
def amv(m:Mf)(u:fj m)(g:Nat)(b:Cf)(a:Ed)(j:Ev)(i n:Nat)(e:Cm)(v:fw)(d:ae)(c:At d g b a j)(h:ni d i n e v)(p:¬ib g j i)(f:ka b a)(q:ox b.U.length e)(k:e.R=2):
  Calls prog 122 #[.pointer<|some ⟨g,0,none⟩,.pointer<|some ⟨i,n,none⟩] d (Step d g b j<|a.cz m b e):=by
 have s:d.cell? (O i n)=some (I e.R):=h.cell 0 _ rfl
 rw[k]at s;have o:Y (a.cz m b e=a.Ag):=by rw[Y,Ed.cz,N,G k];rfl
 have l:=aml g b a j d c f;generalize a.Ag=A at l o;go_in;go_wp21;go_call l;rintro B C ⟨rfl,r⟩;have t:=J r;go_wp21;go_ret;rw[o.out];exact⟨rfl,t⟩
def ams(l:Mf)(u:fj l)(f:Nat)(c:Cf)(b:Ed)(j:Ev)(i m:Nat)(a:Cm)(w:fw)(e:ae)(d:At e f c b j)(g:ni e i m a w)(p:¬ib f j i)(h:ka c b)(q:ox c.U.length a)(k:a.R=16):
  Calls prog 122 #[.pointer<|some ⟨f,0,none⟩,.pointer<|some ⟨i,m,none⟩] e (Step e f c j<|b.cz l c a):=by
 have r:e.cell? (O i m)=some (I a.R):=g.cell 0 _ rfl;have H:=g.cell 13 _ rfl;have s:=h.qw;have z:=q.tx
 rw[k]at r;have t:Y (b.cz l c a=(b.print a.text,3)):=by rw[Y,Ed.cz,N,N,G k]
 go_in;go_wp21;go_region_with (first
  |(go_at_call 123;(have n:=En f c b j e.drew a.text d.drew s;go_call n;rintro B C ⟨rfl,D,o⟩;have v:=J<|Ok.yc o.ok;clear n o)))
 all_goals
  go_wp21;go_ret;rw[t.out];exact⟨rfl,v⟩
def amw(m:Mf)(u:fj m)(g:Nat)(a:Cf)(b:Ed)(j:Ev)(i n:Nat)(e:Cm)(v:fw)(d:ae)(c:At d g a b j)(h:ni d i n e v)(p:¬ib g j i)(f:ka a b)(q:ox a.U.length e)(k:e.R=3):
  Calls prog 122 #[.pointer<|some ⟨g,0,none⟩,.pointer<|some ⟨i,n,none⟩] d (Step d g a j<|b.cz m a e):=by
 have s:d.cell? (O i n)=some (I e.R):=h.cell 0 _ rfl
 rw[k]at s;have o:Y (b.cz m a e=b.ix a false):=by rw[Y,Ed.cz,N,N,N,G];rw[k];rfl
 have l:=amn g a b j d c f;generalize b.ix a false=A at l o;go_in;go_wp21;go_call l;rintro B C ⟨rfl,r⟩;have t:=J r;go_wp21;go_ret;rw[o.out];exact⟨rfl,t⟩
def amx(m:Mf)(u:fj m)(g:Nat)(a:Cf)(b:Ed)(j:Ev)(i n:Nat)(e:Cm)(v:fw)(d:ae)(c:At d g a b j)(h:ni d i n e v)(p:¬ib g j i)(f:ka a b)(q:ox a.U.length e)(k:e.R=4):
  Calls prog 122 #[.pointer<|some ⟨g,0,none⟩,.pointer<|some ⟨i,n,none⟩] d (Step d g a j<|b.cz m a e):=by
 have s:d.cell? (O i n)=some (I e.R):=h.cell 0 _ rfl
 rw[k]at s;have o:Y (b.cz m a e=b.ix a true):=by rw[Y,Ed.cz,N,N,N,G];rw[k];rfl
 have l:=amo g a b j d c f;generalize b.ix a true=A at l o;go_in;go_wp21;go_call l;rintro B C ⟨rfl,r⟩;have t:=J r;go_wp21;go_ret;rw[o.out];exact⟨rfl,t⟩
def amr(k:Mf)(r:fj k)(g:Nat)(c:Cf)(b:Ed)(m:Ev)(i l:Nat)(d:Cm)(s:fw)(e:ae)(a:At e g c b m)(f:ni e i l d s)(n:¬ib g m i)(h:ka c b)(o:ox c.U.length d)(j:d.R=13):
  Calls prog 122 #[.pointer<|some ⟨g,0,none⟩,.pointer<|some ⟨i,l,none⟩] e (Step e g c m<|b.cz k c d):=by
 have p:e.cell? (O i l)=some (I d.R):=f.cell 0 _ rfl;have A:=a.xc 20;have B:=a.cd 20
 rw[j]at p;have q:Y (b.cz k c d=({b with ck:=2},4)):=by rw[Y,Ed.cz,N,N,N,N,G j]
 go_in;go_wp21;go_ret;rw[q.out];exact⟨rfl,a.put xxs<|jx a.row 20 _ Q rfl⟩
def amt(m:Mf)(u:fj m)(f:Nat)(c:Cf)(b:Ed)(j:Ev)(i n:Nat)(a:Cm)(v:fw)(e:ae)(d:At e f c b j)(g:ni e i n a v)(p:¬ib f j i)(h:ka c b)(q:ox c.U.length a)(k:a.R=17):
  Calls prog 122 #[.pointer<|some ⟨f,0,none⟩,.pointer<|some ⟨i,n,none⟩] e (Step e f c j<|b.cz m c a):=by
 have s:e.cell? (O i n)=some (I a.R):=g.cell 0 _ rfl;have E:=g.cell 12 _ rfl
 rw[k]at s;have o:Y (b.cz m c a=b.fv a.cn):=by rw[Y,Ed.cz,N,N,N,N,N,G k]
 have l:=Br f c b j e a.cn d;generalize b.fv a.cn=A at l o;go_in;go_wp21;go_call l;rintro B C ⟨rfl,r⟩;have t:=J r;go_wp21;go_ret;rw[o.out];exact⟨rfl,t⟩
def amu(q:Mf)(w:fj q)(e:Nat)(c:Cf)(b:Ed)(k:Ev)(j u:Nat)(d:Cm)(E:fw)(g:ae)(f:At g e c b k)(n:ni g j u d E)(p:¬ib e k j)(o:ka c b)(v:ox c.U.length d)(s:d.R=18):
  Calls prog 122 #[.pointer<|some ⟨e,0,none⟩,.pointer<|some ⟨j,u,none⟩] g (Step g e c k<|b.cz q c d):=by
 have F:g.cell? (O j u)=some (I d.R):=n.cell 0 _ rfl;have M:=n.cell 12 _ rfl;have P:=f.xc 14;have x:=f.xc 18;have R:=f.cd 18;have W:b.H<=1000000:=by have:=o.H;have:=o.U;omega
 rw[s]at F;have r:Y (b.cz q c d=if b.put=true then {b with put:=false}.fv d.cn else b.fv (b.H+1)):=by rw[Y,Ed.cz,N,N,N,N,N,N,G s]
 obtain a|a:=df b.put
 .have l:Y (b.cz q c d={b with put:=false}.fv d.cn):=by rw[Y,r.out,G a]
  rw[a]at x;have H:Y (Ok g e c k {b with put:=false} (g.setCell (O e 18)<|.bool false)):=f.put xxs<|jx f.row 18 _ Q rfl
  have Z:¬e=j:=λm=>p<|.inl m.symm
  let⟨K,h,A⟩:=H;have i:=Br e c {b with put:=false} K _ d.cn h;generalize({b with put:=false}:Ed).fv d.cn=y at i l;go_in;go_wp21;go_call i;rintro m z ⟨rfl,h⟩;have t:Y (Ok g e c k y.1 z):=by
   let⟨B,C,D⟩:=h;exact⟨B,C,A.trans D⟩
  go_wp21;go_ret;rw[l.out];exact⟨rfl,t⟩
 have l:Y (b.cz q c d=b.fv (b.H+1)):=by rw[Y,r.out,N<|by rw[a];simp]
 rw[a]at x;have i:=Br e c b k g (b.H+1) f;generalize b.fv (b.H+1)=y at i l;go_in;go_wp21;go_call i;rintro m z ⟨rfl,h⟩;have t:=J h;go_wp21;go_ret;rw[l.out];exact⟨rfl,t⟩
def amy(f:Mf)(s:fj f)(e:Nat)(d:Cf)(b:Ed)(l:Ev)(n p:Nat)(a:Cm)(t:fw)(g:ae)(j:At g e d b l)(m:ni g n p a t)(q:¬ib e l n)(h:ka d b)(o:ox d.U.length a):
  Calls prog 122 #[.pointer<|some ⟨e,0,none⟩,.pointer<|some ⟨n,p,none⟩] g (Step g e d l<|b.cz f d a):=by
 by_cases i:a.R=1
 .exact amq f s e d b l n p a t g j m q h o i
 by_cases r:a.R=2
 .exact amv f s e d b l n p a t g j m q h o r
 by_cases v:a.R=16
 .exact ams f s e d b l n p a t g j m q h o v
 by_cases z:a.R=3
 .exact amw f s e d b l n p a t g j m q h o z
 by_cases A:a.R=4
 .exact amx f s e d b l n p a t g j m q h o A
 by_cases w:a.R=13
 .exact amr f s e d b l n p a t g j m q h o w
 by_cases x:a.R=17
 .exact amt f s e d b l n p a t g j m q h o x
 by_cases y:a.R=18
 .exact amu f s e d b l n p a t g j m q h o y
 have S:g.cell? (O n p)=some (I a.R):=m.cell 0 _ rfl;have L:=j.xc 14;have a0:=h.qw;have M:b.H<=1000000:=by have:=h.H;have:=h.U;omega
 have P:b.cy.length<=1099511627776:=by have:=ajh b.cy;have:=h.out;omega
 have k:=anj f s e d b l n p a t g j m q h P o;have qa:Y (∀c,b.ea f d a=some c->Kp d b c):=λc u=>ab1 h o u
 have B:Y (b.cz f d a=match b.ea f d a with|none=>b.stop 4|some c=>c.fv<|c.H+1):=by rw[Y,Ed.cz,N i,N r,N v,N,N w,N x,N y];rfl
 have a2:((a.R:Int)==1)=false:=qB
 have a3:((a.R:Int)==2)=false:=qB
 have a4:((a.R:Int)==16)=false:=qB
 have a5:((a.R:Int)==3)=false:=qB
 have a6:((a.R:Int)==4)=false:=qB
 have a7:((a.R:Int)==13)=false:=qB
 have a8:((a.R:Int)==17)=false:=qB
 have a9:((a.R:Int)==18)=false:=qB
 rcases u:b.ea f d a with _|c
 .have v:Y (b.cz f d a=b.stop 4):=by rw[Y,B.out,u]
  rw[u]at k;go_in;go_wp21;go_call k;rintro w x i;obtain⟨rfl,y⟩:=i.Gu;let⟨z,r,A⟩:=y;have k:=aix e d b z x 4 r;generalize b.stop 4=K at k v;go_wp21;go_call k;rintro w C ⟨rfl,i⟩;have D:Y (Ok g e d l K.1 C):=by
   let⟨E,F,H⟩:=i;exact⟨E,F,A.trans H⟩
  go_wp21;go_ret;rw[v.out];exact⟨rfl,D⟩
 have v:Y (b.cz f d a=c.fv (c.H+1)):=by rw[Y,B.out,u]
 have aA:c.H<=1000000:=by rw[(qa.out c u).H];exact M
 rw[u]at k;go_in;go_wp21;go_call k;rintro w x i;obtain⟨rfl,y⟩:=i.sj;let⟨z,r,A⟩:=y;have L:=r.xc 14;have k:=Br e d c z x (c.H+1) r;generalize c.fv (c.H+1)=K at k v;go_wp21;go_call k;rintro w C ⟨rfl,i⟩;have D:Y (Ok g e d l K.1 C):=by
  let⟨E,F,H⟩:=i;exact⟨E,F,A.trans H⟩
 go_wp21;go_ret;rw[v.out];exact⟨rfl,D⟩
theorem At.Tc{g:Cf}{k:Ed}{i:Ev}(o:At w a g k i){j:Cm}(l:g.U[b]?=some j)(m:ox g.U.length j)(n:i.cm= aa c d e):∃h,¬ib a i c/\ni w c (b*23) j h:=by
 let⟨s,r,h,f,p,q⟩:=o.cmd l m;grind
theorem Xv(c:Mf)(a:Ed)(d:Cm):∃b,(a.gz c d).1={a with bo:=b}/\b.length=a.bo.length:=by
 unfold Ed.gz;split
 .grind
 simp only;split
 .grind
 simp only;split
 all_goals grind
def ka.sel{c:Cf}{b:Ed}(a:ka c b)(e:List Bool)(f:e.length=b.bo.length)(h d:Nat)(g:d<=c.dt):ka c {b with bo:=e,bg:=h,cx:=d}:=
 ⟨a.L,a.bt,a.space,a.line,a.dt,a.out,a.ny,a.number,a.next,a.U,f.trans a.bo,g,a.H⟩
def Ie{mf:Mf}{cf:Cf}{E:Ed}{x:Cm}(a:E.bg=2):E.choose mf cf x=if(E.gz mf x).2.2=false then((E.gz mf x).1,0)else if(E.gz mf x).2.1=x.neg then(E.gz mf x).1.fv (if x.R=0 then x.cn else(E.gz mf x).1.H+1)else({(E.gz mf x).1 with bg:=3}:Ed).cz mf cf x:=by
 rw[Ed.choose,G a]
def Oa{c:Mf}{b:Cf}{a:Ed}{d:Cm}(e:a.bg≠2):a.choose c b d=a.cz c b d:=by
 rw[Ed.choose,N e]
def Qzx(f:Mf)(a9:fj f)(g:Nat)(b:Cf)(a:Ed)(r:Ev)(d:Cm)(l:ae)(p:At l g b a r)(A:ka b a)(y:b.U[a.H]?=some d)(K:ox b.U.length d):
  Calls prog 73 #[.pointer<|some ⟨g,0,none⟩] l (Step l g b r<|a.dv f b):=by
 have aU:a.H<b.U.length:=by
  obtain e|e:=hb a.H b.U.length
  .exact e
  rw[je e]at y;cases y
 let⟨w,aS,aY,h,k,m⟩:=p.cmd y K;have aB:=J k
 have aE:=(p.xc 12).trans<|congrArg some h;have aF:=p.xc 14;have Z:=p.xc 15;have aG:=p.cd 15;have aH:=p.xc 16;have aI:=p.cd 16;have aJ:=p.xc 17;have a1:=A.cx;have H:=A.dt;have z:Y (a.dv f b=if a.bg=1 then(if a.cx=b.dt then a.stop 5 else({a with cx:=a.cx+1,bg:=2}:Ed).choose f b d)else a.choose f b d):=by
  have e:b.U.getD a.H Ek=d:=by rw[List.getD,y];rfl
  rw[Y,Ed.dv];simp only[e]
 have aC:Y (∀i j,i.L.size<=80->i.H<i.bo.length->Ok l g b r i j->Calls prog 120 #[.pointer<|some ⟨g,0,none⟩,.pointer<|some ⟨w,a.H*23,none⟩] j (Zn l g b r<|i.gz f d)):=λi j n B ⟨x,u,v⟩=>by
  let⟨T,a1,H⟩:=u.Tc y K<|v.cm.trans h;go_call aug as e w' ⟨rfl,V,X,C⟩;exact⟨rfl,V,X,v.trans C⟩
 have aM:Y (∀i j,i.H<=1000000->Ok l g b r i j->Calls prog 121 #[.pointer<|some ⟨g,0,none⟩,.pointer<|some ⟨w,a.H*23,none⟩] j (Step l g b r<|i.fv<|if d.R=0 then d.cn else i.H+1)):=λi j n ⟨x,u,v⟩=>by
  let⟨T,a1,H⟩:=u.Tc y K<|v.cm.trans h;go_call asf as e w' ⟨rfl,V,X,C⟩;exact⟨rfl,V,X,v.trans C⟩
 have a3:Y (∀i j,ka b i->Ok l g b r i j->Calls prog 122 #[.pointer<|some ⟨g,0,none⟩,.pointer<|some ⟨w,a.H*23,none⟩] j (Step l g b r<|i.cz f b d)):=λi j n ⟨x,u,v⟩=>by
  let⟨T,a1,H⟩:=u.Tc y K<|v.cm.trans h;go_call amy as e w' ⟨rfl,V,X,C⟩;exact⟨rfl,V,X,v.trans C⟩
 have aN:Y (∀j,Ok l g b r a j->Calls prog 119 #[.pointer<|some ⟨g,0,none⟩,.int .i64 5] j (Step l g b r<|a.stop 5)):=λj ⟨x,u,v⟩=>by
  go_call aix as e w' ⟨rfl,V,X,C⟩;exact⟨rfl,V,X,v.trans C⟩
 have aD:=A.L;have aT:=A.bo;have aX:=A.U;have a0:=m.cell 11 _ rfl;have aK:=m.lt;by_cases n:a.bg=1
 rotate_left
 have D:((a.bg:Int)==1)=false:=qB
 by_cases B:a.bg=2
 rotate_left
 .have o:Y (a.dv f b=a.cz f b d):=by rw[Y,z.out,N n,Oa B]
  have aL:((a.bg:Int)==2)=false:=qB
  go_in;go_wp21;go_region
  all_goals
   go_wp21;refine(a3 a _ A ?_).mono ?_
   .exact(Ok.refl p).drewN 1
   generalize a.cz f b d=U at o;rintro e W ⟨rfl,k⟩;have s:=J k;go_wp21;go_ret;rw[o.out];exact⟨rfl,s⟩
 rw[n]at Z;by_cases a8:a.cx=b.dt
 .have o:Y (a.dv f b=a.stop 5):=by rw[Y,z.out,G n,G a8]
  have D:((a.cx:Int)==b.dt)=true:=qB
  go_in;go_wp21;go_region
  all_goals
   go_wp21;go_region
   all_goals
    go_wp21;refine(aN _ ?_).mono ?_
    .exact(Ok.refl p).drewN 2
    generalize a.stop 5=U at o;rintro e W ⟨rfl,k⟩;have s:=J k;go_wp21;go_ret;rw[o.out];exact⟨rfl,s⟩
 have o:Y (a.dv f b=({a with cx:=a.cx+1,bg:=2}:Ed).choose f b d):=by rw[Y,z.out,G n,N a8]
 have L:=Ie (mf:=f) (cf:=b) (E:={a with cx:=a.cx+1,bg:=2}) (x:=d) rfl;have E:Y _:=L;have D:((a.cx:Int)==b.dt)=false:=qB
 have aP:Y (Ok l g b r {a with cx:=a.cx+1,bg:=2} (((l.setCell (O g 16)<|I<|(a.cx:Int)+1).setCell (O g 15)<|I 2).drewN 2)):=
  (p.put (E':={a with cx:=a.cx+1,bg:=2}) (xxs.setCell _ _)<|jx (E:={a with cx:=a.cx+1}) (jx p.row 16 _ Q<|by simp[pb]) 15 _ Q rfl).drewN 2
 obtain⟨T,N0⟩:∃T:Ed,T={a with cx:=a.cx+1,bg:=2}:=⟨_,rfl⟩;rw[<-N0]at o E aP;have aT:T.bo.length=b.U.length/\T.L.size<=80/\T.H=a.H/\T.cx<=b.dt:=by subst N0;exact⟨aT,aD,rfl,qC⟩
 have N0:=J<|show∀S:List Bool,S.length=T.bo.length->ka b {({T with bo:=S}:Ed)with bg:=3} from by subst N0;exact λS a4=>A.sel S a4 3 _ qC
 clear L;rotate_left
 obtain⟨T,hT⟩:∃T:Ed,T=a:=⟨_,rfl⟩;have o:Y (a.dv f b=T.choose f b d):=by rw[Y,z.out,N n,hT]
 have L:=Ie (mf:=f) (cf:=b) (E:=T) (x:=d) (by rw[hT];exact B);have E:Y _:=L;have aP:Y (Ok l g b r T (l.drewN 1)):=by rw[hT];exact(Ok.refl p).drewN 1
 have N0:=J<|show∀S:List Bool,S.length=T.bo.length->ka b {({T with bo:=S}:Ed)with bg:=3} from by rw[hT];exact λS a4=>A.sel S a4 3 _ a1
 have aT:T.bo.length=b.U.length/\T.L.size<=80/\T.H=a.H/\T.cx<=b.dt:=by rw[hT];exact⟨aT,aD,rfl,a1⟩
 clear hT L;rw[B]at Z
 all_goals
  go_in;go_wp21;go_region
  all_goals
   go_wp21;first|(have:=a8;go_region)|skip
   all_goals
    (try go_wp21);refine(aC T _ aT.2.1 Q aP).mono ?_
    let⟨S,M,a4⟩:=Xv f T d;have P:=J M;rcases c:T.gz f d with⟨h,F,aA⟩;rw[c]at P;have qa:Y (h={T with bo:=S}):=P;rintro e w4 ⟨rfl,R⟩;have q:=J R;have aQ:=(ac (a.H*23+11)<|q.qg aB aK).trans a0;have aR:=q.cell (k:=15)<|λ_=>rfl;have aO:=q.cd 15;obtain G|G:=df aA<;>subst G
    .by_cases t:F=d.neg
     .have m:Y (a.dv f b=h.fv (if d.R=0 then d.cn else h.H+1)):=by rw[Y,o.out,E.out,c];simp only;rw[N qD,G t]
      have a2:h.H<=1000000:=by rw[qa.out];simp only;omega
      go_wp21;refine(aM h _ a2 q).mono ?_;generalize h.fv (if d.R=0 then d.cn else h.H+1)=U at m;rintro e W ⟨rfl,k⟩;have s:=J k;go_wp21;go_ret;rw[m.out];exact⟨rfl,s⟩
     have m:Y (a.dv f b=({h with bg:=3}:Ed).cz f b d):=by rw[Y,o.out,E.out,c];simp only;rw[N qD,N t]
     have D:(F==d.neg)=false:=qK t
     have a5:Y (Ok l g b r {h with bg:=3} (w4.setCell (O g 15)<|I 3)):=q.put (λx a7=>⟨(bf.refl _ _).setCell _ _,jx a7.row 15 _ Q rfl⟩);have a6:Y (ka b {h with bg:=3}):=by rw[Y,qa.out];exact N0.out S a4
     go_wp21;refine(a3 {h with bg:=3} _ a6 a5).mono ?_;generalize({h with bg:=3}:Ed).cz f b d=U at m;rintro e W ⟨rfl,k⟩;have s:=J k;go_wp21;go_ret;rw[m.out];exact⟨rfl,s⟩
    have m:Y (a.dv f b=(h,0)):=by rw[Y,o.out,E.out,c];rfl
    go_wp21;go_ret;rw[m.out];exact⟨rfl,q⟩
structure gx(cf:Cf):Prop where
 line:cf.line<=80
 space:cf.space<=80
 dt:cf.dt<=1000
 U:cf.U.length<=1000
 cm:∀(k:Nat)(x:Cm),cf.U[k]?=some x->ox cf.U.length x
structure Iv(cf:Cf)(K c:Nat)(E:Ed):Prop where
 L:E.L.size<=80
 bt:E.bt.size<=80
 ny:∀t∈E.cy,t.size<=1000
 bo:E.bo.length=cf.U.length
 cx:E.cx<=cf.dt
 H:E.H<=cf.U.length
 num:E.number+(if E.more=true then 1 else 0)<=K
 next:E.next.length<=K
 wn:E.out.length+fz E.cy+402*(cf.dt-E.cx)+c<=402100*(E.number+1)
 ca:E.ca<=E.out.length
def Iv.Mg{e:Cf}{f:Ed}(c:Iv e a b f)(d:gx e)(g:a<=2000000):ka e f:=by
 have h:=c.num;have i:=c.wn;have j:=c.next
 exact⟨c.L,c.bt,d.space,d.line,d.dt,Q,c.ny,Q,Q,d.U,c.bo,c.cx,c.H⟩
def Iv.less{f:Cf}{e:Ed}(d:Iv f a b e)(g:c<=b:=by omega):Iv f a c e:=
 ⟨d.L,d.bt,d.ny,d.bo,d.cx,d.H,d.num,d.next,by have:=d.wn;omega,d.ca⟩
def Iv.jp{d:Cf}{e:Ed}(c:Iv d a b e)(f i j:Nat)(h:Bool)(g:f<=d.U.length):Iv d a b {e with H:=f,bg:=i,ck:=j,put:=h}:=
 ⟨c.L,c.bt,c.ny,c.bo,c.cx,g,c.num,c.next,c.wn,c.ca⟩
def aey{a b:Ed}(c:b.next=a.next)(d:b.whole=a.whole):b.more=a.more:=by unfold Ed.more;rw[c,d]
def Iv.kp{e:Cf}{f g:Ed}(d:Iv e a (b+401) f)(c:Kp e f g):Iv e a b g:=by
 have h:=aey c.next c.whole
 let⟨l,i⟩:=c.pre;refine⟨c.L,c.bt,c.ny,by rw[c.bo];exact d.bo,by rw[c.cx];exact d.cx,by rw[c.H];exact d.H,by rw[c.number,h];exact d.num,by rw[c.next];exact d.next,?_,?_⟩
 .have j:=d.wn;have k:=c.out;rw[c.number,c.cx];omega
 rw[c.ca,i,ga];have:=d.ca;omega
def Iv.ja{d:Cf}{e:Ed}(c:Iv d a (b+81) e):Iv d a b (e.ja d):=by
 let⟨k,f,g,h⟩:=Wy d e;rw[f];have i:=c.L;have j:=c.ca;exact⟨c.L,c.bt,c.ny,c.bo,c.cx,c.H,c.num,c.next,by have:=c.wn;simp only;omega,qC⟩
def Iv.fq{f:Cf}{d:Ed}(c:Iv f a b d):Iv f a b d.fq:=by
 let⟨j,g,i⟩:=Ww d;rw[g];have e:=c.ca;refine⟨c.L,c.bt,λk e=>by simp at e,c.bo,c.cx,c.H,c.num,c.next,?_,?_⟩
 .have:=c.wn;have h:fz []=0:=rfl;simp only[h];omega
 simp only;omega
def Zc{e:Cf}{d g:Ed}(a:d.vu e f s=some g):∃h,g={d with L:=h}/\h.size<=e.space:=by
 unfold Ed.vu Ed.grow at a;split at a
 .let⟨b,c⟩:=Hy a;exact⟨_,b,c⟩
 let⟨b,c⟩:=Hy a;exact⟨_,b,c⟩
def Iv.ej{b:Cf}{e g:Nat}{c:Ed}(f:gx b)(a:Iv b e g c)(h:c.more=true)(d:Bool):
  ((c.ej b d).2=true/\Iv b e 81 (c.ej b d).1/\(c.ej b d).1.more=false/\(c.ej b d).1.cx=0)\/((c.ej b d).2=false/\Iv b e g (c.ej b d).1/\(c.ej b d).1.ck≠0):=by
 have i:=a.num;rw[G h]at i;have n:=a.wn;have o:=f.dt;unfold Ed.ej;split
 .refine .inr ⟨rfl,a.jp _ _ 3 _ a.H,qD⟩
 cases j:c.read.vu b d (ce c.next)with
 |none=>
  refine .inr ⟨rfl,⟨a.L,a.bt,a.ny,a.bo,a.cx,a.H,?_,by simp[Ed.read],?_,a.ca⟩,qD⟩
  .simp only[Ed.more,Ed.read];simp;omega
  simp only[Ed.read];omega
 |some p=>
  obtain⟨q,rfl,l⟩:=Zc j;have m:=f.space;refine .inl ⟨rfl,⟨qC,a.bt,a.ny,a.bo,qD,a.H,?_,by simp[Ed.read],?_,a.ca⟩,by simp[Ed.more,Ed.read],rfl⟩
  .simp only[Ed.more,Ed.read];simp;omega
  simp only[Ed.read];omega
def mu(cf:Cf)(l:Nat)(E:Ed):Nat:=2005*(if E.more=true then 1 else 0)+2*(cf.dt-E.cx)+(if l=0 then 0 else if l=4 then 1 else if l=3 then 2 else if l=2 then(if E.bg=1 then 3 else 5)else 4)
def cr(l s:Nat):Nat:=if l=0\/l=4 then 0 else if l=2 then(if s=2\/s=3 then 482 else 81)else 81
structure Good(cf:Cf)(K l:Nat)(E:Ed):Prop where
 iv:Iv cf K (cr l E.bg) E
 lt:l=2->E.H<cf.U.length
 st:l=2->1<=E.bg/\E.bg<=4
 rd:l=2->E.bg=4->∀x,cf.U[E.H]?=some x->x.R=3\/x.R=4
 mr:l=2->E.bg=4->E.more=true
 run:E.ck=0\/l=3\/l=4
def Rest(cf:Cf)(K:Nat)(E:Ed):Prop:=Iv cf K 0 E/\(E.ck=0->Good cf K (if E.bg=0 then 0 else 2) E)
def pj(s:Nat):Nat:=if s=1\/s=2 then 1 else if s=3 then 4 else 3
def nx(r:Ed×Nat):Ed:=if r.2=2 then {r.1 with H:=0} else r.1
structure Cp(cf:Cf)(K:Nat)(m:Bool)(lk:Nat)(r:Ed×Nat):Prop where
 le:r.2<=4
 rest:r.2=0->Rest cf K r.1
 on:r.2≠0->Good cf K (pj r.2) (nx r)/\(((nx r).more=m/\(nx r).cx=lk)\/(m=true/\(nx r).more=false))
def Un{d:Cf}{b:Ed}(f:Iv d a 81 b)(e:b.ck=0):Good d a 1 b:=⟨f,λc=>Q,λc=>Q,λc=>Q,λc=>Q,.inl e⟩
def Kk{d:Cf}{c:Ed}(e:Iv d a 81 c):Good d a 3 c:=⟨e,λb=>Q,λb=>Q,λb=>Q,λb=>Q,.inr<|.inl rfl⟩
def In{d:Cf}{c:Ed}(e:Iv d a 0 c):Good d a 4 c:=⟨e,λb=>Q,λb=>Q,λb=>Q,λb=>Q,.inr<|.inr rfl⟩
def Im{d:Cf}{b:Ed}(f:Iv d a 0 b)(e:b.ck=0):Good d a 0 b:=⟨f,λc=>Q,λc=>Q,λc=>Q,λc=>Q,.inl e⟩
def Jb{d:Cf}{c:Ed}(g:Iv d a b c)(e:c.ck≠0):Rest d a c:=⟨g.less<|ey _,λf=>cb f e⟩
def Xi{d:Cf}{c:Ed}(b:Good d a 2 c):Rest d a c:=⟨b.iv.less<|ey _,λ_=>by rw[N (by have:=(b.st rfl).1;omega)];exact b⟩
def Ih{e:Cf}{d:Ed}(k:Iv e a 81 d)(g:d.ck=0)(h:c<=e.U.length)(i:(d.more=f/\d.cx=b)\/(f=true/\d.more=false)):Cp e a f b (d.fv c):=
 ⟨by simp[Ed.fv],λj=>by simp[Ed.fv]at j,λ_=>⟨Un (k.jp c d.bg d.ck d.put h) g,i⟩⟩
def Iv.asg{e:Cf}{d:Ed}(c:Iv e a b d)(f:ag)(g:f.size<=80):Iv e a b {d with L:=f}:=
 ⟨g,c.bt,c.ny,c.bo,c.cx,c.H,c.num,c.next,c.wn,c.ca⟩
def Iv.afn{e:Cf}{d:Ed}(c:Iv e a b d)(f:List Bool)(g:f.length=d.bo.length):Iv e a b {d with bo:=f}:=
 ⟨c.L,c.bt,c.ny,g.trans c.bo,c.cx,c.H,c.num,c.next,c.wn,c.ca⟩
def Wx(b:Cf)(a:Ed):(a.ja b).more=a.more/\(a.ja b).cx=a.cx/\(a.ja b).ck=a.ck/\(a.ja b).H=a.H/\(a.ja b).bg=a.bg:=by
 let⟨d,c,_⟩:=Wy b a;rw[c];exact⟨rfl,rfl,rfl,rfl,rfl⟩
def Pw(a:Ed):a.fq.more=a.more/\a.fq.cx=a.cx/\a.fq.ck=a.ck/\a.fq.H=a.H/\a.fq.bg=a.bg:=by
 let⟨c,b,_⟩:=Ww a;rw[b];exact⟨rfl,rfl,rfl,rfl,rfl⟩
theorem agv(d:Cf)(e:Bool)(b:Ed)(a:(b.ej d e).2=true):(b.ej d e).1.ck=b.ck:=by
 unfold Ed.ej at a|-;split
 .grind
 rename_i c;rw[N c]at a;cases f:b.read.vu d e (ce b.next)with
 |none=>grind
 |some g=>
  obtain⟨h,rfl,_⟩:=Zc f;rfl
theorem Wa{c:Cf}{E:Ed}(o:gx c)(k:Iv c a 81 E)(j:E.ck=0)(n:E.H<c.U.length)(l:E.bg=4)(m:E.more=true)(p:∀i,c.U[E.H]?=some i->i.R=3\/i.R=4)(e:Bool):Cp c a true b (E.kq c e):=by
 unfold Ed.kq;split
 .obtain⟨d,f,h,q⟩|⟨d,f,h⟩:=k.ej o m e
  .rw[G d];exact Ih f (by rw[agv c e E d];exact j) (by rw[Ja];omega)<|.inr ⟨rfl,h⟩
  rw[N<|by rw[d];simp];exact⟨qD,λ_=>Jb f h,λg=>cb rfl g⟩
 refine⟨qD,λ_=>Xi ⟨?_,λ_=>n,λ_=>(by rw[l];decide),λ_ _=>p,λ_ _=>m,.inl j⟩,λg=>cb rfl g⟩;have:cr 2 E.bg=81:=by rw[l];rfl
 grind
theorem amp{c:Cf}{b:Ed}(n:gx c)(e:Good c a 2 b)(o:b.ck=0)(g:b.bg=3\/b.bg=4)(q:∀f,c.U[b.H]?=some f->f.R=3\/f.R=4)(i:Bool):Cp c a b.more b.cx (b.ix c i):=by
 have j:=e.lt rfl;rw[ut];obtain g|l:=g
 .have d:=e.iv;have r:cr 2 b.bg=482:=by rw[g];rfl
  rw[r]at d;split
  .exact⟨qD,λ_=>Xi e,λm=>cb rfl m⟩
  rename_i B;split
  .exact⟨qD,λm=>by simp at m,λ_=>⟨Kk<|d.less,.inl ⟨rfl,rfl⟩⟩⟩
  rename_i h;have k:b.more=true:=by
   cases s:b.more with
   |true=>rfl
   |false=>grind
  rw[k];obtain p|p:=df i<;>subst p
  .exact Wa (E:={b with bg:=4}) n ((d.less (Q:81<=482)).jp b.H 4 b.ck b.put d.H) o j rfl k q true
  have w:=d.ja;have s:=w.fq;let⟨x,C,y,t,D⟩:=Wx c b;let⟨z,E,A,u,F⟩:=Pw<|b.ja c;exact Wa (E:={(b.ja c).fq with bg:=4}) n ((s.less (Q:81<=401)).jp _ 4 _ _ s.H) qE qE rfl (by show(b.ja c).fq.more=true;rw[z,x];exact k) (λf v=>q f qE) false
 have h:=e.mr rfl l;have r:cr 2 b.bg=81:=by rw[l];rfl
 have d:=e.iv;rw[r]at d;rw[N,N,N,h];exact Wa n d o j l h q i
def am5(a:xk s=some t):t.size<=s.size:=by
 unfold xk at a;split at a
 .cases a;exact pd _ _ _
 cases a
theorem ab0{n:Mf}{c:Cf}{E:Ed}{b:Cm}(u:gx c)(z:a<=2000000)(j:Good c a 2 E)(k:E.ck=0)(v:E.bg=3\/E.bg=4)(w:c.U[E.H]?=some b):Cp c a E.more E.cx (E.cz n c b):=by
 have D:=j.lt rfl;have r:=u.cm _ _ w;have i:Iv c a 81 E:=j.iv.less (by obtain e|e:=v<;>rw[e]<;>decide);have x:=j.iv.Mg u z;by_cases f:b.R=3\/b.R=4
 .have e:E.cz n c b=E.ix c (decide (b.R=4)):=by rw[Ed.cz,N,N,N,G f]
  rw[e];exact amp u j k v (λg d=>qE) _
 have C:E.bg=3:=by
  obtain e|e:=v
  .exact e
  exact cb (j.rd rfl e b w) f
 have d:=j.iv;have A:cr 2 E.bg=482:=by rw[C];rfl
 rw[A]at d;have g:(E.more=E.more/\E.cx=E.cx)\/(E.more=true/\E.more=false):=.inl ⟨rfl,rfl⟩;by_cases h:b.R=1
 .rw[Ed.cz,G h];exact⟨qD,λe=>by simp at e,λ_=>⟨In<|d.less,g⟩⟩
 by_cases l:b.R=2
 .have e:E.cz n c b=E.Ag:=by rw[Ed.cz,N h,G l];rfl
  rw[e];cases hd:xk E.L with
  |none=>
   rw[Of hd];exact⟨qD,λe=>by simp at e,λ_=>⟨In<|d.less,g⟩⟩
  |some m=>
   rw[Og hd];have t:=am5 hd;have y:=d.L;have p:=((i.asg m Q).fq);let⟨o,q,s,B,F⟩:=Pw {E with L:=m};refine⟨qD,λe=>by simp at e,λ_=>⟨Un (p.jp 0 _ _ _<|ey _) ?_,.inl ⟨o,q⟩⟩⟩;show({E with L:=m}:Ed).fq.ck=0
   rw[s];exact k
 by_cases o:b.R=16
 .rw[Ed.cz,N h,N l,G o];have p:=d.kp<|Kt x _ r.tx;exact⟨qD,λe=>by simp at e,λ_=>⟨In<|p.less,g⟩⟩
 by_cases q:b.R=13
 .rw[Ed.cz,N h,N l,N o,N f,G q];exact⟨qD,λe=>by simp at e,λ_=>⟨Kk<|i.jp E.H E.bg 2 E.put d.H,g⟩⟩
 by_cases s:b.R=17
 .rw[Ed.cz,N h,N l,N o,N f,N q,G s];exact Ih i k r.gl g
 by_cases y:b.R=18
 .rw[Ed.cz,N h,N l,N o,N f,N q,N s,G y];split
  .exact Ih (i.jp E.H E.bg E.ck false d.H) k r.gl g
  exact Ih i k Q g
 have e:E.cz n c b=match E.ea n c b with|none=>E.stop 4|some t=>t.fv (t.H+1):=by rw[Ed.cz,N h,N l,N o,N f,N q,N s,N y];rfl
 rw[e];cases B:E.ea n c b with
 |none=>exact⟨by simp[Ed.stop],λ_=>Jb (i.jp E.H E.bg 4 E.put d.H)<|by simp[Ed.stop],λe=>cb rfl e⟩
 |some t=>
  have m:=ab1 x r B;have p:=d.kp m;exact Ih p (by rw[m.ck];exact k) (by rw[m.H];omega)<|.inl ⟨aey m.next m.whole,m.cx⟩
theorem aa8{m:Mf}{d:Cf}{b:Ed}{g:Cm}(j:gx d)(r:a<=2000000)(f:Good d a 2 b)(e:b.ck=0)(C:2<=b.bg)(k:d.U[b.H]?=some g):Cp d a b.more b.cx (b.choose m d g):=by
 have n:=f.lt rfl;have z:=j.cm _ _ k;by_cases l:b.bg=2
 .rw[Ie l];let⟨h,o,x⟩:=Xv m b g;rcases p:b.gz m g with⟨A,y,B⟩;rw[p]at o;have v:A={b with bo:=h}:=o;subst v;have q:=f.iv;have s:cr 2 b.bg=482:=by rw[l];rfl
  rw[s]at q;simp only;have i:=q.afn h x;by_cases t:B=false
  .rw[G t];refine⟨qD,λ_=>Xi ⟨qE,λ_=>n,λ_=>f.st rfl,λ_ c=>qE,λ_ c=>qE,.inl e⟩,λc=>cb rfl c⟩
  rw[N t];by_cases u:y=g.neg
  .rw[G u];refine Ih (i.less) e ?_<|.inl ⟨rfl,rfl⟩;split
   .exact z.gl
   omega
  rw[N u];have w:Good d a 2 {b with bo:=h,bg:=3}:=⟨i.jp b.H 3 b.ck b.put i.H,λ_=>n,λ_=>qD,λ_ c=>by simp at c,λ_ c=>by simp at c,.inl e⟩;exact ab0 (E:={b with bo:=h,bg:=3}) j r w e (.inl rfl) k
 rw[Oa l];have:=(f.st rfl).2;exact ab0 j r f e Q k
theorem Ig{mf:Mf}{c:Cf}{b:Ed}(k:gx c)(s:a<=2000000)(h:Good c a 2 b):(b.dv mf c).2<=4/\((b.dv mf c).2=0->Rest c a (b.dv mf c).1)/\((b.dv mf c).2≠0->Good c a (pj (b.dv mf c).2) (nx<|b.dv mf c)/\mu c (pj (b.dv mf c).2) (nx<|b.dv mf c)<mu c 2 b):=by
 have r:=h.lt rfl;have l:b.ck=0:=by obtain e|e|e:=h.run<;>first|exact e|omega
 obtain⟨q,m⟩:∃q,c.U[b.H]?=some q:=⟨c.U[b.H],dy r⟩;have w:c.U.getD b.H Ek=q:=by rw[List.getD,m];rfl
 have z:=h.iv.cx;have A:=k.dt;have fin:∀(i:Nat)(d:Ed×Nat),Cp c a b.more i d->b.cx<=i->(b.bg=1->b.cx<i/\i<=c.dt)->d.2<=4/\(d.2=0->Rest c a d.1)/\(d.2≠0->Good c a (pj d.2) (nx d)/\mu c (pj d.2) (nx d)<mu c 2 b):=by
  intro i d f B u
  refine⟨f.le,f.rest,λj=>⟨(f.on j).1,?_⟩⟩;have n:=(f.on j).1.iv.cx;have v:pj d.2=1\/pj d.2=3\/pj d.2=4:=by unfold pj;split;exact .inl rfl;split;exact .inr<|.inr rfl;exact .inr<|.inl rfl
  unfold mu;have t:(if pj d.2=0 then 0 else if pj d.2=4 then 1 else if pj d.2=3 then 2 else if pj d.2=2 then(if(nx d).bg=1 then 3 else 5)else 4)<=4:=by
   obtain e|e|e:=v<;>rw[e]<;>simp
  generalize(if pj d.2=0 then 0 else if pj d.2=4 then 1 else if pj d.2=3 then 2 else if pj d.2=2 then(if(nx d).bg=1 then 3 else 5)else 4)=y at t|-;rw[N (Q:¬(2:Nat)=0),N (Q:¬(2:Nat)=4),N (Q:¬(2:Nat)=3),G (rfl:(2:Nat)=2)];rcases(f.on j).2 with⟨o,p⟩|⟨o,p⟩
  .grind
  rw[o,p,N (qD:¬(false=true)),G rfl];split<;>omega
 rw[Ed.dv];simp only[w];by_cases g:b.bg=1
 .rw[G g];have f:=h.iv;have j:cr 2 b.bg=81:=by rw[g];rfl
  rw[j]at f;by_cases n:b.cx=c.dt
  .rw[G n];exact⟨by simp[Ed.stop],λ_=>Jb (f.jp b.H b.bg 5 b.put f.H)<|by simp[Ed.stop],λe=>cb rfl e⟩
  rw[N n];have o:Iv c a 482 {b with cx:=b.cx+1,bg:=2}:=⟨f.L,f.bt,f.ny,f.bo,qC,f.H,f.num,f.next,by have:=f.wn;simp only;omega,f.ca⟩;have p:Good c a 2 {b with cx:=b.cx+1,bg:=2}:=⟨o,λ_=>r,λ_=>qD,λ_ e=>by simp at e,λ_ e=>by simp at e,.inl l⟩;exact fin (b.cx+1) _ (aa8 k s p l qD m) Q<|λ_=>⟨Q,Q⟩
 rw[N g];have f:=h.st rfl;exact fin b.cx _ (aa8 k s h l Q m) ah<|λe=>cb e g
def zt(d:Mf)(a:Cf)(c:Nat)(b:Ed):b.hu d a (c+1) 0=if(({b with bg:=0}:Ed).mi a).2=true then({(({b with bg:=0}:Ed).mi a).1 with H:=0}:Ed).hu d a c 1 else(({b with bg:=0}:Ed).mi a).1:=rfl
def Ce(d:Mf)(b:Cf)(c:Nat)(a:Ed):a.hu d b (c+1) 1=if a.H=b.U.length then a.hu d b c 3 else({a with bg:=1}:Ed).hu d b c 2:=rfl
def ug(b:Mf)(a:Cf)(d:Nat)(c:Ed):c.hu b a (d+1) 2=if(c.dv b a).2=0 then(c.dv b a).1 else if(c.dv b a).2=1 then(c.dv b a).1.hu b a d 1 else if(c.dv b a).2=2 then({(c.dv b a).1 with H:=0}:Ed).hu b a d 1 else if(c.dv b a).2=3 then(c.dv b a).1.hu b a d 4 else(c.dv b a).1.hu b a d 3:=rfl
def Mq(d:Mf)(a:Cf)(c:Nat)(b:Ed):b.hu d a (c+1) 3=(b.ja a).hu d a c 4:=rfl
def Jj(d:Mf)(b:Cf)(c:Nat)(a:Ed):a.hu d b (c+1) 4=if a.fq.ck=0 then a.fq.hu d b c 0 else a.fq:=rfl
def Gt{c:Cf}{K a:Nat}{b:Ed}(d:gx c):mu c a b<10000:=by
 have e:=d.dt;unfold mu;have f:(if a=0 then 0 else if a=4 then 1 else if a=3 then 2 else if a=2 then(if b.bg=1 then 3 else 5)else 4)<=5:=by
  repeat' split
  all_goals omega
 have g:2005*(if b.more=true then 1 else 0)<=2005:=by split<;>omega
 omega
def Sq{c:Cf}{b:Ed}(j:gx c)(d:Good c a 0 b):(((({b with bg:=0}:Ed).mi c).2=true)/\Good c a 1 {(({b with bg:=0}:Ed).mi c).1 with H:=0}/\mu c 1 {(({b with bg:=0}:Ed).mi c).1 with H:=0}<mu c 0 b)\/((({b with bg:=0}:Ed).mi c).2=false/\Rest c a (({b with bg:=0}:Ed).mi c).1):=by
 have k:b.ck=0:=by obtain e|e|e:=d.run<;>first|exact e|omega
 have f:Iv c a 0 {b with bg:=0}:=(d.iv).jp b.H 0 b.ck b.put d.iv.H;have q:=j.dt;unfold Ed.mi;split
 .split
  .rename_i s l;have m:b.more=true:=l;obtain⟨g,h,i,n⟩|⟨g,h,i⟩:=f.ej j l false
   .refine .inl ⟨g,Un (h.jp 0 _ _ _<|ey _)<|by show(Ed.ej c false {b with bg:=0}).1.ck=0;rw[agv c false _ g];exact k,?_⟩;have o:({(Ed.ej c false {b with bg:=0}).1 with H:=0}:Ed).more=false:=i;have p:({(Ed.ej c false {b with bg:=0}).1 with H:=0}:Ed).cx=0:=n;unfold mu;rw[o,p,m];simp;omega
   exact .inr ⟨g,Jb h i⟩
  exact .inr ⟨rfl,Jb (f.jp b.H 0 1 b.put d.iv.H) qD⟩
 refine .inr ⟨rfl,f,λ_=>?_⟩;rw[G rfl];exact Im f k
def zu{mf:Mf}{c:Cf}{s:Nat}(g:gx c)(j:s<=2000000:=by omega):∀(f i:Nat)(b:Ed),i<=4->Good c s i b->mu c i b<f->Rest c s (b.hu mf c f i)
 |0,i,b,_,_,h=>Q
 |f+1,i,b,C,d,a=>by
  rcases(Q:i=0\/i=1\/i=2\/i=3\/i=4)with rfl|rfl|rfl|rfl|rfl
  .rw[zt];obtain⟨t,m,w⟩|⟨t,m⟩:=Sq g d
   .rw[G t];exact zu g j f 1 _ Q m Q
   rw[N<|by rw[t];simp];exact m
  .rw[Ce];have n:b.ck=0:=by obtain e|e|e:=d.run<;>first|exact e|omega
   split
   .exact zu g j f 3 _ Q (Kk d.iv) (by unfold mu at a|-;simp at a|-;omega)
   have:=d.iv.H;refine zu g j f 2 _ Q ⟨d.iv.jp b.H 1 b.ck b.put d.iv.H,λ_=>qC,λ_=>qD,λ_ e=>by simp at e,λ_ e=>by simp at e,.inl n⟩ ?_;unfold mu at a|-;have o:({b with bg:=1}:Ed).more=b.more:=rfl;rw[o];simp at a|-;omega
  .rw[ug];obtain⟨t,m,w⟩:=Ig (mf:=mf) g j d;by_cases u:(b.dv mf c).2=0
   .rw[G u];exact m u
   obtain⟨k,p⟩:=w u;rw[N u];by_cases o:(b.dv mf c).2=1
   .rw[G o];have l:pj (b.dv mf c).2=1:=by rw[o];rfl
    have q:nx (b.dv mf c)=(b.dv mf c).1:=by rw[nx,N Q]
    rw[l,q]at k p;exact zu g j f 1 _ Q k Q
   rw[N o];by_cases r:(b.dv mf c).2=2
   .rw[G r];have l:pj (b.dv mf c).2=1:=by rw[r];rfl
    have q:nx (b.dv mf c)={(b.dv mf c).1 with H:=0}:=by rw[nx,G r]
    rw[l,q]at k p;exact zu g j f 1 _ Q k Q
   rw[N r];have q:nx (b.dv mf c)=(b.dv mf c).1:=by rw[nx,N r]
   rw[q]at k p;by_cases v:(b.dv mf c).2=3
   .rw[G v];have l:pj (b.dv mf c).2=4:=by rw[v];rfl
    rw[l]at k p;exact zu g j f 4 _ Q k Q
   rw[N v];have l:pj (b.dv mf c).2=3:=by rw[pj,N Q,N v]
   rw[l]at k p;exact zu g j f 3 _ Q k Q
  .rw[Mq];have k:=d.iv.ja;obtain⟨l,p,u,q,r⟩:=Wx c b;refine zu g j f 4 _ Q (In k) ?_;unfold mu at a|-;rw[l,p];simp at a|-;omega
  rw[Jj];have k:Iv c s 0 b.fq:=d.iv.fq;obtain⟨l,p,u,q,r⟩:=Pw b;split
  .rename_i n;refine zu g j f 0 _ Q (Im k n) ?_;unfold mu at a|-;rw[l,p];simp at a|-;omega
  rename_i n;exact Jb k n
def Rb{g:Mf}{c:Cf}{b:Ed}(d:gx c)(e:a<=2000000)(f:Good c a (if b.bg=0 then 0 else 2) b):Rest c a (b.work g c):=by
 unfold Ed.work;exact zu d e 10000 _ b (by split<;>omega) f<|Gt (K:=a) d
def Qqm(b:Nat)(a:Act):Prop:=∃(u2 u3 u4 u5 u6 u7 u8 u9 u10 u11 u12 u13 u14 u15 u16 u17 u18 u19 u20 u21 u22 u23 u24 u25 u26 u27 u28 u29 u30 u31 u32 u33 u34 u35 u36 u37 u38 u39 u40 u41 u42 u43 u44 u45 u46 u47 u48 u49:af),a={tmps:=List.toArray (ab b 0::undef::u2::u3::u4::u5::u6::u7::u8::u9::u10::u11::u12::u13::u14::u15::u16::u17::u18::u19::u20::u21::u22::u23::u24::u25::u26::u27::u28::u29::u30::u31::u32::u33::u34::u35::u36::u37::u38::u39::u40::u41::u42::u43::u44::u45::u46::u47::u48::u49:: []),defers:=[]}
def Wt(l:Nat):Nat:=if l=1 then 0 else if l=2\/l=4 then 1 else if l=0 then 2 else if l=3 then 3 else 4
def Sh(l:Nat)(E:Ed):Ed:=if l=2 then {E with H:=0} else E
def WJ(mf:Mf)(cf:Cf)(b K:Nat)(R:Ed)(w:ae)(v:Ev)(l n:Nat)(a:Act)(w':ae):Prop:=
 Qqm b a/\∃E,Ok w b cf v E w'/\Good cf K (Wt l) (Sh l E)/\mu cf (Wt l) (Sh l E)<n/\(Sh l E).hu mf cf n (Wt l)=R
def WQ(cf:Cf)(b:Nat)(R:Ed)(w:ae)(v:Ev):Ending->ae->Prop:=λe w'=>e=.returned (.tuple #[])/\Ok w b cf v R w'
def aju(j:Mf)(a9:fj j)(i:Nat)(a:Cf)(r:Nat)(m:Ed)(K:Ev)(C:ae)(a6:At C i a m K)(H:gx a)(o:r<=2000000)(a4:Good a r (if m.bg=0 then 0 else 2) m):
  Calls prog 50 #[.pointer<|some ⟨i,0,none⟩] C (WQ a i (m.work j a) C K):=by
 have aD:=J a9;have a5:=a6.xc 15;have X:Y (m.hu j a 10000 (if m.bg=0 then 0 else 2)=m.work j a):=rfl;generalize m.work j a=x at X|-;go_in;go_wp21;refine aw5 (WJ j a i r x C K) rfl rfl rfl rfl rfl rfl ?s5 ?s3 ?s0 ?s4 ?s2 ?s1 ?first
 case s5=>
  intro F g Z v W z
  obtain⟨⟨_,_,_,_,_,_,_,_,_,_,_,_,_,_,_,_,_,_,_,_,_,_,_,_,_,_,_,_,_,_,_,_,_,_,_,_,_,_,_,_,_,_,_,_,_,_,_,_,rfl⟩,b,d,n,l,k⟩:=z;have h:Good a r 4 b:=n;have f:mu a 4 b<g:=l;obtain⟨c,rfl⟩:∃c,g=c+1:=⟨g-1,Q⟩;have p:b.hu j a (c+1) 4=x:=k;rw[Jj]at p;have s:=h.iv.Mg H o;obtain⟨L,B,qa⟩:=d;have u:=Wv i a b L v B (bq s.out Q) (λa0 P=>bq (s.ny a0 P) Q);have M:=h.iv.fq;have q:=J p;have y:Y (mu a 0 b.fq<c):=by
   let⟨t,w,T,U,V⟩:=Pw b;rw[Y];unfold mu at f|-;rw[t,w];simp at f|-;omega
  go_wp21;go_call u;rintro e S ⟨rfl,d⟩;have p:Y (Ok C i a K b.fq S):=by
   let⟨R,t,w⟩:=d;exact⟨R,t,qa.trans w⟩
  generalize b.fq=f at p M q y;have D:=p.cell (k:=20)<|λ_=>rfl;by_cases h:f.ck=0
  .rw[h]at D;have A:Y (f.hu j a c 0=x):=by rw[Y,<-q.out,G h]
   have E:=J h;go_wp21;go_step3;exact⟨Q,c,Q,(by unfold Qqm;(repeat apply Exists.intro);rfl),f,p,Im M E,y,A⟩
  have aH:((f.ck:Int)==0)=false:=qB
  have A:Y (f=x):=by rw[Y,<-q.out,N h]
  go_wp21;go_returns;exact⟨rfl,by rw[<-A.out];exact p⟩
 case s3=>
  intro E F g Z v W z
  obtain⟨⟨_,_,_,_,_,_,_,_,_,_,_,_,_,_,_,_,_,_,_,_,_,_,_,_,_,_,_,_,_,_,_,_,_,_,_,_,_,_,_,_,_,_,_,_,_,_,_,_,rfl⟩,b,d,n,l,k⟩:=z;have A:Good a r 3 b:=n;have q:mu a 3 b<g:=l;obtain⟨c,rfl⟩:∃c,g=c+1:=⟨g-1,Q⟩;have D:b.hu j a (c+1) 3=x:=k;rw[Mq]at D;have s:=A.iv.Mg H o;let⟨L,B,qa⟩:=d;have u:=agc i a b L v B s.qw (bq s.L Q);have M:=A.iv.ja;have h:=J D;have y:Y (mu a 4 (b.ja a)<c):=by
   let⟨t,w,T,U,V⟩:=Wx a b;rw[Y];unfold mu at q|-;rw[t,w];simp at q|-;omega
  have P:Y _:=E;go_wp21;go_call u;rintro e S ⟨rfl,d⟩;have p:Y (Ok C i a K (b.ja a) S):=by
   let⟨R,t,w⟩:=d;exact⟨R,t,qa.trans w⟩
  generalize b.ja a=f at p M h y;go_wp21;refine wp_label ?_;rename_i o;exact o _ _<|P F c _ _ Q ⟨(by unfold Qqm;(repeat apply Exists.intro);rfl),f,p,In M,y,h⟩
 case s0=>
  intro a2 F g Z v W z
  obtain⟨⟨_,_,_,_,_,_,_,_,_,_,_,_,_,_,_,_,_,_,_,_,_,_,_,_,_,_,_,_,_,_,_,_,_,_,_,_,_,_,_,_,_,_,_,_,_,_,_,_,rfl⟩,b,d,n,l,k⟩:=z;have q:Good a r 2 b:=n;have a0:mu a 2 b<g:=l;obtain⟨c,rfl⟩:∃c,g=c+1:=⟨g-1,Q⟩;have A:b.hu j a (c+1) 2=x:=k;rw[ug]at A;have s:=q.iv.Mg H o;obtain⟨a1,P⟩:∃a1,a.U[b.H]?=some a1:=⟨a.U[b.H]'(q.lt rfl),dy<|q.lt rfl⟩;let⟨L,B,qa⟩:=d;have u:=Qzx j aD i a b L a1 v B s P<|H.cm _ _ P;let⟨a3,a8,aA⟩:=Ig (mf:=j) H o q;have D:Y _:=A;have E:Y _:=aA;have aB:Y _:=a2;generalize b.dv j a=a7 at u a3 a8 D E;have y:=J a0;let⟨f,a0⟩:=a7;simp only at a3;go_wp21;go_call u;rintro e S ⟨rfl,d⟩;have p:Y (Ok C i a K f S):=by
   let⟨R,t,w⟩:=d;exact⟨R,t,qa.trans w⟩
  rcases(Q:a0=0\/a0=1\/a0=2\/a0=3\/a0=4)with rfl|rfl|rfl|rfl|rfl
  .have h:=J D;go_wp21;go_returns;refine⟨rfl,?_⟩;rw[<-h.out];exact p
  .have h:=J D;let⟨P,A⟩:=E.out qD;have q:Y (mu a 1 f<c):=ew A Q;go_wp21;go_step3;exact⟨Q,c,Q,(by unfold Qqm;(repeat apply Exists.intro);rfl),f,p,P,q,h⟩
  .have h:=J D;let⟨P,A⟩:=E.out qD;have q:Y (mu a 1 {f with H:=0}<c):=ew A Q;go_wp21;go_step3;exact⟨Q,c,Q,(by unfold Qqm;(repeat apply Exists.intro);rfl),f,p,P,q,h⟩
  .have h:=J D;let⟨P,A⟩:=E.out qD;have q:Y (mu a 4 f<c):=ew A Q;go_wp21;go_step3;exact⟨Q,c,Q,(by unfold Qqm;(repeat apply Exists.intro);rfl),f,p,P,q,h⟩
  have h:=J D;let⟨P,A⟩:=E.out qD;have q:Y (mu a 3 f<c):=ew A Q;go_wp21;refine wp_label ?_;rename_i o;exact o _ _<|aB F c _ _ Q ⟨(by unfold Qqm;(repeat apply Exists.intro);rfl),f,p,P,q,h⟩
 case s4=>
  intro A F g Z v W z
  obtain⟨⟨_,_,_,_,_,_,_,_,_,_,_,_,_,_,_,_,_,_,_,_,_,_,_,_,_,_,_,_,_,_,_,_,_,_,_,_,_,_,_,_,_,_,_,_,_,_,_,_,rfl⟩,b,d,n,l,k⟩:=z;have D:Good a r 1 b:=n;have E:mu a 1 b<g:=l;obtain⟨c,rfl⟩:∃c,g=c+1:=⟨g-1,Q⟩;have P:b.hu j a (c+1) 1=x:=k;rw[Ce]at P;have T:b.ck=0:=by obtain e|e|e:=D.run<;>first|exact e|omega
  have aJ:=D.iv.H;have aK:=H.U;have a8:=J d;have aE:=d.cell (k:=14)<|λ_=>rfl;have a5:=d.cell (k:=15)<|λ_=>rfl;have aF:=d.cd 15;obtain⟨a2,a3,aL⟩:∃a2 a3,v.cell? (O i 12)=some (.slice a2 a.U.length a3):=by
   let⟨L,t,w⟩:=d;let⟨_,xs,a0,_⟩:=t.cm;let⟨a2,a3,e⟩:=yq a0;exact⟨a2,a3,by rw[t.xc 12,e]⟩
  have aC:Y _:=A;have M:=D.iv;have aM:=J T;by_cases U:b.H=a.U.length
  .have h:Y (b.hu j a c 3=x):=by rw[Y,<-P,G U]
   have q:Y (mu a 3 b<c):=by
    rw[Y];unfold mu at E|-;simp at E|-;omega
   have aA:((b.H:Int)==a.U.length)=true:=qB
   have aI:(b.H==a.U.length)=true:=qB
   go_wp21;go_region
   all_goals
    go_wp21;go_step3;exact⟨Q,c,Q,(by unfold Qqm;(repeat apply Exists.intro);rfl),b,a8.drewN 1,Kk M,q,h⟩
  have h:Y (({b with bg:=1}:Ed).hu j a c 2=x):=by rw[Y,<-P,N U]
  have aG:Y (Good a r 2 {b with bg:=1}):=⟨D.iv.jp b.H 1 b.ck b.put D.iv.H,λ_=>qC,λ_=>qD,λ_ e=>by simp at e,λ_ e=>by simp at e,.inl T⟩;have q:Y (mu a 2 {b with bg:=1}<c):=by
   rw[Y];unfold mu at E|-;have a0:({b with bg:=1}:Ed).more=b.more:=rfl;rw[a0];simp at E|-;omega
  have aA:((b.H:Int)==a.U.length)=false:=qB
  have aI:(b.H==a.U.length)=false:=qB
  have a0:Y (Ok C i a K {b with bg:=1} ((v.setCell (O i 15)<|I 1).drewN 1)):=(a8.put (E':={b with bg:=1})<|λaB a1=>⟨(bf.refl _ _).setCell _ _,jx a1.row 15 _ Q rfl⟩).drewN 1;go_wp21;go_region
  all_goals
   go_wp21;refine wp_label ?_;rename_i o;exact o _ _<|aC F c _ _ Q ⟨(by unfold Qqm;(repeat apply Exists.intro);rfl),_,a0,aG,q,h⟩
 case s2=>
  intro D F g Z v W z
  obtain⟨⟨_,_,_,_,_,_,_,_,_,_,_,_,_,_,_,_,_,_,_,_,_,_,_,_,_,_,_,_,_,_,_,_,_,_,_,_,_,_,_,_,_,_,_,_,_,_,_,_,rfl⟩,b,d,n,l,k⟩:=z;have q:=J l;have P:=J k;have aE:=d.cell (k:=14)<|λ_=>rfl;have T:=d.cd 14;have a0:Y (Ok C i a K {b with H:=0} (v.setCell (O i 14)<|I 0)):=d.put (E':={b with H:=0}) (λaB a1=>⟨(bf.refl _ _).setCell _ _,jx a1.row 14 _ Q rfl⟩);have E:Y _:=D;go_wp21;refine wp_label ?_;rename_i o;exact o _ _<|E F g _ _ W ⟨(by unfold Qqm;(repeat apply Exists.intro);rfl),_,a0,n,q,P⟩
 case s1=>
  intro E F g Z v W z
  obtain⟨⟨_,_,_,_,_,_,_,_,_,_,_,_,_,_,_,_,_,_,_,_,_,_,_,_,_,_,_,_,_,_,_,_,_,_,_,_,_,_,_,_,_,_,_,_,_,_,_,_,rfl⟩,b,d,n,l,k⟩:=z;have P:Good a r 0 b:=n;have U:mu a 0 b<g:=l;obtain⟨c,rfl⟩:∃c,g=c+1:=⟨g-1,Q⟩;have T:b.hu j a (c+1) 0=x:=k;rw[zt]at T;have s:=P.iv.Mg H o;have a5:=d.cell (k:=15)<|λ_=>rfl;have aF:=d.cd 15;have a0:Y (Ok C i a K {b with bg:=0} (v.setCell (O i 15)<|I 0)):=d.put (E':={b with bg:=0}) (λaB a1=>⟨(bf.refl _ _).setCell _ _,jx a1.row 15 _ Q rfl⟩);let⟨L,B,qa⟩:=a0.out;have u:=So i a {b with bg:=0} L _ B (bq s.number Q) s.next
  have a2:=Sq H P;have D:Y _:=T;have V:Y _:=a2;have a3:Y _:=E;generalize({b with bg:=0}:Ed).mi a=a7 at u D V;have y:=J U;let⟨f,s⟩:=a7;go_wp21;go_call u;rintro e S ⟨rfl,d⟩;have p:Y (Ok C i a K f S):=by
   let⟨R,t,w⟩:=d;exact⟨R,t,qa.trans w⟩
  obtain l|l:=df s<;>subst l
  .have h:=J D;have k:Good a r 1 {f with H:=0}/\mu a 1 {f with H:=0}<mu a 0 b:=by
    obtain⟨_,d,E⟩|⟨d,_⟩:=V
    .exact⟨d,E⟩
    cases d
   have n:=k.1;have q:Y (mu a 1 {f with H:=0}<c):=ew k.2 Q;go_wp21;refine wp_label ?_;rename_i o;exact o _ _<|a3 F c _ _ Q ⟨(by unfold Qqm;(repeat apply Exists.intro);rfl),f,p,n,q,h⟩
  have h:=J D;go_wp21;go_returns;refine⟨rfl,?_⟩;rw[<-h.out];exact p
 intro d
 have k:Y _:=d;by_cases A:m.bg=0
 .have d:Y (Good a r 0 m):=by have:=a4;rw[G A]at this;exact this
  have D:Y (m.hu j a 10000 0=x):=by have:=X.out;rw[G A]at this;exact this
  rw[A]at a5;go_wp21;refine wp_label ?_;rename_i o;exact o _ _<|k 10000 _ _ ⟨(by unfold Qqm;(repeat apply Exists.intro);rfl),m,Ok.refl a6,d,Gt (K:=r) H,D⟩
 have d:Y (Good a r 2 m):=by have:=a4;rw[N A]at this;exact this
 have D:Y (m.hu j a 10000 2=x):=by have:=X.out;rw[N A]at this;exact this
 have aH:((m.bg:Int)==0)=false:=qB
 have aA:((m.bg:Int) !=0)=true:=qB
 go_wp21;go_step3;exact⟨Q,10000,(by unfold Qqm;(repeat apply Exists.intro);rfl),m,Ok.refl a6,d,Gt (K:=r) H,D⟩
def Sg(a:Ed)(b:UInt8):(a.add b).more=true:=by
 unfold Ed.add;split
 .simp[Ed.more]
 simp[Ed.more]
theorem akh{e:Cf}{d:Ed}(c:Iv e a b d)(f:UInt8):Iv e (a+1) b (d.add f):=by
 have g:=c.num;have h:d.number<=a:=Q
 unfold Ed.add;split
 .exact⟨c.L,c.bt,c.ny,c.bo,c.cx,c.H,qE,by have:=c.next;simp only;omega,c.wn,c.ca⟩
 exact⟨c.L,c.bt,c.ny,c.bo,c.cx,c.H,qE,by have:=c.next;grind,c.wn,c.ca⟩
theorem Jt(a:Ed)(b:UInt8):(a.add b).bg=a.bg/\(a.add b).H=a.H/\(a.add b).ck=a.ck/\(a.add b).dq=a.dq:=by
 grind[Ed.add]
theorem Ys{a:Ed}(b:a.ru=true):a.ck=0/\a.dq=false:=by
 unfold Ed.ru at b;grind
def Nn{g:Cf}{b:Ed}(k:Rest g a b)(j:b.ru=true)(c:UInt8):Good g (a+1) (if(b.add c).bg=0 then 0 else 2) (b.add c):=by
 let⟨h,_⟩:=Ys j;have e:=k.2 h;let⟨f,i,l,m⟩:=Jt b c;rw[f];refine⟨by rw[f];exact akh e.iv c,λd=>by rw[i];exact e.lt d,λd=>by rw[f];exact e.st d,λd=>by rw[f,i];exact e.rd d,λ_ _=>Sg b c,?_⟩;omega
def Om{d:Cf}{c:Ed}(g:Rest d a c)(e:c.ru=true):Good d a (if({c with dq:=true}:Ed).bg=0 then 0 else 2) {c with dq:=true}:=by
 let⟨f,_⟩:=Ys e;have b:=g.2 f;exact⟨⟨b.iv.L,b.iv.bt,b.iv.ny,b.iv.bo,b.iv.cx,b.iv.H,b.iv.num,b.iv.next,b.iv.wn,b.iv.ca⟩,b.lt,b.st,b.rd,b.mr,b.run⟩
def Rest.more{e:Cf}{d:Ed}(b:Rest e a d):Rest e (a+1) d:=by
 have f:∀{g:Nat},Iv e a g d->Iv e (a+1) g d:=λb=>⟨b.L,b.bt,b.ny,b.bo,b.cx,b.H,by have:=b.num;omega,by have:=b.next;omega,b.wn,b.ca⟩
 exact⟨f b.1,λc=>⟨f (b.2 c).iv,(b.2 c).lt,(b.2 c).st,(b.2 c).rd,(b.2 c).mr,(b.2 c).run⟩⟩
def an0{i:Mf}{b:Cf}{c:Ed}(f:gx b)(g:a+1<=2000000)(e:Rest b a c)(d:UInt8):Rest b (a+1) (c.sc i b d):=by
 unfold Ed.sc;split
 .rename_i h;exact Rb f g<|Nn e h d
 exact e.more
theorem acj{mf:Mf}{e:Cf}(f:gx e):∀(b:List UInt8)(a:Nat)(d:Ed),a+b.length<=2000000->Rest e a d->Rest e (a+b.length) (d.ly mf e b)
 | [],a,d,_,h=>h
 |c::b,a,d,hK,h=>by
  have:=acj (mf:=mf) f b (a+1) (d.sc mf e c) qE (an0 f qE h c);rw[xv,show a+(b.length+1)=a+1+b.length from Q];exact this
def ano{h:Mf}{b:Cf}{c:Ed}(e:gx b)(f:a<=2000000)(d:Rest b a c):Rest b a (c.rh h b):=by
 unfold Ed.rh;split
 .rename_i g;exact Rb e f<|Om d g
 exact d
def Ot{e:Mf}{b:Cf}:∀(d:List UInt8)(a:Ed),a.ru=false->a.ly e b d=a
 | [],a,_=>rfl
 |c::d,a,h=>by
  have f:a.sc e b c=a:=by rw[Ed.sc,N<|by rw[h];simp]
  show(a.sc e b c).ly e b d=a
  rw[f];exact Ot d a h
def an4(b:Mf)(a:Cf)(c:Ed)(e:List UInt8)(d:UInt8):c.ly b a (e++[d])=(c.ly b a e).sc b a d:=by
 rw[Ed.ly,yxk];rfl
def an2(b:Mf)(a:Cf)(c:Ed)(d e:List UInt8):c.ly b a (d++e)=(c.ly b a d).ly b a e:=by
 unfold Ed.ly;rw[yxk]
def an1(d:Mf)(C:fj d)(i:Nat)(b:Cf)(m:Nat)(f:Ed)(n:Ev)(a:ag)(k:ae)(V:At k i b f n)(D:gx b)(X:m+a.size<=2000000)(E:Rest b m f):
  Calls prog 29 #[.pointer<|some ⟨i,0,none⟩,.string a] k (WQ b i (f.ly d b<|Qjj a) k n):=by
 have S:=J C;have T:=J E;have H:=J<|jn a;go_in;go_wp21;go_loopw [4] (λz wr=>∃(c:Nat),c<=a.size/\z=I c/\Y (Ok k i b n (f.ly d b<|(Qjj a).take c) wr)/\Y (Rest b (m+c)<|f.ly d b<|(Qjj a).take c)) (λz _=>a.size+1-(intOf z).toNat)
 .exact⟨0,Q,rfl,Ok.refl V,T⟩
 obtain⟨c,Z,rfl,r,x⟩:=hrel;by_cases g:c<a.size
 .have j:c<(Qjj a).length:=by rw[H.out];exact g
  have s:Y (f.ly d b ((Qjj a).take<|c+1)=(f.ly d b<|(Qjj a).take c).sc d b (a[c]'g)):=by
   rw[Y,yzj,dy j,yxg,an4];rfl
  have F:Y (f.ly d b (Qjj a)=(f.ly d b<|(Qjj a).take c).ly d b ((Qjj a).drop c)):=by rw[Y,<-an2,yzh]
  generalize f.ly d b ((Qjj a).take c)=e at r x s F;let⟨t,y,K⟩:=r.out;have h:=ai2 i b e t wr y;obtain l|l:=df e.ru
  .rw[l]at h;have p:=J l;have P:e.next.length<=70368744177664:=by have:=x.1.next;omega
   go_wp21;go_call h;rintro w U ⟨rfl,q,rfl⟩;go_wp21;go_region_with (first
    |(go_at_call 49;(have h:=as8 i b e t _ (a[c]'g) ((y.drewN q).drew) P;go_call h;rintro w w3 ⟨rfl,o⟩;have qa:Y (Ok k i b n (e.add<|a[c]'g) w3):=(by let⟨u,v,j⟩:=o;exact⟨u,v,K.trans ⟨j.os,j.tape,j.output,j.size,j.block,j.rp,j.cm⟩⟩);clear h o)))
   all_goals
    have L:Good b (m+c+1) (if(e.add<|a[c]'g).bg=0 then 0 else 2) (e.add<|a[c]'g):=Nn x p _;have A:Y (e.sc d b (a[c]'g)=(e.add<|a[c]'g).work d b):=by rw[Y,Ed.sc,G p.out]
    have R:Y (Rest b (m+(c+1))<|(e.add<|a[c]'g).work d b):=Rb D Q L;let⟨u,B,M⟩:=qa;have h:=aju d S i b (m+c+1) (e.add<|a[c]'g) u w3 B D Q L;go_wp21;go_call h;rintro w w4 ⟨rfl,o⟩;have B:Y (Ok k i b n ((e.add<|a[c]'g).work d b) w4):=by
     let⟨W,v,j⟩:=o;exact⟨W,v,M.trans j⟩
    go_wp21;go_roundw
    .exact⟨c+1,Q,qJ,by rw[s.out,A.out];exact B,by rw[s.out,A.out];exact R⟩
    simp[intOf];omega
  rw[l]at h;have p:Y (f.ly d b (Qjj a)=e):=by rw[Y,F.out,Ot _ _ l]
  go_wp21;go_call h;rintro w U ⟨rfl,q,rfl⟩;go_wp21;go_returns;refine⟨rfl,?_⟩;rw[p.out];exact⟨t,y.drewN q,K.drewN q⟩
 have h:c=a.size:=Q
 have e:Y ((Qjj a).take c=Qjj a):=by rw[Y,h,<-H.out];exact yzc
 have j:Y (Ok k i b n (f.ly d b<|Qjj a) wr):=by have:=r.out;rw[e.out]at this;exact this
 go_wp21;go_returns;exact⟨rfl,j⟩
def anm(f:Mf)(o:fj f)(e:Nat)(a:Cf)(k:Nat)(b:Ed)(i:Ev)(g:ae)(h:At g e a b i)(z:gx a)(A:k<=2000000)(p:Rest a k b):
  Calls prog 32 #[.pointer<|some ⟨e,0,none⟩] g (WQ a e (b.rh f a) g i):=by
 have B:=J o;have C:=J p;have E:=h.xc 3;have F:=h.cd 3;have d:=ai2 e a b i g h;obtain c|c:=df b.ru
 .rw[c]at d;have l:Y (b.rh f a=({b with dq:=true}:Ed).work f a):=by rw[Y,Ed.rh,G c]
  have D:=Om C c;go_in;go_wp21;go_call d;rintro n q ⟨rfl,j,rfl⟩;have r:Y (Ok g e a i {b with dq:=true} ((g.drewN j).setCell (O e 3)<|.bool true)):=((Ok.refl h).drewN j).put (λH s=>⟨(bf.refl _ _).setCell _ _,jx s.row 3 _ Q rfl⟩);go_wp21;let⟨t,m,x⟩:=r;have d:=aju f B e a k {b with dq:=true} t _ m z A D;go_call d;rintro n w4 ⟨rfl,m⟩;have y:Y (Ok g e a i (({b with dq:=true}:Ed).work f a) w4):=by
   let⟨u,v,w⟩:=m;exact⟨u,v,x.trans w⟩
  go_wp21;go_returns;exact⟨rfl,by rw[l.out];exact y⟩
 rw[c]at d;have l:Y (b.rh f a=b):=by rw[Y,Ed.rh,N<|by rw[c];simp]
 go_in;go_wp21;go_call d;rintro n q ⟨rfl,j,rfl⟩;go_wp21;go_returns;exact⟨rfl,by rw[l.out];exact(Ok.refl h).drewN j⟩
def ajw(f:Cf)(a:Ed)(h:Ev)(c:ae)(b:At c i f a h)(l:a.ca<=a.out.length)(m:a.out.length<=70368744177664):
  Calls prog 51 #[.pointer<|some ⟨i,9,none⟩] c (Qzt c<|I a.ud):=by
 have e:=b.xc 9;have j:=b.xc 10;let⟨n,k,d⟩:=yq b.ot;rw[d]at e;have g:Y ((a.ud:Int)=a.out.length-(a.ca:Int)):=by rw[Y,Ed.ud];omega
 rw[g.out];generalize a.out.length=o at*
 generalize a.ca=d at*
 go_in;go_wp21;go_region
 all_goals go_wp21
 all_goals go_ret
 all_goals exact⟨qJ,1,rfl⟩
def atg(d:Cf)(a:Ed)(f:Ev)(b:ae)(e:At b i d a f)(g:a.ca<=a.out.length)(h:a.out.length<=70368744177664):
  Calls prog 30 #[.pointer<|some ⟨i,0,none⟩] b (Qzt b<|I a.ud):=by
 have c:=ajw i d a f b e g h;go_in;go_wp21;go_call c;rintro k l ⟨rfl,j,rfl⟩;go_wp21;go_ret;exact⟨rfl,j,rfl⟩
def au7(d:Cf)(b:Ed)(e:Ev)(a:ae)(c:At a i d b e):
  Calls prog 33 #[.pointer<|some ⟨i,0,none⟩] a (Qzt a<|I b.ck):=by
 have f:=c.xc 20;go_in;go_wp21;go_ret;exact⟨rfl,0,rfl⟩
def Ed.re(E:Ed)(o:List UInt8)(t:Nat):Ed:={E with out:=o,ca:=t}
def Pu(f:Ed->Ed):Prop:=∀(E:Ed)(o:List UInt8)(t:Nat),∃d,(f E).out=E.out++d/\(f E).ca=E.ca/\f (E.re o t)=(f E).re (o++d) t
def Dp(f:Ed->Ed×Nat):Prop:=∀(E:Ed)(o:List UInt8)(t:Nat),∃d,(f E).1.out=E.out++d/\(f E).1.ca=E.ca/\f (E.re o t)=((f E).1.re (o++d) t,(f E).2)
def PuB(f:Ed->Ed×Bool):Prop:=∀(E:Ed)(o:List UInt8)(t:Nat),∃d,(f E).1.out=E.out++d/\(f E).1.ca=E.ca/\f (E.re o t)=((f E).1.re (o++d) t,(f E).2)
def Hp(f:Ed->Option Ed):Prop:=∀(E:Ed)(o:List UInt8)(t:Nat),(f E=none/\f (E.re o t)=none)\/∃E1 d,f E=some E1/\E1.out=E.out++d/\E1.ca=E.ca/\f (E.re o t)=some (E1.re (o++d) t)
def Ha(b:Ed->ag)(e:∀a d c,b (a.re d c)=b a):Pu λa=>a.print (b a):=λa d c=>⟨Qjj (b a)++[10],by simp[Ed.print,nt],rfl,by simp only[e];simp[Ed.print,Ed.re,nt]⟩
theorem Px{b c:Ed->Ed}(g:Pu b)(h:Pu c):Pu λa=>c (b a):=λa e d=>by
 let⟨f,i,j,k⟩:=g a e d;let⟨l,m,n,o⟩:=h (b a) (e++f) d;grind
theorem agi(b:Cf):Pu (Ed.ja b):=λa c d=>by
 unfold Ed.ja;split
 .simp_all
 exact Ha (λa=>a.L) (λ_ _ _=>rfl) a c d
def agh:∀(b:List ag),Pu λa=>a.lp b
 | []=>λa c d=>⟨[],by simp[Ed.lp],rfl,by simp[Ed.lp]⟩
 |x::b=>λa c d=>Px (Ha (λ_=>x)<|λ_ _ _=>rfl) (agh b) a c d
def clr(E:Ed):Ed:={E with cy:=[]}
def Wz:Pu Ed.fq:=λa b c=>by
 let⟨e,h,i,j⟩:=agh a.cy a b c;have f:∀d:Ed,d.fq=clr (d.lp d.cy):=λ_=>rfl
 have g:(a.re b c).lp a.cy=(a.lp a.cy).re (b++e) c:=j;refine⟨e,h,i,?_⟩;rw[f,f];show clr ((a.re b c).lp a.cy)=_
 rw[g];rfl
def agj(b:Cf)(f:Bool):PuB (Ed.ej b f):=λa c d=>by
 have j:(a.re c d).sk b=a.sk b:=rfl;have k:(a.re c d).next=a.next:=rfl
 have l:∀h,(a.re c d).read.vu b f h=(a.read.vu b f h).map (λa=>a.re c d):=λh=>by
  have i:∀g,(a.re c d).read.kz b g=(a.read.kz b g).map (λa=>a.re c d):=λg=>by
   unfold Ed.kz;by_cases e:b.space<g.size
   .rw[G e,G e];rfl
   rw[N e,N e];rfl
  unfold Ed.vu Ed.grow;split
  .exact i _
  exact i _
 unfold Ed.ej;rw[j,k,l];by_cases e:a.sk b=true
 .rw[G e,G e];exact⟨[],qD,rfl,by simp[Ed.re]⟩
 rw[N e,N e];cases g:a.read.vu b f (ce a.next)with
 |none=>exact⟨[],by simp[Ed.read],rfl,by simp[Ed.re,Ed.read]⟩
 |some i=>
  obtain⟨m,rfl,_⟩:=Zc g;exact⟨[],by simp[Ed.read],rfl,by simp[Ed.re,Ed.read]⟩
theorem asr(b:Cf):PuB (Ed.mi b):=λa c d=>by
 have e:(a.re c d).mh b=a.mh b:=rfl;have f:(a.re c d).more=a.more:=rfl;unfold Ed.mi;rw[e,f];split
 .split
  .exact agj b false a c d
  exact⟨[],qD,rfl,by simp[Ed.re]⟩
 simp_all
theorem as9(b:Mf)(a:Ed)(f:Cm)(d:List UInt8)(e:Nat):(a.re d e).gz b f=((a.gz b f).1.re d e,(a.gz b f).2)/\(a.gz b f).1.out=a.out/\(a.gz b f).1.ca=a.ca:=by
 have h:∀c,(a.re d e).jl b c=a.jl b c:=λc=>rfl
 have i:∀c g,(a.re d e).qa b c g=a.qa b c g:=λc g=>rfl
 simp only[Ed.gz,h,i];split
 .grind
 have j:(a.re d e).bo=a.bo:=rfl;have k:(a.re d e).H=a.H:=rfl;rw[j,k];split
 .grind
 split
 .exact⟨rfl,rfl,rfl⟩
 grind
theorem Py{b:Ed->Ed}(i:Pu b):Hp λa=>some (b a):=λa c d=>by
 let⟨h,e,f,g⟩:=i a c d;grind
theorem agn(f:Cf)(b:Ed->ag)(e:∀a c d,b (a.re c d)=b a):Hp λa=>a.kz f (b a):=λa c d=>by
 simp only[e];unfold Ed.kz;split
 .grind
 exact .inr ⟨_,[],rfl,qD,rfl,by simp[Ed.re]⟩
theorem ago(f:Cf)(b:Ed->ag)(e:∀a c d,b (a.re c d)=b a):Hp λa=>a.holds f (b a):=λa c d=>by
 simp only[e];unfold Ed.holds;split
 .grind
 exact .inr ⟨_,[],rfl,qD,rfl,by simp[Ed.re]⟩
theorem as0(e:Mf)(b:Cf)(h:Cm):Hp λa=>a.subst e b h:=λa f g=>by
 have i:(a.re f g).L=a.L:=rfl;have j:∀d,(a.re f g).kz b d=(a.kz b d).map (λa=>a.re f g):=λd=>by
  unfold Ed.kz;by_cases c:b.space<d.size
  .rw[G c,G c];rfl
  rw[N c,N c];rfl
 simp only[Ed.subst,i,j];split
 .cases c:a.kz b (sf e h a.L).1 with
  |none=>grind
  |some k=>
   obtain⟨rfl,_⟩:=Hy c;simp only[yxq];split
   .exact .inr ⟨_,Qjj (sf e h a.L).1++[10],rfl,by simp[Ed.print,nt],rfl,by simp[Ed.print,Ed.re,nt]⟩
   exact .inr ⟨_,[],rfl,qD,rfl,by simp[Ed.re]⟩
 simp_all
theorem asz(g:Mf)(d:Cf)(b:Cm):Hp λa=>a.ea g d b:=by
 have y:=Py<|Ha (λa=>a.L)<|λ_ _ _=>rfl;have z:=Py<|Ha (λa=>qh a.L)<|λ_ _ _=>rfl;have w:=Py<|Ha (λa=>itoa a.number)<|λ_ _ _=>rfl;have x:=Py<|Ha (λ_=>b.text)<|λ_ _ _=>rfl;have s:∀(n:Ed->Ed),(∀a e f,n (a.re e f)=(n a).re e f)->(∀a,(n a).out=a.out/\(n a).ca=a.ca)->Hp λa=>some (n a):=λn A v a e f=> .inr ⟨n a,[],rfl,by simp[(v a).1],(v a).2,by simp[A]⟩
 intro a e f
 by_cases h:b.R=5
 .have c:∀a:Ed,a.ea g d b=some (a.print a.L):=λa=>by rw[Ed.ea,G h]
  simp only[c];exact y a e f
 by_cases i:b.R=6
 .have c:∀a:Ed,a.ea g d b=some (a.print<|qh a.L):=λa=>by rw[Ed.ea,N h,G i]
  simp only[c];exact z a e f
 by_cases j:b.R=12
 .have c:∀a:Ed,a.ea g d b=some (a.print<|itoa a.number):=λa=>by rw[Ed.ea,N h,N i,G j]
  simp only[c];exact w a e f
 by_cases k:b.R=14
 .have c:∀a:Ed,a.ea g d b=some {a with cy:=a.cy++[b.text]}:=λa=>by rw[Ed.ea,N h,N i,N j,G k]
  simp only[c];exact s (λa=>{a with cy:=a.cy++[b.text]}) (λ_ _ _=>rfl) (λ_=>⟨rfl,rfl⟩) a e f
 by_cases l:b.R=15
 .have c:∀a:Ed,a.ea g d b=some (a.print b.text):=λa=>by rw[Ed.ea,N h,N i,N j,N k,G l]
  simp only[c];exact x a e f
 by_cases m:b.R=7
 .have c:∀a:Ed,a.ea g d b=a.kz d a.bt:=λa=>by rw[Ed.ea,N h,N i,N j,N k,N l,G m]
  simp only[c];exact agn d (λa=>a.bt) (λ_ _ _=>rfl) a e f
 by_cases o:b.R=8
 .have c:∀a:Ed,a.ea g d b=a.kz d (a.L++gp++a.bt):=λa=>by rw[Ed.ea,N h,N i,N j,N k,N l,N m,G o];rfl
  simp only[c];exact agn d (λa=>a.L++gp++a.bt) (λ_ _ _=>rfl) a e f
 by_cases p:b.R=9
 .have c:∀a:Ed,a.ea g d b=a.holds d a.L:=λa=>by rw[Ed.ea,N h,N i,N j,N k,N l,N m,N o,G p]
  simp only[c];exact ago d (λa=>a.L) (λ_ _ _=>rfl) a e f
 by_cases q:b.R=10
 .have c:∀a:Ed,a.ea g d b=a.holds d (a.bt++gp++a.L):=λa=>by rw[Ed.ea,N h,N i,N j,N k,N l,N m,N o,N p,G q]
  simp only[c];exact ago d (λa=>a.bt++gp++a.L) (λ_ _ _=>rfl) a e f
 by_cases r:b.R=11
 .have c:∀a:Ed,a.ea g d b=some {a with L:=a.bt,bt:=a.L}:=λa=>by rw[Ed.ea,N h,N i,N j,N k,N l,N m,N o,N p,N q,G r]
  simp only[c];exact s (λa=>{a with L:=a.bt,bt:=a.L}) (λ_ _ _=>rfl) (λ_=>⟨rfl,rfl⟩) a e f
 by_cases t:b.R=19
 .have c:∀a:Ed,a.ea g d b=a.subst g d b:=λa=>by rw[Ed.ea,N h,N i,N j,N k,N l,N m,N o,N p,N q,N r,G t]
  simp only[c];exact as0 g d b a e f
 by_cases u:b.R=20
 .have c:∀a:Ed,a.ea g d b=some {a with L:=trans b.la b.oo a.L}:=λa=>by rw[Ed.ea,N h,N i,N j,N k,N l,N m,N o,N p,N q,N r,N t,G u]
  simp only[c];exact s (λa=>{a with L:=trans b.la b.oo a.L}) (λ_ _ _=>rfl) (λ_=>⟨rfl,rfl⟩) a e f
 have c:∀a:Ed,a.ea g d b=some a:=λa=>by rw[Ed.ea,N h,N i,N j,N k,N l,N m,N o,N p,N q,N r,N t,N u]
 simp_all
