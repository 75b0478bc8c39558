import Derived.Test.YtppjlpihaocdiaaGreatDoorAmQ
set_option linter.all false
set_option maxRecDepth 100000
set_option maxHeartbeats 16000000
namespace Go.Proofs.YtppjlpihaocdiaaGreatDoor
open Go.RowKit Go.Proofs.Tryz
variable{w u v:ae}{a b c d e:Nat}{s t:ag}{x y z:af}{p D:Int}{l:List af}{f:Bool}{g:List Nat}{h:Nat->Prop}{o:Option Addr}{r:List UInt8}{A:Nat->Bool}{B:Nat->Nat->Bool}{C:Nat->Nat->Prop}(i:Nat)(S T:ag)(V X:af)(j k m n:Nat)(Z:Int)(W:ae)
def yq{d:TypeId}{xs:List af}(h:w.ownsRow a d b x c xs):∃e f,x=.slice e c f:=by
 rcases h.2 with⟨d,g⟩|⟨j,i,_,d,_⟩
 .exact⟨none,0,by rw[d,g]⟩
 exact⟨_,_,d⟩
def At.cell{e:ae}{b:Nat}{c:Cf}{a:Ed}{d:Ev}(h:At e b c a d){k:Nat}{f:af}(g:(pb c a d)[k]?=some f):e.cell? (O b k)=some f:=h.row.cell g
def At.xc{e:ae}{b:Nat}{c:Cf}{a:Ed}{d:Ev}{f:af}(h:At e b c a d)(k:Nat)(g:(pb c a d)[k]?=some f:=by exact rfl):e.cell? (O b k)=some f:=h.row.cell g
def At.cd{e:Cf}{c:Ed}{g:Ev}(f:At w a e c g)(b:Nat)(d:b<21:=by omega):w.frozen? (O a b)=false:=f.row.frozen (by rw[Eb];exact d)
def Qzt(w:ae)(x:af)(e:Ending)(w':ae):Prop:=e=.returned x/\∃n,w'=w.drewN n
def Yy(b:Cf)(a:Ed)(m:Ev)(h:ae)(c:At h i b a m):Calls prog 165 #[.pointer<|some ⟨i,0,none⟩] h (Qzt h<|.bool<|a.sk b):=by
 have o:=c.xc 0;have j:=c.xc 1;have⟨p,n,g⟩:=yq c.nx;rw[g]at j;have d:Y (a.sk b=decide (b.line<a.next.length)):=rfl;by_cases e:b.line<a.next.length
 .have f:Y (a.sk b=true):=by rw[Y,d.out];simpa using e
  have l:decide (b.line<a.next.length)=true:=by simp;omega
  go_in;go_wp21;go_region;go_wp21;go_ret;exact⟨(by rw[f.out];rfl),1,rfl⟩
 have f:Y (a.sk b=false):=by rw[Y,d.out];simpa using e
 have l:decide (b.line<a.next.length)=false:=by simp;omega
 go_in;go_wp21;go_region;go_wp21;go_ret;exact⟨(by rw[f.out];rfl),1,rfl⟩
def Kx(n:Cf)(E:Ed)(p:Ev)(h:ae)(c:At h i n E p):Calls prog 116 #[.pointer<|some ⟨i,0,none⟩] h (Qzt h<|.tuple #[.bool E.more,.bool E.known]):=by
 have j:=c.xc 1;have o:=c.xc 2;have q:=c.xc 3;have⟨s,t,f⟩:=yq c.nx;rw[f]at j;have a:Y (E.more=(E.whole||decide (E.next≠[]))):=rfl;have e:Y (E.known=(E.more||E.dq)):=rfl;have g:decide (E.next≠[])=decide (0<E.next.length):=by
  rw[decide_eq_decide,List.length_pos_iff]
 have b:=J g;generalize E.next.length=g at j b
 generalize k:E.whole=f at o a;generalize l:E.dq=r at q e;clear k l;have k:Y (E.more=(f||decide (0<g))):=by rw[Y,a.out,b.out]
 clear a b;by_cases l:0<g
 .have m:decide ((g:Int)>0)=true:=by simp;omega
  have a:Y (E.more=true):=by rw[Y,k.out];simp[l]
  have b:Y (E.known=true):=by rw[Y,e.out,a.out];rfl
  rcases df f with d|d<;>subst d
  all_goals (
   go_in;go_wp21;go_region
   all_goals go_wp21
   all_goals go_ret2
   all_goals exact⟨(by rw[a.out,b.out];rfl),1,rfl⟩)
 have a:Y (E.more=f):=by rw[Y,k.out];simp[l]
 rcases df f with d|d<;>subst d
 .have b:Y (E.known=true):=by rw[Y,e.out,a.out];rfl
  go_in;go_wp21;go_region
  all_goals go_wp21
  all_goals go_ret2
  all_goals exact⟨(by rw[a.out,b.out];rfl),1,rfl⟩
 have b:Y (E.known=r):=by rw[Y,e.out,a.out];rfl
 go_in;go_wp21;go_region
 all_goals go_wp21
 all_goals go_ret2
 all_goals exact⟨(by rw[a.out,b.out];rfl),1,rfl⟩
def Jv(a:Cf)(E:Ed)(h:Ev)(g:ae)(f:At g i a E h):Calls prog 115 #[.pointer<|some ⟨i,0,none⟩] g (Qzt g<|.bool<|E.mh a):=by
 have k:=f.xc 2;have l:=f.xc 3;have c:Y (E.mh a=(E.whole||E.dq||E.sk a)):=rfl;generalize b:E.whole=m at k c;generalize j:E.dq=o at l c;rcases df m with d|d<;>subst d
 .have b:Y (E.mh a=true):=by rw[Y,c.out];rfl
  go_in;go_wp21;go_ret;exact⟨(by rw[b.out];rfl),0,rfl⟩
 rcases df o with d|d<;>subst d
 .have b:Y (E.mh a=true):=by rw[Y,c.out];rfl
  go_in;go_wp21;go_ret;exact⟨(by rw[b.out];rfl),0,rfl⟩
 have b:Y (E.mh a=E.sk a):=by rw[Y,c.out];rfl
 go_in;go_wp21;go_call Yy as e r ⟨rfl,n,rfl⟩;go_wp21;go_ret;exact⟨(by rw[b.out];rfl),n,rfl⟩
def ai2(h:Cf)(a:Ed)(m:Ev)(f:ae)(e:At f i h a m):Calls prog 48 #[.pointer<|some ⟨i,0,none⟩] f (Qzt f<|.bool a.ru):=by
 have k:=e.xc 3;have j:=e.xc 20;have b:Y (a.ru=(decide (a.ck=0)&& !a.dq)):=rfl;generalize a.ck=g at j b;generalize a.dq=l at k b;by_cases d:g=0
 .subst d;have c:Y (a.ru= !l):=by rw[Y,b.out];simp
  go_in;go_wp21;go_ret;exact⟨(by rw[c.out];rfl),0,rfl⟩
 have c:Y (a.ru=false):=by rw[Y,b.out];simp[d]
 have n:((g:Int)==0)=false:=by simp;omega
 go_in;go_wp21;go_ret;exact⟨(by rw[c.out];rfl),0,rfl⟩
section
def Qzm(N:Nat):Prop:=∀(b:Nat)(p:bs)(X:Nat->Prop)(s:ag)(nv:af)(st:St)(w:ae),Dr w b s p nv X->iu s->Gd p.l->p.l.length<=300+2*p.H->p.g<=p.H->(∀q,X q->q<w.heap.size)->run s p.H=some st->st.m=0->s.size-p.H<N->
  Calls prog 184 #[.pointer<|some ⟨b,0,none⟩] w λe w'=>∃nv',e=.returned (.int .i64 ((dz s N p).2:Nat))/\Dr w' b s (dz s N p).1 nv' X/\Qql b nv nv' w w'
structure Qzi(N:Nat)(w:ae)(b:Nat)(p:bs)(X:Nat->Prop)(s:ag)(nv:af)(st:St):Prop where
 dr:Dr w b s p nv X
 W:iu s
 gd:Gd p.l
 zg:p.l.length<=300+2*p.H
 gc:p.g<=p.H
 X:∀q,X q->q<w.heap.size
 rn:run s p.H=some st
 m2:st.m<=2
 lt:p.H<s.size
 N:s.size-p.H<=N
 st:bn mb (au s p.H)=false
structure Qzn(w wr:ae)(b:Nat)(s:ag)(p:bs)(nv nv':af)(X:Nat->Prop)(M:Nat)(d:Nd)(sv:af):Prop where
 row:bd wr M (dk d sv)
 dr:Dr wr b s p nv' (λk=>X k\/k=M)
 fr:Qql b nv nv' w wr
 new:w.heap.size<=M
 bM:b<M
 nM:nv'.ownBlock≠some M
section
variable {w wr w':ae} {b:Nat} {s:ag} {p:bs} {nv nv':af} {X:Nat->Prop} {M:Nat} {d:Nd} {sv:af}
def Qzn.lt(a:Qzn w wr b s p nv nv' X M d sv):M<wr.heap.size:=a.row.lt (by rw[gy];omega)
def Qzn.put(a:Qzn w wr b s p nv nv' X M d sv){d':Nd}(c:bf M wr w')(e:bd w' M (dk d' x)):Qzn w w' b s p nv nv' X M d' x:=
 ⟨e,a.dr.bj c (by have:=a.bM;omega) a.nM<|.inr rfl,Fr.bj a.fr c a.new,a.new,a.bM,a.nM⟩
def Qzn.only(a:Qzn w wr b s p nv nv' X M d sv){f:bs}(c:eh b wr w')(hd:Dr w' b s f nv' (λe=>X e\/e=M)):Qzn w w' b s f nv nv' X M d sv:=
 ⟨bd.only a.row c (by have:=a.bM;omega),hd,a.fr.trans<|eh.fr c nv',a.new,a.bM,a.nM⟩
def Qzn.grow(a:Qzn w wr b s p nv nv' X M d sv)(c:Below wr.heap.size wr w'):Qzn w w' b s p nv nv' X M d sv:=
 ⟨a.row.below c a.lt,a.dr.grow c,a.fr.trans<|Below.Qqr c nv',a.new,a.bM,a.nM⟩
def Qzn.call(a:Qzn w wr b s p nv nv' X M d sv){h:bs}(e:Qql b nv' x wr w')(hd:Dr w' b s h x (λg=>X g\/g=M)):Qzn w w' b s h nv x X M d sv:=by
 refine⟨a.row.cw<|e.block M a.lt (by have:=a.bM;omega)<|λc=>a.nM c.symm,hd,a.fr.trans e,a.new,a.bM,λc=>?_⟩;rcases e.km with f|f
 .rw[f]at c;exact a.nM c
 have:=f M c;have:=a.lt;omega
def Qzn.cell(e:Qzn w wr b s p nv nv' X M d sv)(k:Nat)(f:k<261)(a:af){c:Nd}(g:(dk d sv).set k a=dk c x:=by omega):Qzn w (wr.setCell (O M k) a) b s p nv nv' X M c x:=by
 refine e.put xxs ?_;have:=e.row.put k (by rw[gy];exact f) a;rw[g]at this;exact this
def Qzn.ba(a:Qzn w wr b s p nv nv' X M d sv)(c:List Nat):Qzn w wr b s p nv nv' X M {d with ba:=c} sv:=⟨a.row,a.dr,a.fr,a.new,a.bM,a.nM⟩
def Qzn.drew(a:Qzn w wr b s p nv nv' X M d sv):Qzn w wr.drew b s p nv nv' X M d sv:=a.grow (bp _ _).drew
def Qzn.set(a:Qzn w wr b s p nv nv' X M d sv){c:Nat->Bool}(f:∀e,e<256->d.set e=c e):Qzn w wr b s p nv nv' X M {d with set:=c} sv:=by
 have g:dk d sv=dk {d with set:=c} sv:=by
  rw[Ky,Ky];simp only;rw[Nu f]
 exact⟨by rw[<-g];exact a.row,a.dr,a.fr,a.new,a.bM,a.nM⟩
def Qzn.done{ao:Option Addr}(h:Qzn w wr b s p nv nv' X M d (.slice ao d.ba.length c))(i:p.l.length<=1000)(k:uj wr b nv' (λa=>X a\/a=M) ao d.ba):
  Calls prog 213 #[.pointer<|some ⟨b,0,none⟩,.agg (dk d<|.slice ao d.ba.length c).toArray] wr λg w'=>∃e,g=.returned (.int .i64 p.l.length)/\Dr w' b s ⟨p.H,p.g,p.l++[d]⟩ e X/\Qql b nv e w w':=by
 go_call Qzg b p _ s nv' wr h.dr i d ao c k as g n ⟨f,rfl,j,l⟩;exact⟨f,rfl,j.tu _<|λa _ m=> .inl m,h.fr.trans l⟩
end
section
variable {ch:bs->bs×Nat} {s:ag} {p:bs}
def abo(a:au s p.H=94):ep ch s p=cp p (p.H+1) (gb 1 dp):=by unfold ep;simp only[a];rfl
def abk(a:au s p.H=36):ep ch s p=cp p (p.H+1) (gb 2 dp):=by unfold ep;simp only[a];rfl
def abl(a:au s p.H=46):ep ch s p=cp p (p.H+1) (gb 0 λ_=>true):=by unfold ep;simp only[a];rfl
def Tk(a:au s p.H=40):ep ch s p=cp (ch ⟨p.H+1,p.g+1,p.l⟩).1 ((ch ⟨p.H+1,p.g+1,p.l⟩).1.H+1) (qc (ch ⟨p.H+1,p.g+1,p.l⟩).2 p.g):=by unfold ep;simp only[a];rfl
def abm(a:au s p.H=91):ep ch s p=cp p (vh s p.H).1 (gb 0 (vh s p.H).2):=by unfold ep;simp only[a];rfl
def abn(a:au s p.H=92):ep ch s p=cp p (p.H+2) (gb 0<|kx dp (val<|au s<|p.H+1)<|val<|au s<|p.H+1):=by unfold ep;simp only[a];rfl
def abp(h:au s p.H=a)(c:a≠94)(e:a≠36)(f:a≠46)(g:a≠40)(i:a≠91)(j:a≠92):ep ch s p=cp p (p.H+1) (gb 0<|kx dp a a):=by
 unfold ep;simp only[h];rw[N c,N e,N f,N g,N i,N j]
end
def afj:∀a,a<256->(λe=>if e=i then true else dp e) a=kx dp i i a:=by
 intro a _
 unfold kx dp;by_cases c:a=i
 .subst c;simp
 have:¬(i<=a/\a<=i):=by omega
 simp[c];omega
attribute [local go_sem↓] Go.wp_at_zero Go.wp_at_succ
def Qzj(aI:Qzm i)(b:Nat)(p:bs)(X:Nat->Prop)(s:ag)(nv:af)(o:St)(w:ae)(aJ:Qzi i w b p X s nv o):
  Calls prog 249 #[.pointer<|some ⟨b,0,none⟩] w λk w'=>∃nv',k=.returned (.int .i64 ((ep (dz s i) s p).2:Nat))/\Dr w' b s (ep (dz s i) s p).1 nv' X/\Qql b nv nv' w w':=by
 have⟨a,j,r⟩:=p;have P:=aJ;have⟨g,n,D,aO,aP,x,h,aQ,a6,aR,u⟩:=aJ;simp only at aO aP h a6 aR u;generalize t:ep (dz s i) s ⟨a,j,r⟩=b1;have z:=J t;have aS:=g;have aT:=J aI;have aK:=J x;have b2:=g.lt;have b3:=g.li;have aL:Y (∀e,nv.ownBlock=some e->e<w.heap.size):=by
  have⟨xs,a7,_⟩:=g.own;exact λe a8=>(a7.lt e a8).2
 have l:=g.c3;have v:=g.c4;have Q:=g.f4;have a0:((s[a]).toNat:Int)=(au s a:Int):=oz s a a6;have a9:=ms s a;obtain⟨f,c⟩:∃f,au s a=f:=⟨_,rfl⟩;have A:=J c;have aU:Y (bn mb f=false):=by rw[Y,<-c];exact u
 have aA:Y (run s (a+1)=kh o f):=by
  rw[Y,lf h,c,Mm aQ aU.out]
 rw[c]at a0 a9;have b4:(0:Int)<=a:=by omega
 have b5:(a:Int)<s.size:=by omega
 simp only at v;go_in;go_wp21;go_quiet (fail);have h:Dr ((w.drewN nq).setCell (O b 4)<|I<|(a:Int)+1) b s ⟨a+1,j,r⟩ nv X:=(aS.drewN nq).ux (v:=(a:Int)+1)<|a+1;have c:eh b w ((w.drewN nq).setCell (O b 4)<|I<|(a:Int)+1):=(eh.drewN (eh.refl b w) nq).setCell 4 _;go_upto_region 3 with fail
 generalize(w.drewN nq).setCell (O b 4) (I<|(a:Int)+1)=a1 at h c|-;have aM:=J c.size;go_upto_region 4 with(first
  |(refine Re 23 rfl rfl 271 _ rfl _ alg ?_)
  |(refine gm 4 rfl rfl 271 rfl _ Rg ?_;intro w3 aV t u)
  |(refine hw rfl 271 (.tmp 4) (.tmp 23) rfl _ rfl _ rfl _ t rfl (Qjg _ _) (vl _ _ _ _) ?_;intro w4 n x))
 have D:=aM.out;have g:Y (Qzn w w4 b s ⟨a+1,j,r⟩ nv nv X a1.heap.size ⟨0,dp,[],0,0,0⟩<|.slice none 0 0):=
  ⟨n,((h.tu (λe=>X e\/e=a1.heap.size)<|λe a8 v=>v.elim id<|λk=>by omega).grow u).bj x (by omega) (λk=>by have:=aL _ k;omega)<|.inr rfl,Fr.bj ((eh.fr c nv).trans<|Below.Qqr u nv) x,by omega,by omega,λk=>by have:=aL _ k;omega⟩
 have aW:b<a1.heap.size:=by omega
 generalize a1.heap.size=M at g aW aM aV|-;have b6:M≠b:=by omega
 have b7:b≠M:=by omega
 have Q:r.length<=1000:=by omega
 by_cases aB:f=94
 .subst aB;have c:=g.row.cell<|Pn _ _;have D:=g.row.frozen (k:=0) (by rw[gy];omega);have u:Y (Qzn w (w4.setCell (O M 0)<|I 1) b s ⟨a+1,j,r⟩ nv nv X M ⟨1,dp,[],0,0,0⟩<|.slice none 0 0):=g.cell 0 (by omega) _<|Vw _ _ 1;simp only at c;go_wp2_with (first|(refine ir 97 rfl rfl 271 (.tmp 4) rfl _ rfl _ _ u.row underlying271 rfl (Qjg _ _) ?_));go_call Qzn.done (d:=gb 1 dp) (ao:=none) (c:=0) u.out Q (.inl rfl)as k E ⟨m,rfl,B,C⟩;go_wp21;go_ret;exact⟨m,by rw[<-z.out,abo A.out];rfl,by rw[<-z.out,abo A.out];exact B,C⟩
 by_cases aC:f=36
 .subst aC;have c:=g.row.cell<|Pn _ _;have D:=g.row.frozen (k:=0) (by rw[gy];omega);have u:Y (Qzn w (w4.setCell (O M 0)<|I 2) b s ⟨a+1,j,r⟩ nv nv X M ⟨2,dp,[],0,0,0⟩<|.slice none 0 0):=g.cell 0 (by omega) _<|Vw _ _ 2;simp only at c;go_wp2_with (first|(refine ir 97 rfl rfl 271 (.tmp 4) rfl _ rfl _ _ u.row underlying271 rfl (Qjg _ _) ?_));go_call Qzn.done (d:=gb 2 dp) (ao:=none) (c:=0) u.out Q (.inl rfl)as k E ⟨m,rfl,B,C⟩;go_wp21;go_ret;exact⟨m,by rw[<-z.out,abk A.out];rfl,by rw[<-z.out,abk A.out];exact B,C⟩
 by_cases aD:f=46
 .subst aD;go_wp21;go_loopw [5] (λt S=>∃e:Nat,e<=256/\t=I e/\Qzn w S b s ⟨a+1,j,r⟩ nv nv X M ⟨0,λf=>decide (f<e),[],0,0,0⟩ (.slice none 0 0)) (λt _=>256-(intOf t).toNat)
  .exact⟨0,by omega,rfl,g.set<|λe _=>by simp[dp]⟩
  obtain⟨e,a8,rfl,h⟩:=hrel;by_cases a2:e<256
  .have n:=h.row.cell<|La _ _ a2;have q:=h.row.frozen (k:=e+1) (by rw[gy];omega);have l:Y (Qzn w (wr.setCell (O M<|e+1)<|.bool true) b s ⟨a+1,j,r⟩ nv nv X M ⟨0,λf=>decide (f<e+1),[],0,0,0⟩<|.slice none 0 0):=by
    refine(h.cell (e+1) (by omega) _<|Vx _ _ a2 true).set<|λx _=>?_;simp only;by_cases k:x=e
    .subst k;simp
    have:(x<e)↔(x<e+1):=by omega
    simp[k,this]
   have y:(0:Int)<=e:=by omega
   have a3:(e:Int)<256:=by omega
   simp only at n;rw[show e+1=1+e by omega]at n q l;generalize H:decide (e<e)=a4 at n;go_wp21;go_roundw
   .exact⟨e+1,by omega,by go_num,by rw[show e+1=1+e by omega] at*;exact l⟩
   simp[intOf];omega
  have l:e=256:=by omega
  subst l;have n:Qzn w wr b s ⟨a+1,j,r⟩ nv nv X M ⟨0,λ_=>true,[],0,0,0⟩ (.slice none 0 0):=h.set (λx q=>by simp[q]);go_wp2_with (first|(refine ir 97 rfl rfl 271 (.tmp 4) rfl _ rfl _ _ n.row underlying271 rfl (Qjg _ _) ?_));go_call Qzn.done (d:=gb 0 λ_=>true) (ao:=none) (c:=0) n Q (.inl rfl)as k E ⟨m,rfl,B,C⟩;go_wp21;go_ret;exact⟨m,by rw[<-z.out,abl A.out];rfl,by rw[<-z.out,abl A.out];exact B,C⟩
 by_cases a3:f=91
 .subst a3;have a4:Y (run s (a+1)=some ⟨4,o.o,o.a,o.l⟩):=by rw[Y,aA.out];rfl
  go_wp21;go_call Qzh b a j r _ s nv _ g.dr P.W o.o o.a o.l a4.out a6 as k h ⟨rfl,n,l⟩;have t:=g.call l n;clear n l;go_wp2_with (first
   |(refine aw3 rfl 116 (.tmp 74) (.tmp 73) rfl _ rfl _ rfl _ _ t.row (He _) ?_;intro y q H;have S:=J<|t.put H q;clear q H)
   |(refine ir 97 rfl rfl 271 (.tmp 4) rfl _ rfl _ _ S.row underlying271 rfl (Qjg _ _) ?_))
  go_call Qzn.done (d:=gb 0 (vh s a).2) (ao:=none) (c:=0) S.out Q (.inl rfl)as k E ⟨m,rfl,B,C⟩;go_wp21;go_ret;exact⟨m,by rw[<-z.out,abm A.out];rfl,by rw[<-z.out,abm A.out];exact B,C⟩
 by_cases aE:f=40
 .subst aE;have y:kh o 40=if o.o=5\/o.a=9 then none else some ⟨0,o.o+1,o.a+1,o.l⟩:=rfl
  have⟨aF,H⟩:=P.W.all (show a+1<=s.size by omega);have F:aF=⟨0,o.o+1,o.a+1,o.l⟩:=by
   have k:=aA.out;rw[H,y]at k;split at k
   .cases k
   cases k;rfl
  have T:Y (run s (a+1)=some ⟨0,o.o+1,o.a+1,o.l⟩):=by rw[Y,H,F]
  have⟨q,V⟩:=Cy P.W i ⟨a+1,j+1,r⟩ ⟨a+1,j+1,r⟩ ⟨0,o.o+1,o.a+1,o.l⟩ rfl rfl P.gd P.gd T rfl (by show a+1<=s.size;omega) (by show s.size-(a+1)<i;omega);have U:=If s i ⟨a+1,j+1,r⟩;have W:(dz s i ⟨a+1,j+1,r⟩).1.H<s.size:=by
   rw[<-q.H];rcases hb (ml s i ⟨a+1,j+1,r⟩).1.H s.size with v|v
   .exact v
   exfalso;have Z:=Nat.le_antisymm q.le v;have⟨aG,R,K,aH⟩:=q.rn;rw[Z]at R;have⟨aN,L,a5⟩:=P.W;rw[R]at L;cases L
   simp only at K;simp[whole,K]at a5
  clear y H F q V;have c:=g.row.cell<|Pn _ _;have D:=g.row.frozen (k:=0) (by rw[gy];omega);have F:=g.row.cell<|wl _ _ 1;have K:=g.row.frozen (k:=258) (by rw[gy];omega);have q:=g.dr.c1;have L:=g.dr.f1;simp only at c F q;have u:Y (Qzn w ((w4.setCell (O M 0)<|I 3).setCell (O M 258)<|I j) b s ⟨a+1,j,r⟩ nv nv X M ⟨3,dp,[],j,0,0⟩<|.slice none 0 0):=(g.cell 0 (by omega) (I 3)<|Vw _ _ 3).cell 258 (by omega) _<|aq7 _ _ j;have y:Qzn w (((w4.setCell (O M 0)<|I 3).setCell (O M 258)<|I j).setCell (O b 1)<|I<|(j:Int)+1) b s ⟨a+1,j+1,r⟩ nv nv X M ⟨3,dp,[],j,0,0⟩ (.slice none 0 0):=u.only ((eh.refl b _).setCell 1 _)<|u.dr.Iy (v:=(j:Int)+1)<|j+1;go_wp21;refine(aT.out b ⟨a+1,j+1,r⟩ _ s nv _ _ y.dr P.W P.gd (by show r.length<=300+2*(a+1);omega) (by show j+1<=a+1;omega) (λZ H=>?_) T.out rfl<|by show s.size-(a+1)<i;omega).mono ?_
  .have a2:=y.lt;rcases H with H|H
   .have:=aK Z H;have:=y.new;omega
   rw[H];exact a2
  rintro k h ⟨R,rfl,n,l⟩;have t:=y.call l n;clear n l c D F K q L;generalize c:dz s i ⟨a+1,j+1,r⟩=a5 at t W U|-;have K:=J c;clear c;have⟨⟨x,aG,L⟩,l⟩:=a5;simp only at W U|-;have aH:=t.row.cell<|wl _ _ 0;have b8:=t.row.frozen (k:=257) (by rw[gy];omega);have F:=t.dr.c4;have aN:=t.dr.f4;simp only at aH F;have b9:=t.lt;have q:=λaX=>(bp h.heap.size h).alloc ah aX
  have bD:=t.dr.lt;clear q;have q:((h.setCell (O M 257)<|aa h.heap.size 1 1).setCell (O b 4)<|I<|(x:Int)+1).heap.size=h.heap.size:=by simp[World.setCell]
  have S:Y (Qzn w (((h.setCell (O M 257)<|aa h.heap.size 1 1).setCell (O b 4)<|I<|(x:Int)+1).alloc<|.cells #[I l] 3) b s ⟨x+1,aG,L⟩ nv R X M ⟨3,dp,[l],j,0,0⟩<|aa h.heap.size 1 1):=by
   have n:=t.cell 257 (by omega) (aa h.heap.size 1 1)<|ae1 _ _ _;have c:=n.only ((eh.refl b _).setCell 4 _) (n.dr.ux (v:=(x:Int)+1) (x+1) (by omega)<|by show x+1<=s.size;omega);exact(c.grow<|(bp _ _).alloc ah _).ba [l]
  have aY:Y (uj (((h.setCell (O M 257)<|aa h.heap.size 1 1).setCell (O b 4)<|I<|(x:Int)+1).alloc<|.cells #[I l] 3) b R (λe=>X e\/e=M) (some<|O h.heap.size 0) [l]):=by
   refine .inr ⟨h.heap.size,rfl,by omega,λk=>?_,λv=>?_,λe c a0=>?_⟩
   .have⟨xs,a7,_⟩:=t.dr.own;have:=(a7.lt _ k).2;omega
   .rcases v with v|v
    .have:=aK _ v;have:=t.fr.size;omega
    omega
   have aZ:e=0:=by
    have:=(jy.1 a0).1;simpa using this
   subst aZ;have b0:c=l:=by simpa using a0.symm
   subst b0;have V:=heap_alloc_last ((h.setCell (O M 257)<|aa h.heap.size 1 1).setCell (O b 4)<|I<|(x:Int)+1)<|.cells #[I c] 3;rw[q]at V;rw[yya _ h.heap.size 0 #[I c] 3 (0,0) V];rfl
  clear q;go_wp2_with (first
   |(refine ir 97 rfl rfl 271 (.tmp 4) rfl _ rfl _ _ S.row underlying271 rfl (Qjg _ _) ?_))
  go_call Qzn.done (d:=qc l j) (ao:=some<|O h.heap.size 0) (c:=1) S.out (by show L.length<=1000;omega) aY.out as k E ⟨m,rfl,B,C⟩;go_wp21;go_ret;exact⟨m,by rw[<-z.out,Tk A.out,K.out];rfl,by rw[<-z.out,Tk A.out,K.out];exact B,C⟩
 by_cases q:f=92
 .subst q;have a4:Y (run s (a+1)=some ⟨3,o.o,o.a,o.l⟩):=by rw[Y,aA.out];rfl
  have W:=P.W.qd a4 (by omega) (by simp) (by simp);have U:((s[a+1]).toNat:Int)=(au s (a+1):Int):=oz s (a+1) W;have H:=ms s<|a+1;have R:=Mp H;generalize y:au s (a+1)=c at U H R;have K:=J y;clear y;have y:=g.dr.c3;have F:=g.dr.c4;have aN:=g.dr.f4;simp only at F;have T:=g.row.cell<|La _ _ (k:=val c);have D:=g.row.frozen (k:=val c+1) (by rw[gy];omega);rw[show val c+1=1+val c by omega]at T D;have a5:(0:Int)<=a+1:=by omega
  have aG:(a:Int)+1<(s.size:Int):=by omega
  have aF:Y (∀(l:Nat)(w':ae),(l:Int)=c->Calls prog 129 #[.int .u8 l] w' λk Z=>k=.returned (.int .i64 (val c:Nat))/\Z=w'):=by
   intro l w' v
   have:l=c:=by omega
   subst this;exact Ew l w' H
  go_upto_region 25 with fail
  go_region_with (go_at_call 129;go_call aF.out as k aH ⟨rfl,rfl⟩)
  all_goals
   have u:Y (Qzn w (((w4.setCell (O M<|1+val c)<|.bool true).setCell (O b 4)<|I<|(a:Int)+1+1).drew) b s ⟨a+2,j,r⟩ nv nv X M ⟨0,kx dp (val c)<|val c,[],0,0,0⟩<|.slice none 0 0):=by
    have n:=(g.cell (val c+1) (by omega) (.bool true)<|Vx _ _ (by omega) true).set<|afj<|val c;rw[show val c+1=1+val c by omega]at n;exact(n.only ((eh.refl b _).setCell 4 _)<|n.dr.ux (v:=(a:Int)+1+1)<|a+2).drew
   go_wp2_with (first|(refine ir 97 rfl rfl 271 (.tmp 4) rfl _ rfl _ _ u.row underlying271 rfl (Qjg _ _) ?_));go_call Qzn.done (d:=gb 0<|kx dp (val c)<|val c) (ao:=none) (c:=0) u.out Q (.inl rfl)as k E ⟨m,rfl,B,C⟩;go_wp21;go_ret;exact⟨m,by rw[<-z.out,abn A.out];rfl,by rw[<-z.out,abn A.out,show au s (bs.H ⟨a,j,r⟩+1)=c from K.out];exact B,C⟩
 have l:((f:Int)==94)=false:=by simp;omega
 have H:((f:Int)==36)=false:=by simp;omega
 have y:((f:Int)==46)=false:=by simp;omega
 have U:((f:Int)==40)=false:=by simp;omega
 have W:((f:Int)==91)=false:=by simp;omega
 have R:((f:Int)==92)=false:=by simp;omega
 have T:=g.row.cell<|La _ _ (k:=f) a9;have D:=g.row.frozen (k:=f+1) (by rw[gy];omega);rw[show f+1=1+f by omega]at T D;have L:(0:Int)<=f:=by omega
 have V:(f:Int)<256:=by omega
 have u:Y (Qzn w (w4.setCell (O M<|1+f)<|.bool true) b s ⟨a+1,j,r⟩ nv nv X M ⟨0,kx dp f f,[],0,0,0⟩<|.slice none 0 0):=by
  have n:=(g.cell (f+1) (by omega) (.bool true)<|Vx _ _ a9 true).set<|afj f;rw[show f+1=1+f by omega]at n;exact n
 go_wp2_with (first|(refine ir 97 rfl rfl 271 (.tmp 4) rfl _ rfl _ _ u.row underlying271 rfl (Qjg _ _) ?_));go_call Qzn.done (d:=gb 0<|kx dp f f) (ao:=none) (c:=0) u.out Q (.inl rfl)as k E ⟨m,rfl,B,C⟩;go_wp21;go_ret;exact⟨m,by rw[<-z.out,abp A.out aB aC aD aE a3 q];rfl,by rw[<-z.out,abp A.out aB aC aD aE a3 q];exact B,C⟩
end
section
def Bw:ag:=⟨#[42,43,63,123]⟩
def adm:bn Bw i=true↔i=42\/i=43\/i=63\/i=123:=by
 simp[bn,Bw];omega
def aa0{s:ag}(c:iu s){g:St}(u:run s a=some g)(k:g.m=1)(F:a<s.size)(v:au s a=123):
  a+2<s.size/\48<=au s (a+1)/\au s (a+1)<=57/\(pk s (a+2)=44->a+4<s.size/\48<=au s (a+3)/\au s (a+3)<=57):=by
 have⟨H,x,y,L⟩:=g;simp only at k;subst k;have l:run s (a+1)=some ⟨11,x,y,0⟩:=by
  rw[lf u,v];exact Qp
 have A:=c.qd l (by omega) (by simp) (by simp);have⟨B,e,m⟩:=c.next l A
 rw[Bl<|.inl rfl]at e;split at e
 .rename_i hd;cases e
  have h:=c.qd m (by omega) (by simp) (by simp);refine⟨h,hd.1,hd.2.1,λC=> ?_⟩;have⟨D,i,n⟩:=c.next m h
  rw[G rfl,Cw<|.inl rfl]at i;have t:au s (a+1+1)=44:=by
   have:=fh h;rw[show a+1+1=a+2 from rfl]at this|-;omega
  rw[N,G ⟨t,rfl⟩]at i;cases i
  have o:=c.qd n (by omega) (by simp) (by simp);have⟨E,f,q⟩:=c.next n o
  rw[Bl<|.inr rfl]at f;split at f
  .rename_i j;cases f
   have r:=c.qd q (by omega) (by simp) (by simp);exact⟨r,j.1,j.2.1⟩
  cases f
 cases e
section
variable {ch:bs->bs×Nat} {s:ag} {p:bs}
def Tm(c:∀a,a=42\/a=43\/a=63\/a=123->pk s (ep ch s p).1.H≠a):ki ch s p=ep ch s p:=by
 unfold ki;simp only;rw[N<|c 42<|by omega,N<|c 43<|by omega,N<|c 63<|by omega,N<|c 123<|by omega]
def abq(a:pk s (ep ch s p).1.H=42):ki ch s p=cp (ep ch s p).1 ((ep ch s p).1.H+1) (gr (ep ch s p).2 0<|-1):=by
 unfold ki;simp only;rw[G a]
def abr(a:pk s (ep ch s p).1.H=43):ki ch s p=cp (ep ch s p).1 ((ep ch s p).1.H+1) (gr (ep ch s p).2 1<|-1):=by
 unfold ki;simp only;rw[N,G a]
def abs(a:pk s (ep ch s p).1.H=63):ki ch s p=cp (ep ch s p).1 ((ep ch s p).1.H+1) (gr (ep ch s p).2 0 1):=by
 unfold ki;simp only;rw[N,N,G a]
def abu(c:pk s (ep ch s p).1.H=123)(a:pk s ((ep ch s p).1.H+2)=44):ki ch s p=cp (ep ch s p).1 ((ep ch s p).1.H+5) (gr (ep ch s p).2 (au s ((ep ch s p).1.H+1)-48) ((au s ((ep ch s p).1.H+3)-48:Nat):Int)):=by
 unfold ki;simp only;rw[N,N,N,G c,G a]
def abt(c:pk s (ep ch s p).1.H=123)(a:¬pk s ((ep ch s p).1.H+2)=44):ki ch s p=cp (ep ch s p).1 ((ep ch s p).1.H+3) (gr (ep ch s p).2 (au s ((ep ch s p).1.H+1)-48) ((au s ((ep ch s p).1.H+1)-48:Nat):Int)):=by
 unfold ki;simp only;rw[N,N,N,G c,N a]
end
structure Qzw(w wr:ae)(b:Nat)(s:ag)(p:bs)(nv nv':af)(X:Nat->Prop)(M K z:Nat)(d:Nd):Prop where
 nd:Qzn w wr b s p nv nv' X M d (aa K 1 1)
 Vd:wr.cell? (O K 0)=some (I z)
 kb:K≠b
 kM:K≠M
 kn:nv'.ownBlock≠some K
 kX:¬X K
section
variable {w wr w':ae} {b:Nat} {s:ag} {p:bs} {nv nv':af} {X:Nat->Prop} {M K z:Nat} {d:Nd}
def Qzw.cell(a:Qzw w wr b s p nv nv' X M K z d)(k:Nat)(f:k<261)(c:af){e:Nd}(g:(dk d<|aa K 1 1).set k c=dk e (aa K 1 1):=by omega):Qzw w (wr.setCell (O M k) c) b s p nv nv' X M K z e:=
 ⟨a.nd.cell k f c g,(ac 0<|er _ _ _ _ a.kM).trans a.Vd,a.kb,a.kM,a.kn,a.kX⟩
def Qzw.only(a:Qzw w wr b s p nv nv' X M K z d){f:bs}(c:eh b wr w')(hd:Dr w' b s f nv' (λe=>X e\/e=M)):Qzw w w' b s f nv nv' X M K z d:=
 ⟨a.nd.only c hd,(ac 0<|c.block K a.kb).trans a.Vd,a.kb,a.kM,a.kn,a.kX⟩
def Qzw.ux(c:Qzw w wr b s p nv nv' X M K z d){v:Int}(a:Nat)(e:v=a:=by omega)(f:a<=s.size:=by omega):Qzw w (wr.setCell (O b 4)<|I v) b s ⟨a,p.g,p.l⟩ nv nv' X M K z d:=
 c.only ((eh.refl b wr).setCell 4 _) (c.nd.dr.ux a e f)
def Qzw.drewN(c:Qzw w wr b s p nv nv' X M K z d)(a:Nat):Qzw w (wr.drewN a) b s p nv nv' X M K z d:=c.only (eh.drewN (eh.refl b wr) a)<|c.nd.dr.drewN a
def Qzw.drew(a:Qzw w wr b s p nv nv' X M K z d):Qzw w wr.drew b s p nv nv' X M K z d:=a.drewN 1
def Qzw.done(a:Qzw w wr b s p nv nv' X M K z d)(g:d.ba=[z])(m:p.l.length<=1000):
  Calls prog 213 #[.pointer<|some ⟨b,0,none⟩,.agg (dk d<|.slice (some ⟨K,0,none⟩) 1 1).toArray] wr λc w'=>∃f,c=.returned (.int .i64 p.l.length)/\Dr w' b s ⟨p.H,p.g,p.l++[d]⟩ f X/\Qql b nv f w w':=by
 have h:d.ba.length=1:=by rw[g];rfl
 have i:=a.nd;rw[<-h]at i;have:=Qzn.done (c:=d.ba.length) i m (.inr ⟨K,rfl,a.kb,a.kn,λc=>c.elim a.kX a.kM,λl n e=>by
  rw[g]at e;have j:l=0:=by
   have:=(jy.1 e).1;simpa using this
  subst j;have k:n=z:=by simpa using e.symm
  subst k;exact a.Vd⟩)
 rw[h]at this;exact this
end
attribute [local go_sem↓] Go.wp_at_zero Go.wp_at_succ
def Qzk(aI:Qzm i)(b:Nat)(p:bs)(X:Nat->Prop)(s:ag)(nv:af)(aJ:St)(w:ae)(j:Qzi i w b p X s nv aJ):
  Calls prog 235 #[.pointer<|some ⟨b,0,none⟩] w λe w'=>∃nv',e=.returned (.int .i64 ((ki (dz s i) s p).2:Nat))/\Dr w' b s (ki (dz s i) s p).1 nv' X/\Qql b nv nv' w w':=by
 have a0:=j;have aL:=J aI;have bH:=j.dr.lt;have b9:=j.dr.li;have aO:=J j.X;have b4:=j.zg;have bA:=j.gc;obtain⟨a,bD,c,h⟩:=Wg j.W (Cy j.W i) rfl rfl j.gd j.gd j.rn j.m2 j.lt j.N j.st;have a2:=a.le;rw[a.H]at c a2;have aC:=abh (s:=s) (If s i) p;clear a j aI;generalize a:ki (dz s i) s p=y;have x:=J a;clear a;go_in;go_wp21;go_call Qzj i aL.out b p X s nv aJ _ a0 as e U ⟨f,rfl,q,R⟩;have a3:Y (∀v,f.ownBlock=some v->v<U.heap.size):=by
  obtain⟨xs,a,_⟩:=q.own;exact λv aH=>(a.lt v aH).2
 generalize a:ep (dz s i) s p=b3 at c a2 aC q|-;have l:=J a;clear a;obtain⟨⟨a,k,g⟩,z⟩:=b3;simp only at c a2 aC|-;have a4:=q;have W:=J c;have C:=J h;have E:g.length<=1000:=by have:=a0.lt;omega
 have b0:=q.c3;have a6:=q.c4;have b1:=q.f4;have b5:=R.size;have bE:=q.lt;simp only at a6;clear q c h;by_cases b6:a=s.size
 .have a5:Y (y=(⟨a,k,g⟩,z)):=by
   rw[Y,<-x.out,Tm (λn H=>by rw[l.out];simp only;rw[qj<|by omega];omega),l.out]
  have b2:((a:Int)==s.size)=true:=by simp;omega
  go_wp21;go_quiet (fail);go_wp21;go_ret;rw[a5.out];exact⟨f,rfl,a4.drewN _,R.trans<|eh.fr (eh.drewN (eh.refl b U) _) f⟩
 have a7:a<s.size:=by omega
 have b2:((a:Int)==s.size)=false:=by simp;omega
 have a8:((s[a]).toNat:Int)=(au s a:Int):=oz s a a7;have aP:=ms s a;have c:=fh a7;have bI:(0:Int)<=a:=by omega
 have bJ:(a:Int)<s.size:=by omega
 obtain⟨n,H⟩:∃n,au s a=n:=⟨_,rfl⟩;have aK:=J H;rw[H]at a8 aP c;have A:=J c;have F:Y (∀(P:Nat)(w':ae),(P:Int)=n->Calls prog 128 #[.string Bw,.int .u8 P] w' λe aQ=>e=.returned (.bool<|bn Bw n)/\aQ=w'):=by
  intro P w' aG
  have:P=n:=by omega
  subst this;exact sz Bw P w'<|by decide
 clear H c;rcases df (bn Bw n)with V|V
 .have aA:=J V;have aR:=(adm n).1 V;rw[V]at F;clear V;go_wp21;go_quiet ((go_at_call 128;exact Calls.quiet_of_same<|F.out _ _<|by first|exact a8|rfl|omega));obtain⟨L,c⟩:∃L,L=nq:=⟨_,rfl⟩;rw[<-c];clear c;go_wp21;go_quiet (fail);have u:Dr ((U.drewN<|L+nq).setCell (O b 4)<|I<|(a:Int)+1) b s ⟨a+1,k,g⟩ f X:=(a4.drewN _).ux (v:=(a:Int)+1) (a+1) (by omega) (by omega);have r:eh b U ((U.drewN<|L+nq).setCell (O b 4)<|I<|(a:Int)+1):=(eh.drewN (eh.refl b U) _).setCell 4 _;go_upto_region 6 with fail
  generalize(U.drewN<|L+nq).setCell (O b 4) (I<|(a:Int)+1)=c at u r|-;clear b0 a6 b1 F;have D:=J r.size;have o:Y ((c.alloc<|.cells #[I z] 3).heap.size=c.heap.size+1):=by simp[Y]
  go_upto_region 7 with(first
   |(refine Re 51 rfl rfl 271 _ rfl _ (alj _) ?_)
   |(refine gm 5 rfl rfl 271 rfl _ Rg ?_;intro w3 a9 a1 B;rw[o.out]at a9 B;have Q:=B;clear B)
   |(refine hw rfl 271 (.tmp 5) (.tmp 51) rfl _ rfl _ rfl _ a1 (by rw[gy,gy]) (Qjg _ _) (vl _ _ _ _) ?_;intro w4 Z h;rw[o.out]at Z h))
  have m:Y (Qzw w w4 b s ⟨a+1,k,g⟩ nv f X (c.heap.size+1) c.heap.size z ⟨6,dp,[z],0,0,0⟩):=by
   have aF:=D.out;have aB:Below c.heap.size c (c.alloc<|.cells #[I z] 3):=(bp _ _).alloc ah _;have B:=aB.trans (Q.mono<|by omega);have aD:w3.cell? (O c.heap.size 0)=some (I z):=by
    rw[Q.cell (p:=O c.heap.size 0)<|by show c.heap.size<c.heap.size+1;omega];rw[cell_of_row _ c.heap.size 0 #[I z] 3 (0,0)<|heap_alloc_last c _];rfl
   have aE:=(ac 0<|h.block _<|by show c.heap.size≠c.heap.size+1;omega).trans aD;refine⟨⟨Z,((u.tu (λv=>X v\/v=c.heap.size+1)<|λv aH aG=>aG.elim id<|λe=>by omega).grow B).bj h (by omega) (λe=>by have:=a3.out _ e;omega)<|.inr rfl,Fr.bj ((R.trans<|eh.fr r f).trans<|Below.Qqr B f) h<|by omega,by omega,by omega,λe=>by have:=a3.out _ e;omega⟩,aE,by omega,by omega,λe=>by have:=a3.out _ e;omega,λe=>by have:=aO.out _ e;omega⟩
  have aS:b<c.heap.size+1:=by have:=D.out;omega
  rw[o.out];clear a1 Q Z h u r o a9;have h:Y (∃M K:Nat,M=c.heap.size+1/\K=c.heap.size):=⟨_,_,rfl,rfl⟩;obtain⟨M,K,r,o⟩:=h.out;rw[<-r]at m aS|-;rw[<-o]at m|-;clear r o h D;have b7:M≠b:=by omega
  have b8:b≠M:=by omega
  have a1:=m.nd.row.cell<|wl _ _ 2;have aN:=m.nd.row.frozen (k:=259) (by rw[gy];omega);have Q:=m.nd.row.cell<|wl _ _ 3;have aB:=m.nd.row.frozen (k:=260) (by rw[gy];omega);simp only at a1 Q;by_cases u:n=42
  .subst u;have o:Y (Qzw w (w4.setCell (O M 260)<|I<|-1) b s ⟨a+1,k,g⟩ nv f X M K z ⟨6,dp,[z],0,0,-1⟩):=m.cell 260 (by omega) _<|Kz _ _<|-1;go_wp2_with (first|(refine ir 117 rfl rfl 271 (.tmp 5) rfl _ rfl _ _ o.nd.row underlying271 rfl (Qjg _ _) ?_));go_call Qzw.done o.out rfl E as e Z ⟨t,rfl,S,T⟩;go_wp21;go_ret;have hF:y=cp ⟨a,k,g⟩ (a+1) (gr z 0<|-1):=by rw[<-x.out,abq<|by rw[l.out];exact A.out,l.out]
   rw[hF];exact⟨t,rfl,S,T⟩
  by_cases D:n=43
  .subst D;have o:Y (Qzw w ((w4.setCell (O M 259)<|I 1).setCell (O M 260)<|I<|-1) b s ⟨a+1,k,g⟩ nv f X M K z ⟨6,dp,[z],0,1,-1⟩):=(m.cell 259 (by omega) (I 1)<|ae0 _ _ 1).cell 260 (by omega) _<|Kz _ _<|-1;go_wp2_with (first|(refine ir 117 rfl rfl 271 (.tmp 5) rfl _ rfl _ _ o.nd.row underlying271 rfl (Qjg _ _) ?_));go_call Qzw.done o.out rfl E as e Z ⟨t,rfl,S,T⟩;go_wp21;go_ret;have hF:y=cp ⟨a,k,g⟩ (a+1) (gr z 1<|-1):=by rw[<-x.out,abr<|by rw[l.out];exact A.out,l.out]
   rw[hF];exact⟨t,rfl,S,T⟩
  by_cases a9:n=63
  .subst a9;have o:Y (Qzw w (w4.setCell (O M 260)<|I 1) b s ⟨a+1,k,g⟩ nv f X M K z ⟨6,dp,[z],0,0,1⟩):=m.cell 260 (by omega) _<|Kz _ _ 1;go_wp2_with (first|(refine ir 117 rfl rfl 271 (.tmp 5) rfl _ rfl _ _ o.nd.row underlying271 rfl (Qjg _ _) ?_));go_call Qzw.done o.out rfl E as e Z ⟨t,rfl,S,T⟩;go_wp21;go_ret;have hF:y=cp ⟨a,k,g⟩ (a+1) (gr z 0 1):=by rw[<-x.out,abs<|by rw[l.out];exact A.out,l.out]
   rw[hF];exact⟨t,rfl,S,T⟩
  have aM:n=123:=by omega
  subst aM;obtain⟨bF,q,aT,r⟩:=aa0 a0.W W.out C.out a7 aK.out;have aU:=J r;have aV:a+1<s.size:=by omega
  have aW:((s[a+1]).toNat:Int)=(au s (a+1):Int):=oz s (a+1) aV;generalize aD:au s (a+1)=h at aW q aT;have aE:=J aD;have bK:(0:Int)<=a+1:=by omega
  have bL:(a:Int)+1<(s.size:Int):=by omega
  have W:=m.nd.dr.c3;have C:=m.nd.dr.c4;have aF:=m.nd.dr.f4;simp only at C;clear aD r u D a9 aR;go_upto_region 8 with fail
  go_region;have D:((h:Int)-48)=((h-48:Nat):Int):=by omega
  have a6:=J D;have o:Y (Qzw w ((((w4.setCell (O M 259)<|I<|(h:Int)-48).setCell (O M 260)<|I<|(h:Int)-48).setCell (O b 4)<|I<|(a:Int)+1+1).drew) b s ⟨a+2,k,g⟩ nv f X M K z ⟨6,dp,[z],0,h-48,((h-48:Nat):Int)⟩):=by
   rw[D];exact(((m.cell 259 (by omega) (I ((h-48:Nat):Int))<|ae0 _ _<|h-48).cell 260 (by omega) (I ((h-48:Nat):Int))<|Kz _ _ _).ux (v:=(a:Int)+1+1) (a+2) (by omega)<|by omega).drew
  clear D;go_wp21;go_call Iq b ⟨a+2,k,g⟩ _ s f 44 _ o.nd.dr as e a9 ⟨rfl,aD,rfl⟩;have u:Y _:=o.drewN aD;clear o m a1 aN Q aB W C aF;generalize(((((w4.setCell (O M 259)<|I<|(h:Int)-48).setCell (O M 260)<|I<|(h:Int)-48).setCell (O b 4)<|I<|(a:Int)+1+1).drew).drewN aD)=a9 at u|-;have Q:=u.nd.row.cell<|wl _ _ 3;have aB:=u.nd.row.frozen (k:=260) (by rw[gy];omega);have W:=u.nd.dr.c3;have C:=u.nd.dr.c4;have aF:=u.nd.dr.f4;simp only at Q C|-;by_cases r:pk s (a+2)=((44:Nat):Int)
  .have hd:decide (pk s (a+2)=((44:Nat):Int))=true:=by simpa using r
   rw[hd];obtain⟨bG,aN,aR⟩:=aU.out r;have a1:=J r;have aX:a+3<s.size:=by omega
   have aY:((s[a+3]).toNat:Int)=(au s (a+3):Int):=oz s (a+3) aX;generalize o:au s (a+3)=m at aY aN aR;have aZ:=J o;have bM:(0:Int)<=a+2+1:=by omega
   have bN:(a:Int)+2+1<(s.size:Int):=by omega
   clear hd r o;go_upto_region 13 with fail
   go_region;have D:((m:Int)-48)=((m-48:Nat):Int):=by omega
   have o:Y (Qzw w ((((a9.setCell (O M 260)<|I<|(m:Int)-48).setCell (O b 4)<|I<|(a:Int)+2+2).setCell (O b 4)<|I<|(a:Int)+2+2+1).drew) b s ⟨a+5,k,g⟩ nv f X M K z ⟨6,dp,[z],0,h-48,((m-48:Nat):Int)⟩):=by
    rw[D];exact(((u.cell 260 (by omega) (I ((m-48:Nat):Int))<|Kz _ _ _).ux (v:=(a:Int)+2+2) (a+4) (by omega)<|by omega).ux (v:=(a:Int)+2+2+1) (a+5) (by omega)<|by omega).drew
   clear D;go_wp2_with (first|(refine ir 117 rfl rfl 271 (.tmp 5) rfl _ rfl _ _ o.nd.row underlying271 rfl (Qjg _ _) ?_));go_call Qzw.done o.out rfl E as e Z ⟨t,rfl,S,T⟩;go_wp21;go_ret;have hF:y=cp ⟨a,k,g⟩ (a+5) (gr z (h-48) ((m-48:Nat):Int)):=by
    rw[<-x.out,abu (by rw[l.out];exact A.out)<|by rw[l.out];exact a1.out,l.out,<-aE.out,<-aZ.out]
   rw[hF];exact⟨t,rfl,S,T⟩
  have hd:decide (pk s (a+2)=((44:Nat):Int))=false:=by simpa using r
  rw[hd];have a1:=J r;have o:Y (Qzw w (a9.setCell (O b 4)<|I<|(a:Int)+2+1) b s ⟨a+3,k,g⟩ nv f X M K z ⟨6,dp,[z],0,h-48,((h-48:Nat):Int)⟩):=u.ux (v:=(a:Int)+2+1) (a+3) (by omega) (by omega);clear hd r;go_wp2_with (first|(refine ir 117 rfl rfl 271 (.tmp 5) rfl _ rfl _ _ o.nd.row underlying271 rfl (Qjg _ _) ?_));go_call Qzw.done o.out rfl E as e Z ⟨t,rfl,S,T⟩;go_wp21;go_ret;have hF:y=cp ⟨a,k,g⟩ (a+3) (gr z (h-48) ((h-48:Nat):Int)):=by
   rw[<-x.out,abt (by rw[l.out];exact A.out)<|by rw[l.out];exact a1.out,l.out,<-aE.out]
  rw[hF];exact⟨t,rfl,S,T⟩
 have aA:=J V;rw[V]at F;have a5:Y (y=(⟨a,k,g⟩,z)):=by
  have c:¬(bn Bw n=true):=by rw[aA.out];simp
  rw[adm]at c;rw[Y,<-x.out,Tm (λh H=>by rw[l.out];simp only;rw[A.out];omega),l.out]
 clear V;go_wp21;go_quiet ((go_at_call 128;exact Calls.quiet_of_same<|F.out _ _<|by first|exact a8|rfl|omega));go_wp21;go_ret;rw[a5.out];exact⟨f,rfl,a4.drewN _,R.trans<|eh.fr (eh.drewN (eh.refl b U) _) f⟩
end
section
def Dr.of2{w w':ae}{b:Nat}{s:ag}{p:bs}{nv:af}{X:Nat->Prop}(j:Dr w b s p nv X)(e:w'.heap[b]?=w.heap[b]?)(k:∀a,nv.ownBlock=some a->w'.heap[a]?=w.heap[a]?)(l:∀a,a<w.heap.size->a≠b->some a≠nv.ownBlock->¬X a->w'.heap[a]?=w.heap[a]?):Dr w' b s p nv X:=by
 have⟨m,n,o,q,r,t,u,v,x,f,h,xs,g,i⟩:=j;have c:∀a,w'.cell? (O b a)=w.cell? (O b a):=λa=>ac a e
 have d:∀a,w'.frozen? (O b a)=w.frozen? (O b a):=λa=>ad a e
 exact⟨(c 0).trans m,(c 1).trans n,(c 2).trans o,(c 3).trans q,(c 4).trans r,(d 0).trans t,(d 1).trans u,(d 2).trans v,(d 4).trans x,f,h,xs,Qqo g k,i.of l⟩
structure Ga(w wr:ae)(b:Nat)(s:ag)(p:bs)(nv nv' kv:af)(X:Nat->Prop)(M kk:Nat)(zs:List Nat):Prop where
 row:bd wr M (dk ⟨kk,dp,[],0,0,0⟩ kv)
 dr:Dr wr b s p nv' (λk=>(X k\/k=M)\/kv.ownBlock=some k)
 fr:Qql b nv nv' w wr
 kd:Qqt wr (M+1) nv' kv zs
 new:w.heap.size<=M
 bM:b<M
 nM:nv'.ownBlock≠some M
section
variable {w wr w':ae} {b:Nat} {s:ag} {p:bs} {nv nv' kv:af} {X:Nat->Prop} {M kk:Nat} {zs:List Nat}
def Ga.lt(a:Ga w wr b s p nv nv' kv X M kk zs):M<wr.heap.size:=a.row.lt (by rw[gy];omega)
def Ga.call(a:Ga w wr b s p nv nv' kv X M kk zs){f:bs}(d:Qql b nv' x wr w')(hd:Dr w' b s f x (λe=>(X e\/e=M)\/kv.ownBlock=some e)):Ga w w' b s f nv x kv X M kk zs:=by
 refine⟨a.row.cw<|d.block M a.lt (by have:=a.bM;omega)<|λc=>a.nM c.symm,hd,a.fr.trans d,a.kd.fr d (by have:=a.bM;omega),a.new,a.bM,λc=>?_⟩;rcases d.km with l|l
 .rw[l]at c;exact a.nM c
 have:=l M c;have:=a.lt;omega
def Ga.only(e:Ga w wr b s p nv nv' kv X M kk zs){c:bs}(d:eh b wr w')(hd:Dr w' b s c nv' (λa=>(X a\/a=M)\/kv.ownBlock=some a)):Ga w w' b s c nv nv' kv X M kk zs:=e.call (eh.fr d nv') hd
def Ga.drewN(c:Ga w wr b s p nv nv' kv X M kk zs)(a:Nat):Ga w (wr.drewN a) b s p nv nv' kv X M kk zs:=c.only (eh.drewN (eh.refl b wr) a)<|c.dr.drewN a
def Ga.ux(c:Ga w wr b s p nv nv' kv X M kk zs){v:Int}(a:Nat)(d:v=a:=by omega)(e:a<=s.size:=by omega):Ga w (wr.setCell (O b 4)<|I v) b s ⟨a,p.g,p.l⟩ nv nv' kv X M kk zs:=
 c.only ((eh.refl b wr).setCell 4 _) (c.dr.ux a d e)
def Ga.more(d:Ga w wr b s p nv nv' kv X M kk zs){h:ae}{g j i:Nat}
  (q:h.ownsRow (M+1) 3 1 (aa g (zs.length+1) j) (zs.length+1) ((zs.map λi:Nat=>I i)++[I i]))
  (k:(wr.alloc<|.cells #[I i] 3).grownBy h kv.ownBlock) (r:kv.ownBlock=some g\/g=wr.heap.size+1):
  Ga w (h.setCell (O M 257)<|aa g (zs.length+1) j) b s p nv nv' (aa g (zs.length+1) j) X M kk (zs++[i]):=by
 have z:=d.lt;have F:=d.bM;have H:(wr.alloc<|.cells #[I i] 3).heap.size=wr.heap.size+1:=by simp
 have l:∀a,a<wr.heap.size->some a≠kv.ownBlock->h.heap[a]?=wr.heap[a]? :=λa f A=>by
  rw[k.block a (by omega) A,im _ _ _ f]
 have n:∀a,kv.ownBlock=some a->M+1<=a/\a<wr.heap.size:=λa f=>d.kd.own.lt a f
 have K:=(q.lt g rfl).1;have P:=k.size;have B:=l M z (λe=>by have:=(n M e.symm).1;omega);have o:∀a,nv'.ownBlock=some a->a<wr.heap.size:=by
  have⟨xs,m,_⟩:=d.dr.own;exact λa f=>(m.lt a f).2
 have C:=d.dr.lt;have D:Dr wr b s p nv' (λa=>((X a\/a=M)\/kv.ownBlock=some a)\/g=a):=d.dr.tu _ (λa f c=>by
  rcases c with c|c
  .exact c
  subst c;rcases r with e|e
  .exact .inr e
  omega)
 have t:=D.of2 (l b C (λe=>by have:=(n b e.symm).1;omega)) (λa f=>l a (o a f)<|λe=>d.kd.ne a e.symm f)<|λa f _ _ v=>l a f<|λe=>v<|.inl<|.inr e.symm;have m:bf M h (h.setCell (O M 257)<|aa g (zs.length+1) j):=(bf.refl _ _).setCell _ _;have x:=d.row.cw B;refine⟨?_,?_,?_,?_,d.new,d.bM,d.nM⟩
 .have:=x.put 257 (by rw[gy];omega)<|aa g (zs.length+1) j;rw[ae1]at this;exact this
 .refine(t.bj m (by omega) d.nM<|.inl<|.inl<|.inr rfl).tu _<|λa _ c=>?_;rcases c with c|c
  .exact .inl<|.inl c
  exact .inr<|by simpa[Value.ownBlock]using c
 .refine Fr.bj ⟨k.os.trans d.fr.os,k.tape.trans d.fr.tape,k.output.trans d.fr.output,by have:=d.fr.size;omega,λa f y u=>?_,d.fr.km⟩ m d.new;have E:=d.new;rw[l a (by omega) (λe=>by have:=(n a e.symm).1;omega)];exact d.fr.block a f y u
 refine⟨?_,λa f=>?_⟩
 .rw[yys,ga];exact Qqo q λa f=>m.block a (by
   have:g=a:=by simpa[Value.ownBlock]using f
   omega)
 have u:g=a:=by simpa[Value.ownBlock]using f
 subst u;rcases r with e|e
 .exact d.kd.ne g e
 intro c
 have:=o g c;omega
def Ga.done(a:Ga w wr b s p nv nv' kv X M kk zs)(k:p.l.length<=1000)(l:∀h,X h->h<w.heap.size)(m:zs≠[]):
  Calls prog 213 #[.pointer<|some ⟨b,0,none⟩,.agg (dk ⟨kk,dp,[],0,0,0⟩ kv).toArray] wr λe w'=>∃g,e=.returned (.int .i64 p.l.length)/\Dr w' b s ⟨p.H,p.g,p.l++[ct kk zs]⟩ g X/\Qql b nv g w w':=by
 have n:=List.length_pos_iff.2 m;have⟨c,i,f,v,u⟩:=a.kd.own.form n;have o:uj wr b nv' (λd=>X d\/d=M) (some<|O c 0) (ct kk zs).ba:=.inr ⟨c,rfl,by have:=a.bM;omega,a.kd.ne c<|by rw[f];rfl,λe=>by
  rcases e with e|e
  .have:=l c e;have:=a.new;omega
  omega,Wp<|f▸a.kd.own⟩
 have hd:=a.dr.tu _<|λd _ e=> .inl e;have:=Qzg b p _ s nv' wr hd k (ct kk zs) (some<|O c 0) i o;rw[f];go_call this;rintro e x ⟨j,rfl,q,r⟩;exact⟨j,rfl,q.tu _<|λd _ t=> .inl t,a.fr.trans r⟩
end
structure Cq(N:Nat)(s:ag)(p:bs)(st:St)(zs:List Nat):Prop where
 rn:run s p.H=some st
 m2:st.m<=2
 ov:om s p.H=false->pk s p.H=124\/pk s p.H=41\/p.H=s.size
 ne:zs=[]->om s p.H=true
 gd:Gd p.l
 zg:p.l.length<=300+2*p.H
 gc:p.g<=p.H
 zl:zs.length<=p.H
 N:s.size-p.H<=N
 le:p.H<=s.size
def Yn{s:ag}(c:om s a=true):¬(pk s a=124\/pk s a=41\/a=s.size):=by
 unfold om at c;simp at c;have⟨d,e⟩:=c;have:¬(bn mb (au s a)=true):=by rw[e];simp
 rw[Cz]at this;rw[fh d];omega
def Cq.next{s:ag}{p:bs}{o:St}{zs:List Nat}(c:Cq a s p o zs)(g:iu s)(l:om s p.H=true):
  ∃h,Cq a s (ki (dz s a) s p).1 h (zs++[(ki (dz s a) s p).2])/\p.H<(ki (dz s a) s p).1.H:=by
 have i:p.H<s.size/\bn mb (au s p.H)=false:=by
  unfold om at l;simpa using l
 have⟨d,m⟩:=afx g (Cy g a) rfl rfl c.gd c.gd c.rn c.m2 i.1 c.N i.2;have j:=d.H;have k:=d.lo;have e:=d.le;rw[j]at k e m;have q:=abi (s:=s) (If s a) p;have r:=ac3 (s:=s) (Ox s a) p;have⟨h,n,t,u⟩:=d.rn;rw[j]at n;have v:=c.zg;have x:=c.gc;have y:=c.zl;have z:=c.N;refine⟨h,⟨n,by omega,λf=>m.over g e f,λf=>by simp at f,d.Gi,by omega,by omega,by simp;omega,by omega,e⟩,k⟩
attribute [local go_sem↓] Go.wp_at_zero Go.wp_at_succ
def ad0:(prog.info? 3).map (λa=>(a.zero,a.size,a.bytes))=some (some<|I 0,1,8):=by kernel_rfl
def Qzl(aD:Qzm i)(b:Nat)(p:bs)(X:Nat->Prop)(s:ag)(nv:af)(P:St)(w:ae)(x:Dr w b s p nv X)(aB:iu s)(aC:∀B,X B->B<w.heap.size)(a4:Cq i s p P []):
  Calls prog 211 #[.pointer<|some ⟨b,0,none⟩] w λd w'=>∃nv',d=.returned (.int .i64 ((ip (dz s i) s p).2:Nat))/\Dr w' b s (ip (dz s i) s p).1 nv' X/\Qql b nv nv' w w':=by
 generalize a:ip (dz s i) s p=Q;have aK:=J a;have aF:=x;have aG:=J aD;have a3:=J aB;have D:=J aC;have aW:=x.lt;have b6:=x.li;have a5:Y (∀m,nv.ownBlock=some m->m<w.heap.size):=by
  have⟨xs,c,_⟩:=x.own;exact λm K=>(c.lt m K).2
 have⟨aZ,aL,aM,aN,aO⟩:=yyf ad0;go_in;go_wp2_with (first
  |(refine Re 6 rfl rfl 271 _ rfl _ ali ?_)
  |(refine gm 3 rfl rfl 271 rfl _ Rg ?_;intro w3 bA e a)
  |(refine hw rfl 271 (.tmp 3) (.tmp 6) rfl _ rfl _ rfl _ e (by rw[gy,gy]) (Qjg _ _) (vl _ _ _ _) ?_;intro w4 f c))
 have a2:Y (Ga w w4 b s p nv nv (.slice none 0 0) X w.heap.size 5 []):=
  ⟨f,((aF.tu (λm=>(X m\/m=w.heap.size)\/(Value.slice none 0 0).ownBlock=some m) (λm K h=>by
   rcases h with(h|h)|h
   .exact h
   .omega
   cases h)).grow a).bj c (by omega) (λd=>by have:=a5 _ d;omega)<|.inl<|.inr rfl,Fr.bj (Below.Qqr a nv) c ah,⟨yyc _ _ _ _,λm K=>by cases K⟩,ah,aW,λd=>by have:=a5 _ d;omega⟩
 go_simp;go_loopw [] (λwr=>∃L nv' kv zs P n,Ga w wr b s L nv nv' kv X w.heap.size 5 zs/\Cq i s L P zs/\s.size<n+L.H/\Y (Q=qs (dz s i) s n L zs)) (λwr=>s.size-ry wr b)
 .exact⟨p,nv,_,[],P,s.size+1,a2,a4,by omega,aK.symm⟩
 have⟨⟨f,u,r⟩,a6,kv,zs,aP,n,q,j,aX,a1⟩:=hrel;have aQ:=J<|Fx q.dr.c4;have a7:=j.le;have a8:=j.zg;have aR:=j.zl;have F:=q.dr.c3;have y:=q.dr.c4;have U:r.length<=1000:=by simp only at a8 a7;omega
 simp only at y a7 a8 aR aX;have E:Y (∀(c a:Nat),Calls prog 212 #[.pointer<|some ⟨b,0,none⟩,.int .u8 a] (wr.drewN c) λd w'=>d=.returned (.bool<|decide<|pk s f=(a:Int))/\∃k,w'=(wr.drewN c).drewN k):=λc a=>Iq b ⟨f,u,r⟩ _ s a6 a _<|q.dr.drewN c
 rcases df (om s f)with hs|hs
 .have e:=Yn hs;have l:Y (∀(c:Nat)(a:Int),(a=124\/a=41)->Calls prog 212 #[.pointer<|some ⟨b,0,none⟩,.int .u8 a] (wr.drewN c) λd w'=>d=.returned (.bool false)/\∃k,w'=(wr.drewN c).drewN k):=λc a o=>by
   have:=E c a.toNat;rw[show((a.toNat:Nat):Int)=a by omega,show decide (pk s f=a)=false by simp;omega]at this;exact this
  have V:((f:Int)==s.size)=false:=by simp;omega
  have aY:f<s.size:=by omega
  have⟨aS,C,Z⟩:=j.next a3 hs
  have aT:Y (bn mb (au s f)=false):=by
   have:=hs;unfold om at this;simp at this;exact this.2
  have H:Y (Q=qs (dz s i) s (n-1) (ki (dz s i) s ⟨f,u,r⟩).1 (zs++[(ki (dz s i) s ⟨f,u,r⟩).2])):=by
   rw[Y,a1.out,show n=(n-1)+1 by omega,qs,N<|Yn hs];rfl
  go_wp21;go_quiet ((go_at_call 212;exact Calls.quiet_of<|l _ _<|by first|exact .inl rfl|exact .inr rfl));have g:=q.drewN nq;generalize wr.drewN nq=W at g|-;go_wp21;refine(Qzk i aG b ⟨f,u,r⟩ _ s a6 aP _ ⟨g.dr,a3,j.gd,j.zg,j.gc,λB S=>?_,j.rn,j.m2,aY,j.N,aT⟩).mono ?_
  .have:=g.lt;rcases S with(S|S)|S
   .have:=D B S;omega
   .omega
   exact(g.kd.own.lt B S).2
  rintro d v ⟨aU,rfl,t,z⟩;have e:=g.call z t;generalize t:ki (dz s i) s ⟨f,u,r⟩=b1 at e H C Z|-;have⟨b0,T⟩:=b1
  try simp only at e H C Z|-
  have a0:=e.row.cell<|wl _ _ 0;have aH:=e.row.frozen (k:=257) (by rw[gy];omega)
  try simp only at a0
  have aI:=e.lt;have aV:Y (∀{t:ae},(v.alloc<|.cells #[I T] 3).grownBy t kv.ownBlock->t.cell? (O w.heap.size 257)=some kv/\t.frozen? (O w.heap.size 257)=false):=by
   intro t R
   have z:t.heap[w.heap.size]?=v.heap[w.heap.size]? :=by
    rw[R.block w.heap.size (by simp;omega) (λd=>by have:=(e.kd.own.lt _ d.symm).1;omega),im _ _ _ aI]
   exact⟨(ac 257 z).trans a0,(ad 257 z).trans aH⟩
  have b5:zs.length<=40:=by omega
  go_wp2_with (at_builtin;refine wpList_append_lies _ rfl _ _ 56 rfl (w.heap.size+1) 3 aZ (I 0) 1 8 underlying56 aL aM aN aO rfl (by omega) kv zs.length (zs.map λb2:Nat=>I b2) rfl (e.kd.own.alloc _) (O v.heap.size 0) 1 1 [I T] rfl rfl (cell_one_new _ _ _) (λbF z=>by simp at z;subst z;rfl) (by omega) (by unfold maxLen;omega) (by omega) (by simp;omega) (v.heap.size+1) (by simp) ?_;intro b9 b7 bE aE R a9 aJ;have aA:Y _:=e.more aE R a9;have⟨bD,b8⟩:=aV R;clear aE R a9 aJ);refine⟨⟨b0,aU,_,zs++[T],aS,n-1,aA,C,by omega,H⟩,?_⟩;rw[Fx aA.dr.c4,aQ.out];have:=C.le;omega
 have C:=j.ov hs;simp only at C;have t:zs≠[]:=λd=>by
  have h:=j.ne d;have e:om s f=true:=h;rw[hs]at e;cases e
 have T:=J t;have R:Y (Q=cp ⟨f,u,r⟩ f (ct 5 zs)):=by
  rw[Y,a1.out,show n=(n-1)+1 by omega,qs,G C]
 have Z:Y (∀(c:Nat)(a:Int)(e:Bool),(0<=a/\decide (pk s f=a)=e)->Calls prog 212 #[.pointer<|some ⟨b,0,none⟩,.int .u8 a] (wr.drewN c) λd w'=>d=.returned (.bool e)/\∃k,w'=(wr.drewN c).drewN k):=λc a e o=>by
  have:=E c a.toNat;rw[show((a.toNat:Nat):Int)=a by omega,o.2]at this;exact this
 by_cases t:pk s f=124
 .have l:Y (∀(c:Nat)(a:Int)(e:Bool),(a=124/\e=true)->Calls prog 212 #[.pointer<|some ⟨b,0,none⟩,.int .u8 a] (wr.drewN c) λd w'=>d=.returned (.bool e)/\∃k,w'=(wr.drewN c).drewN k):=λc a e o=>Z c a e (by obtain⟨rfl,rfl⟩:=o;simp[t])
  go_wp21;go_quiet ((go_at_call 212;exact Calls.quiet_of<|l _ _ _ ⟨rfl,rfl⟩));have g:=q.drewN nq;generalize wr.drewN nq=W at g|-;go_wp2_with (first|(refine ir 27 rfl rfl 271 (.tmp 3) rfl _ rfl _ _ g.row underlying271 rfl (Qjg _ _) ?_));go_call g.done U D T as d a0 ⟨A,rfl,v,z⟩;go_wp21;go_ret;rw[R.out];exact⟨A,rfl,v,z⟩
 by_cases H:pk s f=41
 .have l:Y (∀(c:Nat)(a:Int)(e:Bool),((a=124/\e=false)\/(a=41/\e=true))->Calls prog 212 #[.pointer<|some ⟨b,0,none⟩,.int .u8 a] (wr.drewN c) λd w'=>d=.returned (.bool e)/\∃k,w'=(wr.drewN c).drewN k):=λc a e o=>Z c a e (by rcases o with⟨rfl,rfl⟩|⟨rfl,rfl⟩<;>simp[H])
  go_wp21;go_quiet ((go_at_call 212;exact Calls.quiet_of<|l _ _ _<|by first|exact .inl ⟨rfl,rfl⟩|exact .inr ⟨rfl,rfl⟩));have g:=q.drewN nq;generalize wr.drewN nq=W at g|-;go_wp2_with (first|(refine ir 27 rfl rfl 271 (.tmp 3) rfl _ rfl _ _ g.row underlying271 rfl (Qjg _ _) ?_));go_call g.done U D T as d a0 ⟨A,rfl,v,z⟩;go_wp21;go_ret;rw[R.out];exact⟨A,rfl,v,z⟩
 have a9:f=s.size:=by omega
 have l:Y (∀(c:Nat)(a:Int)(e:Bool),((a=124/\e=false)\/(a=41/\e=false))->Calls prog 212 #[.pointer<|some ⟨b,0,none⟩,.int .u8 a] (wr.drewN c) λd w'=>d=.returned (.bool e)/\∃k,w'=(wr.drewN c).drewN k):=λc a e o=>Z c a e (by rcases o with⟨rfl,rfl⟩|⟨rfl,rfl⟩<;>simp[t,H])
 have V:((f:Int)==s.size)=true:=by simp;omega
 go_wp21;go_quiet ((go_at_call 212;exact Calls.quiet_of<|l _ _ _<|by first|exact .inl ⟨rfl,rfl⟩|exact .inr ⟨rfl,rfl⟩));have g:=q.drewN nq;generalize wr.drewN nq=W at g|-;go_wp2_with (first|(refine ir 27 rfl rfl 271 (.tmp 3) rfl _ rfl _ _ g.row underlying271 rfl (Qjg _ _) ?_));go_call g.done U D T as d a0 ⟨A,rfl,v,z⟩;go_wp21;go_ret;rw[R.out];exact⟨A,rfl,v,z⟩
end
section
structure zx(N:Nat)(s:ag)(p:bs)(st:St)(zs:List Nat):Prop where
 rn:run s p.H=some st
 m0:st.m=0
 gd:Gd p.l
 zg:p.l.length<=300+2*p.H
 gc:p.g<=p.H
 zl:zs.length<=p.H
 N:s.size-p.H<=N
 le:p.H<=s.size
def zx.ue{b:bs}{f:St}(c:zx a s b f g)(h:iu s):b.H<s.size/\bn mb (au s b.H)=false/\om s b.H=true:=by
 have e:=h.qd c.rn c.le (by have:=c.m0;omega) (by have:=c.m0;omega);have i:bn mb (au s b.H)=false:=by
  have⟨l,d,_⟩:=h.next c.rn e
  have k:step f (au s b.H)=kh f (au s b.H):=by unfold step;rw[if_pos c.m0]
  rw[k]at d;cases j:bn mb (au s b.H)with
  |false=>rfl
  |true=>
   have m:=(Cz _).1 j;unfold kh at d;rw[if_neg<|by omega,if_neg<|by omega,if_neg<|by omega,if_pos j]at d;cases d
 exact⟨e,i,by unfold om;simp[e,i]⟩
def zx.win{f:bs}{c:St}(b:zx a s f c g)(h:iu s):Cq a s f c []:=by
 have⟨i,j,d⟩:=b.ue h;exact⟨b.rn,(by have:=b.m0;omega),(λe=>by rw[d]at e;cases e),λ_=>d,b.gd,b.zg,b.gc,by simp,b.N,b.le⟩
structure Rj(s:ag)(p r:bs):Prop where
 lo:p.H<r.H
 le:r.H<=s.size
 gd:Gd r.l
 zg:r.l.length<=301+2*r.H
 gc:r.g<=r.H
 rn:∃st,run s r.H=some st/\(st.m=1\/st.m=2)
def zx.vu{b:bs}{j:St}(c:zx a s b j g)(e:iu s):Rj s b (ip (dz s a) s b).1:=by
 have⟨n,o,u⟩:=c.ue e;have⟨d,v,q⟩:=Zb e (Cy e a) s.size b b j [] [] rfl rfl c.gd c.gd c.rn (by have:=c.m0;omega) n c.N o (Yh _ _) (by omega);have f:=d.H;have h:=d.lo;have i:=d.le;rw[f]at h i;have w:=Tf (s:=s) (If s a) (s.size+1) b [];have x:=Ul (s:=s) (Ox s a) (s.size+1) b [];have r:=c.zg;have t:=c.gc;have⟨m,k,y,p⟩:=d.rn;rw[f]at k;have l:ip (dz s a) s b=qs (dz s a) s (s.size+1) b []:=rfl;rw[l];exact⟨h,i,d.Gi,by omega,by omega,m,k,p⟩
def Rj.next{f b:bs}{z:Nat}(c:Rj s f b)(p:g.length<=f.H)(q:s.size-f.H<=a)(h:pk s b.H=124):∃k,zx a s ⟨b.H+1,b.g,b.l⟩ k (g++[z]):=by
 have n:=c.lo;have o:=c.le;have i:b.H<s.size:=by
  rcases hb b.H s.size with e|e
  .exact e
  rw[qj]at h;omega
 have⟨d,l,m⟩:=c.rn;have j:run s (b.H+1)=some ⟨0,d.o,d.a,d.l⟩:=by
  rw[lf l,show au s b.H=124 by rw[fh i]at h;omega];exact Yo m
 have r:=c.zg;have t:=c.gc;exact⟨_,j,rfl,c.gd,by show b.l.length<=300+2*(b.H+1);omega,by show b.g<=b.H+1;omega,by show(g++[z]).length<=b.H+1;simp;omega,by show s.size-(b.H+1)<=a;omega,i⟩
attribute [local go_sem↓] Go.wp_at_zero Go.wp_at_succ
def Qzr(a6:Qzm i)(e:Nat)(s:bs)(r:Nat->Prop)(a:ag)(n:af)(L:St)(b:ae)(y:Dr b e a s n r)(a4:iu a)(a5:∀E,r E->E<b.heap.size)(V:zx i a s L []):
  Calls prog 184 #[.pointer<|some ⟨e,0,none⟩] b λg a8=>∃M,g=.returned (.int .i64 ((Od (dz a i) a s).2:Nat))/\Dr a8 e a (Od (dz a i) a s).1 M r/\Qql e n M b a8:=by
 generalize c:Od (dz a i) a s=F;have aH:=J c;have aA:=y;have aB:=J a6;have R:=J a4;have W:=J a5;have aT:=y.lt;have b1:=y.li;have X:Y (∀j,n.ownBlock=some j->j<b.heap.size):=by
  have⟨xs,d,_⟩:=y.own;exact λj H=>(d.lt j H).2
 have⟨aV,aI,aJ,aK,aL⟩:=yyf ad0;go_in;go_wp2_with (first
  |(refine Re 6 rfl rfl 271 _ rfl _ alh ?_)
  |(refine gm 3 rfl rfl 271 rfl _ Rg ?_;intro w3 b3 f c)
  |(refine hw rfl 271 (.tmp 3) (.tmp 6) rfl _ rfl _ rfl _ f (by rw[gy,gy]) (Qjg _ _) (vl _ _ _ _) ?_;intro w4 k d))
 have U:Y (Ga b w4 e a s n n (.slice none 0 0) r b.heap.size 4 []):=
  ⟨k,((aA.tu (λj=>(r j\/j=b.heap.size)\/(Value.slice none 0 0).ownBlock=some j) (λj H h=>by
   rcases h with(h|h)|h
   .exact h
   .omega
   cases h)).grow c).bj d (by omega) (λg=>by have:=X _ g;omega)<|.inl<|.inr rfl,Fr.bj (Below.Qqr c n) d ah,⟨yyc _ _ _ _,λj H=>by cases H⟩,ah,aT,λg=>by have:=X _ g;omega⟩
 go_simp;go_loopw [] (λwr=>∃K M C d L m,Ga b wr e a K n M C r b.heap.size 4 d/\zx i a K L d/\a.size<m+K.H/\Y (F=sw (dz a i) a m K d)) (λwr=>a.size-ry wr e)
 .exact⟨s,n,_,[],L,a.size+1,U,V,by omega,aH.symm⟩
 have⟨⟨f,k,l⟩,aM,C,d,aN,m,A,w,aU,a9⟩:=hrel;have aO:=J<|Fx A.dr.c4;have aP:=w.le;have aQ:=w.zl;have D:=w.vu R
 simp only at aP aQ aU;have P:Y (F=if pk a (ip (dz a i) a ⟨f,k,l⟩).1.H=124 then sw (dz a i) a (m-1) ⟨(ip (dz a i) a ⟨f,k,l⟩).1.H+1,(ip (dz a i) a ⟨f,k,l⟩).1.g,(ip (dz a i) a ⟨f,k,l⟩).1.l⟩ (d++[(ip (dz a i) a ⟨f,k,l⟩).2])else cp (ip (dz a i) a ⟨f,k,l⟩).1 (ip (dz a i) a ⟨f,k,l⟩).1.H (ct 4<|d++[(ip (dz a i) a ⟨f,k,l⟩).2])):=by
  rw[Y,a9.out,show m=(m-1)+1 by omega,sw];rfl
 go_wp2_with fail;refine(Qzl i aB.out e ⟨f,k,l⟩ _ a aM aN _ A.dr R.out (λE t=>?_)<|w.win R.out).mono ?_
 .have:=A.lt;rcases t with(t|t)|t
  .have:=W E t;omega
  .omega
  exact(A.kd.own.lt E t).2
 rintro g u ⟨Q,rfl,c,p⟩;have o:=A.call p c;generalize q:ip (dz a i) a ⟨f,k,l⟩=aW at o P D|-;have⟨⟨c,z,v⟩,p⟩:=aW;have aC:=D.lo;have aD:=D.le;have aE:=D.zg;simp only at aC aD aE|-;have S:=o.row.cell<|wl _ _ 0;have T:=o.row.frozen (k:=257) (by rw[gy];omega);have aF:=o.lt;have Z:Y (∀{q:ae},(u.alloc<|.cells #[I p] 3).grownBy q C.ownBlock->q.cell? (O b.heap.size 257)=some C/\q.frozen? (O b.heap.size 257)=false):=by
  intro q x
  have B:q.heap[b.heap.size]?=u.heap[b.heap.size]? :=by
   rw[x.block b.heap.size (by simp;omega) (λg=>by have:=(o.kd.own.lt _ g.symm).1;omega),im _ _ _ aF]
  exact⟨(ac 257 B).trans S,(ad 257 B).trans T⟩
 have b0:d.length<=40:=by omega
 go_wp2_with (at_builtin;refine wpList_append_lies _ rfl _ _ 56 rfl (b.heap.size+1) 3 aV (I 0) 1 8 underlying56 aI aJ aK aL rfl (by omega) C d.length (d.map λaY:Nat=>I aY) rfl (o.kd.own.alloc _) (O u.heap.size 0) 1 1 [I p] rfl rfl (cell_one_new _ _ _) (λb4 B=>by simp at B;subst B;rfl) (by omega) (by unfold maxLen;omega) (by omega) (by simp;omega) (u.heap.size+1) (by simp) ?_;intro a3 a0 aX a7 x a1 aG;have a2:=o.more a7 x a1;have⟨aS,aR⟩:=Z.out x;clear a7 x a1 aG);refine(Iq e ⟨c,z,v⟩ _ a Q 124 _ a2.dr).mono ?_;rintro g a7 ⟨rfl,a1,rfl⟩;have x:Y _:=a2.drewN a1;generalize(aX.setCell (O b.heap.size 257)<|aa a3 (d.length+1) a0).drewN a1=a7 at x|-;simp only;by_cases o:pk a c=((124:Nat):Int)
 .have hd:decide (pk a c=((124:Nat):Int))=true:=by simpa using o
  rw[hd];have⟨aG,Z⟩:=D.next (z:=p) w.zl w.N o
  have S:=Z.le;simp only at S;have aR:Y (F=sw (dz a i) a (m-1) ⟨c+1,z,v⟩ (d++[p])):=by
   rw[Y,P.out,G (show pk a c=124 from o)]
  have T:Ga b (a7.setCell (O e 4)<|I<|(c:Int)+1) e a ⟨c+1,z,v⟩ n Q (aa a3 (d.length+1) a0) r b.heap.size 4 (d++[p]):=x.ux (v:=(c:Int)+1) (c+1) (by omega) S;have aS:=x.dr.c4;have b2:=x.dr.f4;simp only at aS;go_wp2_with fail;refine⟨⟨⟨c+1,z,v⟩,Q,_,d++[p],aG,m-1,T,Z,by show a.size<m-1+(c+1);omega,aR⟩,?_⟩;rw[Fx T.dr.c4,aO.out];show a.size-(c+1)<a.size-f
  omega
 have hd:decide (pk a c=((124:Nat):Int))=false:=by simpa using o
 rw[hd];have S:Y (F=cp ⟨c,z,v⟩ c (ct 4<|d++[p])):=by
  rw[Y,P.out,N (show ¬pk a c=124 from o)]
 go_wp2_with (first|(refine ir 20 rfl rfl 271 (.tmp 3) rfl _ rfl _ _ x.row underlying271 rfl (Qjg _ _) ?_));refine(x.done (by show v.length<=1000;omega) W.out<|by simp).mono ?_;rintro g aR ⟨T,rfl,Z,aG⟩;go_wp2_with fail;go_ret;rw[S.out];exact⟨T,rfl,Z,aG⟩
def af3:∀N,Qzm N
 |0=>by
  intro b f a g c d h _ _ _ _ _ _ _ _ e
  omega
 |N+1=>by
  intro b f a g c d h e m k i l n j o p
  exact Qzr N (af3 N) b f a g c d h e m n ⟨j,o,k,i,l,by simp,by omega,e.le⟩
end
def ar9{xs:List af}(m:w.ownsRow a 271 261 (aa b c d) c xs):∀(e:Nat)(h:af),xs[e]?=some h->w.cell? (O b e)=some h:=by
 intro e i j
 rcases m.2 with⟨k,_⟩|⟨q,p,g,l,_,n,_,_,_,o⟩
 .cases k
 cases l
 rw[yya w b e g 271 (0,0) n];have:g.toList[e]?=some i:=by
  have f:(g.toList.take<|c*261)[e]?=some i:=by rw[o,j]
  rw[Cg]at f;split at f
  .exact f
  cases f
 simpa using this
def Dr.tree{f:bs}(T:Dr w a s f x h)(g:Nat)(S:g<f.l.length)(y:f.l.length<=1000)(i:Nat)(W:i<=a)(z:∀b,b<i->h b):
  ∃j,∀d:ae,(∀b,i<=b->b<w.heap.size->d.heap[b]?=(w.setCell (O a 2)<|I g).heap[b]?)->Co d w.heap.size a j f.l f.g g:=by
 have⟨A,a3,a4,a5,a6,a8,a9,aA,aB,aD,a2,xs,q,a0⟩:=T;have m:a<w.heap.size:=dw w _ A;have⟨j,a1,v,aC,r⟩:=q.form (by omega);subst v;refine⟨j,λd n=>?_⟩;have o:∀b c,i<=b->b<w.heap.size->b≠a->d.cell? (O b c)=w.cell? (O b c):=λb c B C e=>bz<|(n b B C).trans<|er _ _ _ _ e
 have k:∀c,d.cell? (O a c)=(w.setCell (O a 2)<|I g).cell? (O a c):=λc=>bz<|n a W m
 refine⟨⟨a1,by rw[k];go_simp⟩,by rw[k];go_simp,by rw[k];go_simp,m,r,λU R hd=>?_,S,y⟩;have⟨D,Q,e,E⟩:=a0 U R hd;refine⟨D,Q,λc X F=>?_,λV Z l=>?_⟩
 .rw[o j _ (by omega) r<|by omega];exact ar9 q _ _<|E c X F
 rcases e with e|⟨p,H,K,a7,L,M⟩
 .rw[e]at l;cases l
 have t:=M V Z l;have u:=dw w _ t;exact⟨p,H,u,by rw[o p _ (Nat.le_of_not_lt λP=>L<|z _ P) u K];exact t⟩
def apd(u:S.size<=40)(k:iu S)(a:ae):
  Calls prog 145 #[.string S] a λi j=>∃n l,i=.returned (.pointer<|some ⟨n,0,none⟩)/\(∀m:ae,(∀c,a.heap.size<=c->c<j.heap.size->m.heap[c]?=j.heap[c]?)->Co m j.heap.size n l (jv S).1.l (jv S).1.g (jv S).2)/\Below a.heap.size a j:=by
 have v:=J k;have⟨d,_⟩:=Cy k 41 ⟨0,0,[]⟩ ⟨0,0,[]⟩ ⟨0,0,0,0⟩ rfl rfl ⟨λh e hd=>by simp at hd,λh e hd=>by simp at hd⟩ ⟨λh e hd=>by simp at hd,λh e hd=>by simp at hd⟩ rfl rfl (ey _) (by show S.size-0<41;omega);have q:=J d.Db;have r:Y ((jv S).1.l.length<=1000):=by
  have o:=If S 41 ⟨0,0,[]⟩;have f:=d.le;rw[d.H]at f;have s:(jv S).1.l.length+0<=0+2*(dz S 41 ⟨0,0,[]⟩).1.H+2:=o;rw[Y];omega
 have t:Below a.heap.size a (a.alloc<|.cells #[.slice none 0 0,I 0,I 0,.string S,I 0] 241):=(bp _ _).alloc ah _;have d:∀c,(a.alloc<|.cells #[.slice none 0 0,I 0,I 0,.string S,I 0] 241).cell? (O a.heap.size c)=(#[.slice none 0 0,I 0,I 0,.string S,I 0]:Array af)[c]? :=λc=>yya _ a.heap.size c _ 241 (0,0)<|heap_alloc_last a _
 have f:∀c,(a.alloc<|.cells #[.slice none 0 0,I 0,I 0,.string S,I 0] 241).frozen? (O a.heap.size c)=false:=λc=>by
  rw[frozen?_alloc_cells a _ 241<|O a.heap.size c];simp[World.frozen?]
 have o:Y (Dr (a.alloc<|.cells #[.slice none 0 0,I 0,I 0,.string S,I 0] 241) a.heap.size S ⟨0,0,[]⟩ (.slice none 0 0)<|λc=>c<a.heap.size):=
  ⟨d 0,d 1,d 2,d 3,d 4,f 0,f 1,f 2,f 4,ey _,u,[],yyc _ _ _ _,λc e hd=>by simp at hd⟩
 go_in;go_wp21;go_call af3 41 a.heap.size ⟨0,0,[]⟩ (λc=>c<a.heap.size) S _ ⟨0,0,0,0⟩ _ o v ⟨λh e hd=>by simp at hd,λh e hd=>by simp at hd⟩ (by simp) (by simp) (λA w=>by simp;omega) rfl rfl (by show S.size-0<41;omega)as i p ⟨E,rfl,b,g⟩;have x:=b.c2;have y:=b.f2;rw[show dz S 41 ⟨0,0,[]⟩=jv S from rfl];go_wp21;go_ret;have⟨l,d⟩:=b.tree (jv S).2 q r a.heap.size ah<|λ_ f=>f;refine⟨a.heap.size,l,rfl,?_,?_⟩
 .have i:(p.setCell (O a.heap.size 2)<|I ((jv S).2:Int)).heap.size=p.heap.size:=by simp[World.setCell]
  rw[i];exact d
 have s:Below a.heap.size (a.alloc<|.cells #[.slice none 0 0,I 0,I 0,.string S,I 0] 241) p:=⟨g.os,g.tape,g.output,g.size,λc z=>g.block c (by simp;omega) (by omega)<|by simp[Value.ownBlock]⟩;exact(t.trans s).setCell ah _
section
attribute [local go_sem↓] Ba ze Fb Fh Go.wp_at_zero Go.wp_at_succ
structure Fi(w wr:ae)(p:Fp):Prop where
 fd:et wr p
 c4:wr.cell? (O p.fb 4)=some (.slice none 0 0)
 f4:wr.frozen? (O p.fb 4)=false
 fm:Fm p w wr
def Fi.of{w wr c:ae}{b:Fp}(a:Fi w wr b)(e:et c b)(d:Fm b wr c):Fi w c b:=
 ⟨e,(ac 4<|d.block _ a.fd.lt a.fd.fk a.fd.fe).trans a.c4,(ad 4<|d.block _ a.fd.lt a.fd.fk a.fd.fe).trans a.f4,a.fm.trans d⟩
def Fi.grow{d wr e:ae}{c:Fp}(b:Fi d wr c)(a:Below wr.heap.size wr e):Fi d e c:=b.of (b.fd.grow a)<|Below.fm a
def flat(l:co):List af:=l.flatMap λq=>[I q.1,I q.2]
def Ui:∀(a:co),(flat a).length=a.length*2
 | []=>rfl
 |q::a=>by
  have:=Ui a;simp only[flat,zyd,ga,xv,List.length_nil]at this|-;omega
def Uh:∀(c:co)(b:Nat)(d:Int×Int),c[b]?=some d->(flat c)[b*2]?=some (I d.1)/\(flat c)[b*2+1]?=some (I d.2)
 | [],b,d,h=>by simp at h
 |a::c,0,d,h=>by
  have:a=d:=by simpa using h
  subst this;exact⟨rfl,rfl⟩
 |a::c,b+1,d,h=>by
  have e:c[b]?=some d:=by simpa using h
  have⟨f,g⟩:=Uh c b d e;have i:flat (a::c)=[I a.1,I a.2]++flat c:=rfl;rw[i];constructor
  .rw[sn<|by simp;omega,show(b+1)*2- [Value.int IntKind.i64 a.1,I a.2].length=b*2 by simp;omega];exact f
  rw[sn<|by simp;omega,show(b+1)*2+1- [Value.int IntKind.i64 a.1,I a.2].length=b*2+1 by simp;omega];exact g
def aos(a b:co):flat (a++b)=flat a++flat b:=by simp[flat,List.flatMap_append]
def aou(c:co):∀b∈flat c,b.oneCell'=true:=by
 intro b a
 simp only[flat,List.mem_flatMap]at a;have⟨d,_,a⟩:=a;simp at a;rcases a with rfl|rfl<;>rfl
def aot{c:co}(m:rx w a c):∀(b:Nat)(f:af),(flat c)[b]?=some f->w.cell? (O a b)=some f:=by
 intro b f d
 have o:b<c.length*2:=by
  have:=(jy.1 d).1;rw[Ui]at this;exact this
 have n:b/2<c.length:=by omega
 have g:c[b/2]?=some c[b/2]:=dy n;have⟨h,i⟩:=Uh c (b/2) c[b/2] g;have⟨j,l,_,_⟩:=m (b/2) c[b/2].1 c[b/2].2 g;rcases Nat.mod_two_eq_zero_or_one b with k|k
 .have e:b/2*2=b:=by omega
  rw[e]at h j;rw[j,<-h,d]
 have e:b/2*2+1=b:=by omega
 rw[e]at i l;rw[l,<-i,d]
def aft(a b:af):(W.alloc<|.cells #[a,b] 48).ownsRow W.heap.size 48 2 (aa W.heap.size 1 1) 1 [a,b]:=
 ⟨rfl,.inr ⟨W.heap.size,1,#[a,b],rfl,ah,heap_alloc_last W _,ah,by unfold maxLen;omega,rfl,rfl⟩⟩
def Wq{l:co}(k:w.ownsRow a 48 2 (aa b c d) c (flat l)):rx w b l:=by
 intro m n o p
 rcases k.2 with⟨q,_⟩|⟨x,y,h,r,_,i,_,_,_,s⟩
 .cases q
 cases r
 have⟨t,u⟩:=Uh l m (n,o) p;have j:∀e g,(flat l)[e]?=some g->w.cell? (O b e)=some g:=by
  intro e g v
  rw[yya w b e h 48 (0,0) i];have:h.toList[e]?=some g:=by
   have f:(h.toList.take<|c*2)[e]?=some g:=by rw[s,v]
   rw[Cg]at f;split at f
   .exact f
   cases f
  simpa using this
 have f:∀e,w.frozen? (O b e)=false:=λe=>by simp[World.frozen?,i]
 exact⟨j _ _ t,j _ _ u,f _,f _⟩
def et.Kl{c:Fp}(a:et w c)(e:af):et (w.setCell (O c.fb 4) e) c:=by
 have n:∀b,b≠c.fb->(w.setCell (O c.fb 4) e).heap[b]?=w.heap[b]? :=λb i=>er _ _ _ _ i
 have j:∀d b,d≠c.fb->(w.setCell (O c.fb 4) e).cell? (O d b)=w.cell? (O d b):=λd b k=>ac b<|n d k
 have o:∀d b,d≠c.fb->(w.setCell (O c.fb 4) e).frozen? (O d b)=w.frozen? (O d b):=λd b k=>ad b<|n d k
 have h:∀b,b≠4->(w.setCell (O c.fb 4) e).cell? (O c.fb b)=w.cell? (O c.fb b):=λb i=>jm (h:=λl=>i<|by injection l with _ l _;exact l.symm) ..
 have p:(w.setCell (O c.fb 4) e).heap.size=w.heap.size:=by simp[World.setCell]
 have s:Below c.N0 w (w.setCell (O c.fb 4) e):=(bp _ _).setCell a.nf _;have⟨t,u,q,r,v⟩:=a.De.kn;refine⟨(h 0<|by omega).trans a.c0,(h 1<|by omega).trans a.c1,(h 2<|by omega).trans a.c2,(h 3<|by omega).trans a.c3,a.tree.below s,⟨t,u,λf g=>?_,λf g=>?_,v⟩,a.nf,a.nk,a.ne,a.fk,a.fe,a.ke,by rw[p];exact a.kl,by rw[p];exact a.el,a.js,a.wf⟩
 .exact⟨(j _ _ a.fk.symm).trans (q f g).1,(o _ _ a.fk.symm).trans (q f g).2⟩
 refine⟨λm x y=>(j _ _ a.fe.symm).trans<|(r f g).1 m x y,λm z=>?_⟩;rw[j _ _ a.fe.symm,o _ _ a.fe.symm];exact(r f g).2 m z
structure Ly(w wr:ae)(p:Fp)(B k:Nat)(v:af):Prop where
 fd:et wr p
 c4:wr.cell? (O p.fb 4)=some v
 f4:wr.frozen? (O p.fb 4)=false
 own:wr.ownsRow B 48 2 v k (flat<|List.replicate k ((-1:Int),(-1:Int)))
 bl:Below p.N0 w wr
 nz:k=0->v=.slice none 0 0
def Ly.more{A wr i:ae}{h:Fp}(k:Ly A wr h a b x)(K:h.fb<a/\h.kb<a/\h.eb<a/\a<=wr.heap.size)
  (t:i.ownsRow a 48 2 (aa c (b+1) d) (b+1) (flat (List.replicate b ((-1:Int),(-1:Int)))++[I<|-1,I<|-1]))
  (o:(wr.alloc<|.cells #[I<|-1,I<|-1] 48).grownBy i x.ownBlock):
  Ly A (i.setCell (O h.fb 4)<|aa c (b+1) d) h a (b+1) (aa c (b+1) d)/\i.cell? (O h.fb 4)=some x/\i.frozen? (O h.fb 4)=false:=by
 have⟨m,u,q,Q⟩:=K;have R:(wr.alloc<|.cells #[I<|-1,I<|-1] 48).heap.size=wr.heap.size+1:=by simp
 have L:∀e,x.ownBlock=some e->a<=e/\e<wr.heap.size:=λe j=>k.own.lt e j
 have n:∀e,e<wr.heap.size->e<a->i.heap[e]?=wr.heap[e]? :=λe j S=>by
  rw[o.block e (by omega) (λp=>by have:=(L e p.symm).1;omega),im _ _ _ j]
 have M:=k.fd.nf;have V:=o.size;have W:=(t.lt c rfl).1;have v:Below h.N0 wr i:=⟨o.os,o.tape,o.output,by omega,λe j=>n e (by omega)<|by omega⟩;have P:et i h:=by
  have f:=k.fd;have l:∀g b,g<a->i.cell? (O g b)=wr.cell? (O g b):=λg b r=>ac b<|n g (by omega) r
  have w:∀g b,g<a->i.frozen? (O g b)=wr.frozen? (O g b):=λg b r=>ad b<|n g (by omega) r
  have⟨B,C,y,z,D⟩:=f.De.kn;refine⟨(l _ _ m).trans f.c0,(l _ _ m).trans f.c1,(l _ _ m).trans f.c2,(l _ _ m).trans f.c3,f.tree.below v,⟨B,C,λe j=>⟨(l _ _ u).trans (y e j).1,(w _ _ u).trans (y e j).2⟩,λe j=>⟨λs E F=>(l _ _ q).trans<|(z e j).1 s E F,λs H=>?_⟩,D⟩,f.nf,f.nk,f.ne,f.fk,f.fe,f.ke,by omega,by omega,f.js,f.wf⟩;rw[l _ _ q,w _ _ q];exact(z e j).2 s H
 have f:=(ac 4<|n h.fb (by omega) m).trans k.c4;have g:=(ad 4<|n h.fb (by omega) m).trans k.f4;refine⟨⟨et.Kl P _,qz _ _ _ f,by rw[jf];exact g,?_,(k.bl.trans v).setCell M _,λp=>by omega⟩,f,g⟩;have p:flat (List.replicate (b+1) ((-1:Int),(-1:Int)))=flat (List.replicate b ((-1:Int),(-1:Int)))++[I<|-1,I<|-1]:=by
  rw[List.replicate_succ',aos];rfl
 rw[p];exact Qqo t λe j=>er _ _ _ _ (by
  have:c=e:=by simpa[Value.ownBlock]using j
  simp only;omega)
def Ly.gs{u wr:ae}{b:Fp}(d:Ly u wr b a b.eu x)(o:b.fb<a/\b.kb<a/\b.eb<a)(v:b.N0<=a):Gs wr wr b x.ownBlock (tc b.eu)/\(tc b.eu).length=b.eu:=by
 have i:(tc b.eu).length=b.eu:=by simp[tc]
 have⟨w,y,z⟩:=o;refine⟨⟨d.fd,?_,λj k l=>?_,Fg.refl _ _ _,λg e=>?_⟩,i⟩
 .rw[i];rcases d.own.2 with⟨e,m⟩|⟨h,n,p,f,_⟩
  .exact⟨none,0,by rw[d.c4,e,m],λg c=>by rw[e]at c;cases c⟩
  exact⟨some<|O h 0,n,by rw[d.c4,f],λg c=>by rw[f]at c;have:h=g:=(by simpa[Value.ownBlock]using c);rw[this]⟩
 .rcases d.own.2 with⟨e,m⟩|⟨h,n,p,f,_⟩
  .have:j<(tc b.eu).length:=(jy.1 l).1;omega
  have c:=d.own;rw[f]at c;have⟨q,r,s,t⟩:=Wq c j k.1 k.2 l;exact⟨h,by rw[f];rfl,q,r,s,t⟩
 have:=d.own.lt g e;exact⟨by omega,by omega,by omega,by omega,this.2⟩
def ap2:(prog.info? 48).map (λa=>(a.zero,a.size,a.bytes))=some (some<|.agg #[I 0,I 0],2,16):=by kernel_rfl
end
def Qzs(p:bs):Prop:=∀(n:Nat)(d:Nd),p.l[n]?=some d->Bc d/\(d.R=3->d.num<p.g/\∃z,d.ba=[z])/\d.lo<=900
def Qzs.add{d:bs}(k:Qzs d){c:Nd}(hd:Bc c)(l:c.R=3->c.num<d.g/\∃n,c.ba=[n])(i:c.lo<=900):Qzs (cp d a c).1:=by
 intro e g m
 have b:(d.l++[c])[e]?=some g:=m;rcases hb e d.l.length with j|f
 .rw[oq j]at b;exact k e g b
 rw[sn f]at b;cases h:e-d.l.length with
 |zero=>rw[h]at b;cases b;exact⟨hd,l,i⟩
 |succ o=>rw[h]at b;cases b
def Qzs.of{a q:bs}(i:Qzs a)(d:q.l=a.l:=by omega)(e:a.g<=q.g:=by omega):Qzs q:=by
 intro j f hd
 rw[d]at hd;have⟨g,b,h⟩:=i j f hd;exact⟨g,λc=>⟨ew (b c).1 e,(b c).2⟩,h⟩
def ars(c:a<=2)(b:Nat->Bool):Bc (gb a b):=⟨by show a<=6;omega,by show 0<=1000;omega,by show 0<=1000;omega,by show-1<=(0:Int)/\(0:Int)<=1000;omega,by show(0:Int)<0\/((0:Nat):Int)<=0;omega⟩
def Jk(s:ag)(N:Nat)(ch:bs->bs×Nat):Prop:=∀(p:bs)(st:St),zx (N-1) s p st []->0<N->s.size-p.H<N->Qzs p->Qzs (ch p).1/\p.g<=(ch p).1.g
def aru(o:iu s)(p:Jk s a (dz s a)){b:bs}{c:St}(d:Cq a s b c g)(i:om s b.H=true)(j:Qzs b):Qzs (ep (dz s a) s b).1/\b.g<=(ep (dz s a) s b).1.g:=by
 have l:b.H<s.size/\bn mb (au s b.H)=false:=by
  unfold om at i;simpa using i
 by_cases e:au s b.H=40
 .rw[Tk e];have q:=d.rn;have f:run s (b.H+1)=kh c 40:=by
   rw[lf q,e,Mm d.m2<|by rw[<-e];exact l.2]
  have k:kh c 40=if c.o=5\/c.a=9 then none else some ⟨0,c.o+1,c.a+1,c.l⟩:=rfl
  have⟨m,h⟩:=o.all (show b.H+1<=s.size by omega);have n:m=⟨0,c.o+1,c.a+1,c.l⟩:=by
   rw[h,k]at f;split at f
   .cases f
   cases f;rfl
  have x:=d.N;have u:=d.zg;have v:=d.gc;have⟨r,t⟩:=p ⟨b.H+1,b.g+1,b.l⟩ ⟨0,c.o+1,c.a+1,c.l⟩ ⟨by rw[<-n];exact h,rfl,d.gd,by show b.l.length<=300+2*(b.H+1);omega,by show b.g+1<=b.H+1;omega,by simp,by show s.size-(b.H+1)<=a-1;omega,by show b.H+1<=s.size;omega⟩ (by omega) (by show s.size-(b.H+1)<a;omega) (j.of rfl<|by show b.g<=b.g+1;omega);have w:b.g+1<=(dz s a ⟨b.H+1,b.g+1,b.l⟩).1.g:=t;refine⟨r.add ⟨by show 3<=6;omega,by show 1<=1000;omega,by show 0<=1000;omega,by show-1<=(0:Int)/\(0:Int)<=1000;omega,by show(0:Int)<0\/((0:Nat):Int)<=0;omega⟩ (λ_=>⟨by show b.g<_;omega,_,rfl⟩)<|by show 0<=900;omega,by show b.g<=(dz s a ⟨b.H+1,b.g+1,b.l⟩).1.g;omega⟩
 unfold ep;simp only;rw[N e]
 (repeat' split)<;>exact⟨j.add (ars (by omega) _) (λf=>by have h:(_:Nat)=3:=f;simp[gb]at h)<|by show 0<=900;omega,ah⟩
def Lh(c:b<=1000)(d:-1<=p/\p<=1000)(e:p<0\/(b:Int)<=p):Bc (gr a b p):=⟨by show 6<=6;omega,by show 1<=1000;omega,c,d,e⟩
def afb(b:a<=6)(c:g.length<=1000):Bc (ct a g):=⟨b,c,by show 0<=1000;omega,by show-1<=(0:Int)/\(0:Int)<=1000;omega,by show(0:Int)<0\/((0:Nat):Int)<=0;omega⟩
def ald(b:iu s){d:St}(n:run s a=some d)(g:d.m=1)(u:a<s.size)(o:au s a=123)(y:pk s (a+2)=44):au s (a+1)-48<=au s (a+3)-48:=by
 have⟨v,p,q,w⟩:=d;simp only at g;subst g;have h:run s (a+1)=some ⟨11,p,q,0⟩:=by
  rw[lf n,o];exact Qp
 have r:=b.qd h (by omega) (by simp) (by simp);have⟨z,c,i⟩:=b.next h r
 rw[Bl<|.inl rfl]at c;split at c
 .rename_i hd;cases c
  have j:=b.qd i (by omega) (by simp) (by simp);have⟨A,e,k⟩:=b.next i j
  rw[G rfl,Cw<|.inl rfl]at e;have l:au s (a+1+1)=44:=by
   have:=fh j;rw[show a+1+1=a+2 from rfl]at this|-;omega
  rw[N,G ⟨l,rfl⟩]at e;cases e
  have t:=b.qd k (by omega) (by simp) (by simp);have⟨B,f,x⟩:=b.next k t
  rw[Bl<|.inr rfl]at f;split at f
  .rename_i m;exact m.2.2
  cases f
 cases c
def asc(h:iu s)(p:Jk s a (dz s a)){b:bs}{v:St}(c:Cq a s b v g)(q:om s b.H=true)(w:Qzs b):Qzs (ki (dz s a) s b).1/\b.g<=(ki (dz s a) s b).1.g:=by
 have t:b.H<s.size/\bn mb (au s b.H)=false:=by
  unfold om at q;simpa using q
 have⟨d,e⟩:=aru h p c q w;have⟨x,F,n,u⟩:=Wg h (Cy h a) rfl rfl c.gd c.gd c.rn c.m2 t.1 c.N t.2;rw[x.H]at n;have f:∀(m k:Nat)(l:Int),(gr m k l).R=3->(gr m k l).num<(ep (dz s a) s b).1.g/\∃E,(gr m k l).ba=[E]:=λm k l z=>by simp[gr]at z
 by_cases B:pk s (ep (dz s a) s b).1.H=42
 .rw[abq B];exact⟨d.add (Lh (by omega) (by omega)<|.inl<|by omega) (f _ _ _)<|by show(_:Nat)<=900;simp only[gr];omega,e⟩
 by_cases C:pk s (ep (dz s a) s b).1.H=43
 .rw[abr C];exact⟨d.add (Lh (by omega) (by omega)<|.inl<|by omega) (f _ _ _)<|by show(_:Nat)<=900;simp only[gr];omega,e⟩
 by_cases D:pk s (ep (dz s a) s b).1.H=63
 .rw[abs D];exact⟨d.add (Lh (by omega) (by omega)<|.inr<|by omega) (f _ _ _)<|by show(_:Nat)<=900;simp only[gr];omega,e⟩
 by_cases i:pk s (ep (dz s a) s b).1.H=123
 .have o:(ep (dz s a) s b).1.H<s.size:=by
   rcases hb (ep (dz s a) s b).1.H s.size with A|A
   .exact A
   rw[qj]at i;omega
  have r:au s (ep (dz s a) s b).1.H=123:=by rw[fh o]at i;omega
  have⟨K,L,M,y⟩:=aa0 h n u o r;by_cases j:pk s ((ep (dz s a) s b).1.H+2)=44
  .rw[abu i j];have⟨P,Q,R⟩:=y j;have H:=ald h n u o r j;exact⟨d.add (Lh (by omega) (by omega)<|.inr<|by omega) (f _ _ _)<|by show(_:Nat)<=900;simp only[gr];omega,e⟩
  rw[abt i j];exact⟨d.add (Lh (by omega) (by omega)<|.inr<|by omega) (f _ _ _)<|by show(_:Nat)<=900;simp only[gr];omega,e⟩
 rw[Tm (λj p=>by rcases p with rfl|rfl|rfl|rfl<;>assumption)];exact⟨d,e⟩
def ajg{a:ag}(e:iu a)(j:a.size<=40){c:Nat}(i:Jk a c (dz a c)):∀(f:Nat)(b:bs)(g:St)(d:List Nat),Cq c a b g d->Qzs b->Qzs (qs (dz a c) a f b d).1/\b.g<=(qs (dz a c) a f b d).1.g
 |0,b,g,d,_,hp=>⟨hp,ah⟩
 |f+1,b,g,d,h,hp=>by
  rw[qs];rcases df (om a b.H)with hs|hs
  .rw[N<|Yn hs];have⟨l,m⟩:=asc e i h hs hp;have⟨k,n,q⟩:=h.next e hs
   have⟨o,p⟩:=ajg e j i f _ k _ n l;exact⟨o,bq m p⟩
  rw[G<|h.ov hs];have:=h.zl;have:=h.le;exact⟨hp.add (afb (by omega)<|by omega) (λk=>by simp[ct]at k)<|by show 0<=900;omega,ah⟩
def aa5{a:ag}(g:iu a)(j:a.size<=40){c:Nat}(m:Jk a c (dz a c)):∀(f:Nat)(b:bs)(i:St)(d:List Nat),zx c a b i d->Qzs b->Qzs (sw (dz a c) a f b d).1/\b.g<=(sw (dz a c) a f b d).1.g
 |0,b,i,d,_,hp=>⟨hp,ah⟩
 |f+1,b,i,d,h,hp=>by
  have⟨o,p⟩:=ajg g j m (a.size+1) b i [] (h.win g) hp;have q:=h.vu g;have r:sw (dz a c) a (f+1) b d=if pk a (ip (dz a c) a b).1.H=124 then sw (dz a c) a f ⟨(ip (dz a c) a b).1.H+1,(ip (dz a c) a b).1.g,(ip (dz a c) a b).1.l⟩ (d++[(ip (dz a c) a b).2])else cp (ip (dz a c) a b).1 (ip (dz a c) a b).1.H (ct 4<|d++[(ip (dz a c) a b).2]):=rfl
  rw[r];have k:Qzs (ip (dz a c) a b).1:=o;have l:b.g<=(ip (dz a c) a b).1.g:=p;by_cases e:pk a (ip (dz a c) a b).1.H=124
  .rw[G e];have⟨n,s⟩:=q.next (z:=(ip (dz a c) a b).2) h.zl h.N e
   have⟨t,u⟩:=aa5 g j m f _ n _ s<|k.of rfl ah;exact⟨t,bq l u⟩
  rw[N e];have:=h.zl;have:=h.le;exact⟨k.add (afb (by omega)<|by simp;omega) (λe=>by simp[ct]at e)<|by show 0<=900;omega,l⟩
def aa7{a:ag}(c:iu a)(b:a.size<=40):∀N,Jk a N (dz a N)
 |0=>λf d _ e _ _=>by omega
 |N+1=>λf d e _ h g=>aa5 c b (aa7 c b N) (a.size+1) f d [] e g
def am2(d:iu s)(c:s.size<=40):Qzs (jv s).1:=
 (aa7 d c 41 ⟨0,0,[]⟩ ⟨0,0,0,0⟩ ⟨rfl,rfl,⟨λb a hd=>by simp at hd,λb a hd=>by simp at hd⟩,by simp,by simp,by simp,by show s.size-0<=41-1;omega,ey _⟩ (by omega) (by show s.size-0<41;omega)<|λb a hd=>by simp at hd).1
