import Derived.Test.YtppjlpihaocdiaaGreatDoorBiQ
import Derived.Test.YtppjlpihaocdiaaGreatDoorBhQ
set_option linter.all false
set_option maxRecDepth 100000
set_option maxHeartbeats 16000000
namespace Go.Proofs.YtppjlpihaocdiaaGreatDoor
open Go.RowKit Go.Proofs.Tryz
variable{w u v:ae}{a b c d e:Nat}{s t:ag}{x y z:af}{p D:Int}{l:List af}{f:Bool}{g:List Nat}{h:Nat->Prop}{o:Option Addr}{r:List UInt8}{A:Nat->Bool}{B:Nat->Nat->Bool}{C:Nat->Nat->Prop}(i:Nat)(S T:ag)(V X:af)(j k m n:Nat)(Z:Int)(W:ae)
section
section
variable {mf:Mf} {cf:Cf} {d:Bool} {D D1:Dd} {F:List UInt8×Nat} {K l:Nat} {E E1:Ed} {r:List UInt8} {x:Cm} {c:Dc}
theorem Vu{b:Wh}(a:(E.jl mf b).2=false):b.sort=2/\E.known=false:=by
 unfold Ed.jl at a;grind
theorem abc{b:Wh}(a:(E.qa mf b f).2=false):b.sort=2/\E.known=false:=by
 unfold Ed.qa at a;by_cases e:b.sort=1
 .grind
 by_cases g:b.sort=3
 .grind
 rw[N e,N g]at a;exact Vu a
theorem ah4(j:Rl cf d D E r)(o:c.fst=x.fst)(p:c.snd=x.snd)(a:(E.gz mf x).2.2=false):(E.gz mf x).1=E/\E.known=false/\(D.yg=true->(D.gz mf c E.H).1.ji=true/\(D.gz mf c E.H).1.out=D.out/\(D.gz mf c E.H).1.ck=D.ck):=by
 unfold Ed.gz at a|-;rw[Dd.gz,o,p];have k:∀{n:Wh},n.sort=2->D.yg=true->D.lu n={D with ji:=true}:=λi b=>by rw[Dd.lu,G i,Dd.last,b];rfl
 by_cases h:x.snd.sort=0
 .rw[G h]at a|-;rw[G h];let⟨e,f⟩:=Vu a;grind
 rw[N h]at a|-;rw[N h,j.bo];simp only at a|-;cases m:E.bo.getD E.H false
 .rw[m]at a;by_cases g:(E.jl mf x.fst).1=false\/(E.jl mf x.fst).2=false
  .rw[G ⟨rfl,g⟩]at a|-;let⟨e,f⟩:=Vu a;grind
  rw[N<|λi=>g i.2]at a|-;simp only at a;simp only[not_or,Bool.not_eq_false]at g;let⟨e,f⟩:=abc a;let⟨q,s⟩:=j.jl g.2;refine⟨qE,f,λb=> ?_⟩;rw[N qG,q,s,N<|by rw[j.ji,g.1];simp,G e,Dd.last,b];grind
 rw[m]at a;rw[N qD]at a|-;simp only at a;let⟨e,f⟩:=abc a;exact⟨qE,f,λb=>qE⟩
theorem auf(v:gx cf){y:ag->Nat}(u:To mf cf d F K 2 E r)(j:Rl cf d D E r)(k:E.bg=2)(w:cf.U[E.H]?=some x)(g:xg y c x)(z:x.snd.sort<=3):
  ((D.gz mf c E.H).1.ji=true/\Qt F (D.gz mf c E.H).1)\/
  ∃f m,D.gz mf c E.H=({D with bo:=f},m !=x.neg)/\(m=x.neg->∃K a r,To mf cf d F K 1 a r/\Rl cf d {D with bo:=f} a r/\a.H=if x.R=0 then x.cn else E.H+1)/\(m≠x.neg->∃K a r,To mf cf d F K 2 a r/\Rl cf d {D with bo:=f} a r/\a.H=E.H/\a.bg=3):=by
 have M:(∃i a e,To mf cf d F i 2 a e/\Rl cf d D a e/\a.bg=2/\a.H=E.H/\(a.gz mf x).2.2=true)\/((D.gz mf c E.H).1.ji=true/\Qt F (D.gz mf c E.H).1):=by
  cases n:(E.gz mf x).2.2
  .let⟨t,A,B⟩:=ah4 j g.fst g.snd n;rcases u.known v j (by rw[k];rfl) A (λQ=>by
    have L:E.dv mf cf=(E,0):=by rw[Kb (mf:=mf) w,Ed.choose,G k];simp only[n,t];rfl
    rw[ug,L];rfl)with⟨i,a,e,o,b,p,h⟩|⟨P,hF⟩
   .refine .inl ⟨i,a,e,o,b,?_,?_,?_⟩
    .obtain⟨_,_,_,rfl⟩:=h;exact k
    .obtain⟨_,_,_,rfl⟩:=h;rfl
    cases q:(a.gz mf x).2.2
    .have:=(ah4 b g.fst g.snd q).2.1;grind
    rfl
   let⟨s,C,H⟩:=B P;exact .inr ⟨s,.inr s,by rw[hF,C,H,j.st]⟩
  exact .inl ⟨K,E,r,u,j,k,rfl,n⟩
 obtain⟨i,a,e,o,b,p,h,n⟩|q:=M
 .right;let⟨f,A,B,s⟩:=b.gz g.fst g.snd g.neg z n;rw[h]at s;have L:a.gz mf x=({a with bo:=f},(a.gz mf x).2.1,true):=by rw[<-A,<-n]
  let⟨C,H⟩:=o.pick v p b.es (by rw[h];exact w) L B;have t:Rl cf d {D with bo:=f} {a with bo:=f} e:=⟨b.rest,b.dq,b.en,b.number,b.L,b.bt,b.ef,b.out,rfl,b.put,b.dt,b.st,b.es,b.ji,b.ps,b.hs,b.nn⟩;exact⟨f,_,s,λq=>⟨i,_,e,C q,t.jp _ a.bg,by rw[h]⟩,λq=>⟨i,_,e,H q,t.jp a.H 3,h,rfl⟩⟩
 exact .inl q
end
structure Env(w:ae)(p:Dw)(lb:Nat)(cs:List Dc)(ns:List ag)(gs:List Nat):Prop where
 rc:RdC w p.B p.rb lb cs
 rs:Hq w p.rb cs.length ns gs
 rk:∀v k,w.cell? (O p.rb 3)=some v\/w.cell? (O p.rb 4)=some v->v.ownBlock=some k->k<p.B
 len:cs.length=p.cf.U.length
 rel:∀(k:Nat)(c:Dc)(x:Cm),cs[k]?=some c->p.cf.U[k]?=some x->xg (λt=>goalF cs.length t ns gs) c x
 ok:gx p.cf
def Fu.up{g h:ae}{b:Nat}{f:af}{x:Wh}(a:Fu g b f x)(i:Below b g h):Fu h b f x:=⟨a.1,a.2.1,λe=>⟨(a.2.2 e).1,(a.2.2 e).2.up i⟩⟩
def xf.up{j k:ae}{b:Nat}{c:Dc}{f h i:af}(a:xf j b c f h i)(e:Below b j k):xf k b c f h i:=⟨a.one,a.fst.up e,a.snd.up e,λg=>⟨(a.L g).1,(a.L g).2.up e⟩⟩
theorem Env.up{k m:ae}{g:Dw}{q:Nat}{n:List Dc}{p:List ag}{o:List Nat}(K:Env k g q n p o)(h:Below g.B k m):Env m g q n p o:=by
 have f:∀e a,e<g.B->m.cell? (O e a)=k.cell? (O e a):=λe a i=>h.cell (p:=O e a) i
 let⟨⟨⟨V,R,v,T⟩,w,b,s,y⟩,z,t,U,rel,A⟩:=K;refine⟨⟨⟨V,R,(f _ _ b).trans v,T⟩,λa c i=> ?_,b,s,y⟩,z.up h b t,λj a u=>t j a qE,U,rel,A⟩;let⟨B,C,H,L,M⟩:=w a c i;exact⟨B,C,H,λS j P=>(f _ _ s).trans<|L S j P,M.up h⟩
theorem Rl.small{mf:Mf}{cf:Cf}{d:Bool}{D:Dd}{F:List UInt8×Nat}{K l:Nat}{E:Ed}{r:List UInt8}(a:Rl cf d D E r)(b:To mf cf d F K l E r)(g:gx cf):D.L.size<=80/\D.bt.size<=80/\D.out.size+fz D.ef<=1099510000000/\D.number<=2000000/\D.rest.size<=4000001/\D.bo.length=cf.U.length/\D.dt<=cf.dt/\E.H<=cf.U.length:=by
 have iv:=b.wz.iv;have h:=iv.num;have i:=iv.wn;have j:=iv.next
 have k:=b.kk;have e:=iv.L;have f:=iv.bt;refine⟨by rw[a.L];exact e,by rw[a.bt];exact f,?_,by rw[a.number];omega,?_,by rw[a.bo];exact iv.bo,by rw[a.dt];exact iv.cx,iv.H⟩
 .rw[<-jn,a.out,a.ef];omega
 rw[<-jn,a.rest];grind
theorem Gh(D:Dd):D.pw.number=D.number/\D.pw.dt=D.dt/\D.pw.rest=D.rest:=by
 let⟨b,a,_⟩:=Em D.ef D;rw[Dd.pw,a];grind
def Qqd(D D':Dd):Prop:=D.number<=D'.number/\D'.rest.size<=D.rest.size
def Df{D a:Dd}(b:a.number=D.number)(e:a.rest=D.rest):Qqd D a:=⟨yh b.symm,by rw[e];exact ah⟩
def Gf(a:Dw)(D:Dd):(D.jk a).number=D.number/\(D.jk a).rest=D.rest:=by
 rw[Dd.jk,(Gh _).1,(Gh _).2.2];split<;>exact⟨rfl,rfl⟩
def aqo(a:Dw)(D:Dd)(b:ag):Qqd D (D.oe a b):=by
 unfold Dd.oe
 repeat' split
 all_goals first|exact⟨ah,ah⟩|exact⟨yyk _,pd _ _ _⟩
def are(a:Dw)(b:Bool)(D:Dd):Qqd D (D.next a b).1:=by
 unfold Dd.next
 split
 .unfold Dd.last;split<;>exact Df rfl rfl
 split
 .exact Df (Gf a D).1 (Gf a D).2
 have e:=aqo a (if b=true then D else D.jk a)<|if b=true then D.L++gp else⟨#[]⟩;cases b
 .exact⟨bq (yh (Gf a D).1.symm) e.1,by have f:=e.2;rw[show(if false=true then D else D.jk a).rest=D.rest from(Gf a D).2]at f;exact f⟩
 exact e
def anq(c:Dc)(D:Dd):Qqd D (D.kj c).1:=by
 have:(if c.di=99 then D.print c.text else D).number=D.number/\(if c.di=99 then D.print c.text else D).rest=D.rest:=by split<;>exact⟨rfl,rfl⟩
 unfold Dd.kj;simp only;generalize(if c.di=99 then D.print c.text else D)=D1 at this;split<;>exact Df this.1 this.2
def avw(mf:Mf)(a:Dw)(x:Cm)(D:Dd):Qqd D (D.subst mf a x).1:=by
 unfold Dd.subst;split
 .split
  .exact Df rfl rfl
  simp only;split<;>exact Df rfl rfl
 exact Df rfl rfl
def aux(a:Dw)(c:Nat)(D:Dd):Qqd D (D.wq a c):=by
 unfold Dd.wq;split<;>exact Df rfl rfl
theorem amm(mf:Mf)(a:Dw)(x:Cm)(c:Dc)(D:Dd):Qqd D (D.cz mf a x c).1:=by
 have g:∀(b:Prop) [Decidable b] (e f:Dd×Int),Qqd D e.1->Qqd D f.1->Qqd D (if b then e else f).1:=λb _ e f h i=>qE
 unfold Dd.cz
 repeat' first|exact are a _ D|exact Df (Gf a D).1 (Gf a D).2|exact anq c D|exact avw mf a x D|exact aux a _ D|apply g|exact Df rfl rfl
end
def Kw(d:Mk a w u c)(e:bf b u v)(j:w.heap.size<=b)(k:a<w.heap.size):Mk a w v c:=
 have h:v.heap[a]?=u.heap[a]? :=e.block a Q
 ⟨e.os.trans d.os,e.tape.trans d.tape,e.output.trans d.output,by rw[e.size];exact d.size,λf g i=>(e.block f Q).trans<|d.block f g i,(bz h).trans d.c1,λf g=>(bz h).trans<|d.cell f g,λf=>(hz h).trans<|d.cd f⟩
def Ds(s:ag)(i:Nat)(x:Wh)(j:Nat):Prop:=
 (pk s i=36/\x=⟨2,0,fo⟩/\j=i+1)\/
 (pk s i=47/\bw s (i+1)<s.size/\ya (s.extract (i+1)<|bw s<|i+1)/\x=⟨3,0,s.extract (i+1)<|bw s<|i+1⟩/\j=bw s (i+1)+1)\/
 (pk s i≠36/\pk s i≠47/\j=skip s ju i/\((j=i/\x=gi)\/(i<j/\j<=i+4/\x=⟨1,xo (s.extract i j) (j-i) 0 0,fo⟩)))
def WhN(lo:Nat)(w:ae)(tv:af)(x:Wh):Prop:=tv.oneCell'=true/\(x.sort=3->ya x.L/\PtN lo w tv x.L)
def Qi(g j:ag):∀(f b:Nat),b<=g.size->∀d,b<=d->d<skipF g j f b->bn j (au g d)=true
 |0,b,_,d,c,a=>by rw[skipF]at a;omega
 |f+1,b,h,d,c,a=>by
  rw[skipF]at a;split at a
  .rename_i i;obtain e|e:=hb b d
   .exact Qi g j f (b+1) (vo i) d e a
   obtain rfl:d=b:=Q
   simp only[br,Aw]at i;exact i.2
  omega
def abx(h:bn ju a=true):48<=a/\a<=57:=by
 simp only[bn,ju,yxe,List.any_nil,uz,ra,yzs]at h;obtain h|h|h|h|h|h|h|h|h|h:=h<;>rw[<-h]<;>decide
def au1:(prog.info? 175).map (λa=>(a.zero,a.size))=some (some<|.agg [I 0, I 0,.pointer none].toArray,[I 0, I 0,.pointer none].length):=qF
def au2(a b c:af):(prog.info? 175).map (·.size)=some [a,b,c].length:=qF
def bd.three(b:bd w a [x,y,z]):w.cell? (O a 0)=some x/\w.cell? (O a 1)=some y/\w.cell? (O a 2)=some z/\w.frozen? (O a 0)=false/\w.frozen? (O a 1)=false/\w.frozen? (O a 2)=false:=
 ⟨b.cell (k:=0) rfl,b.cell (k:=1) rfl,b.cell (k:=2) rfl,b.frozen (k:=0)<|by show 0<3;omega,b.frozen (k:=1)<|by show 1<3;omega,b.frozen (k:=2)<|by show 2<3;omega⟩
def aih(z:Wh)(b:Nat)(a:ae)(q:Rc a i S j)(r:Ds S j z b):
  Calls prog 178 #[.pointer<|some ⟨i,0,none⟩] a λc a3=>∃T,c=.returned (.agg #[.int .i64 z.sort,.int .i64 z.num,T])/\Mk i a a3 b/\WhN a.heap.size a3 T z:=by
 have l:=hd q;have x:i<a.heap.size:=dw a _ q.c0;have a8:=q.li;have f:=q.le;obtain⟨C,y⟩:∃B,Y (decide (pk S j=((36:Nat):Int))=B):=⟨_,rfl⟩;obtain⟨V,U⟩:∃B,Y (decide (pk S j=((47:Nat):Int))=B):=⟨_,rfl⟩;have h:=hd λ(e:ae) (n:Rc e i S j)=>Pg i S j 36 e n
 have k:=hd λ(e:ae) (n:Rc e i S j)=>Pg i S j 47 e n
 rw[y.out]at h;rw[U.out]at k;have L:=hd r;clear q r;go_in;go_wp2_with (refine gm 2 rfl rfl 175 rfl _ au1 ?_;intro s m g o;have p:=hd g;have d:=hd<|(Mk.ee l).below o;clear g o);go_call h.out s (d.rc l.out f)as c aG ⟨rfl,K,rfl⟩;go_wp21;go_call k.out (s.drewN K) ((d.drewN K).rc l.out f)as c t ⟨rfl,Z,rfl⟩;have g:=(d.drewN K).drewN Z;have A:bd ((s.drewN K).drewN Z) a.heap.size [I 0, I 0,.pointer none]:=p.cw rfl;have D:Y (((s.drewN K).drewN Z).heap.size=a.heap.size+1):=m;clear m h k;generalize(s.drewN K).drewN Z=t at g A D|-;clear p d;let⟨aB,aC,aD,_,_⟩:=g.rc l.out f;have E:a.heap.size≠i:=Q
 have a9:Y ((Value.pointer none).oneCell'=true):=rfl;obtain⟨u,rfl,rfl⟩|⟨h,a4,F,rfl,rfl⟩|⟨u,h,qa,r⟩:=L.out
 .have d:C=true:=by rw[<-y.out,u];rfl
  subst d;have p:Y (Mk i a (t.setCell (O i 1)<|I<|(j:Int)+1)<|j+1):=g.set (j+1) Q;have v:Y (bd (t.setCell (O i 1)<|I<|(j:Int)+1) a.heap.size [I 0, I 0,.pointer none]):=A.cw<|er _ _ _ _ E;clear u;obtain⟨a0,a1,a2,u0,u1,u2⟩:=bd.three v;go_wp21;refine yyd (v:=.agg #[I 2, I 0,.pointer none]) (by simp[results,results178,go_sem, *]) rfl ⟨_,rfl,?_,rfl,λc=>by cases c⟩
  (repeat first|refine Mk.fi ?_ ah x _|exact p)
 .have d:C=false:=by rw[<-y.out,h];rfl
  have m:V=true:=by rw[<-U.out,h];rfl
  subst d m;have a6:=(ho<|by rw[h];decide).1;have o:=ajc i S j t (g.rc l.out f) a6 a4 F;have X:=hd F;clear h F L;go_wp21;go_call o;rintro c w3 ⟨T,rfl,k,⟨H,rfl⟩,R⟩;have p:=hd<|g.trans k;have v:=hd (A.cw<|k.block a.heap.size (by have:=D.out;omega) E);have a5:=hd R;have w:=hd λM i P=>(((bf.refl a.heap.size w3).setCell 0 M).setCell 1 i).setCell 2 P
  clear o k R;let⟨a0,a1,a2,u0,u1,u2⟩:=bd.three v;go_wp21;refine yyd (v:=.agg #[I 3, I 0, ab H 0]) (by simp[results,results178,go_sem, *]) rfl ⟨_,rfl,?_,rfl,λ_=>⟨X,⟨H,rfl⟩,λe W=> ?_⟩⟩
  .exact Kw p (w.out _ _ _) ah x
  have R:=w.out (I 3) (I 0)<|ab H 0;have aA:=D.out;rw[R.size]at W|-;exact a5.out e λo aE a7=>(W o Q a7).trans<|R.block o Q
 have d:C=false:=by rw[<-y.out];exact wu u
 have m:V=false:=by rw[<-U.out];exact wu h
 subst d m;have R:=Ra i S ju j t (g.rc l.out f) qG;rw[<-qa]at R;have W:=hd qa;clear u h qa;have H:=hd r;clear r L;go_wp21;refine R.mono ?_;rintro c w3 ⟨rfl,k⟩;have a6:j<=b/\b<=S.size:=by rw[W.out];exact Qzd S ju _ j f
 have p:=hd<|g.trans<|Mk.mv k;have v:=hd<|A.cw<|k.only.block a.heap.size E;have w:=hd λM i P=>(((bf.refl a.heap.size w3).setCell 0 M).setCell 1 i).setCell 2 P
 clear R k;obtain⟨a0,a1,a2,u0,u1,u2⟩:=bd.three v;obtain⟨d,rfl⟩|⟨a7,aA,rfl⟩:=H.out
 .have m:S.extract j b=(⟨#[]⟩:ag):=by
   apply ahr;apply yyp;rw[jn,lw];omega
  rw[m];clear d m H;go_wp21;refine yyd (v:=.agg #[I 0, I 0,.pointer none]) (by simp[results,results178,go_sem, *]) rfl ⟨_,rfl,Kw p (w _ _ _) ah x,rfl,λc=>by cases c⟩
 have X:(S.extract j b).size=b-j:=by rw[lw];omega
 have k:=aro (S.extract j b) w3 Q λo aF=>by
  rw[ty S j b o];have:=Qi S ju (S.size-j) j f (j+o) Q (by show j+o<skip S ju j;rw[<-W.out];omega);exact abx this
 have aE:(S.extract j b).toList.isEmpty=false:=by
  cases n:(S.extract j b).toList.isEmpty
  .rfl
  rw[Qc]at n;have:=congrArg List.length n;rw[jn,X]at this;simp at this;omega
 rw[X]at k;clear H;go_wp21;go_call k;rintro c w4 ⟨rfl,R⟩;have a5:=R.symm;subst a5;clear R k;go_wp21;refine yyd (v:=.agg #[I 1, I (xo (S.extract j b) (b-j) 0 0:Int),.pointer none]) (by simp[results,results178,go_sem, *]) rfl ⟨_,rfl,Kw p (w _ _ _) ah x,rfl,λc=>by cases c⟩
section
structure ie where
 H:Nat
 cs:List Dc
 ns:List ag
 gs:List Nat
def Xo(rb:Nat)(lv nv gv:af)(k:Nat):Prop:=k=rb\/lv.ownBlock=some k\/nv.ownBlock=some k\/gv.ownBlock=some k
def Hs(w:ae)(X:Nat->Prop)(P:ae->Prop):Prop:=∀W:ae,w.heap.size<=W.heap.size->(∀k,k<w.heap.size->¬X k->W.heap[k]?=w.heap[k]?)->P W
theorem Hs.up{w w':ae}{b d:Nat->Prop}{c:ae->Prop}(n:Hs w b c)(f:w.heap.size<=w'.heap.size)(k:∀a,a<w.heap.size->¬b a->w'.heap[a]?=w.heap[a]?)(l:∀a,d a->b a\/w.heap.size<=a):Hs w' d c:=
 λi m o=>n i (bq f m) λa g h=>(o a (ew g f) (λe=>qE)).trans<|k a g h
structure RF(rb:Nat)(lv nv gv lv' nv' gv':af)(w w':ae):Prop where
 os:w'.os=w.os
 tape:w'.tape=w.tape
 output:w'.output=w.output
 size:w.heap.size<=w'.heap.size
 block:∀k,k<w.heap.size->¬Xo rb lv nv gv k->w'.heap[k]?=w.heap[k]?
 rp:∀k,Xo rb lv' nv' gv' k->Xo rb lv nv gv k\/w.heap.size<=k
def RF.trans{rb:Nat}{g b c i k h l m n:af}{q r w:ae}(a:RF rb g b c i k h q r)(d:RF rb i k h l m n r w):RF rb g b c l m n q w:=
 ⟨d.os.trans a.os,d.tape.trans a.tape,d.output.trans a.output,bq a.size d.size,λj f o=>(d.block j (ew f a.size) (λe=>by obtain e|e:=a.rp j e;exact o e;omega)).trans<|a.block j f o,λj f=>by
  obtain e|e:=d.rp j f
  .exact a.rp j e
  exact .inr<|bq a.size e⟩
def RF.mv{rb j:Nat}{lv nv gv:af}{w w':ae}(a:Mk rb w w' j):RF rb lv nv gv lv nv gv w w':=⟨a.os,a.tape,a.output,a.size,λe b c=>a.block e b λd=>c<|.inl d,λ_ a=> .inl a⟩
def RF.below{rb:Nat}{lv nv gv:af}{w w':ae}(a:Below w.heap.size w w'):RF rb lv nv gv lv nv gv w w':=⟨a.os,a.tape,a.output,a.size,λc b _=>a.block c b,λ_ a=> .inl a⟩
structure RE(w:ae)(rb:Nat)(s:ag)(p:ie)(lv nv gv:af):Prop where
 row:bd w rb [.string s,I p.H,lv,nv,gv]
 ls:∃xs,w.ownsRow (rb+1) 177 16 lv p.cs.length xs/\∀(k:Nat)(c:Dc),p.cs[k]?=some c->∃ta tb tt,(∀i v,(ig c ta tb tt)[i]?=some v->xs[k*16+i]?=some v)/\Hs w (Xo rb lv nv gv) λW=>xf W w.heap.size c ta tb tt
 ns:w.ownsRow (rb+1) 9 1 nv p.ns.length (sv p.ns)
 gs:w.ownsRow (rb+1) 3 1 gv p.gs.length (iv p.gs)
 le:p.H<=s.size
 s4:s.size<=400
 a1:∀k,lv.ownBlock=some k->nv.ownBlock≠some k/\gv.ownBlock≠some k
 a2:∀k,nv.ownBlock=some k->gv.ownBlock≠some k
def xf.mono{w:ae}{d e:Nat}{f:Dc}{g h i:af}(a:xf w d f g h i)(c:d<=e:=by omega):xf w e f g h i:=
 ⟨a.one,⟨a.fst.1,a.fst.2.1,λb=>⟨(a.fst.2.2 b).1,(a.fst.2.2 b).2.mono c⟩⟩,⟨a.snd.1,a.snd.2.1,λb=>⟨(a.snd.2.2 b).1,(a.snd.2.2 b).2.mono c⟩⟩,λb=>⟨(a.L b).1,(a.L b).2.mono c⟩⟩
section
variable {w w':ae} {rb j:Nat} {s:ag} {p:ie} {lv nv gv:af}
def RE.lt(a:RE w rb s p lv nv gv):rb<w.heap.size:=a.row.lt (by show 0<5;omega)
def RE.rc(a:RE w rb s p lv nv gv):Rc w rb s p.H:=⟨a.row.xc 0,a.row.xc 1,a.row.frozen (k:=1)<|by show 1<5;omega,a.le,a.s4⟩
def RE.qg(b:RE w rb s p lv nv gv):lv.ownBlock≠some rb/\nv.ownBlock≠some rb/\gv.ownBlock≠some rb:=by
 let⟨xs,c,_⟩:=b.ls;exact⟨λa=>by have:=(c.lt rb a).1;omega,λa=>by have:=(b.ns.lt rb a).1;omega,λa=>by have:=(b.gs.lt rb a).1;omega⟩
theorem RE.mv(b:RE w rb s p lv nv gv)(c:Mk rb w w' j)(B:j<=s.size:=by omega):RE w' rb s {p with H:=j} lv nv gv:=by
 let⟨xs,A,C⟩:=b.ls;let⟨D,E,F⟩:=b.qg;have g:∀{d:af} {i h:Nat} {e:TypeId} {m:List af},w.ownsRow (rb+1) e h d i m->w'.ownsRow (rb+1) e h d i m:=fun {d i h e m} l=>da l λk a=>c.block k (l.lt k a).2 (by have:=(l.lt k a).1;omega)
 refine⟨?_,⟨xs,g A,λk z a=>?_⟩,g b.ns,g b.gs,B,b.s4,b.a1,b.a2⟩
 .have o:=b.row.xc 0;have q:=b.row.xc 2;have r:=b.row.xc 3;have n:=b.row.xc 4;have f:∀k d,[Value.string s,I j,lv,nv,gv][k]?=some d->w'.cell? (O rb k)=some d:=λk d a=>match k,a with
   |0,a=>by cases a;exact(c.cell 0 Q).trans o
   |1,a=>by cases a;exact c.c1
   |2,a=>by cases a;exact(c.cell 2 Q).trans q
   |3,a=>by cases a;exact(c.cell 3 Q).trans r
   |4,a=>by cases a;exact(c.cell 4 Q).trans n
   |k+5,a=>by simp at a
  refine⟨λk d a=>qE,λk a=>⟨?_,(c.cd _).trans (b.row.free k a).2⟩⟩;grind
 let⟨n,o,q,r,t⟩:=C k z a;exact⟨n,o,q,r,λv x y=>(t.up c.size (λk a u=>c.block k a λf=>u<|.inl f) (λ_ f=> .inl f) v x y).mono c.size⟩
structure Gw(w w':ae)(v:af):Prop where
 os:w'.os=w.os
 tape:w'.tape=w.tape
 output:w'.output=w.output
 size:w.heap.size<=w'.heap.size
 block:∀k,k<w.heap.size->v.ownBlock≠some k->w'.heap[k]?=w.heap[k]?
def Gw.of{c:Obj}(a:(w.alloc c).grownBy w' x.ownBlock):Gw w w' x:=
 ⟨a.os,a.tape,a.output,bq qD a.size,λb d e=>(a.block b qB<|λf=>e f.symm).trans<|im w c b d⟩
def Gw.drew{c:Obj}(a:(w.alloc c).drew.grownBy w' x.ownBlock):Gw w w' x:=
 ⟨a.os,a.tape,a.output,bq qD a.size,λb d e=>(a.block b qB<|λf=>e f.symm).trans<|im w c b d⟩
theorem RE.Mo{h d f n:af}{c:ie}{gg:Nat}(m:RE w rb s p lv nv gv)(g:Gw w u n)(E:n=lv\/n=nv\/n=gv)(aB:x.ownBlock=some gg)(a6:n.ownBlock=some gg\/w.heap.size<=gg)(a7:rb<gg)
  (V:a<5) (a5:([.string s,I p.H,lv,nv,gv]:List af).set a x=[.string s,I c.H,h,d,f])
  (F:∀b,Xo rb h d f b->Xo rb lv nv gv b\/w.heap.size<=b) (W:c.H=p.H)
  (R:∃xs,u.ownsRow (rb+1) 177 16 h c.cs.length xs/\∀(b:Nat)(l:Dc),c.cs[b]?=some l->∃r o q,(∀M k,(ig l r o q)[M]?=some k->xs[b*16+M]?=some k)/\Hs w (Xo rb lv nv gv) λC=>xf C w.heap.size l r o q)
  (S:u.ownsRow (rb+1) 9 1 d c.ns.length (sv c.ns)) (T:u.ownsRow (rb+1) 3 1 f c.gs.length (iv c.gs))
  (X:∀b,h.ownBlock=some b->d.ownBlock≠some b/\f.ownBlock≠some b) (Z:∀b,d.ownBlock=some b->f.ownBlock≠some b):
  u.heap[rb]?=w.heap[rb]? /\RE (u.setCell (O rb a) x) rb s c h d f/\RF rb lv nv gv h d f w (u.setCell (O rb a) x):=by
 let⟨a8,a9,aA⟩:=m.qg;have H:=g.block rb m.lt qE;have i:bf rb u (u.setCell (O rb a) x):=(bf.refl _ _).setCell _ _;have t:∀{k:af} {D v:Nat} {B:TypeId} {y:List af},u.ownsRow (rb+1) B v k D y->(u.setCell (O rb a) x).ownsRow (rb+1) B v k D y:=fun {k D v B y} P=>mc i P λe=>by have:=(P.lt rb e).1;omega
 have K:∀b,b<w.heap.size->¬Xo rb lv nv gv b->(u.setCell (O rb a) x).heap[b]?=w.heap[b]? :=λb z L=>(i.block b λe=>L<|.inl e).trans<|g.block b z λe=>L<|.inr qE
 have A:w.heap.size<=(u.setCell (O rb a) x).heap.size:=by rw[i.size];exact g.size
 have qa:=(m.row.cw H).put a V x;rw[a5]at qa;let⟨xs,U,a0⟩:=R;refine⟨H,⟨qa,⟨xs,t U,λb l z=>?_⟩,t S,t T,by rw[W];exact m.le,m.s4,X,Z⟩,i.os.trans g.os,i.tape.trans g.tape,i.output.trans g.output,A,K,F⟩;let⟨r,o,q,a1,a4⟩:=a0 b l z;exact⟨r,o,q,a1,λC a2 a3=>(a4.up A K F C a2 a3).mono A⟩
theorem RE.name(f:RE w rb s p lv nv gv)(i:Gw w u nv)(k:u.ownsRow (rb+1) 9 1 (aa a (p.ns.length+1) b) (p.ns.length+1) (sv p.ns++[.string t]))(g:nv.ownBlock=some a\/a=w.heap.size+1):
  u.heap[rb]?=w.heap[rb]? /\RE (u.setCell (O rb 3)<|aa a (p.ns.length+1) b) rb s {p with ns:=p.ns++[t]} lv (aa a (p.ns.length+1) b) gv/\RF rb lv nv gv lv (aa a (p.ns.length+1) b) gv w (u.setCell (O rb 3)<|aa a (p.ns.length+1) b):=by
 let⟨xs,h,n⟩:=f.ls;have m:∀c,c<w.heap.size->nv.ownBlock≠some c->a≠c:=λc d o e=>qE
 refine f.Mo i (.inr<|.inl rfl) (gg:=a) rfl (g.imp id λe=>Q) ((k.lt a rfl).1) Q rfl (λc d=>?_) rfl ⟨xs,da h λc d=>i.block c (h.lt c d).2 (f.a1 c d).1,n⟩ (by rw[Dl,ga];exact k) (da f.gs λc d=>i.block c (f.gs.lt c d).2 λe=>f.a2 c e d) (λc d=>⟨λe=>m c (h.lt c d).2 (f.a1 c d).1<|yyo e,(f.a1 c d).2⟩)<|λc d e=>?_
 .obtain e|e|e|e:=d
  .exact .inl<|.inl e
  .exact .inl<|.inr<|.inl e
  .cases e
   obtain e|e:=g
   .exact .inl<|.inr<|.inr<|.inl e
   grind
  exact .inl<|.inr<|.inr<|.inr e
 exact m c (f.gs.lt c e).2 (λl=>f.a2 c l e)<|yyo d
theorem RE.cn(g:RE w rb s p lv nv gv)(k:Gw w u gv)(m:u.ownsRow (rb+1) 3 1 (aa a (p.gs.length+1) b) (p.gs.length+1) (iv p.gs++[I c]))(h:gv.ownBlock=some a\/a=w.heap.size+1):
  u.heap[rb]?=w.heap[rb]? /\RE (u.setCell (O rb 4)<|aa a (p.gs.length+1) b) rb s {p with gs:=p.gs++[c]} lv nv (aa a (p.gs.length+1) b)/\RF rb lv nv gv lv nv (aa a (p.gs.length+1) b) w (u.setCell (O rb 4)<|aa a (p.gs.length+1) b):=by
 let⟨xs,i,o⟩:=g.ls;have n:∀d,d<w.heap.size->gv.ownBlock≠some d->a≠d:=λd f q e=>qE
 refine g.Mo k (.inr<|.inr rfl) (gg:=a) rfl (h.imp id λe=>Q) ((m.lt a rfl).1) Q rfl (λd f=>?_) rfl ⟨xs,da i λd f=>k.block d (i.lt d f).2 (g.a1 d f).2,o⟩ (da g.ns λd f=>k.block d (g.ns.lt d f).2<|g.a2 d f) (by rw[show iv (p.gs++[c])=iv p.gs++[I c] by simp[iv],ga];exact m) (λd f=>⟨(g.a1 d f).1,λe=>n d (i.lt d f).2 (g.a1 d f).2<|yyo e⟩)<|λd f e=>n d (g.ns.lt d f).2 (g.a2 d f)<|yyo e;obtain e|e|e|e:=f
 .exact .inl<|.inl e
 .exact .inl<|.inr<|.inl e
 .exact .inl<|.inr<|.inr<|.inl e
 cases e
 obtain e|e:=h
 .exact .inl<|.inr<|.inr<|.inr e
 grind
theorem RE.cmd{o:ae}{d l:Nat}{f:Dc}{g h i:af}{xs:List af}(c:RE w rb s p lv nv gv)(v:Gw w o lv)(B:∀(a:Nat)(f:Dc),p.cs[a]?=some f->∃g h i,(∀k n,(ig f g h i)[k]?=some n->xs[a*16+k]?=some n)/\Hs w (Xo rb lv nv gv) λu=>xf u w.heap.size f g h i)(C:xs.length=p.cs.length*16)
  (D:Hs w (Xo rb lv nv gv) λu=>xf u w.heap.size f g h i) (z:o.ownsRow (rb+1) 177 16 (aa d (p.cs.length+1) l) (p.cs.length+1) (xs++ig f g h i)) (y:lv.ownBlock=some d\/d=w.heap.size+1):
  o.heap[rb]?=w.heap[rb]? /\RE (o.setCell (O rb 2)<|aa d (p.cs.length+1) l) rb s {p with cs:=p.cs++[f]} (aa d (p.cs.length+1) l) nv gv/\RF rb lv nv gv (aa d (p.cs.length+1) l) nv gv w (o.setCell (O rb 2)<|aa d (p.cs.length+1) l):=by
 have A:∀a,a<w.heap.size->lv.ownBlock≠some a->d≠a:=λa b F e=>qE
 refine c.Mo v (.inl rfl) (gg:=d) rfl (y.imp id λe=>Q) ((z.lt d rfl).1) Q rfl (λa b=>?_) rfl ⟨xs++ig f g h i,by rw[ga];exact z,λa r b=>?_⟩ (da c.ns λa b=>v.block a (c.ns.lt a b).2 λe=>(c.a1 a e).1 b) (da c.gs λa b=>v.block a (c.gs.lt a b).2 λe=>(c.a1 a e).2 b) (λa b=>⟨λe=>A a (c.ns.lt a e).2 (λx=>(c.a1 a x).1 e)<|yyo b,λe=>A a (c.gs.lt a e).2 (λx=>(c.a1 a x).2 e)<|yyo b⟩) c.a2
 .obtain e|e|e|e:=b
  .exact .inl<|.inl e
  .cases e
   obtain e|e:=y
   .exact .inl<|.inr<|.inl e
   grind
  .exact .inl<|.inr<|.inr<|.inl e
  exact .inl<|.inr<|.inr<|.inr e
 obtain e|e:=hb a p.cs.length
 .have m:p.cs[a]?=some r:=by simpa[oq e]using b
  let⟨L,M,E,H,K⟩:=B a r m;refine⟨L,M,E,λk n t=>?_,K⟩;grind
 have E:a=p.cs.length/\r=f:=by
  have m:(p.cs++[f])[a]?=some r:=b;rw[sn e]at m;rcases yzu (a-p.cs.length)with q|q
  .grind
  rw[je<|by show 1<=_;omega]at m;cases m
 obtain⟨rfl,rfl⟩:=E;refine⟨g,h,i,λk n t=>?_,D⟩;grind
end
end
def az:ag:=⟨#[97,98,99,100,101,102,103,104,105,106,107,108,109,110,111,112,113,114,115,116,117,118,119,120,121,122]⟩
def Cj(p:ie):Prop:=p.cs.length<=p.H/\p.ns.length<=p.H/\p.gs.length=p.ns.length
def RowR(s:ag)(cmd:ie->ie->Prop):Nat->ie->ie->Prop
 |0,_,_=>False
 |f+1,p,q=>
  ((skip s fc p.H=s.size\/pk s (skip s fc p.H)=125)/\q={p with H:=skip s fc p.H})\/
  (pk s (skip s fc p.H)=58/\RowR s cmd f {p with H:=skip s az<|skip s fc p.H+1,ns:=p.ns++[s.extract (skip s fc p.H+1)<|skip s az<|skip s fc p.H+1],gs:=p.gs++[p.cs.length]} q)\/
  (skip s fc p.H<s.size/\pk s (skip s fc p.H)≠125/\pk s (skip s fc p.H)≠58/\∃m,cmd {p with H:=skip s fc p.H} m/\Cj m/\RowR s cmd f m q)
def RQ(rb:Nat)(s:ag)(lv nv gv:af)(w:ae)(q:ie)(e:Ending)(w':ae):Prop:=e=.returned (.tuple #[])/\∃lv' nv' gv',RE w' rb s q lv' nv' gv'/\RF rb lv nv gv lv' nv' gv' w w'
def Zo(rb:Nat)(s:ag)(cmd:ie->ie->Prop):Prop:=∀(W:ae)(p m:ie)(lv nv gv:af),RE W rb s p lv nv gv->Cj p->cmd p m->Calls prog 133 #[.pointer<|some ⟨rb,0,none⟩] W (RQ rb s lv nv gv W m)
def ap0:(prog.info? 3).map (λa=>(a.zero,a.size,a.bytes))=some (some<|I 0,1,8):=qF
theorem amc(a1:ie->ie->Prop)(aD:Zo i S a1)(aE:Nat)(qa aC:ie)(R Z T:af)(a0:ae)(v:RE a0 i S qa R Z T)(aF:Cj qa)(w:RowR S a1 aE qa aC):
  Calls prog 90 #[.pointer (some ⟨i,0,none⟩)] a0 (RQ i S R Z T a0 aC):=by
 have aW:=hd aD;have aG:=hd v;have aH:=hd w;have aI:=hd aF;obtain ⟨aX,aY,aZ,b0,b1⟩:=info_parts Ux;clear v w aD aF;go_in;go_wp21;go_loopg [2,3,4] aE (fun x bK bL bM wr=>∃(c:ie) (P B C:af),Y (RE wr i S c P B C)/\Y (RF i R Z T P B C a0 wr)/\Y (RowR S a1 x c aC)/\Y (Cj c))
 case atStart=>exact ⟨qa,R,Z,T,aG.out,RF.below (bp _ _),aH.out,aI.out⟩
 clear aG aH aI;obtain ⟨c,P,B,C,b,f,d,b2⟩:=hrel;obtain _|gk:=gk
 .exact d.elim
 have e:=Qj i S fc c.H wr b.rc qG;have w:=d.out;have b3:=b.le;have bN:=b.s4;unfold RowR at w;obtain ⟨U,y⟩:=Qzd S fc (S.size-c.H) c.H b3;have U:c.H<=skip S fc c.H:=U;have y:skip S fc c.H<=S.size:=y;generalize skip S fc c.H=a at*
 have a2:=hd w;clear w d;go_wp21;refine e.mono ?_;rintro d D ⟨rfl,h⟩;have E:=hd (b.mv (Mk.mv h) y);have aJ:=hd (f.trans (RF.mv (Mk.mv h)));clear e h b f;obtain ⟨a3,a4,a5,_,_⟩:=E.rc;have a6:=hd fun (b4:Nat) (aK:ae) (v:Rc aK i S a)=>Pg i S a b4 aK v
 go_upto_region 1 with fail
 go_cut [2] (fun F b5=>F= .bool (decide (a=S.size)||decide (pk S a=((125:Nat):Int)))/\∃h,b5=D.drewN h)
 case first=>
  have e:∀h,Calls prog 131 #[.pointer (some ⟨i,0,none⟩), .int .u8 125] (D.drewN h) fun d m=>d= .returned (.bool (decide (pk S a=((125:Nat):Int))))/\∃g,m=(D.drewN h).drewN g:=fun h=>a6.out 125 (D.drewN h) (E.rc.drewN h)
  by_cases b:a=S.size
  .have o:((a:Int)==(S.size:Int))=true:=by simp [b]
   have f:=hd (show (decide (a=S.size)||decide (pk S a=((125:Nat):Int)))=true by simp [b]);go_quiet (fail);go_wp21;go_meet;exact ⟨by rw [f.out],_,rfl⟩
  have o:((a:Int)==(S.size:Int))=false:=hh Q;have f:=hd (show (decide (a=S.size)||decide (pk S a=((125:Nat):Int)))=decide (pk S a=((125:Nat):Int)) by simp [b]);obtain ⟨k,l⟩:∃k,Y (decide (pk S a=((125:Nat):Int))=k):=⟨_,rfl⟩;rw [l.out] at e;go_quiet ((go_at_call 131;exact Calls.quiet_of (e _)));go_wp21;go_meet;exact ⟨by rw [f.out,l.out],_,rfl⟩
 obtain ⟨rfl,h,rfl⟩:=hcut;have b:=hd ((Mk.ee E.rc).drewN h);have f:=E.out.mv b.out y;have z:=hd (aJ.trans (RF.mv b.out));clear E aJ b a3 a4 a5;generalize D.drewN h=V at f z ⊢;have k:=b2.out;obtain⟨b6,rfl⟩|⟨o,H⟩|⟨a7,aL,o,aM,aN,aO,H⟩:=a2.out
 .have p:(decide (a=S.size)||decide (pk S a=((125:Nat):Int)))=true:=by
   obtain d|d:=b6
   .simp [d]
   rw [d];simp
  rw [p];go_wp21;go_returns;exact ⟨rfl,_,_,_,f,z.out⟩
 .obtain ⟨a7,_⟩:=ho (s:=S) (i:=a) (by rw [o];decide);have p:(decide (a=S.size)||decide (pk S a=((125:Nat):Int)))=false:=by rw [o];simp;omega
  rw [p];have K:decide (pk S a=((58:Nat):Int))=true:=by rw [o];rfl
  have q:=a6.out 58 V f.rc;rw [K] at q;have a8:=hd H;clear H o p K a2;go_wp21;refine q.mono ?_;rintro d w3 ⟨rfl,l,rfl⟩;have r:=hd ((Mk.ee f.rc).drewN l);have m:=f.mv r.out y;have A:=hd (z.trans (RF.mv r.out));clear q r f z;generalize V.drewN l=w3 at m A ⊢;obtain ⟨a3,a4,a5,_,_⟩:=m.rc;have b:Mk i w3 (w3.setCell (O i 1) (I ((a:Int)+1))) (a+1):=(Mk.ee m.rc).set (a+1) Q;have L:=J (m.mv b a7);have W:=hd (A.trans (RF.mv b));have g:=Ra i S az (a+1) _ L.rc qG;obtain ⟨aP,a9⟩:=Qzd S az (S.size-(a+1)) (a+1) a7;have aP:a+1<=skip S az (a+1):=aP;have a9:skip S az (a+1)<=S.size:=a9;generalize S.extract (a+1) (skip S az (a+1))=aA at*
  generalize skip S az (a+1)=aQ at*
  go_wp21;refine g.mono ?_;rintro d u ⟨rfl,e⟩;have j:=L.mv (Mk.mv e) a9;have n:=hd (W.trans (RF.mv (Mk.mv e)));clear g e b L W m A a3 a4 a5;have aR:=j.lt;have l:=j.row.cell (k:=3) rfl;have s:=j.row.frozen (k:=3) (by show 3<5;omega);have bO:c.ns.length<=400:=by have:=k.2.1;omega
  have bP:c.gs.length<=400:=by have:=k.2.2;omega
  have bQ:c.cs.length<=400:=by have:=k.1;omega
  go_wp2_with (at_builtin;refine wpList_append_lies _ rfl _ _ 62 rfl (i+1) 9 aX (.string ⟨#[]⟩) 1 16 underlying62 aY aZ b0 b1 rfl Q B c.ns.length (sv c.ns) rfl (j.ns.alloc _) (O u.heap.size 0) 1 1 [.string aA] rfl rfl (cell_one_new u _ _) (fun bR b=>by simp at b;subst b;rfl) Q qH Q qB (u.heap.size+1) qD ?_;intro b7 b8 aB e t M X;have b:=j.name (Gw.of t) e M;have aS:=(ac 3 b.1).trans l;have aT:=(ad 3 b.1).trans s;have g:=hd b.2.1;have aU:=hd (n.trans b.2.2);clear b e t M X);generalize aB.setCell (O i 3) (aa b7 (c.ns.length+1) b8)=e at g aU ⊢;clear aS aT l s j n;obtain ⟨xs,s,_⟩:=g.ls;obtain ⟨bS,bT,t⟩:=yq s;have M:=g.row.cell (k:=2) rfl;have X:=g.row.cell (k:=4) rfl;have b9:=g.row.frozen (k:=4) (by show 4<5;omega);have aR:=g.lt;rw [t] at M;have n:∀x F,e.cell? (O i x)=some F->∀j,(e.alloc j).cell? (O i x)=some F:=fun x F v j=>(ac x (im e j i aR)).trans v
  have bU:=n 2 _ M;have bV:=n 4 _ X;clear s n t;obtain ⟨bA,bD,bE,bF,bG⟩:=info_parts ap0;go_wp21;go_region_law
   ((refine step_append_lies _ (by rfl) _ _ _ (by rfl) (i+1) 3 bA _ 1 8 underlying56 bD bE bF bG rfl Q C c.gs.length (iv c.gs) (by rfl) ((g.gs.alloc _).drew)
      (O e.heap.size 0) 1 1 [I (c.cs.length:Int)] (by rfl) (by rfl) (World.news_of_block (cs:= #[I (c.cs.length:Int)]) (t:=3) (fr:=(0,0)) (heap_alloc_new e _)) (by simp [Value.oneCell'])
      Q qH Q qB (e.heap.size+1) qD ?_;intro bW bX n s t aV bH;have b:=g.cn (Gw.drew t) s aV;have aS:=(ac 4 b.1).trans X;have aT:=(ad 4 b.1).trans b9;have bI:=hd b.2.1;have bJ:=hd (aU.trans b.2.2);clear b s t aV bH))
  all_goals
   go_wp21;go_roundg gk
   case measure=>omega
   exact ⟨_,P,_,_,bI.out,bJ.out,a8.out,by show c.cs.length<=aQ;have:=k.1;omega,by show (c.ns++ [aA]).length<=aQ;rw [ga];have:=k.2.1;simp;omega,by show (c.gs++ [_]).length=(c.ns++ [aA]).length;rw [ga,ga,k.2.2];rfl⟩
 have p:(decide (a=S.size)||decide (pk S a=((125:Nat):Int)))=false:=by simp;exact ⟨Q,aL⟩
 rw [p];have K:decide (pk S a=((58:Nat):Int))=false:=wu o;have q:=a6.out 58 V f.rc;rw [K] at q;have a8:=hd H;have j:=hd aN;have u:=hd aO;clear H aN aO o aL p K a2;go_wp21;refine q.mono ?_;rintro d w3 ⟨rfl,l,rfl⟩;have r:=hd ((Mk.ee f.rc).drewN l);have m:=f.mv r.out y;have A:=hd (z.trans (RF.mv r.out));clear q r f z;generalize V.drewN l=w3 at m A ⊢;have b:=aW.out w3 {c with H:=a} aM P B C m ⟨bq k.1 U,bq k.2.1 U,k.2.2⟩ j.out;go_wp21;refine b.mono ?_;rintro d w4 ⟨rfl,p,q,r,e,g⟩;have L:=hd e;have W:=hd (A.trans g);clear b e g;go_wp21;go_roundg gk
 case measure=>omega
 grind
section
def Qjk(l:List Dc)(k g:Nat):List Dc:=match l[k]? with
 |some c=>l.set k {c with cn:=g}
 |none=>l
section
variable {w:ae} {rb:Nat} {s:ag} {p:ie} {lv nv gv:af}
def RE.xt(d:RE w rb s p lv nv gv)(a c:Nat)(H:a<p.cs.length):∃b D n,lv= aa b p.cs.length D/\w.frozen? (O b<|a*16+8)=false/\w.cell? (O b<|a*16+8)=some n/\
  RE (w.setCell (O b<|a*16+8)<|I c) rb s {p with cs:=Qjk p.cs a c} lv nv gv/\RF rb lv nv gv lv nv gv w (w.setCell (O b<|a*16+8)<|I c):=by
 let⟨xs,E,K⟩:=d.ls;let⟨b,D,e,X,Z⟩:=E.form Q;have F:lv.ownBlock=some b:=by rw[e];rfl
 have u:=E;rw[e]at u;obtain⟨g,P⟩:∃g,p.cs[a]?=some g:=⟨_,dy H⟩;have qa:Qjk p.cs a c=p.cs.set a {g with cn:=c}:=by rw[Qjk,P]
 have R:a*16+8<p.cs.length*16:=Q
 have S:=(u.stored (a*16+8)<|I c).1;have f:bf b w (w.setCell (O b<|a*16+8)<|I c):=(bf.refl _ _).setCell _ _;have a0:=E.1;have x:∀j,j<w.heap.size->¬Xo rb lv nv gv j->(w.setCell (O b<|a*16+8)<|I c).heap[j]?=w.heap[j]? :=λj _ V=>f.block j λo=>V<|.inr<|.inl<|by rw[o];exact F
 have r:=yh f.size.symm;refine⟨b,D,_,e,u.frozenAt _,(u.cellAt (a*16+8) R).trans<|dy Q,⟨d.row.cw<|f.block _ Q,⟨xs.set (a*16+8)<|I c,?_,λt L T=>?_⟩,mc f d.ns<|λo=>(d.a1 b F).1 o,mc f d.gs<|λo=>(d.a1 b F).2 o,d.le,d.s4,d.a1,d.a2⟩,f.os,f.tape,f.output,r,x,λ_ d=> .inl d⟩
 .show World.ownsRow _ _ _ 16 lv (Qjk p.cs a c).length _
  rw[qa,tj,e];exact S
 have v:(p.cs.set a {g with cn:=c})[t]?=some L:=by rw[<-qa];exact T
 by_cases U:t=a
 .subst U;rw[zv H]at v;cases v
  let⟨k,l,m,y,z⟩:=K t g P;refine⟨k,l,m,λi n h=>?_,λA B C=>?_⟩
  .by_cases M:i=8
   .subst M;rw[zv Q];exact h
   rw[xe Q];refine y i n ?_;have W:ig {g with cn:=c} k l m=(ig g k l m).set 8 (I c):=rfl;rw[W,xe Q]at h;exact h
  have:=(z.up r x (λ_ e=> .inl e) A B C).mono r;exact⟨this.one,this.fst,this.snd,this.L⟩
 rw[xe Q]at v;let⟨k,l,m,y,z⟩:=K t L v;refine⟨k,l,m,λi n h=>?_,λA B C=>(z.up r x (λ_ e=> .inl e) A B C).mono r⟩;have M:i<16:=by
  obtain q|q:=hb i 16
  .exact q
  rw[je<|by exact q]at h;cases h
 rw[xe Q];exact y i n h
end
def zj:ag:=⟨#[103,112,49,50,51,52,53,54,55,56,57]⟩
def Ef(t:ag):Nat->Nat->Bool×Bool×Nat->Bool×Bool×Nat
 |0,_,r=>r
 |f+1,i,r=>Ef t f (i+1)<|if au t i=103 then(true,r.2.1,r.2.2)else if au t i=112 then(r.1,true,r.2.2)else(r.1,r.2.1,au t i-48)
def Az(s:ag)(c:Dc)(i j:Nat):Prop:=
 if c.di=97\/c.di=105\/c.di=99 then i+1<=ci s i/\c.text=s.extract (i+1) (ci s i)/\j=ci s i/\c.all=false/\c.kr=false/\c.num=0/\c.one=⟨#[]⟩/\c.two=⟨#[]⟩
 else if c.di=98\/c.di=116 then c.text=s.extract i (skip s az i)/\j=skip s az i/\c.all=false/\c.kr=false/\c.num=0/\c.one=⟨#[]⟩/\c.two=⟨#[]⟩
 else if c.di=115 then i<s.size/\bw s (i+1)<s.size/\ya (s.extract (i+1)<|bw s<|i+1)/\c.L=s.extract (i+1) (bw s<|i+1)/\bw s (bw s (i+1)+1)<s.size/\c.text=s.extract (bw s (i+1)+1) (bw s<|bw s (i+1)+1)/\j=skip s zj (bw s (bw s (i+1)+1)+1)/\
  (c.all,c.kr,c.num)=Ef (s.extract (bw s (bw s (i+1)+1)+1) j) (j-(bw s (bw s (i+1)+1)+1)) 0 (false,false,0)/\c.one=⟨#[]⟩/\c.two=⟨#[]⟩
 else if c.di=121 then i<s.size/\bw s (i+1)<s.size/\bw s (bw s (i+1)+1)<s.size/\j=bw s (bw s (i+1)+1)+1/\c.one=iy (zq (s.extract (i+1)<|bw s<|i+1) ((s.extract (i+1)<|bw s<|i+1).size+1) 0 [])/\c.two=iy (zq (s.extract (bw s (i+1)+1)<|bw s<|bw s (i+1)+1) ((s.extract (bw s (i+1)+1)<|bw s<|bw s (i+1)+1).size+1) 0 [])/\
  Gz (s.extract (i+1)<|bw s<|i+1) ((s.extract (i+1)<|bw s<|i+1).size+1) 0/\Gz (s.extract (bw s (i+1)+1)<|bw s<|bw s (i+1)+1) ((s.extract (bw s (i+1)+1)<|bw s<|bw s (i+1)+1).size+1) 0/\c.text=⟨#[]⟩/\c.all=false/\c.kr=false/\c.num=0
 else j=i/\c.text=⟨#[]⟩/\c.all=false/\c.kr=false/\c.num=0/\c.one=⟨#[]⟩/\c.two=⟨#[]⟩
structure CdR(s:ag)(i:Nat)(c:Dc)(j i1 i2 i4:Nat):Prop where
 a:Ds s i c.fst i1
 b:(pk s i1=44/\Ds s (i1+1) c.snd i2)\/(pk s i1≠44/\c.snd=gi/\i2=i1)
 n:(pk s (skip s dh i2)=33/\c.neg=true/\i4=skip s dh (skip s dh i2+1))\/(pk s (skip s dh i2)≠33/\c.neg=false/\i4=skip s dh i2)
 lt:i4<s.size
 le1:i1<=s.size
 le2:i2<=s.size
 lj:j<=s.size
 l:c.di=au s i4
 g:c.cn=0
 body:Az s c (i4+1) j
def Hk(s:ag)(rw:ie->ie->Prop)(p m:ie):Prop:=∃c j i1 i2 i4,CdR s p.H c j i1 i2 i4/\
 ((c.di≠123/\m={p with H:=j,cs:=p.cs++[c]})\/
  (c.di=123/\∃m1,rw {p with H:=j,cs:=p.cs++[c]} m1/\m1.H<s.size/\p.cs.length<m1.cs.length/\m={m1 with H:=m1.H+1,cs:=Qjk m1.cs p.cs.length m1.cs.length}))
end
section
def TI(w:ae)(B g:Nat)(tv:af)(x:Wh):Prop:=tv.oneCell'=true/\(x.sort=3->ya x.L/\∃lo hi,B<=lo/\hi<=w.heap.size/\(g<lo\/hi<=g)/\∀W:ae,(∀k,lo<=k->k<hi->W.heap[k]?=w.heap[k]?)->wa W hi tv x.L)
def TI.keep{w w':ae}{b g:Nat}{f:Wh}(d:TI w b g x f)(h:w.heap.size<=w'.heap.size)(j:∀a,b<=a->a<w.heap.size->a≠g->w'.heap[a]?=w.heap[a]?):TI w' b g x f:=
 ⟨d.1,λe=>⟨(d.2 e).1,by
  let⟨k,l,m,n,o,p⟩:=(d.2 e).2;exact⟨k,l,m,bq n h,o,λW q=>p W λa r s=>(q a r s).trans<|j a Q Q Q⟩⟩⟩
def TI.of{w:ae}{a B g:Nat}{e:Wh}(b:WhN a w x e)(f:B<=a:=by omega)(h:g<a\/w.heap.size<=g:=by omega):TI w B g x e:=
 ⟨b.1,λd=>⟨(b.2 d).1,a,w.heap.size,f,ah,h,(b.2 d).2.2⟩⟩
def TI.none{w:ae}{b g:Nat}{a:Wh}(e:a.sort≠3):TI w b g (.pointer .none) a:=⟨rfl,λd=>cb d e⟩
def TI.hs{w:ae}{d g:Nat}{b:Wh}(j:TI w d g x b)(k:∀a,h a->a<d)(e:b.sort<=3/\b.num<=10000):Hs w h λW=>Fu W w.heap.size x b:=λW p l=>
 ⟨e.1,e.2,λf=>⟨(j.2 f).1,by
  let⟨q,r,s,m,t,n⟩:=(j.2 f).2;exact(n W λa u v=>l a Q λo=>by have:=k a o;omega).mono m⟩⟩
structure Lc(W w:ae)(rb g i:Nat)(c:Dc)(ta tb tt:af)(y:Wh):Prop where
 m:Mk rb W w i
 row:bd w g (ig c ta tb tt)
 gB:W.heap.size<=g
 Iz:rb<W.heap.size
 t1:TI w W.heap.size g ta c.fst
 t2:TI w W.heap.size g tb c.snd
 t3:TI w W.heap.size g tt y
section
variable {W w w':ae} {rb:Nat} {g i i':Nat} {c c':Dc} {ta tb tt:af} {y:Wh}
def Lc.gl(a:Lc W w rb g i c ta tb tt y):g<w.heap.size:=a.row.lt (by show 0<16;omega)
def Lc.go(a:Lc W w rb g i c ta tb tt y)(d:Mk rb w w' i'):Lc W w' rb g i' c ta tb tt y:=
 have e:∀b,W.heap.size<=b->b<w.heap.size->b≠g->w'.heap[b]?=w.heap[b]? :=λb h f _=>d.block b f (by have:=a.Iz;omega)
 ⟨a.m.trans d,a.row.cw<|d.block g a.gl (by have:=a.gB;have:=a.Iz;omega),a.gB,a.Iz,a.t1.keep d.size e,a.t2.keep d.size e,a.t3.keep d.size e⟩
def Lc.bj(b:Lc W w rb g i c ta tb tt y)(h:bf g w w'){d e f:af}{y':Wh}(l:bd w' g (ig c' d e f))(m:TI w W.heap.size g d c'.fst)(n:TI w W.heap.size g e c'.snd)(o:TI w W.heap.size g f y'):Lc W w' rb g i c' d e f y':=
 have j:w.heap.size<=w'.heap.size:=yh h.size.symm;have k:∀a,W.heap.size<=a->a<w.heap.size->a≠g->w'.heap[a]?=w.heap[a]? :=λa _ _ p=>h.block a p
 ⟨Kw b.m h b.gB b.Iz,l,b.gB,b.Iz,m.keep j k,n.keep j k,o.keep j k⟩
def Lc.put(a:Lc W w rb g i c ta tb tt y)(b:Nat)(e:b<16)(d:af)(f:(ig c ta tb tt).set b d=ig c' ta tb tt:=by omega)(h:c'.fst=c.fst:=by omega)(j:c'.snd=c.snd:=by omega):Lc W (w.setCell (O g b) d) rb g i c' ta tb tt y:=
 a.bj ((bf.refl _ _).setCell b d) (by have:=a.row.put b e d;rwa[f]at this) (by rw[h];exact a.t1) (by rw[j];exact a.t2) a.t3
def Lc.cell(d:Lc W w rb g i c ta tb tt y){k:Nat}{a:af}(b:(ig c ta tb tt)[k]?=some a):w.cell? (O g k)=some a:=d.row.cell b
def Lc.cd(d:Lc W w rb g i c ta tb tt y)(a:Nat)(b:a<16:=by omega):w.frozen? (O g a)=false:=d.row.frozen<|by exact b
end
end
def te:br s t a=true↔a<s.size/\bn t (au s a)=true:=by simp[br]
def uc{i:Nat}(a:pk s i=p:=by omega)(b:0<=p:=by omega):i<s.size/\(au s i:Int)=p:=by
 obtain e|e:=hb i s.size
 .rw[fh e]at a;exact⟨e,a⟩
 rw[qj]at a;omega
def ah9(b:ag):∀(f a:Nat),skip b fc (skipF b dh f a)=skip b fc a
 |0,a=>rfl
 |f+1,a=>by
  rw[skipF];split
  .rename_i d;have c:=te.1 d;rw[ah9 b f<|a+1,Ar (t:=fc) (i:=a)<|te.2 ⟨c.1,(Ak _).2<|.inl<|(wi _).1 c.2⟩]
  rfl
def Sep(s:ag)(j:Nat):Prop:=pk s j=-1\/pk s j=32\/pk s j=59\/pk s j=10\/pk s j=125
theorem Sep.no(h:Sep s a)(b:bn t 32=false/\bn t 59=false/\bn t 10=false/\bn t 125=false):br s t a=false:=by
 obtain e|e:=hb a s.size
 .unfold Sep at h;rw[fh e]at h;have:bn t (au s a)=false:=by
   obtain h|h|h|h|h:=h
   .omega
   .grind
   .grind
   .grind
   rw[show au s a=125 from Q];exact b.2.2.2
  simp[br,this]
 simp[br,show ¬a<s.size from Q]
def apg:bn az i=true↔97<=i/\i<=122:=by simp[bn,az];omega
def Us:bn zj i=true↔i=103\/i=112\/(49<=i/\i<=57):=by simp[bn,zj];omega
def Vg(b:ag):∀(f a:Nat),Sep b (eg b f a)->skip b az a=eg b f a
 |0,a,h=>xd<|Sep.no h qG
 |f+1,a,h=>by
  rw[eg]at h|-;split at h
  .rename_i c;rw[G c];let⟨d,e⟩:=uc (s:=b) (i:=a) rfl;rw[Ar<|te.2 ⟨d,(apg _).2 Q⟩];exact Vg b f (a+1) h
  rename_i c;rw[N c];exact xd<|Sep.no h qG
theorem acu(b:ag):∀(f a:Nat)(d e:Bool)(c:Nat),c<=9->(if d=true then 0 else 1)+(if e=true then 0 else 1)+(if c=0 then 1 else 0)<f->Sep b (flagF b f a d e c).1->
  ∃i l m k,flagF b f a d e c=(i,l,m,max k 1)/\a<=i/\skip b zj a=i/\k<=9/\∀g j,g<=a->i<=j->Ef (b.extract g j) (i-a) (a-g) (d,e,c)=(l,m,k)
 |0,a,d,e,c,_,h,_=>Q
 |f+1,a,d,e,c,hn,h,hs=>by
  have u:∀(p q:Bool)(n:Nat),n<=9->(if p=true then 0 else 1)+(if q=true then 0 else 1)+(if n=0 then 1 else 0)<f->flagF b (f+1) a d e c=flagF b f (a+1) p q n->br b zj a=true->
    (if au b a=103 then(true,e,c)else if au b a=112 then(d,true,c)else(d,e,au b a-48))=(p,q,n)->
    ∃i l m k,flagF b (f+1) a d e c=(i,l,m,max k 1)/\a<=i/\skip b zj a=i/\k<=9/\∀g j,g<=a->i<=j->Ef (b.extract g j) (i-a) (a-g) (d,e,c)=(l,m,k):=λp q n w x y z A=>by
   rw[y]at hs|-;let⟨i,l,m,k,o,B,r,s,t⟩:=acu b f (a+1) p q n w x hs;refine⟨i,l,m,k,o,Q,by rw[Ar z];exact r,s,λg j C v=>?_⟩;rw[show i-a=(i-(a+1))+1 from Q,Ef,ty b g j<|a-g,show g+(a-g)=a from Q,A,show a-g+1=a+1-g from Q];grind
  by_cases o:d=false/\pk b a=103
  .let⟨r,v⟩:=uc o.2;refine u true e c hn ?_ (by rw[flagF,G o]) (te.2 ⟨r,(Us _).2<|.inl Q⟩) (by rw[G]);grind
  by_cases s:e=false/\pk b a=112
  .let⟨r,v⟩:=uc s.2;refine u d true c hn ?_ (by rw[flagF,N o,G s]) (te.2 ⟨r,(Us _).2<|.inr<|.inl Q⟩) (by rw[N,G]);grind
  by_cases t:c=0/\br b po a=true
  .let⟨r,v⟩:=te.1 t.2;have w:=(Ut _).1 v;refine u d e (au b a-48) Q ?_ (by rw[flagF,N o,N s,G t]) (te.2 ⟨r,(Us _).2<|.inr<|.inr w⟩) (by rw[N,N]);grind
  have w:flagF b (f+1) a d e c=(a,d,e,max c 1):=by rw[flagF,N o,N s,N t]
  rw[w]at hs|-;exact⟨a,d,e,c,rfl,ah,xd<|Sep.no hs qG,hn,λg j _ _=>by rw[xx];rfl⟩
theorem ae8(b:ag)(e:Nat):∀(l a d:Nat),e<=a->(numF b l a d).2.2=true->br b ju (numF b l a d).1=false->
  a<=(numF b l a d).1/\(numF b l a d).1<=a+l/\0<(numF b l a d).2.1/\skip b ju a=(numF b l a d).1/\∀f,(numF b l a d).1<=f->xo (b.extract e f) ((numF b l a d).1-a) (a-e) d=(numF b l a d).2.1
 |0,a,d,c,h,hn=>by
  rw[numF]at h hn|-;exact⟨ah,Q,qK h,xd hn,λf _=>by rw[xx];rfl⟩
 |l+1,a,d,c,h,hn=>by
  rw[numF]at h hn|-;by_cases g:br b ju a=true
  .rw[G g]at h hn|-;by_cases j:l=0/\10*d+(au b a-48)=0
   .grind
   rw[N j]at h hn|-;let⟨p,q,k,m,n⟩:=ae8 b e l (a+1) _ Q h hn;refine⟨Q,Q,k,by rw[Ar g];exact m,λf o=>?_⟩;generalize numF b l (a+1) (10*d+(au b a-48))=i at*
   rw[show i.1-a=(i.1-(a+1))+1 from Q,xo,ty b e f<|a-e,show e+(a-e)=a from Q,show a-e+1=a+1-e from Q];exact n f o
  rw[N g]at h hn|-;exact⟨ah,Q,qK h,xd hn,λf _=>by rw[xx];rfl⟩
def aia(b:k<S.size:=by omega)(a:au S k=47:=by omega):ic S (j+1) k=k:=by rw[ic,G b,G a]
def Yf(c:k<S.size)(a:au S k≠47)(b:au S k≠92):ic S (j+1) k=ic S j (k+1):=by rw[ic,G c,N a,N b]
def aib(b:k<S.size)(a:au S k=92):ic S (j+1) k=ic S j (k+2):=by rw[ic,G b,N,G a]
def aka(s:ag)(g i:Nat)(c:Pc)(j:Nat):Prop:=
 i<s.size/\((au s i=38/\c=⟨0,0⟩/\j=i+1)\/(au s i≠38/\au s i≠92/\au s i≠47/\c=⟨-1,au s i⟩/\j=i+1)\/
 (au s i=92/\i+1<s.size/\j=i+2/\((49<=au s (i+1)/\au s (i+1)<=48+g/\c=⟨(au s (i+1):Int)-48,0⟩)\/((au s (i+1)<49\/57<au s (i+1))/\c=⟨-1,val<|au s<|i+1⟩))))
theorem aso(c:(ih s a b).2.2=true)(m:pk s b≠47):aka s a b (ih s a b).2.1 (ih s a b).1:=by
 unfold ih at c|-;by_cases h:pk s b=38
 .let⟨e,l⟩:=uc h;rw[G h];exact⟨e,.inl ⟨Q,rfl,rfl⟩⟩
 rw[N h]at c|-;by_cases i:pk s b=92
 .let⟨e,l⟩:=uc i;rw[G i]at c|-;refine⟨e,.inr<|.inr ⟨Q,?_⟩⟩;unfold qf at c|-;by_cases d:49<=pk s (b+1)/\pk s (b+1)<=48+(a:Int)
  .let⟨f,g⟩:=uc (s:=s) (i:=b+1) rfl;grind
  rw[N d]at c|-;by_cases j:pk s (b+1)=110
  .let⟨f,g⟩:=uc j;rw[G j];exact⟨f,rfl,.inr ⟨Q,by rw[show au s (b+1)=110 from Q];rfl⟩⟩
  rw[N j]at c|-;by_cases k:br s xp (b+1)=true
  .let⟨f,g⟩:=te.1 k;have n:=(Uu _).1 g;rw[G k];exact⟨f,rfl,.inr ⟨Q,by rw[val,N]⟩⟩
  grind
 rw[N i]at c|-;unfold th at c|-;by_cases d:pk s b=-1\/pk s b=10
 .grind
 rw[N d];let⟨e,l⟩:=ho (s:=s) (i:=b)<|λf=>d<|.inl f;exact⟨e,.inr<|.inl ⟨Q,Q,Q,rfl,rfl⟩⟩
def aje:ce (Qjj S)=S:=by apply va;simp[Qjj,ce]
theorem ai5(d:ag)(m:Nat)(qa:m<=9):∀(f b:Nat)(y v:List Pc)(u:Nat),qe d m f b y=(u,v,true)->
  ∃k e,u=e+1/\v=y++k/\b<=e/\e<d.size/\k.length<=e-b/\(∀c,d.size<c+b->ic d c b=e)/\
  (∀a c,a<=b->Gc (d.extract a e) (m+1) c (b-a))/\
  (∀a c h g o,a<=b->e-a<c+(b-a)->xl (d.extract a e) h g c (b-a) o=o++ce (iq h g k []))
 |0,b,y,v,u,i=>by rw[qe]at i;cases i
 |f+1,b,y,v,u,i=>by
  rw[qe]at i;have w:∀a e,e<d.size->(d.extract a e).size=e-a:=λa e V=>by rw[lw,yi Q]
  by_cases s:pk d b=47
  .rw[G s]at i;cases i
   let⟨l,j⟩:=uc s;refine⟨[],b,rfl,qD,ah,l,qD,λc hF=>?_,λa c z=>?_,λa c h g o z hF=>?_⟩
   .obtain⟨c,rfl⟩:∃A,c=A+1:=⟨c-1,Q⟩;exact aia d c b l
   .cases c with
    |zero=>trivial
    |succ c=>intro M;grind
   cases c with
   |zero=>omega
   |succ c=>
    rw[xl,N qE];rw[show iq h g [] []=[] from rfl,show ce []=(⟨#[]⟩:ag)from rfl,Sj]
  rw[N s]at i;by_cases B:(ih d m b).2.2=true
  .rw[G B]at i;obtain⟨k,e,rfl,R,W,C,X,D,E,t⟩:=ai5 d m qa f _ _ _ _ i;have q:=aso B s;generalize(ih d m b).2.1=r at*
   generalize(ih d m b).1=K at*
   let⟨l,q⟩:=q;have U:b<K/\K<=b+2:=by obtain⟨_,_,i⟩|⟨_,_,_,_,i⟩|⟨_,_,i,_⟩:=q<;>omega
   have P:∀h g,iq h g (r::k) []=(if r.jw=-1 then [r.byte.toUInt8] else Qjj (Eg h g r.jw.toNat))++iq h g k []:=λh g=>by
    rw[iq];split
    .rw[Ec];rfl
    simp only[Eg];split
    .rw[Ec];rfl
    rfl
   refine⟨r::k,e,rfl,by rw[R];simp,Q,C,qB,λc hF=>?_,λa c z=>?_,λa c h g o z hF=>?_⟩
   .obtain⟨c,rfl⟩:∃A,c=A+1:=⟨c-1,Q⟩;obtain⟨j,_,rfl⟩|⟨j,n,p,_,rfl⟩|⟨j,n,rfl,_⟩:=q
    .rw[Yf d c b l Q Q];grind
    .rw[Yf d c b l p n];grind
    rw[aib d c b l j];grind
   .cases c with
    |zero=>trivial
    |succ c=>
     intro M
     rw[ty d a e<|b-a,show a+(b-a)=b from Q];obtain⟨j,_,rfl⟩|⟨j,n,p,_,rfl⟩|⟨j,n,rfl,p⟩:=q
     .rw[N,show b-a+1=b+1-a from Q];grind
     .rw[N,show b-a+1=b+1-a from Q];grind
     rw[G j,w a e C,ty d a e<|b-a+1,show a+(b-a+1)=b+1 from Q,show b-a+2=b+2-a from Q];grind
   cases c with
   |zero=>omega
   |succ c=>
    rw[xl,G qE,ty d a e<|b-a,show a+(b-a)=b from Q,P h g];have x:∀(F:List UInt8)(H:ag),ce F=H->o++H++ce (iq h g k [])=o++ce (F++iq h g k []):=λF H T=>by rw[Qv,T,ByteArray.append_assoc]
    obtain⟨j,rfl,rfl⟩|⟨j,n,p,rfl,rfl⟩|⟨j,n,rfl,p⟩:=q
    .rw[G j,show b-a+1=b+1-a from Q,t a c h g _ Q Q];exact x _ _<|aje _
    .rw[N j,N n,show b-a+1=b+1-a from Q,t a c h g _ Q Q];exact x _ _ rfl
    rw[N,G j,ty d a e<|b-a+1,show a+(b-a+1)=b+1 from Q,show b-a+2=b+2-a from Q];obtain⟨L,S,rfl⟩|⟨L,rfl⟩:=p
    .rw[G,t a c h g _ Q Q];refine x _ _ ?_;rw[N qE,aje,show((au d (b+1):Int)-48).toNat=au d (b+1)-48 from Q]
    grind
  grind
def aai(s:ag)(i v j:Nat):Prop:=i<s.size/\v<256/\((au s i=92/\i+1<s.size/\v=val (au s<|i+1)/\j=i+2)\/(au s i≠92/\au s i≠47/\v=au s i/\j=i+1))
theorem ag3(b:(fa s g a).2.2=true):aai s a (fa s g a).2.1 (fa s g a).1/\g.contains (fa s g a).2.1=false:=by
 unfold fa at b|-;have i:=ms s a;by_cases e:pk s a=92
 .let⟨d,j⟩:=uc e;rw[G e]at b|-;by_cases c:vm g=true
  .grind
  rw[N c]at b|-;by_cases f:br s mg (a+1)=true
  .rw[G f]at b|-;by_cases h:g.contains (val<|au s<|a+1)=true
   .grind
   rw[N h];have k:=te.1 f;have i:=ms s<|a+1;exact⟨⟨d,by show val _<256;unfold val;split<;>omega,.inl ⟨Q,k.1,rfl,rfl⟩⟩,qK h⟩
  grind
 rw[N e]at b|-;by_cases c:pk s a=-1\/br s yr a=true\/g.contains (au s a)=true
 .grind
 rw[N c];let⟨d,j⟩:=ho (s:=s) (i:=a)<|λf=>c<|.inl f;refine⟨⟨d,i,.inr ⟨Q,λf=>c<|.inr<|.inl<|te.2 ⟨d,(Kn _).2<|.inr f⟩,rfl,rfl⟩⟩,?_⟩;grind
structure Ab(s:ag)(i J:Nat)(l0 l1:List Nat):Prop where
 le:i<=J
 lt:J<s.size
 sl:∀F,s.size<F+i->ic s F i=J
 ok:∀i0 F,i0<=i->Gz (s.extract i0 J) F (i-i0)
 eq:∀i0 F,i0<=i->J-i0<F+(i-i0)->zq (s.extract i0 J) F (i-i0) l0=l1
def Ab.nil(i:pk s a=47)(f:List Nat):Ab s a a f f:=by
 let⟨e,j⟩:=uc i;have d:∀c,(s.extract c a).size=a-c:=λc=>by rw[lw,yi Q]
 refine⟨ah,e,λb hF=>?_,λc b h=>?_,λc b h hF=>?_⟩
 .obtain⟨b,rfl⟩:∃g,b=g+1:=⟨b-1,Q⟩;exact aia s b a e
 .cases b with
  |zero=>trivial
  |succ b=>intro g;rw[d]at g;omega
 cases b with
 |zero=>omega
 |succ b=>rw[zq,N<|by rw[d];omega]
theorem Ab.cons{o l:List Nat}(r:aai s a b c)(j:Ab s c d (o++[b]) l):Ab s a d o l:=by
 let⟨m,_,i⟩:=r;let⟨x,t,n,p,q⟩:=j;have w:a<c/\c<=a+2:=by obtain⟨_,_,_,j⟩|⟨_,_,_,j⟩:=i<;>omega
 have k:∀e,(s.extract e d).size=d-e:=λe=>by rw[lw,yi Q]
 refine⟨Q,t,λf hF=>?_,λe f u=>?_,λe f u hF=>?_⟩
 .obtain⟨f,rfl⟩:∃v,f=v+1:=⟨f-1,Q⟩;obtain⟨g,_,_,rfl⟩|⟨g,h,_,rfl⟩:=i
  .rw[aib s f a m g];grind
  rw[Yf s f a m h g];grind
 .cases f with
  |zero=>trivial
  |succ f=>
   intro v
   rw[ty s e d<|a-e,show e+(a-e)=a from Q,k];obtain⟨g,h,_,rfl⟩|⟨g,h,_,rfl⟩:=i
   .rw[G g,show a-e+2=a+2-e from Q];grind
   rw[N g,show a-e+1=a+1-e from Q];grind
 cases f with
 |zero=>omega
 |succ f=>
  rw[zq,G<|by rw[k];omega,ty s e d<|a-e,show e+(a-e)=a from Q];obtain⟨g,h,rfl,rfl⟩|⟨g,h,rfl,rfl⟩:=i
  .rw[G g,ty s e d<|a-e+1,show e+(a-e+1)=a+1 from Q,show a-e+2=a+2-e from Q];grind
  rw[N g,show a-e+1=a+1-e from Q];grind
theorem ahe(d:ag):∀(f b:Nat)(a c:List Nat)(i:Nat),rowL d f b a=(i,c,true)->a.Nodup->(∀g∈a,g<256)->
  ∃e,i=e+1/\Ab d b e a c/\c.Nodup/\(∀g∈c,g<256)/\c.length<=a.length+(e-b)
 |0,b,a,c,i,h,_,_=>by rw[rowL]at h;cases h
 |f+1,b,a,c,i,h,hn,hv=>by
  rw[rowL]at h;by_cases j:pk d b=47
  .rw[G j]at h;cases h
   exact⟨b,rfl,Ab.nil j a,hn,hv,Q⟩
  rw[N j]at h;by_cases k:(fa d a b).2.2=true
  .rw[G k]at h;let⟨l,q⟩:=ag3 k;have y:b<(fa d a b).1:=by obtain⟨_,_,⟨_,_,_,h⟩|⟨_,_,_,h⟩⟩:=l<;>omega
   let⟨e,r,n,s,t,u⟩:=ahe d f _ _ _ _ h (by
    grind) (λg p=>by
    obtain h|h:=og.1 p
    .exact hv g h
    simp at h;rw[h];exact l.2.1)
   exact⟨e,r,Ab.cons l n,s,t,by have:=n.le;simp at u;omega⟩
  grind
theorem ahi(f:ag):∀(n d:Nat)(b c:List Nat)(e:Nat),mp f n d b=(e,c,true)->pk f e=47->Ab f d e b c/\c.length=b.length+n
 |0,d,b,c,e,h,a=>by rw[mp]at h;cases h;exact⟨Ab.nil a b,rfl⟩
 |n+1,d,b,c,e,h,a=>by
  rw[mp]at h;by_cases g:(fa f [] d).2.2=true
  .rw[G g]at h;let⟨i,j⟩:=ahi f n _ _ _ _ h a;exact⟨Ab.cons (ag3 g).1 i,by simp at j;omega⟩
  grind
def Ch:Prop:=∀t:ag,uu t=none->t.size<=40->ya t
theorem af1(k:Ch)(b:(dx s a p).2.2.2=true)(c:(dx s a p).2.2.1=-1):
  p=-1/\a<=bw s a/\bw s a<s.size/\ya (s.extract a<|bw s a)/\(dx s a p).2.1=s.extract a (bw s a)/\(dx s a p).1=bw s a+1:=by
 have h:bw s a<=s.size:=Er s _ a;have m:(s.extract a<|bw s a).size=bw s a-a:=by rw[lw,yi h]
 unfold dx at b c|-;have i:=k<|s.extract a<|bw s a;cases d:uu (s.extract a<|bw s a)with
 |some l=>grind
 |none=>
  simp only[d]at b c|-;by_cases e:pk s (a+(s.extract a<|bw s a).size)=47
  .rw[G e]at c|-;let⟨n,o⟩:=uc e;have j:a<=bw s a:=Es s _ a Q;grind
  grind
def Zd(r:Ch)(o:a<=s.size)(c:(dc s a p).2.2.2=true)(b:(dc s a p).2.2.1=-1)(d:br s ju (dc s a p).1=false):
  p=-1/\Ds s a (dc s a p).2.1 (dc s a p).1/\a<(dc s a p).1/\(dc s a p).1<=s.size:=by
 unfold dc at c b d|-;by_cases f:pk s a=36
 .rw[G f]at b|-;have:=uc f;exact⟨b,.inl ⟨f,rfl,rfl⟩,Q,this.1⟩
 rw[N f]at c b d|-;by_cases g:pk s a=47
 .rw[G g]at c b d|-;let⟨k,l,m,h,i,e⟩:=af1 r c b;simp only[i,e];exact⟨k,.inr<|.inl ⟨g,m,h,rfl,rfl⟩,Q,Q⟩
 rw[N g]at c b d|-;simp only at c b d|-;let⟨k,l,m,h,i⟩:=ae8 s a 4 a 0 ah c d;have e:=i _ ah;rw[xx]at e;have n:=(si s ju a o);rw[h]at n;have j:a<(numF s 4 a 0).1:=by
  obtain q|q:=hb a (numF s 4 a 0).1
  .exact q
  rw[show(numF s 4 a 0).1-a=0 from Q]at e;rw[show xo (s.extract a (numF s 4 a 0).1) 0 0 0=0 from rfl]at e;omega
 exact⟨b,.inr<|.inr ⟨f,g,h.symm,.inr ⟨j,l,by rw[e]⟩⟩,j,n⟩
def adq:bn ju i=true↔48<=i/\i<=57:=Ur i
def ae5(c:br s ju (skip s dh a)=false):br s ju a=false:=by
 cases b:br s dh a with
 |false=>rw[xd b]at c;exact c
 |true=>
  have:=te.1 b;have d:=(wi _).1 this.2;simp[br,d];intro _
  decide
theorem akl(k:Ch){lg:Int}(j:a<=s.size)(t:br s dh a=false)(b:(cq s a lg).2.2.2.2=true)(c:(cq s a lg).2.2.2.1=-1)(d:br s ju (cq s a lg).1=false)(e:pk s (cq s a lg).1≠44):
  lg=-1/\∃f g,Ds s a (cq s a lg).2.1 f/\((pk s f=44/\Ds s (f+1) (cq s a lg).2.2.1 g)\/(pk s f≠44/\(cq s a lg).2.2.1=gi/\g=f))/\a<=f/\f<=g/\g<=s.size/\(cq s a lg).1=skip s dh g:=by
 unfold cq at b c d e|-;by_cases l:br s ws a=true
 .rw[G l]at b c d e|-;simp only at b c d e|-;by_cases i:(dc s a lg).2.2.2=true
  .rw[G i]at b c d e|-;by_cases h:pk s (dc s a lg).1=44
   .rw[G h]at b c d e|-;let⟨p,u⟩:=uc h;by_cases m:(dc s ((dc s a lg).1+1) (dc s a lg).2.2.1).2.2.2=true
    .rw[G m]at b c d e|-;let⟨v,w,y,x⟩:=Zd k Q m c<|ae5 d;let⟨n,o,r,q⟩:=Zd k j i v (by simp[br,show au s (dc s a lg).1=44 from Q];intro _;decide);grind
    rw[N m]at b;cases b
   rw[N h]at b c d e|-;let⟨n,o,r,q⟩:=Zd k j i c<|ae5 d;exact⟨n,_,_,o,.inr ⟨h,rfl,rfl⟩,Q,ah,q,rfl⟩
  rw[N i]at b;cases b
 rw[N l]at b c d e|-;have i:∀h:Nat,bn ws h=true->pk s a≠(h:Int):=λh m n=>by
  let⟨p,u⟩:=uc n;exact l<|te.2 ⟨p,qE⟩
 exact⟨c,a,a,.inr<|.inr ⟨i 36 qG,i 47 qG,(xd d).symm,.inl ⟨rfl,rfl⟩⟩,.inr ⟨e,rfl,rfl⟩,ah,ah,j,(xd t).symm⟩
structure Jn(P:ie)(p:cj):Prop where
 ye:Cj P
 len:P.cs.length=p.U.length
 rel:∀(k:Nat)(c:Dc)(x:Cm),P.cs[k]?=some c->p.U[k]?=some x->xg (λ_=>0) c x
 ns:P.ns=(p.bh.filter λl=> !l.want).map ft.name
 gs:P.gs=(p.bh.filter λl=> !l.want).map ft.cmd
 nm:∀l∈p.bh,l.want=false->0<l.name.size
 w1:∀l∈p.bh,l.want=true->∃c x,P.cs[l.cmd]?=some c/\p.U[l.cmd]?=some x/\c.text=l.name/\(x.R=17\/x.R=18)
 w2:∀(k:Nat)(x:Cm),p.U[k]?=some x->(x.R=17\/x.R=18)->∃l∈p.bh,l.want=true/\l.cmd=k
theorem Qm{g:Type}{c:List g}{f d:g}(b:(c++[f])[a]?=some d):c[a]?=some d\/(a=c.length/\d=f):=by
 grind
theorem Oy{e:Type}{c:List e}{f d:e}(b:c[a]?=some d):(c++[f])[a]?=some d:=by
 grind
theorem Jn.more{f:ie}{o s:cj}{k:Dc}{x:Cm}{L:List ft}(d:Jn f o)(B:f.H<a)(i:s.U=o.U++[x])(g:s.bh=o.bh++L)(z:xg (λ_=>0) k x)(l:∀b∈L,b.want=true/\b.cmd=o.U.length/\b.name=k.text/\(x.R=17\/x.R=18))(A:x.R=17\/x.R=18->L≠[]):
  Jn {f with H:=a,cs:=f.cs++[k]} s:=by
 let⟨C,D,v⟩:=d.ye;have t:L.filter (λb=> !b.want)=[]:=by
  rw[List.filter_eq_nil_iff];intro b c
  rw[(l b c).1];decide
 refine⟨⟨qE,qE,v⟩,by rw[i];simp[d.len],λr q n hd h=>?_,by rw[g,yze,t,xu];exact d.ns,by rw[g,yze,t,xu];exact d.gs,λb c m=>?_,λb c m=>?_,λr n h u=>?_⟩
 .rw[i]at h;obtain p|⟨p,rfl⟩:=Qm hd
  .obtain j|⟨j,rfl⟩:=Qm h
   .exact d.rel r q n p j
   rw[je<|by rw[d.len];omega]at p;cases p
  obtain j|⟨j,rfl⟩:=Qm h
  .rw[je<|by rw[<-d.len];omega]at j;cases j
  exact z
 .rw[g]at c;obtain e|e:=og.1 c
  .exact d.nm b e m
  grind
 .rw[g]at c;obtain e|e:=og.1 c
  .let⟨q,n,j,p,w,y⟩:=d.w1 b e m;grind
  let⟨p,j,w,y⟩:=l b e;refine⟨k,x,?_,?_,w.symm,y⟩
  .rw[j,<-d.len];simp
  rw[j,i];simp
 rw[i]at h;obtain e|⟨rfl,rfl⟩:=Qm h
 .let⟨b,p,j⟩:=d.w2 r n e u;grind
 let⟨b,c⟩:=List.exists_mem_of_ne_nil L<|A u;grind
theorem Jn.qu{c:ie}{p k:cj}(d:Jn c p)(v:c.H<a)(j:k.U=p.U)(f:k.bh=p.bh++[⟨s,b,p.U.length,false⟩])(o:0<s.size):
  Jn {c with H:=a,ns:=c.ns++[s],gs:=c.gs++[c.cs.length]} k:=by
 let⟨w,x,q⟩:=d.ye;refine⟨⟨qE,qE,qE⟩,by rw[j];exact d.len,by rw[j];exact d.rel,?_,?_,λi g h=>?_,λi g h=>?_,λn u l m=>?_⟩
 .rw[f,yze,yys,<-d.ns];rfl
 .rw[f,yze,yys,<-d.gs,<-d.len];rfl
 .rw[f]at g;obtain e|e:=og.1 g
  .exact d.nm i e h
  grind
 .rw[f]at g;obtain e|e:=og.1 g
  .rw[j];exact d.w1 i e h
  grind
 rw[j]at l;let⟨i,r,t⟩:=d.w2 n u l m;grind
theorem Qg{h:Type}{e:List h}{g f:h}(c:(e.set b g)[a]?=some f):(a=b/\f=g/\b<e.length)\/(a≠b/\e[a]?=some f):=by
 grind
theorem Jn.kj{b:ie}{f q:cj}{a g:Nat}{h:Cm}(c:Jn b f)(j:f.U[a]?=some h)(K:h.R=0)(A:q.U=setGoal f.U a g)(k:q.bh=f.bh):
  Jn {b with H:=b.H+1,cs:=Qjk b.cs a g} q:=by
 let⟨L,M,B⟩:=c.ye;have H:a<f.U.length:=by obtain q|q:=hb a f.U.length;exact q;rw[je q]at j;cases j
 obtain⟨m,z⟩:∃m,b.cs[a]?=some m:=⟨_,dy<|by rw[c.len];exact H⟩;have o:Qjk b.cs a g=b.cs.set a {m with cn:=g}:=by rw[Qjk,z]
 have p:q.U=f.U.set a {h with cn:=g}:=by rw[A,setGoal,j]
 have d:=c.rel a m h z j;refine⟨⟨qE,qE,B⟩,by show(Qjk b.cs a g).length=_;rw[o,p,tj,tj];exact c.len,λr n l hd i=>?_,by rw[k];exact c.ns,by rw[k];exact c.gs,by rw[k];exact c.nm,λt w C=>?_,λr l i x=>?_⟩
 .have hd:(Qjk b.cs a g)[r]?=some n:=hd;rw[o]at hd;rw[p]at i;obtain⟨rfl,rfl,_⟩|⟨s,u⟩:=Qg hd
  .obtain⟨_,rfl,_⟩|⟨s,_⟩:=Qg i
   .exact⟨d.kd,d.lt,d.fst,d.snd,d.neg,λ_=>rfl,d.text,d.tz,λe=>qE,λe=>qE,d.rows⟩
   exact cb rfl s
  obtain⟨v,_⟩|⟨_,y⟩:=Qg i
  .exact cb v s
  exact c.rel r n l u y
 .rw[k]at w;let⟨n,l,D,v,E,F⟩:=c.w1 t w C;grind
 rw[p]at i;obtain⟨rfl,rfl,_⟩|⟨s,u⟩:=Qg i
 .grind
 rw[k];exact c.w2 r l u x
def Jn.same{e:ie}{f g:cj}(b:Jn e f)(h:e.H<=a)(d:g.U=f.U)(c:g.bh=f.bh):Jn {e with H:=a} g:=
 ⟨⟨bq b.ye.1 h,bq b.ye.2.1 h,b.ye.2.2⟩,by rw[d];exact b.len,by rw[d];exact b.rel,by rw[c];exact b.ns,by rw[c];exact b.gs,by rw[c];exact b.nm,by rw[d,c];exact b.w1,by rw[d,c];exact b.w2⟩
def ap7(h:bn pm a=true):(a=123/\ei a=0)\/((a=97/\ei a=14)\/(a=105/\ei a=15)\/(a=99/\ei a=16))\/((a=98/\ei a=17)\/(a=116/\ei a=18))\/(a=115/\ei a=19)\/(a=121/\ei a=20)\/(a≠123/\¬(a=97\/a=105\/a=99)/\¬(a=98\/a=116)/\a≠115/\a≠121/\1<=ei a/\ei a<=13/\a=Gp.getD (ei a) 0):=by
 simp only[bn,pm,yxe,List.any_nil,uz,ra,yzs]at h;obtain h|h|h|h|h|h|h|h|h|h|h|h|h|h|h|h|h|h|h|h|h:=h<;>rw[<-h]<;>decide
def Jz(a b:Wh)(n:Bool)(k:Nat):Cm:=⟨k,a,b,n,0,fo,fo,[],0,false,false,fo,fo⟩
def Ho(p q:cj):Prop:=∀(k:Nat)(x:Cm),p.U[k]?=some x->q.U[k]?=some x
def Nh(s:ag)(rowf:cj->cj×Bool)(rw:ie->ie->Prop):Prop:=∀(p r:cj)(P:ie),rowf p=(r,true)->r.bk=-1->Jn P p->P.H=p.H->p.H<=s.size->p.bk=-1/\∃K,rw P K/\Jn K r/\K.H=r.H/\K.H<=s.size/\P.H<=K.H/\Ho p r
def ake(s:ag)(rw:ie->ie->Prop)(P:ie)(p r:cj)(a b:Wh)(n:Bool):Prop:=p.bk=-1/\Ho p r/\∃C j m,C.fst=a/\C.snd=b/\C.neg=n/\C.cn=0/\C.di=au s p.H/\j<=s.size/\Az s C (p.H+1) j/\
 ((C.di≠123/\m={P with H:=j,cs:=P.cs++[C]})\/(C.di=123/\∃m1,rw {P with H:=j,cs:=P.cs++[C]} m1/\m1.H<s.size/\P.cs.length<m1.cs.length/\m={m1 with H:=m1.H+1,cs:=Qjk m1.cs P.cs.length m1.cs.length}))/\
 Jn m r/\m.H=r.H/\m.H<=s.size/\P.H<m.H
def xg.of{b:Dc}{a:Cm}(d:a.R<=20)(e:b.di=Gp.getD a.R 0)(f:b.fst=a.fst)(h:b.snd=a.snd)(i:b.neg=a.neg)(g:b.cn=0)(c:a.cn=0)(j:b.text.size<=400)(k:a.R=14\/a.R=15\/a.R=16->b.text=a.text)(l:a.R=19->Su b a)
  (m:a.R=20->b.one=a.la/\b.two=a.oo/\b.one.size=b.two.size/\b.one.size<=1000/\(Qjj b.one).Nodup):xg (λ_=>0) b a:=⟨d,e,f,h,i,λ_=>g.trans c.symm,k,j,λ_=>c.symm,l,m⟩
def Oq:(S.extract j k).size<=S.size:=by rw[lw];omega
def aq6(a:List Nat)(i:a.Nodup)(f:∀j∈a,j<256):(Qjj<|iy a).Nodup:=by
 have c:Qjj (iy a)=a.map Nat.toUInt8:=by simp[Qjj,iy]
 rw[c];refine List.Pairwise.map _ (λd e b=>b) ?_;refine i.imp_of_mem fun {d e} g h b c=>b ?_
 have:=congrArg UInt8.toNat c;have k:=f d g;have l:=f e h;simp at this;omega
def Vv(a:List Nat):(iy a).size=a.length:=by simp[iy,ByteArray.size]
theorem Jg(e:cj->cj×Bool)(c:ag)(a:cj)(d:Cm)(b:Nat)(g:br c pm a.H=true)(f:ei (au c a.H)=b):lm e c a d=
  (if b=0 then qr e c a {d with R:=b} else if b=14\/b=15\/b=16 then
    (if pk c (a.H+1)=32 then({a with H:=ci c<|a.H+1+1,U:=a.U++[{d with R:=b,text:=c.extract (a.H+1+1)<|ci c<|a.H+1+1}]},true)else({a with H:=a.H+1,U:=a.U++[{d with R:=b}]},false))
   else if b=17\/b=18 then((a.qu c (a.H+1) true).add {d with R:=b},true)
   else if b=19 then({a with H:=(ii c (a.H+1) a.bk {d with R:=b}).1,U:=a.U++[(ii c (a.H+1) a.bk {d with R:=b}).2.1],bk:=(ii c (a.H+1) a.bk {d with R:=b}).2.2.1},(ii c (a.H+1) a.bk {d with R:=b}).2.2.2)
   else if b=20 then({a with H:=(jo c<|a.H+1).1,U:=a.U++[{d with R:=b,la:=(jo c<|a.H+1).2.1,oo:=(jo c<|a.H+1).2.2.1}]},(jo c<|a.H+1).2.2.2)
   else({a with H:=a.H+1,U:=a.U++[{d with R:=b}]},true)):=by
 grind[lm]
theorem Ll{a b:cj}{e:Cm}(d:b.U=a.U++[e]):Ho a b:=λf g c=>qE
theorem aw0(aD:Ch)(K:s.size<=400){t:cj->cj×Bool}{rw:ie->ie->Prop}(a4:Nh s t rw){b M:cj}{o:ie}{i j:Wh}(c:lm t s b (Jz i j f 0)=(M,true))(l:M.bk=-1)(U:Sep s M.H)(q:Jn o b)(aS:o.H<=b.H):
  br s pm b.H=true/\ake s rw o b M i j f:=by
 by_cases r:br s pm b.H=true
 rotate_left
 .unfold lm at c;grind
 refine⟨r,?_⟩;let⟨F,a5⟩:=te.1 r;have T:(⟨#[]⟩:ag).size<=400:=qG
 obtain⟨u,B⟩|k|k|⟨u,B⟩|⟨u,B⟩|⟨u,aF,aG,aH,aI,aT,aU,aJ⟩:=ap7 a5
 .rw[Jg t s b _ 0 r B,G rfl]at c;unfold qr at c;by_cases n:b.op=5
  .grind
  rw[N n]at c;simp only at c;generalize R:t _=D at c;let⟨m,w⟩:=D;by_cases p:w=true/\pk s m.H=125
  rotate_left
  .grind
  rw[G p]at c;obtain⟨rfl,P⟩:=p;cases c
  let⟨x,qa⟩:=uc P;obtain⟨d,a⟩:∃d:Dc,d=⟨au s b.H,i,j,f,0,⟨#[]⟩,⟨#[]⟩,false,false,0,⟨#[]⟩,⟨#[]⟩⟩:=⟨_,rfl⟩;let⟨S,g,V,z,X,Z,A,C⟩:=a4 _ m {o with H:=b.H+1,cs:=o.cs++[d]} R l (q.more (x:=Jz i j f 0) (L:=[]) Q rfl (xu _).symm (xg.of (by show 0<=20;omega) (by rw[a];exact u) (by subst a;rfl) (by subst a;rfl) (by subst a;rfl) (by subst a;rfl) rfl (by rw[a];exact T) (λe=>by obtain e|e|e:=e<;>cases e) (λe=>by cases e)<|λe=>by cases e) (λy l=>by cases l) (λe=>by obtain e|e:=e<;>cases e)) rfl F;have h:=C b.U.length (Jz i j f 0) (by show(b.U++[_])[b.U.length]?=_;rw[sn ah,xx];rfl);have E:o.cs.length<g.cs.length:=by
   rw[z.len,q.len];obtain e|e:=hb b.U.length m.U.length
   .exact e
   rw[je e]at h;cases h
  have H:m.U[o.cs.length]?=some (Jz i j f 0):=by rw[q.len];exact h
  refine⟨S,λk W v=>?_,d,b.H+1,_,by subst a;rfl,by subst a;rfl,by subst a;rfl,by subst a;rfl,by subst a;rfl,F,?_,.inr ⟨by rw[a];exact u,g,V,Q,E,rfl⟩,Jn.kj (g:=g.cs.length) z H rfl (by show setGoal m.U b.U.length m.U.length=_;rw[q.len,z.len]) rfl,qE,qE,qE⟩
  .have L:=C k W<|Oy v;show(setGoal m.U b.U.length m.U.length)[k]?=_
   rw[setGoal,h];grind
  rw[a];unfold Az;dsimp only;rw[N,N,N,N];grind
 .obtain⟨g,R,z⟩:∃g,ei (au s b.H)=g/\(g=14\/g=15\/g=16)/\au s b.H=Gp.getD g 0:=by
   obtain⟨i,j⟩|⟨i,j⟩|⟨i,j⟩:=k
   .exact⟨14,j,.inl rfl,i⟩
   .exact⟨15,j,.inr<|.inl rfl,i⟩
   exact⟨16,j,.inr<|.inr rfl,i⟩
  rw[Jg t s b _ g r R,N,G z.1]at c;by_cases n:pk s (b.H+1)=32
  rotate_left
  .grind
  rw[G n]at c;cases c
  let⟨x,qa⟩:=uc n;have h:ci s (b.H+1)=ci s (b.H+1+1):=by
   unfold ci;rw[show s.size-(b.H+1)=(s.size-(b.H+1+1))+1 from Q,On s _ _ x Q]
  have a7:=ab8 s<|b.H+1+1;have A:ci s (b.H+1+1)<=s.size:=Tx s _ _ x;obtain⟨d,a⟩:∃d:Dc,d=⟨au s b.H,i,j,f,0,s.extract (b.H+1+1)<|ci s<|b.H+1+1,⟨#[]⟩,false,false,0,⟨#[]⟩,⟨#[]⟩⟩:=⟨_,rfl⟩;refine⟨l,Ll rfl,d,ci s<|b.H+1+1,_,by subst a;rfl,by subst a;rfl,by subst a;rfl,by subst a;rfl,by subst a;rfl,A,?_,.inl ⟨qE,rfl⟩,q.more (L:=[]) Q rfl (xu _).symm (xg.of qE (by rw[a];exact z.2) (by subst a;rfl) (by subst a;rfl) (by subst a;rfl) (by subst a;rfl) rfl (by rw[a];exact bq (Oq _ _ _) K) (λ_=>by subst a;rfl) (λe=>qE) (λe=>qE)) (λy l=>by cases l) (λe=>qE),rfl,A,qE⟩;rw[a];unfold Az;dsimp only;rw[G,h];grind
 .obtain⟨g,R,z⟩:∃g,ei (au s b.H)=g/\(g=17\/g=18)/\au s b.H=Gp.getD g 0:=by
   obtain⟨i,j⟩|⟨i,j⟩:=k
   .exact⟨17,j,.inl rfl,i⟩
   exact⟨18,j,.inr rfl,i⟩
  rw[Jg t s b _ g r R,N,N,G z.1]at c;cases c
  have H:Sep s (eg s 8<|b.H+1):=U;have h:=Vg s 8 (b.H+1) H;let⟨A,a7⟩:=Am s 8 (b.H+1) F;obtain⟨d,a⟩:∃d:Dc,d=⟨au s b.H,i,j,f,0,s.extract (b.H+1)<|eg s 8<|b.H+1,⟨#[]⟩,false,false,0,⟨#[]⟩,⟨#[]⟩⟩:=⟨_,rfl⟩;refine⟨l,Ll rfl,d,eg s 8<|b.H+1,_,by subst a;rfl,by subst a;rfl,by subst a;rfl,by subst a;rfl,by subst a;rfl,A,?_,.inl ⟨qE,rfl⟩,q.more (L:=[⟨s.extract (b.H+1)<|eg s 8<|b.H+1,b.H+1,b.U.length,true⟩]) Q rfl rfl (xg.of qE (by rw[a];exact z.2) (by rw[a];rfl) (by rw[a];rfl) (by rw[a];rfl) (by subst a;rfl) rfl (by rw[a];exact bq (Oq _ _ _) K) (λe=>qE) (λe=>qE) (λe=>qE)) (λy l=>qE)<|λe=>qD,rfl,A,qE⟩;rw[a];unfold Az;dsimp only;rw[N,G,h];grind
 .rw[Jg t s b _ 19 r B,N qG,N qG,N qG,G rfl]at c;unfold ii at c;by_cases n:pk s (b.H+1)=47
  rotate_left
  .grind
  simp only[G n]at c;let⟨x,qa⟩:=uc n;by_cases p:(dx s (b.H+1+1) b.bk).2.2.2=true
  rotate_left
  .grind
  simp only[G p]at c;generalize L:ks s (eo (dx s (b.H+1+1) b.bk).2.1) (dx s (b.H+1+1) b.bk).1=P at c;let⟨Z,a0,w⟩:=P;cases w with
  |false=>simp at c
  |true=>
   simp only[↓reduceIte]at c;cases c
   let⟨a6,aQ,a8,a9,D,aA⟩:=af1 aD p l;rw[D,aA]at L;obtain⟨y,h,rfl,S,aV,a1,aW,aN,aO,aP⟩:=ai5 s _ (adh _) _ _ _ _ _ L;have H:Sep s (flagF s 4 (h+1) false false 0).1:=U;let⟨v,a3,aK,C,V,aR,W,aB,aC⟩:=acu s 4 (h+1) false false 0 Q qG H;have X:v<=s.size:=by rw[<-W];exact si s zj _ a1
   have a2:bw s (bw s (b.H+1+1)+1)=h:=aN (s.size+1) Q;have S:a0=y:=S;subst S;obtain⟨d,a⟩:∃d:Dc,d=⟨au s b.H,i,j,f,0,s.extract (bw s (b.H+1+1)+1) h,s.extract (b.H+1+1)<|bw s<|b.H+1+1,a3,aK,C,⟨#[]⟩,⟨#[]⟩⟩:=⟨_,rfl⟩;have aE:(s.extract (bw s (b.H+1+1)+1) h).size=h-(bw s (b.H+1+1)+1):=by rw[lw,yi Q]
   refine⟨a6,Ll rfl,d,v,_,by subst a;rfl,by subst a;rfl,by subst a;rfl,by subst a;rfl,by subst a;rfl,X,?_,.inl ⟨qE,rfl⟩,q.more (L:=[]) Q rfl (xu _).symm (xg.of qE (by rw[a];exact u) (by subst a;rfl) (by subst a;rfl) (by subst a;rfl) (by subst a;rfl) rfl qE (λe=>qE) (λ_=>?_) (λe=>qE)) (λy l=>by cases l) (λe=>qE),by rw[V],X,qE⟩
   .rw[a];unfold Az;dsimp only;rw[N,N,G,a2];grind
   rw[V];refine⟨qE,by subst a;rfl,by subst a;rfl,qE,by rw[a];exact aB,qE,qE,?_,λaM aL H=>?_⟩
   .show Gc d.text (eo (dx s (b.H+1+1) b.bk).2.1+1) (d.text.size+1) 0
    rw[D,a];have:=aO _ ((s.extract (bw s (b.H+1+1)+1) h).size+1) ah;grind
   rw[a];have:=aP (bw s (b.H+1+1)+1) ((s.extract (bw s (b.H+1+1)+1) h).size+1) aM aL ⟨#[]⟩ ah (by rw[aE];omega);rw[xx]at this;refine this.trans ?_;apply va;simp
 .rw[Jg t s b _ 20 r B,N qG,N qG,N qG,N qG,G rfl]at c;unfold jo at c;by_cases n:pk s (b.H+1)=47
  rotate_left
  .grind
  simp only[G n]at c;let⟨x,qa⟩:=uc n;generalize L:rowL s (s.size+1) (b.H+1+1) []=P at c;let⟨Z,C,w⟩:=P;cases w with
  |false=>simp at c
  |true=>
   simp only[↓reduceIte]at c;generalize aA:mp s C.length Z []=a3 at c;let⟨v,S,w⟩:=a3;cases w with
   |false=>simp at c
   |true=>
    simp only[↓reduceIte]at c;by_cases p:pk s v=47
    rotate_left
    .grind
    simp only[G p]at c;cases c
    obtain⟨h,rfl,m,aC,aE,W⟩:=ahe s _ _ _ _ _ L List.nodup_nil (λaM aB=>by cases aB);let⟨D,V⟩:=ahi s _ _ _ _ _ aA p;have a8:bw s (b.H+1+1)=h:=m.sl (s.size+1) Q;have a9:bw s (h+1)=v:=D.sl (s.size+1) Q;have aK:=m.le;have a6:=m.lt;have aL:=D.le;have E:=D.lt;have aN:(s.extract (b.H+1+1) h).size=h-(b.H+1+1):=by rw[lw,yi Q]
    have aO:(s.extract (h+1) v).size=v-(h+1):=by rw[lw,yi Q]
    have V:S.length=0+C.length:=V;obtain⟨d,a⟩:∃d:Dc,d=⟨au s b.H,i,j,f,0,⟨#[]⟩,⟨#[]⟩,false,false,0,iy C,iy S⟩:=⟨_,rfl⟩;refine⟨l,Ll rfl,d,v+1,_,by subst a;rfl,by subst a;rfl,by subst a;rfl,by subst a;rfl,by subst a;rfl,E,?_,.inl ⟨qE,rfl⟩,q.more (L:=[]) Q rfl (xu _).symm (xg.of qE (by rw[a];exact u) (by subst a;rfl) (by subst a;rfl) (by subst a;rfl) (by subst a;rfl) rfl (by rw[a];exact T) (λe=>qE) (λe=>by cases e)<|λ_=>⟨by subst a;rfl,by subst a;rfl,by rw[a,Vv,Vv];omega,by rw[a,Vv];omega,by rw[a];exact aq6 C aC aE⟩) (λy l=>by cases l) (λe=>qE),rfl,E,qE⟩;rw[a];unfold Az;dsimp only;rw[N,N,N,G,a8,a9];have X:=m.eq (b.H+1+1) ((s.extract (b.H+1+1) h).size+1) ah Q;have a0:=D.eq (h+1) ((s.extract (h+1) v).size+1) ah Q;have a1:=m.ok (b.H+1+1) ((s.extract (b.H+1+1) h).size+1) ah;have a2:=D.ok (h+1) ((s.extract (h+1) v).size+1) ah;grind
 rw[Jg t s b _ _ r rfl,N,N,N,N,N]at c;cases c
 obtain⟨d,a⟩:∃d:Dc,d=⟨au s b.H,i,j,f,0,⟨#[]⟩,⟨#[]⟩,false,false,0,⟨#[]⟩,⟨#[]⟩⟩:=⟨_,rfl⟩;refine⟨l,Ll rfl,d,b.H+1,_,by subst a;rfl,by subst a;rfl,by subst a;rfl,by subst a;rfl,by subst a;rfl,F,?_,.inl ⟨by rw[a];exact u,rfl⟩,q.more (L:=[]) Q rfl (xu _).symm (xg.of qE (by rw[a];exact aJ) (by subst a;rfl) (by subst a;rfl) (by subst a;rfl) (by subst a;rfl) rfl (by rw[a];exact T) (λe=>qE) (λe=>qE) (λe=>qE)) (λy l=>by cases l) (λe=>qE),rfl,F,qE⟩;rw[a];unfold Az;dsimp only;rw[N aF,N aG,N aH,N aI];grind
theorem akk(b:br s ws a=false):cq s a p=(a,gi,gi,p,true):=by grind[cq]
def ark(c:pk s a=p)(b:p=58\/p=125):br s ws a=false:=by
 let⟨d,e⟩:=uc c;have:bn ws (au s a)=false:=by
  obtain rfl|rfl:=b
  .rw[show au s a=58 from Q];decide
  rw[show au s a=125 from Q];decide
 simp[br,this]
def aqk(h:br s pm a=true):br s ju a=false/\pk s a≠44/\pk s a≠58/\pk s a≠125/\pk s a≠33:=by
 let⟨c,b⟩:=te.1 h;simp only[bn,pm,yxe,List.any_nil,uz,ra,yzs]at b;have d:au s a=61\/68<=au s a/\au s a<=123:=by
  obtain h|h|h|h|h|h|h|h|h|h|h|h|h|h|h|h|h|h|h|h|h:=b<;>rw[<-h]<;>decide
 rw[fh c];refine⟨?_,Q,Q,Q,Q⟩;cases hd:br s ju a with
 |false=>rfl
 |true=>have:=(adq _).1 (te.1 hd).2;omega
def Zp(s:ag)(rw:ie->ie->Prop)(P:ie)(p r:cj):Prop:=p.bk=-1/\Ho p r/\
 ((pk s p.H=58/\Jn {P with H:=skip s az<|p.H+1,ns:=P.ns++[s.extract (p.H+1)<|skip s az<|p.H+1],gs:=P.gs++[P.cs.length]} r/\skip s az (p.H+1)=r.H/\r.H<=s.size/\p.H<r.H)\/
  (pk s p.H≠58/\pk s p.H≠125/\∃m,Hk s rw P m/\Jn m r/\m.H=r.H/\m.H<=s.size/\P.H<m.H))
theorem ama(E:Ch)(T:s.size<=400){x:cj->cj×Bool}{rw:ie->ie->Prop}(aF:Nh s x rw){a o:cj}{n:ie}(c:iw x s a=(o,true))(F:o.bk=-1)(L:Sep s o.H)(f:Jn n a)(P:n.H=a.H)(M:a.H<s.size)(qa:br s fc a.H=false):Zp s rw n a o:=by
 have U:br s dh a.H=false:=by
  cases y:br s dh a.H with
  |false=>rfl
  |true=>
   let⟨R,S⟩:=te.1 y;rw[te.2 ⟨R,(Ak _).2<|.inl<|(wi _).1 S⟩]at qa;cases qa
 have A:=Qzz s a.H a.bk;unfold iw at c;simp only at c;have hid:∀e:Int,pk s a.H=e->e=58\/e=125->cq s a.H a.bk=(a.H,gi,gi,a.bk,true):=λe t z=>akk<|ark t z
 have V:=akl E (lg:=a.bk) (yyh M) U;generalize aG:cq s a.H a.bk=W at*
 let⟨d,X,Z,B,a0⟩:=W;cases a0 with
 |false=>simp at c
 |true=>
  simp only[↓reduceIte]at c;have fin:∀(g:Nat)(u:Bool),br s ju d=false->pk s d≠44->d<=g->((pk s d=33/\u=true/\g=skip s dh (d+1))\/(pk s d≠33/\u=false/\g=d))->
    lm x s {a with H:=g,bk:=B} (Jz X Z u 0)=(o,true)->pk s a.H≠58->pk s a.H≠125->Zp s rw n a o:=λg u p q b h j k l=>by
   have m:Jn n {a with H:=g,bk:=B}:=⟨f.ye,f.len,f.rel,f.ns,f.gs,f.nm,f.w1,f.w2⟩;have A:a.H<=d:=A;let⟨v,r,w,C,D,H,K,a1,w3,w4,a2,a3,a4,a5,a6,a7,a8,a9⟩:=aw0 E T aF j F L m qE;let⟨aA,aB,i,aC,aD,aH,aI,aE,b⟩:=V rfl r p q;have b:d=skip s dh i:=b;rw[b]at h;exact⟨aA,w,.inr ⟨k,l,H,⟨C,D,aB,i,g,⟨qE,by rw[a1];exact aD,by rw[w3];exact h,(te.1 v).1,Q,aE,a3,a2,w4,a4⟩,a5⟩,a6,a7,a8,a9⟩⟩
  have i:∀e:Int,e=58\/e=125->pk s d≠e->pk s a.H≠e:=λe z q t=>q qE
  by_cases h:pk s d=33
  .rw[G h]at c;let⟨R,S⟩:=uc h;by_cases b:pk s (skip s dh<|d+1)=58
   .grind
   rw[N b]at c;refine fin _ true ?_ Q (bq Q<|Cd s dh<|d+1) (.inl ⟨h,rfl,rfl⟩) c (i _ (.inl rfl) Q) (i _ (.inr rfl) Q);cases hd:br s ju d with
   |false=>rfl
   |true=>have:=(adq _).1 (te.1 hd).2;omega
  rw[N h]at c;by_cases p:pk s d=58
  .rw[G p]at c;by_cases j:d=a.H
   rotate_left
   .grind
   rw[G j]at c;obtain rfl:=j;have b:=hid 58 p<|.inl rfl;injection b with _ b;injection b with _ b;injection b with _ b;injection b with r _;injection c with q k;have k:a.H+1<eg s 8 (a.H+1):=qK k
   subst q;have w:Sep s (eg s 8<|a.H+1):=L;have l:=Vg s 8 (a.H+1) w;let⟨m,D⟩:=Am s 8 (a.H+1) M;refine⟨r▸F,λH K y=>y,.inl ⟨p,?_,l,m,by show _<eg s 8 _;omega⟩⟩;rw[l];exact f.qu (by rw[P];omega) rfl rfl (by rw[lw,yi m];omega)
  rw[N p]at c;have j:br s pm d=true:=by
   by_cases b:br s pm d=true
   .exact b
   unfold lm at c;rw[N b]at c;cases c
  let⟨b,k,l,m,r⟩:=aqk j;exact fin d false b k ah (.inr ⟨h,rfl,rfl⟩) c (i _ (.inl rfl) l)<|i _ (.inr rfl) m
def Hm(rowf:cj->cj×Bool):Prop:=∀p r:cj,rowf p=(r,true)->r.bk=-1->p.bk=-1
theorem ajm(j:s.size<=400){e:cj->cj×Bool}(k:Hm e){g f:cj}{h:Cm}(a:lm e s g h=(f,true))(c:f.bk=-1):g.bk=-1:=by
 unfold lm at a;split at a
 .simp only at a;split at a
  .unfold qr at a;split at a
   .cases a
   simp only at a;generalize d:e _=i at a;let⟨l,m⟩:=i;split at a
   .rename_i b;have b:m=true/\_:=b;rw[b.1]at d;cases a
    have:=k _ l d c;exact this
   cases a
  split at a
  .grind
  split at a
  .cases a;exact c
  split at a
  .injection a with b d;subst b;exact(agr s _ _ _ d j).2.1 c
  grind
 cases a
def al8(f:s.size<=400){d:cj->cj×Bool}(g:Hm d){b e:cj}(a:iw d s b=(e,true))(c:e.bk=-1):b.bk=-1:=by
 unfold iw at a;simp only at a;split at a
 .rename_i h;refine(aap s b.H b.bk h).1 ?_;split at a
  .split at a
   .cases a
   exact ajm f g a c
  split at a
  .split at a
   .injection a with i j;subst i;exact c
   cases a
  exact ajm f g a c
 cases a
def Xm{b:ag}(c:b.size<=400){a:cj->cj×Bool}(e:Hm a):∀f,Hm (rowL' a b f)
 |0,p,r,h,_=>by rw[rowL']at h;cases h
 |f+1,p,r,h,d=>by
  rw[rowL']at h;simp only at h;split at h
  .cases h;exact d
  generalize g:iw a b _=i at h;let⟨l,j⟩:=i;cases j with
  |false=>simp at h
  |true=>
   simp only[↓reduceIte]at h;split at h
   .have k:=Xm c e f _ r h d;have:=al8 c e g k;exact this
   cases h
def aui(h:pk s (skip s dh a)=-1\/br s parts (skip s dh a)=true\/pk s (skip s dh a)=125):Sep s a:=by
 cases d:br s dh a with
 |true=>
  let⟨b,c⟩:=te.1 d;have:=(wi _).1 c;exact .inr<|.inl<|by rw[fh b];omega
 |false=>
  rw[xd d]at h;obtain h|h|h:=h
  .exact .inl h
  .let⟨b,c⟩:=te.1 h;have:=(ads _).1 c;rw[Sep,fh b];omega
  exact .inr<|.inr<|.inr<|.inr h
theorem abb{b:cj}(a:uq s b=true):pk s b.H=125:=by
 unfold uq at a;grind
theorem ahv(qa:Ch){a:ag}(C:a.size<=400){v:cj->cj×Bool}{rw:ie->ie->Prop}(R:Hm v)(a1:Nh a v rw):∀(f:Nat)(j g:cj)(d:ie),rowL' v a f j=(g,true)->g.bk=-1->Jn d j->skip a fc d.H=skip a fc j.H->d.H<=a.size->
  j.bk=-1/\∃b,RowR a (Hk a rw) f d b/\Jn b g/\b.H=g.H/\b.H<=a.size/\d.H<=b.H/\Ho j g
 |0,j,g,d,h,_,_,_,_=>by rw[rowL']at h;cases h
 |f+1,j,g,d,h,F,Z,U,H=>by
  rw[rowL']at h;simp only at h;have S:=Cd a fc d.H;have a2:=si a fc d.H H;have a3:=Mc a fc d.H;unfold RowR;rw[<-U]at h;generalize skip a fc d.H=i at*
  have T:Jn {d with H:=i} {j with H:=i}:=Z.same S rfl rfl;by_cases w:pk a i=-1\/uq a {j with H:=i}=true
  .rw[G w]at h;cases h
   refine⟨F,_,.inl ⟨?_,rfl⟩,T,rfl,a2,S,λn o s=>s⟩;obtain e|e:=w
   .left;obtain q|q:=hb i a.size
    .rw[fh q]at e;omega
    omega
   exact .inr<|abb e
  rw[N w]at h;have V:=(ho<|λe=>w<|.inl e).1;generalize a4:iw v a {j with H:=i}=a5 at h;let⟨c,a6⟩:=a5;cases a6 with
  |false=>simp at h
  |true=>
   simp only[↓reduceIte]at h;by_cases M:pk a (skip a dh c.H)=-1\/br a parts (skip a dh c.H)=true\/uq a {c with H:=skip a dh c.H}=true
   rotate_left
   .grind
   rw[G M]at h;have a7:Sep a c.H:=aui (by
    obtain e|e|e:=M
    .exact .inl e
    .grind
    exact .inr<|.inr<|abb e)
   have W:∀m:ie,Jn m c->m.H=c.H->m.H<=a.size->c.bk=-1/\∃b,RowR a (Hk a rw) f m b/\Jn b g/\b.H=g.H/\b.H<=a.size/\m.H<=b.H/\Ho c g:=λm k e a8=>by
    let⟨t,b,u,l,p,r,P,x⟩:=ahv qa C R a1 f {c with H:=skip a dh c.H} g m h F ⟨k.ye,k.len,k.rel,k.ns,k.gs,k.nm,k.w1,k.w2⟩ (by rw[e];exact(ah9 a _ _).symm) a8;exact⟨t,b,u,l,p,r,P,x⟩
   have y:=Xm C R f _ g h F;have y:c.bk=-1:=y;let⟨X,a0,a9⟩:=ama qa C a1 a4 y a7 T rfl V a3;obtain⟨t,u,l,p,r⟩|⟨t,u,z,l,p,r,P,x⟩:=a9
   .have r:i<c.H:=r;let⟨_,b,A,B,D,E,K,L⟩:=W _ u l qE;refine⟨X,b,.inr<|.inl ⟨t,A⟩,B,D,E,?_,λn o s=>L n o<|a0 n o s⟩;grind
   let⟨_,b,A,B,D,E,K,L⟩:=W z p r P;have x:i<z.H:=x;exact⟨X,b,.inr<|.inr ⟨V,u,t,z,l,p.ye,A⟩,B,D,E,Q,λn o s=>L n o<|a0 n o s⟩
def Ht(s:ag):Nat->ie->ie->Prop
 |0=>λ_ _=>False
 |n+1=>RowR s (Hk s<|Ht s n)<|s.size+1
def ahl{a:ag}(c:a.size<=400):∀n,Hm (Qqf a n)
 |0,p,r,h,_=>by rw[Qqf]at h;cases h
 |n+1,p,r,h,b=>Xm c (ahl c n) (a.size+1) p r h b
def aho(g:Ch){a:ag}(b:a.size<=400):∀n,Nh a (Qqf a n) (Ht a n)
 |0,p,r,P,h,_,_,_,_=>by rw[Qqf]at h;cases h
 |n+1,p,r,P,h,c,d,e,f=>ahv g b (ahl b n) (aho g b n) (a.size+1) p r P h c d (by rw[e]) Q
theorem aer(g:Nat)(f:ag):∀(c:List ft)(a b:Nat),markF f c a=some b->a<=b/\goalF g f ((c.filter λl=> !l.want).map ft.name) ((c.filter λl=> !l.want).map ft.cmd)=(c[b-a]?.map ft.cmd).getD 0
 | [],a,b,h=>by rw[markF]at h;cases h
 |l::r,a,b,h=>by
  rw[markF]at h;split at h
  .rename_i d;cases h
   refine⟨ah,?_⟩;rw[yzv<|by rw[d.1];rfl,vw,vw,goalF,G d.2,xx];rfl
  rename_i d;let⟨k,i⟩:=aer g f r (a+1) b h;refine⟨Q,?_⟩;rw[show b-a=(b-(a+1))+1 from Q,yzb,<-i];cases e:l.want with
  |true=>grind
  |false=>rw[yzv<|by rw[e];rfl,vw,vw,goalF,N λj=>d ⟨e,j⟩]
theorem ac9(c:Nat)(d:ag):∀(a:List ft),(∀l∈a,l.want=false->l.name≠d)->goalF c d ((a.filter λl=> !l.want).map ft.name) ((a.filter λl=> !l.want).map ft.cmd)=c
 | [],_=>rfl
 |l::r,h=>by
  have e:=ac9 c d r λf g=>h f<|xw _ g
  cases b:l.want with
  |true=>grind
  |false=>rw[yzv<|by rw[b];rfl,vw,vw,goalF,N<|h l yxi b];exact e
theorem ah5{f:List Cm}{h:Cm}(g:f[c]?=some h):(setGoal f a b)[c]?=some (if c=a then {h with cn:=b} else h):=by
 grind[setGoal]
theorem aum(a:List Cm)(c b:Nat):(setGoal a c b).length=a.length:=by
 grind[setGoal]
theorem ad7(i:List ft)(s:Nat)(o:ag->Nat)(z:∀l∈i,l.want=true->(l.name.size=0->o l.name=s)/\∀q,markF l.name i 0=some q->o l.name=(i[q]?.map ft.cmd).getD 0):∀(rest:List ft)(p:Nat)(f n:List Cm),(∀l∈rest,l∈i)->joinL i s rest p f=.ok n->
  n.length=f.length/\∀(b:Nat)(d:Cm),f[b]?=some d->∃m,n[b]?=some {d with cn:=m}/\((m=d.cn/\¬∃l∈rest,l.want=true/\l.cmd=b)\/∃l∈rest,l.want=true/\l.cmd=b/\m=o l.name)
 | [],p,f,n,_,h=>by
  rw[joinL]at h;simp_all
 |l::r,p,f,n,hr,h=>by
  have F:∃k,(k=if l.want=true then setGoal f l.cmd (o l.name)else f)/\joinL i s r (p+1) k=.ok n:=by
   rw[joinL]at h;by_cases c:l.name.size=0
   .grind
   rw[N c]at h;cases e:markF l.name i 0 with
   |none=>grind
   |some q=>
    grind
  let⟨k,v,C⟩:=F;let⟨D,A⟩:=ad7 i s o z r (p+1) k n (λd j=>hr d<|xw _ j) C;have E:k.length=f.length:=by rw[v];split;exact aum _ _ _;rfl
  refine⟨D.trans E,λb d j=>?_⟩;by_cases c:l.want=true/\b=l.cmd
  .have w:k[b]?=some {d with cn:=o l.name}:=by rw[v,G c.1,ah5 j,G c.2]
   grind
  have w:k[b]?=some d:=by
   rw[v];split
   .rename_i t;rw[ah5 j,N λu=>c ⟨t,u⟩]
   exact j
  grind
structure Rv(s:ag)(cs:List Cm)(K:ie):Prop where
 s4:s.size<=400
 row:Ht s 7 ⟨0,[],[],[]⟩ K
 ye:Cj K
 le:K.H<=s.size
 len:K.cs.length=cs.length
 rel:∀(k:Nat)(c:Dc)(x:Cm),K.cs[k]?=some c->cs[k]?=some x->xg (λt=>goalF K.cs.length t K.ns K.gs) c x
theorem ate(L:Ch){p:List Cm}(z:s.size<=400)(w:(hq s).2=true)(U:(hq s).1.bk=-1)(C:joinL (hq s).1.bh (hq s).1.U.length (hq s).1.bh 0 (hq s).1.U=.ok p):∃d,Rv s p d:=by
 generalize D:hq s=E at*
 let⟨g,F⟩:=E;have w:F=true:=w;subst w;let⟨_,d,H,i,V,K,W,_⟩:=aho L z 7 _ g ⟨0,[],[],[]⟩ D U ⟨⟨ah,ah,rfl⟩,rfl,λj m b r=>(by cases r),rfl,rfl,λa n=>(by cases n),λa n=>(by cases n),λj b k=>(by cases k)⟩ rfl<|ey _;have M:∀a∈g.bh,a.want=true->(a.name.size=0->goalF d.cs.length a.name d.ns d.gs=g.U.length)/\∀t,markF a.name g.bh 0=some t->goalF d.cs.length a.name d.ns d.gs=(g.bh[t]?.map ft.cmd).getD 0:=λa n x=>by
  rw[i.ns,i.gs];refine⟨λf=>?_,λt c=>(aer _ _ _ 0 t c).2⟩;rw[ac9 _ _ _ λb k e h=>?_]
  .exact i.len
  have:=i.nm b k e;grind
 let⟨A,P⟩:=ad7 g.bh g.U.length (λqa=>goalF d.cs.length qa d.ns d.gs) M g.bh 0 g.U p (λ_ c=>c) C;refine⟨d,z,H,i.ye,K,i.len.trans A.symm,λj m X r u=>?_⟩;obtain⟨b,k⟩:∃b,g.U[j]?=some b:=⟨_,dy qE⟩;let⟨y,R,B⟩:=P j b k;rw[R]at u;cases u
 have e:=i.rel j m b r k;have S:b.R=19->Su m {b with cn:=y}:=λh=>by have c:=e.su h;exact⟨c.L,c.all,c.kr,c.num,c.n9,c.tz,c.tl,c.ok,c.eq⟩
 have x:∀a∈g.bh,a.want=true->a.cmd=j->m.text=a.name/\(b.R=17\/b.R=18):=λa n T h=>by
  let⟨Z,a0,f,l,o,v⟩:=i.w1 a n T;grind
 refine⟨e.kd,e.lt,e.fst,e.snd,e.neg,λh=>?_,e.text,e.tz,λh=>?_,S,e.rows⟩
 .show m.cn=y
  have h:b.R=0:=h;obtain⟨f,_⟩|⟨a,f,l,o,_⟩:=B
  .rw[f];exact e.cn h
  grind
 show goalF _ m.text _ _=y
 obtain⟨_,f⟩|⟨a,f,l,o,v⟩:=B
 .exact cb (i.w2 j b k h) f
 grind
