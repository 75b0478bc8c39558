import Derived.Test.YtppjlpihaocdiaaGreatDoorBnQ
set_option linter.all false
set_option maxRecDepth 100000
set_option maxHeartbeats 16000000
namespace Go.Proofs.YtppjlpihaocdiaaGreatDoor
open Go.RowKit Go.Proofs.Tryz
variable{w u v:ae}{a b c d e:Nat}{s t:ag}{x y z:af}{p D:Int}{l:List af}{f:Bool}{g:List Nat}{h:Nat->Prop}{o:Option Addr}{r:List UInt8}{A:Nat->Bool}{B:Nat->Nat->Bool}{C:Nat->Nat->Prop}(i:Nat)(S T:ag)(V X:af)(j k m n:Nat)(Z:Int)(W:ae)
def eA.up{c:Nat->Nat}(j:eA c w x p)(b:Below w.heap.size w u):eA c u x p:=by
 let⟨e,o,g,a,k,l⟩:=j;refine⟨e,o,g,a,k,λn m=>?_⟩;let⟨i,a,d,f,h⟩:=l n m;exact⟨i,a,d,cell_later b f,cell_later b h⟩
@[reducible] def eB (wb d mb:Nat) (x:Int) (g k n c:Nat) (v:af) (w:ae):Prop:=w.cell? (O wb d)=some (aa g n c)/\w.cell? (O g k)=some v/\w.cell? (O mb 0)=some (I x)/\w.cell? (O mb 1)=some (I 7)
def eB.up{i d g e f h c:Nat}(a:eB i d g p e f h c x w)(b:Below w.heap.size w u):eB i d g p e f h c x u:=⟨cell_later b a.1,cell_later b a.2.1,cell_later b a.2.2.1,cell_later b a.2.2.2⟩
def dH{aC:Mf}{C:Nat->Nat}{a0:List XP}{i f:List af}(B:ZQ aC C w a b [x,y,z] c a0 [ZJ a0,i,f])(aG:f.length=3*i.length)(aK:i.length<=2000000):
  Calls prog 41 #[.pointer<|some ⟨b,0,none⟩] w λq aD=>q=.returned (.bool true)/\Below w.heap.size w aD:=by
 let⟨_,a4,e,_⟩:=B.oo 1 _ rfl;let⟨_,a5,g,_⟩:=B.oo 2 _ rfl;cases a4
 cases a5
 have U:Y (w.ownsRow a 41 1 y i.length i):=e;have E:Y (w.ownsRow a 41 1 z f.length f):=g;have a1:=J λd o=>B.fl 1 d i o Q rfl
 have H:=J λd o=>B.fl 2 d f o Q rfl
 have T:=J B.row;obtain⟨aE,X,rfl⟩:=yq e;clear B e g;go_in;go_wp21;go_loopw [3] (λR wr=>∃d:Nat,d<=i.length/\R=I d/\Y (Below w.heap.size w wr)) (λR _=>i.length-(intOf R).toNat)
 .exact⟨0,ey _,rfl,bp _ _⟩
 obtain⟨d,aJ,rfl,e⟩:=hrel;have aB:=cell_later e<|T.xc 1;by_cases a6:d<i.length
 .let⟨Z,aF,q,_,aH⟩:=U.form Q;cases q
  obtain⟨A,v,rfl,_,aI⟩:=E.form Q;have K:=cell_later e<|T.xc 2;obtain⟨F,g⟩:∃o,i[d]?=some o:=⟨_,dy a6⟩;obtain⟨j,m⟩:∃j,j=d*3:=⟨_,rfl⟩;obtain⟨s,n⟩:∃L,L=j+1:=⟨_,rfl⟩;obtain⟨t,p⟩:∃L,L=j+2:=⟨_,rfl⟩;obtain⟨M,h⟩:∃o,f[j]?=some o:=⟨_,dy Q⟩;obtain⟨P,k⟩:∃o,f[s]?=some o:=⟨_,dy Q⟩;obtain⟨qa,l⟩:∃o,f[t]?=some o:=⟨_,dy Q⟩;have a7:=cell_later e ((U.cellAt d Q).trans g);have a8:=cell_later e ((E.cellAt j Q).trans h);have a9:=cell_later e ((E.cellAt s Q).trans k);have aA:=cell_later e ((E.cellAt t Q).trans l);have D:=J (show eA C w F (-2-(d:Int))/\eA C w M (-2-(d:Int))/\eA C w P (-2-(d:Int))/\eA C w qa (-2-(d:Int))from⟨by have:=a1 d F g;simpa[dP]using this,by have:=H _ _ h;rw[dP,show j/(2*2-1)=d from Q]at this;exact this,by have:=H _ _ k;rw[dP,show s/(2*2-1)=d from Q]at this;exact this,by have:=H _ _ l;rw[dP,show t/(2*2-1)=d from Q]at this;exact this⟩);have aL:(0:Int)<=d:=Q
  have aM:(d:Int)<i.length:=Q
  have aN:IntKind.i64.wrap (3*(d:Int))=(j:Int):=by rw[IntWalk.i64_in _ Q];omega
  have aO:IntKind.i64.wrap ((j:Int)+1)=(s:Int):=by rw[IntWalk.i64_in _ Q];omega
  have w3:IntKind.i64.wrap ((j:Int)+2)=(t:Int):=by rw[IntWalk.i64_in _ Q];omega
  have aP:(j:Int)<f.length:=Q
  have aQ:(s:Int)<f.length:=Q
  have aR:(t:Int)<f.length:=Q
  clear m n p;clear g h k l;go_wp21;have p:=J<|mj wr<|.cells #[I<|-2-(d:Int),I 7] 48;have k:(wr.alloc<|.cells #[I<|-2-(d:Int),I 7] 48).cell? (O wr.heap.size 0)=some (I<|-2-(d:Int)):=by simp[go_sem]
  have l:(wr.alloc<|.cells #[I<|-2-(d:Int),I 7] 48).cell? (O wr.heap.size 1)=some (I 7):=by simp[go_sem]
  generalize wr.alloc (.cells #[I<|-2-(d:Int),I 7] 48)=a2 at p k l;have S:=J<|e.trans<|p.mono e.size;have g:eB b 1 wr.heap.size (-2-(d:Int)) Z (d) i.length X F a2.drew:=⟨(cell_later p aB:),(cell_later p a7:),k,l⟩;have n:=dC<|D.1.up<|ss S;clear k l;go_region_held_law (eB b 1 wr.heap.size (-2-(d:Int)) Z (d) i.length X F) (first|exact g|exact m)
   (first|(go_at_call 63;(go_call n;rintro q W2 ⟨rfl,h⟩;have m:=eB.up g h)))
  have u:=J (show Below wr.heap.size wr W2 from(ss p).trans (h.mono p.size));let⟨_,_,k,l⟩:=m;rename_i r;clear r g n h p S;go_wp21;have S:=J<|e.trans<|u.mono e.size;have g:eB b 2 wr.heap.size (-2-(d:Int)) A j f.length v M W2.drew:=⟨(cell_later u K:),(cell_later u a8:),k,l⟩;have n:=dC<|D.2.1.up<|ss S;go_region_held_law (eB b 2 wr.heap.size (-2-(d:Int)) A j f.length v M) (first|exact g|exact m)
   (first|(go_at_call 63;(go_call n;rintro q V ⟨rfl,h⟩;have m:=eB.up g h)))
  have p:=J (show Below wr.heap.size wr V from(ss u).trans (h.mono u.size));let⟨_,_,k,l⟩:=m;rename_i r;go_wp21;have S:=J<|e.trans<|p.mono e.size;have g:eB b 2 wr.heap.size (-2-(d:Int)) A s f.length v P V.drew:=⟨(cell_later p K:),(cell_later p a9:),k,l⟩;have n:=dC<|D.2.2.1.up<|ss S;go_region_held_law (eB b 2 wr.heap.size (-2-(d:Int)) A s f.length v P) (first|exact g|exact m)
   (first|(go_at_call 63;(go_call n;rintro q W ⟨rfl,h⟩;have m:=eB.up g h)))
  have u:=J (show Below wr.heap.size wr W from(ss p).trans (h.mono p.size));let⟨_,_,k,l⟩:=m;rename_i r;go_wp21;have p:=J<|e.trans<|u.mono e.size;have g:eB b 2 wr.heap.size (-2-(d:Int)) A t f.length v qa W.drew:=⟨(cell_later u K:),(cell_later u aA:),k,l⟩;have n:=dC<|D.2.2.2.up<|ss p;go_region_held_law (eB b 2 wr.heap.size (-2-(d:Int)) A t f.length v qa) (first|exact g|exact m)
   (first|(go_at_call 63;(go_call n;rintro q a3 ⟨rfl,h⟩;have m:=eB.up g h)))
  have S:=J (show Below wr.heap.size wr a3 from(ss u).trans (h.mono u.size));let⟨_,_,k,l⟩:=m;rename_i r;go_wp21;go_roundw
  .exact⟨d+1,Q,qJ,e.trans<|S.mono e.size⟩
  simp[intOf];omega
 go_wp21;go_ret;exact⟨rfl,e⟩
def dE:(prog.info? 48).map (λa=>(a.zero,a.size,a.bytes))=some (some<|.agg #[I 0,I 0],2,16):=qF
def dD:(prog.info? 41).map (λa=>(a.zero,a.size,a.bytes))=some (some<|.slice none 0 0,1,24):=qF
def dJ(x:Int):Nat->List af
 |0=>[]
 |n+1=> I x:: I 7::dJ x n
def dM(a:Int):∀n,(dJ a n).length=n*2
 |0=>rfl
 |n+1=>by rw[dJ,xv,xv,dM a n,Nat.succ_mul]
def dK(a:Int)(b:Nat):∀n,dJ a n++dJ a b=dJ a (n+b)
 |0=>by rw[qo];rfl
 |n+1=>by rw[Nat.succ_add,dJ,dJ,List.cons_append,List.cons_append,dK a b n]
def dL(b:Int):∀(n a:Nat),a<n->(dJ b n)[a*2]?=some (I b)/\(dJ b n)[a*2+1]?=some (I 7)
 |0,a,h=>Q
 |n+1,0,h=>⟨rfl,rfl⟩
 |n+1,a+1,h=>by rw[Nat.succ_mul];exact dL b n a Q
def dN(c:(dJ p a)[b]?=some x):∃d,d<a/\(b=d*2/\x=I p\/b=d*2+1/\x=I 7):=by
 have h:=(jy.1 c).1;rw[dM]at h;let⟨f,g⟩:=dL p a (b/2) Q;refine⟨b/2,Q,?_⟩;obtain e|e:=Nat.mod_two_eq_zero_or_one b
 .rw[show b/2*2=b from Q,c]at f;exact .inl ⟨Q,by cases f;rfl⟩
 rw[show b/2*2+1=b from Q,c]at g;exact .inr ⟨Q,by cases g;rfl⟩
def dO:∀b∈dJ p a,b.oneCell'=true:=λb d=>by
 let⟨e,c⟩:=yxv d;obtain⟨_,_,⟨_,rfl⟩|⟨_,rfl⟩⟩:=dN c<;>rfl
def eA.ow{e:Nat->Nat}{c n:Nat}(b:w.ownsRow c 48 2 x n (dJ p n))(m:n<=13)(o:∀a,c<=a->e a=0):eA e w x p:=by
 obtain⟨g,i,rfl⟩:=yq b;refine⟨g,n,i,rfl,m,λa l=>?_⟩;let⟨d,q,j,k,_⟩:=b.form Q;cases j
 let⟨f,h⟩:=dL p n a l;exact⟨d,rfl,o d k,(b.cellAt (a*2) Q).trans f,(b.cellAt (a*2+1) Q).trans h⟩
def eD{c:Obj}(a:(w.alloc c).grownBy u none):Below w.heap.size w u:=⟨a.os,a.tape,a.output,by have:=a.size;simp at this;omega,λb d=>(a.block b qB qD).trans<|(mj w c).block b d⟩
def eL(e:p=-2-(c:Int))(d:b/(2*a-1)=c):dP a b=p:=by rw[dP,d,e]
def eJ{r:Array Oper}{rest:List Oper}{h:Oper}{d:Act}{l:Exit->Act->ae->Prop}(x:h.guard=none)(s t:Operand)(B:h.op=Op.call {callee:=Callee.builtin Builtin.append,args:=#[s,t],argTypes:=#[41,41]})
   {a m:Nat} (D:d.eval s=.slice o a a) (F:d.eval t= aa w.heap.size m m) (n:o=none->a=0) (u:∀b,o=some b->∀(g:Nat)(j:af),(dJ p a)[g]?=some j->w.cell? (b.add g)=some j) (P:a<=10) (U:0<m/\m<=3)
  (v:∀b e c,Below w.heap.size w c->(∀k:Nat->Nat,(∀i,w.heap.size<=i->k i=0)->eA k c (.slice b (a+m) e) p)->wpList prog r l rest (d.put h.dst<|.slice b (a+m) e) c):wpList prog r l (h::rest) d (w.alloc<|.cells (dJ p m).toArray 48):=by
 let⟨M,z,H,K,L⟩:=yyf dE;refine wpList_append_grows _ x _ _ 41 B 48 M _ 2 16 underlying41 z H K L rfl Q o a a (dJ p a) D (λf=>⟨n f,n f⟩) (dM p a) (λb f g j E=>cell_later (mj w _)<|u b f g j E) _ m m (dJ p m) F (dM p m) (World.news_of_block<|yyb w _) dO Q qH Q ?_;intro R c q y
 obtain⟨b,e,rfl⟩:=yq q;refine v b e c (eD y) λk A=>eA.ow (n:=a+m) (by rw[<-dK];exact q) Q λi C=>A i (by simp at C;omega)
def eK{D:Array Oper}{rest:List Oper}{q:Oper}{k:Act}{x:Exit->Act->ae->Prop}(X:q.guard=none)(H M:Operand)(a1:q.op=Op.call {callee:=Callee.builtin Builtin.append,args:=#[H,M],argTypes:=#[80,80]})
  {C:Mf} {t:Nat->Nat} {F:List XP} {r:List (List af)} {xs:List af} {m L:Option Addr} {o n v g E:Nat} (s:ZQ C t w a b l d F r) (a9:c=1\/c=2) (A:l[c]?=some (.slice L g E)) (j:r[c]?=some xs) (aA:g<=6000005) (a3:k.eval H=.slice L g E) (a7:k.eval M= aa v 1 1) (T:w.heap.size=v) (W:eA t w (.slice m o n) (dP c g))
  (U:∀f h i p,bd i b l->ZQ C p (i.setCell (O b c)<|aa f (g+1) h) a b (l.set c<|aa f (g+1) h) d F (r.set c<|xs++[.slice m o n])->Below a w (i.setCell (O b c)<|aa f (g+1) h)->(∀K B,eA t w K B->eA p (i.setCell (O b c)<|aa f (g+1) h) K B)->wpList prog D x rest (k.put q.dst<|aa f (g+1) h) i):wpList prog D x (q::rest) k (w.alloc<|.cells #[.slice m o n] 41):=by
 let⟨a8,a0,a4,a5,a6⟩:=yyf dD;let⟨_,y,u,_⟩:=s.oo c _ A;rw[j]at y;cases y
 have z:(if c=0 then 24 else 41)=41:=N;rw[z]at u;subst T;let⟨_,_,e⟩:=yq u;cases e
 refine wpList_append_lies _ X _ _ 80 a1 a 41 a8 (.slice none 0 0) 1 24 underlying80 a0 a4 a5 a6 rfl Q _ xs.length xs a3 (u.alloc _) _ 1 1 [.slice m o n] a7 rfl (cell_one_new w _ _) (λaC j=>by simp at j;subst j;rfl) Q qH Q (bq s.ll qD) (w.heap.size+1) qD ?_;intro f h i a2 Z V aB
 let⟨P,p,qa,R,S,_⟩:=s.ad (c:=c) (v':= aa f (xs.length+1) h) Q A j (Gn.grown (mj w _) Z<|by obtain e|e:=V;exact .inl e.symm;exact .inr ⟨f,rfl,Q⟩) (by rw[z];exact a2) λ_=>W
 exact U f h i p P qa R S
def dY{aC:Mf}{S:Nat->Nat}{aG aN aJ k:af}{T:List XP}{l W:List af}(z:ZQ aC S u a b [aG,aN,aJ] c T [ZJ T,l,W])(a7:W.length=3*l.length)(aX:l.length<=2000000)(R:Below u.heap.size u w)(aK:dZ w u.heap.size k):
  Calls prog 59 #[.pointer<|some ⟨b,0,none⟩,k] w λg a0=>g=.returned (.tuple #[])/\XZ aC a b c T.length (l.length+1) u a0:=by
 let⟨b5,aT,b2,b3,b4⟩:=yyf dE;let⟨b6,aU,aZ,b0,b1⟩:=yyf dD;obtain⟨t,C,aD,rfl,Z,aM,E,j⟩:=aK;have M:=J z;have h:=J R;have U:=J a7;have aS:W.length<=6000000:=Q
 clear a7;let⟨_,aE,d,_⟩:=z.oo 1 _ rfl;cases aE
 obtain⟨P,a4,rfl⟩:=yq d;let⟨_,aF,e,_⟩:=z.oo 2 _ rfl;cases aF
 obtain⟨qa,aP,rfl⟩:=yq e;have aB:=cell_later R<|z.row.xc 1;have aL:=z.ll;have aA:=R.size;clear z R d e;go_in;go_wp21;have e:=J<|mj w<|.cells #[I<|-2-(l.length:Int),I 7] 48;have q:(w.alloc<|.cells #[I<|-2-(l.length:Int),I 7] 48).cell? (O w.heap.size 0)=some (I<|-2-(l.length:Int)):=by simp[go_sem]
 have r:(w.alloc<|.cells #[I<|-2-(l.length:Int),I 7] 48).cell? (O w.heap.size 1)=some (I 7):=by simp[go_sem]
 have x:(w.alloc<|.cells #[I<|-2-(l.length:Int),I 7] 48).heap.size=w.heap.size+1:=qD
 have m:Y (∀d,t=some d->∃f,d=(O f 0)/\u.heap.size<=f/\f<w.heap.size/\rx (w.alloc<|.cells #[I<|-2-(l.length:Int),I 7] 48) f aD):=λd g=>by
  let⟨f,g,X,i,n⟩:=j d g;exact⟨f,g,X,i,n.cw<|e.block f i⟩
 have i:=J<|h.trans<|e.mono aA;clear j h aB e;obtain⟨h,e⟩:∃h:Int,h=-2-(l.length:Int):=⟨_,rfl⟩;rw[<-e]at m i q r x|-;obtain⟨o,j⟩:∃o,o=w.heap.size:=⟨_,rfl⟩;rw[<-j]at m q r x aA|-;generalize w.alloc (.cells #[I h,I 7] 48)=aO at m i q r x;have a3:=J e;clear e j;go_loopw [5] (λa1 wr=>∃(e:Nat)(p:List (Int×Int)),e<=C/\a1=I e/\p.length=C/\Y (∀j,j<e->p[j]?=some (h,7))/\wr.cell? (O o 0)=some (I h)/\wr.cell? (O o 1)=some (I 7)/\wr.heap.size=o+1/\Y (Below u.heap.size u wr)/\Y (∀d,t=some d->∃f,d=(O f 0)/\u.heap.size<=f/\f<o/\rx wr f p)) (λa1 _=>C-(intOf a1).toNat)
 .exact⟨0,aD,ey _,rfl,aM,λj a8=>cb a8<|Nat.not_lt_zero _,q,r,x,i,m⟩
 clear q r x i m;obtain⟨e,p,aV,rfl,a9,V,q,r,x,i,m⟩:=hrel;by_cases aW:e<C
 .obtain⟨d,rfl⟩:∃d,t=some d:=by
   cases t with
   |none=>have:=E rfl;omega
   |some d=>exact⟨d,rfl⟩
  obtain⟨f,rfl,B,D,F⟩:=m.out _ rfl;have n:=J F;let⟨P,qa,aH,aI⟩:=F e p[e].1 p[e].2 (dy Q);generalize p[e].1=L at P;generalize p[e].2=a2 at qa;have H:(0:Int)<=e:=Q
  have K:(e:Int)<C:=Q
  clear F;go_wp21;go_roundw
  case rel=>
   have s:bf f wr ((wr.setCell (O f<|e*2)<|I h).setCell (O f<|e*2+1)<|I 7):=xxs.setCell _ _;have v:=s.block o Q;refine⟨e+1,p.set e (h,7),Q,qJ,by rw[tj,a9],λj a8=>?_,(ac 0 v).trans q,(ac 1 v).trans r,s.size.trans x,i.trans ⟨s.os,s.tape,s.output,yh s.size.symm,λy A=>s.block y Q⟩,λd g=>?_⟩
   .by_cases g:e=j
    .subst g;exact zv Q
    rw[xe g];exact V j Q
   cases g
   exact⟨f,rfl,B,D,n.put h 7⟩
  simp[intOf];omega
 obtain rfl:e=C:=Q
 have n:Y (∀d,t=some d->∀(j:Nat)(L:af),(dJ h e)[j]?=some L->wr.cell? (d.add j)=some L):=λd g j L H=>by
  obtain⟨f,rfl,_,_,F⟩:=m.out d g;let⟨y,A,H⟩:=dN H;let⟨P,qa,_⟩:=F y h 7<|V y A;rw[Addr.add_lit,qo];obtain⟨rfl,rfl⟩|⟨rfl,rfl⟩:=H
  .exact P
  exact qa
 have B:Y (∀k∈[Value.slice t e e],eA S wr k h):=λk K=>by
  cases yxh.1 K
  refine⟨t,e,e,rfl,Q,λy A=>?_⟩;cases t with
  |none=>have:=E rfl;omega
  |some d=>
   obtain⟨f,rfl,X,_⟩:=m.out d rfl;let⟨s,d⟩:=dL h e y A;have s:=n _ rfl _ _ s;have d:=n _ rfl _ _ d;rw[Addr.add_lit,qo]at s d;exact⟨f,rfl,M.og f X,s,d⟩
 clear V a9 x m;have a4:=(M.up i ah rfl).row.xc 1;have s:=J<|M.up i ah rfl;have D:=J<|i.mono aL;go_wp2_with (at_builtin;first|((first|refine eJ (m:=1) rfl _ _ rfl rfl rfl E n Z Q ?_|refine eJ (m:=2) rfl _ _ rfl rfl rfl E n Z Q ?_|refine eJ (m:=3) rfl _ _ rfl rfl rfl E n Z Q ?_);intro d aR a0 v a2;replace B:=J (show∀k∈(_::_:List af),eA S a0 k h from List.forall_mem_cons.2 ⟨a2 S λy A=>M.og y<|bq i.size A,λk K=>(B k K).up v⟩);replace i:=J<|i.trans<|v.mono i.size;replace q:=cell_later v q;replace r:=cell_later v r;replace n:=J<|λd g j L H=>cell_later v<|n d g j L H;replace D:=J<|D.trans<|v.mono s.ll;replace s:=J<|s.up v ah rfl;replace a4:=s.row.xc 1;clear v a2)|((first|refine eK (c:=1) rfl _ _ rfl s (.inl rfl) rfl rfl Q rfl rfl qD (by rw[eL a3.out (by have:=U.out;simp;try omega)];exact B _ qD) ?_|refine eK (c:=2) rfl _ _ rfl s (.inr rfl) rfl rfl Q rfl rfl qD (by rw[eL a3.out (by have:=U.out;simp;try omega)];exact B.out _ qD) ?_);intro f aQ b9 b8 v a2 a5 a6;have aB:=v.xc 1;have aH:=v.frozen (k:=1) (by show 1<3;omega);have b7:=v.xc 2;have aI:=v.frozen (k:=2) (by show 2<3;omega);replace B:=J λk K=>a6 k h<|B.out k K;replace D:=J<|D.out.trans a5;replace s:=J (show ZQ _ _ _ _ _ [_,_,_] _ _ [_,_,_] from a2);clear v a2 a5 a6));go_returns;exact⟨rfl,_,T,_,_,_,_,_,s,rfl,qD,by have:=U.out;simp;omega,D⟩
def ar5(k:ae){b c d:Int}{q:Bool}(h:zp s b c d=true):gx (xj s b c d q)/\Dq s (xj s b c d q).U:=by
 have e:(jb s).2.1=0/\uo b c d=true:=by unfold zp at h;simpa using h
 refine⟨alu e.1 e.2,?_⟩;show Dq s (jb s).1
 have a:=e.1;unfold jb at a|-;split at a
 .cases a
 rename_i j;rw[N j];split at a
 .cases a
 rename_i f;rw[N f];split at a
 .cases a
 rename_i g;rw[N g];cases i:joinL (hq s).1.bh (hq s).1.U.length (hq s).1.bh 0 (hq s).1.U with
 |error m=>rw[i]at a;cases a
 |ok l=>exact atd k Q (qK f) (qK g) i
def qZ:(prog.info? 24).map (λa=>(a.zero,a.size,a.bytes))=some (some<|.pointer none,1,8):=qF
def ZQ.KJ{l:Mf}{r k:Nat->Nat}{g:List XP}{q m:List af}(t:ZQ l r w a b [x,y,z] c g [ZJ g,q,m]){h i j:Int}(B:zp s h i j=true)(A:ZZ k (g.length+5) u d e s (xj s h i j f) ⟨#[]⟩ false 0 (fy<|xj s h i j f))(E:XX r k (g.length+5) w u):
  ZQ l k u a b [x,y,z] c g [ZJ g,q,m]/\XP.lv ⟨d,e,s,xj s h i j f,⟨#[]⟩,false,0,fy<|xj s h i j f⟩ l k (g.length+5) u c/\u.ownsRow a 24 1 x g.length (ZJ g):=by
 let⟨n,v⟩:=ar5 u (q:=f) B;have o:=t.oth E ah rfl;let⟨_,D,C,_⟩:=o.oo 0 _ rfl;cases D
 have p:World.ownsRow _ a 24 1 x (ZJ g).length (ZJ g):=C;rw[show(ZJ g).length=g.length from yxr ..]at p;exact⟨o,⟨A,⟨n,v,Ts n,[],rfl,WZ _⟩,ey _⟩,p⟩
def ZQ.mo{h:Mf}{i:Nat->Nat}{j:List XP}{g:List (List af)}(e:ZQ h i w a b l c j g)(k:c<=d):ZQ h i w a b l d j g:=
 ⟨e.og,e.hi,e.wl,e.wo,e.tb,e.row,e.oo,λn o m=>have f:=e.ed n o m;⟨f.1,f.2.1,bq f.2.2 k⟩,e.fl⟩
def ZQ.gr{h:Mf}{i:Nat->Nat}{f:List XP}{j:List (List af)}{k:XP}(d:ZQ h i w a b l c f j)(o:k.lv h i (f.length+5) w c):ZQ h i w a b l c (f++[k]) j:=by
 refine⟨d.og,d.hi,d.wl,d.wo,d.tb,d.row,d.oo,λg p e=>?_,d.fl⟩;by_cases m:g<f.length
 .rw[oq m]at e;exact d.ed g p e
 have n:=(jy.1 e).1;obtain rfl:g=f.length:=by simp at n;omega
 simp at e;subst e;exact o
def KK{K:Mf}(D:fj K){aL:Nat->Nat}{d:List XP}{q U:List af}(p:ZQ K aL w a b [x,y,z] c d [ZJ d,q,U])(a2:U.length=3*q.length)(g s t:Int)(f E:ag)(m n o:Int)(r:Bool)(aA:-9223372036854775808<=s/\s<=9223372036854775807)(aB:-9223372036854775808<=t/\t<=9223372036854775807)(W:f.size<=maxLen)(aF:E.size<=maxLen)(aE:q.length<=2000000)(aR:d.length<=1999999)(aC:c+f.size<=2000000):
  Calls prog 40 #[.pointer<|some ⟨b,0,none⟩,qW g s t f E m n o r] w λe aN=>e=.returned (.bool true)/\∃P a4,XZ K a b (c+f.size) P a4 w aN/\P<=d.length+1/\d.length<=P/\a4<=q.length+1/\(g=1->zp f m n o=true->P=d.length+1):=by
 have Z:=J D;have u:=J<|mj w<|.cells #[I g,I s,I t,.string f,.string E,I m,I n,I o,.bool r] 85;have v:=J a2;have h:=J<|p.up u ah rfl;have k:=J<|u.mono p.ll;have aS:=p.wl;let⟨_,aG,j,_⟩:=h.out.oo 0 _ rfl;cases aG
 have i:World.ownsRow _ a 24 1 x (ZJ d).length (ZJ d):=j;rw[show(ZJ d).length=d.length from yxr ..]at i;let⟨aO,aP,F⟩:=yq i;clear a2 j i;have a8:=h.out.row.xc 0;by_cases a3:g=1
 .subst a3;clear F;have i:=J (arx (i:=d.length+5) Q f m n o r _ W h.out.og h.out.tb);clear p D;unfold qW;go_in;go_wp21;refine i.out.mono ?_;rintro e l H;have R:=J H;clear H i;obtain⟨B,rfl,C⟩|⟨B,a5,S,a7,rfl,C,V⟩:=R.out
  .have j:=J<|h.out.lb v.out k.out (Nat.le_add_right c f.size) C;have a0:=J B;clear B C R h k u;go_wp21;go_ret;exact⟨rfl,_,_,j,Q,Q,Q,λ_ e=>by rw[a0.out]at e;cases e⟩
  let⟨aK,aD,aH,aI,aJ⟩:=yyf qZ;have a0:=J B;have i:=J<|h.KJ B C V;have a6:=J<|k.trans<|h.fr V;have X:=i.1.row.xc 0;have a9:=i.1.row.frozen (k:=0) (by show 0<3;omega);have aQ:a<=l.heap.size:=by have:=i.1.ll;omega
  clear B C V R h k u a8;go_wp2_with (at_builtin;(refine wpList_append_lies _ rfl _ _ 79 rfl a 24 aK (.pointer none) 1 8 underlying79 aD aH aI aJ rfl Q x d.length (ZJ d) rfl (World.ownsRow.alloc (i.2.2) _) (O l.heap.size 0) 1 1 [ab S 0] rfl rfl (cell_one_new l _ _) (λaV H=>by simp at H;subst H;rfl) Q qH Q qB (l.heap.size+1) qD ?_;intro T a1 aU M L A qa;clear qa;have qa:=J (i.1.ad (c:=0) (v':= aa T (d.length+1) a1) Q rfl rfl (Gn.grown (mj l _) L<|by obtain e|e:=A;exact .inl e.symm;exact .inr ⟨T,rfl,Q⟩) (by rw[show(ZJ d).length=d.length from yxr ..];exact M)<|λe=>cb rfl e);have aT:=qa.1.xc 0;have aM:=qa.1.frozen (k:=0) (by show 0<3;omega);clear M L A X a9));go_ret;let⟨X,A,L,_,M⟩:=qa.out.2;have a9:=(A.gr<|M _ i.2.1).mo<|Nat.le_add_right c f.size;have e:ZJ (d++[⟨S,a7,f,xj f m n o r,⟨#[]⟩,false,0,fy<|xj f m n o r⟩])=ZJ d++[ab S 0]:=by simp[ZJ]
  exact⟨rfl,d.length+1,q.length,⟨X,_, aa T (d.length+1) a1,y,z,q,U,(by rw[e];exact a9),qD,rfl,v,a6.trans L⟩,Q,Q,Q,λ_ _=>rfl⟩
 by_cases a6:g=7
 .subst a6;have C:=dF Z f E (w.alloc<|.cells #[I 7,I s,I t,.string f,.string E,I m,I n,I o,.bool r] 85) W aF;clear p D F;unfold qW;go_in;go_wp21;go_call C;rintro e l ⟨aH,rfl,i,B⟩;have S:=dY h v aE B i;go_wp21;go_call S;rintro e V ⟨rfl,X,aD,T,a9,a1,a7,a0,A,L,qa,M,R⟩;have j:=J (show XZ K a b (c+f.size) d.length (q.length+1) w V from⟨X,aD,T,a9,a1,a7,a0,A.mo<|Nat.le_add_right c f.size,L,qa,M,k.trans R⟩);go_wp21;go_ret;exact⟨rfl,_,_,j,Q,Q,Q,λe=>by cases e⟩
 by_cases a7:g=8
 .subst a7;have L:=J W;unfold qW;go_in;go_wp21;go_call dT;rintro e l ⟨rfl,i⟩;have s3:l.cell? (O w.heap.size 3)=some (.string f):=cell_later i (by simp[go_sem]);have H:=J i;go_wp21;go_call eI;rintro e V ⟨rfl,i⟩;have j:=J<|h.lb v k (Nat.le_add_right c f.size)<|H.trans<|i.mono H.size;go_wp21;go_ret;exact⟨rfl,_,_,j,Q,Q,Q,λe=>by cases e⟩
 by_cases L:(2<=g/\g<=6)/\0<d.length
 .have C:=QY Z h v g s t f E m n o r L.1.1 L.1.2 aA aB L.2 Q aC;have S:((d.length:Int)==0)=false:=hh;have aH:(g==1)=false:=qB
  have aI:(g==7)=false:=qB
  have aJ:(g==8)=false:=qB
  have T:decide (g<2)=false:=qB
  have aK:decide (6<g)=false:=qB
  subst F;unfold qW at C|-;go_in;go_wp21;go_call C;rintro e l ⟨rfl,a5,aM,a0,a9,A,aD,a1,i,B,M,qa,R⟩;have j:=J (show XZ K a b (c+f.size) d.length q.length w l from⟨a5,aM,a0,a9,A,aD,a1,i,B,M,qa,k.trans R⟩);go_wp21;go_ret;exact⟨rfl,_,_,j,Q,Q,Q,λe=>cb e a3⟩
 have j:=J<|h.lb v k (Nat.le_add_right c f.size)<|bp _ _;have aH:(g==1)=false:=qB
 have aI:(g==7)=false:=qB
 have aJ:(g==8)=false:=qB
 subst F;unfold qW;by_cases B:d.length=0
 .have S:((d.length:Int)==0)=true:=by rw[B];rfl
  go_in;go_wp21;go_ret;exact⟨rfl,_,_,j,Q⟩
 have S:((d.length:Int)==0)=false:=hh;rcases(Q:g<2\/6<g)with i|i
 .have T:decide (g<2)=true:=qB
  go_in;go_wp21;go_ret;exact⟨rfl,_,_,j,Q⟩
 have T:decide (g<2)=false:=qB
 go_in;go_wp21;go_ret;exact⟨rfl,_,_,j,Q⟩
structure XW where
 kd:Int
 A:Int
 B:Int
 s:ag
 t:ag
 a:Int
 b:Int
 c:Int
 q:Bool
def XW.cs(x:XW):List af:=[I x.kd,I x.A,I x.B,.string x.s,.string x.t,I x.a,I x.b,I x.c,.bool x.q]
def XW.ok(x:XW):Prop:=x.t.size<=maxLen/\(-9223372036854775808<=x.A/\x.A<=9223372036854775807)/\(-9223372036854775808<=x.B/\x.B<=9223372036854775807)
def kJ(f:Nat->XW):Nat->Nat
 |0=>0
 |i+1=>kJ f i+(f i).s.size
def kV(b:Nat->XW):∀(n a:Nat),a<=n->kJ b a<=kJ b n
 |0,a,h=>by rw[Nat.le_zero.1 h];exact ah
 |n+1,a,h=>by
  by_cases c:a=n+1
  .rw[c];exact ah
  exact bq (kV b n a Q)<|Nat.le_add_right _ _
structure kP(w:ae)(ao:Option Addr)(n:Nat)(f:Nat->XW):Prop where
 le:n<=1048576
 sm:kJ f n<=1048576
 ok:∀i,i<n->(f i).ok
 cell:0<n->∃eD g,ao=some ⟨eD,g,(none)⟩/\eD<w.heap.size/\∀i,i<n->∀(k:Nat)(v:af),(f i).cs[k]?=some v->w.cell? ⟨eD,g+i*9+k,(none)⟩=some v
def XQ{mf:Mf}(o:yb w)(i:Obj)(n:bd (w.alloc i) w.heap.size [.slice none 0 0,.slice none 0 0,.slice none 0 0]):ZQ mf (λa=>if a=w.heap.size then 1 else 0) (w.alloc i) w.heap.size w.heap.size [.slice none 0 0,.slice none 0 0,.slice none 0 0] 0 [] [ZJ [],[],[]]:=by
 have h:=mj w i;have m:∀(c:Nat)(g:af),[Value.slice none 0 0,.slice none 0 0,.slice none 0 0][c]?=some g->g=.slice none 0 0/\ [ZJ [],[],[]][c]?=some []:=λc g b=>by
  match c,b with
  |0,b=>cases b;exact⟨rfl,rfl⟩
  |1,b=>cases b;exact⟨rfl,rfl⟩
  |2,b=>cases b;exact⟨rfl,rfl⟩
 refine⟨λa d=>N<|by simp at d;omega,λa d=>?_,qD,G rfl,?_,n,λc g b=>?_,(λq r l=>by simp at l),λc a xs g p f j=>?_⟩
 .by_cases e:a=w.heap.size
  .omega
  exact cb (N e) d
 .refine Tw.keep o (λa d _=>h.block a d) h.size λa d=> .inl ?_
  obtain e|e:=d
  .exact bq h.size e
  by_cases k:a=w.heap.size
  .omega
  exact cb (N k) e
 .obtain⟨rfl,e⟩:=m c g b;exact⟨[],e,yyc _ _ _ 1,λa d=>by cases d⟩
 match c,f with
 |1,f=>cases f;simp at j
 |2,f=>cases f;simp at j
 |c+3,f=>simp at f
def qQ:zp ⟨#[36,33,78,59,80,59,68]⟩ 80 80 99=true:=qF
def KX{p:Mf}(r:fj p)(aF:Nat){g:Nat->XW}(D:kP w o a g)(Z:yb w):
  Calls prog 16 #[.slice o a aF,.bool true] w λi x=>i=.returned (.bool true)/\Below w.heap.size w x:=by
 have R:=J r;have y:=J D;have aV:=D.le;have f:=J<|XQ (mf:=p) Z (.cells #[.slice none 0 0,.slice none 0 0,.slice none 0 0] 82)<|bd.new w [.slice none 0 0,.slice none 0 0,.slice none 0 0] 82;have m:Calls prog 40 #[.pointer<|some ⟨w.heap.size,0,none⟩,qW 1 0 0 ⟨#[36,33,78,59,80,59,68]⟩ ⟨#[]⟩ 80 80 99 false] _ λi x=>i=.returned (.bool true)/\∃e,e<=1/\XZ p w.heap.size w.heap.size 7 1 e _ x:=
  (KK R f rfl 1 0 0 ⟨#[36,33,78,59,80,59,68]⟩ ⟨#[]⟩ 80 80 99 false Q Q qG qG qD qD qG).mono λi x ⟨h,a,e,n,_,_,k,j⟩=>⟨h,e,k,j rfl qQ▸n⟩
 unfold qW at m;have d:=J<|mj w<|.cells #[.slice none 0 0,.slice none 0 0,.slice none 0 0] 82;clear D Z r;go_in;go_wp21;refine m.mono ?_;rintro i aK ⟨rfl,e,aT,a3,u,S,a1,U,a0,T,l,b,r,t,c⟩;have q:Y (XZ p w.heap.size w.heap.size (7+kJ g 0) 1 e w aK):=⟨a3,u,S,a1,U,a0,T,l,b,r,t,d.trans c⟩;have aG:=l.row.xc 0;obtain⟨_,aJ,v,_⟩:=l.oo 0 _ rfl;cases aJ
 obtain⟨aN,aO,s⟩:=yq v;rw[s,show(ZJ u).length=u.length from yxr ..,b]at aG;clear m l c s b f d v t r;go_wp21;go_loopw [6,7] (λaM P wr=>aM=.bool true/\∃(b L e:Nat),b<=a/\L<=1+b/\e<=1+b/\P=.int IntKind.i64 b/\Y (XZ p w.heap.size w.heap.size (7+kJ g b) L e w wr)) (λ_ P _=>a+1-(intOf P).toNat)
 case atStart=>exact⟨rfl,0,1,e,Q,Q,Q,rfl,q⟩
 obtain⟨rfl,b,L,e,aS,aW,aU,rfl,q⟩:=hrel;by_cases E:b<a
 .obtain⟨eD,A,rfl,aH,z⟩:=y.cell Q;obtain⟨a3,u,S,a1,U,a0,T,l,rfl,rfl,B,c⟩:=q;have t:=y.ok b E;have C:=bq (kV g a (b+1) E) y.sm;have X:kJ g (b+1)=kJ g b+(g b).s.size:=rfl;have d:∀(s:Nat)(v:af),(g b).cs[s]?=some v->wr.cell? (O eD<|A+b*9+s)=some v:=λs v aI=>(c.cell (p:=(O eD<|A+b*9+s)) aH).trans (z b E s v aI)
  generalize g b=f at t X d;have a6:wr.cell? (O eD<|A+b*9)=some (I f.kd):=d 0 _ rfl;have a7:=d 1 _ rfl;have a8:=d 2 _ rfl;have a9:=d 3 _ rfl;have aA:=d 4 _ rfl;have aB:=d 5 _ rfl;have aC:=d 6 _ rfl;have aD:=d 7 _ rfl;have aE:=d 8 _ rfl;clear d z;have m:=KK R l B f.kd f.A f.B f.s f.t f.a f.b f.c f.q t.2.1 t.2.2 qH t.1 Q Q Q;unfold qW at m;clear l C B;rcases Qqc (decide (6<f.kd))with W|W
  all_goals
   go_wp21;refine m.mono ?_;rintro i aL ⟨rfl,a4,a2,⟨K,M,z,H,C,F,B,h,n,j,k,d⟩,aP,aQ,aR,_⟩;have a5:Y (XZ p w.heap.size w.heap.size (7+kJ g (b+1)) a4 a2 w aL):=⟨K,M,z,H,C,F,B,by rw[X,<-Nat.add_assoc];exact h,n,j,k,c.trans d⟩;have V:=dH h (by rw[j];exact k) Q;clear m h n j k d a6 a7 a8 a9 aA aB aC aD aE q c;go_wp21;refine V.mono ?_;rintro i w3 ⟨rfl,c⟩;have qa:=J c;clear c V;go_wp21;go_roundw
   case rel=>
    obtain⟨K,M,z,H,C,F,B,h,n,j,k,d⟩:=a5;exact⟨b+1,Q,a4,Q,a2,Q,Q,K,M,z,H,C,F,B,h.up qa ah rfl,n,j,k,d.trans<|qa.mono h.ll⟩
   simp[intOf];omega
 have W:decide ((b:Int)<a)=false:=qB
 obtain⟨_,_,_,_,_,_,_,_,_,_,_,c⟩:=q;have d:=J c;clear c;go_wp21;go_ret;exact⟨rfl,d⟩
def cB{k:Mf}(f:fj k)(b:Nat){j:Nat->XW}(d:kP w o a j)(h:yb w):
  Calls prog 5 #[.slice o a b] w λc l=>c=.returned (.bool true)/\Below w.heap.size w l:=by
 have g:=KX f b d h;go_in;go_wp21;go_call g;rintro c m ⟨rfl,e⟩;have i:=J e;go_wp21;go_ret;exact⟨rfl,i⟩
