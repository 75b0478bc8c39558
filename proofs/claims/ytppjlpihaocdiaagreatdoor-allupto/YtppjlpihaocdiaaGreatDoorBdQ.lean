import Derived.Deep.RegionHeldLaw
import Derived.Test.YtppjlpihaocdiaaGreatDoorBbQ
import Derived.Test.YtppjlpihaocdiaaGreatDoorBaQ
set_option linter.all false
set_option maxRecDepth 100000
set_option maxHeartbeats 16000000
namespace Go.Proofs.YtppjlpihaocdiaaGreatDoor
open Go.RowKit Go.Proofs.Tryz
variable{w u v:ae}{a b c d e:Nat}{s t:ag}{x y z:af}{p D:Int}{l:List af}{f:Bool}{g:List Nat}{h:Nat->Prop}{o:Option Addr}{r:List UInt8}{A:Nat->Bool}{B:Nat->Nat->Bool}{C:Nat->Nat->Prop}(i:Nat)(S T:ag)(V X:af)(j k m n:Nat)(Z:Int)(W:ae)
def ac6(a:Fp)(e:Gd a.bc)(l:∀(c:Nat)(f:Nd),a.bc[c]?=some f->Bc f/\(f.R=3->f.num<a.eu/\∃k,f.ba=[k])/\f.lo<=900)(n:a.eu<=1000):∀(N c:Nat),c<N->c<a.bc.length->yj a c
 |0,c,h,_=>Q
 |N+1,c,h,hn=>by
  have hd:=dy hn;let⟨m,q⟩:=e.wf c _ hd;let⟨i,r,s⟩:=l c _ hd;have t:∀d,d<a.bc.length->vx a d:=λd g=>Uk a e.wf (λc f hd=>(l c f hd).1) (d+1) d Q g
  have j:∀d∈a.bc[c].ba,d<a.bc.length/\vx a d/\yj a d:=λd g=>by
   have:=m d g;exact⟨Q,t d Q,ac6 a e l n N d Q Q⟩
  have v:=i.R;obtain b|b|b|b|b|b|b:a.bc[c].R=0\/a.bc[c].R=1\/a.bc[c].R=2\/a.bc[c].R=3\/a.bc[c].R=4\/a.bc[c].R=5\/a.bc[c].R=6:=Q
  .exact Um a c _ hd (.inl b) e.h3
  .exact Um a c _ hd (.inr<|.inl b) e.h3
  .exact Um a c _ hd (.inr<|.inr b) e.h3
  .let⟨p,k,o⟩:=r b;exact ao6 a c _ hd b e.h3 k o (j k<|by rw[o];simp).2.2 i.ba p n
  .exact ao5 a c _ hd b e.h3 j i.ba
  .exact ao7 a c _ hd b e.h3 j i.ba
  have p:=q b;obtain⟨d,g⟩:∃d,a.bc[c].ba[0]?=some d:=by
   cases m:a.bc[c].ba with
   |nil=>exact cb m p
   |cons o u=>exact⟨o,rfl⟩
  exact ao8 a c _ hd b e.h3 d g (j d<|qy g) i s
def aks:ajz:=λf d b c a e=>ac6 f d b c (a+1) a Q e
structure ya(pt:ag):Prop where
 w:iu pt
 z:pt.size<=40
 g:(il pt).1.g=eo pt
 r:(il pt).2<(il pt).1.l.length
def wa(w:ae)(B:Nat)(tv:af)(pt:ag):Prop:=∃tb nb,tv= ab tb 0/\Co w B tb nb (jv pt).1.l (jv pt).1.g (jv pt).2
def Ez(w:ae)(N0 fb:Nat)(pt s:ag):Prop:=∃tb nb kb eb,et w ⟨N0,tb,nb,fb,kb,eb,(jv pt).1.g,(jv pt).2,(jv pt).1.l,s⟩/\(∃v,w.cell? (O fb 4)=some v)/\w.frozen? (O fb 4)=false
def wa.up(g:wa w a x s)(b:Below a w u):wa u a x s:=by
 obtain⟨c,d,e,f⟩:=g;exact⟨c,d,e,f.below b⟩
def wa.mono(h:wa w a x s)(d:a<=b:=by omega):wa w b x s:=by
 obtain⟨i,j,g,c⟩:=h;refine⟨i,j,g,c.c0,c.c1,c.c2,ew c.xm d,ew c.Ao d,λn f hd=>?_,c.Vp,c.ko⟩;obtain⟨k,e,l,m⟩:=c.node n f hd;refine⟨k,e,l,λp v o=>?_⟩;obtain⟨q,r,t,u⟩:=m p v o;exact⟨q,r,ew t d,u⟩
def aeg(b:ya S)(h:wa W j V S)(g:j<=W.heap.size)(i:T.size<=80):
  Calls prog 146 #[V,.string T] W λd f=>∃a,d=.returned (.pointer<|some ⟨a,0,none⟩)/\Ez f W.heap.size a S T/\Below W.heap.size W f:=by
 obtain⟨c,e,rfl,o⟩:=h.mono g;go_call aqh T c e _ _ _ W o i (Qu b.w b.z).2.2.1.wf as d t ⟨a,k,l,rfl,m,n,p,r⟩;exact⟨a,rfl,⟨c,e,k,l,m,⟨_,n⟩,p⟩,r⟩
def Uo(d:ya s):(jv s).1.g<=1000:=by
 have e:=d.w;have h:=d.z;have f:=Ox s 41 ⟨0,0,[]⟩;obtain⟨c,_⟩:=Cy e 41 ⟨0,0,[]⟩ ⟨0,0,[]⟩ ⟨0,0,0,0⟩ rfl rfl ⟨λb a hd=>by simp at hd,λb a hd=>by simp at hd⟩ ⟨λb a hd=>by simp at hd,λb a hd=>by simp at hd⟩ rfl rfl (ey _) (by show s.size-0<41;omega);have g:=c.le;rw[c.H]at g;have i:(jv s).1.g+0<=0+(dz s 41 ⟨0,0,[]⟩).1.H:=f;omega
def Hl(w':ae)(N0:Nat)(r:Option (List<|Int×Int))(e:Ending):Prop:=match r with
 |none=>e=.returned (.tuple #[.slice none 0 0,.bool false])
 |some sp=>∃ob cap,e=.returned (.tuple #[.slice (some ⟨ob,0,none⟩) sp.length cap,.bool true])/\N0<=ob/\rx w' ob sp
def Ub{s:Mf}(x:fj s)(b c:ag)(d f e:Nat)(g:Bool)(h:ae)(a:ya b)(l:Ez h d f b c)(q:e<=c.size):
  Calls prog 147 #[.pointer<|some ⟨f,0,none⟩,.int .i64 e,.bool g] h λp i=>Below d h i/\Ez i d f b c/\Hl i d (Oh s b c e g) p:=by
 obtain⟨t,u,v,w,hF,⟨T,y⟩,z⟩:=l;have n:=Qu a.w a.z;have r:=am2 a.w a.z;have j:=hF.tree.Vp;have hd:=am1 x (s:=c) a.w a.z a.g a.r e q g;go_call aoc ⟨d,t,u,f,v,w,(jv b).1.g,(jv b).2,(jv b).1.l,c⟩ e g T h q hF y z (Uk _ n.2.2.1.wf (λm k hd=>(r m k hd).1) _ (jv b).2 j j) (aks _ n.2.2.1 (λm k hd=>r m k hd) (Uo a) (jv b).2 j) (Uo a)as p i ⟨⟨F,A,H,B⟩,l⟩;refine⟨F,⟨t,u,v,w,A,H,B⟩,?_⟩;obtain⟨rfl,R⟩|⟨C,P,U,S,D,rfl,E,K,L,o,M⟩:=l
 .rw[hd.1 R];exact rfl
 rw[hd.2 P U D K o M];exact⟨C,S,by rw[xv,o],E,L⟩
def Dd.rr(mf:Mf)(x:Wh)(D:Dd):Bool:=
 if x.sort=1 then decide (x.num=D.number)else if x.sort=2 then D.zm else if x.sort=3 then vk mf x.L D.L else true
def Dd.lu(x:Wh)(D:Dd):Dd:=if x.sort=2 then D.last else D
def DQ.part{h:Dw}{i j:Dd}(b:DQ h x w u i x y)(g:DE h w j x y)(c:Below a u v)(f:w.heap.size<=a:=by omega):DQ h x w v i x y:=
 ⟨⟨b.1.row.cw<|c.block _<|ew g.lt f,da b.1.cg λd e=>c.block d<|ew (g.cg.lt d e).2 f,da b.1.op λd e=>c.block d<|ew (g.op.lt d e).2 f,b.1.le,b.1.a1,b.1.a2,b.1.a3⟩,
  c.os.trans b.2.os,c.tape.trans b.2.tape,c.output.trans b.2.output,bq b.2.size c.size,λd e k l m=>(c.block d<|ew e f).trans<|b.2.block d e k l m,b.2.rp⟩
def Tz{b:Option (List<|Int×Int)}{d:Ending}(e:Hl w a b d):∃f c,d=.returned (.tuple #[f,.bool c])/\c=b.isSome:=by
 cases b with
 |none=>exact⟨_,_,e,rfl⟩
 |some i=>
  let⟨j,h,g,_⟩:=e;exact⟨_,_,g,rfl⟩
def au0{n:Mf}(E:fj n)(g:Dw)(b:Dd)(x y i:af)(a:Wh)(h:ae)(m:DE g h b x y)(z:a.sort<=3)(F:a.sort=3->ya a.L/\wa h g.B i a.L)(qa:b.L.size<=80)(a0:a.num<=10000):
  Calls prog 134 #[.pointer<|some ⟨g.b,0,none⟩,.agg #[.int .i64 a.sort,.int .i64 a.num,i]] h λe S=>e=.returned (.bool<|b.rr n a)/\DQ g x h S (b.lu a) x y:=by
 have L:=J E;have D:=J F;clear E F;go_in;have M:a.sort=0\/a.sort=1\/a.sort=2\/a.sort=3:=Q
 obtain e|e|e|e:=M
 .have k:Y (b.rr n a=true/\b.lu a=b):=by rw[Y,Dd.rr,Dd.lu,e];exact⟨rfl,rfl⟩
  rw[e];go_wp2_with (refine ti 3 rfl rfl 175 (.tmp 1) rfl [I ((0:Nat):Int), I a.num,i] rfl ?_;intro l v c f;have r:=c.xc 0;have t:=c.xc 1;have o:=c.xc 2;have d:=J<|m.q.below f;have u:=d.1.xc 8;have p:=d.1.xc 9;clear c f);go_ret;rw[k.1,k.2];exact⟨rfl,d⟩
 .have k:Y (b.rr n a=decide (a.num=b.number)/\b.lu a=b):=by rw[Y,Dd.rr,Dd.lu,e];exact⟨rfl,rfl⟩
  rw[e];have w:Y (∀q:Bool,q=((a.num:Int)==b.number)->q=decide (a.num=b.number)):=λq A=>by
   rw[A];by_cases z:a.num=b.number
   .simp[z]
   rw[hh Q,wu z]
  go_wp2_with (refine ti 3 rfl rfl 175 (.tmp 1) rfl [I ((1:Nat):Int), I a.num,i] rfl ?_;intro l v c f;have r:=c.xc 0;have t:=c.xc 1;have o:=c.xc 2;have d:=J<|m.q.below f;have u:=d.1.xc 8;have p:=d.1.xc 9;clear c f);go_quiet (fail);go_wp21;go_ret;rw[k.1,k.2];exact⟨by rw[<-w.out _ rfl];rfl,d.drewN _⟩
 .have k:Y (b.rr n a=b.zm/\b.lu a=b.last):=by rw[Y,Dd.rr,Dd.lu,e];exact⟨rfl,rfl⟩
  rw[e];go_wp2_with (refine ti 3 rfl rfl 175 (.tmp 1) rfl [I ((2:Nat):Int), I a.num,i] rfl ?_;intro l v c f;have r:=c.xc 0;have t:=c.xc 1;have o:=c.xc 2;have d:=J<|m.q.below f;have u:=d.1.xc 8;have p:=d.1.xc 9;clear c f);have A:=Vi g b x y l d.1;refine A.mono ?_;rintro e q ⟨rfl,B⟩;have w:=J<|d.trans B;clear B A;go_wp21;go_ret;rw[k.1,k.2];exact⟨rfl,w⟩
 have k:Y (b.rr n a=(n a.L b.L 0).isSome/\b.lu a=b):=by rw[Y,Dd.rr,Dd.lu,e];exact⟨rfl,rfl⟩
 obtain⟨A,B⟩:=D e;have C:=J B;rw[e];clear B D;go_wp2_with (refine ti 3 rfl rfl 175 (.tmp 1) rfl [I ((3:Nat):Int), I a.num,i] rfl ?_;intro l v c f;have r:=c.xc 0;have t:=c.xc 1;have o:=c.xc 2;have d:=J<|m.q.below f;have u:=d.1.xc 8;have p:=d.1.xc 9;clear c);have T:=bq m.le<|yyh m.lt;have V:=m.lt;have c:l.drew.cell? (O h.heap.size 2)=some i/\l.drew.cell? (O g.b 9)=some (.string b.L):=⟨o,p⟩;have H:Y (wa l.drew g.B i a.L):=C.up ⟨f.os,f.tape,f.output,f.size,λR Z=>f.block R Q⟩;have B:=J<|d.drewN 1;have W:l.drew.heap.size=h.heap.size+1:=v;clear r t o u p C f d;go_region_held_law (λt=>t.cell? (O h.heap.size 2)=some i/\t.cell? (O g.b 9)=some (.string b.L)) (first|exact c|exact d|exact o)
  (first
  |(go_at_call 146;(go_call aeg a.L b.L i g.B l.drew A H Q qa as e q ⟨P,rfl,hf,j⟩;have w:=J<|B.below j;have p:=J hf;have d:q.cell? (O h.heap.size 2)=some i/\q.cell? (O g.b 9)=some (.string b.L):=⟨(j.cell (p:=O h.heap.size 2)<|by show h.heap.size<_;omega).trans c.1,(j.cell (p:=O g.b 9)<|by show g.b<_;omega).trans c.2⟩;have X:=j.size;clear hf j))
  |(go_at_call 147;(go_call Ub L a.L b.L l.drew.heap.size P 0 true q A p (ey _)as e U ⟨s,_,K⟩;have o:U.cell? (O h.heap.size 2)=some i/\U.cell? (O g.b 9)=some (.string b.L):=⟨(s.cell (p:=O h.heap.size 2)<|by show h.heap.size<_;omega).trans d.1,(s.cell (p:=O g.b 9)<|by show g.b<_;omega).trans d.2⟩;obtain⟨u,f,rfl,r⟩:∃u f,e=.returned (.tuple #[u,.bool f])/\f=(n a.L b.L 0).isSome:=Tz K;have C:=J r;clear K r)))
 have f:=J (w.part m s Q);clear c d o B H p w s;go_wp21;go_ret;rw[k.1,k.2,<-C.out];exact⟨rfl,f⟩
def Fu(w:ae)(B:Nat)(tv:af)(x:Wh):Prop:=x.sort<=3/\x.num<=10000/\(x.sort=3->ya x.L/\wa w B tv x.L)
structure xf(w:ae)(B:Nat)(c:Dc)(ta tb tt:af):Prop where
 one:ta.oneCell'=true/\tb.oneCell'=true/\tt.oneCell'=true
 fst:Fu w B ta c.fst
 snd:Fu w B tb c.snd
 L:c.di=115->ya c.L/\wa w B tt c.L
structure RdC(w:ae)(B rb lb:Nat)(cs:List Dc):Prop where
 ls:∃ao cap,w.cell? (O rb 2)=some (.slice ao cs.length cap)/\(0<cs.length->ao=some (O lb 0))
 H:∀(k:Nat)(c:Dc),cs[k]?=some c->∃ta tb tt,w.rangeAt lb (k*16) (ig c ta tb tt)/\xf w B c ta tb tt
 rl:rb<B
 ll:lb<B
 ye:cs.length<=1000
def DE.opk{i:Dw}{d:Dd}(h:DE i w d x y)(g:y= aa a d.bo.length b)(f:c<d.bo.length):w.cell? (O a c)=some (.bool<|d.bo.getD c false)/\w.frozen? (O a c)=false:=by
 have e:=h.op;rw[g]at e;exact⟨by rw[e.cellAt c Q];simp[ov,List.getD,dy f],e.frozenAt c⟩
def DQ.Ep{m:Dw}{n g:ae}{c:Dd}{i j f:af}{e o:Nat}(a:DQ m i n g c j f)(b:f= aa e c.bo.length o)(k:Nat)(x:Bool):DQ m i n (g.setCell (O e k)<|.bool x) {c with bo:=c.bo.set k x} j f:=by
 have d:bf e g (g.setCell (O e k)<|.bool x):=(bf.refl _ _).setCell _ _;have h:f.ownBlock=some e:=by rw[b];rfl
 have l:=a.1.op;rw[b]at l;have q:=(l.stored k<|.bool x).1;have r:ov (c.bo.set k x)=(ov c.bo).set k (.bool x):=by simp[ov,List.map_set]
 refine a.trans ⟨⟨a.1.row.cw<|d.block _ λb=>a.1.a2<|by rw[b];exact h,mc d a.1.cg<|λb=>a.1.a3 e b h,?_,a.1.le,a.1.a1,a.1.a2,a.1.a3⟩,d.os,d.tape,d.output,yh d.size.symm,λp _ _ _ s=>d.block p<|λb=>s<|by rw[b];exact h,λ_ a=> .inl a⟩;show World.ownsRow _ _ _ 1 f (c.bo.set k x).length (ov<|c.bo.set k x)
 rw[tj,r,b];exact q
def Dd.gz(mf:Mf)(c:Dc)(k:Nat)(D:Dd):Dd×Bool:=
 if c.snd.sort=0 then(D.lu c.fst,D.rr mf c.fst !=c.neg)
 else if D.bo.getD k false=true then
  let D1:=D.lu c.snd
  let st:= !(D.rr mf c.snd)&& !(decide (c.snd.sort=1)&&decide (c.snd.num<=D.number))
  ({D1 with bo:=D1.bo.set k st}, !c.neg)
 else
  let D1:=D.lu c.fst
  if D1.ji=true\/D.rr mf c.fst=false then(D1,c.neg)
  else
   let D2:=if c.snd.sort=2 then D1.last else D1
   let st:= !(decide (c.snd.sort=2)&&D1.zm)&& !(decide (c.snd.sort=1)&&decide (c.snd.num<=D.number))
   ({D2 with bo:=D2.bo.set k st}, !c.neg)
def Dx(c:Dc)(a b d:af):(prog.info? 177).map (·.size)=some (ig c a b d).length:=qF
def Kc:List af:=[.int .u8 0,I 0,I 0,.pointer none,I 0,I 0,.pointer none,.bool false,I 0,.string ⟨#[]⟩,.pointer none,.bool false,.bool false,I 0,.string ⟨#[]⟩,.string ⟨#[]⟩]
def Td:(prog.info? 177).map (λa=>(a.zero,a.size))=some (some<|.agg Kc.toArray,Kc.length):=qF
def Oe(g:Dc)(b c d:af)(a:b.oneCell'=true/\c.oneCell'=true/\d.oneCell'=true):∀f∈ig g b c d,f.oneCell'=true:=by
 intro f e
 simp only[ig,vc,za,or_false]at e;obtain rfl|rfl|rfl|rfl|rfl|rfl|rfl|rfl|rfl|rfl|rfl|rfl|rfl|rfl|rfl|rfl:=e<;>first|rfl|exact a.1|exact a.2.1|exact a.2.2
def Vj(a:Dd):a.last.bo=a.bo/\a.last.number=a.number:=by unfold Dd.last;split<;>exact⟨rfl,rfl⟩
def aif(b:Wh)(a:Dd):(a.lu b).bo=a.bo/\(a.lu b).number=a.number:=by
 unfold Dd.lu;split
 .exact Vj a
 exact⟨rfl,rfl⟩
def auh{i:Mf}(a5:fj i)(j:Dw)(b:Dd)(m r:af)(a8 c:Nat)(B:List Dc)(a:Dc)(k:ae)(x:DE j k b m r)(S:RdC k j.B j.rb a8 B)(F:B[c]?=some a)(aI:b.L.size<=80)(a4:c<b.bo.length)(aS:b.number<=1099511000000):
  Calls prog 91 #[.pointer<|some ⟨j.b,0,none⟩,.int .i64 c] k λe D=>e=.returned (.bool (b.gz i a c).2)/\DQ j m k D (b.gz i a c).1 m r:=by
 let⟨aR,aN,aL,aC⟩:=S.ls;let⟨u,v,y,d,z⟩:=S.H c a F;have P:Y (∀A t H,DQ j m k A b m r->bd A k.heap.size (ig a u v y)->Fu k j.B H t->Calls prog 134 #[.pointer<|some ⟨j.b,0,none⟩,.agg #[.int .i64 t.sort,.int .i64 t.num,H]] A λe D=>e=.returned (.bool<|b.rr i t)/\DQ j m k D (b.lu t) m r/\bd D k.heap.size (ig a u v y)):=λA t H U a9 K=>
  (au0 a5 j b m r H t A U.1 K.1 (λe=>⟨(K.2.2 e).1,(K.2.2 e).2.up<|U.low x⟩) aI K.2.1).mono λe D ⟨w,h⟩=>⟨w,U.trans h,a9.cw<|h.keep x ah<|a9.lt<|by show 0<16;omega⟩
 have a0:=x;have aD:=J d;have aY:=x.xc 0;let⟨a3,aH,e,_,aO⟩:=x.op.form Q
 have L:=J e;have aQ:c<B.length:=by
  obtain e|e:=hb c B.length
  .exact e
  rw[je e]at F;cases F
 have aT:(c:Int)<B.length:=Q
 rw[aC Q]at aL;go_in;go_upto_region 2 with(first
  |(refine gm 5 rfl rfl 177 rfl _ Td ?_;intro aZ l d f)
  |(refine wpList_load_mid rfl 177 (.tmp 18) rfl a8 (c*16) rfl (ig a u v y) _ aD underlying177 rfl (Dx _ _ _ _) ?_)
  |(refine hw rfl 177 (.tmp 5) (.tmp 19) rfl _ rfl (ig a u v y) rfl _ d rfl (Dx _ _ _ _) (Oe _ _ _ _ z.one) ?_;intro X o g))
 have C:=J<|a0.q.below<|Below.bj f g ah;have aU:=o.xc 1;have aV:=o.xc 2;have aW:=o.xc 3;have a6:=o.xc 4;have aJ:=o.xc 5;have aX:=o.xc 6;have a7:=o.xc 7;by_cases T:a.snd.sort=0
 .have aK:((a.snd.sort:Int)==0)=true:=by simp[T]
  have s:Y (b.gz i a c=(b.lu a.fst,b.rr i a.fst !=a.neg)):=G T;have l:=P X.drew a.fst u (C.drewN 1) (o.cw rfl) z.fst;generalize b.rr i a.fst=E at l s;generalize b.lu a.fst=d at l s;go_wp21;go_region_with (go_at_call 134;go_call l;rintro e Z ⟨rfl,p,g⟩;have f:=J p;have n:=g.xc 7;clear p g)
  all_goals
   go_wp21;go_ret;rw[s.out];exact⟨by cases E<;>cases a.neg<;>rfl,f⟩
 have aK:((a.snd.sort:Int)==0)=false:=qB
 have qa:=C.1.xc 13;rw[L.out]at qa;let⟨mo,_⟩:=C.1.opk L a4;have q:Y (b.gz i a c=if b.bo.getD c false=true then({b.lu a.snd with bo:=(b.lu a.snd).bo.set c<|!(b.rr i a.snd)&& !(decide (a.snd.sort=1)&&decide (a.snd.num<=b.number))}, !a.neg)else if(b.lu a.fst).ji=true\/b.rr i a.fst=false then(b.lu a.fst,a.neg)else({(if a.snd.sort=2 then(b.lu a.fst).last else b.lu a.fst)with bo:=(if a.snd.sort=2 then(b.lu a.fst).last else b.lu a.fst).bo.set c<|!(decide (a.snd.sort=2)&&(b.lu a.fst).zm)&& !(decide (a.snd.sort=1)&&decide (a.snd.num<=b.number))}, !a.neg)):=N T;generalize b.bo.getD c false=aB at mo q;go_upto_if 37 with fail
 go_cut [6] (λaM aA=>∃W d,aM=.bool W/\Y (DQ j m k aA d m r)/\Y (bd aA k.heap.size<|ig a u v y)/\Y (d.bo=b.bo/\d.number=b.number)/\Y (b.gz i a c=({d with bo:=d.bo.set c<|W&& !(decide (a.snd.sort=1)&&decide (a.snd.num<=b.number))}, !a.neg)))
 case first=>
  obtain _|_:=aB
  .have l:=P X a.fst u C o z.fst;have n:=J<|aif a.fst b;generalize b.rr i a.fst=E at l q;generalize b.lu a.fst=d at l q n;go_wp21;go_call l;rintro e Z ⟨rfl,p,g⟩;have aE:=p.1.xc 17;have a7:=g.xc 7;have a6:=g.xc 4;have f:=J p;rcases R:d.ji<;>obtain _|_:=E<;>rw[R]at aE
   .go_wp21;go_ret;rw[q.out,N qG,G qD];exact⟨rfl,f⟩
   .have a1:Y (_=_):=q.trans ((N qG).trans<|N<|by simp[R]);have a2:=Vi j d m r Z p.1;by_cases h:a.snd.sort=2
    .have V:((a.snd.sort:Int)==2)=true:=by simp[h]
     go_wp21;go_call a2;rintro e w3 ⟨rfl,M⟩;have aF:=J<|f.trans M;have aG:=g.cw (M.keep a0 ah<|g.lt<|by show 0<16;omega);go_wp21;go_meet;exact⟨_,d.last,rfl,aF,aG,⟨(Vj d).1.trans n.1,(Vj d).2.trans n.2⟩,by rw[Y,a1.out,G h];simp[h]⟩
    have V:((a.snd.sort:Int)==2)=false:=qB
    go_wp21;go_meet;exact⟨_,d,rfl,f,g,n,by rw[Y,a1.out,N h];simp[h]⟩
   all_goals
    go_wp21;go_ret;rw[q.out,N qG,G<|.inl R];exact⟨rfl,f⟩
  have l:=P X a.snd v C o z.snd;have n:=J<|aif a.snd b;generalize b.rr i a.snd=E at l q;generalize b.lu a.snd=d at l q n;go_wp21;go_call l;rintro e Z ⟨rfl,p,g⟩;have f:=J p;go_wp21;go_meet;exact⟨_,d,rfl,f,g,n,q.trans<|G qD⟩
 obtain⟨W,d,rfl,f,g,n,s⟩:=hcut;have M:Y (r= aa a3 d.bo.length aH):=by rw[Y,n.1];exact L
 have a6:=g.xc 4;have aJ:=g.xc 5;have a7:=g.xc 7;have R:=f.1.xc 8;have qa:=f.1.xc 13;obtain⟨mo,aE⟩:=f.1.opk M (by rw[n.1];exact a4);rw[n.2]at R;rw[L.out]at qa;by_cases w:a.snd.sort=1
 .have a1:((a.snd.sort:Int)==1)=true:=by simp[w]
  by_cases h:a.snd.num<=b.number
  .have V:decide (a.snd.num<=b.number)=true:=qK h
   go_wp21;go_quiet (fail);go_wp21;go_ret;rw[s.out];simp only[w,h];exact⟨rfl,by simpa using(f.drewN _).Ep M c _⟩
  go_wp21;go_quiet (fail);go_wp21;go_ret;rw[s.out];simp only[w,h];exact⟨rfl,by simpa using(f.drewN _).Ep M c _⟩
 have a1:((a.snd.sort:Int)==1)=false:=qB
 go_wp21;go_quiet (fail);go_wp21;go_ret;rw[s.out];simp only[w];exact⟨rfl,by simpa using(f.drewN _).Ep M c _⟩
