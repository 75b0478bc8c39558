import Derived.Test.YtppjlpihaocdiaaGreatDoorAmQ
import Derived.Test.YtppjlpihaocdiaaGreatDoorAuQ
import Derived.Test.YtppjlpihaocdiaaGreatDoorArQ
import Derived.Test.YtppjlpihaocdiaaGreatDoorAsQ
set_option linter.all false
set_option maxRecDepth 100000
set_option maxHeartbeats 16000000
namespace Go.Proofs.YtppjlpihaocdiaaGreatDoor
open Go.RowKit Go.Proofs.Tryz
variable{w u v:ae}{a b c d e:Nat}{s t:ag}{x y z:af}{p D:Int}{l:List af}{f:Bool}{g:List Nat}{h:Nat->Prop}{o:Option Addr}{r:List UInt8}{A:Nat->Bool}{B:Nat->Nat->Bool}{C:Nat->Nat->Prop}(i:Nat)(S T:ag)(V X:af)(j k m n:Nat)(Z:Int)(W:ae)
section
def Lb(p:cj):Prop:=∀x∈p.bh,x.want=true->x.cmd<p.U.length
def Lb.more{a:cj}(e:Lb a){i:Nat}{o:Nat}{lg:Int}{cs:List Cm}(b:a.U.length<=cs.length):Lb ⟨i,o,cs,a.bh,lg⟩:=λf c d=>ew (e f c d) b
section
variable {row:cj->cj×Bool} {s:ag}
def ala(g:∀a,Lb a->(row a).2=true->Lb (row a).1){a:cj}{c:Cm}(j:Lb a)(b:(qr row s a c).2=true):Lb (qr row s a c).1:=by
 unfold qr at*
 split
 .rename_i d;rw[G d]at b;cases b
 rename_i d;rw[N d]at b;simp only at*
 split
 .rename_i e;have:=g _ (j.more (i:=a.H+1) (o:=a.op+1) (lg:=a.bk) (cs:=a.U++[c]) qD) e.1;intro f h i
  have k:=this f h i;show f.cmd<(setGoal _ _ _).length
  rw[Dj];exact k
 rename_i e;rw[N e]at b;cases b
def ajj(i:∀a,Lb a->(row a).2=true->Lb (row a).1){a:cj}{g:Cm}(b:Lb a)(c:(lm row s a g).2=true):Lb (lm row s a g).1:=by
 unfold lm at*
 split
 .rename_i h;rw[G h]at c;simp only at*
  split
  .rename_i f;rw[G f]at c;exact ala i b c
  rename_i f;rw[N f]at c;split
  .rename_i e;rw[G e]at c;split
   .exact b.more qD
   exact b.more qD
  split
  .intro e d k
   show e.cmd<(a.U++[_]).length
   rw[ga,qx];rcases og.1 (show e∈a.bh++[_] from d)with d|d
   .have:=b e d k;omega
   have j:e=⟨s.extract (a.H+1)<|eg s 8<|a.H+1,a.H+1,a.U.length,true⟩:=qK d
   rw[j];show a.U.length<a.U.length+1
   omega
  split
  .exact b.more qD
  split
  .exact b.more qD
  exact b.more qD
 rename_i h;exact b
def al6(j:∀a,Lb a->(row a).2=true->Lb (row a).1){a:cj}(d:Lb a)(b:(iw row s a).2=true):Lb (iw row s a).1:=by
 unfold iw at*
 simp only at*
 split
 .rename_i k;rw[G k]at b;split
  .rename_i f;rw[G f]at b;split
   .exact d.more ah
   rename_i h;rw[N h]at b;exact ajj j (d.more ah) b
  rename_i f;rw[N f]at b;split
  .split
   .intro e c i
    rcases og.1 (show e∈a.bh++[_] from c)with c|c
    .exact d e c i
    have g:e.want=false:=by
     have g:e=⟨s.extract ((cq s a.H a.bk).1+1)<|eg s 8<|(cq s a.H a.bk).1+1,(cq s a.H a.bk).1+1,a.U.length,false⟩:=qK c
     rw[g]
    rw[g]at i;cases i
   exact d.more ah
  rename_i h;rw[N h]at b;exact ajj j (d.more ah) b
 exact d.more ah
def aha(d:∀b,Lb b->(row b).2=true->Lb (row b).1):∀(f:Nat)(b:cj),Lb b->(rowL' row s f b).2=true->Lb (rowL' row s f b).1
 |0,b,h,a=>h
 |f+1,b,h,a=>by
  unfold rowL' at*
  simp only at*
  split
  .exact h.more ah
  rename_i g;rw[N g]at a;have i:Lb {b with H:=skip s fc b.H}:=h.more ah;split
  .rename_i c;rw[G c]at a;have e:=al6 d i c;split
   .rename_i j;rw[G j]at a;exact aha d f _ (e.more ah) a
   exact e.more ah
  rename_i c;rw[N c]at a;exact cb a c
end
def ahm(s:ag):∀(N:Nat)(b:cj),Lb b->(Qqf s N b).2=true->Lb (Qqf s N b).1
 |0,b,h,a=>h
 |N+1,b,h,a=>aha (ahm s N) (s.size+1) b h a
def rf(w:ae)(b n:Nat)(f:List UInt8->Option Nat):Prop:=∃D:DataW Unit,w.ownsMap prog 9 (plainElem prog 3) b n D/\Maps.IsMap D/\∀(k:List UInt8)(zd:DataW Unit),D.atKey (.string k) zd=match f k with
 |none=>zd
 |some m=> .lit<|.int .i64 m
def rf.made:rf (W.alloc<|.map #[] 0) W.heap.size 0 (λ_=>none):=
 ⟨.map [],World.ownsMap_made W prog 9 _,Maps.isMap_empty,λb a=>rfl⟩
def rf.of{c:List UInt8->Option Nat}(j:rf w a b c)(f:u.heap[a]?=w.heap[a]?):rf u a b c:=by
 let⟨d,⟨g,e,h,i,k,l⟩,m,n⟩:=j;exact⟨d,⟨g,e,f.trans h,i,k,l⟩,m,n⟩
def rf.lt{b:ae}{a f:Nat}{d:List UInt8->Option Nat}(e:rf b a f d):a<b.heap.size:=by
 let⟨g,c,_⟩:=e;exact c.lt
def aw7:(zeroValue 3).run prog W=.ok (I 0) W:=by
 exact(zero_of_info (P:=prog) (t:=3) (v:=I 0) (n:=1) qF).1 W
def rf.look{g:List UInt8->Option Nat}(p:rf w a b g)(c:ag)(u:c.size<=maxLen):
  (Instr.lookup 188 (.map<|some a) (.string c) true).run prog w=.ok (match g c.data.toList with|none=> .tuple #[I 0,.bool false]|some e=> .tuple #[I e,.bool true]) w:=by
 obtain⟨y,⟨x,C,v,n,z,rfl⟩,A,j⟩:=p;have q:keyOf prog 9 (.string c)=some (.string c.data.toList):=WideMaps.keyOf_string_mk underlying9 u;obtain⟨i,_,f⟩|⟨B,D,_,_,i,r,f,_⟩:=Maps.fit_look true (Maps.string_keyed underlying9) underlying188 (aw7 w) v n q
 .cases h:g c.data.toList with
  |none=>exact i
  |some e=>
   have d:=j c.data.toList<|.map [];rw[f,h]at d;cases d
 let⟨k,o,l,_⟩:=plainElem_int_inv underlying3 r;cases h:g c.data.toList with
 |none=>
  have d:=j c.data.toList<|.map [];rw[f,h,l]at d;cases d
 |some e=>
  have d:=j c.data.toList<|.map [];rw[f,h,l]at d;have m:(DataW.lit (Lit.int .i64 k):DataW Unit)=.lit (.int .i64 e):=d;have t:k=(e:Int):=by
   generalize(e:Int)=E at m;cases m
   rfl
  rw[i,o,t];rfl
def rf.put{g:ae}{d f m:Nat}{h:List UInt8->Option Nat}(o:rf g d f h)(a:ag)(p:a.size<=maxLen:=by omega)(q:f<maxLen:=by omega)(y:m<=1000000:=by omega):
  ∃c,(Instr.mapUpdate 188 (.map<|some d) (.string a)<|I m).run prog g=.ok () c/\rf c d (f+1) (λb=>if b=a.data.toList then some m else h b)/\g.grownBy c (some d):=by
 let⟨x,r,i,t⟩:=o;have j:keyOf prog 9 (.string a)=some (.string a.data.toList):=WideMaps.keyOf_string_mk underlying9 p;have l:(Lit.int .i64 m).wf=true:=WalkArith.wf_i64 Q;let⟨c,k,n,u⟩:=r.update (Maps.string_keyed underlying9) underlying188 q j<|plainElem_int underlying3 l;refine⟨c,k,⟨_,n,?_,λb v=> ?_⟩,u⟩
 .exact i.put _ _
 simp only;by_cases e:b=a.data.toList
 .subst e;rw[G rfl,Maps.atKey_put_same i (show WideAt.IsKeyLit (.string a.data.toList)from trivial)]
 rw[N e,Maps.atKey_put_other<|λw=>e<|by injection w];exact t b v
end
def aec:∀(f:List ft)(d:Nat)(c:ft)(b:Nat)(e:af),f[d]?=some c-> [Value.string c.name,I c.H,I c.cmd,.bool c.want][b]?=some e->(Bs f)[d*4+b]?=some e
 | [],d,c,b,e,h,_=>by simp at h
 |y::f,0,c,b,e,h,a=>by
  have:y=c:=qK h
  subst this;have g:b<4:=(jy.1 a).1;show([Value.string y.name,I y.H,I y.cmd,.bool y.want]++Bs f)[0*4+b]?=some e
  rw[oq qB,zyh,qo];exact a
 |y::f,d+1,c,b,e,h,a=>by
  show([Value.string y.name,I y.H,I y.cmd,.bool y.want]++Bs f)[(d+1)*4+b]?=some e
  rw[sn qB];have:=aec f d c b e (qK h) a;rw[show(d+1)*4+b- [Value.string y.name,I y.H,I y.cmd,.bool y.want].length=d*4+b from qB];exact this
def Pk(b:ag):∀(a:List ft)(c:Nat),markF b a c=(markF b a 0).map (·+c)
 | [],c=>rfl
 |x::a,c=>by
  unfold markF;split
  .simp
  rw[Pk b a<|c+1,Pk b a<|0+1];cases markF b a 0 with
  |none=>rfl
  |some d=>simp;omega
def aeq(a:ag):∀(c:List ft)(b:ft),markF a (c++[b]) 0=match markF a c 0 with
  |some f=>some f
  |none=>if b.want=false/\b.name=a then some c.length else none
 | [],b=>by simp[markF]
 |y::c,b=>by
  have g:=aeq a c b;unfold markF;rw[List.cons_append];simp only;by_cases d:y.want=false/\y.name=a
  .rw[G d,G d]
  rw[N d,N d,Pk a (c++[b])<|0+1,Pk a c<|0+1,g];cases markF a c 0 with
  |some f=>rfl
  |none=>
   by_cases e:b.want=false/\b.name=a
   .simp[e]
   simp[e]
def aeo(d:ag):∀(c:List ft)(a b:Nat),markF d c a=some b->b<a+c.length/\a<=b
 | [],a,b,h=>by simp[markF]at h
 |x::c,a,b,h=>by
  unfold markF at h;split at h
  .cases h;exact⟨qD,ah⟩
  have:=aeo d c (a+1) b h;rw[xv];omega
def ro(l:List ft)(k:List UInt8):Option Nat:=markF ⟨k.toArray⟩ l 0
def bytes_eta:(⟨S.data.toList.toArray⟩:ag)=S:=by
 apply va;simp
def Vr(a:List ft)(b:ag):ro a b.data.toList=markF b a 0:=by rw[ro,bytes_eta]
def Vt(a:List ft)(b:ft):ro (a++[b])=if markF b.name a 0=none/\b.want=false then(λc=>if c=b.name.data.toList then some a.length else ro a c)else ro a:=by
 funext c;rw[ro,aeq];by_cases e:c=b.name.data.toList
 .subst e;rw[bytes_eta];by_cases d:markF b.name a 0=none/\b.want=false
  .rw[G d,d.1];simp[d.2]
  rw[N d,Vr];cases h:markF b.name a 0 with
  |some f=>rfl
  |none=>
   simp only;rw[if_neg];rintro⟨g,_⟩;exact d ⟨h,g⟩
 have d:¬b.name=⟨c.toArray⟩:=λg=>e<|by rw[g]
 have h:(match markF ⟨c.toArray⟩ a 0 with|some f=>some f|none=>if b.want=false/\b.name=⟨c.toArray⟩then some a.length else none)=ro a c:=by
  rw[ro];cases markF ⟨c.toArray⟩ a 0 with
  |some f=>rfl
  |none=>simp[d]
 rw[h];split
 .simp[e]
 rfl
def Rk.aeb{h:cj}(m:Rk w a s h x (aa b c d)){f:ft}(k:h.bh[e]?=some f)(g:Nat)(j:af)(l: [Value.string f.name,I f.H,I f.cmd,.bool f.want][g]?=some j):w.cell? (O b<|e*4+g)=some j:=by
 have n:c=h.bh.length:=by
  obtain⟨i,_⟩|⟨_,_,_,i,_⟩:=m.wj.2
  .cases i
  cases i;rfl
 subst n;have i:=(jy.1 k).1;have o:g<4:=(jy.1 l).1;rw[m.wj.cellAt (e*4+g) Q];exact aec h.bh e f g j k l
def Rk.aej{e:cj}(g:Rk w a s e x y):(e.bh=[]/\∃h b,y=.slice h 0 b)\/∃c b,y= aa c e.bh.length b/\a<c/\c<w.heap.size:=by
 obtain⟨d,j⟩|⟨f,i,_,d,_⟩:=g.wj.2
 .exact .inl ⟨Ex.1 j,none,0,d⟩
 subst d;have:=g.wj.lt f rfl;exact .inr ⟨f,i,rfl,Q,this.2⟩
def aqu(b:cj)(a0 a3:af)(d:ae)(p:Rk d i S b a0 a3)(aK:b.bh.length<=400)(y:∀c∈b.bh,c.name.size<=400):
  Calls prog 114 #[.pointer<|some ⟨i,0,none⟩] d λs C=>∃u,s=.returned (.map<|some u)/\d.heap.size<=u/\Below d.heap.size d C/\rf C u b.bh.length (ro b.bh):=by
 have K:=p;have aH:=p.lt;have E:=J y;obtain⟨a1,aG,F,rfl⟩|⟨A,F,rfl,aD,aC⟩:=p.aej
 .have H:=λd=>run_makeMap (P:=prog) 188 d
  obtain⟨⟨⟨a5,a6,aB,_,_⟩,aA,L⟩,a7,a8,a9,M,P,qa,_,_,_⟩:=p;have q:Y (rf (d.alloc<|.map #[] 0) d.heap.size b.bh.length<|ro b.bh):=by
   rw[a1];exact rf.made d
  clear y;go_in;go_wp21;go_loopw [14] (λe wr=>e=I 0/\wr=d.alloc (.map #[] 0)) (λ_ _=>0)
  case atStart=>exact⟨rfl,rfl⟩
  obtain⟨rfl,rfl⟩:=hrel;go_wp21;go_ret;exact⟨_,rfl,ah,(bp _ _).alloc ah _,q⟩
 have H:=λd=>run_makeMap (P:=prog) 188 d
 obtain⟨⟨⟨a5,a6,aB,_,_⟩,aA,L⟩,a7,a8,a9,M,P,qa,_,_,_⟩:=p;clear y;go_in;go_wp21;go_loopw [14] (λe wr=>∃a:Nat,e=I a/\a<=b.bh.length/\Y (Below d.heap.size d wr)/\Y (rf wr d.heap.size a<|ro<|b.bh.take a)) (λe _=>b.bh.length-(intOf e).toNat)
 case atStart=>exact⟨0,rfl,ey _,(bp _ _).alloc ah _,rf.made d⟩
 obtain⟨a,rfl,aI,r,q⟩:=hrel;by_cases R:a=b.bh.length
 .subst R;go_wp21;go_ret;refine⟨_,rfl,ah,r.out,?_⟩;have:=q;rw[yzc]at this;exact this
 have T:a<b.bh.length:=Q
 obtain⟨c,h⟩:∃c,b.bh[a]?=some c:=⟨_,dy T⟩;have w:Y (b.bh.take (a+1)=b.bh.take a++[c]):=by rw[Y,yzj,h];rfl
 have aF:=E c<|qy h;have D:c.name.size<=maxLen:=qH
 have f:∀o e,[Value.string c.name,I c.H,I c.cmd,.bool c.want][o]?=some e->wr.cell? (O A<|a*4+o)=some e:=λo e a2=>(r.cell (p:=(O A<|a*4+o)) aC).trans<|K.aeb h o e a2
 have a4:=f 0 _ rfl;have aO:=f 1 _ rfl;have aP:=f 2 _ rfl;have B:=f 3 _ rfl;rw[yzp]at a4;have aL:(0:Int)<=a:=Q
 have aM:(a:Int)<b.bh.length:=Q
 have U:=q.lt;have j:Y (rf (wr.alloc<|.cells #[.string c.name,I c.H,I c.cmd,.bool c.want] 191) d.heap.size a<|ro<|b.bh.take a):=q.of<|im _ _ _ U;have m:Below d.heap.size d (wr.alloc<|.cells #[.string c.name,I c.H,I c.cmd,.bool c.want] 191):=r.alloc r.size _;have g:=j.look c.name D;rw[Vr]at g;have V:Y ((b.bh.take a).length=a):=by rw[Y,yxb];omega
 clear f h;cases h:markF c.name (b.bh.take a) 0 with
 |some aN=>
  rw[h]at g;simp only at g;have n:Y (ro (b.bh.take<|a+1)=ro (b.bh.take a)):=by rw[Y,w.out,Vt,N (λf=>by rw[h]at f;cases f.1)]
  clear h;go_wp21;go_roundw
  case rel=>exact⟨a+1,rfl,Q,m,by rw[Y,n.out];obtain⟨v,x,f⟩:=j;exact⟨v,x.mono Q,f⟩⟩
  simp[intOf];omega
 |none=>
  rw[h]at g;simp only at g;cases l:c.want with
  |true=>
   rw[l]at B g j m;have n:Y (ro (b.bh.take<|a+1)=ro (b.bh.take a)):=by rw[Y,w.out,Vt,N (λf=>by rw[l]at f;cases f.2)]
   clear h l;go_wp21;go_roundw
   case rel=>exact⟨a+1,rfl,Q,m,by rw[Y,n.out];obtain⟨v,x,f⟩:=j;exact⟨v,x.mono Q,f⟩⟩
   simp[intOf];omega
  |false=>
   rw[l]at B g j m;have n:Y (ro (b.bh.take<|a+1)=λt=>if t=c.name.data.toList then some a else ro (b.bh.take a) t):=by rw[Y,w.out,Vt,G ⟨h,l⟩,V.out]
   obtain⟨Z,aE,z,k⟩:=j.put (m:=a) c.name D qH Q;have W:Y (rf Z d.heap.size (a+1)<|ro<|b.bh.take<|a+1):=by rw[Y,n.out];exact z
   have X:=m.trans ⟨k.os,k.tape,k.output,k.size,λt aJ=>k.block t qB (λs=>by injection s with s;omega)⟩;clear h l z k;go_wp21;go_roundw
   case rel=>exact⟨a+1,rfl,Q,X,W⟩
   simp[intOf];omega
def aj6(b:Nat)(s:ag)(p:cj)(cv lv:af)(w:ae)(R:Except Nat (List Cm)):Ending->ae->Prop:=λe w'=>match R with
 | .error i=>e=.returned (.tuple #[.int .i64 i,.bool false])/\Below b w w'
 | .ok cs=>e=.returned (.tuple #[.int .i64 0,.bool true])/\Below b w w'/\Rk w' b s {p with U:=cs} cv lv
def size_empty{x:ag}(a:x.size=0):x.toList.isEmpty=true:=by
 rw[yyn,List.isEmpty_iff];exact Ex.1 a
def Hg{x:ag}(b:¬x.size=0):x.toList.isEmpty=false:=by
 rw[yyn,List.isEmpty_eq_false_iff];intro a
 exact b (by show x.data.toList.length=0;rw[a];rfl)
def ap4(b:cj)(r aE:af)(u:ae)(A:Rk u i S b r aE)(aN:Lb b)(bO:b.bh.length<=400)(c3:b.U.length<=400)(a2:∀a∈b.bh,a.name.size<=400):
  Calls prog 70 #[.pointer<|some ⟨i,0,none⟩] u (aj6 i S b r aE u<|joinL b.bh b.U.length b.bh 0 b.U):=by
 have B:=A;have bM:=A.lt;have aY:=J a2;have aZ:=J aN;have aO:=J<|aqu i S b r aE u A bO a2;generalize c:joinL b.bh b.U.length b.bh 0 b.U=m;have aL:=J c;clear c aN a2;obtain⟨aR,aM,P⟩:∃aR aM,r=.slice aR b.U.length aM:=by
  obtain⟨xs,q,_⟩:=A.own;obtain⟨s,c⟩|⟨e,d,_,s,_⟩:=q.2
  .exact⟨none,0,by rw[s,c]⟩
  exact⟨_,_,s⟩
 obtain⟨bN,c4,n,rfl⟩|⟨k,n,rfl,c0,c1⟩:=A.aej
 .clear A;have w:Y (m=.ok b.U):=by rw[Y,<-aL.out,bN];rfl
  go_in;go_wp2_with fail;go_call aO;rintro s aU ⟨M,rfl,bL,v,c⟩;have qa:=J<|B.tw v.size v.block;obtain⟨⟨⟨aF,aG,aK,_,_⟩,aJ,a3⟩,aH,Z,aI,a4,a5,a6,_,_,_⟩:=qa.out;clear c;go_wp2_with fail;go_loopw [17] (λe wr=>e=I 0/\wr=aU) (λ_ _=>0)
  .exact⟨rfl,rfl⟩
  obtain⟨rfl,rfl⟩:=hrel;go_wp2_with fail;go_returns;exact(by rw[w.out];exact⟨rfl,v.mono Q,qa⟩)
 clear A;go_in;go_wp2_with fail;go_call aO;rintro s aU ⟨M,rfl,bL,v,c⟩;have b0:=J c;have qa:=J<|B.tw v.size v.block;obtain⟨⟨⟨aF,aG,aK,_,_⟩,aJ,a3⟩,aH,Z,aI,a4,a5,a6,_,_,_⟩:=qa.out;clear c;go_wp2_with fail;clear aF aG aK aJ a3 aH Z aI a4 a5 a6;go_loopw [17] (λe wr=>∃(d:Nat)(c:List Cm),e=I d/\d<=b.bh.length/\Y (Rk wr i S {b with U:=c} r<|aa k b.bh.length n)/\Y (Fq i r r (aa k b.bh.length n) (aa k b.bh.length n) u wr)/\Y (rf wr M b.bh.length<|ro b.bh)/\Y (c.length=b.U.length)/\Y (m=joinL b.bh b.U.length (b.bh.drop d) d c)) (λe _=>b.bh.length-(intOf e).toNat)
 .exact⟨0,b.U,rfl,ey _,qa,Fq.mw<|Mw.below v bM,b0,rfl,aL.symm⟩
 obtain⟨d,c,rfl,c6,o,x,p,R,a0⟩:=hrel;have F:=o.lt;by_cases b1:d=b.bh.length
 .subst b1;have w:Y (m=.ok c):=by rw[Y,a0.out,List.drop_length];rfl
  go_wp2_with fail;go_returns;exact(by rw[w.out];exact⟨rfl,x.below B,o⟩)
 have a7:d<b.bh.length:=Q
 obtain⟨a,f⟩:∃a,b.bh[d]?=some a:=⟨_,dy a7⟩;have aW:=R.out;have U:Y (m=if a.name.size=0 then joinL b.bh b.U.length (b.bh.drop<|d+1) (d+1) (if a.want=true then setGoal c a.cmd b.U.length else c)else match markF a.name b.bh 0 with
   |none=> .error a.H
   |some g=>if a.want=false/\g≠d then .error a.H else joinL b.bh b.U.length (b.bh.drop<|d+1) (d+1) (if a.want=true then setGoal c a.cmd ((b.bh[g]?.map ft.cmd).getD 0)else c)):=by
  rw[Y,a0.out,Dn a7,show b.bh[d]=a from by rw[dy a7]at f;exact yyo f];rfl
 have c5:=aY a<|qy f;have b2:a.name.size<=maxLen:=qH
 have aP:a.want=true->a.cmd<c.length:=λK=>by rw[aW];exact aZ a (qy f) K
 have h:∀aC j,b.bh[aC]?=some j->∀X e,[Value.string j.name,I j.H,I j.cmd,.bool j.want][X]?=some e->wr.cell? (O k<|aC*4+X)=some e:=λaC j L X e T=>o.aeb L X e T
 have aV:=J h;have aT:=h d a f 0 _ rfl;have c9:=h d a f 1 _ rfl;have cA:=h d a f 2 _ rfl;have W:=h d a f 3 _ rfl;rw[yzp]at aT;have c2:k<wr.heap.size:=dw wr _ aT
 obtain⟨⟨⟨aF,aG,aK,_,_⟩,aJ,a3⟩,aH,Z,aI,a4,a5,a6,_,_,_⟩:=o.out;have b3:=Z;rw[P]at b3;have b4:=J f;clear h f a0;by_cases V:a.name.size=0
 have aX:=size_empty V;have H:Y (m=joinL b.bh b.U.length (b.bh.drop<|d+1) (d+1) (if a.want=true then setGoal c a.cmd b.U.length else c)):=by rw[Y,U.out,G V]
 clear U;obtain l|l:=df a.want
 have y:Y (m=joinL b.bh b.U.length (b.bh.drop<|d+1) (d+1) (setGoal c a.cmd<|b.U.length)):=by rw[Y,H.out,G l]
 rotate_left
 .rw[l]at W;have y:Y (m=joinL b.bh b.U.length (b.bh.drop<|d+1) (d+1) c):=by rw[Y,H.out,l];rfl
  go_wp2_with fail;go_roundw
  .exact⟨d+1,c,rfl,Q,o.tw qD<|λaD C=>im _ _ _ C,x.trans<|Fq.mw<|(Mw.refl i wr).alloc F _,p.of<|im _ _ _ p.lt,R,y⟩
  simp[intOf];omega
 have aX:=Hg V;have H:Y (m=match markF a.name b.bh 0 with
  |none=> .error a.H
  |some g=>if a.want=false/\g≠d then .error a.H else joinL b.bh b.U.length (b.bh.drop<|d+1) (d+1) (if a.want=true then setGoal c a.cmd ((b.bh[g]?.map ft.cmd).getD 0)else c)):=by rw[Y,U.out,N V]
 clear U;have bH:Y (rf (wr.alloc<|.cells #[.string a.name,I a.H,I a.cmd,.bool a.want] 191) M b.bh.length<|ro b.bh):=p.of<|im _ _ _ p.lt;have D:=bH.look a.name b2;rw[Vr]at D;rcases E:markF a.name b.bh 0 with _|g
 .rw[E]at D;simp only at D;have w:Y (m=.error a.H):=by rw[Y,H.out,E]
  go_wp2_with fail;go_returns;exact(by rw[w.out];exact⟨rfl,(x.trans<|Fq.mw<|(Mw.refl i wr).alloc F _).below B⟩)
 rw[E]at D;simp only at D;have bI:g<b.bh.length:=by have:=aeo a.name b.bh 0 g E;omega
 obtain⟨j,L⟩:∃j,b.bh[g]?=some j:=⟨_,dy bI⟩;have bR:=aV g j L 2 _ rfl;have cC:(0:Int)<=g:=Q
 have cE:(g:Int)<b.bh.length:=Q
 have aB:Y (m=if a.want=false/\g≠d then .error a.H else joinL b.bh b.U.length (b.bh.drop<|d+1) (d+1) (if a.want=true then setGoal c a.cmd j.cmd else c)):=by rw[Y,H.out,E];simp only[L];rfl
 have bJ:=J L;clear H E L;obtain l|l:=df a.want
 have y:Y (m=joinL b.bh b.U.length (b.bh.drop<|d+1) (d+1) (setGoal c a.cmd<|j.cmd)):=by rw[Y,aB.out,N (λK=>by rw[l]at K;cases K.1),G l]
 rotate_left
 .rw[l]at W D;by_cases aQ:g=d
  .subst aQ;obtain rfl:j=a:=by have aS:=b4.out;rw[bJ.out]at aS;exact yyo aS
   clear bR
   have y:Y (m=joinL b.bh b.U.length (b.bh.drop<|g+1) (g+1) c):=by rw[Y,aB.out,N<|λK=>K.2 rfl,l];rfl
   go_wp2_with fail;go_roundw
   .exact⟨g+1,c,rfl,Q,o.tw qD<|λaD C=>im _ _ _ C,x.trans<|Fq.mw<|(Mw.refl i wr).alloc F _,p.of<|im _ _ _ p.lt,R,y⟩
   simp[intOf];omega
  have bK:((g:Int) !=(d:Int))=true:=qB
  have w:Y (m=.error a.H):=by rw[Y,aB.out,G ⟨l,aQ⟩]
  go_wp2_with fail;go_returns;exact(by rw[w.out];exact⟨rfl,(x.trans<|Fq.mw<|(Mw.refl i wr).alloc F _).below B⟩)
 all_goals
  have b5:=aP l;rw[l]at W;(try rw[l]at D)
  obtain⟨f,h,P⟩:∃f h,r= aa f c.length h:=by
   obtain⟨xs,q,_⟩:=o.own;obtain⟨f,h,s,_⟩:=q.form (show 0<c.length from Q);exact⟨f,h,s⟩
  subst P;have z:Rk (wr.alloc<|.cells #[.string a.name,I a.H,I a.cmd,.bool true] 191) i S {b with U:=c} (aa f c.length h) (aa k b.bh.length n):=o.tw qD<|λaD C=>im _ _ _ C;obtain⟨b6,t,_⟩:=z.own;have a1:∃e,(wr.alloc<|.cells #[.string a.name,I a.H,I a.cmd,.bool true] 191).cell? (O f<|a.cmd*23+12)=some e:=by
   rw[t.cellAt (a.cmd*23+12)<|by show a.cmd*23+12<c.length*23;omega];exact⟨_,dy<|by rw[t.1];show a.cmd*23+12<c.length*23;omega⟩
  obtain⟨bZ,b7⟩:=a1;have b8:=t.frozenAt<|a.cmd*23+12;have b9:i+1<=f/\f<u.heap.size:=by obtain⟨xs,q,_⟩:=B.own;exact q.lt f rfl
  have a8:Y (∀(e:Int)(G:Nat),e=(G:Int)->Rk ((wr.alloc<|.cells #[.string a.name,I a.H,I a.cmd,.bool true] 191).setCell (O f<|a.cmd*23+12)<|I e) i S {b with U:=setGoal c a.cmd G} (aa f c.length h) (aa k b.bh.length n)):=λe G T=>z.cn (show a.cmd<c.length from Q) T
  have a9:Y (∀e,rf ((wr.alloc<|.cells #[.string a.name,I a.H,I a.cmd,.bool true] 191).setCell (O f<|a.cmd*23+12) e) M b.bh.length<|ro b.bh):=λe=>p.of (by rw[er _ _ _ _ qC];exact im _ _ _ p.lt)
  have aA:Y (∀e,Fq i (aa f c.length h) (aa f c.length h) (aa k b.bh.length n) (aa k b.bh.length n) u<|(wr.alloc<|.cells #[.string a.name,I a.H,I a.cmd,.bool true] 191).setCell (O f<|a.cmd*23+12) e):=λe=>(x.trans<|Fq.mw<|(Mw.refl i wr).alloc F _).Ya<|.inl rfl
  obtain⟨⟨⟨bS,bT,bY,_,_⟩,bX,bD⟩,bU,bV,bW,bE,bF,bG,_,_,_⟩:=z;clear t;go_wp2_with fail;go_region
  all_goals go_wp2_with fail
  all_goals go_roundw
  all_goals first
   |exact⟨d+1,setGoal c a.cmd _,rfl,Q,(a8 _ _ rfl).tw ah<|λ_ _=>rfl,(aA _).drew,(a9 _).of rfl,by rw[Y,Dj];exact R,y⟩
   |(simp[intOf];omega)
section
def ky(f:Nat->Bool):List af:=(List.range 256).map λk=>Value.bool<|f k
def vg(a:Nat->Bool):(ky a).length=256:=by simp[ky]
def Hx(a:Nat->Bool){k:Nat}(b:k<256:=by omega):(ky a)[k]?=some (.bool<|a k):=by simp[ky,b]
def Sl(f:Nat->Bool)(d:Nat)(e:Bool):(ky f).set d (.bool e)=ky λa=>if a=d then e else f a:=by
 apply yyy;intro a
 by_cases b:a<256
 .rw[Hx _ b];by_cases c:a=d
  .subst c;rw[zv<|by rw[vg];exact b,G rfl]
  rw[xe<|λg=>c g.symm,Hx _ b,N c]
 rw[je<|by rw[tj,vg];omega,je<|by rw[vg];omega]
def aav(c:Nat->Bool):∀b∈ky c,b.oneCell'=true:=by
 intro b a
 simp only[ky,yzg]at a;obtain⟨d,_,rfl⟩:=a;rfl
theorem Nu{b g:Nat->Bool}(d:∀a,a<256->b a=g a):ky b=ky g:=by
 unfold ky;simp_all
def adw:(prog.info? 116).map (λa=>(a.zero,a.size))=some (some<|.agg (ky λ_=>false).toArray,(ky λ_=>false).length):=qF
def He(a:Nat->Bool):(prog.info? 116).map (·.size)=some (ky a).length:=by
 rw[vg];kernel_rfl
def ry(w:ae)(b:Nat):Nat:=match w.cell? (O b 4)with|some (.int _ q)=>q.toNat|_=>0
def Fx(c:w.cell? (O a 4)=some (I b)):ry w a=b:=by simp[ry,c]
def Fr.bj{e wr w':ae}(c:Qql a x y e wr)(d:bf b wr w')(j:e.heap.size<=b:=by omega):Qql a x y e w':=
 ⟨d.os.trans c.os,d.tape.trans c.tape,d.output.trans c.output,by rw[d.size];exact c.size,λf g h i=>(d.block f Q).trans<|c.block f g h i,c.km⟩
def bd.only(e:bd w a l)(d:eh b w u)(c:a≠b:=by omega):bd u a l:=e.cw<|d.block a c
def ad1:(hy S j).1<256:=by
 unfold hy;split
 .have:=Mp<|ms S<|j+1;simp only;omega
 exact ms S j
def ak5:(kf S j).1=(hy S j).1:=by
 unfold kf;split<;>rfl
structure Ac(s:ag)(j:Nat):Prop where
 rn:∃m o a l,run s j=some ⟨m,o,a,l⟩/\4<=m/\m<=7/\(m=4->au s j≠94)/\(au s j=93->m=6\/m=7)
 lt:j<s.size
 n45:au s j≠45
def Ac.Pe(c:iu s)(j:Ac s a)(i:au s a≠93):(hy s a).2<s.size/\(pk s (hy s a).2=45->(hy s a).2+1<s.size/\(hy s<|(hy s a).2+1).2<=s.size):=by
 let⟨⟨t,u,v,w,k,l,x,m,_⟩,n,o⟩:=j;let⟨p,d⟩:=Pf c k n l Q i o m;rw[N]at d;have e:=c.qd d p qD qD;refine⟨e,λb=> ?_⟩;have q:au s (hy s a).2=45:=by rw[fh e]at b;omega
 let⟨_,f⟩:=(Cc c d e).2 q;have g:=c.qd f Q qD qD;have h:=Cc c f g;let⟨r,y⟩:=Pf c f g Q Q (λb=>Q) (λb=>Q) (λb=>Q);exact⟨g,r⟩
def Ac.next(f:iu s)(p:Ac s a)(g:au s a≠93):Ac s (kf s a).2.2:=by
 let⟨⟨u,h,i,v,j,k,l,m,_⟩,n,o⟩:=p;let⟨c,q,r,d,b⟩:=aay f j n k l g o m;have t:=Cc f d c;refine⟨⟨q,h,i,r,d,Q,Q,λe=>Q,λ_=>Q⟩,c,λe=> ?_⟩;have:=(t.2 e).1;obtain b|⟨_,b⟩:=b
 .omega
 rw[fh c]at b;omega
def Ac.first(h:iu s)(g:run s (a+1)=some ⟨4,b,c,d⟩)(p:a<s.size):Ac s (if pk s (a+1)=94 then a+2 else a+1)/\a+1<s.size:=by
 have f:=h.qd g Q qD qD;have j:=Cc h g f;have m:au s (a+1)≠93:=λe=>Q
 have n:au s (a+1)≠45:=λe=>Q
 refine⟨?_,f⟩;split
 .rename_i e;have o:au s (a+1)=94:=by rw[fh f]at e;omega
  have i:run s (a+2)=some ⟨5,b,c,d⟩:=by
   show run s (a+1+1)=_
   rw[lf g,Ml qD qD,o];rfl
  have k:=h.qd i Q qD qD;have l:=Cc h i k;exact⟨⟨5,b,c,d,i,Q,Q,λe=>Q,λe=>Q⟩,k,λe=>Q⟩
 rename_i e;exact⟨⟨4,b,c,d,g,Q,Q,λ_=>Ix f e,λe=>cb e m⟩,f,n⟩
theorem ags(e:Nat->Bool)(c b:Nat)(f:c<=b):(ky λa=>e a||(decide (c<=a)&&decide (a<b))).set b (.bool true)=ky λa=>e a||(decide (c<=a)&&decide (a<b+1)):=by
 rw[Sl];grind
theorem as6(c:Nat->Bool)(d:Bool)(b:Nat):(ky λa=>if a<b then c a !=d else c a).set b (.bool<|c b !=d)=ky λa=>if a<b+1 then c a !=d else c a:=by
 rw[Sl];grind
structure SR(w wr:ae)(b:Nat)(s:ag)(g:Nat)(l:List Nd)(nv:af)(X:Nat->Prop)(j j0:Nat)(S:Nat->Bool):Prop where
 z:bd wr w.heap.size (ky λ_=>false)
 r:bd wr (w.heap.size+1) (ky S)
 d:Dr wr b s ⟨j,g,l⟩ nv (λk=>X k\/w.heap.size<=k)
 fr:Qql b nv nv w wr
def SR.only{c wr j:ae}{a:Nat}{i:ag}{f:Nat}{h:List Nd}{b:af}{e:Nat->Prop}{o l m:Nat}{k:Nat->Bool}(g:SR c wr a i f h b e o m k)(d:eh a wr j)(p:a<c.heap.size)(hd:Dr j a i ⟨l,f,h⟩ b (λn=>e n\/c.heap.size<=n)):SR c j a i f h b e l m k:=
 ⟨bd.only g.z d,bd.only g.r d,hd,g.fr.trans<|eh.fr d b⟩
def SR.put{d wr g:ae}{l:List Nd}{k c:Nat}{m j:Nat->Bool}(f:SR d wr a s b l x h k c m)(e:bf (d.heap.size+1) wr g)(n:bd g (d.heap.size+1) (ky j))(i:a<d.heap.size)(o:x.ownBlock≠some (d.heap.size+1)):SR d g a s b l x h k c j:=
 ⟨f.z.bj e,n,f.d.bj e Q o<|.inr Q,Fr.bj f.fr e⟩
attribute [local go_sem↓] Go.wp_at_zero Go.wp_at_succ
theorem Qzh(r:List Nd)(w:Nat->Prop)(a:ag)(l:af)(m:ae)(V:Dr m i a ⟨j+1,k,r⟩ l w)(a9:iu a)(bE aY aZ:Nat)(aK:run a (j+1)=some ⟨4,bE,aY,aZ⟩)(aJ:j<a.size):
  Calls prog 260 #[.pointer<|some ⟨i,0,none⟩] m λt aX=>t=.returned (.agg (ky (vh a j).2).toArray)/\Dr aX i a ⟨(vh a j).1,k,r⟩ l w/\Qql i l l m aX:=by
 have aL:=V;have aM:=J a9;have y:=V.lt;have bF:=V.li;have aA:Y (l.ownBlock≠some (m.heap.size+1)):=by
  obtain⟨xs,aB,_⟩:=V.own;exact λt=>by have:=(aB.lt _ t).2;omega
 obtain⟨b,bG⟩:=Ac.first a9 aK aJ
 obtain⟨u,z⟩:∃u,u=decide (pk a (j+1)=((94:Nat):Int)):=⟨_,rfl⟩;have h:Y (Ac a<|if u=true then j+2 else j+1):=by
  rw[Y,z];simpa using b
 have g:Y (vh a j=if u=true then((dSetL a (a.size+1) (j+2) dp).1,λc=> !(dSetL a (a.size+1) (j+2) dp).2 c)else dSetL a (a.size+1) (j+1) dp):=by
  rw[Y,z];unfold vh;simp
 have b0:=J z;clear V a9 aK b z;go_in;go_wp2_with (first
  |(refine gm 2 rfl rfl 116 rfl _ adw ?_;intro bH b1 q n)
  |(refine gm 3 rfl rfl 116 rfl _ adw ?_;intro W X f b;rw[b1]at f b X;have Z:=J b;clear b))
 have d:=n.trans (Z.mono Q);have F:Y (SR m W i a k r l w (j+1) (j+1) dp):=⟨q.below Z.out Q,f,(aL.tu _<|λb aC p=>p.elim id<|λp=>Q).grow d,Below.Qqr d l⟩;go_call Iq i ⟨j+1,k,r⟩ _ a l 94 _ F.d as t w3 ⟨rfl,U,rfl⟩;rw[<-b0.out];have M:=F.out.only (eh.drewN (eh.refl i W) U) y<|F.out.d.drewN U;have s:Y (∃o w4,o=(if u=true then j+2 else j+1)/\(w4=if u=true then(W.drewN U).setCell (O i 4) (I<|(j:Int)+1+1)else W.drewN U)):=⟨_,_,rfl,rfl⟩;obtain⟨o,w4,e,a0⟩:=s.out;have bI:=J e;have aD:Y (SR m w4 i a k r l w o o dp):=by
  rw[Y,a0,e];split
  .have:=M.only ((eh.refl i<|W.drewN U).setCell 4 _) y (M.d.ux (v:=(j:Int)+1+1) (j+2) Q Q);exact⟨this.z,this.r,this.d,this.fr⟩
  exact M
 have aN:Y (Ac a o):=by rw[Y,e];exact h.out
 have aO:Y (vh a j=((dSetL a (a.size+1) o dp).1,λc=>(dSetL a (a.size+1) o dp).2 c !=u)):=by
  rw[Y,g.out,e];split
  .grind
  rename_i p;have:u=false:=qK p
  rw[this];generalize dSetL a (a.size+1) (j+1) dp=x;obtain⟨H,C⟩:=x;simp only;congr 1;funext c;cases C c<;>rfl
 have P:=M.d.c4;have a1:=M.d.f4;clear e s g h q f n Z F d;obtain z|z:=df u
 all_goals
  rw[z]at a0|-;have b2:=J z;clear z;simp only[Ax,yyv,if_true]at a0;go_wp21;rw[<-a0];clear a0 P a1;go_loopw [] (λwr=>∃a2 f x,SR m wr i a k r l w a2 o f/\Ac a a2/\a.size<x+a2/\a2<=a.size/\Y (dSetL a (a.size+1) o dp=dSetL a x a2 f)) (λwr=>a.size-ry wr i)
  case atStart=>exact⟨o,dp,a.size+1,aD.out,aN.out,Q,aD.d.le,rfl⟩
  obtain⟨e,f,x,d,a6,bJ,bK,aP⟩:=hrel;have F:=J d;have aQ:=J<|Fx d.d.c4;clear d M aD aN;go_wp21;go_call Iq i ⟨e,k,r⟩ _ a l 93 _ F.d as t bL ⟨rfl,aE,rfl⟩;have qa:=F.out.only (eh.drewN (eh.refl i wr) aE) y<|F.out.d.drewN aE;simp only;by_cases C:pk a e=((93:Nat):Int)
  .have hd:decide (pk a e=((93:Nat):Int))=true:=qK C
   rw[hd];have g:Y (dSetL a (a.size+1) o dp=(e+1,f)):=by
    rw[aP.out,show x=(x-1)+1 from Q,dSetL,G (show pk a e=93 from C)];rfl
   have H:=a6.lt;have P:=qa.d.c4;have a1:=qa.d.f4;clear hd C;have K:=qa.only ((eh.refl i _).setCell 4 _) y (qa.d.ux (v:=(e:Int)+1) (e+1) Q Q);go_wp21;generalize(wr.drewN aE).setCell (O i 4) (I<|(e:Int)+1)=aF at K|-;clear P a1;go_loopw [10] (λq a3=>∃b:Nat,b<=256/\q=I b/\SR m a3 i a k r l w (e+1) o (λc=>if c<b then f c !=u else f c)) (λq _=>256-(intOf q).toNat)
   case atStart=>exact⟨0,Q,rfl,qK K⟩
   obtain⟨b,aC,rfl,h⟩:=hrel;by_cases H:b<256
   .have R:=h.r.cell<|Hx _ H;have aR:=h.r.frozen (k:=b) (by rw[vg];exact H);rw[N<|Nat.lt_irrefl b]at R;have aS:(0:Int)<=b:=Q
    have aT:(b:Int)<256:=Q
    have a4:Y (∀q,q=(f b !=u)->bd (wr.setCell (O (m.heap.size+1) b)<|.bool q) (m.heap.size+1) (ky λc=>if c<b+1 then f c !=u else f c)):=by
     intro q d
     subst d;have:=h.r.put b (by rw[vg];exact H)<|.bool<|f b !=u;rw[as6]at this;exact this
    rcases df (f b)with d|d
    all_goals
     rw[d]at R;have n:=J d;clear d;go_wp21;go_roundw
     case rel=>exact⟨b+1,Q,qJ,h.put xxs (a4.out _<|by simp[n.out,b2.out]) y aA.out⟩
     simp[intOf];omega
   have n:b=256:=Q
   subst n;have aG:Y (bd wr (m.heap.size+1)<|ky (vh a j).2):=by
    have:=h.r;rw[Nu (g:=(vh a j).2) (λc d=>by rw[aO.out,g.out];simp[d])]at this;exact this
   have s:Y ((vh a j).1=e+1):=by rw[Y,aO.out,g.out]
   have v:=h.z;go_wp2_with (first
    |(refine ir 65 rfl rfl 116 (.tmp 3) rfl _ rfl _ _ aG.out underlying116 rfl (He _) ?_)
    |(refine hw rfl 116 (.tmp 2) (.tmp 65) rfl _ rfl _ rfl _ v (by rw[vg,vg]) (He _) (aav _) ?_;intro b3 D d))
   refine wb 2 116 results260 rfl _ rfl _ _ D underlying116 rfl (He _) ⟨rfl,?_,Fr.bj h.fr d ah⟩;rw[s.out];exact(h.d.bj d Q (by
    obtain⟨xs,aB,_⟩:=aL.own;exact λt=>by have:=(aB.lt _ t).2;omega)<|.inr ah).tu _<|λb _ p=> .inl p
  have hd:decide (pk a e=((93:Nat):Int))=false:=qK C
  rw[hd];have H:=a6.lt;have aU:=J<|Ix H C;have b4:=a6.Pe aM.out aU.out;obtain⟨b5,d⟩:=b4;have aG:=J d;have a7:=a6.next aM.out aU.out
  have a8:Y (dSetL a (a.size+1) o dp=dSetL a (x-1) (kf a e).2.2 (kx f (kf a e).1 (kf a e).2.1)):=by
   rw[Y,aP.out,show x=(x-1)+1 from Q,dSetL,N (show ¬pk a e=93 from C)];rfl
  clear hd C d;go_wp21;refine(Qqh i ⟨e,k,r⟩ _ a l _ qa.d H<|λt=> ?_).mono ?_
  .have:(hy a e).2=e+2:=by rw[hy,G (show au a e=92 from t)]
   show e+1<a.size
   omega
  rintro t aF ⟨rfl,d,g⟩;have K:=qa.only g y d;have b6:=J<|ad1 a e;clear d g;go_wp21;go_call Iq i ⟨(hy a e).2,k,r⟩ _ a l 45 _ K.d as t b3 ⟨rfl,aH,rfl⟩;have S:=K.only (eh.drewN (eh.refl i aF) aH) y<|K.d.drewN aH;simp only;have v:Y (∃g aJ n,kf a e=(g,aJ,n)/\g=(hy a e).1):=⟨(kf a e).1,(kf a e).2.1,(kf a e).2.2,rfl,ak5 a e⟩;obtain⟨g,d,n,s,a5⟩:=v.out;have Z:=J s;rw[s]at a7 a8;simp only at a7 a8;have bM:e<n:=by have:=Jy a e;rw[s]at this;exact this
  have bN:g<256:=by rw[a5];exact b6.out
  clear v;by_cases v:pk a (hy a e).2=((45:Nat):Int)
  .have hd:decide (pk a (hy a e).2=((45:Nat):Int))=true:=qK v
   rw[hd];obtain⟨aV,b7⟩:=aG.out v;have D:d=(hy a<|(hy a e).2+1).1/\n=(hy a<|(hy a e).2+1).2:=by
    unfold kf at s;rw[G (show pk a (hy a e).2=45 from v)]at s;cases s
    exact⟨rfl,rfl⟩
   have bO:d<256:=by rw[D.1];exact ad1 _ _
   have P:=S.d.c4;have a1:=S.d.f4;have L:=J D;have b8:=J a5;clear hd v D s a5;generalize A:(hy a e).2=E at S aV b7 L K b5 P|-;have bP:=J A;clear A;have aW:=S.only ((eh.refl i _).setCell 4 _) y (S.d.ux (v:=(E:Int)+1) (E+1) Q Q);go_wp21;refine(Qqh i ⟨E+1,k,r⟩ _ a l _ aW.d aV<|λt=> ?_).mono ?_
   .have:(hy a<|E+1).2=E+1+2:=by rw[hy,G (show au a (E+1)=92 from t)]
    show E+1+1<a.size
    omega
   rintro t b9 ⟨rfl,B,T⟩;have A:Y (SR m b9 i a k r l w n o f):=by
    rw[L.2];exact aW.only T y B
   clear B T P a1;simp only;rw[<-L.1,<-b8.out];go_wp21;go_loopw [9] (λq a3=>∃b:Nat,g<=b/\(b<=d+1\/b=g)/\q=I b/\SR m a3 i a k r l w n o (λc=>f c||(decide (g<=c)&&decide (c<b)))) (λq _=>d+1-(intOf q).toNat)
   case atStart=>exact⟨g,ah,.inr rfl,rfl,by
    have:(λc=>f c||(decide (g<=c)&&decide (c<g)))=f:=by
     funext c;by_cases p:g<=c
     .grind
     simp[p]
    rw[this];exact A.out⟩
   obtain⟨b,T,aC,rfl,h⟩:=hrel;by_cases bA:b<=d
   .have R:=h.r.cell (Hx _ (k:=b) Q);have aR:=h.r.frozen (k:=b) (by rw[vg];omega);have aS:(0:Int)<=b:=Q
    have aT:(b:Int)<256:=Q
    have a4:Y (bd (wr.setCell (O (m.heap.size+1) b)<|.bool true) (m.heap.size+1) (ky λc=>f c||(decide (g<=c)&&decide (c<b+1)))):=by
     have:=h.r.put b (by rw[vg];omega)<|.bool true;rw[ags _ _ _ T]at this;exact this
    generalize aI:(f b||(decide (g<=b)&&decide (b<b)))=bD at R;clear aI;go_wp21;go_roundw
    case rel=>exact⟨b+1,Q,Q,qJ,h.put xxs a4.out y aA.out⟩
    simp[intOf];omega
   have B:Y (SR m wr i a k r l w n o<|kx f g d):=by
    have:kx f g d=(λc=>f c||(decide (g<=c)&&decide (c<b))):=by
     funext c;unfold kx;by_cases p:g<=c
     .grind
     simp[p]
    rw[this];exact h
   clear h;go_wp21;go_roundw
   case rel=>exact⟨n,kx f g d,x-1,B.out,a7,Q,B.d.le,a8.out⟩
   have L:=Fx B.d.c4;have A:=aQ.out;grind
  have hd:decide (pk a (hy a e).2=((45:Nat):Int))=false:=qK v
  rw[hd];have D:d=g/\n=(hy a e).2:=by
   unfold kf at s;rw[N (show ¬pk a (hy a e).2=45 from v)]at s;cases s
   exact⟨rfl,rfl⟩
  have A:Y (SR m (aF.drewN aH) i a k r l w n o f):=by rw[D.2];exact S
  have E:=D.1;subst E;clear hd v D s Z;rw[<-a5];clear a5;go_wp21;go_loopw [9] (λq a3=>∃b:Nat,d<=b/\(b<=d+1\/b=d)/\q=I b/\SR m a3 i a k r l w n o (λc=>f c||(decide (d<=c)&&decide (c<b)))) (λq _=>d+1-(intOf q).toNat)
  case atStart=>exact⟨d,ah,.inr rfl,rfl,by
   have:(λc=>f c||(decide (d<=c)&&decide (c<d)))=f:=by
    funext c;by_cases p:d<=c
    .grind
    simp[p]
   rw[this];exact A.out⟩
  obtain⟨b,T,aC,rfl,h⟩:=hrel;by_cases bA:b<=d
  .have R:=h.r.cell (Hx _ (k:=b) Q);have aR:=h.r.frozen (k:=b) (by rw[vg];omega);have aS:(0:Int)<=b:=Q
   have aT:(b:Int)<256:=Q
   have a4:Y (bd (wr.setCell (O (m.heap.size+1) b)<|.bool true) (m.heap.size+1) (ky λc=>f c||(decide (d<=c)&&decide (c<b+1)))):=by
    have:=h.r.put b (by rw[vg];omega)<|.bool true;rw[ags _ _ _ T]at this;exact this
   generalize aI:(f b||(decide (d<=b)&&decide (b<b)))=bD at R;clear aI;go_wp21;go_roundw
   case rel=>exact⟨b+1,Q,Q,qJ,h.put xxs a4.out y aA.out⟩
   simp[intOf];omega
  have B:Y (SR m wr i a k r l w n o<|kx f d d):=by
   have:kx f d d=(λc=>f c||(decide (d<=c)&&decide (c<b))):=by
    funext c;unfold kx;by_cases p:d<=c
    .grind
    simp[p]
   rw[this];exact h
  clear h;go_wp21;go_roundw
  case rel=>exact⟨n,kx f d d,x-1,B.out,a7,Q,B.d.le,a8.out⟩
  have L:=Fx B.d.c4;have A:=aQ.out;grind
end
section
def Ky(b:Nd)(sv:af):dk b sv=I b.R::(ky b.set++[sv,I b.num,I b.lo,I b.hi]):=rfl
def Vw(b:Nd)(sv:af)(c:Nat):(dk b sv).set 0 (I c)=dk {b with R:=c} sv:=rfl
def Vx(c:Nd)(sv:af)(f:b<256)(e:Bool):(dk c sv).set (b+1) (.bool e)=dk {c with set:=λd=>if d=b then e else c.set d} sv:=by
 rw[Ky,Ky,yyl,List.set_append_left _ _<|by rw[vg];exact f,Sl]
def Po(b:Nd)(sv:af)(c:Nat)(d:af):(dk b sv).set (257+c) d=I b.R::(ky b.set++[sv,I b.num,I b.lo,I b.hi].set c d):=by
 rw[Ky,show 257+c=(256+c)+1 from Q,yyl,yyj _ _<|by rw[vg];omega,vg,show 256+c-256=c from Q]
def ae1(b:Nd)(sv c:af):(dk b sv).set 257 c=dk b c:=Po b sv 0 c
def aq7(b:Nd)(sv:af)(c:Nat):(dk b sv).set 258 (I c)=dk {b with num:=c} sv:=Po b sv 1 _
def ae0(b:Nd)(sv:af)(c:Nat):(dk b sv).set 259 (I c)=dk {b with lo:=c} sv:=Po b sv 2 _
def Kz(b:Nd)(sv:af)(c:Int):(dk b sv).set 260 (I c)=dk {b with hi:=c} sv:=Po b sv 3 _
theorem bd.as4{w:ae}{f:Nd}{sv:af}(g:bd w b (dk f sv))(d:Nat->Bool):bd (w.setCells b 1<|ky d) b (dk {f with set:=d} sv):=by
 have j:w.there b 1 (ky d).length:=λc k=>by
  have:=g.free (1+c) (by rw[vg]at k;rw[gy];omega);grind
 have i:(dk {f with set:=d} sv).length=(dk f sv).length:=by rw[gy,gy]
 refine⟨λc m e=>?_,by rw[i];exact World.there_setCells g.free b 1 _⟩;rw[qo];by_cases l:c=0
 .subst l;rw[yzr b _ _ _ _<|λ_ _=> .inl<|by show 0<1;omega];exact g.cell e
 by_cases n:c<=256
 .have h:=World.rangeAt_setCells_same w b 1 (ky d) j (c-1) m (by
   rw[show c=(c-1)+1 from Q,La _ _]at e;rw[Hx _];exact e)
  grind
 rw[yzr b _ _ _ _<|λ_ _=> .inr<|by show 1+(ky d).length<=c;rw[vg];omega];apply g.cell;rw[show c=257+(c-257)by omega,wl]at e|-;exact e
section
variable {P:Program} {ops:Array Oper} {rest:List Oper} {op:Oper} {a:Act} {w:ae} {K:Exit->Act->ae->Prop}
theorem Re(f:op.dst=some i)(g:op.guard=none)(b:TypeId)(parts:Array (Nat×Operand))(h:op.op=.build b parts)(d:List af)(l:P.built b (parts.toList.map λc=>(c.1,a.eval c.2))=some d.toArray)
  (j:wpList P ops K rest (a.put (some i)<|.agg d.toArray) w):wpList P ops K (op::rest) a w:=by
 refine zyg g λn m=>?_
 have e:P.built b (parts.map λ(k,c)=>(k,a.eval c)).toList=some d.toArray:=by rw[Array.toList_map];exact l
 refine wp_build b parts h (by rw[e];rfl) ?_;grind
theorem aw3(j:op.guard=none)(d:TypeId)(f g:Operand)(m:op.op=.store d f g)(b:Nat)(o:a.eval f= ab b 1)(c:Nat->Bool)(p:a.eval g=.agg (ky c).toArray)(h:Nd)(sv:af)
  (i:bd w b (dk h sv)) (l:(P.info? d).map (·.size)=some (ky c).length)
  (k:∀e,bd e b (dk {h with set:=c} sv)->bf b w e->wpList P ops K rest (a.put op.dst undef) e):wpList P ops K (op::rest) a w:=by
 have q:w.there b 1 (ky c).toArray.size:=λn r=>by
  have:=i.free (1+n) (by simp[vg]at r;rw[gy];omega);grind
 refine wpList_store_mid j d f g m b 1 (ky c).toArray o p q (qK l) (all_oneCell_toArray<|aav c) ?_;have:=k (w.setCells b 1<|ky c) (bd.as4 i c)<|bf.setCells b _ 1 w;simpa using this
end
def Rg:(prog.info? 271).map (λb=>(b.zero,b.size))=some (some<|.agg (dk ⟨0,dp,[],0,0,0⟩<|.slice none 0 0).toArray,(dk ⟨0,dp,[],0,0,0⟩<|.slice none 0 0).length):=qF
def Qjg(b:Nd)(sv:af):(prog.info? 271).map (·.size)=some (dk b sv).length:=by rw[gy];kernel_rfl
def alg:prog.built 271 [(0,I 0)]=some (dk ⟨0,dp,[],0,0,0⟩<|.slice none 0 0).toArray:=qF
def alh:prog.built 271 [(0,I 4)]=some (dk ⟨4,dp,[],0,0,0⟩<|.slice none 0 0).toArray:=qF
def ali:prog.built 271 [(0,I 5)]=some (dk ⟨5,dp,[],0,0,0⟩<|.slice none 0 0).toArray:=qF
def alj(b:Option Addr):prog.built 271 [(0,I 6),(2,.slice b 1 1)]=some (dk ⟨6,dp,[],0,0,0⟩<|.slice b 1 1).toArray:=qF
def Tp(s:ag):∀(f b:Nat)(c:Nat->Bool),b<=(dSetL s f b c).1
 |0,b,c=>ah
 |f+1,b,c=>by
  have d:=Jy s b;rw[dSetL];split
  .simp only;omega
  have:=Tp s f (kf s b).2.2<|kx c (kf s b).1 (kf s b).2.1;omega
def abw(s:ag)(b:Nat):b<(vh s b).1:=by
 unfold vh;split
 .have:=Tp s (s.size+1) (b+2) dp;simp only;omega
 have:=Tp s (s.size+1) (b+1) dp;omega
section
variable {ch:bs->bs×Nat} {s:ag}
def abh(c:∀b,(ch b).1.l.length+2*b.H<=b.l.length+2*(ch b).1.H+2)(b:bs):(ep ch s b).1.l.length+2*b.H+1<=b.l.length+2*(ep ch s b).1.H:=by
 have d:=c ⟨b.H+1,b.g+1,b.l⟩;have e:=abw s b.H;unfold ep;simp only at d|-
 (repeat' split)<;>simp only[cp,ga,xv,List.length_nil]<;>omega
def abi(c:∀b,(ch b).1.l.length+2*b.H<=b.l.length+2*(ch b).1.H+2)(b:bs):(ki ch s b).1.l.length+2*b.H+1<=b.l.length+2*(ki ch s b).1.H:=by
 have d:=abh (s:=s) c b;unfold ki;simp only
 (repeat' split)<;>first|(simp only[cp,ga,xv,List.length_nil];omega)|omega
def Tf(d:∀b,(ch b).1.l.length+2*b.H<=b.l.length+2*(ch b).1.H+2):∀(f:Nat)(b:bs)(c:List Nat),(qs ch s f b c).1.l.length+2*b.H<=b.l.length+2*(qs ch s f b c).1.H+1
 |0,b,c=>by simp only[qs];omega
 |f+1,b,c=>by
  have e:=abi (s:=s) d b;have g:=Tf d f (ki ch s b).1<|c++[(ki ch s b).2];rw[qs];split
  .simp only[cp,ga,xv,List.length_nil];omega
  simp only;omega
def abg(d:∀b,(ch b).1.l.length+2*b.H<=b.l.length+2*(ch b).1.H+2):∀(f:Nat)(b:bs)(c:List Nat),(sw ch s f b c).1.l.length+2*b.H<=b.l.length+2*(sw ch s f b c).1.H+2
 |0,b,c=>by simp only[sw];omega
 |f+1,b,c=>by
  have g:(ip ch s b).1.l.length+2*b.H<=b.l.length+2*(ip ch s b).1.H+1:=Tf d (s.size+1) b [];have e:=abg d f ⟨(ip ch s b).1.H+1,(ip ch s b).1.g,(ip ch s b).1.l⟩<|c++[(ip ch s b).2];rw[sw];simp only at e|-;split
  .omega
  simp only[cp,ga,xv,List.length_nil];omega
end
def If(s:ag):∀(n:Nat)(b:bs),(dz s n b).1.l.length+2*b.H<=b.l.length+2*(dz s n b).1.H+2
 |0,b=>by simp only[dz];omega
 |n+1,b=>abg (If s n) _ _ _
section
variable {ch:bs->bs×Nat} {s:ag}
def aoy(c:∀b,(ch b).1.g+b.H<=b.g+(ch b).1.H)(b:bs):(ep ch s b).1.g+b.H<=b.g+(ep ch s b).1.H:=by
 have d:=c ⟨b.H+1,b.g+1,b.l⟩;have e:=abw s b.H;unfold ep;simp only at d|-
 (repeat' split)<;>simp only[cp]<;>omega
def ac3(c:∀b,(ch b).1.g+b.H<=b.g+(ch b).1.H)(b:bs):(ki ch s b).1.g+b.H<=b.g+(ki ch s b).1.H:=by
 have d:=aoy (s:=s) c b;unfold ki;simp only
 (repeat' split)<;>first|(simp only[cp];omega)|omega
def Ul(d:∀b,(ch b).1.g+b.H<=b.g+(ch b).1.H):∀(f:Nat)(b:bs)(c:List Nat),(qs ch s f b c).1.g+b.H<=b.g+(qs ch s f b c).1.H
 |0,b,c=>by simp only[qs];omega
 |f+1,b,c=>by
  have e:=ac3 (s:=s) d b;have g:=Ul d f (ki ch s b).1<|c++[(ki ch s b).2];rw[qs];split
  .simp only[cp];omega
  simp only;omega
def ac2(d:∀b,(ch b).1.g+b.H<=b.g+(ch b).1.H):∀(f:Nat)(b:bs)(c:List Nat),(sw ch s f b c).1.g+b.H<=b.g+(sw ch s f b c).1.H
 |0,b,c=>by simp only[sw];omega
 |f+1,b,c=>by
  have g:(ip ch s b).1.g+b.H<=b.g+(ip ch s b).1.H:=Ul d (s.size+1) b [];have e:=ac2 d f ⟨(ip ch s b).1.H+1,(ip ch s b).1.g,(ip ch s b).1.l⟩<|c++[(ip ch s b).2];rw[sw];simp only at e|-;split
  .omega
  simp only[cp];omega
end
def Ox(s:ag):∀(n:Nat)(b:bs),(dz s n b).1.g+b.H<=b.g+(dz s n b).1.H
 |0,b=>by simp only[dz];omega
 |n+1,b=>ac2 (Ox s n) _ _ _
end
section
def Qzm(N:Nat):Prop:=∀(b:Nat)(p:bs)(X:Nat->Prop)(s:ag)(nv:af)(st:St)(w:ae),Dr w b s p nv X->iu s->Gd p.l->p.l.length<=300+2*p.H->p.g<=p.H->(∀q,X q->q<w.heap.size)->run s p.H=some st->st.m=0->s.size-p.H<N->
  Calls prog 184 #[.pointer<|some ⟨b,0,none⟩] w λe w'=>∃nv',e=.returned (.int .i64 ((dz s N p).2:Nat))/\Dr w' b s (dz s N p).1 nv' X/\Qql b nv nv' w w'
structure Qzi(N:Nat)(w:ae)(b:Nat)(p:bs)(X:Nat->Prop)(s:ag)(nv:af)(st:St):Prop where
 dr:Dr w b s p nv X
 W:iu s
 gd:Gd p.l
 zg:p.l.length<=300+2*p.H
 gc:p.g<=p.H
 X:∀q,X q->q<w.heap.size
 rn:run s p.H=some st
 m2:st.m<=2
 lt:p.H<s.size
 N:s.size-p.H<=N
 st:bn mb (au s p.H)=false
structure Qzn(w wr:ae)(b:Nat)(s:ag)(p:bs)(nv nv':af)(X:Nat->Prop)(M:Nat)(d:Nd)(sv:af):Prop where
 row:bd wr M (dk d sv)
 dr:Dr wr b s p nv' (λk=>X k\/k=M)
 fr:Qql b nv nv' w wr
 new:w.heap.size<=M
 bM:b<M
 nM:nv'.ownBlock≠some M
section
variable {w wr w':ae} {b:Nat} {s:ag} {p:bs} {nv nv':af} {X:Nat->Prop} {M:Nat} {d:Nd} {sv:af}
def Qzn.lt(a:Qzn w wr b s p nv nv' X M d sv):M<wr.heap.size:=a.row.lt (by rw[gy];omega)
def Qzn.put(a:Qzn w wr b s p nv nv' X M d sv){d':Nd}(c:bf M wr w')(e:bd w' M (dk d' x)):Qzn w w' b s p nv nv' X M d' x:=
 ⟨e,a.dr.bj c (by have:=a.bM;omega) a.nM<|.inr rfl,Fr.bj a.fr c a.new,a.new,a.bM,a.nM⟩
def Qzn.only(a:Qzn w wr b s p nv nv' X M d sv){f:bs}(c:eh b wr w')(hd:Dr w' b s f nv' (λe=>X e\/e=M)):Qzn w w' b s f nv nv' X M d sv:=
 ⟨bd.only a.row c (by have:=a.bM;omega),hd,a.fr.trans<|eh.fr c nv',a.new,a.bM,a.nM⟩
def Qzn.grow(a:Qzn w wr b s p nv nv' X M d sv)(c:Below wr.heap.size wr w'):Qzn w w' b s p nv nv' X M d sv:=
 ⟨a.row.below c a.lt,a.dr.grow c,a.fr.trans<|Below.Qqr c nv',a.new,a.bM,a.nM⟩
def Qzn.call(a:Qzn w wr b s p nv nv' X M d sv){h:bs}(e:Qql b nv' x wr w')(hd:Dr w' b s h x (λg=>X g\/g=M)):Qzn w w' b s h nv x X M d sv:=by
 refine⟨a.row.cw<|e.block M a.lt (by have:=a.bM;omega)<|λc=>a.nM c.symm,hd,a.fr.trans e,a.new,a.bM,λc=>?_⟩;obtain f|f:=e.km
 .rw[f]at c;exact a.nM c
 have:=f M c;have:=a.lt;omega
theorem Qzn.cell(e:Qzn w wr b s p nv nv' X M d sv)(k:Nat)(f:k<261)(a:af){c:Nd}(g:(dk d sv).set k a=dk c x:=by omega):Qzn w (wr.setCell (O M k) a) b s p nv nv' X M c x:=by
 refine e.put xxs ?_;have:=e.row.put k (by rw[gy];exact f) a;grind
def Qzn.ba(a:Qzn w wr b s p nv nv' X M d sv)(c:List Nat):Qzn w wr b s p nv nv' X M {d with ba:=c} sv:=⟨a.row,a.dr,a.fr,a.new,a.bM,a.nM⟩
def Qzn.drew(a:Qzn w wr b s p nv nv' X M d sv):Qzn w wr.drew b s p nv nv' X M d sv:=a.grow (bp _ _).drew
def Qzn.set(a:Qzn w wr b s p nv nv' X M d sv){c:Nat->Bool}(f:∀e,e<256->d.set e=c e):Qzn w wr b s p nv nv' X M {d with set:=c} sv:=by
 have g:dk d sv=dk {d with set:=c} sv:=by
  rw[Ky,Ky];simp only;rw[Nu f]
 exact⟨by rw[<-g];exact a.row,a.dr,a.fr,a.new,a.bM,a.nM⟩
def Qzn.done{ao:Option Addr}(h:Qzn w wr b s p nv nv' X M d (.slice ao d.ba.length c))(i:p.l.length<=1000)(k:uj wr b nv' (λa=>X a\/a=M) ao d.ba):
  Calls prog 213 #[.pointer<|some ⟨b,0,none⟩,.agg (dk d<|.slice ao d.ba.length c).toArray] wr λg w'=>∃e,g=.returned (.int .i64 p.l.length)/\Dr w' b s ⟨p.H,p.g,p.l++[d]⟩ e X/\Qql b nv e w w':=by
 go_call Qzg b p _ s nv' wr h.dr i d ao c k as g n ⟨f,rfl,j,l⟩;exact⟨f,rfl,j.tu _<|λa _ m=> .inl m,h.fr.trans l⟩
end
section
variable {ch:bs->bs×Nat} {s:ag} {p:bs}
theorem abo(a:au s p.H=94):ep ch s p=cp p (p.H+1) (gb 1 dp):=by grind[ep]
theorem abk(a:au s p.H=36):ep ch s p=cp p (p.H+1) (gb 2 dp):=by grind[ep]
theorem abl(a:au s p.H=46):ep ch s p=cp p (p.H+1) (gb 0 λ_=>true):=by grind[ep]
theorem Tk(a:au s p.H=40):ep ch s p=cp (ch ⟨p.H+1,p.g+1,p.l⟩).1 ((ch ⟨p.H+1,p.g+1,p.l⟩).1.H+1) (qc (ch ⟨p.H+1,p.g+1,p.l⟩).2 p.g):=by grind[ep]
theorem abm(a:au s p.H=91):ep ch s p=cp p (vh s p.H).1 (gb 0 (vh s p.H).2):=by grind[ep]
theorem abn(a:au s p.H=92):ep ch s p=cp p (p.H+2) (gb 0<|kx dp (val<|au s<|p.H+1)<|val<|au s<|p.H+1):=by grind[ep]
theorem abp(h:au s p.H=a)(c:a≠94)(e:a≠36)(f:a≠46)(g:a≠40)(i:a≠91)(j:a≠92):ep ch s p=cp p (p.H+1) (gb 0<|kx dp a a):=by
 grind[ep]
end
theorem afj:∀a,a<256->(λe=>if e=i then true else dp e) a=kx dp i i a:=by
 intro a _
 grind[kx,dp]
attribute [local go_sem↓] Go.wp_at_zero Go.wp_at_succ
theorem Qzj(aI:Qzm i)(b:Nat)(p:bs)(X:Nat->Prop)(s:ag)(nv:af)(o:St)(w:ae)(aJ:Qzi i w b p X s nv o):
  Calls prog 249 #[.pointer<|some ⟨b,0,none⟩] w λk w'=>∃nv',k=.returned (.int .i64 ((ep (dz s i) s p).2:Nat))/\Dr w' b s (ep (dz s i) s p).1 nv' X/\Qql b nv nv' w w':=by
 let⟨a,j,r⟩:=p;have P:=aJ;let⟨g,n,D,aO,aP,x,h,aQ,a6,aR,u⟩:=aJ;simp only at aO aP h a6 aR u;generalize t:ep (dz s i) s ⟨a,j,r⟩=b1;have z:=J t;have aS:=g;have aT:=J aI;have aK:=J x;have b2:=g.lt;have b3:=g.li;have aL:Y (∀e,nv.ownBlock=some e->e<w.heap.size):=by
  let⟨xs,a7,_⟩:=g.own;exact λe a8=>(a7.lt e a8).2
 have l:=g.c3;have v:=g.c4;have qa:=g.f4;have a0:((s[a]).toNat:Int)=(au s a:Int):=oz s a a6;have a9:=ms s a;obtain⟨f,c⟩:∃f,au s a=f:=⟨_,rfl⟩;have A:=J c;have aU:Y (bn mb f=false):=by rw[Y,<-c];exact u
 have aA:Y (run s (a+1)=kh o f):=by
  rw[Y,lf h,c,Mm aQ aU.out]
 rw[c]at a0 a9;have b4:(0:Int)<=a:=Q
 have b5:(a:Int)<s.size:=Q
 simp only at v;go_in;go_wp21;go_quiet (fail);have h:Dr ((w.drewN nq).setCell (O b 4)<|I<|(a:Int)+1) b s ⟨a+1,j,r⟩ nv X:=(aS.drewN nq).ux (v:=(a:Int)+1)<|a+1;have c:eh b w ((w.drewN nq).setCell (O b 4)<|I<|(a:Int)+1):=(eh.drewN (eh.refl b w) nq).setCell 4 _;go_upto_region 3 with fail
 generalize(w.drewN nq).setCell (O b 4) (I<|(a:Int)+1)=a1 at h c|-;have aM:=J c.size;go_upto_region 4 with(first
  |(refine Re 23 rfl rfl 271 _ rfl _ alg ?_)
  |(refine gm 4 rfl rfl 271 rfl _ Rg ?_;intro w3 aV t u)
  |(refine hw rfl 271 (.tmp 4) (.tmp 23) rfl _ rfl _ rfl _ t rfl (Qjg _ _) (vl _ _ _ _) ?_;intro w4 n x))
 have D:=aM.out;have g:Y (Qzn w w4 b s ⟨a+1,j,r⟩ nv nv X a1.heap.size ⟨0,dp,[],0,0,0⟩<|.slice none 0 0):=
  ⟨n,((h.tu (λe=>X e\/e=a1.heap.size)<|λe a8 v=>v.elim id<|λk=>Q).grow u).bj x Q (λk=>by have:=aL _ k;omega)<|.inr rfl,Fr.bj ((eh.fr c nv).trans<|Below.Qqr u nv) x,Q,Q,λk=>by have:=aL _ k;omega⟩
 have aW:b<a1.heap.size:=Q
 generalize a1.heap.size=M at g aW aM aV|-;have b6:M≠b:=Q
 have b7:b≠M:=Q
 have qa:r.length<=1000:=Q
 by_cases aB:f=94
 .subst aB;have c:=g.row.cell<|Pn _ _;have D:=g.row.frozen (k:=0) (by rw[gy];omega);have u:Y (Qzn w (w4.setCell (O M 0)<|I 1) b s ⟨a+1,j,r⟩ nv nv X M ⟨1,dp,[],0,0,0⟩<|.slice none 0 0):=g.cell 0 Q _<|Vw _ _ 1;simp only at c;go_wp2_with (first|(refine ir 97 rfl rfl 271 (.tmp 4) rfl _ rfl _ _ u.row underlying271 rfl (Qjg _ _) ?_));go_call Qzn.done (d:=gb 1 dp) (ao:=none) (c:=0) u.out qa (.inl rfl)as k E ⟨m,rfl,B,C⟩;go_wp21;go_ret;exact⟨m,by rw[<-z.out,abo A.out];rfl,by rw[<-z.out,abo A.out];exact B,C⟩
 by_cases aC:f=36
 .subst aC;have c:=g.row.cell<|Pn _ _;have D:=g.row.frozen (k:=0) (by rw[gy];omega);have u:Y (Qzn w (w4.setCell (O M 0)<|I 2) b s ⟨a+1,j,r⟩ nv nv X M ⟨2,dp,[],0,0,0⟩<|.slice none 0 0):=g.cell 0 Q _<|Vw _ _ 2;simp only at c;go_wp2_with (first|(refine ir 97 rfl rfl 271 (.tmp 4) rfl _ rfl _ _ u.row underlying271 rfl (Qjg _ _) ?_));go_call Qzn.done (d:=gb 2 dp) (ao:=none) (c:=0) u.out qa (.inl rfl)as k E ⟨m,rfl,B,C⟩;go_wp21;go_ret;exact⟨m,by rw[<-z.out,abk A.out];rfl,by rw[<-z.out,abk A.out];exact B,C⟩
 by_cases aD:f=46
 .subst aD;go_wp21;go_loopw [5] (λt S=>∃e:Nat,e<=256/\t=I e/\Qzn w S b s ⟨a+1,j,r⟩ nv nv X M ⟨0,λf=>decide (f<e),[],0,0,0⟩ (.slice none 0 0)) (λt _=>256-(intOf t).toNat)
  .exact⟨0,Q,rfl,g.set<|λe _=>by simp[dp]⟩
  obtain⟨e,a8,rfl,h⟩:=hrel;by_cases a2:e<256
  .have n:=h.row.cell<|La _ _ a2;have q:=h.row.frozen (k:=e+1) (by rw[gy];omega);have l:Y (Qzn w (wr.setCell (O M<|e+1)<|.bool true) b s ⟨a+1,j,r⟩ nv nv X M ⟨0,λf=>decide (f<e+1),[],0,0,0⟩<|.slice none 0 0):=by
    refine(h.cell (e+1) Q _<|Vx _ _ a2 true).set<|λx _=>?_;simp only;by_cases k:x=e
    .subst k;simp
    have:(x<e)↔(x<e+1):=Q
    simp[k,this]
   have y:(0:Int)<=e:=Q
   have a3:(e:Int)<256:=Q
   simp only at n;rw[show e+1=1+e from Q]at n q l;generalize H:decide (e<e)=a4 at n;go_wp21;go_roundw
   .exact⟨e+1,Q,qJ,by rw[show e+1=1+e from Q] at*;exact l⟩
   simp[intOf];omega
  have l:e=256:=Q
  subst l;have n:Qzn w wr b s ⟨a+1,j,r⟩ nv nv X M ⟨0,λ_=>true,[],0,0,0⟩ (.slice none 0 0):=h.set (λx q=>by simp[q]);go_wp2_with (first|(refine ir 97 rfl rfl 271 (.tmp 4) rfl _ rfl _ _ n.row underlying271 rfl (Qjg _ _) ?_));go_call Qzn.done (d:=gb 0 λ_=>true) (ao:=none) (c:=0) n qa (.inl rfl)as k E ⟨m,rfl,B,C⟩;go_wp21;go_ret;exact⟨m,by rw[<-z.out,abl A.out];rfl,by rw[<-z.out,abl A.out];exact B,C⟩
 by_cases a3:f=91
 .subst a3;have a4:Y (run s (a+1)=some ⟨4,o.o,o.a,o.l⟩):=by rw[Y,aA.out];rfl
  go_wp21;go_call Qzh b a j r _ s nv _ g.dr P.W o.o o.a o.l a4.out a6 as k h ⟨rfl,n,l⟩;have t:=g.call l n;clear n l;go_wp2_with (first
   |(refine aw3 rfl 116 (.tmp 74) (.tmp 73) rfl _ rfl _ rfl _ _ t.row (He _) ?_;intro y q H;have S:=J<|t.put H q;clear q H)
   |(refine ir 97 rfl rfl 271 (.tmp 4) rfl _ rfl _ _ S.row underlying271 rfl (Qjg _ _) ?_))
  go_call Qzn.done (d:=gb 0 (vh s a).2) (ao:=none) (c:=0) S.out qa (.inl rfl)as k E ⟨m,rfl,B,C⟩;go_wp21;go_ret;exact⟨m,by rw[<-z.out,abm A.out];rfl,by rw[<-z.out,abm A.out];exact B,C⟩
 by_cases aE:f=40
 .subst aE;have y:kh o 40=if o.o=5\/o.a=9 then none else some ⟨0,o.o+1,o.a+1,o.l⟩:=rfl
  let⟨aF,H⟩:=P.W.all (show a+1<=s.size from Q);have F:aF=⟨0,o.o+1,o.a+1,o.l⟩:=by
   have k:=aA.out;rw[H,y]at k;split at k
   .cases k
   cases k;rfl
  have T:Y (run s (a+1)=some ⟨0,o.o+1,o.a+1,o.l⟩):=by rw[Y,H,F]
  let⟨q,V⟩:=Cy P.W i ⟨a+1,j+1,r⟩ ⟨a+1,j+1,r⟩ ⟨0,o.o+1,o.a+1,o.l⟩ rfl rfl P.gd P.gd T rfl qE qE;have U:=If s i ⟨a+1,j+1,r⟩;have W:(dz s i ⟨a+1,j+1,r⟩).1.H<s.size:=by
   rw[<-q.H];obtain v|v:=hb (ml s i ⟨a+1,j+1,r⟩).1.H s.size
   .exact v
   exfalso;have Z:=Nat.le_antisymm q.le v;let⟨aG,R,K,aH⟩:=q.rn;rw[Z]at R;let⟨aN,L,a5⟩:=P.W;rw[R]at L;cases L
   simp only at K;simp[whole,K]at a5
  clear y H F q V;have c:=g.row.cell<|Pn _ _;have D:=g.row.frozen (k:=0) (by rw[gy];omega);have F:=g.row.cell<|wl _ _ 1;have K:=g.row.frozen (k:=258) (by rw[gy];omega);have q:=g.dr.c1;have L:=g.dr.f1;simp only at c F q;have u:Y (Qzn w ((w4.setCell (O M 0)<|I 3).setCell (O M 258)<|I j) b s ⟨a+1,j,r⟩ nv nv X M ⟨3,dp,[],j,0,0⟩<|.slice none 0 0):=(g.cell 0 Q (I 3)<|Vw _ _ 3).cell 258 Q _<|aq7 _ _ j;have y:Qzn w (((w4.setCell (O M 0)<|I 3).setCell (O M 258)<|I j).setCell (O b 1)<|I<|(j:Int)+1) b s ⟨a+1,j+1,r⟩ nv nv X M ⟨3,dp,[],j,0,0⟩ (.slice none 0 0):=u.only ((eh.refl b _).setCell 1 _)<|u.dr.Iy (v:=(j:Int)+1)<|j+1;go_wp21;refine(aT.out b ⟨a+1,j+1,r⟩ _ s nv _ _ y.dr P.W P.gd qE qE (λZ H=>?_) T.out rfl qE).mono ?_
  .have a2:=y.lt;obtain H|H:=H
   .have:=aK Z H;have:=y.new;omega
   rw[H];exact a2
  rintro k h ⟨R,rfl,n,l⟩;have t:=y.call l n;clear n l c D F K q L;generalize c:dz s i ⟨a+1,j+1,r⟩=a5 at t W U|-;have K:=J c;clear c;let⟨⟨x,aG,L⟩,l⟩:=a5;simp only at W U|-;have aH:=t.row.cell<|wl _ _ 0;have b8:=t.row.frozen (k:=257) (by rw[gy];omega);have F:=t.dr.c4;have aN:=t.dr.f4;simp only at aH F;have b9:=t.lt;have q:=λaX=>(bp h.heap.size h).alloc ah aX
  have bD:=t.dr.lt;clear q;have q:((h.setCell (O M 257)<|aa h.heap.size 1 1).setCell (O b 4)<|I<|(x:Int)+1).heap.size=h.heap.size:=by simp[World.setCell]
  have S:Y (Qzn w (((h.setCell (O M 257)<|aa h.heap.size 1 1).setCell (O b 4)<|I<|(x:Int)+1).alloc<|.cells #[I l] 3) b s ⟨x+1,aG,L⟩ nv R X M ⟨3,dp,[l],j,0,0⟩<|aa h.heap.size 1 1):=by
   have n:=t.cell 257 Q (aa h.heap.size 1 1)<|ae1 _ _ _;have c:=n.only ((eh.refl b _).setCell 4 _) (n.dr.ux (v:=(x:Int)+1) (x+1) Q Q);exact(c.grow<|(bp _ _).alloc ah _).ba [l]
  have aY:Y (uj (((h.setCell (O M 257)<|aa h.heap.size 1 1).setCell (O b 4)<|I<|(x:Int)+1).alloc<|.cells #[I l] 3) b R (λe=>X e\/e=M) (some<|O h.heap.size 0) [l]):=by
   refine .inr ⟨h.heap.size,rfl,Q,λk=>?_,λv=>?_,λe c a0=>?_⟩
   .let⟨xs,a7,_⟩:=t.dr.own;have:=(a7.lt _ k).2;omega
   .obtain v|v:=v
    .have:=aK _ v;have:=t.fr.size;omega
    omega
   have aZ:e=0:=by
    have:=(jy.1 a0).1;simpa using this
   subst aZ;have b0:c=l:=qK a0.symm
   subst b0;have V:=heap_alloc_last ((h.setCell (O M 257)<|aa h.heap.size 1 1).setCell (O b 4)<|I<|(x:Int)+1)<|.cells #[I c] 3;rw[q]at V;rw[yya _ h.heap.size 0 #[I c] 3 (0,0) V];rfl
  clear q;go_wp2_with (first
   |(refine ir 97 rfl rfl 271 (.tmp 4) rfl _ rfl _ _ S.row underlying271 rfl (Qjg _ _) ?_))
  go_call Qzn.done (d:=qc l j) (ao:=some<|O h.heap.size 0) (c:=1) S.out qE aY.out as k E ⟨m,rfl,B,C⟩;go_wp21;go_ret;exact⟨m,by rw[<-z.out,Tk A.out,K.out];rfl,by rw[<-z.out,Tk A.out,K.out];exact B,C⟩
 by_cases q:f=92
 .subst q;have a4:Y (run s (a+1)=some ⟨3,o.o,o.a,o.l⟩):=by rw[Y,aA.out];rfl
  have W:=P.W.qd a4 Q qD qD;have U:((s[a+1]).toNat:Int)=(au s (a+1):Int):=oz s (a+1) W;have H:=ms s<|a+1;have R:=Mp H;generalize y:au s (a+1)=c at U H R;have K:=J y;clear y;have y:=g.dr.c3;have F:=g.dr.c4;have aN:=g.dr.f4;simp only at F;have T:=g.row.cell<|La _ _ (k:=val c);have D:=g.row.frozen (k:=val c+1) (by rw[gy];omega);rw[show val c+1=1+val c from Q]at T D;have a5:(0:Int)<=a+1:=Q
  have aG:(a:Int)+1<(s.size:Int):=Q
  have aF:Y (∀(l:Nat)(w':ae),(l:Int)=c->Calls prog 129 #[.int .u8 l] w' λk Z=>k=.returned (.int .i64 (val c:Nat))/\Z=w'):=by
   intro l w' v
   have:l=c:=Q
   subst this;exact Ew l w' H
  go_upto_region 25 with fail
  go_region_with (go_at_call 129;go_call aF.out as k aH ⟨rfl,rfl⟩)
  all_goals
   have u:Y (Qzn w (((w4.setCell (O M<|1+val c)<|.bool true).setCell (O b 4)<|I<|(a:Int)+1+1).drew) b s ⟨a+2,j,r⟩ nv nv X M ⟨0,kx dp (val c)<|val c,[],0,0,0⟩<|.slice none 0 0):=by
    have n:=(g.cell (val c+1) Q (.bool true)<|Vx _ _ Q true).set<|afj<|val c;rw[show val c+1=1+val c from Q]at n;exact(n.only ((eh.refl b _).setCell 4 _)<|n.dr.ux (v:=(a:Int)+1+1)<|a+2).drew
   go_wp2_with (first|(refine ir 97 rfl rfl 271 (.tmp 4) rfl _ rfl _ _ u.row underlying271 rfl (Qjg _ _) ?_));go_call Qzn.done (d:=gb 0<|kx dp (val c)<|val c) (ao:=none) (c:=0) u.out qa (.inl rfl)as k E ⟨m,rfl,B,C⟩;go_wp21;go_ret;exact⟨m,by rw[<-z.out,abn A.out];rfl,by rw[<-z.out,abn A.out,show au s (bs.H ⟨a,j,r⟩+1)=c from K.out];exact B,C⟩
 have l:((f:Int)==94)=false:=qB
 have H:((f:Int)==36)=false:=qB
 have y:((f:Int)==46)=false:=qB
 have U:((f:Int)==40)=false:=qB
 have W:((f:Int)==91)=false:=qB
 have R:((f:Int)==92)=false:=qB
 have T:=g.row.cell<|La _ _ (k:=f) a9;have D:=g.row.frozen (k:=f+1) (by rw[gy];omega);rw[show f+1=1+f from Q]at T D;have L:(0:Int)<=f:=Q
 have V:(f:Int)<256:=Q
 have u:Y (Qzn w (w4.setCell (O M<|1+f)<|.bool true) b s ⟨a+1,j,r⟩ nv nv X M ⟨0,kx dp f f,[],0,0,0⟩<|.slice none 0 0):=by
  have n:=(g.cell (f+1) Q (.bool true)<|Vx _ _ a9 true).set<|afj f;rw[show f+1=1+f from Q]at n;exact n
 go_wp2_with (first|(refine ir 97 rfl rfl 271 (.tmp 4) rfl _ rfl _ _ u.row underlying271 rfl (Qjg _ _) ?_));go_call Qzn.done (d:=gb 0<|kx dp f f) (ao:=none) (c:=0) u.out qa (.inl rfl)as k E ⟨m,rfl,B,C⟩;go_wp21;go_ret;exact⟨m,by rw[<-z.out,abp A.out aB aC aD aE a3 q];rfl,by rw[<-z.out,abp A.out aB aC aD aE a3 q];exact B,C⟩
end
section
def Bw:ag:=⟨#[42,43,63,123]⟩
def adm:bn Bw i=true↔i=42\/i=43\/i=63\/i=123:=by
 simp[bn,Bw];omega
theorem aa0{s:ag}(c:iu s){g:St}(u:run s a=some g)(k:g.m=1)(F:a<s.size)(v:au s a=123):
  a+2<s.size/\48<=au s (a+1)/\au s (a+1)<=57/\(pk s (a+2)=44->a+4<s.size/\48<=au s (a+3)/\au s (a+3)<=57):=by
 let⟨H,x,y,L⟩:=g;simp only at k;subst k;have l:run s (a+1)=some ⟨11,x,y,0⟩:=by
  rw[lf u,v];exact Qp
 have A:=c.qd l Q qD qD;let⟨B,e,m⟩:=c.next l A
 rw[Bl<|.inl rfl]at e;split at e
 .rename_i hd;cases e
  have h:=c.qd m Q qD qD;refine⟨h,hd.1,hd.2.1,λC=> ?_⟩;let⟨D,i,n⟩:=c.next m h
  rw[G rfl,Cw<|.inl rfl]at i;have t:au s (a+1+1)=44:=by
   have:=fh h;rw[show a+1+1=a+2 from rfl]at this|-;omega
  rw[N,G ⟨t,rfl⟩]at i;cases i
  have o:=c.qd n Q qD qD;let⟨E,f,q⟩:=c.next n o
  rw[Bl<|.inr rfl]at f;split at f
  .rename_i j;cases f
   have r:=c.qd q Q qD qD;grind
  cases f
 cases e
section
variable {ch:bs->bs×Nat} {s:ag} {p:bs}
theorem Tm(c:∀a,a=42\/a=43\/a=63\/a=123->pk s (ep ch s p).1.H≠a):ki ch s p=ep ch s p:=by
 grind[ki]
theorem abq(a:pk s (ep ch s p).1.H=42):ki ch s p=cp (ep ch s p).1 ((ep ch s p).1.H+1) (gr (ep ch s p).2 0<|-1):=by
 grind[ki]
theorem abr(a:pk s (ep ch s p).1.H=43):ki ch s p=cp (ep ch s p).1 ((ep ch s p).1.H+1) (gr (ep ch s p).2 1<|-1):=by
 grind[ki]
theorem abs(a:pk s (ep ch s p).1.H=63):ki ch s p=cp (ep ch s p).1 ((ep ch s p).1.H+1) (gr (ep ch s p).2 0 1):=by
 grind[ki]
theorem abu(c:pk s (ep ch s p).1.H=123)(a:pk s ((ep ch s p).1.H+2)=44):ki ch s p=cp (ep ch s p).1 ((ep ch s p).1.H+5) (gr (ep ch s p).2 (au s ((ep ch s p).1.H+1)-48) ((au s ((ep ch s p).1.H+3)-48:Nat):Int)):=by
 grind[ki]
theorem abt(c:pk s (ep ch s p).1.H=123)(a:¬pk s ((ep ch s p).1.H+2)=44):ki ch s p=cp (ep ch s p).1 ((ep ch s p).1.H+3) (gr (ep ch s p).2 (au s ((ep ch s p).1.H+1)-48) ((au s ((ep ch s p).1.H+1)-48:Nat):Int)):=by
 grind[ki]
end
structure Qzw(w wr:ae)(b:Nat)(s:ag)(p:bs)(nv nv':af)(X:Nat->Prop)(M K z:Nat)(d:Nd):Prop where
 nd:Qzn w wr b s p nv nv' X M d (aa K 1 1)
 Vd:wr.cell? (O K 0)=some (I z)
 kb:K≠b
 kM:K≠M
 kn:nv'.ownBlock≠some K
 kX:¬X K
section
variable {w wr w':ae} {b:Nat} {s:ag} {p:bs} {nv nv':af} {X:Nat->Prop} {M K z:Nat} {d:Nd}
def Qzw.cell(a:Qzw w wr b s p nv nv' X M K z d)(k:Nat)(f:k<261)(c:af){e:Nd}(g:(dk d<|aa K 1 1).set k c=dk e (aa K 1 1):=by omega):Qzw w (wr.setCell (O M k) c) b s p nv nv' X M K z e:=
 ⟨a.nd.cell k f c g,(ac 0<|er _ _ _ _ a.kM).trans a.Vd,a.kb,a.kM,a.kn,a.kX⟩
def Qzw.only(a:Qzw w wr b s p nv nv' X M K z d){f:bs}(c:eh b wr w')(hd:Dr w' b s f nv' (λe=>X e\/e=M)):Qzw w w' b s f nv nv' X M K z d:=
 ⟨a.nd.only c hd,(ac 0<|c.block K a.kb).trans a.Vd,a.kb,a.kM,a.kn,a.kX⟩
def Qzw.ux(c:Qzw w wr b s p nv nv' X M K z d){v:Int}(a:Nat)(e:v=a:=by omega)(f:a<=s.size:=by omega):Qzw w (wr.setCell (O b 4)<|I v) b s ⟨a,p.g,p.l⟩ nv nv' X M K z d:=
 c.only ((eh.refl b wr).setCell 4 _) (c.nd.dr.ux a e f)
def Qzw.drewN(c:Qzw w wr b s p nv nv' X M K z d)(a:Nat):Qzw w (wr.drewN a) b s p nv nv' X M K z d:=c.only (eh.drewN (eh.refl b wr) a)<|c.nd.dr.drewN a
def Qzw.drew(a:Qzw w wr b s p nv nv' X M K z d):Qzw w wr.drew b s p nv nv' X M K z d:=a.drewN 1
def Qzw.done(a:Qzw w wr b s p nv nv' X M K z d)(g:d.ba=[z])(m:p.l.length<=1000):
  Calls prog 213 #[.pointer<|some ⟨b,0,none⟩,.agg (dk d<|.slice (some ⟨K,0,none⟩) 1 1).toArray] wr λc w'=>∃f,c=.returned (.int .i64 p.l.length)/\Dr w' b s ⟨p.H,p.g,p.l++[d]⟩ f X/\Qql b nv f w w':=by
 have h:d.ba.length=1:=by rw[g];rfl
 have i:=a.nd;rw[<-h]at i;have:=Qzn.done (c:=d.ba.length) i m (.inr ⟨K,rfl,a.kb,a.kn,λc=>c.elim a.kX a.kM,λl n e=>by
  rw[g]at e;have j:l=0:=by
   have:=(jy.1 e).1;simpa using this
  subst j;have k:n=z:=qK e.symm
  subst k;exact a.Vd⟩)
 rw[h]at this;exact this
end
attribute [local go_sem↓] Go.wp_at_zero Go.wp_at_succ
theorem Qzk(aI:Qzm i)(b:Nat)(p:bs)(X:Nat->Prop)(s:ag)(nv:af)(aJ:St)(w:ae)(j:Qzi i w b p X s nv aJ):
  Calls prog 235 #[.pointer<|some ⟨b,0,none⟩] w λe w'=>∃nv',e=.returned (.int .i64 ((ki (dz s i) s p).2:Nat))/\Dr w' b s (ki (dz s i) s p).1 nv' X/\Qql b nv nv' w w':=by
 have a0:=j;have aL:=J aI;have bH:=j.dr.lt;have b9:=j.dr.li;have aO:=J j.X;have b4:=j.zg;have bA:=j.gc;obtain⟨a,bD,c,h⟩:=Wg j.W (Cy j.W i) rfl rfl j.gd j.gd j.rn j.m2 j.lt j.N j.st;have a2:=a.le;rw[a.H]at c a2;have aC:=abh (s:=s) (If s i) p;clear a j aI;generalize a:ki (dz s i) s p=y;have x:=J a;clear a;go_in;go_wp21;go_call Qzj i aL.out b p X s nv aJ _ a0 as e U ⟨f,rfl,q,R⟩;have a3:Y (∀v,f.ownBlock=some v->v<U.heap.size):=by
  obtain⟨xs,a,_⟩:=q.own;exact λv aH=>(a.lt v aH).2
 generalize a:ep (dz s i) s p=b3 at c a2 aC q|-;have l:=J a;clear a;obtain⟨⟨a,k,g⟩,z⟩:=b3;simp only at c a2 aC|-;have a4:=q;have W:=J c;have C:=J h;have E:g.length<=1000:=by have:=a0.lt;omega
 have b0:=q.c3;have a6:=q.c4;have b1:=q.f4;have b5:=R.size;have bE:=q.lt;simp only at a6;clear q c h;by_cases b6:a=s.size
 .have a5:Y (y=(⟨a,k,g⟩,z)):=by
   rw[Y,<-x.out,Tm (λn H=>by rw[l.out];simp only;rw[qj Q];omega),l.out]
  have b2:((a:Int)==s.size)=true:=qB
  go_wp21;go_quiet (fail);go_wp21;go_ret;rw[a5.out];exact⟨f,rfl,a4.drewN _,R.trans<|eh.fr (eh.drewN (eh.refl b U) _) f⟩
 have a7:a<s.size:=Q
 have b2:((a:Int)==s.size)=false:=qB
 have a8:((s[a]).toNat:Int)=(au s a:Int):=oz s a a7;have aP:=ms s a;have c:=fh a7;have bI:(0:Int)<=a:=Q
 have bJ:(a:Int)<s.size:=Q
 obtain⟨n,H⟩:∃n,au s a=n:=⟨_,rfl⟩;have aK:=J H;rw[H]at a8 aP c;have A:=J c;have F:Y (∀(P:Nat)(w':ae),(P:Int)=n->Calls prog 128 #[.string Bw,.int .u8 P] w' λe aQ=>e=.returned (.bool<|bn Bw n)/\aQ=w'):=by
  intro P w' aG
  have:P=n:=Q
  subst this;exact sz Bw P w' qG
 clear H c;rcases df (bn Bw n)with V|V
 .have aA:=J V;have aR:=(adm n).1 V;rw[V]at F;clear V;go_wp21;go_quiet ((go_at_call 128;exact Calls.quiet_of_same<|F.out _ _ Q));obtain⟨L,c⟩:∃L,L=nq:=⟨_,rfl⟩;rw[<-c];clear c;go_wp21;go_quiet (fail);have u:Dr ((U.drewN<|L+nq).setCell (O b 4)<|I<|(a:Int)+1) b s ⟨a+1,k,g⟩ f X:=(a4.drewN _).ux (v:=(a:Int)+1) (a+1) Q Q;have r:eh b U ((U.drewN<|L+nq).setCell (O b 4)<|I<|(a:Int)+1):=(eh.drewN (eh.refl b U) _).setCell 4 _;go_upto_region 6 with fail
  generalize(U.drewN<|L+nq).setCell (O b 4) (I<|(a:Int)+1)=c at u r|-;clear b0 a6 b1 F;have D:=J r.size;have o:Y ((c.alloc<|.cells #[I z] 3).heap.size=c.heap.size+1):=by simp[Y]
  go_upto_region 7 with(first
   |(refine Re 51 rfl rfl 271 _ rfl _ (alj _) ?_)
   |(refine gm 5 rfl rfl 271 rfl _ Rg ?_;intro w3 a9 a1 B;rw[o.out]at a9 B;have qa:=B;clear B)
   |(refine hw rfl 271 (.tmp 5) (.tmp 51) rfl _ rfl _ rfl _ a1 (by rw[gy,gy]) (Qjg _ _) (vl _ _ _ _) ?_;intro w4 Z h;rw[o.out]at Z h))
  have m:Y (Qzw w w4 b s ⟨a+1,k,g⟩ nv f X (c.heap.size+1) c.heap.size z ⟨6,dp,[z],0,0,0⟩):=by
   have aF:=D.out;have aB:Below c.heap.size c (c.alloc<|.cells #[I z] 3):=(bp _ _).alloc ah _;have B:=aB.trans (qa.mono Q);have aD:w3.cell? (O c.heap.size 0)=some (I z):=by
    rw[qa.cell (p:=O c.heap.size 0) qE];rw[cell_of_row _ c.heap.size 0 #[I z] 3 (0,0)<|heap_alloc_last c _];rfl
   have aE:=(ac 0<|h.block _ Q).trans aD;refine⟨⟨Z,((u.tu (λv=>X v\/v=c.heap.size+1)<|λv aH aG=>aG.elim id<|λe=>Q).grow B).bj h Q (λe=>by have:=a3.out _ e;omega)<|.inr rfl,Fr.bj ((R.trans<|eh.fr r f).trans<|Below.Qqr B f) h Q,Q,Q,λe=>by have:=a3.out _ e;omega⟩,aE,Q,Q,λe=>by have:=a3.out _ e;omega,λe=>by have:=aO.out _ e;omega⟩
  have aS:b<c.heap.size+1:=by have:=D.out;omega
  rw[o.out];clear a1 qa Z h u r o a9;have h:Y (∃M K:Nat,M=c.heap.size+1/\K=c.heap.size):=⟨_,_,rfl,rfl⟩;obtain⟨M,K,r,o⟩:=h.out;rw[<-r]at m aS|-;rw[<-o]at m|-;clear r o h D;have b7:M≠b:=Q
  have b8:b≠M:=Q
  have a1:=m.nd.row.cell<|wl _ _ 2;have aN:=m.nd.row.frozen (k:=259) (by rw[gy];omega);have qa:=m.nd.row.cell<|wl _ _ 3;have aB:=m.nd.row.frozen (k:=260) (by rw[gy];omega);simp only at a1 qa;by_cases u:n=42
  .subst u;have o:Y (Qzw w (w4.setCell (O M 260)<|I<|-1) b s ⟨a+1,k,g⟩ nv f X M K z ⟨6,dp,[z],0,0,-1⟩):=m.cell 260 Q _<|Kz _ _<|-1;go_wp2_with (first|(refine ir 117 rfl rfl 271 (.tmp 5) rfl _ rfl _ _ o.nd.row underlying271 rfl (Qjg _ _) ?_));go_call Qzw.done o.out rfl E as e Z ⟨t,rfl,S,T⟩;go_wp21;go_ret;have hF:y=cp ⟨a,k,g⟩ (a+1) (gr z 0<|-1):=by rw[<-x.out,abq<|by rw[l.out];exact A.out,l.out]
   rw[hF];exact⟨t,rfl,S,T⟩
  by_cases D:n=43
  .subst D;have o:Y (Qzw w ((w4.setCell (O M 259)<|I 1).setCell (O M 260)<|I<|-1) b s ⟨a+1,k,g⟩ nv f X M K z ⟨6,dp,[z],0,1,-1⟩):=(m.cell 259 Q (I 1)<|ae0 _ _ 1).cell 260 Q _<|Kz _ _<|-1;go_wp2_with (first|(refine ir 117 rfl rfl 271 (.tmp 5) rfl _ rfl _ _ o.nd.row underlying271 rfl (Qjg _ _) ?_));go_call Qzw.done o.out rfl E as e Z ⟨t,rfl,S,T⟩;go_wp21;go_ret;have hF:y=cp ⟨a,k,g⟩ (a+1) (gr z 1<|-1):=by rw[<-x.out,abr<|by rw[l.out];exact A.out,l.out]
   rw[hF];exact⟨t,rfl,S,T⟩
  by_cases a9:n=63
  .subst a9;have o:Y (Qzw w (w4.setCell (O M 260)<|I 1) b s ⟨a+1,k,g⟩ nv f X M K z ⟨6,dp,[z],0,0,1⟩):=m.cell 260 Q _<|Kz _ _ 1;go_wp2_with (first|(refine ir 117 rfl rfl 271 (.tmp 5) rfl _ rfl _ _ o.nd.row underlying271 rfl (Qjg _ _) ?_));go_call Qzw.done o.out rfl E as e Z ⟨t,rfl,S,T⟩;go_wp21;go_ret;have hF:y=cp ⟨a,k,g⟩ (a+1) (gr z 0 1):=by rw[<-x.out,abs<|by rw[l.out];exact A.out,l.out]
   rw[hF];exact⟨t,rfl,S,T⟩
  have aM:n=123:=Q
  subst aM;obtain⟨bF,q,aT,r⟩:=aa0 a0.W W.out C.out a7 aK.out;have aU:=J r;have aV:a+1<s.size:=Q
  have aW:((s[a+1]).toNat:Int)=(au s (a+1):Int):=oz s (a+1) aV;generalize aD:au s (a+1)=h at aW q aT;have aE:=J aD;have bK:(0:Int)<=a+1:=Q
  have bL:(a:Int)+1<(s.size:Int):=Q
  have W:=m.nd.dr.c3;have C:=m.nd.dr.c4;have aF:=m.nd.dr.f4;simp only at C;clear aD r u D a9 aR;go_upto_region 8 with fail
  go_region;have D:((h:Int)-48)=((h-48:Nat):Int):=Q
  have a6:=J D;have o:Y (Qzw w ((((w4.setCell (O M 259)<|I<|(h:Int)-48).setCell (O M 260)<|I<|(h:Int)-48).setCell (O b 4)<|I<|(a:Int)+1+1).drew) b s ⟨a+2,k,g⟩ nv f X M K z ⟨6,dp,[z],0,h-48,((h-48:Nat):Int)⟩):=by
   rw[D];exact(((m.cell 259 Q (I ((h-48:Nat):Int))<|ae0 _ _<|h-48).cell 260 Q (I ((h-48:Nat):Int))<|Kz _ _ _).ux (v:=(a:Int)+1+1) (a+2) Q Q).drew
  clear D;go_wp21;go_call Iq b ⟨a+2,k,g⟩ _ s f 44 _ o.nd.dr as e a9 ⟨rfl,aD,rfl⟩;have u:Y _:=o.drewN aD;clear o m a1 aN qa aB W C aF;generalize(((((w4.setCell (O M 259)<|I<|(h:Int)-48).setCell (O M 260)<|I<|(h:Int)-48).setCell (O b 4)<|I<|(a:Int)+1+1).drew).drewN aD)=a9 at u|-;have qa:=u.nd.row.cell<|wl _ _ 3;have aB:=u.nd.row.frozen (k:=260) (by rw[gy];omega);have W:=u.nd.dr.c3;have C:=u.nd.dr.c4;have aF:=u.nd.dr.f4;simp only at qa C|-;by_cases r:pk s (a+2)=((44:Nat):Int)
  .have hd:decide (pk s (a+2)=((44:Nat):Int))=true:=qK r
   rw[hd];obtain⟨bG,aN,aR⟩:=aU.out r;have a1:=J r;have aX:a+3<s.size:=Q
   have aY:((s[a+3]).toNat:Int)=(au s (a+3):Int):=oz s (a+3) aX;generalize o:au s (a+3)=m at aY aN aR;have aZ:=J o;have bM:(0:Int)<=a+2+1:=Q
   have bN:(a:Int)+2+1<(s.size:Int):=Q
   clear hd r o;go_upto_region 13 with fail
   go_region;have D:((m:Int)-48)=((m-48:Nat):Int):=Q
   have o:Y (Qzw w ((((a9.setCell (O M 260)<|I<|(m:Int)-48).setCell (O b 4)<|I<|(a:Int)+2+2).setCell (O b 4)<|I<|(a:Int)+2+2+1).drew) b s ⟨a+5,k,g⟩ nv f X M K z ⟨6,dp,[z],0,h-48,((m-48:Nat):Int)⟩):=by
    rw[D];exact(((u.cell 260 Q (I ((m-48:Nat):Int))<|Kz _ _ _).ux (v:=(a:Int)+2+2) (a+4) Q Q).ux (v:=(a:Int)+2+2+1) (a+5) Q Q).drew
   clear D;go_wp2_with (first|(refine ir 117 rfl rfl 271 (.tmp 5) rfl _ rfl _ _ o.nd.row underlying271 rfl (Qjg _ _) ?_));go_call Qzw.done o.out rfl E as e Z ⟨t,rfl,S,T⟩;go_wp21;go_ret;have hF:y=cp ⟨a,k,g⟩ (a+5) (gr z (h-48) ((m-48:Nat):Int)):=by
    rw[<-x.out,abu (by rw[l.out];exact A.out)<|by rw[l.out];exact a1.out,l.out,<-aE.out,<-aZ.out]
   rw[hF];exact⟨t,rfl,S,T⟩
  have hd:decide (pk s (a+2)=((44:Nat):Int))=false:=qK r
  rw[hd];have a1:=J r;have o:Y (Qzw w (a9.setCell (O b 4)<|I<|(a:Int)+2+1) b s ⟨a+3,k,g⟩ nv f X M K z ⟨6,dp,[z],0,h-48,((h-48:Nat):Int)⟩):=u.ux (v:=(a:Int)+2+1) (a+3) Q Q;clear hd r;go_wp2_with (first|(refine ir 117 rfl rfl 271 (.tmp 5) rfl _ rfl _ _ o.nd.row underlying271 rfl (Qjg _ _) ?_));go_call Qzw.done o.out rfl E as e Z ⟨t,rfl,S,T⟩;go_wp21;go_ret;have hF:y=cp ⟨a,k,g⟩ (a+3) (gr z (h-48) ((h-48:Nat):Int)):=by
   rw[<-x.out,abt (by rw[l.out];exact A.out)<|by rw[l.out];exact a1.out,l.out,<-aE.out]
  rw[hF];exact⟨t,rfl,S,T⟩
 have aA:=J V;rw[V]at F;have a5:Y (y=(⟨a,k,g⟩,z)):=by
  have c:¬(bn Bw n=true):=by rw[aA.out];simp
  rw[adm]at c;rw[Y,<-x.out,Tm (λh H=>by rw[l.out];simp only;rw[A.out];omega),l.out]
 clear V;go_wp21;go_quiet ((go_at_call 128;exact Calls.quiet_of_same<|F.out _ _ Q));go_wp21;go_ret;rw[a5.out];exact⟨f,rfl,a4.drewN _,R.trans<|eh.fr (eh.drewN (eh.refl b U) _) f⟩
end
def Dd.yg(D:Dd):Bool:=D.rest.toList.isEmpty&& !D.dq
def Dd.zm(D:Dd):Bool:=D.rest.toList.isEmpty&&D.dq
def Dd.last(D:Dd):Dd:=if D.yg=true then {D with ji:=true} else D
def Vi(e:Dw)(a:Dd)(c g:af)(f:ae)(b:DE e f a c g):
  Calls prog 135 #[.pointer<|some ⟨e.b,0,none⟩] f λi o=>i=.returned (.bool a.zm)/\DQ e c f o a.last c g:=by
 have q:=b.xc 7;have j:=b.xc 6;have p:=b.cd 17;have r:=b.xc 17;have d:=J<|b.q.ji true;have k:=J b.q;have s:=d.1.xc 7;have l:=d.1.xc 6;cases m:a.rest.toList.isEmpty<;>cases hd:a.dq<;>rw[hd]at j l
 all_goals
  have n:Y (a.zm=(a.rest.toList.isEmpty&&a.dq)):=rfl;have h:Y (a.last=if(a.rest.toList.isEmpty&& !a.dq)=true then {a with ji:=true} else a):=rfl;rw[Y,m,hd]at n h;go_in;go_wp21;go_ret
  try rw[h]
  first|exact⟨rfl,k⟩|exact⟨rfl,by have:=d;rw[hd]at this;exact this⟩
def Dz(s:ag):Int:=if ci s 0<s.size then(ci s 0:Int)else-1
def On(b:k<S.size)(a:au S k≠10):jh S (j+1) k=jh S j (k+1):=by rw[jh,G ⟨b,a⟩]
def Kh(a:¬(k<S.size/\au S k≠10)):jh S j k=k:=by
 cases j with
 |zero=>rfl
 |succ j=>rw[jh,N a]
theorem Tj(o:S.size<=1099511000000:=by omega):
  Calls prog 139 #[.string S] W λk m=>k=.returned (.int .i64<|Dz S)/\Below W.heap.size W m:=by
 go_in;go_wp21;go_loop [3] (λh=>∃a:Nat,a<=S.size/\h=I a/\Y (ci S 0=jh S (S.size-a) a)) (λh=>S.size-(intOf h).toNat)
 .exact⟨0,ey _,rfl,rfl⟩
 obtain⟨a,p,rfl,f⟩:=hrel;by_cases b:a<S.size
 .have e:=Cx S a b;have j:S.size-a=S.size-(a+1)+1:=Q
  by_cases d:((S[a].toNat:Int)==10)=true
  .have g:Y (Dz S=(a:Int)):=by
    have i:jh S (S.size-a) a=a:=Kh S _ a (λc=>c.2 qE);rw[Y,Dz,f.out,i,G b]
   go_wp2;go_ret;exact⟨by rw[g.out];rfl,bp _ _⟩
  have n:((S[a].toNat:Int)==10)=false:=qK d
  have l:Y (ci S 0=jh S (S.size-(a+1)) (a+1)):=by
   rw[Y,f.out,j];exact On S _ a b qE
  go_wp2;go_round
  .grind
  simp[intOf];omega
 have g:Y (Dz S=-1):=by
  have i:jh S (S.size-a) a=a:=Kh S _ a<|λc=>b c.1;rw[Y,Dz,f.out,i,N b]
 go_wp2;go_ret;exact⟨by rw[g.out];rfl,bp _ _⟩
def Dd.oe(p:Dw)(D:Dd)(t:ag):Dd:=
 if p.cf.line<ci D.rest 0 then {D with ck:=3}
 else if ci D.rest 0=D.rest.size/\D.dq=false then {D with ji:=true}
 else if D.rest.size=0 then {D with ck:=1}
 else if p.cf.space<t.size+ci D.rest 0 then {D with ck:=4}
 else {D with L:=t++D.rest.extract 0 (ci D.rest 0),rest:=D.rest.extract (ci D.rest 0+1) D.rest.size,number:=D.number+1,put:=false,dt:=0}
def Dd.rm(p:Dw)(D:Dd)(t:ag):Bool:=
 decide (ci D.rest 0<=p.cf.line)&& !(decide (ci D.rest 0=D.rest.size)&& !D.dq)&& !decide (D.rest.size=0)&&decide (t.size+ci D.rest 0<=p.cf.space)
def Tx(b:ag):∀(f a:Nat),a<=b.size->jh b f a<=b.size
 |0,a,h=>h
 |f+1,a,h=>by
  rw[jh];split
  .rename_i c;exact Tx b f (a+1) c.1
  exact h
theorem Tu(d:¬(a=b/\f=false)):(((a:Int)==b)=false)\/(((a:Int)==b)=true/\f=true):=by
 grind
theorem Vn(c:Dw)(a:Dd)(i p:af)(e:ag)(F:Bool)(h:ae)(b:DE c h a i p)(a4:a.rest.size<=1099511000000)(a5:e.size<=1000)(a3:a.number<=1099511000000):
  Calls prog 56 #[.pointer<|some ⟨c.b,0,none⟩,.string e,.bool F] h λE P=>E=.returned (.bool<|a.rm c e)/\DQ c i h P (a.oe c e) i p:=by
 have q:=J b.q;have a6:=b.xc 1;have a7:=b.xc 2;have r:=b.xc 6;have a8:=b.xc 7;have a9:=b.xc 8;have aA:=b.xc 9;have H:=b.xc 14;have R:=b.xc 15;have S:=b.xc 16;have T:=b.xc 17;have a0:=b.cd 7;have a1:=b.cd 8;have a2:=b.cd 9;have U:=b.cd 14;have V:=b.cd 15;have W:=b.cd 16;have X:=b.cd 17;clear b;go_in;go_upto_block 0 with fail
 have z:ci a.rest 0<=a.rest.size:=Tx _ _ _<|ey _;go_cut [7] (λC D=>C=I (ci a.rest 0:Int)/\D=h)
 case first=>
  go_wp21;go_loop [7] (λm=>∃d:Nat,d<=a.rest.size/\m=I d/\Y (ci a.rest 0=jh a.rest (a.rest.size-d) d)) (λm=>a.rest.size-(intOf m).toNat)
  .exact⟨0,ey _,rfl,rfl⟩
  obtain⟨d,s,rfl,j⟩:=hrel;by_cases n:d<a.rest.size
  .have l:=Cx a.rest d n;by_cases f:((a.rest[d].toNat:Int)==10)=true
   .have k:=J (j.trans<|Kh _ _ d<|λb=>b.2<|by rw[<-l];exact Int.ofNat.inj<|qK f);go_wp21;go_meet;exact⟨by rw[k.out],rfl⟩
   have o:((a.rest[d].toNat:Int)==10)=false:=qK f
   have g:Y (ci a.rest 0=jh a.rest (a.rest.size-(d+1)) (d+1)):=by
    rw[Y,j.out,show a.rest.size-d=a.rest.size-(d+1)+1 from Q];exact On _ _ d n (by rw[<-l];intro b;apply f;rw[b];rfl)
   clear f l;go_wp21;go_round
   .exact⟨d+1,Q,qJ,g⟩
   simp[intOf];omega
  have k:=J<|j.trans<|Kh _ _ d<|λb=>n b.1;go_wp21;go_meet;exact⟨by rw[k.out],rfl⟩
 obtain⟨rfl,d⟩:=hcut;have A:=d.symm;subst A;clear d;obtain⟨d,f⟩:∃d,d=ci a.rest 0:=⟨_,rfl⟩;rw[<-f]at z|-;have g:=J f;clear f;by_cases o:c.cf.line<d
 .have k:Y (DQ c i h (h.setCell (O c.b 16)<|I 3) (a.oe c e) i p):=by rw[Dd.oe,<-g.out,G o];exact q.ck 3
  have j:Y (a.rm c e=false):=by rw[Y,Dd.rm,<-g.out];simp;omega
  go_wp21;go_ret;exact⟨by rw[j.out];rfl,k⟩
 by_cases f:d=a.rest.size/\a.dq=false
 .have k:Y (DQ c i h (h.setCell (O c.b 17)<|.bool true) (a.oe c e) i p):=by rw[Dd.oe,<-g.out,N o,G f];exact q.ji true
  have j:Y (a.rm c e=false):=by rw[Y,Dd.rm,<-g.out,f.2];simp[f.1]
  have l:((d:Int)==a.rest.size)=true:=by simp[f.1]
  rw[f.2]at r;clear f;go_wp21;go_ret;exact⟨by rw[j.out];rfl,k⟩
 by_cases m:a.rest.size=0
 .have k:Y (DQ c i h (h.setCell (O c.b 16)<|I 1) (a.oe c e) i p):=by rw[Dd.oe,<-g.out,N o,N f,G m];exact q.ck 1
  have j:Y (a.rm c e=false):=by rw[Y,Dd.rm,<-g.out];simp[m]
  have K:=size_empty m;have l:a.dq=true:=by
   cases hd:a.dq
   .grind
   rfl
  rw[l]at r;have s:d=0:=Q
  clear f;go_wp21;go_ret;exact⟨by rw[j.out];rfl,k⟩
 have K:=Hg m;by_cases s:c.cf.space<e.size+d
 .have k:Y (DQ c i h (h.setCell (O c.b 16)<|I 4) (a.oe c e) i p):=by rw[Dd.oe,<-g.out,N o,N f,N m,G s];exact q.ck 4
  have j:Y (a.rm c e=false):=by rw[Y,Dd.rm,<-g.out];simp;omega
  have w:=Tu f;clear f;obtain l|⟨l,u⟩:=w
  .go_wp21;go_ret;exact⟨by rw[j.out];rfl,k⟩
  rw[u]at r;go_wp21;go_ret;exact⟨by rw[j.out];rfl,k⟩
 have j:Y (a.rm c e=true):=by
  rw[Y,Dd.rm,<-g.out];have:=Tu f;obtain b|⟨_,b⟩:=this
  .grind
  simp[b,m];omega
 have L:decide (c.cf.space<e.size+d)=false:=qK s
 have w:=Tu f;have B:=J f;clear f;have Z:∀t:ae,(Op.stringOp .add e<|a.rest.extract 0 d).run prog t=.ok (.string<|e++a.rest.extract 0 d) t:=λt=>yye (P:=prog) (w:=t) _ _ (by rw[lw];omega)
 have y:Y (a.oe c e={a with L:=e++a.rest.extract 0 d,rest:=a.rest.extract (d+1) a.rest.size,number:=a.number+1,put:=false,dt:=0}):=by
  rw[Y,Dd.oe,<-g.out,N o,N B.out,N m,N s]
 have x:(a.rest.extract d a.rest.size).size=a.rest.size-d:=by rw[lw];omega
 obtain l|⟨l,u⟩:=w
 .have n:d<a.rest.size:=by simp at l;omega
  have M:=Hg (x:=a.rest.extract d a.rest.size) Q;have aB:(1:Int)<=((a.rest.size-d:Nat):Int):=Q
  have v:Y ((a.rest.extract d a.rest.size).extract 1 (a.rest.size-d)=a.rest.extract (d+1) a.rest.size):=by
   rw[Y,ByteArray.extract_extract];congr 1;omega
  clear x;go_wp21;go_ret;refine⟨by rw[j.out];rfl,?_⟩;rw[y.out,<-v.out];exact(((((q.L _).rest _).rest _).num<|a.number+1).Pz _).dt 0
 have n:d=a.rest.size:=by simp at l;omega
 have M:=size_empty (x:=a.rest.extract d a.rest.size) Q;rw[u]at r;have v:Y (a.rest.extract d a.rest.size=a.rest.extract (d+1) a.rest.size):=by
  rw[Y];apply va;simp[yyg,n]
 clear x n;go_wp21;go_ret;refine⟨by rw[j.out];rfl,?_⟩;rw[y.out,<-v.out];exact((((q.L _).rest _).num<|a.number+1).Pz _).dt 0
