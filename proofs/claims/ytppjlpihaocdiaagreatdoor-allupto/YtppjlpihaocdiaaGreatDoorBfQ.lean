import Derived.Test.YtppjlpihaocdiaaGreatDoorAxQ
set_option linter.all false
set_option maxRecDepth 100000
set_option maxHeartbeats 16000000
namespace Go.Proofs.YtppjlpihaocdiaaGreatDoor
open Go.RowKit Go.Proofs.Tryz
variable{w u v:ae}{a b c d e:Nat}{s t:ag}{x y z:af}{p D:Int}{l:List af}{f:Bool}{g:List Nat}{h:Nat->Prop}{o:Option Addr}{r:List UInt8}{A:Nat->Bool}{B:Nat->Nat->Bool}{C:Nat->Nat->Prop}(i:Nat)(S T:ag)(V X:af)(j k m n:Nat)(Z:Int)(W:ae)
def Qzy(w:ae)(A:Addr)(l:List UInt8):Prop:=∀j u,(bv l)[j]?=some u->w.cell? (A.add j)=some u
def ak1{A:Addr}{cap:Nat}{l:List UInt8}(b:Qzy w A l):(convert 99 9<|.slice (some A) l.length cap).run prog w=.ok (.string<|ce l) w:=
 yyt (P:=prog) w 99 9 5 A cap l underlying99 underlying5 underlying9 (λc a=>b c _<|by simp[bv,dy a])
def al0:Calls prog 76 #[.slice none 0 0] W λb c=>b=.returned (.slice none 0 0)/\c=W:=by
 have d:∀(a:ae),(binOp .eql 99 (.slice none 0 0)<|.slice none 0 0).run prog a=.ok (.bool true) a:=λa=>Lib.run_eql_slice_nil a _ _ none 0 0 0 0 underlying99
 go_in;go_wp21;go_ret;exact⟨rfl,rfl⟩
def ar8(a:Array af)(b:a.size=0):(W.alloc<|.cells a 5).ownsRow W.heap.size 5 1 (aa W.heap.size 0 0) 0 []:=by
 refine⟨rfl,.inr ⟨W.heap.size,0,a,rfl,ah,yyb W _,ah,qH,Q,qD⟩⟩
def al1(b:Addr)(d:Nat)(a:List UInt8)(i:Qzy W b a)(E:b.block<W.heap.size)(H:a.length<=70368744177664):Calls prog 76 #[.slice (some b) a.length d] W λh o=>∃m,h=.returned m/\Below W.heap.size W o/\o.ownsRow W.heap.size 5 1 m a.length (bv a):=by
 let⟨p,v,w,y,z⟩:=yyf Ei;have F:∀(e:ae)(f:Addr)(k d:Nat),(binOp .eql 99 (.slice (some f) k d)<|.slice none 0 0).run prog e=.ok (.bool false) e:=λe f k d=>Lib.run_eql_slice_nil e _ _ (some f) k d 0 0 underlying99
 have A:Y (∀l,Qzy (W.alloc l) b a):=λl j C q=>by
  have:=i j C q;rw[<-this];exact bz (w:=W) (w':=W.alloc l) (a:=b.add j)<|im _ _ _ (by have h:(b.add j).block=b.block:=(by unfold Addr.add;split<;>rfl);rw[h];exact E)
 go_in;go_wp2_with (at_builtin;(refine wpList_append_own_at _ rfl _ _ 99 rfl W.heap.size 5 p (.int .u8 0) 1 1 underlying99 v w y z rfl Q (aa W.heap.size 0 0) 0 [] rfl (ar8 W _ rfl) b a.length d (bv a) rfl (by rw[Bk,Nat.mul_one]) (A _) (λf n=>by simp[bv]at n;obtain⟨M,_,rfl⟩:=n;rfl) qH Q qD ?_;intro r D g c u B;have s:Y (D.ownsRow W.heap.size 5 1 r a.length<|bv a):=(by rw[qo]at g;exact g);have t:=(mj W _).trans ⟨c.os,c.tape,c.output,c.size,λx L=>c.block x qB<|by simp[Value.ownBlock];omega⟩;clear g c u B));go_ret;exact⟨_,rfl,t,s⟩
theorem At.km{l:Cf}{g:Ed}{k:Ev}(o:At w a l g k)(e:k.ot= aa b g.out.length c)(d h:Nat)(p:d+h<=g.out.length):Qzy w (O b d) ((g.out.drop d).take h):=by
 intro f q i
 have j:=o.ot;rw[e]at j;have m:f<h:=by
  obtain e|e:=hb f h
  .exact e
  rw[je<|by rw[Bk,yxb];omega]at i;cases i
 have n:((O b d):Addr).add f=(O b<|d+f):=by unfold Addr.add;split<;>simp_all
 rw[n,j.cellAt (d+f) Q,<-i];simp[bv,Cg,m,zya]
def av1(a:Ed)(b:Int):min (max b 0) (a.ud:Int)=((a.vr b:Nat):Int):=by
 unfold Ed.vr;omega
def At.al2{c:Cf}{b:Ed}{d:Ev}(j:At w a c b d)(f:Below w.heap.size w u)(e:u.ownsRow w.heap.size 5 1 x r.length (bv r)):
  bd u a (pb c b d)/\Ok w a c d {b with out:=r,ca:=0} ((u.setCell (O a 9) x).setCell (O a 10)<|I 0):=by
 obtain⟨g,h⟩:=j.Kl (w2:=u) (nv:=x) (l:=r) (Gn.below f λl i=> .inr (e.lt l i).1) (World.ownsRow.mono e Q);exact⟨g,h.ok.put (E':={b with out:=r,ca:=0})<|λm k=>⟨(bf.refl _ _).setCell _ _,jx k.row 10 _ Q rfl⟩⟩
def At.al3{c:Cf}{b:Ed}{e d:Ev}(j:At u a c b d)(hF:Fe a e d w u)(g:Below u.heap.size u v)(f:v.ownsRow u.heap.size 5 1 x r.length (bv r)):
  bd v a (pb c b d)/\Ok w a c e {b with out:=r,ca:=0} ((v.setCell (O a 9) x).setCell (O a 10)<|I 0):=by
 let⟨h,i,k,l⟩:=j.al2 g f;exact⟨h,i,k,hF.trans l⟩
def Yr(a:Ed)(b:Int):a.take b=if a.out.length<=2*(a.ca+a.vr b)then({a with out:=a.out.drop<|a.ca+a.vr b,ca:=0},ce<|(a.out.drop a.ca).take<|a.vr b)else({a with ca:=a.ca+a.vr b},ce<|(a.out.drop a.ca).take<|a.vr b):=rfl
def TQ(cf:Cf)(b:Nat)(r:Ed×ag)(w:ae)(v:Ev):Ending->ae->Prop:=λe w'=>e=.returned (.string r.2)/\Ok w b cf v r.1 w'
def aw6(o:Cf)(a:Ed)(q:Ev)(j:Int)(c:ae)(e:At c i o a q)(W:a.ca<=a.out.length)(V:a.out.length<=70368744177664):
  Calls prog 52 #[.pointer<|some ⟨i,9,none⟩,.int .i64 j] c (TQ o i (a.take j) c q):=by
 have a5:=e.xc 10;have aL:=e.cd 9 Q;have aH:=e.cd 10 Q;have r:=ajw i o a q c e W V;have B:=av1 a j;have C:a.ca+a.vr j<=a.out.length:=by unfold Ed.vr Ed.ud;omega
 have Z:=e.xc 9;have n:Y _:=Yr a j;obtain⟨d,E⟩|⟨g,p,d,aE⟩:=El e.ot
 .rw[d]at Z;have b:=Ex.1 E;have h:a.ca=0:=Q
  have z:a.vr j=0:=Q
  have v:Y (a.take j=({a with out:=[],ca:=0},ce [])):=by
   rw[Y,n.out,z,h,b];rfl
  have K:∀f,(convert 99 9<|.slice none 0 0).run prog (c.drewN f)=.ok (.string<|ce []) (c.drewN f):=λf=>Nz 0 (.slice none 0 0) [] (c.drewN f)<|yyc _ _ _ 1
  have t:Y (∀f,Ok c i o q {a with out:=[],ca:=0} ((((c.setCell (O i 10)<|I 0).setCell (O i 9)<|.slice none 0 0).setCell (O i 10)<|I 0).drewN f)):=λf=>by
   refine(e.put (E':={a with out:=[],ca:=0}) ((xxs.setCell _ _).setCell _ _) (jx (E:={a with out:=[],ca:=0}) (jx (E:={a with ca:=0}) (jx e.row 10 _ Q rfl) 9 _ Q ?_) 10 _ Q rfl) rfl b.symm).drewN f;simp[pb,d]
  have k:=J al0;rw[z]at B C;rw[h]at a5;generalize a.ud=rd at B r;rw[v.out];generalize ce ([]:List UInt8)=F at K|-;clear e d C W V n E b h z;go_in;go_wp21;go_call r;rintro d a1 ⟨rfl,l,rfl⟩;clear r;go_wp21;go_region
  all_goals
   go_wp21;go_region
   all_goals
    go_wp21;go_region_with (first
     |(go_at_call 76;(go_call k as d P ⟨rfl,b⟩;subst b)))
    all_goals
     go_wp21;go_ret
     first
      |exact⟨rfl,t<|l+3⟩
      |exact⟨rfl,t<|l+1+1+1⟩
      |exact⟨rfl,t<|l+2⟩
 rw[d]at Z;have a6:=(e.ot.lt g<|by rw[d];rfl).2;have a7:g≠i:=λaC=>e.ap.b2 (by rw[d,<-aC];rfl)
 generalize R:a.vr j=b at B C n;generalize a.ud=rd at B r;obtain⟨w,aM,k⟩:∃w:Addr,(if p=a.ca then some ((O g 0):Addr)else some (O g a.ca))=some w/\Qzy c w ((a.out.drop a.ca).take b):=by
  by_cases x:p=a.ca
  .refine⟨(O g 0),by rw[G x],?_⟩;have z:b=0:=Q
   subst z;exact λh A s=>by simp[bv]at s
  exact⟨(O g a.ca),by rw[N x],e.km d a.ca b C⟩
 have aF:a.ca+b-a.ca=b:=Q
 have K:∀f,(convert 99 9<|.slice (some w) b<|p-a.ca).run prog (c.drewN f)=.ok (.string<|ce<|(a.out.drop a.ca).take b) (c.drewN f):=λf=>by
  have m:b=((a.out.drop a.ca).take b).length:=qB
  have:=ak1 (w:=c.drewN f) (A:=w) (cap:=p-a.ca) (l:=(a.out.drop a.ca).take b) k;rw[<-m]at this;exact this
 have S:Y (Ok c i o q {a with ca:=a.ca+b} (c.setCell (O i 10)<|I<|(a.ca:Int)+b)):=e.put xxs (jx e.row 10 _ Q<|by simp[pb]);clear k;generalize ce ((a.out.drop a.ca).take b)=F at K n;by_cases D:a.out.length<=2*(a.ca+b)
 .have v:Y (a.take j=({a with out:=a.out.drop<|a.ca+b,ca:=0},F)):=by rw[Y,n.out,G D]
  obtain⟨U,a2,a3⟩:=S;have a8:U.ot=q.ot\/True:=.inr trivial;obtain⟨k,aI,M,u⟩:∃k:Addr,(if p=a.ca+b then some ((O g 0):Addr)else some (O g<|a.ca+b))=some k/\Qzy (c.setCell (O i 10)<|I<|(a.ca:Int)+b) k (a.out.drop<|a.ca+b)/\k.block=g:=by
   have L:Qzy c (O g<|a.ca+b) (a.out.drop<|a.ca+b):=by
    have:=e.km d (a.ca+b) (a.out.length-(a.ca+b)) Q;rw[Hh<|by rw[List.length_drop];exact ah]at this;exact this
   have y:∀h,(c.setCell (O i 10)<|I<|(a.ca:Int)+b).cell? (((O g<|a.ca+b):Addr).add h)=c.cell? (((O g<|a.ca+b):Addr).add h):=λh=>by
    have H:bf i c (c.setCell (O i 10)<|I<|(a.ca:Int)+b):=(bf.refl _ _).setCell _ _;have m:(((O g<|a.ca+b):Addr).add h).block=g:=by unfold Addr.add;split<;>rfl
    exact bz<|H.block _<|by rw[m];exact a7
   by_cases x:p=a.ca+b
   .refine⟨(O g 0),by rw[G x],?_,rfl⟩;have E:a.out.drop (a.ca+b)=[]:=yym Q;rw[E];exact λh A s=>by simp[bv]at s
   exact⟨(O g<|a.ca+b),by rw[N x],λh A s=>(y h).trans<|L h A s,rfl⟩
  have y:(a.out.drop<|a.ca+b).length=a.out.length-(a.ca+b):=List.length_drop;have T:Y (∀(m:ae)(H:Nat),Qzy m k (a.out.drop<|a.ca+b)->k.block<m.heap.size->Calls prog 76 #[.slice (some k) (a.out.length-(a.ca+b)) H] m λd a0=>∃L,d=.returned L/\Below m.heap.size m a0/\a0.ownsRow m.heap.size 5 1 L (a.out.drop<|a.ca+b).length (bv<|a.out.drop<|a.ca+b)):=λm H aD D=>by
   have:=al1 m k H (a.out.drop<|a.ca+b) aD D Q;rw[y]at this|-;exact this
  have qa:=J M;have a4:k.block<c.heap.size:=by rw[u];exact a6
  generalize a.out.drop (a.ca+b)=X at v T qa;rw[v.out];clear e d n M y a8 u R;have u:(c.setCell (O i 10)<|I<|(a.ca:Int)+b).heap.size=c.heap.size:=qD
  have a8:=J u;clear u;have aO:(0:Int)<=a.ca+(b:Int):=Q
  have aP:(a.ca:Int)+b<=(a.out.length:Int):=Q
  have aQ:((a.ca:Int)+b).toNat=a.ca+b:=Q
  have aR:(a.ca:Int)+b<=(p:Int):=Q
  go_in;go_wp21;go_call r;rintro d a1 ⟨rfl,l,rfl⟩;clear r;go_wp21;go_region
  all_goals
   go_wp21;go_region
   all_goals
    go_wp21;go_region_with (first
     |(go_at_call 76;(have u:=T (((c.drewN<|l+1).setCell (O i 10)<|I<|(a.ca:Int)+b).drew.drew) (p-(a.ca+b)) (λh A s=>qa h A s)<|Nat.lt_of_lt_of_eq a4 a8.symm;go_call u;clear u;rintro d P ⟨L,rfl,u,M⟩;obtain⟨aA,aB,a9⟩:=yq M;subst a9;have y:Y (bd P i (pb o {a with ca:=a.ca+b} U)/\Ok c i o q {a with out:=X,ca:=0} ((P.setCell (O i 9)<|.slice aA X.length aB).setCell (O i 10)<|I 0)):=a2.al3 a3 ⟨u.os,u.tape,u.output,u.size,u.block⟩ M;have aN:=y.1.xc 9;have aJ:=y.1.frozen (k:=9) (by rw[Eb];omega);have aK:=y.1.xc 10;have aG:=y.1.frozen (k:=10) (by rw[Eb];omega);clear u M)))
    all_goals
     go_wp21;go_ret;exact⟨rfl,y.2⟩
 have v:Y (a.take j=({a with ca:=a.ca+b},F)):=by rw[Y,n.out,N D]
 have t:Y (∀f,Ok c i o q {a with ca:=a.ca+b} ((c.setCell (O i 10)<|I<|(a.ca:Int)+b).drewN f)):=λf=>S.drewN f
 rw[v.out];clear e d n R;go_in;go_wp21;go_call r;rintro d a1 ⟨rfl,l,rfl⟩;clear r;go_wp21;go_region
 all_goals
  go_wp21;go_region
  all_goals
   go_wp21;go_ret
   first
    |exact⟨rfl,t<|l+3⟩
    |exact⟨rfl,t<|l+1+1+1⟩
    |exact⟨rfl,t<|l+2⟩
def av3(e:Cf)(a:Ed)(f:Ev)(b:Int)(c:ae)(h:At c i e a f)(j:a.ca<=a.out.length)(k:a.out.length<=70368744177664):
  Calls prog 31 #[.pointer<|some ⟨i,0,none⟩,.int .i64 b] c (TQ e i (a.take b) c f):=by
 have d:=aw6 i e a f b c h j k;generalize a.take b=o at d|-;go_in;go_wp21;go_call d;rintro m n ⟨rfl,g⟩;have l:=J g;go_wp21;go_ret;exact⟨rfl,l⟩
def uf(n m:Int):Bool:=decide (1<=n/\n<=m)
def Zf(a b:Int)(f:ae):Calls prog 71 #[.int .i64 a,.int .i64 b] f λh i=>h=.returned (.bool<|uf a b)/\i=f:=by
 by_cases e:1<=a
 .have g:decide ((1:Int)<=a)=true:=qK e
  have d:Y (uf a b=decide (a<=b)):=by rw[Y,uf,decide_eq_decide];omega
  rw[d.out];rcases df (decide (a<=b))with c|c
  all_goals
   rw[c];go_in;go_wp21;go_ret;exact⟨rfl,rfl⟩
 have d:Y (uf a b=false):=by rw[Y,uf];simp;omega
 rw[d.out];go_in;go_wp21;go_ret;exact⟨rfl,rfl⟩
def uo(a b c:Int):Bool:=uf a 80&&uf b 80&&uf c 1000
def akt(c e g:Int)(s:Bool)(b:ae):Calls prog 46 #[.agg #[.int .i64 c,.int .i64 e,.int .i64 g,.bool s]] b λa u=>a=.returned (.bool<|uo c e g)/\Below b.heap.size b u:=by
 have q:Y (uo c e g=(uf c 80&&uf e 80&&uf g 1000)):=rfl;have i:=λh=>Zf c 80 h
 have j:=λh=>Zf e 80 h
 have k:=λh=>Zf g 1000 h
 rw[q.out];generalize uf c 80=v at i|-;generalize uf e 80=w at j|-;generalize uf g 1000=x at k|-;have l:Y _:=i;have r:Y _:=j;have t:Y _:=k;have m:Y (∀o,Below b.heap.size b<|b.alloc o):=λo=>mj b o
 obtain n|n:=df v<;>subst n
 .obtain p|p:=df w<;>subst p
  .go_in;go_wp21;go_call l as a f ⟨rfl,d⟩;subst d;go_wp21;go_call r as a f ⟨rfl,d⟩;subst d;go_wp21;go_call t as a f ⟨rfl,d⟩;subst d;go_wp21;go_ret;exact⟨rfl,m _⟩
  go_in;go_wp21;go_call l as a f ⟨rfl,d⟩;subst d;go_wp21;go_call r as a f ⟨rfl,d⟩;subst d;go_wp21;go_ret;exact⟨rfl,m _⟩
 go_in;go_wp21;go_call l as a f ⟨rfl,d⟩;subst d;go_wp21;go_ret;exact⟨rfl,m _⟩
def apz:(prog.info? 4).map (λa=>(a.zero,a.size,a.bytes))=some (some<|.bool false,1,1):=qF
def Xn(j:i<=100000):∃b:Array af,b.size=i/\b.toList=ov (List.replicate i false)/\∀a:ae,(Instr.makeSlice 109 (I i)<|I i).run prog a=.ok (aa a.heap.size i i) (a.alloc<|.cells b 4):=by
 let⟨h,c,d,e,f⟩:=yyf apz;refine⟨madeCells (Value.bool false).cells<|i*1,by simp[size_madeCells],?_,λa=>?_⟩
 .have g:(Value.bool false).cells=#[.bool false]:=rfl;rw[g,toList_madeCells_one,Nat.mul_one];simp[ov]
 have:=yxt (P:=prog) a 109 4 h _ underlying109 c d .i64 .i64 i i Q (yzw _) (by rw[f];omega) Q;rw[e]at this;simpa using this
def asx{b:Ed->Ed}(k:Pu b)(e:Ed->Nat)(f:∀a c d,e (a.re c d)=e a):Dp λa=>(b a).fv (e<|b a):=λa c d=>by
 let⟨i,g,h,j⟩:=k a c d;refine⟨i,g,h,?_⟩;show(b<|a.re c d).fv (e<|b<|a.re c d)=_
 rw[j,f];rfl
def agf:Pu λa=>a:=λa b c=>⟨[],qD,rfl,qD⟩
def asy:Dp λa=>(a,i):=λa b c=>⟨[],qD,rfl,qD⟩
theorem Xa(b:Cf)(c:Bool):Dp (Ed.kq b c):=λa d e=>by
 have k:(a.re d e).mh b=a.mh b:=rfl;let⟨i,l,m,n⟩:=agj b c a d e;by_cases f:a.mh b=true
 .by_cases j:(a.ej b c).2=true
  .have g:a.kq b c=(a.ej b c).1.fv ((a.ej b c).1.H+1):=by rw[Ed.kq,G f,G j]
   have h:(a.re d e).kq b c=((a.ej b c).1.re (d++i) e).fv ((a.ej b c).1.H+1):=by rw[Ed.kq,k,G f,n,G j];rfl
   rw[g,h];exact⟨i,l,m,rfl⟩
  have g:a.kq b c=((a.ej b c).1,0):=by rw[Ed.kq,G f,N j]
  have h:(a.re d e).kq b c=((a.ej b c).1.re (d++i) e,0):=by rw[Ed.kq,k,G f,n,N j]
  grind
 have g:a.kq b c=(a,0):=by rw[Ed.kq,N f]
 have h:(a.re d e).kq b c=(a.re d e,0):=by rw[Ed.kq,k,N f]
 simp_all
theorem asw(b:Cf)(e:Bool):Dp λa=>a.ix b e:=λa c d=>by
 have l:(a.re c d).bg=a.bg:=rfl;have m:(a.re c d).known=a.known:=rfl;have n:(a.re c d).more=a.more:=rfl;by_cases f:a.bg=3/\a.known=false
 .have g:a.ix b e=(a,0):=by rw[ut,G f]
  have h:(a.re c d).ix b e=(a.re c d,0):=by rw[ut,l,m,G f]
  simp_all
 by_cases i:a.bg=3/\a.more=false
 .have g:a.ix b e=(a,4):=by rw[ut,N f,G i]
  have h:(a.re c d).ix b e=(a.re c d,4):=by rw[ut,l,m,n,N f,G i]
  simp_all
 by_cases j:a.bg=3
 .cases e with
  |true=>
   have g:a.ix b true=({a with bg:=4}:Ed).kq b true:=by rw[ut,N f,N i,G j];rfl
   have h:(a.re c d).ix b true=(({a with bg:=4}:Ed).re c d).kq b true:=by rw[ut,l,m,n,N f,N i,G j];rfl
   simp only[g,h];exact Xa b true {a with bg:=4} c d
  |false=>
   let⟨k,q,r,s⟩:=Px (agi b) Wz a c d;have p:((a.re c d).ja b).fq=((a.ja b).fq).re (c++k) d:=s;have g:a.ix b false=({(a.ja b).fq with bg:=4}:Ed).kq b false:=by rw[ut,N f,N i,G j];rfl
   have h:(a.re c d).ix b false=(({(a.ja b).fq with bg:=4}:Ed).re (c++k) d).kq b false:=by
    have o:(a.re c d).ix b false=({((a.re c d).ja b).fq with bg:=4}:Ed).kq b false:=by rw[ut,l,m,n,N f,N i,G j];rfl
    rw[o,p];rfl
   simp only[g,h];let⟨o,t,u,v⟩:=Xa b false {(a.ja b).fq with bg:=4} (c++k) d;grind
 have g:a.ix b e=a.kq b e:=by rw[ut,N f,N i,N j]
 have h:(a.re c d).ix b e=(a.re c d).kq b e:=by rw[ut,l,m,n,N f,N i,N j]
 simp only[g,h];exact Xa b e a c d
theorem asv:Dp Ed.Ag:=λa b c=>by
 have e:(a.re b c).L=a.L:=rfl;cases hd:xk a.L with
 |none=>
  have d:=Of (by rw[e];exact hd);rw[Of hd,d];simp_all
 |some f=>
  have d:(a.re b c).Ag=((({a with L:=f}:Ed).re b c).fq,2):=Og (E:=a.re b c) (by rw[e];exact hd);rw[Og hd,d];let⟨h,g,i,j⟩:=Wz {a with L:=f} b c;grind
theorem agm(e:Mf)(c:Cf)(b:Cm):Dp λa=>a.cz e c b:=by
 by_cases h:b.R=1
 .have d:(λa:Ed=>a.cz e c b)=λa=>(a,3):=funext λa=>by rw[Ed.cz,G h]
  rw[d];exact asy 3
 by_cases i:b.R=2
 .have d:(λa:Ed=>a.cz e c b)=Ed.Ag:=funext λa=>by rw[Ed.cz,N h,G i];rfl
  rw[d];exact asv
 by_cases j:b.R=16
 .have d:(λa:Ed=>a.cz e c b)=λa=>(a.print b.text,3):=funext λa=>by rw[Ed.cz,N h,N i,G j]
  rw[d];intro a f g
  let⟨l,m,n,s⟩:=Ha (λ_=>b.text) (λ_ _ _=>rfl) a f g;grind
 by_cases k:b.R=3\/b.R=4
 .have d:(λa:Ed=>a.cz e c b)=λa=>a.ix c (decide (b.R=4)):=funext λa=>by rw[Ed.cz,N h,N i,N j,G k]
  rw[d];exact asw c _
 by_cases p:b.R=13
 .have d:(λa:Ed=>a.cz e c b)=λa=>({a with ck:=2},4):=funext λa=>by rw[Ed.cz,N h,N i,N j,N k,G p]
  rw[d];exact λa f g=>⟨[],qD,rfl,by simp[Ed.re]⟩
 by_cases q:b.R=17
 .have d:(λa:Ed=>a.cz e c b)=λa=>a.fv b.cn:=funext λa=>by rw[Ed.cz,N h,N i,N j,N k,N p,G q]
  rw[d];exact asx agf (λ_=>b.cn)<|λ_ _ _=>rfl
 by_cases t:b.R=18
 .have d:(λa:Ed=>a.cz e c b)=λa=>if a.put=true then({a with put:=false}:Ed).fv b.cn else a.fv (a.H+1):=funext λa=>by rw[Ed.cz,N h,N i,N j,N k,N p,N q,G t]
  rw[d];intro a f g
  by_cases o:a.put=true
  .have r:(a.re f g).put=true:=o;simp only[G o,G r];exact⟨[],by simp[Ed.fv],rfl,by simp[Ed.fv,Ed.re]⟩
  have r:¬(a.re f g).put=true:=o;simp only[N o,N r];exact⟨[],by simp[Ed.fv],rfl,by simp[Ed.fv,Ed.re]⟩
 have d:(λa:Ed=>a.cz e c b)=λa=>match a.ea e c b with|none=>a.stop 4|some o=>o.fv (o.H+1):=funext λa=>by rw[Ed.cz,N h,N i,N j,N k,N p,N q,N t];rfl
 rw[d];intro a f g
 obtain⟨m,n⟩|⟨o,l,m,n,s,v⟩:=asz e c b a f g
 .have r:a.ea e c b=none:=m;have u:(a.re f g).ea e c b=none:=n;simp only[r,u];exact⟨[],by simp[Ed.stop],rfl,by simp[Ed.stop,Ed.re]⟩
 have r:a.ea e c b=some o:=m;have u:(a.re f g).ea e c b=some (o.re (f++l) g):=v;simp only[r,u];exact⟨l,by simp[Ed.fv,n],by simp[Ed.fv,s],rfl⟩
theorem agl(c:Mf)(k:Cf)(b:Cm):Dp λa=>a.choose c k b:=λa d e=>by
 by_cases g:a.bg=2
 .let⟨s1,s2,s3⟩:=as9 c a b d e;have j:(a.re d e).bg=2:=g;simp only[Ie g,Ie j,s1];rcases f:a.gz c b with⟨m,n,o⟩;rw[f]at s2 s3;simp only at s2 s3|-;by_cases h:o=false
  .simp_all
  rw[N h,N h];by_cases i:n=b.neg
  .rw[G i,G i];exact⟨[],by simp[Ed.fv,s2],by simp[Ed.fv,s3],by simp[Ed.fv,Ed.re]⟩
  rw[N i,N i];let⟨l,p,q,r⟩:=agm c k b {m with bg:=3} d e;exact⟨l,qE,by rw[q];exact s3,r⟩
 have j:(a.re d e).bg≠2:=g;simp only[Oa g,Oa j];exact agm c k b a d e
def asu(c:Mf)(b:Cf):Dp λa=>a.dv c b:=λa d e=>by
 by_cases f:a.bg=1
 .have i:(a.re d e).bg=1:=f;by_cases j:a.cx=b.dt
  .have k:(a.re d e).cx=b.dt:=j;have g:a.dv c b=a.stop 5:=by rw[Ed.dv,G f,G j]
   have h:(a.re d e).dv c b=(a.re d e).stop 5:=by rw[Ed.dv,G i,G k]
   simp only[g,h];exact⟨[],by simp[Ed.stop],rfl,by simp[Ed.stop,Ed.re]⟩
  have k:¬(a.re d e).cx=b.dt:=j;have g:a.dv c b=({a with cx:=a.cx+1,bg:=2}:Ed).choose c b (b.U.getD a.H Ek):=by rw[Ed.dv,G f,N j]
  have h:(a.re d e).dv c b=(({a with cx:=a.cx+1,bg:=2}:Ed).re d e).choose c b (b.U.getD a.H Ek):=by rw[Ed.dv,G i,N k];rfl
  simp only[g,h];exact agl c b _ {a with cx:=a.cx+1,bg:=2} d e
 have i:¬(a.re d e).bg=1:=f;have g:a.dv c b=a.choose c b (b.U.getD a.H Ek):=by rw[Ed.dv,N f]
 have h:(a.re d e).dv c b=(a.re d e).choose c b (b.U.getD a.H Ek):=by rw[Ed.dv,N i];rfl
 simp only[g,h];exact agl c b _ a d e
theorem Hb(c:Mf)(b:Cf):∀(f g:Nat),Pu λa=>a.hu c b f g
 |0,g=>λa d e=>⟨[],by simp[Ed.hu],rfl,by simp[Ed.hu]⟩
 |f+1,g=>λa d e=>by
  rcases(Q:g=0\/g=1\/g=2\/g=3\/4<=g)with rfl|rfl|rfl|rfl|w
  .let⟨h,k,l,m⟩:=asr b {a with bg:=0} d e;have r:(({a.re d e with bg:=0}:Ed)).mi b=((({a with bg:=0}:Ed).mi b).1.re (d++h) e,(({a with bg:=0}:Ed).mi b).2):=m;simp only[zt,r];by_cases i:(({a with bg:=0}:Ed).mi b).2=true
   .rw[G i,G i];let⟨j,n,o,p⟩:=Hb c b f 1 {(({a with bg:=0}:Ed).mi b).1 with H:=0} (d++h) e;refine⟨h++j,?_,?_,?_⟩
    .grind
    .rw[o];exact l
    rw[<-nt];exact p
   rw[N i,N i];grind
  .have i:(a.re d e).H=a.H:=rfl;simp only[Ce,i];split
   .exact Hb c b f 3 a d e
   exact Hb c b f 2 {a with bg:=1} d e
  .let⟨h,k,l,m⟩:=asu c b a d e;have r:(a.re d e).dv c b=((a.dv c b).1.re (d++h) e,(a.dv c b).2):=m;simp only[ug,r];have fin:∀(g:Nat)(i:Ed),i.out=(a.dv c b).1.out->i.ca=(a.dv c b).1.ca->∃j,(i.hu c b f g).out=a.out++j/\(i.hu c b f g).ca=a.ca/\(i.re (d++h) e).hu c b f g=(i.hu c b f g).re (d++j) e:=λg i q s=>by
    let⟨j,n,o,p⟩:=Hb c b f g i (d++h) e;grind
   split
   .grind
   split
   .simp_all
   split
   .exact fin 1 {(a.dv c b).1 with H:=0} rfl rfl
   split
   all_goals simp_all
  .exact Px (agi b) (Hb c b f 4) a d e
  have t:∀i:Ed,i.hu c b (f+1) g=if i.fq.ck=0 then i.fq.hu c b f 0 else i.fq:=λi=>by
   obtain⟨q,rfl⟩:∃q,g=q+4:=⟨g-4,Q⟩;rfl
  let⟨h,k,l,m⟩:=Wz a d e;simp only[t,m];by_cases q:a.fq.ck=0
  .have s:(a.fq.re (d++h) e).ck=0:=q;rw[G q,G s];let⟨j,n,o,p⟩:=Hb c b f 0 a.fq (d++h) e;grind
  have s:¬(a.fq.re (d++h) e).ck=0:=q;grind
def agk(c:Mf)(b:Cf):Pu λa=>a.work c b:=λa d e=>Hb c b 10000 (if a.bg=0 then 0 else 2) a d e
theorem ast(d:Mf)(c:Cf)(b:UInt8):Pu λa=>a.sc d c b:=λa e f=>by
 have j:(a.re e f).ru=a.ru:=rfl;by_cases g:a.ru=true
 .have h:a.sc d c b=(a.add b).work d c:=by rw[Ed.sc,G g]
  have i:(a.re e f).sc d c b=((a.add b).re e f).work d c:=by
   rw[Ed.sc,j,G g];have:(a.re e f).add b=(a.add b).re e f:=by unfold Ed.add;split<;>rfl
   rw[this]
  have k:(a.add b).out=a.out/\(a.add b).ca=a.ca:=by unfold Ed.add;split<;>exact⟨rfl,rfl⟩
  simp only[h,i];let⟨l,m,n,o⟩:=agk d c (a.add b) e f;grind
 have h:a.sc d c b=a:=by rw[Ed.sc,N g]
 have i:(a.re e f).sc d c b=a.re e f:=by rw[Ed.sc,j,N g]
 simp_all
def age(d:Mf)(a:Cf):∀b:List UInt8,Pu λe=>e.ly d a b
 | []=>agf
 |c::b=>Px (ast d a c)<|age d a b
theorem ass(c:Mf)(b:Cf):Pu λa=>a.rh c b:=λa d e=>by
 have i:(a.re d e).ru=a.ru:=rfl;by_cases f:a.ru=true
 .have g:a.rh c b=({a with dq:=true}:Ed).work c b:=by rw[Ed.rh,G f]
  have h:(a.re d e).rh c b=(({a with dq:=true}:Ed).re d e).work c b:=by rw[Ed.rh,i,G f];rfl
  simp only[g,h];exact agk c b {a with dq:=true} d e
 have g:a.rh c b=a:=by rw[Ed.rh,N f]
 have h:(a.re d e).rh c b=a.re d e:=by rw[Ed.rh,i,N f]
 simp_all
structure Sf(p:List UInt8)(E E':Ed):Prop where
 eq:E'=E.re E'.out E'.ca
 out:E.out=p++E'.out.drop E'.ca
 ca:E.ca=0
 le:E'.ca<=E'.out.length
def Sf.take{h:List UInt8}{e a:Ed}(b:Sf h e a)(c:Int):Sf (h++Qjj (a.take c).2) e (a.take c).1:=by
 have i:a.ca+a.vr c<=a.out.length:=by have:=b.le;unfold Ed.vr Ed.ud;omega
 have f:(a.out.drop a.ca)=(a.out.drop a.ca).take (a.vr c)++a.out.drop (a.ca+a.vr c):=by
  rw[<-List.drop_drop,yzh]
 have g:∀d:List UInt8,Qjj (ce d)=d:=λd=>by simp[Qjj,ce]
 rw[Yr];split
 .refine⟨?_,?_,b.ca,qD⟩
  .have:=b.eq;rw[this];rfl
  simp only[g,List.drop_zero];rw[b.out,nt,<-f]
 refine⟨?_,?_,b.ca,i⟩
 .have:=b.eq;rw[this];rfl
 simp only[g];rw[b.out,nt,<-f]
theorem WX:∀(b:List ag)(a:Ed),(a.lp b).dq=a.dq
 | [],_=>rfl
 |t::b,a=>WX b<|a.print t
theorem WK(a:Ed):a.fq.dq=a.dq:=WX a.cy a
theorem WV(b:Cf)(a:Ed):(a.ja b).dq=a.dq:=by unfold Ed.ja;split<;>rfl
theorem WW(b:Cf)(c:Bool)(a:Ed):(a.ej b c).1.dq=a.dq:=by grind [Ed.ej,Ed.vu,Ed.grow,Ed.kz,Ed.read]
theorem WY(b:Cf)(a:Ed):(a.mi b).1.dq=a.dq:=by grind [Ed.mi,WW]
theorem WP(c:Mf)(a:Ed)(b:Cm):(a.gz c b).1.dq=a.dq:=by grind [Ed.gz]
theorem wQ(f:Mf)(e:Cf)(b:Ed)(d:Cm)(c:Ed)(a:b.ea f e d=some c):c.dq=b.dq:=by
 by_cases q:d.R∈[5,6,12,14,15,7,8,9,10,11,19,20]
 .simp at q;obtain q|q|q|q|q|q|q|q|q|q|q|q:=q<;>simp[Ed.ea,q]at a<;>grind [Ed.print,Ed.kz,Ed.grow,Ed.holds,Ed.subst]
 simp at q;simp[Ed.ea,q]at a;rw[a]
theorem wZ(b:Cf)(a:Ed)(c:Bool):(a.ix b c).1.dq=a.dq:=by grind [Ed.ix,WW,WV,WK,Ed.fv]
theorem wJ(d:Mf)(c:Cf)(a:Ed)(b:Cm):(a.cz d c b).1.dq=a.dq:=by
 have f:=wQ d c a b;have e:=wZ c a<|decide (b.R=4);by_cases q:b.R∈[1,2,16,3,4,13,17,18]
 .simp at q;obtain q|q|q|q|q|q|q|q:=q<;>simp[Ed.cz,q]at e|-<;>grind [WK,Ed.fv,Ed.print]
 simp at q;simp[Ed.cz,q]
 grind [Ed.fv,Ed.stop]
theorem wX(c:Mf)(b:Cf)(a:Ed):(a.dv c b).1.dq=a.dq:=by grind [Ed.dv,Ed.choose,wJ,WP,Ed.fv,Ed.stop]
theorem wK(c:Mf)(b:Cf):∀(f d:Nat)(a:Ed),(a.hu c b f d).dq=a.dq
 |0,_,_=>rfl
 |f+1,0,a=>by grind [Ed.hu,WY,wK c b f]
 |f+1,1,a=>by grind [Ed.hu,wK c b f]
 |f+1,2,a=>by grind [Ed.hu,wX,wK c b f]
 |f+1,3,a=>by grind [Ed.hu,WV,wK c b f]
 |f+1,d+4,a=>by
  have:=wK c b f 0 a.fq;simp only[Ed.hu]
  grind [WK]
theorem QP(c:Mf)(b:Cf)(a:Ed):(a.rh c b).ru=false:=by grind [Ed.rh,Ed.ru,Ed.work,wK]
