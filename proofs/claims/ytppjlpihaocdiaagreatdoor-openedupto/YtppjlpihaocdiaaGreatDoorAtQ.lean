import Derived.Test.YtppjlpihaocdiaaGreatDoorAsQ
set_option linter.all false
set_option maxRecDepth 100000
set_option maxHeartbeats 16000000
namespace Go.Proofs.YtppjlpihaocdiaaGreatDoor
open Go.RowKit Go.Proofs.Tryz
variable{w u v:ae}{a b c d e:Nat}{s t:ag}{x y z:af}{p D:Int}{l:List af}{f:Bool}{g:List Nat}{h:Nat->Prop}{o:Option Addr}{r:List UInt8}{A:Nat->Bool}{B:Nat->Nat->Bool}{C:Nat->Nat->Prop}(i:Nat)(S T:ag)(V X:af)(j k m n:Nat)(Z:Int)(W:ae)
def Qzy(w:ae)(A:Addr)(l:List UInt8):Prop:=∀j u,(bv l)[j]?=some u->w.cell? (A.add j)=some u
def ak1{A:Addr}{cap:Nat}{l:List UInt8}(b:Qzy w A l):(convert 99 9<|.slice (some A) l.length cap).run prog w=.ok (.string<|ce l) w:=
 yyt (P:=prog) w 99 9 5 A cap l underlying99 underlying5 underlying9 (λc a=>b c _<|by simp[bv,dy a])
def al0:Calls prog 76 #[.slice none 0 0] W λb c=>b=.returned (.slice none 0 0)/\c=W:=by
 have d:∀(a:ae),(binOp .eql 99 (.slice none 0 0)<|.slice none 0 0).run prog a=.ok (.bool true) a:=λa=>Lib.run_eql_slice_nil a _ _ none 0 0 0 0 underlying99
 go_in;go_wp21;go_ret;exact⟨rfl,rfl⟩
def ar8(a:Array af)(b:a.size=0):(W.alloc<|.cells a 5).ownsRow W.heap.size 5 1 (aa W.heap.size 0 0) 0 []:=by
 refine⟨rfl,.inr ⟨W.heap.size,0,a,rfl,ah,yyb W _,ah,by unfold maxLen;omega,by omega,by simp⟩⟩
def al1(b:Addr)(d:Nat)(a:List UInt8)(i:Qzy W b a)(E:b.block<W.heap.size)(H:a.length<=70368744177664):Calls prog 76 #[.slice (some b) a.length d] W λh o=>∃m,h=.returned m/\Below W.heap.size W o/\o.ownsRow W.heap.size 5 1 m a.length (bv a):=by
 have⟨p,v,w,y,z⟩:=yyf Ei;have F:∀(e:ae)(f:Addr)(k d:Nat),(binOp .eql 99 (.slice (some f) k d)<|.slice none 0 0).run prog e=.ok (.bool false) e:=λe f k d=>Lib.run_eql_slice_nil e _ _ (some f) k d 0 0 underlying99
 have A:Y (∀l,Qzy (W.alloc l) b a):=λl j C q=>by
  have:=i j C q;rw[<-this];exact bz (w:=W) (w':=W.alloc l) (a:=b.add j)<|im _ _ _ (by have h:(b.add j).block=b.block:=(by unfold Addr.add;split<;>rfl);rw[h];exact E)
 go_in;go_wp2_with (at_builtin;(refine wpList_append_own_at _ rfl _ _ 99 rfl W.heap.size 5 p (.int .u8 0) 1 1 underlying99 v w y z rfl (by omega) (aa W.heap.size 0 0) 0 [] rfl (ar8 W _ rfl) b a.length d (bv a) rfl (by rw[Bk,Nat.mul_one]) (A _) (λf n=>by simp[bv]at n;obtain⟨M,_,rfl⟩:=n;rfl) (by unfold maxLen;omega) (by omega) (by simp) ?_;intro r D g c u B;have s:Y (D.ownsRow W.heap.size 5 1 r a.length<|bv a):=(by rw[qo]at g;exact g);have t:=(mj W _).trans ⟨c.os,c.tape,c.output,c.size,λx L=>c.block x (by simp;omega)<|by simp[Value.ownBlock];omega⟩;clear g c u B));go_ret;exact⟨_,rfl,t,s⟩
def At.km{l:Cf}{g:Ed}{k:Ev}(o:At w a l g k)(e:k.ot= aa b g.out.length c)(d h:Nat)(p:d+h<=g.out.length):Qzy w (O b d) ((g.out.drop d).take h):=by
 intro f q i
 have j:=o.ot;rw[e]at j;have m:f<h:=by
  rcases hb f h with e|e
  .exact e
  rw[je<|by rw[Bk,yxb];omega]at i;cases i
 have n:((O b d):Addr).add f=(O b<|d+f):=by unfold Addr.add;split<;>simp_all
 rw[n,j.cellAt (d+f)<|by omega,<-i];simp[bv,Cg,m,zya]
def av1(a:Ed)(b:Int):min (max b 0) (a.ud:Int)=((a.vr b:Nat):Int):=by
 unfold Ed.vr;omega
def At.al2{c:Cf}{b:Ed}{d:Ev}(j:At w a c b d)(f:Below w.heap.size w u)(e:u.ownsRow w.heap.size 5 1 x r.length (bv r)):
  bd u a (pb c b d)/\Ok w a c d {b with out:=r,ca:=0} ((u.setCell (O a 9) x).setCell (O a 10)<|I 0):=by
 obtain⟨g,h⟩:=j.Kl (w2:=u) (nv:=x) (l:=r) (Gn.below f λl i=> .inr (e.lt l i).1) (World.ownsRow.mono e<|by omega);exact⟨g,h.ok.put (E':={b with out:=r,ca:=0})<|λm k=>⟨(bf.refl _ _).setCell _ _,jx k.row 10 _ (by omega) rfl⟩⟩
def At.al3{c:Cf}{b:Ed}{e d:Ev}(j:At u a c b d)(hF:Fe a e d w u)(g:Below u.heap.size u v)(f:v.ownsRow u.heap.size 5 1 x r.length (bv r)):
  bd v a (pb c b d)/\Ok w a c e {b with out:=r,ca:=0} ((v.setCell (O a 9) x).setCell (O a 10)<|I 0):=by
 have⟨h,i,k,l⟩:=j.al2 g f;exact⟨h,i,k,hF.trans l⟩
def Yr(a:Ed)(b:Int):a.take b=if a.out.length<=2*(a.ca+a.vr b)then({a with out:=a.out.drop<|a.ca+a.vr b,ca:=0},ce<|(a.out.drop a.ca).take<|a.vr b)else({a with ca:=a.ca+a.vr b},ce<|(a.out.drop a.ca).take<|a.vr b):=rfl
def TQ(cf:Cf)(b:Nat)(r:Ed×ag)(w:ae)(v:Ev):Ending->ae->Prop:=λe w'=>e=.returned (.string r.2)/\Ok w b cf v r.1 w'
def aw6(o:Cf)(a:Ed)(q:Ev)(j:Int)(c:ae)(e:At c i o a q)(W:a.ca<=a.out.length)(V:a.out.length<=70368744177664):
  Calls prog 52 #[.pointer<|some ⟨i,9,none⟩,.int .i64 j] c (TQ o i (a.take j) c q):=by
 have a5:=e.xc 10;have aL:=e.cd 9 (by omega);have aH:=e.cd 10 (by omega);have r:=ajw i o a q c e W V;have B:=av1 a j;have C:a.ca+a.vr j<=a.out.length:=by unfold Ed.vr Ed.ud;omega
 have Z:=e.xc 9;have n:Y _:=Yr a j;rcases El e.ot with⟨d,E⟩|⟨g,p,d,aE⟩
 .rw[d]at Z;have b:=Ex.1 E;have h:a.ca=0:=by omega
  have z:a.vr j=0:=by omega
  have v:Y (a.take j=({a with out:=[],ca:=0},ce [])):=by
   rw[Y,n.out,z,h,b];rfl
  have K:∀f,(convert 99 9<|.slice none 0 0).run prog (c.drewN f)=.ok (.string<|ce []) (c.drewN f):=λf=>Nz 0 (.slice none 0 0) [] (c.drewN f)<|yyc _ _ _ 1
  have t:Y (∀f,Ok c i o q {a with out:=[],ca:=0} ((((c.setCell (O i 10)<|I 0).setCell (O i 9)<|.slice none 0 0).setCell (O i 10)<|I 0).drewN f)):=λf=>by
   refine(e.put (E':={a with out:=[],ca:=0}) ((xxs.setCell _ _).setCell _ _) (jx (E:={a with out:=[],ca:=0}) (jx (E:={a with ca:=0}) (jx e.row 10 _ (by omega) rfl) 9 _ (by omega) ?_) 10 _ (by omega) rfl) rfl b.symm).drewN f;simp[pb,d]
  have k:=J al0;rw[z]at B C;rw[h]at a5;generalize a.ud=rd at B r;rw[v.out];generalize ce ([]:List UInt8)=F at K|-;clear e d C W V n E b h z;go_in;go_wp21;go_call r;rintro d a1 ⟨rfl,l,rfl⟩;clear r;go_wp21;go_region
  all_goals
   go_wp21;go_region
   all_goals
    go_wp21;go_region_with (first
     |(go_at_call 76;(go_call k as d P ⟨rfl,b⟩;subst b)))
    all_goals
     go_wp21;go_ret
     first
      |exact⟨rfl,t<|l+3⟩
      |exact⟨rfl,t<|l+1+1+1⟩
      |exact⟨rfl,t<|l+2⟩
 rw[d]at Z;have a6:=(e.ot.lt g<|by rw[d];rfl).2;have a7:g≠i:=λaC=>e.ap.b2 (by rw[d,<-aC];rfl)
 generalize R:a.vr j=b at B C n;generalize a.ud=rd at B r;obtain⟨w,aM,k⟩:∃w:Addr,(if p=a.ca then some ((O g 0):Addr)else some (O g a.ca))=some w/\Qzy c w ((a.out.drop a.ca).take b):=by
  by_cases x:p=a.ca
  .refine⟨(O g 0),by rw[G x],?_⟩;have z:b=0:=by omega
   subst z;exact λh A s=>by simp[bv]at s
  exact⟨(O g a.ca),by rw[N x],e.km d a.ca b C⟩
 have aF:a.ca+b-a.ca=b:=by omega
 have K:∀f,(convert 99 9<|.slice (some w) b<|p-a.ca).run prog (c.drewN f)=.ok (.string<|ce<|(a.out.drop a.ca).take b) (c.drewN f):=λf=>by
  have m:b=((a.out.drop a.ca).take b).length:=by simp;omega
  have:=ak1 (w:=c.drewN f) (A:=w) (cap:=p-a.ca) (l:=(a.out.drop a.ca).take b) k;rw[<-m]at this;exact this
 have S:Y (Ok c i o q {a with ca:=a.ca+b} (c.setCell (O i 10)<|I<|(a.ca:Int)+b)):=e.put xxs (jx e.row 10 _ (by omega)<|by simp[pb]);clear k;generalize ce ((a.out.drop a.ca).take b)=F at K n;by_cases D:a.out.length<=2*(a.ca+b)
 .have v:Y (a.take j=({a with out:=a.out.drop<|a.ca+b,ca:=0},F)):=by rw[Y,n.out,G D]
  obtain⟨U,a2,a3⟩:=S;have a8:U.ot=q.ot\/True:=.inr trivial;obtain⟨k,aI,M,u⟩:∃k:Addr,(if p=a.ca+b then some ((O g 0):Addr)else some (O g<|a.ca+b))=some k/\Qzy (c.setCell (O i 10)<|I<|(a.ca:Int)+b) k (a.out.drop<|a.ca+b)/\k.block=g:=by
   have L:Qzy c (O g<|a.ca+b) (a.out.drop<|a.ca+b):=by
    have:=e.km d (a.ca+b) (a.out.length-(a.ca+b)) (by omega);rw[Hh<|by rw[List.length_drop];exact ah]at this;exact this
   have y:∀h,(c.setCell (O i 10)<|I<|(a.ca:Int)+b).cell? (((O g<|a.ca+b):Addr).add h)=c.cell? (((O g<|a.ca+b):Addr).add h):=λh=>by
    have H:bf i c (c.setCell (O i 10)<|I<|(a.ca:Int)+b):=(bf.refl _ _).setCell _ _;have m:(((O g<|a.ca+b):Addr).add h).block=g:=by unfold Addr.add;split<;>rfl
    exact bz<|H.block _<|by rw[m];exact a7
   by_cases x:p=a.ca+b
   .refine⟨(O g 0),by rw[G x],?_,rfl⟩;have E:a.out.drop (a.ca+b)=[]:=yym (by omega);rw[E];exact λh A s=>by simp[bv]at s
   exact⟨(O g<|a.ca+b),by rw[N x],λh A s=>(y h).trans<|L h A s,rfl⟩
  have y:(a.out.drop<|a.ca+b).length=a.out.length-(a.ca+b):=List.length_drop;have T:Y (∀(m:ae)(H:Nat),Qzy m k (a.out.drop<|a.ca+b)->k.block<m.heap.size->Calls prog 76 #[.slice (some k) (a.out.length-(a.ca+b)) H] m λd a0=>∃L,d=.returned L/\Below m.heap.size m a0/\a0.ownsRow m.heap.size 5 1 L (a.out.drop<|a.ca+b).length (bv<|a.out.drop<|a.ca+b)):=λm H aD D=>by
   have:=al1 m k H (a.out.drop<|a.ca+b) aD D (by omega);rw[y]at this|-;exact this
  have Q:=J M;have a4:k.block<c.heap.size:=by rw[u];exact a6
  generalize a.out.drop (a.ca+b)=X at v T Q;rw[v.out];clear e d n M y a8 u R;have u:(c.setCell (O i 10)<|I<|(a.ca:Int)+b).heap.size=c.heap.size:=by simp
  have a8:=J u;clear u;have aO:(0:Int)<=a.ca+(b:Int):=by omega
  have aP:(a.ca:Int)+b<=(a.out.length:Int):=by omega
  have aQ:((a.ca:Int)+b).toNat=a.ca+b:=by omega
  have aR:(a.ca:Int)+b<=(p:Int):=by omega
  go_in;go_wp21;go_call r;rintro d a1 ⟨rfl,l,rfl⟩;clear r;go_wp21;go_region
  all_goals
   go_wp21;go_region
   all_goals
    go_wp21;go_region_with (first
     |(go_at_call 76;(have u:=T (((c.drewN<|l+1).setCell (O i 10)<|I<|(a.ca:Int)+b).drew.drew) (p-(a.ca+b)) (λh A s=>Q h A s)<|Nat.lt_of_lt_of_eq a4 a8.symm;go_call u;clear u;rintro d P ⟨L,rfl,u,M⟩;obtain⟨aA,aB,a9⟩:=yq M;subst a9;have y:Y (bd P i (pb o {a with ca:=a.ca+b} U)/\Ok c i o q {a with out:=X,ca:=0} ((P.setCell (O i 9)<|.slice aA X.length aB).setCell (O i 10)<|I 0)):=a2.al3 a3 ⟨u.os,u.tape,u.output,u.size,u.block⟩ M;have aN:=y.1.xc 9;have aJ:=y.1.frozen (k:=9) (by rw[Eb];omega);have aK:=y.1.xc 10;have aG:=y.1.frozen (k:=10) (by rw[Eb];omega);clear u M)))
    all_goals
     go_wp21;go_ret;exact⟨rfl,y.2⟩
 have v:Y (a.take j=({a with ca:=a.ca+b},F)):=by rw[Y,n.out,N D]
 have t:Y (∀f,Ok c i o q {a with ca:=a.ca+b} ((c.setCell (O i 10)<|I<|(a.ca:Int)+b).drewN f)):=λf=>S.drewN f
 rw[v.out];clear e d n R;go_in;go_wp21;go_call r;rintro d a1 ⟨rfl,l,rfl⟩;clear r;go_wp21;go_region
 all_goals
  go_wp21;go_region
  all_goals
   go_wp21;go_ret
   first
    |exact⟨rfl,t<|l+3⟩
    |exact⟨rfl,t<|l+1+1+1⟩
    |exact⟨rfl,t<|l+2⟩
def av3(e:Cf)(a:Ed)(f:Ev)(b:Int)(c:ae)(h:At c i e a f)(j:a.ca<=a.out.length)(k:a.out.length<=70368744177664):
  Calls prog 31 #[.pointer<|some ⟨i,0,none⟩,.int .i64 b] c (TQ e i (a.take b) c f):=by
 have d:=aw6 i e a f b c h j k;generalize a.take b=o at d|-;go_in;go_wp21;go_call d;rintro m n ⟨rfl,g⟩;have l:=J g;go_wp21;go_ret;exact⟨rfl,l⟩
def uf(n m:Int):Bool:=decide (1<=n/\n<=m)
def Zf(a b:Int)(f:ae):Calls prog 71 #[.int .i64 a,.int .i64 b] f λh i=>h=.returned (.bool<|uf a b)/\i=f:=by
 by_cases e:1<=a
 .have g:decide ((1:Int)<=a)=true:=by simpa using e
  have d:Y (uf a b=decide (a<=b)):=by rw[Y,uf,decide_eq_decide];omega
  rw[d.out];rcases df (decide (a<=b))with c|c
  all_goals
   rw[c];go_in;go_wp21;go_ret;exact⟨rfl,rfl⟩
 have d:Y (uf a b=false):=by rw[Y,uf];simp;omega
 rw[d.out];go_in;go_wp21;go_ret;exact⟨rfl,rfl⟩
def uo(a b c:Int):Bool:=uf a 80&&uf b 80&&uf c 1000
def akt(c e g:Int)(s:Bool)(b:ae):Calls prog 46 #[.agg #[.int .i64 c,.int .i64 e,.int .i64 g,.bool s]] b λa u=>a=.returned (.bool<|uo c e g)/\Below b.heap.size b u:=by
 have q:Y (uo c e g=(uf c 80&&uf e 80&&uf g 1000)):=rfl;have i:=λh=>Zf c 80 h
 have j:=λh=>Zf e 80 h
 have k:=λh=>Zf g 1000 h
 rw[q.out];generalize uf c 80=v at i|-;generalize uf e 80=w at j|-;generalize uf g 1000=x at k|-;have l:Y _:=i;have r:Y _:=j;have t:Y _:=k;have m:Y (∀o,Below b.heap.size b<|b.alloc o):=λo=>mj b o
 rcases df v with n|n<;>subst n
 .rcases df w with p|p<;>subst p
  .go_in;go_wp21;go_call l as a f ⟨rfl,d⟩;subst d;go_wp21;go_call r as a f ⟨rfl,d⟩;subst d;go_wp21;go_call t as a f ⟨rfl,d⟩;subst d;go_wp21;go_ret;exact⟨rfl,m _⟩
  go_in;go_wp21;go_call l as a f ⟨rfl,d⟩;subst d;go_wp21;go_call r as a f ⟨rfl,d⟩;subst d;go_wp21;go_ret;exact⟨rfl,m _⟩
 go_in;go_wp21;go_call l as a f ⟨rfl,d⟩;subst d;go_wp21;go_ret;exact⟨rfl,m _⟩
def apz:(prog.info? 4).map (λa=>(a.zero,a.size,a.bytes))=some (some<|.bool false,1,1):=by kernel_rfl
def Xn(j:i<=100000):∃b:Array af,b.size=i/\b.toList=ov (List.replicate i false)/\∀a:ae,(Instr.makeSlice 109 (I i)<|I i).run prog a=.ok (aa a.heap.size i i) (a.alloc<|.cells b 4):=by
 have⟨h,c,d,e,f⟩:=yyf apz;refine⟨madeCells (Value.bool false).cells<|i*1,by simp[size_madeCells],?_,λa=>?_⟩
 .have g:(Value.bool false).cells=#[.bool false]:=rfl;rw[g,toList_madeCells_one,Nat.mul_one];simp[ov]
 have:=yxt (P:=prog) a 109 4 h _ underlying109 c d .i64 .i64 i i (by omega) (yzw _) (by rw[f];omega) (by omega);rw[e]at this;simpa using this
def yb(w:ae):Prop:=Tw w<|λk=>w.heap.size<=k
def yb.below(d:yb w)(a:Below w.heap.size w u):yb u:=by
 refine Tw.keep d (λc b _=>a.block c b) a.size<|λc b=> .inl ?_;exact bq a.size b
def al4{d:List Cm}(j:Ci w a x d)(e:yb w):zy w (λb=>w.heap.size<=b) x d:=by
 obtain⟨xs,c,f⟩:=j;refine⟨e,xs,World.ownsRow.mono c<|by omega,λg h i=> ?_,λb k l=> ?_⟩
 .have:=(c.lt g h).2;omega
 obtain⟨m,n,o,s,p,t,q,r⟩:=f b k l;exact⟨m,n,o,p,λu v y i=>by omega,q,r⟩
def yp(w:ae)(cv:af)(n:Nat):Ev:=⟨.slice none 0 0,.slice none 0 0,.slice none 0 0,cv, aa (w.heap.size+1) n n⟩
def Is{cf:Cf}{c:Array af}{d:Obj}{f:TypeId}(m:c.size=cf.U.length)(i:c.toList=ov (List.replicate cf.U.length false))(l:zy w (λa=>w.heap.size<=a) x cf.U)(n:cf.U.length<=1000):
  At (((w.alloc d).alloc<|.cells c 4).alloc<|.cells (pb cf (fy cf)<|yp w x cf.U.length).toArray f).drew (w.heap.size+1+1) cf (fy cf) (yp w x cf.U.length):=by
 have j:((w.alloc d).alloc<|.cells c 4).heap.size=w.heap.size+1+1:=by simp
 have g:Below w.heap.size w (((w.alloc d).alloc<|.cells c 4).alloc<|.cells (pb cf (fy cf)<|yp w x cf.U.length).toArray f).drew:=ss ((Hz w _ _).trans<|(mj _ _).mono<|by simp;omega);have h:=bd.new ((w.alloc d).alloc<|.cells c 4) (pb cf (fy cf)<|yp w x cf.U.length) f;rw[j]at h;have k:(((w.alloc d).alloc<|.cells c 4).alloc<|.cells (pb cf (fy cf)<|yp w x cf.U.length).toArray f).drew.heap[w.heap.size+1]?=some (.cells c 4 (0,0)):=by
  have b:=heap_alloc_new (w.alloc d)<|.cells c 4;have e:(w.alloc d).heap.size=w.heap.size+1:=by simp
  rw[e]at b;show(((w.alloc d).alloc<|.cells c 4).alloc _).heap[w.heap.size+1]?=_
  rw[im _ _ _<|by simp];exact b
 refine⟨h.cw rfl,World.ownsRow_nil _ _ _ 1,World.ownsRow_nil _ _ _ 1,World.ownsRow_nil _ _ _ 1,?_,?_,?_⟩
 .refine⟨by simp[fy,ov],.inr ⟨w.heap.size+1,cf.U.length,c,by simp[yp,fy],ey _,k,by simp[fy],by unfold maxLen;omega,by omega,?_⟩⟩;have b:(fy cf).bo=List.replicate cf.U.length false:=rfl;rw[b,List.length_replicate,Nat.mul_one,i,Hh<|by simp[ov]]
 .refine l.keep (λa e _=>g.block a e) g.size<|λa e=> .inl ?_;rcases e with b|b|b|b|b
  .show w.heap.size<=a;omega
  .cases b
  .cases b
  .cases b
  have:w.heap.size+1=a:=by simpa[yp,Value.ownBlock]using b
  show w.heap.size<=a
  omega
 refine⟨(λb=>by cases b),(λb=>by cases b),(λb=>by cases b),?_,(λa b=>by cases b),(λa b=>by cases b),(λa b=>by cases b),(λa b=>by cases b),(λa b=>by cases b),(λa b=>by cases b)⟩;intro b
 simp[yp,Value.ownBlock]at b
def aq9(d:Bool)(b:List Cm)(a:ae)(r:zy a (λc=>a.heap.size<=c) V b)(t:b.length<=1000):
  Calls prog 47 #[V,.agg #[.int .i64 j,.int .i64 k,.int .i64 m,.bool d]] a λe q=>∃i p,e=.returned (.pointer<|some ⟨i,0,none⟩)/\At q i ⟨j,k,m,d,b⟩ (fy ⟨j,k,m,d,b⟩) p/\Below a.heap.size a q/\a.heap.size<=i/\∀c,ib i p c->a.heap.size<=c:=by
 have v:=J r;obtain⟨_,xs,f,_⟩:=r;obtain⟨l,n,w⟩:=yq f;obtain⟨x,g,h,y⟩:=Xn b.length (by omega);have o:=J g;have z:=J h;subst w;clear h f g;have A:Y (∀f,At (((a.alloc f).alloc<|.cells x 4).alloc<|.cells (pb ⟨j,k,m,d,b⟩ (fy ⟨j,k,m,d,b⟩)<|yp a (.slice l b.length n) b.length).toArray 112).drew (a.heap.size+1+1) ⟨j,k,m,d,b⟩ (fy ⟨j,k,m,d,b⟩)<|yp a (.slice l b.length n) b.length):=λf=>Is (cf:=⟨j,k,m,d,b⟩) o z v t
 have B:Y (∀f g h,Below a.heap.size a (((a.alloc f).alloc g).alloc h).drew):=λf g h=>ss<|(Hz a _ _).trans<|(mj _ _).mono<|by simp;omega
 have C:Y (∀c,ib (a.heap.size+1+1) (yp a (.slice l b.length n) b.length) c->a.heap.size<=c):=λc D=>by
  rcases D with e|e|e|e|e
  .omega
  .cases e
  .cases e
  .cases e
  have:a.heap.size+1=c:=by simpa[yp,Value.ownBlock]using e
  omega
 generalize s:b.length=E at y o;have u:=J s;go_in;go_wp21;go_region
 all_goals
  go_wp21;go_ret;refine⟨a.heap.size+1+1,yp a (.slice l b.length n) b.length,rfl,?_,B _ _ _,by omega,C⟩;have:=A<|Obj.cells #[I j, I k, I m,.bool d] 23;rw[u.out]at this|-;exact this
def Ji(a:uf p D=true):p=((p.toNat:Nat):Int)/\(p.toNat:Int)<=D:=by
 unfold uf at a;have:=zyb a;omega
def xj(s:ag)(a b c:Int)(q:Bool):Cf:=⟨a.toNat,b.toNat,c.toNat,q,(jb s).1⟩
def alu{a b c:Int}(i:(jb s).2.1=0)(d:uo a b c=true):gx (xj s a b c f):=by
 unfold uo at d;simp only[Aw]at d;have⟨⟨e,g⟩,h⟩:=d;have l:=(Ji e).2;have m:=(Ji g).2;have n:=(Ji h).2;have⟨j,k⟩:=agw s i;exact⟨by show a.toNat<=80;omega,by show b.toNat<=80;omega,by show c.toNat<=1000;omega,j,k⟩
def Ts{cf:Cf}(b:gx cf):Rest cf 0 (fy cf):=by
 have c:=b.dt;have iv:Iv cf 0 0 (fy cf):=⟨by simp[fy,Bm,ByteArray.size],by simp[fy,Bm,ByteArray.size],(λd a=>by cases a),by simp[fy],by simp[fy],by simp[fy],by simp[fy,Ed.more],by simp[fy],by simp[fy,fz];omega,by simp[fy]⟩;exact⟨iv,λ_=>Im iv rfl⟩
def OQ(s:ag)(a b c:Int)(q:Bool)(w:ae):Ending->ae->Prop:=λe w'=>Below w.heap.size w w'/\
 (((jb s).2.1≠0/\e=.returned (.tuple #[.pointer none,.int .i64 ((jb s).2.1:Int)]))\/
  ((jb s).2.1=0/\uo a b c=false/\e=.returned (.tuple #[.pointer none,.int .i64 5]))\/
  ((jb s).2.1=0/\uo a b c=true/\∃bl v,e=.returned (.tuple #[.pointer<|some ⟨bl,0,none⟩,.int .i64 0])/\w.heap.size<=bl/\At w' bl (xj s a b c q) (fy<|xj s a b c q) v/\∀k,ib bl v k->w.heap.size<=k))
def arw(b:ag)(e f g:Int)(j:Bool)(a:ae)(y:b.size<=maxLen)(z:yb a):
  Calls prog 27 #[.string b,.agg #[.int .i64 e,.int .i64 f,.int .i64 g,.bool j]] a (OQ b e f g j a):=by
 have W:=J z;have P:Y (∀h,Calls prog 45 #[.string b] h<|Ff b h):=λh=>atb b h y
 have Q:Y (∀h,Calls prog 46 #[.agg #[.int .i64 e,.int .i64 f,.int .i64 g,.bool j]] h λo a2=>o=.returned (.bool<|uo e f g)/\Below h.heap.size h a2):=λh=>akt e f g j h
 have U:Y ((jb b).2.1=0->(jb b).1.length<=1000):=λa0=>(agw b a0).1
 go_in;go_wp21;go_call P as o n ⟨R,rfl,l,S,T⟩;have m:=(mj a _).trans (l.mono<|by simp);have k:∀c w,(#[I e,I f,I g,.bool j]:Array af)[c]?=some w->n.cell? (O a.heap.size c)=some w:=λc w a1=>by
  rw[ac c<|l.block a.heap.size<|by simp];rw[yya _ a.heap.size c #[I e,I f,I g,.bool j] 23 (0,0)<|heap_alloc_last a _];exact a1
 have r:=k 0 _ rfl;have A:=k 1 _ rfl;have B:=k 2 _ rfl;have C:=k 3 _ rfl;have V:=J T;by_cases k:(jb b).2.1=0
 .have q:=J k;have l:=al4 (V k)<|W.below m;have L:=U k;have X:=J l;rw[k];go_wp21;go_call Q as o t ⟨rfl,i⟩;have s:=m.size;have p:a.heap.size<n.heap.size:=dw n _ r;have a7:=(ac 0<|i.block _ p).trans r;have a8:=(ac 1<|i.block _ p).trans A;have a9:=(ac 2<|i.block _ p).trans B;have aA:=(ac 3<|i.block _ p).trans C;rcases df (uo e f g)with d|d
  .have u:=J d;rw[d];unfold uo at d;simp only[Aw]at d;have⟨⟨x,D⟩,K⟩:=d;have E:=(Ji x).1;have F:=(Ji D).1;have H:=(Ji K).1;have M:Y (zy t (λc=>t.heap.size<=c) R (jb b).1):=X.keep (λc l _=>i.block c l) i.size<|λc l=> .inl<|bq i.size l;have v:=aq9 R e.toNat f.toNat g.toNat j (jb b).1 t M L;rw[<-E,<-F,<-H]at v;have Z:=J v;clear v E F H x D K;go_wp21;go_call Z;rintro o w3 ⟨F,K,rfl,H,v,a6,x⟩;have D:=(m.trans<|i.mono s).trans<|v.mono<|bq s i.size;have a4:=i.size;have E:=J x;clear v x;go_wp21;go_ret2;exact⟨D,.inr<|.inr ⟨q,u,F,K,rfl,by omega,H,λc l=>by have:=E c l;omega⟩⟩
  have u:=J d;rw[d];clear d;go_wp21;go_ret2;exact⟨m.trans<|i.mono s,.inr<|.inl ⟨q,u,rfl⟩⟩
 have p:(((jb b).2.1:Int) !=0)=true:=by simp;omega
 have q:=J k;clear k;go_wp21;go_ret2;exact⟨m,.inl ⟨q,rfl⟩⟩
def Ck(lo:Nat)(w:ae)(b:Nat)(cf:Cf)(E:Ed):Prop:=lo<=w.heap.size/\∃v,At w b cf E v/\∀k,ib b v k->lo<=k
def Uz{e:Cf}{c:Ed}(d:Iv e a b c)(f:a<=2000000):c.out.length<=1099511000000:=by
 have g:=d.num;have h:=d.wn;omega
def zp(s:ag)(a b c:Int):Bool:=decide ((jb s).2.1=0)&&uo a b c
def Ah(s:ag)(a b c:Int):Nat:=if(jb s).2.1=0 then(if uo a b c=true then 0 else 5)else(jb s).2.1
def arz(b c d:Int)(j:Bool)(e:ae)(m:S.size<=maxLen)(n:yb e):
  Calls prog 27 #[.string S,.agg #[.int .i64 b,.int .i64 c,.int .i64 d,.bool j]] e λk l=>Below e.heap.size e l/\
   ((zp S b c d=false/\Ah S b c d≠0/\k=.returned (.tuple #[.pointer none,.int .i64 (Ah S b c d:Int)]))\/
    (zp S b c d=true/\∃g,k=.returned (.tuple #[.pointer<|some ⟨g,0,none⟩,.int .i64 0])/\Ck e.heap.size l g (xj S b c d j) (fy<|xj S b c d j))):=by
 go_call arw as k l ⟨i,h⟩;refine⟨i,?_⟩;rcases h with⟨a,rfl⟩|⟨a,f,rfl⟩|⟨a,f,g,q,rfl,r,o,p⟩
 .refine .inl ⟨by unfold zp;simp[a],by unfold Ah;rw[N a];exact a,by unfold Ah;rw[N a]⟩
 .refine .inl ⟨by unfold zp;simp[f],by unfold Ah;rw[G a,N<|by rw[f];simp];omega,by unfold Ah;rw[G a,N<|by rw[f];simp];rfl⟩
 refine .inr ⟨by unfold zp;simp[a,f],g,rfl,i.size,q,o,p⟩
def Ed.re(E:Ed)(o:List UInt8)(t:Nat):Ed:={E with out:=o,ca:=t}
def Pu(f:Ed->Ed):Prop:=∀(E:Ed)(o:List UInt8)(t:Nat),∃d,(f E).out=E.out++d/\(f E).ca=E.ca/\f (E.re o t)=(f E).re (o++d) t
def Dp(f:Ed->Ed×Nat):Prop:=∀(E:Ed)(o:List UInt8)(t:Nat),∃d,(f E).1.out=E.out++d/\(f E).1.ca=E.ca/\f (E.re o t)=((f E).1.re (o++d) t,(f E).2)
def PuB(f:Ed->Ed×Bool):Prop:=∀(E:Ed)(o:List UInt8)(t:Nat),∃d,(f E).1.out=E.out++d/\(f E).1.ca=E.ca/\f (E.re o t)=((f E).1.re (o++d) t,(f E).2)
def Hp(f:Ed->Option Ed):Prop:=∀(E:Ed)(o:List UInt8)(t:Nat),(f E=none/\f (E.re o t)=none)\/∃E1 d,f E=some E1/\E1.out=E.out++d/\E1.ca=E.ca/\f (E.re o t)=some (E1.re (o++d) t)
def Ha(b:Ed->ag)(e:∀a d c,b (a.re d c)=b a):Pu λa=>a.print (b a):=λa d c=>⟨Qjj (b a)++[10],by simp[Ed.print,nt],rfl,by simp only[e];simp[Ed.print,Ed.re,nt]⟩
def Px{b c:Ed->Ed}(g:Pu b)(h:Pu c):Pu λa=>c (b a):=λa e d=>by
 have⟨f,i,j,k⟩:=g a e d;have⟨l,m,n,o⟩:=h (b a) (e++f) d;exact⟨f++l,by rw[m,i,nt],by rw[n,j],by show c (b<|a.re e d)=(c<|b a).re _ d;rw[k,o,nt]⟩
def agi(b:Cf):Pu (Ed.ja b):=λa c d=>by
 unfold Ed.ja;split
 .exact⟨[],by simp,rfl,by simp⟩
 exact Ha (λa=>a.L) (λ_ _ _=>rfl) a c d
def agh:∀(b:List ag),Pu λa=>a.lp b
 | []=>λa c d=>⟨[],by simp[Ed.lp],rfl,by simp[Ed.lp]⟩
 |x::b=>λa c d=>Px (Ha (λ_=>x)<|λ_ _ _=>rfl) (agh b) a c d
def clr(E:Ed):Ed:={E with cy:=[]}
def Wz:Pu Ed.fq:=λa b c=>by
 have⟨e,h,i,j⟩:=agh a.cy a b c;have f:∀d:Ed,d.fq=clr (d.lp d.cy):=λ_=>rfl
 have g:(a.re b c).lp a.cy=(a.lp a.cy).re (b++e) c:=j;refine⟨e,h,i,?_⟩;rw[f,f];show clr ((a.re b c).lp a.cy)=_
 rw[g];rfl
def agj(b:Cf)(f:Bool):PuB (Ed.ej b f):=λa c d=>by
 have j:(a.re c d).sk b=a.sk b:=rfl;have k:(a.re c d).next=a.next:=rfl
 have l:∀h,(a.re c d).read.vu b f h=(a.read.vu b f h).map (λa=>a.re c d):=λh=>by
  have i:∀g,(a.re c d).read.kz b g=(a.read.kz b g).map (λa=>a.re c d):=λg=>by
   unfold Ed.kz;by_cases e:b.space<g.size
   .rw[G e,G e];rfl
   rw[N e,N e];rfl
  unfold Ed.vu Ed.grow;split
  .exact i _
  exact i _
 unfold Ed.ej;rw[j,k,l];by_cases e:a.sk b=true
 .rw[G e,G e];exact⟨[],by simp,rfl,by simp[Ed.re]⟩
 rw[N e,N e];cases g:a.read.vu b f (ce a.next)with
 |none=>exact⟨[],by simp[Ed.read],rfl,by simp[Ed.re,Ed.read]⟩
 |some i=>
  obtain⟨m,rfl,_⟩:=Zc g;exact⟨[],by simp[Ed.read],rfl,by simp[Ed.re,Ed.read]⟩
def asr(b:Cf):PuB (Ed.mi b):=λa c d=>by
 have e:(a.re c d).mh b=a.mh b:=rfl;have f:(a.re c d).more=a.more:=rfl;unfold Ed.mi;rw[e,f];split
 .split
  .exact agj b false a c d
  exact⟨[],by simp,rfl,by simp[Ed.re]⟩
 exact⟨[],by simp,rfl,by simp[Ed.re]⟩
def as9(b:Mf)(a:Ed)(f:Cm)(d:List UInt8)(e:Nat):(a.re d e).gz b f=((a.gz b f).1.re d e,(a.gz b f).2)/\(a.gz b f).1.out=a.out/\(a.gz b f).1.ca=a.ca:=by
 have h:∀c,(a.re d e).jl b c=a.jl b c:=λc=>rfl
 have i:∀c g,(a.re d e).qa b c g=a.qa b c g:=λc g=>rfl
 unfold Ed.gz;simp only[h,i];split
 .exact⟨rfl,rfl,rfl⟩
 have j:(a.re d e).bo=a.bo:=rfl;have k:(a.re d e).H=a.H:=rfl;rw[j,k];split
 .exact⟨rfl,rfl,rfl⟩
 split
 .exact⟨rfl,rfl,rfl⟩
 exact⟨rfl,rfl,rfl⟩
def Py{b:Ed->Ed}(i:Pu b):Hp λa=>some (b a):=λa c d=>by
 have⟨h,e,f,g⟩:=i a c d;exact .inr ⟨b a,h,rfl,e,f,by show some (b<|a.re c d)=_;rw[g]⟩
def agn(f:Cf)(b:Ed->ag)(e:∀a c d,b (a.re c d)=b a):Hp λa=>a.kz f (b a):=λa c d=>by
 simp only[e];unfold Ed.kz;split
 .exact .inl ⟨rfl,rfl⟩
 exact .inr ⟨_,[],rfl,by simp,rfl,by simp[Ed.re]⟩
def ago(f:Cf)(b:Ed->ag)(e:∀a c d,b (a.re c d)=b a):Hp λa=>a.holds f (b a):=λa c d=>by
 simp only[e];unfold Ed.holds;split
 .exact .inl ⟨rfl,rfl⟩
 exact .inr ⟨_,[],rfl,by simp,rfl,by simp[Ed.re]⟩
def as0(e:Mf)(b:Cf)(h:Cm):Hp λa=>a.subst e b h:=λa f g=>by
 have i:(a.re f g).L=a.L:=rfl;have j:∀d,(a.re f g).kz b d=(a.kz b d).map (λa=>a.re f g):=λd=>by
  unfold Ed.kz;by_cases c:b.space<d.size
  .rw[G c,G c];rfl
  rw[N c,N c];rfl
 unfold Ed.subst;simp only[i,j];split
 .cases c:a.kz b (sf e h a.L).1 with
  |none=>exact .inl ⟨rfl,rfl⟩
  |some k=>
   obtain⟨rfl,_⟩:=Hy c;simp only[yxq];split
   .exact .inr ⟨_,Qjj (sf e h a.L).1++[10],rfl,by simp[Ed.print,nt],rfl,by simp[Ed.print,Ed.re,nt]⟩
   exact .inr ⟨_,[],rfl,by simp,rfl,by simp[Ed.re]⟩
 exact .inr ⟨a,[],rfl,by simp,rfl,by simp[Ed.re]⟩
def asz(g:Mf)(d:Cf)(b:Cm):Hp λa=>a.ea g d b:=by
 have y:=Py<|Ha (λa=>a.L)<|λ_ _ _=>rfl;have z:=Py<|Ha (λa=>qh a.L)<|λ_ _ _=>rfl;have w:=Py<|Ha (λa=>itoa a.number)<|λ_ _ _=>rfl;have x:=Py<|Ha (λ_=>b.text)<|λ_ _ _=>rfl;have s:∀(n:Ed->Ed),(∀a e f,n (a.re e f)=(n a).re e f)->(∀a,(n a).out=a.out/\(n a).ca=a.ca)->Hp λa=>some (n a):=λn A v a e f=> .inr ⟨n a,[],rfl,by simp[(v a).1],(v a).2,by simp[A]⟩
 intro a e f
 by_cases h:b.R=5
 .have c:∀a:Ed,a.ea g d b=some (a.print a.L):=λa=>by rw[Ed.ea,G h]
  simp only[c];exact y a e f
 by_cases i:b.R=6
 .have c:∀a:Ed,a.ea g d b=some (a.print<|qh a.L):=λa=>by rw[Ed.ea,N h,G i]
  simp only[c];exact z a e f
 by_cases j:b.R=12
 .have c:∀a:Ed,a.ea g d b=some (a.print<|itoa a.number):=λa=>by rw[Ed.ea,N h,N i,G j]
  simp only[c];exact w a e f
 by_cases k:b.R=14
 .have c:∀a:Ed,a.ea g d b=some {a with cy:=a.cy++[b.text]}:=λa=>by rw[Ed.ea,N h,N i,N j,G k]
  simp only[c];exact s (λa=>{a with cy:=a.cy++[b.text]}) (λ_ _ _=>rfl) (λ_=>⟨rfl,rfl⟩) a e f
 by_cases l:b.R=15
 .have c:∀a:Ed,a.ea g d b=some (a.print b.text):=λa=>by rw[Ed.ea,N h,N i,N j,N k,G l]
  simp only[c];exact x a e f
 by_cases m:b.R=7
 .have c:∀a:Ed,a.ea g d b=a.kz d a.bt:=λa=>by rw[Ed.ea,N h,N i,N j,N k,N l,G m]
  simp only[c];exact agn d (λa=>a.bt) (λ_ _ _=>rfl) a e f
 by_cases o:b.R=8
 .have c:∀a:Ed,a.ea g d b=a.kz d (a.L++gp++a.bt):=λa=>by rw[Ed.ea,N h,N i,N j,N k,N l,N m,G o];rfl
  simp only[c];exact agn d (λa=>a.L++gp++a.bt) (λ_ _ _=>rfl) a e f
 by_cases p:b.R=9
 .have c:∀a:Ed,a.ea g d b=a.holds d a.L:=λa=>by rw[Ed.ea,N h,N i,N j,N k,N l,N m,N o,G p]
  simp only[c];exact ago d (λa=>a.L) (λ_ _ _=>rfl) a e f
 by_cases q:b.R=10
 .have c:∀a:Ed,a.ea g d b=a.holds d (a.bt++gp++a.L):=λa=>by rw[Ed.ea,N h,N i,N j,N k,N l,N m,N o,N p,G q]
  simp only[c];exact ago d (λa=>a.bt++gp++a.L) (λ_ _ _=>rfl) a e f
 by_cases r:b.R=11
 .have c:∀a:Ed,a.ea g d b=some {a with L:=a.bt,bt:=a.L}:=λa=>by rw[Ed.ea,N h,N i,N j,N k,N l,N m,N o,N p,N q,G r]
  simp only[c];exact s (λa=>{a with L:=a.bt,bt:=a.L}) (λ_ _ _=>rfl) (λ_=>⟨rfl,rfl⟩) a e f
 by_cases t:b.R=19
 .have c:∀a:Ed,a.ea g d b=a.subst g d b:=λa=>by rw[Ed.ea,N h,N i,N j,N k,N l,N m,N o,N p,N q,N r,G t]
  simp only[c];exact as0 g d b a e f
 by_cases u:b.R=20
 .have c:∀a:Ed,a.ea g d b=some {a with L:=trans b.la b.oo a.L}:=λa=>by rw[Ed.ea,N h,N i,N j,N k,N l,N m,N o,N p,N q,N r,N t,G u]
  simp only[c];exact s (λa=>{a with L:=trans b.la b.oo a.L}) (λ_ _ _=>rfl) (λ_=>⟨rfl,rfl⟩) a e f
 have c:∀a:Ed,a.ea g d b=some a:=λa=>by rw[Ed.ea,N h,N i,N j,N k,N l,N m,N o,N p,N q,N r,N t,N u]
 simp only[c];exact s (λa=>a) (λ_ _ _=>rfl) (λ_=>⟨rfl,rfl⟩) a e f
def asx{b:Ed->Ed}(k:Pu b)(e:Ed->Nat)(f:∀a c d,e (a.re c d)=e a):Dp λa=>(b a).fv (e<|b a):=λa c d=>by
 have⟨i,g,h,j⟩:=k a c d;refine⟨i,g,h,?_⟩;show(b<|a.re c d).fv (e<|b<|a.re c d)=_
 rw[j,f];rfl
def agf:Pu λa=>a:=λa b c=>⟨[],by simp,rfl,by simp⟩
def asy:Dp λa=>(a,i):=λa b c=>⟨[],by simp,rfl,by simp⟩
def Xa(b:Cf)(c:Bool):Dp (Ed.kq b c):=λa d e=>by
 have k:(a.re d e).mh b=a.mh b:=rfl;have⟨i,l,m,n⟩:=agj b c a d e;by_cases f:a.mh b=true
 .by_cases j:(a.ej b c).2=true
  .have g:a.kq b c=(a.ej b c).1.fv ((a.ej b c).1.H+1):=by rw[Ed.kq,G f,G j]
   have h:(a.re d e).kq b c=((a.ej b c).1.re (d++i) e).fv ((a.ej b c).1.H+1):=by rw[Ed.kq,k,G f,n,G j];rfl
   rw[g,h];exact⟨i,l,m,rfl⟩
  have g:a.kq b c=((a.ej b c).1,0):=by rw[Ed.kq,G f,N j]
  have h:(a.re d e).kq b c=((a.ej b c).1.re (d++i) e,0):=by rw[Ed.kq,k,G f,n,N j]
  rw[g,h];exact⟨i,l,m,rfl⟩
 have g:a.kq b c=(a,0):=by rw[Ed.kq,N f]
 have h:(a.re d e).kq b c=(a.re d e,0):=by rw[Ed.kq,k,N f]
 rw[g,h];exact⟨[],by simp,rfl,by simp⟩
def asw(b:Cf)(e:Bool):Dp λa=>a.ix b e:=λa c d=>by
 have l:(a.re c d).bg=a.bg:=rfl;have m:(a.re c d).known=a.known:=rfl;have n:(a.re c d).more=a.more:=rfl;by_cases f:a.bg=3/\a.known=false
 .have g:a.ix b e=(a,0):=by rw[ut,G f]
  have h:(a.re c d).ix b e=(a.re c d,0):=by rw[ut,l,m,G f]
  simp only[g,h];exact⟨[],by simp,by first|rfl|trivial,by simp⟩
 by_cases i:a.bg=3/\a.more=false
 .have g:a.ix b e=(a,4):=by rw[ut,N f,G i]
  have h:(a.re c d).ix b e=(a.re c d,4):=by rw[ut,l,m,n,N f,G i]
  simp only[g,h];exact⟨[],by simp,by first|rfl|trivial,by simp⟩
 by_cases j:a.bg=3
 .cases e with
  |true=>
   have g:a.ix b true=({a with bg:=4}:Ed).kq b true:=by rw[ut,N f,N i,G j];rfl
   have h:(a.re c d).ix b true=(({a with bg:=4}:Ed).re c d).kq b true:=by rw[ut,l,m,n,N f,N i,G j];rfl
   simp only[g,h];exact Xa b true {a with bg:=4} c d
  |false=>
   have⟨k,q,r,s⟩:=Px (agi b) Wz a c d;have p:((a.re c d).ja b).fq=((a.ja b).fq).re (c++k) d:=s;have g:a.ix b false=({(a.ja b).fq with bg:=4}:Ed).kq b false:=by rw[ut,N f,N i,G j];rfl
   have h:(a.re c d).ix b false=(({(a.ja b).fq with bg:=4}:Ed).re (c++k) d).kq b false:=by
    have o:(a.re c d).ix b false=({((a.re c d).ja b).fq with bg:=4}:Ed).kq b false:=by rw[ut,l,m,n,N f,N i,G j];rfl
    rw[o,p];rfl
   simp only[g,h];have⟨o,t,u,v⟩:=Xa b false {(a.ja b).fq with bg:=4} (c++k) d;exact⟨k++o,by rw[t];show(a.ja b).fq.out++o=_;rw[show(a.ja b).fq.out=a.out++k from q,nt],by rw[u];exact r,by rw[v,nt]⟩
 have g:a.ix b e=a.kq b e:=by rw[ut,N f,N i,N j]
 have h:(a.re c d).ix b e=(a.re c d).kq b e:=by rw[ut,l,m,n,N f,N i,N j]
 simp only[g,h];exact Xa b e a c d
def asv:Dp Ed.Ag:=λa b c=>by
 have e:(a.re b c).L=a.L:=rfl;cases hd:xk a.L with
 |none=>
  have d:=Of (by rw[e];exact hd);rw[Of hd,d];exact⟨[],by simp,rfl,by simp⟩
 |some f=>
  have d:(a.re b c).Ag=((({a with L:=f}:Ed).re b c).fq,2):=Og (E:=a.re b c) (by rw[e];exact hd);rw[Og hd,d];have⟨h,g,i,j⟩:=Wz {a with L:=f} b c;exact⟨h,g,i,by rw[j]⟩
def agm(e:Mf)(c:Cf)(b:Cm):Dp λa=>a.cz e c b:=by
 by_cases h:b.R=1
 .have d:(λa:Ed=>a.cz e c b)=λa=>(a,3):=funext λa=>by rw[Ed.cz,G h]
  rw[d];exact asy 3
 by_cases i:b.R=2
 .have d:(λa:Ed=>a.cz e c b)=Ed.Ag:=funext λa=>by rw[Ed.cz,N h,G i];rfl
  rw[d];exact asv
 by_cases j:b.R=16
 .have d:(λa:Ed=>a.cz e c b)=λa=>(a.print b.text,3):=funext λa=>by rw[Ed.cz,N h,N i,G j]
  rw[d];intro a f g
  have⟨l,m,n,s⟩:=Ha (λ_=>b.text) (λ_ _ _=>rfl) a f g;exact⟨l,m,n,by show((a.re f g).print b.text,3)=_;rw[show(a.re f g).print b.text=(a.print b.text).re (f++l) g from s]⟩
 by_cases k:b.R=3\/b.R=4
 .have d:(λa:Ed=>a.cz e c b)=λa=>a.ix c (decide (b.R=4)):=funext λa=>by rw[Ed.cz,N h,N i,N j,G k]
  rw[d];exact asw c _
 by_cases p:b.R=13
 .have d:(λa:Ed=>a.cz e c b)=λa=>({a with ck:=2},4):=funext λa=>by rw[Ed.cz,N h,N i,N j,N k,G p]
  rw[d];exact λa f g=>⟨[],by simp,rfl,by simp[Ed.re]⟩
 by_cases q:b.R=17
 .have d:(λa:Ed=>a.cz e c b)=λa=>a.fv b.cn:=funext λa=>by rw[Ed.cz,N h,N i,N j,N k,N p,G q]
  rw[d];exact asx agf (λ_=>b.cn)<|λ_ _ _=>rfl
 by_cases t:b.R=18
 .have d:(λa:Ed=>a.cz e c b)=λa=>if a.put=true then({a with put:=false}:Ed).fv b.cn else a.fv (a.H+1):=funext λa=>by rw[Ed.cz,N h,N i,N j,N k,N p,N q,G t]
  rw[d];intro a f g
  by_cases o:a.put=true
  .have r:(a.re f g).put=true:=o;simp only[G o,G r];exact⟨[],by simp[Ed.fv],rfl,by simp[Ed.fv,Ed.re]⟩
  have r:¬(a.re f g).put=true:=o;simp only[N o,N r];exact⟨[],by simp[Ed.fv],rfl,by simp[Ed.fv,Ed.re]⟩
 have d:(λa:Ed=>a.cz e c b)=λa=>match a.ea e c b with|none=>a.stop 4|some o=>o.fv (o.H+1):=funext λa=>by rw[Ed.cz,N h,N i,N j,N k,N p,N q,N t];rfl
 rw[d];intro a f g
 rcases asz e c b a f g with⟨m,n⟩|⟨o,l,m,n,s,v⟩
 .have r:a.ea e c b=none:=m;have u:(a.re f g).ea e c b=none:=n;simp only[r,u];exact⟨[],by simp[Ed.stop],rfl,by simp[Ed.stop,Ed.re]⟩
 have r:a.ea e c b=some o:=m;have u:(a.re f g).ea e c b=some (o.re (f++l) g):=v;simp only[r,u];exact⟨l,by simp[Ed.fv,n],by simp[Ed.fv,s],rfl⟩
def agl(c:Mf)(k:Cf)(b:Cm):Dp λa=>a.choose c k b:=λa d e=>by
 by_cases g:a.bg=2
 .have⟨s1,s2,s3⟩:=as9 c a b d e;have j:(a.re d e).bg=2:=g;simp only[Ie g,Ie j,s1];rcases f:a.gz c b with⟨m,n,o⟩;rw[f]at s2 s3;simp only at s2 s3|-;by_cases h:o=false
  .rw[G h,G h];exact⟨[],by simp[s2],s3,by simp⟩
  rw[N h,N h];by_cases i:n=b.neg
  .rw[G i,G i];exact⟨[],by simp[Ed.fv,s2],by simp[Ed.fv,s3],by simp[Ed.fv,Ed.re]⟩
  rw[N i,N i];have⟨l,p,q,r⟩:=agm c k b {m with bg:=3} d e;exact⟨l,by rw[p];show m.out++l=_;rw[s2],by rw[q];exact s3,r⟩
 have j:(a.re d e).bg≠2:=g;simp only[Oa g,Oa j];exact agm c k b a d e
def asu(c:Mf)(b:Cf):Dp λa=>a.dv c b:=λa d e=>by
 by_cases f:a.bg=1
 .have i:(a.re d e).bg=1:=f;by_cases j:a.cx=b.dt
  .have k:(a.re d e).cx=b.dt:=j;have g:a.dv c b=a.stop 5:=by rw[Ed.dv,G f,G j]
   have h:(a.re d e).dv c b=(a.re d e).stop 5:=by rw[Ed.dv,G i,G k]
   simp only[g,h];exact⟨[],by simp[Ed.stop],rfl,by simp[Ed.stop,Ed.re]⟩
  have k:¬(a.re d e).cx=b.dt:=j;have g:a.dv c b=({a with cx:=a.cx+1,bg:=2}:Ed).choose c b (b.U.getD a.H Ek):=by rw[Ed.dv,G f,N j]
  have h:(a.re d e).dv c b=(({a with cx:=a.cx+1,bg:=2}:Ed).re d e).choose c b (b.U.getD a.H Ek):=by rw[Ed.dv,G i,N k];rfl
  simp only[g,h];exact agl c b _ {a with cx:=a.cx+1,bg:=2} d e
 have i:¬(a.re d e).bg=1:=f;have g:a.dv c b=a.choose c b (b.U.getD a.H Ek):=by rw[Ed.dv,N f]
 have h:(a.re d e).dv c b=(a.re d e).choose c b (b.U.getD a.H Ek):=by rw[Ed.dv,N i];rfl
 simp only[g,h];exact agl c b _ a d e
def Hb(c:Mf)(b:Cf):∀(f g:Nat),Pu λa=>a.hu c b f g
 |0,g=>λa d e=>⟨[],by simp[Ed.hu],rfl,by simp[Ed.hu]⟩
 |f+1,g=>λa d e=>by
  rcases(by omega:g=0\/g=1\/g=2\/g=3\/4<=g)with rfl|rfl|rfl|rfl|w
  .have⟨h,k,l,m⟩:=asr b {a with bg:=0} d e;have r:(({a.re d e with bg:=0}:Ed)).mi b=((({a with bg:=0}:Ed).mi b).1.re (d++h) e,(({a with bg:=0}:Ed).mi b).2):=m;simp only[zt,r];by_cases i:(({a with bg:=0}:Ed).mi b).2=true
   .rw[G i,G i];have⟨j,n,o,p⟩:=Hb c b f 1 {(({a with bg:=0}:Ed).mi b).1 with H:=0} (d++h) e;refine⟨h++j,?_,?_,?_⟩
    .rw[n];show(({a with bg:=0}:Ed).mi b).1.out++j=_;rw[k,nt]
    .rw[o];exact l
    rw[<-nt];exact p
   rw[N i,N i];exact⟨h,k,l,rfl⟩
  .have i:(a.re d e).H=a.H:=rfl;simp only[Ce,i];split
   .exact Hb c b f 3 a d e
   exact Hb c b f 2 {a with bg:=1} d e
  .have⟨h,k,l,m⟩:=asu c b a d e;have r:(a.re d e).dv c b=((a.dv c b).1.re (d++h) e,(a.dv c b).2):=m;simp only[ug,r];have fin:∀(g:Nat)(i:Ed),i.out=(a.dv c b).1.out->i.ca=(a.dv c b).1.ca->∃j,(i.hu c b f g).out=a.out++j/\(i.hu c b f g).ca=a.ca/\(i.re (d++h) e).hu c b f g=(i.hu c b f g).re (d++j) e:=λg i q s=>by
    have⟨j,n,o,p⟩:=Hb c b f g i (d++h) e;exact⟨h++j,by rw[n,q,k,nt],by rw[o,s];exact l,by rw[<-nt];exact p⟩
   split
   .exact⟨h,k,l,rfl⟩
   split
   .exact fin 1 _ rfl rfl
   split
   .exact fin 1 {(a.dv c b).1 with H:=0} rfl rfl
   split
   .exact fin 4 _ rfl rfl
   exact fin 3 _ rfl rfl
  .exact Px (agi b) (Hb c b f 4) a d e
  have t:∀i:Ed,i.hu c b (f+1) g=if i.fq.ck=0 then i.fq.hu c b f 0 else i.fq:=λi=>by
   obtain⟨q,rfl⟩:∃q,g=q+4:=⟨g-4,by omega⟩;rfl
  have⟨h,k,l,m⟩:=Wz a d e;simp only[t,m];by_cases q:a.fq.ck=0
  .have s:(a.fq.re (d++h) e).ck=0:=q;rw[G q,G s];have⟨j,n,o,p⟩:=Hb c b f 0 a.fq (d++h) e;exact⟨h++j,by rw[n,k,nt],by rw[o,l],by rw[<-nt];exact p⟩
  have s:¬(a.fq.re (d++h) e).ck=0:=q;rw[N q,N s];exact⟨h,k,l,rfl⟩
def agk(c:Mf)(b:Cf):Pu λa=>a.work c b:=λa d e=>Hb c b 10000 (if a.bg=0 then 0 else 2) a d e
def ast(d:Mf)(c:Cf)(b:UInt8):Pu λa=>a.sc d c b:=λa e f=>by
 have j:(a.re e f).ru=a.ru:=rfl;by_cases g:a.ru=true
 .have h:a.sc d c b=(a.add b).work d c:=by rw[Ed.sc,G g]
  have i:(a.re e f).sc d c b=((a.add b).re e f).work d c:=by
   rw[Ed.sc,j,G g];have:(a.re e f).add b=(a.add b).re e f:=by unfold Ed.add;split<;>rfl
   rw[this]
  have k:(a.add b).out=a.out/\(a.add b).ca=a.ca:=by unfold Ed.add;split<;>exact⟨rfl,rfl⟩
  simp only[h,i];have⟨l,m,n,o⟩:=agk d c (a.add b) e f;exact⟨l,by rw[<-k.1];exact m,by rw[<-k.2];exact n,o⟩
 have h:a.sc d c b=a:=by rw[Ed.sc,N g]
 have i:(a.re e f).sc d c b=a.re e f:=by rw[Ed.sc,j,N g]
 simp only[h,i];exact⟨[],by simp,by first|rfl|trivial,by simp⟩
def age(d:Mf)(a:Cf):∀b:List UInt8,Pu λe=>e.ly d a b
 | []=>agf
 |c::b=>Px (ast d a c)<|age d a b
def ass(c:Mf)(b:Cf):Pu λa=>a.rh c b:=λa d e=>by
 have i:(a.re d e).ru=a.ru:=rfl;by_cases f:a.ru=true
 .have g:a.rh c b=({a with dq:=true}:Ed).work c b:=by rw[Ed.rh,G f]
  have h:(a.re d e).rh c b=(({a with dq:=true}:Ed).re d e).work c b:=by rw[Ed.rh,i,G f];rfl
  simp only[g,h];exact agk c b {a with dq:=true} d e
 have g:a.rh c b=a:=by rw[Ed.rh,N f]
 have h:(a.re d e).rh c b=a.re d e:=by rw[Ed.rh,i,N f]
 simp only[g,h];exact⟨[],by simp,by first|rfl|trivial,by simp⟩
structure Sf(p:List UInt8)(E E':Ed):Prop where
 eq:E'=E.re E'.out E'.ca
 out:E.out=p++E'.out.drop E'.ca
 ca:E.ca=0
 le:E'.ca<=E'.out.length
def Sf.take{h:List UInt8}{e a:Ed}(b:Sf h e a)(c:Int):Sf (h++Qjj (a.take c).2) e (a.take c).1:=by
 have i:a.ca+a.vr c<=a.out.length:=by have:=b.le;unfold Ed.vr Ed.ud;omega
 have f:(a.out.drop a.ca)=(a.out.drop a.ca).take (a.vr c)++a.out.drop (a.ca+a.vr c):=by
  rw[<-List.drop_drop,yzh]
 have g:∀d:List UInt8,Qjj (ce d)=d:=λd=>by simp[Qjj,ce]
 rw[Yr];split
 .refine⟨?_,?_,b.ca,by simp⟩
  .have:=b.eq;rw[this];rfl
  simp only[g,List.drop_zero];rw[b.out,nt,<-f]
 refine⟨?_,?_,b.ca,i⟩
 .have:=b.eq;rw[this];rfl
 simp only[g];rw[b.out,nt,<-f]
def ats(c:j<=S.size):Qjj (S.extract 0 j)++Qjj (S.extract j S.size)=Qjj S:=by
 unfold Qjj;have a:(S.extract 0 j).data.toList=S.data.toList.take j:=by simp[yyg]
 have b:(S.extract j S.size).data.toList=S.data.toList.drop j:=by
  simp[yyg];rw[Hh];simp
 rw[a,b,yzh]
structure Ct(w wr:ae)(s:ag)(i:Nat)(lv:af)(r:ag)(ps:List ag):Prop where
 below:Below w.heap.size w wr
 own:wr.ownsRow w.heap.size 9 1 lv ps.length (sv ps)
 eq:ps.flatMap Qjj++Qjj r=Qjj s
 len:ps.length<=i
 size:r.size<=s.size
def Ct.more{g wr f:ae}{o:Obj}{i c j h:Nat}{a:List ag}(b:Ct g wr s i x t a)(n:c<=t.size)
  (l:f.ownsRow g.heap.size 9 1 (aa j (a.length+1) h) (a.length+1) (sv a++[.string<|t.extract 0 c])) (d:(wr.alloc o).grownBy f x.ownBlock):Ct g f s (i+1) (aa j (a.length+1) h) (t.extract c t.size) (a++[t.extract 0 c]):=by
 have e:(a++[t.extract 0 c]).length=a.length+1:=by simp
 refine⟨b.below.trans ⟨d.os,d.tape,d.output,bq (by simp) d.size,λk p=>?_⟩,by rw[e,Dl];exact l,?_,by rw[e];have:=b.len;omega,bq (pd _ _ _) b.size⟩
 .have m:=ew p b.below.size;rw[d.block k (by simp;omega) (λe=>by have:=(b.own.lt k e.symm).1;omega),im _ _ _ m]
 rw[List.flatMap_append,nt];simp only[zyd,List.flatMap_nil,xu];rw[ats t c n];exact b.eq
def av2{a:Ed}(b:a.ca=0)(e:a.out.length<=1099511000000):(a.take 1099511627776).2=ce a.out/\(a.take 1099511627776).1.ck=a.ck/\(a.take 1099511627776).1.ud=0:=by
 have c:a.vr 1099511627776=a.out.length:=by unfold Ed.vr Ed.ud;rw[b];omega
 rw[Yr,c,b];have d:(a.out.drop 0).take a.out.length=a.out:=by simp
 rw[d,G];exact⟨rfl,rfl,by simp[Ed.ud]⟩
def aeu{h:Cf}{f:Ed}{d:Ev}(c:At w a h f d)(b:Nat)(g:ib a d b):b<w.heap.size:=by
 rcases g with e|e|e|e|e
 .rw[e];exact c.lt
 .exact(c.nx.lt b e).2
 .exact(c.ot.lt b e).2
 .exact(c.cg.lt b e).2
 exact(c.op.lt b e).2
def ahs(a:List UInt8):Qjj (ce a)=a:=by simp[Qjj,ce]
def tz(one two:ag)(c:UInt8)(k:Nat):UInt8:=if(Qjj one).findIdx (·==c)<k then(Qjj two).getD ((Qjj one).findIdx (·==c)) 0 else c
def awr(a:UInt8):tz S T a S.size=yw S T a:=by
 unfold tz yw;rw[jn]
def aws{b:UInt8}(g:(Qjj s).Nodup)(h:(Qjj s)[a]?=some b):tz s t b (a+1)=(Qjj t).getD a 0:=by
 have⟨c,d⟩:=jy.1 h;have f:(Qjj s).findIdx (·==b)=a:=by
  rw[List.findIdx_eq c];refine⟨by simp[d],λe i=>?_⟩;have:(Qjj s)[e]≠(Qjj s)[a]:=List.pairwise_iff_getElem.1 g e a (by omega) c i;rw[d]at this;simpa using this
 rw[tz,f,G]
def awt{b c:UInt8}(f:(Qjj s)[a]?=some c)(hd:c≠b):tz s t b (a+1)=tz s t b a:=by
 have d:(Qjj s).findIdx (·==b)≠a:=λd=>by
  have⟨e,g⟩:=jy.1 f;have:=(List.findIdx_eq e).1 d;rw[g]at this;exact hd<|by simpa using this.1
 unfold tz;by_cases e:(Qjj s).findIdx (·==b)<a
 .rw[G e,G]
 rw[N e,N]
def alx(a b d:ag)(f:ae)(Q:a.size<=100000)(R:b.size=d.size)(S:b.size<=1000)(s:(Qjj b).Nodup):
  Calls prog 143 #[.string a,.string b,.string d] f λD H=>D=.returned (.string<|trans b d a)/\Below f.heap.size f H:=by
 obtain⟨k,o,K,E,F⟩:∃k o,(convert 9 99<|.string a).run prog f=.ok (aa f.heap.size a.size o) k/\bd k f.heap.size (bv<|Qjj a)/\Below f.heap.size f k:=
  ⟨_,_,Lib.run_convert_string_bytes (P:=prog) f 9 99 5 a underlying9 underlying99 underlying5,Sy f a,Sx f a⟩
 have z:Y (Qjj b).Nodup:=s;go_in;go_wp21;(try go_simp);go_loopw [8] (λg wr=>∃(e:Nat),e<=a.size/\g=I e/\Y (bd wr f.heap.size<|bv<|tk b d (Qjj a) e)/\Y (Below f.heap.size f wr)) (λg _=>a.size+1-(intOf g).toNat)
 .exact⟨0,by omega,rfl,by rw[Yx];exact E,F⟩
 obtain⟨c,T,rfl,t,u⟩:=hrel;by_cases A:c<a.size
 .have h:c<(Qjj a).length:=by rw[jn];exact A
  have x:a[c]=(Qjj a)[c]:=rfl;have v:Y (tk b d (Qjj a) (c+1)=(tk b d (Qjj a) c).set c (yw b d (Qjj a)[c])):=Yw _ _ _ _ h;have C:Y ((tk b d (Qjj a) c).set c (tz b d (Qjj a)[c] 0)=tk b d (Qjj a) c):=Yc _ _ _<|Qs _ _ _ _ h
  rw[<-awr]at v;go_wp21;(try go_simp);go_loopw [9] (λg w=>∃(e:Nat),e<=b.size/\g=I e/\Y (bd w f.heap.size<|bv<|(tk b d (Qjj a) c).set c<|tz b d (Qjj a)[c] e)/\Y (Below f.heap.size f w)) (λg _=>b.size+1-(intOf g).toNat)
  .exact⟨0,by omega,rfl,by rw[C.out];exact t,u⟩
  obtain⟨e,W,rfl,i,p⟩:=hrel;have L:(c:Int)<a.size:=by omega
  by_cases B:e<b.size
  .have M:(e:Int)<b.size:=by omega
   have P:(e:Int)<d.size:=by omega
   have l:(Qjj b)[e]?=some b[e]:=dy (by rw[jn];exact B);have q:(Qjj d).getD e 0=d[e]'(by omega):=by
    have j:e<(Qjj d).length:=by rw[jn];omega
    rw[yz,dy j];rfl
   by_cases m:((a[c].toNat:Int)==(b[e].toNat:Int))=true
   .have y:b[e]=(Qjj a)[c]:=by
     have:(a[c].toNat:Int)=(b[e].toNat:Int):=by simpa using m
     rw[x]at this;exact(yzt.1<|by omega).symm
    have n:Y (tz b d (Qjj a)[c] (e+1)=d[e]'(by omega)):=by
     rw[Y,<-q];exact aws z<|by rw[l,y]
    have X:=i.cell (k:=c) (by rw[bv,zyc,zv<|by rw[Et];exact h];rfl);have V:=i.frozen (k:=c) (by rw[Bk,tj,Et];exact h);have j:Y (∀r,bd ((wr.drewN r).setCell (O f.heap.size c)<|.int .u8 ((d[e]'(by omega)).toNat:Int)) f.heap.size<|bv<|(tk b d (Qjj a) c).set c<|tz b d (Qjj a)[c]<|e+1):=λr=>by
     have:=(i.cw (w':=wr.drewN r) rfl).put c (by rw[Bk,tj,Et];exact h) (.int .u8 ((d[e]'(by omega)).toNat:Int));rw[<-Sw,List.set_set]at this;rw[n.out];exact this
    clear q l y;go_wp21;go_quiet (fail);go_wp21;go_roundw
    .exact⟨e+1,by omega,by go_num,j _,alf (Nw p _) ah⟩
    simp[intOf];omega
   have y:((a[c].toNat:Int)==(b[e].toNat:Int))=false:=by simpa using m
   have n:Y (tz b d (Qjj a)[c] (e+1)=tz b d (Qjj a)[c] e):=awt l (λr=>m<|by rw[x,r];simp);clear m q l;go_wp21;go_quiet (fail);go_wp21;go_roundw
   .exact⟨e+1,by omega,by go_num,by rw[n.out];exact i.cw rfl,Nw p _⟩
   simp[intOf];omega
  have l:e=b.size:=by omega
  subst l;have j:Y (bd wr f.heap.size<|bv<|tk b d (Qjj a)<|c+1):=by rw[Y,v];exact i
  go_wp21;go_roundw
  .exact⟨c+1,by omega,by go_num,j,p⟩
  simp[intOf];omega
 have i:c=a.size:=by omega
 subst i;have j:Y (bd wr f.heap.size<|bv<|Qjj<|trans b d a):=by
  rw[Y,trans,ahs,<-Yv b d (Qjj a) a.size (jn _).symm];exact t
 have h:=Sn (cap:=o) j;rw[jn,show(trans b d a).size=a.size by rw[<-jn,trans,ahs,yxr,jn]]at h;rw[show ce (Qjj<|trans b d a)=trans b d a from rfl]at h;go_wp21;go_ret;exact⟨rfl,u⟩
def Gp:List Nat:=[123,100,68,110,78,112,80,103,71,104,72,120,61,113,97,105,99,98,116,115,121]
structure xg(gl:ag->Nat)(c:Dc)(x:Cm):Prop where
 kd:x.R<=20
 lt:c.di=Gp.getD x.R 0
 fst:c.fst=x.fst
 snd:c.snd=x.snd
 neg:c.neg=x.neg
 cn:x.R=0->c.cn=x.cn
 text:x.R=14\/x.R=15\/x.R=16->c.text=x.text
 tz:c.text.size<=400
 wj:x.R=17\/x.R=18->gl c.text=x.cn
 su:x.R=19->Su c x
 rows:x.R=20->c.one=x.la/\c.two=x.oo/\c.one.size=c.two.size/\c.one.size<=1000/\(Qjj c.one).Nodup
def Dd.cz(mf:Mf)(p:Dw)(x:Cm)(c:Dc)(D:Dd):Dd×Int:=
 if x.R=1\/x.R=2\/x.R=16 then D.kj c
 else if x.R=13 then({D.jk p with ck:=2},-4)
 else if x.R=3\/x.R=4 then D.next p (decide (x.R=4))
 else if x.R=5 then(D.print D.L,-1)
 else if x.R=6 then(D.print<|qh D.L,-1)
 else if x.R=12 then(D.print<|itoa D.number,-1)
 else if x.R=14 then({D with ef:=D.ef++[x.text]},-1)
 else if x.R=15 then(D.print x.text,-1)
 else if x.R=17 then(D,x.cn)
 else if x.R=18 then(if D.put=true then({D with put:=false},(x.cn:Int))else(D,-1))
 else if x.R=19 then((D.subst mf p x).1,if(D.subst mf p x).2=true then-1 else-4)
 else if x.R=20 then({D with L:=trans x.la x.oo D.L},-1)
 else(D.wq p c.di,if(qm c.di D).size<=p.cf.space/\(ql c.di D).size<=p.cf.space then-1 else-4)
structure Dop(p:Dw)(D:Dd)(cv pv ta tb tt:af)(n:Nat)(ns:List ag)(gs:List Nat)(c:Dc)(x:Cm)(w:ae):Prop where
 de:DE p w D cv pv
 cm:xf w p.B c ta tb tt
 r:xg (λt=>goalF n t ns gs) c x
 rd:Hq w p.rb n ns gs
 rl:p.rb<p.B
 rk:∀v k,w.cell? (O p.rb 3)=some v\/w.cell? (O p.rb 4)=some v->v.ownBlock=some k->k<p.B
 n:n<=1000
 L:D.L.size<=80
 bt:D.bt.size<=80
 out:D.out.size+fz D.ef<=1099510000000
 num:D.number<=1099511000000
 arl:1<=D.number
 rest:D.rest.size<=1099511000000
 ji:D.ji=false
 sp:p.cf.space<=80
def Zq(mf:Mf)(p:Dw)(D:Dd)(cv pv:af)(c:Dc)(x:Cm)(w:ae)(e:Ending)(w':ae):Prop:=e=.returned (.int .i64 (D.cz mf p x c).2)/\∃cv',DQ p cv w w' (D.cz mf p x c).1 cv' pv
def DQ.later{g:Dw}{f:Dd}{o:Obj}(c:DQ g x w u f y z)(B:v.ownsRow g.B 9 1 (aa a (f.ef.length+1) b) (f.ef.length+1) (sv f.ef++[.string s]))(j:(u.alloc o).drew.grownBy v y.ownBlock)(n:y.ownBlock=some a\/a=u.heap.size+1):
  v.heap[g.b]?=u.heap[g.b]? /\DQ g x w (v.setCell (O g.b 11)<|aa a (f.ef.length+1) b) {f with ef:=f.ef++[s]} (aa a (f.ef.length+1) b) z:=by
 have F:u.heap.size+1<=v.heap.size:=by have:=j.size;simpa using this
 have l:∀d,d<u.heap.size->y.ownBlock≠some d->v.heap[d]?=u.heap[d]? :=λd h q=>(j.block d (by simp;omega)<|λe=>q e.symm).trans<|im u o d h
 have C:=c.1.lt;have k:a≠g.b/\z.ownBlock≠some a:=by
  rcases n with e|e
  .exact⟨λi=>c.1.a1<|by rw[<-i];exact e,c.1.a3 a e⟩
  exact⟨by omega,λi=>by have:=(c.1.op.lt a i).2;omega⟩
 have i:bf g.b v (v.setCell (O g.b 11)<|aa a (f.ef.length+1) b):=(bf.refl _ _).setCell _ _;have p:=l g.b C c.1.a1;have D:=da c.1.op λd h=>l d (c.1.op.lt d h).2<|λe=>c.1.a3 d e h
 refine⟨p,c.trans ⟨⟨(c.1.row.cw p).put 11 (by show 11<18;omega) _,?_,mc i D c.1.a2,c.1.le,λe=>k.1<|yyo e,c.1.a2,λd h=>by cases h;exact k.2⟩,i.os.trans j.os,i.tape.trans j.tape,i.output.trans j.output,by rw[i.size];omega,λm r t A E=>(i.block m t).trans<|l m r A,λd h=>?_⟩⟩
 .show World.ownsRow _ _ _ 1 _ (f.ef++[s]).length (sv<|f.ef++[s])
  rw[Dl,ga];exact mc i B<|λe=>k.1<|yyo e
 cases h
 rcases n with e|e
 .exact .inl e
 exact .inr (by show u.heap.size<=a;omega)
section
def res(E:Ed):List UInt8×Nat:=(E.out,E.ck)
def nh(mf:Mf)(cf:Cf)(d:Bool)(E:Ed)(r:List UInt8):Ed:=if d=true then(E.ly mf cf r).rh mf cf else E.ly mf cf r
structure To(mf:Mf)(cf:Cf)(d:Bool)(F:List UInt8×Nat)(K l:Nat)(E:Ed)(r:List UInt8):Prop where
 ll:l<=4
 wz:Good cf K l E
 kk:K+r.length<=2000000
 ex:∃f,mu cf l E<f/\((E.dq=false/\res (nh mf cf d (E.hu mf cf f l) r)=F)\/(E.dq=true/\r=[]/\d=true/\res (E.hu mf cf f l)=F))
section
variable {mf:Mf} {cf:Cf} {d:Bool} {F:List UInt8×Nat} {K l l':Nat} {E E':Ed} {r:List UInt8}
def To.step(c:To mf cf d F K l E r)(e:l'<=4)(f:Good cf K l' E')(j:mu cf l' E'<mu cf l E)(g:E'.dq=E.dq)(i:∀a,E.hu mf cf (a+1) l=E'.hu mf cf a l'):To mf cf d F K l' E' r:=by
 have⟨a,k,b⟩:=c.ex;obtain⟨a,rfl⟩:∃h,a=h+1:=⟨a-1,by omega⟩;rw[i]at b;exact⟨e,f,c.kk,a,by omega,by rw[g];exact b⟩
def To.same(c:To mf cf d F K l E r)(e:l'<=4)(f:Good cf K l' E')(j:mu cf l' E'<=mu cf l E)(g:E'.dq=E.dq)(i:∀a,E.hu mf cf (a+1) l=E'.hu mf cf (a+1) l'):To mf cf d F K l' E' r:=by
 have⟨a,k,b⟩:=c.ex;obtain⟨a,rfl⟩:∃h,a=h+1:=⟨a-1,by omega⟩;rw[i]at b;exact⟨e,f,c.kk,a+1,by omega,by rw[g];exact b⟩
def To.stop(h:To mf cf d F K l E r)(e:E'.ck≠0)(f:∀b,E.hu mf cf (b+1) l=E'):F=res E':=by
 have⟨b,i,a⟩:=h.ex;obtain⟨b,rfl⟩:∃g,b=g+1:=⟨b-1,by omega⟩;rw[f]at a;have c:E'.ru=false:=by simp[Ed.ru,e]
 rcases a with⟨_,a⟩|⟨_,_,_,a⟩
 .rw[<-a,nh,Ot r E' c];split
  .rw[Ed.rh,N<|by rw[c];simp]
  rfl
 exact a.symm
def To.ji(h:gx cf)(e:To mf cf d F K l E r)(o:E'.ck=0)(p:E.dq=false)(i:E'.dq=false)(j:∀c,E.hu mf cf (c+1) l=E'):
  (∃a k,r=a::k/\To mf cf d F (K+1) (if E'.bg=0 then 0 else 2) (E'.add a) k)\/(r=[]/\d=true/\To mf cf d F K (if E'.bg=0 then 0 else 2) {E' with dq:=true} [])\/(r=[]/\d=false/\F=res E'):=by
 have⟨c,q,b⟩:=e.ex;have m:Rest cf K E':=by
  have:=zu h (by have:=e.kk;omega) c l E e.ll e.wz q (mf:=mf);obtain⟨c,rfl⟩:∃g,c=g+1:=⟨c-1,by omega⟩;rwa[j]at this
 obtain⟨c,rfl⟩:∃g,c=g+1:=⟨c-1,by omega⟩;rw[j]at b;have f:E'.ru=true:=by simp[Ed.ru,o,i]
 have n:=e.kk;rcases b with⟨_,b⟩|⟨b,_⟩
 .rcases r with _|⟨a,r⟩
  .rcases d with _|_
   .exact .inr<|.inr ⟨rfl,rfl,b.symm⟩
   refine .inr (.inl ⟨rfl,rfl,by split<;>omega,Om m f,n,10000,Gt (K:=K) h,.inr ⟨rfl,rfl,rfl,?_⟩⟩);rw[<-b,nh,G rfl];show _=res (Ed.rh mf cf E')
   rw[Ed.rh,G f];rfl
  refine .inl ⟨a,r,rfl,by split<;>omega,?_,by simp at n|-;omega,10000,Gt (K:=K) h,.inl ⟨by rw[(Jt E' a).2.2.2];exact i,?_⟩⟩
  .have:=Nn m f a;rwa[(Jt E' a).1]at this
  rw[<-b];have s:E'.ly mf cf (a::r)=((E'.add a).work mf cf).ly mf cf r:=by
   show(E'.sc mf cf a).ly mf cf r=_
   rw[Ed.sc,G f]
  rw[nh,nh,s,Ed.work,(Jt E' a).1]
 rw[p]at b;cases b
end
structure Rl(cf:Cf)(d:Bool)(D:Dd)(E:Ed)(r:List UInt8):Prop where
 rest:Qjj D.rest=E.next++(if E.whole=true then [10] else [])++r
 dq:D.dq=d
 en:E.dq=true->r=[]/\d=true
 number:D.number=E.number
 L:D.L=E.L
 bt:D.bt=E.bt
 ef:D.ef=E.cy
 out:Qjj D.out=E.out
 bo:D.bo=E.bo
 put:D.put=E.put
 dt:D.dt=E.cx
 st:D.ck=0
 es:E.ck=0
 ji:D.ji=false
 ps:D.L.size<=cf.space
 hs:D.bt.size<=cf.space
 nn:(10:UInt8)∉E.next
section
variable {mf:Mf} {cf:Cf} {d:Bool} {D:Dd} {F:List UInt8×Nat} {K l:Nat} {E:Ed} {r:List UInt8}
def Qc:S.toList.isEmpty=true↔Qjj S=[]:=by
 rw[List.isEmpty_iff];show S.toList=[]↔S.data.toList=[]
 rw[yyn]
def Rl.known(e:Rl cf d D E r)(g:E.known=true):D.yg=false/\D.zm= !E.more/\D.last=D:=by
 have c:D.yg=false/\D.zm= !E.more:=by
  unfold Dd.yg Dd.zm;have b:=e.rest;by_cases a:E.more=true
  .have:D.rest.toList.isEmpty=false:=by
    cases f:D.rest.toList.isEmpty
    .rfl
    rw[Qc]at f;rw[f]at b;simp only[Ed.more,uz,xz]at a;rcases a with a|a
    .rw[a]at b;simp at b
    have:=congrArg List.length b;simp at this;exact cb (yyp<|by omega) a
   rw[this,a];exact⟨rfl,rfl⟩
  have f:E.dq=true:=by
   simp only[Ed.known,uz]at g;exact g.resolve_left a
  obtain⟨rfl,rfl⟩:=e.en f;have:D.rest.toList.isEmpty=true:=by
   rw[Qc,b];simp only[Ed.more,uz,xz,not_or]at a;simp[a.1,Decidable.of_not_not a.2]
  rw[this,e.dq];simp[a]
 exact⟨c.1,c.2,by rw[Dd.last,c.1];rfl⟩
def Rl.yg(b:Rl cf false D E [])(a:E.known=false):D.yg=true:=by
 simp only[Ed.known,Ed.more,yyw,yza,zye]at a;have:Qjj D.rest=[]:=by rw[b.rest,a.1.1,a.1.2];rfl
 rw[<-Qc]at this;rw[Dd.yg,this,b.dq];rfl
def Rl.add{c:UInt8}(a:Rl cf d D E (c::r))(e:E.whole=false)(h:E.dq=false):Rl cf d D (E.add c) r:=by
 have f:=a.rest;rw[e]at f;have g:Qjj D.rest=(E.add c).next++(if(E.add c).whole=true then [10] else [])++r:=by
  rw[f,Ed.add];by_cases b:c=10
  .simp[b]
  simp[b,e]
 refine⟨g,a.dq,λb=> ?_,?_,?_,?_,?_,?_,?_,?_,?_,a.st,?_,a.ji,a.ps,a.hs,?_⟩
 .rw[(Jt E c).2.2.2,h]at b;cases b
 all_goals unfold Ed.add;split<;>first|exact a.nn|(rename_i b;simp only[og,yxh,not_or];exact⟨a.nn,λi=>b i.symm⟩)|exact a.number|exact a.L|exact a.bt|exact a.ef|exact a.out|exact a.bo|exact a.put|exact a.dt|exact a.es
def Rl.fin(a:Rl cf true D E []):Rl cf true D {E with dq:=true} []:=⟨a.rest,a.dq,λ_=>⟨rfl,rfl⟩,a.number,a.L,a.bt,a.ef,a.out,a.bo,a.put,a.dt,a.st,a.es,a.ji,a.ps,a.hs,a.nn⟩
def zz(E E':Ed):Prop:=∃nx wh en,E'={E with next:=nx,whole:=wh,dq:=en}
def Uy(E:Ed)(a:UInt8):zz E (E.add a):=by
 unfold Ed.add;split
 .exact⟨E.next,true,E.dq,rfl⟩
 exact⟨E.next++[a],E.whole,E.dq,rfl⟩
def To.known(n:gx cf)(k:To mf cf d F K l E r)(b:Rl cf d D E r)(g:l=if E.bg=0 then 0 else 2)(h:E.known=false)(o:∀j,E.hu mf cf (j+1) l=E):
  (∃p E' e,To mf cf d F p l E' e/\Rl cf d D E' e/\E'.known=true/\zz E E')\/(D.yg=true/\F=(Qjj D.out,0)):=by
 have f:=h;simp only[Ed.known,Ed.more,yyw]at f;have⟨⟨m,_⟩,c⟩:=f;rcases k.ji n b.es c c o with⟨i,e,rfl,a⟩|⟨rfl,rfl,a⟩|⟨rfl,rfl,a⟩
 .rw[<-g]at a;exact .inl ⟨_,_,_,a,b.add m c,by simp[Ed.known,Sg],Uy E i⟩
 .rw[<-g]at a;exact .inl ⟨_,_,_,a,b.fin,by simp[Ed.known],E.next,E.whole,true,rfl⟩
 exact .inr ⟨b.yg h,by rw[a,res,b.es,b.out]⟩
end
end
section
section
variable {mf:Mf} {cf:Cf} {d:Bool} {D:Dd} {F:List UInt8×Nat} {K l:Nat} {E:Ed} {r:List UInt8} {x:Cm} {c:Dc}
def Rl.jl(g:Rl cf d D E r){a:Wh}(b:(E.jl mf a).2=true):D.rr mf a=(E.jl mf a).1/\D.lu a=D:=by
 unfold Ed.jl at b|-;unfold Dd.rr Dd.lu;by_cases e:a.sort=1
 .simp[e,g.number]
 by_cases f:a.sort=2
 .rw[N e,G f]at b|-;rw[N e,G f,G f];exact⟨(g.known b).2.1,(g.known b).2.2⟩
 by_cases h:a.sort=3
 .simp[h,g.L]
 simp[e,f,h]
def Rl.gz(b:Rl cf d D E r)(y:c.fst=x.fst)(z:c.snd=x.snd)(w:c.neg=x.neg)(A:x.snd.sort<=3)(a:(E.gz mf x).2.2=true):
  ∃h,(E.gz mf x).1={E with bo:=h}/\h.length=E.bo.length/\D.gz mf c E.H=({D with bo:=h},(E.gz mf x).2.1 !=x.neg):=by
 have t:{D with bo:=E.bo}=D:=by rw[<-b.bo]
 unfold Ed.gz at a|-;unfold Dd.gz;rw[y,z,w];by_cases m:x.snd.sort=0
 .rw[G m]at a|-;rw[G m];have⟨i,j⟩:=b.jl a;exact⟨E.bo,rfl,rfl,by rw[i,j,t]⟩
 rw[N m]at a|-;rw[N m,b.bo];simp only at a|-;have u:∀h,(E.qa mf x.snd h).2=true->(x.snd.sort=2->E.known=true):=λh p e=>by
  unfold Ed.qa Ed.jl at p;rw[N,N,N,G e]at p;exact p
 cases v:E.bo.getD E.H false
 .rw[v]at a;by_cases f:(E.jl mf x.fst).1=false\/(E.jl mf x.fst).2=false
  .rw[G ⟨rfl,f⟩]at a|-;have⟨i,j⟩:=b.jl a;have g:(E.jl mf x.fst).1=false:=by rcases f with e|e;exact e;rw[a]at e;cases e
   exact⟨E.bo,rfl,rfl,by rw[N<|by decide,i,j,G<|.inr g,t];simp⟩
  rw[N<|λe=>f e.2]at a|-;simp only at a;simp only[not_or,Bool.not_eq_false]at f;have⟨i,j⟩:=b.jl f.2;have k:=u _ a;refine⟨E.bo.set E.H<|!(E.qa mf x.snd false).1,by rw[G a],by simp,?_⟩;rw[N<|by decide,i,j,N<|by rw[b.ji,f.1];simp,a];have q:(if x.snd.sort=2 then D.last else D)=D:=by
   split
   .rename_i e;exact(b.known<|k e).2.2
   rfl
  rw[q,b.bo];have s:(!(decide (x.snd.sort=2)&&D.zm)&& !(decide (x.snd.sort=1)&&decide (x.snd.num<=D.number)))= !(E.qa mf x.snd false).1:=by
   unfold Ed.qa Ed.jl;by_cases n:x.snd.sort=1
   .simp[n,b.number]
   by_cases g:x.snd.sort=2
   .have:=(b.known<|k g).2.1;simp[g,this]
   by_cases o:x.snd.sort=3
   .simp[o]
   omega
  rw[s];simp
 rw[v]at a;rw[N<|by simp]at a|-;simp only at a;have k:=u _ a;refine⟨E.bo.set E.H<|!(E.qa mf x.snd true).1,by rw[G a],by simp,?_⟩;rw[G rfl,a];have q:D.lu x.snd=D:=by
  unfold Dd.lu;split
  .rename_i e;exact(b.known<|k e).2.2
  rfl
 rw[q,b.bo];have s:(!(D.rr mf x.snd)&& !(decide (x.snd.sort=1)&&decide (x.snd.num<=D.number)))= !(E.qa mf x.snd true).1:=by
  unfold Ed.qa Ed.jl Dd.rr;by_cases n:x.snd.sort=1
  .simp[n,b.number];omega
  by_cases g:x.snd.sort=2
  .have:=(b.known<|k g).2.1;simp[g,this]
  by_cases o:x.snd.sort=3
  .simp[o,b.L]
  simp[n,g,o]
 rw[s];simp
def To.look(n:gx cf)(h:To mf cf d F K 1 E r)(g:E.ck=0)(e:E.H<cf.U.length):(E.cx=cf.dt/\F=(E.out,5))\/(E.cx≠cf.dt/\To mf cf d F K 2 {E with cx:=E.cx+1,bg:=2} r):=by
 have iv:=h.wz.iv;have j:cr 1 E.bg=81:=rfl;rw[j]at iv;have m:=iv.cx;have i:To mf cf d F K 2 {E with bg:=1} r:=h.step (by omega) ⟨iv.jp E.H 1 E.ck E.put iv.H,λ_=>e,λ_=>⟨ah,by simp⟩,λ_ a=>by simp at a,λ_ a=>by simp at a,.inl g⟩ (by unfold mu;simp[Ed.more]) rfl (λf=>by rw[Ce,N]);by_cases b:E.cx=cf.dt
 .refine .inl ⟨b,i.stop (E':={E with bg:=1,ck:=5}) (by simp) λf=> ?_⟩;rw[ug];simp[Ed.dv,b,Ed.stop]
 refine .inr ⟨b,i.same (by omega) ⟨⟨iv.L,iv.bt,iv.ny,iv.bo,by simp only;omega,iv.H,iv.num,iv.next,?_,iv.ca⟩,λ_=>e,λ_=>⟨by simp,by simp⟩,λ_ a=>by simp at a,λ_ a=>by simp at a,.inl g⟩ ?_ rfl λf=> ?_⟩
 .have k:cr 2 2=482:=rfl;have:=iv.wn;simp only[k];omega
 .unfold mu;simp[Ed.more];omega
 rw[ug,ug];simp[Ed.dv,b]
def To.cmd(h:gx cf)(a:To mf cf d F K 2 E r)(i:(E.dv mf cf).1.dq=E.dq)(b:(E.dv mf cf).2≠0):To mf cf d F K (pj (E.dv mf cf).2) (nx<|E.dv mf cf) r:=by
 have⟨k,_,f⟩:=Ig h (by have:=a.kk;omega) a.wz (mf:=mf);have⟨g,j⟩:=f b;refine a.step (by unfold pj;split<;>(try split)<;>omega) g j (by unfold nx;split<;>exact i) λm=> ?_
 rw[ug,N b];unfold pj nx;have:(E.dv mf cf).2=1\/(E.dv mf cf).2=2\/(E.dv mf cf).2=3\/(E.dv mf cf).2=4:=by omega
 rcases this with e|e|e|e<;>simp[e]
def Kb(a:cf.U[E.H]?=some x)(b:E.bg≠1:=by omega):E.dv mf cf=E.choose mf cf x:=by
 rw[Ed.dv,List.getD,a];simp[b]
def To.pick(o:gx cf)(h:To mf cf d F K 2 E r)(e:E.bg=2)(p:E.ck=0)(k:cf.U[E.H]?=some x){a:List Bool}(j:E.gz mf x=({E with bo:=a},f,true))(q:a.length=E.bo.length):
  (f=x.neg->To mf cf d F K 1 {E with bo:=a,H:=if x.R=0 then x.cn else E.H+1} r)/\(f≠x.neg->To mf cf d F K 2 {E with bo:=a,bg:=3} r):=by
 have m:=Kb (mf:=mf) k;have n:=h.wz;refine⟨λi=> ?_,λi=> ?_⟩
 .have b:E.dv mf cf=({E with bo:=a,H:=if x.R=0 then x.cn else E.H+1},1):=by rw[m,Ed.choose,G e,j];simp[i,Ed.fv]
  have:=h.cmd o (by rw[b]) (by rw[b];simp);rwa[b]at this
 have iv:=n.iv;rw[show cr 2 E.bg=482 by rw[e];rfl]at iv;refine h.same (by omega) ⟨(iv.afn a q).jp E.H 3 E.ck E.put iv.H,λ_=>n.lt rfl,λ_=>⟨by simp,by simp⟩,λ_ g=>by simp at g,λ_ g=>by simp at g,.inl p⟩ (by unfold mu;simp[Ed.more,e]) rfl λt=> ?_
 have b:({E with bo:=a,bg:=3}:Ed).dv mf cf=E.dv mf cf:=by
  have s:=Kb (mf:=mf) (cf:=cf) (E:={E with bo:=a,bg:=3}) k (by simp);rw[m,s,Ed.choose,Ed.choose,G e,j];simp[i]
 rw[ug,ug,b]
end
end
