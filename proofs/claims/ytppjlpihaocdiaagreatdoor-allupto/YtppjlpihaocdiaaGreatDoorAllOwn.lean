/- Proved: for every script of steps of which the bulk is at most 1048576, lineworklaw.All returns true and leaves its argument as it was: an editor that there must be; every call of any editors beside one another, and every Match, Check and Pattern between, answers as the document asks, and each list that came out reads as its owner left it behind every later step. Conditions: the bulk (without it the statement is false by size alone); the package-level tables as the program's text lays them, tied by the given text. The card speaks of the pruned copy of the project that the seat holds. -/
import Derived.Test.YtppjlpihaocdiaaGreatDoorCards
import Derived.Test.YtppjlpihaocdiaaGreatDoorTie
import Derived.Test.YtppjlpihaocdiaaGreatDoorBoQ
import Derived.Test.YtppjlpihaocdiaaGreatDoorBpQ
set_option linter.all false
set_option maxRecDepth 100000
set_option maxHeartbeats 16000000
namespace Go.Proofs.YtppjlpihaocdiaaGreatDoor
open Go.RowKit Go.Proofs.Tryz
variable{w u v:ae}{a b c d e:Nat}{s t:ag}{x y z:af}{p D:Int}{l:List af}{f:Bool}{g:List Nat}{h:Nat->Prop}{o:Option Addr}{r:List UInt8}{A:Nat->Bool}{B:Nat->Nat->Bool}{C:Nat->Nat->Prop}(i:Nat)(S T:ag)(V X:af)(j k m n:Nat)(Z:Int)(W:ae)
open Go.ChangeShapes Go.WideShapes Go.ChangeAt Go.RowKit
open Go.ChangeMaps (open_string shut_string)
theorem QK:Tryz.prog.cellsOf 85=9:=qF
theorem QJ:Tryz.prog.cellsOf 3=1:=qF
theorem QV:Tryz.prog.cellsOf 9=1:=qF
theorem QX:Tryz.prog.cellsOf 4=1:=qF
theorem eG(a:(Lit.int .i64 p).wf=true):-9223372036854775808<=p/\p<=9223372036854775807:=by
 have c:IntKind.i64.min=-9223372036854775808:=qG
 have b:IntKind.i64.max=9223372036854775807:=qG
 simpa only [Lit.wf,Aw,xz,c,b] using a
theorem qP{f:Type}{b:TypeId×af->f}{g:DataW f×List MemPlace}(qa:DataW.trod b Tryz.prog w 0 (fun _=>true) true a 85 l=some g):∃e:XW,l=e.cs/\e.ok/\e.s.size+1<=Rows.uptoBulk g.1:=by
 obtain ⟨xs,d,_,rfl,v,X,c⟩:=DataW.trod_struct Tryz.underlying85 qa;rw [QK] at v
 match l,v,xs,X with
 | [C,D,E,F,H,K,L,M,P],_, [a6,a7,a8,a9,aA,aB],_=>
  have R:DataW.trod b Tryz.prog w 0 (fun _=>true) true d 3 [C]=some a6:=by simpa [QJ] using c 0 _ rfl
  have S:DataW.trod b Tryz.prog w 0 (fun _=>true) true d 3 [D]=some a7:=by simpa [QJ] using c 1 _ rfl
  have T:DataW.trod b Tryz.prog w 0 (fun _=>true) true d 3 [E]=some a8:=by simpa [QJ] using c 2 _ rfl
  have U:DataW.trod b Tryz.prog w 0 (fun _=>true) true d 9 [F]=some a9:=by simpa [QV] using c 3 _ rfl
  have V:DataW.trod b Tryz.prog w 0 (fun _=>true) true d 9 [H]=some aA:=by simpa [QV] using c 4 _ rfl
  have W:DataW.trod b Tryz.prog w 0 (fun _=>true) true d 23 [K,L,M,P]=some aB:=by simpa [alq] using c 5 _ rfl
  obtain ⟨aD,aE,aF,aG,aC,rfl,_,r,s,t,u⟩:=Joins.trod_struct4 Tryz.underlying23 W;simp [QJ,QX] at r s t u;obtain ⟨Z,h,rfl,_⟩:=DataW.trod_int Tryz.underlying3 R;obtain ⟨x,i,rfl,a3⟩:=DataW.trod_int Tryz.underlying3 S;obtain ⟨y,j,rfl,a4⟩:=DataW.trod_int Tryz.underlying3 T;obtain ⟨a1,k,rfl,_⟩:=DataW.trod_string Tryz.underlying9 U;obtain ⟨a2,m,rfl,a5⟩:=DataW.trod_string Tryz.underlying9 V;obtain ⟨z,n,rfl,_⟩:=DataW.trod_int Tryz.underlying3 r;obtain ⟨A,o,rfl,_⟩:=DataW.trod_int Tryz.underlying3 s;obtain ⟨B,p,rfl,_⟩:=DataW.trod_int Tryz.underlying3 t;obtain ⟨a0,q,rfl⟩:=DataW.trod_bool Tryz.underlying4 u;simp at h i j k m n o p q;subst h i j k m n o p q;refine ⟨⟨Z,x,y,a1,a2,z,A,B,a0⟩,rfl,⟨a5,eG a3,eG a4⟩, ?_⟩;simp [Rows.uptoBulk,Rows.uptoBulkAll];omega
theorem QZ{c:Type}(b:DataW c):∀a:List (DataW c),Rows.uptoBulkAll (a++ [b])=Rows.uptoBulkAll a+Rows.uptoBulk b
 | []=>by simp [Rows.uptoBulkAll]
 |y::a=>by rw [List.cons_append,Rows.uptoBulkAll,QZ b a,Rows.uptoBulkAll];omega
theorem kK{b:Type}{f:Nat->XW}{D:Nat->DataW b}:∀n,(∀a,a<n->(f a).s.size+1<=Rows.uptoBulk (D a))->kJ f n+n<=Rows.uptoBulkAll ((List.range n).map D)
 |0,_=>by simp [kJ]
 |n+1,h=>by
  have c:=kK n fun a e=>h a Q
  have d:=h n Q;rw [List.range_succ,List.map_append,List.map_singleton,QZ,kJ];omega
theorem KQ{n:Type}{A:TypeId×af->n}{j:DataW n}{F:List MemPlace}(h:Value.okWide Tryz.prog w .any a 31 x)(k:DataW.Trod A Tryz.prog w 0 (fun _=>true) true 31 x j F)(C:Rows.uptoBulk j<=1048576):∃o l z e,x= .slice o l z/\kP w o l e:=by
 obtain ⟨H,u,K,rfl⟩:=okWide_slice Tryz.underlying31 h;obtain ⟨M,c⟩:=k;have T:Inhabited XW:=⟨⟨0,0,0,Bm,Bm,0,0,0,false⟩⟩;obtain⟨f,r⟩|⟨i,U,L,v,l,m,XY,f,_,qa,R,s,r,B⟩:=Deep.open_slice Tryz.underlying31 c
 .simp [Value.cells] at f;obtain ⟨rfl,rfl,rfl⟩:=f;exact ⟨none,0,0,fun _=>default,rfl,Q,by simp [kJ],fun b d=>cb d Q,fun k=>cb k Q⟩
 simp [Value.cells] at f;obtain ⟨rfl,rfl,rfl⟩:=f;simp only [if_true] at s;subst s;obtain ⟨e,c⟩:=Deep.choose_lt (n:=v) (p:=fun b (g:XW)=>w.cells? 0 (i.add (b*9)) 9=some g.cs/\g.ok/\g.s.size+1<=Rows.uptoBulk (m b)) fun b d=>by
  obtain ⟨D,p,q⟩:=B b d;obtain ⟨g,rfl,t,y⟩:=qP q;rw [QK] at p;exact ⟨g,p,t,y⟩
 have hd:j=_:=(Prod.mk.inj r).1;rw [hd,Rows.uptoBulk] at C;have S:=kK (f:=e) (D:=m) u fun b d=>(c b Q).2.2
 refine ⟨some i,u,v,e,rfl,Q,Q,fun b d=>(c b Q).2.1,fun P=> ?_⟩;obtain ⟨p,y,spot⟩:=i;have q:w.cell? ⟨p,y,spot⟩=some (I (e 0).kd):=(World.cells?_some (c 0 Q).1).2.2 0 Q;have E:spot=none:=World.cell?_spot q;subst E;refine ⟨p,y,rfl,alo q,fun b d t x h=> ?_⟩;have D:t<9:=(jy.1 h).1;have:=(World.cells?_some (c b Q).1).2.2 t D;rw [h,add_plain,add_plain] at this;exact this
def cD:Array af:= #[.slice none 0 0]
theorem cQ(c:Os){a:Type}(b:TypeId×af->a):∃d,DataW.whole b Tryz.prog ((Vk (World.holding Tryz.prog c ⟨#[], #[], []⟩)).forCall (fun _ _=>0) ⟨#[],cD, []⟩).memory Tryz.f5.params.toList Rows.allSpec.vars false cD.toList 8=some ([.nil], [],d):=
 ⟨[],qF⟩
theorem cL(b:Os)(L:b.Started)(t:Type)(a:TypeId×af->t)(s:Stop.Interp):
  ReturnsInHanded {} Tryz.checked b 5 .any ((Rows.OpenSpec.upto Rows.allSpec).preRow a Tryz.prog Tryz.f5 Rows.allUptoRow.domain false Rows.allUptoRow.laid) (((Rows.OpenSpec.upto Rows.allSpec).at s).post a Tryz.prog Tryz.f5 false true false false):=by
 obtain ⟨a2,g⟩:=cQ b a;refine returnsInHanded_of_row (C:=Tryz.checked) (s:=Rows.OpenSpec.upto Rows.allSpec) ar7 L qF Tryz.func5
  (witness_row_at (enc:=a) (C:=Tryz.checked) false (Vk (World.holding Tryz.prog b ⟨#[], #[], []⟩)) cD rfl qF qF qF
   (OpenSpec.preRow_of_cond 8 g qF (fun c e=>by cases e;kernel_rfl) qF (aqd b _))) ?_
 intro c u d w V qa l k _ A _ y _ _
 have m:∀(n:Nat) p q,Tryz.f5.params[n]? =some p->d[n]? =some q->Value.okWide Tryz.prog c .any u p q:=l;have E:yb c:=avz y;have f:=k;obtain ⟨H,a3,h,z,rfl,X,Z⟩:=k;have j:DataW.TrodAll a Tryz.prog c 0 (fun _=>true) true Tryz.f5.params.toList d.toList w H:=h;rw [Tryz.params5] at j m;obtain ⟨r,a5,R,S,o,a4,W,rfl,rfl,i,K⟩:=trodAll_cons j;obtain ⟨rfl,rfl,rfl⟩:=trodAll_nil K;obtain rfl:d= #[r]:=by cases d;simp_all
 obtain ⟨rfl,rfl⟩:=trodVars_none z;have e:=alk (A _ rfl);simp only [xu] at e;obtain ⟨P,a1,v,U,rfl,F⟩:=KQ (m 0 31 r rfl rfl) i (bq (aa1 qD) e);clear h l;simp only [xu,List.nil_append] at f;have C:∀h∈o,h.block<c.heap.size:=fun h g=>by simpa using f.lt h (qK g)
 obtain ⟨a0,D⟩:=aqw;refine (cB D v F E).mono fun T M ⟨B,l⟩=> ?_
 subst B;refine ⟨_,rfl,_,_,_, [],o++ [], [],f, ?_, ?_, ?_,l.frame _,fun x=>by cases x⟩
 .exact trodAll_cons_mk (shut_bool Tryz.underlying4 _) trodAll_mk0
 .refine trodAll_cons_mk ?_ trodAll_mk0;exact Below.trod aqe qF (of_decide_eq_true qF) i l C
 exact rfl
theorem cY:Rows.AllUptoSaid:=
 OpenClaim.holds_of_cond 5 Tryz.f5 rfl rfl rfl rfl rfl rfl rfl ⟨rfl,rfl,rfl,rfl,rfl⟩ rfl rfl rfl rfl rfl qF Tryz.func5 qF
  (of_decide_eq_true qF) (by unfold Func.isWrapper;first|(rw [G (by decide+kernel)];kernel_rfl)|(rw [N (by decide+kernel)];exact ⟨rfl,rfl⟩))
  (fun d e b c _ a=>by rw [OpenClaim.pre_eq_preRow];exact cL d e b c a)
theorem cO(b:FuncId)(c:Func)(g:Tryz.pinned.checked.prog.funcNamed "linework/lineworklaw.All" =some b)(h:Tryz.pinned.checked.prog.funcs[b]? =some c):
  false=Tryz.pinned.checked.prog.looks []/\∀(e:Nat) a,c.params[e]? =some a->Tryz.pinned.checked.prog.wantsStandIn a=false:=by
 obtain rfl:b=5:=Option.some.inj ((show Tryz.prog.funcNamed "linework/lineworklaw.All" =some 5 from qF).symm.trans g)|>.symm
 obtain rfl:c=Tryz.f5:=(Option.some.inj (Tryz.func5.symm.trans h)).symm;refine ⟨qF,fun e a d=> ?_⟩;rw [Tryz.params5] at d;have i:=Array.mem_of_getElem? d;have f:(#[31]:Array TypeId).all (fun a=>Tryz.prog.wantsStandIn a==false)=true:=qF
 have:=Array.all_eq_true'.1 f a i;exact (show Tryz.prog.wantsStandIn a=false by simpa using this)
theorem allUpto_holds:Rows.AllUptoCardSaid:=
 Claim7.holds_tied_plain_at .later [] _ _ _ _ cY (fun _ a=>by cases a) qF (fun _ a=>by cases a) allUpto_row_tie rfl ⟨rfl,rfl⟩ qF rfl cO qF
#print axioms allUpto_holds
