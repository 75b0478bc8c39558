/- Proved: for every script, every limits and every input of which the bulk is at most 1048576, lineworklaw.Opened returns true and leaves its arguments as they were: Open answers the document's error, and an editor fed once and ended stands, is ready and gives what the document's Run gives. Conditions: the bulk (without it the statement is false by size alone); the package-level tables as the program's text lays them, tied by the given text. The card speaks of the pruned copy of the project that the seat holds. -/
import Derived.Test.YtppjlpihaocdiaaGreatDoorCards
import Derived.Test.YtppjlpihaocdiaaGreatDoorTie
import Derived.Test.YtppjlpihaocdiaaGreatDoorAuQ
import Derived.Test.YtppjlpihaocdiaaGreatDoorAyQ
set_option linter.all false
set_option maxRecDepth 100000
set_option maxHeartbeats 16000000
namespace Go.Proofs.YtppjlpihaocdiaaGreatDoor
open Go.RowKit Go.Proofs.Tryz
open Go.ChangeShapes Go.WideShapes Go.ChangeAt Go.RowKit
open Go.ChangeMaps (open_string shut_string)
def Wj:Array af:= #[.string ByteArray.empty, .agg #[I 0, I 0, I 0, .bool false], .string ByteArray.empty]
theorem ar3(os:Os){H:Type}(enc:TypeId×af->H):∃places,DataW.whole enc Tryz.prog ((Vk (World.holding Tryz.prog os ⟨#[], #[], []⟩)).forCall (fun _ _=>0) ⟨#[],Wj, []⟩).memory Tryz.f3.params.toList Rows.openedSpec.vars false Wj.toList 8=some ([.lit (.string []), .agg [.lit (.int .i64 0), .lit (.int .i64 0), .lit (.int .i64 0), .lit (.bool false)], .lit (.string [])], [],places):=
 ⟨[],by kernel_rfl⟩
theorem ar1(os:Os)(started:os.Started)(H:Type)(enc:TypeId×af->H)(F:Stop.Interp):
  ReturnsInHanded {} Tryz.checked os 3 .any ((Rows.OpenSpec.upto Rows.openedSpec).preRow enc Tryz.prog Tryz.f3 Rows.openedUptoRow.domain false Rows.openedUptoRow.laid) (((Rows.OpenSpec.upto Rows.openedSpec).at F).post enc Tryz.prog Tryz.f3 false true false false):=by
 obtain ⟨places,hx⟩:=ar3 os enc;refine returnsInHanded_of_row (C:=Tryz.checked) (s:=Rows.OpenSpec.upto Rows.openedSpec) ar7 started (by kernel_rfl) Tryz.func3
  (witness_row_at (enc:=enc) (C:=Tryz.checked) false (Vk (World.holding Tryz.prog os ⟨#[], #[], []⟩)) Wj rfl (by kernel_rfl) (by kernel_rfl) (by kernel_rfl)
   (OpenSpec.preRow_of_cond 8 hx (by kernel_rfl) (fun k hk=>by cases hk;kernel_rfl) (by kernel_rfl) (aqd os _))) ?_
 intro W base args ds gs before hval0 hW _ hcond _ hL _ _
 have hval:∀(j:Nat) t v,Tryz.f3.params[j]? =some t->args[j]? =some v->Value.okWide Tryz.prog W .any base t v:=hval0;have ht:yb W:=avz hL;have hW':=hW;obtain ⟨p,q,hA0,hV,rfl,hfz,hnd⟩:=hW;have hA:DataW.TrodAll enc Tryz.prog W 0 (fun _=>true) true Tryz.f3.params.toList args.toList ds p:=hA0;rw [Tryz.params3] at hA hval;obtain ⟨v0,vs0,d0,ds0,p0,q0,hargs,rfl,rfl,h0,r0⟩:=trodAll_cons hA;obtain ⟨v1,vs1,d1,ds1,p1,q1,rfl,rfl,rfl,h1,r1⟩:=trodAll_cons r0;obtain ⟨v2,vs2,d2,ds2,p2,q2,rfl,rfl,rfl,h2,r2⟩:=trodAll_cons r1;obtain ⟨rfl,rfl,rfl⟩:=trodAll_nil r2;obtain rfl:args= #[v0,v1,v2]:=by cases args;simp_all
 obtain ⟨rfl,rfl⟩:=trodVars_none hV;have hk:=alk (hcond _ rfl);simp only [xu] at hk;obtain ⟨a0,rfl,rfl,rfl,w0⟩:=open_string Tryz.underlying9 (hval 0 9 v0 rfl rfl) h0;obtain ⟨l1,l2,l3,l4,rfl,rfl⟩:=ary (hval 1 23 v1 rfl rfl) h1;obtain ⟨a2,rfl,rfl,rfl,w2⟩:=open_string Tryz.underlying9 (hval 2 9 v2 rfl rfl) h2;have hin:a2.size<=1048576:=by
  have:=bq (aa1 (d:= .lit (.string a2.data.toList)) (by simp)) hk;simp only [Rows.uptoBulk,Array.length_toList] at this;have e:a2.data.size=a2.size:=rfl;omega
 clear hA0 hval0;simp only [xu,List.nil_append] at hW';obtain ⟨mf,hm⟩:=aqw;refine (ar0 hm a0 l1 l2 l3 l4 a2 W w0 hin ht).mono fun e W' ⟨he,hg⟩=> ?_
 subst he;refine ⟨_,rfl,_,_,_, [], []++([]++([]++ [])), [],hW', ?_, ?_, ?_,hg.frame _,fun h=>by cases h⟩
 .exact trodAll_cons_mk (shut_bool Tryz.underlying4 _) trodAll_mk0
 .refine trodAll_cons_mk (shut_string Tryz.underlying9 w0) (trodAll_cons_mk ?_ (trodAll_cons_mk (shut_string Tryz.underlying9 w2) trodAll_mk0))
  .exact Below.trod aqe (by kernel_rfl) (of_decide_eq_true (by kernel_rfl)) h1 hg (fun x hx=>by cases hx)
 exact rfl
theorem ar4:Rows.OpenedUptoSaid:=
 OpenClaim.holds_of_cond 3 Tryz.f3 rfl rfl rfl rfl rfl rfl rfl ⟨rfl,rfl,rfl,rfl,rfl⟩ rfl rfl rfl rfl rfl (by kernel_rfl) Tryz.func3 (by kernel_rfl)
  (of_decide_eq_true (by kernel_rfl)) (by unfold Func.isWrapper;first|(rw [G (by decide+kernel)];kernel_rfl)|(rw [N (by decide+kernel)];exact ⟨rfl,rfl⟩))
  (fun os started H enc _ F=>by rw [OpenClaim.pre_eq_preRow];exact ar1 os started H enc F)
theorem ar2(f:FuncId)(fn:Func)(hf:Tryz.pinned.checked.prog.funcNamed "linework/lineworklaw.Opened" =some f)(hfn:Tryz.pinned.checked.prog.funcs[f]? =some fn):
  false=Tryz.pinned.checked.prog.looks []/\∀(j:Nat) t,fn.params[j]? =some t->Tryz.pinned.checked.prog.wantsStandIn t=false:=by
 obtain rfl:f=3:=Option.some.inj ((show Tryz.prog.funcNamed "linework/lineworklaw.Opened" =some 3 by kernel_rfl).symm.trans hf)|>.symm
 obtain rfl:fn=Tryz.f3:=(Option.some.inj (Tryz.func3.symm.trans hfn)).symm;refine ⟨by kernel_rfl,fun j t ht=> ?_⟩;rw [Tryz.params3] at ht;have hm:=Array.mem_of_getElem? ht;have hall:(#[9,23,9]:Array TypeId).all (fun t=>Tryz.prog.wantsStandIn t==false)=true:=by kernel_rfl
 have:=Array.all_eq_true'.1 hall t hm;exact (show Tryz.prog.wantsStandIn t=false by simpa using this)
theorem openedUpto_holds:Rows.OpenedUptoCardSaid:=
 Claim7.holds_tied_plain_at .later [] _ _ _ _ ar4 (fun _ h=>by cases h) (by kernel_rfl) (fun _ h=>by cases h) openedUpto_row_tie rfl ⟨rfl,rfl⟩ (by kernel_rfl) rfl ar2 (by kernel_rfl)
#print axioms openedUpto_holds
