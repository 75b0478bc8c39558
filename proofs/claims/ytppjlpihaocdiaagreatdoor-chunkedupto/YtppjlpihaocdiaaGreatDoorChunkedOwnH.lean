/- Proved: for every script, every limits, every input and all cuts of which the bulk is at most 1048576, lineworkkeep.Chunked returns true and leaves its arguments as they were: what comes out does not hang on how the input is cut into pieces nor on when the output is taken. Conditions: the bulk (without it the statement is false by size alone); the package-level tables as the program's text lays them, tied by the given text. The card speaks of the pruned copy of the project that the seat holds. -/
import Derived.Test.YtppjlpihaocdiaaGreatDoorCards
import Derived.Test.YtppjlpihaocdiaaGreatDoorTie
import Derived.Test.YtppjlpihaocdiaaGreatDoorOwnLaidH
import Derived.Test.YtppjlpihaocdiaaGreatDoorEgHH
set_option linter.unusedSimpArgs false
set_option linter.unusedVariables false
set_option maxRecDepth 100000
namespace Go.Proofs.YtppjlpihaocdiaaGreatDoor
namespace Ee
open Go.ChangeShapes Go.WideShapes Go.ChangeAt Go.RowKit
open Go.ChangeMaps (open_string shut_string)
def chunked_args : Array Value := #[.string ByteArray.empty, .agg #[.int .i64 0, .int .i64 0, .int .i64 0, .bool false], .string ByteArray.empty, .slice none 0 0, .slice none 0 0]
theorem chunked_reads (os : Os) {H : Type} (enc : TypeId × Value → H) : ∃ places, DataW.whole enc Tryz.prog ((layAll (World.holding Tryz.prog os ⟨#[], #[], []⟩)).forCall (fun _ _ => 0) ⟨#[], chunked_args, []⟩).memory Tryz.f7.params.toList Rows.chunkedSpec.vars false chunked_args.toList 8 = some ([.lit (.string []), .agg [.lit (.int .i64 0), .lit (.int .i64 0), .lit (.int .i64 0), .lit (.bool false)], .lit (.string []), .nil, .nil], [], places) :=
  ⟨[], by kernel_rfl⟩
theorem chunked_lifted (os : Os) (started : os.Started) (H : Type) (enc : TypeId × Value → H) (F : Stop.Interp) :
    ReturnsInHanded {} Tryz.checked os 7 .any ((Rows.OpenSpec.upto Rows.chunkedSpec).preRow enc Tryz.prog Tryz.f7 Rows.chunkedUptoRow.domain false Rows.chunkedUptoRow.laid) (((Rows.OpenSpec.upto Rows.chunkedSpec).at F).post enc Tryz.prog Tryz.f7 false true false false) := by
  obtain ⟨places, hx⟩ := chunked_reads os enc
  refine returnsInHanded_of_row (C := Tryz.checked) (s := Rows.OpenSpec.upto Rows.chunkedSpec) own_knob started (by kernel_rfl) Tryz.func7
    (witness_row_at (enc := enc) (C := Tryz.checked) false (layAll (World.holding Tryz.prog os ⟨#[], #[], []⟩)) chunked_args rfl (by kernel_rfl) (by kernel_rfl) (by kernel_rfl)
      (OpenSpec.preRow_of_cond 8 hx (by kernel_rfl) (fun k hk => by cases hk; kernel_rfl) (by kernel_rfl) (laid_met os _))) ?_
  intro W base args ds gs before hval0 hW _ hcond _ hL _ _
  have hval : ∀ (j : Nat) t v, Tryz.f7.params[j]? = some t → args[j]? = some v → Value.okWide Tryz.prog W .any base t v := hval0
  have ht : Tab W := tab_of hL
  have hW' := hW
  obtain ⟨p, q, hA0, hV, rfl, hfz, hnd⟩ := hW
  have hA : DataW.TrodAll enc Tryz.prog W 0 (fun _ => true) true Tryz.f7.params.toList args.toList ds p := hA0
  rw [Tryz.params7] at hA hval
  obtain ⟨v0, vs0, d0, ds0, p0, q0, hargs, rfl, rfl, h0, r0⟩ := trodAll_cons hA
  obtain ⟨v1, vs1, d1, ds1, p1, q1, rfl, rfl, rfl, h1, r1⟩ := trodAll_cons r0
  obtain ⟨v2, vs2, d2, ds2, p2, q2, rfl, rfl, rfl, h2, r2⟩ := trodAll_cons r1
  obtain ⟨v3, vs3, d3, ds3, p3, q3, rfl, rfl, rfl, h3, r3⟩ := trodAll_cons r2
  obtain ⟨v4, vs4, d4, ds4, p4, q4, rfl, rfl, rfl, h4, r4⟩ := trodAll_cons r3
  obtain ⟨rfl, rfl, rfl⟩ := trodAll_nil r4
  obtain rfl : args = #[v0, v1, v2, v3, v4] := by cases args; simp_all
  obtain ⟨rfl, rfl⟩ := trodVars_none hV
  have hk := bulk_of (hcond _ rfl)
  simp only [List.append_nil] at hk
  obtain ⟨a0, rfl, rfl, rfl, w0⟩ := open_string Tryz.underlying9 (hval 0 9 v0 rfl rfl) h0
  obtain ⟨l1, l2, l3, l4, rfl, rfl⟩ := open_limits (hval 1 23 v1 rfl rfl) h1
  obtain ⟨a2, rfl, rfl, rfl, w2⟩ := open_string Tryz.underlying9 (hval 2 9 v2 rfl rfl) h2
  obtain ⟨o3, n3, c3, rfl, i3⟩ := open_row (hval 3 56 v3 rfl rfl) h3 (Nat.le_trans (bulk_mem (by simp)) hk)
  obtain ⟨o4, n4, c4, rfl, i4⟩ := open_row (hval 4 56 v4 rfl rfl) h4 (Nat.le_trans (bulk_mem (by simp)) hk)
  have hin : a2.size ≤ 1048576 := by
    have := Nat.le_trans (bulk_mem (d := .lit (.string a2.data.toList)) (by simp)) hk
    simp only [Rows.uptoBulk, Array.length_toList] at this
    have e : a2.data.size = a2.size := rfl
    omega
  clear hA0 hval0
  simp only [List.append_nil, List.nil_append] at hW'
  have hlt : ∀ x ∈ p3 ++ p4, x.block < W.heap.size := fun x hx => by simpa using hW'.lt x (by simpa using hx)
  obtain ⟨mf, hm⟩ := mf_ex
  refine (chunked_any mf hm a0 a2 l1 l2 l3 l4 o3 o4 n3 n4 c3 c4 W w0 hin i3 i4 ht).mono fun e W' ⟨he, hg⟩ => ?_
  subst he
  refine ⟨_, rfl, _, _, _, [], [] ++ ([] ++ ([] ++ (p3 ++ (p4 ++ [])))), [], hW', ?_, ?_, ?_, hg.frame _, fun h => by cases h⟩
  · exact trodAll_cons_mk (shut_bool Tryz.underlying4 _) trodAll_mk0
  · refine trodAll_cons_mk (shut_string Tryz.underlying9 w0) (trodAll_cons_mk ?_ (trodAll_cons_mk (shut_string Tryz.underlying9 w2) (trodAll_cons_mk ?_ (trodAll_cons_mk ?_ trodAll_mk0))))
    · exact Below.trod laid_out (by kernel_rfl) (of_decide_eq_true (by kernel_rfl)) h1 hg (fun x hx => by cases hx)
    · exact Below.trod laid_out (by kernel_rfl) (of_decide_eq_true (by kernel_rfl)) h3 hg (fun x hx => hlt x (by simp [hx]))
    · exact Below.trod laid_out (by kernel_rfl) (of_decide_eq_true (by kernel_rfl)) h4 hg (fun x hx => hlt x (by simp [hx]))
  · exact rfl
theorem chunked_said : Rows.ChunkedUptoSaid :=
  OpenClaim.holds_of_cond 7 Tryz.f7 rfl rfl rfl rfl rfl rfl rfl ⟨rfl, rfl, rfl, rfl, rfl⟩ rfl rfl rfl rfl rfl (by kernel_rfl) Tryz.func7 (by kernel_rfl)
    (of_decide_eq_true (by kernel_rfl)) (by unfold Func.isWrapper; first | (rw [if_pos (by decide +kernel)]; kernel_rfl) | (rw [if_neg (by decide +kernel)]; exact ⟨rfl, rfl⟩))
    (fun os started H enc _ F => by rw [OpenClaim.pre_eq_preRow]; exact chunked_lifted os started H enc F)
theorem chunked_plain (f : FuncId) (fn : Func) (hf : Tryz.pinned.checked.prog.funcNamed "linework/lineworkkeep.Chunked" = some f) (hfn : Tryz.pinned.checked.prog.funcs[f]? = some fn) :
    false = Tryz.pinned.checked.prog.looks [] ∧ ∀ (j : Nat) t, fn.params[j]? = some t → Tryz.pinned.checked.prog.wantsStandIn t = false := by
  obtain rfl : f = 7 := Option.some.inj ((show Tryz.prog.funcNamed "linework/lineworkkeep.Chunked" = some 7 by kernel_rfl).symm.trans hf) |>.symm
  obtain rfl : fn = Tryz.f7 := (Option.some.inj (Tryz.func7.symm.trans hfn)).symm
  refine ⟨by kernel_rfl, fun j t ht => ?_⟩
  rw [Tryz.params7] at ht
  have hm := Array.mem_of_getElem? ht
  have hall : (#[9, 23, 9, 56, 56] : Array TypeId).all (fun t => Tryz.prog.wantsStandIn t == false) = true := by kernel_rfl
  have := Array.all_eq_true'.1 hall t hm
  exact (show Tryz.prog.wantsStandIn t = false by simpa using this)
end Ee
theorem chunkedUpto_holds : Rows.ChunkedUptoCardSaid :=
  Claim7.holds_tied_plain_at .later [] _ _ _ _ Ee.chunked_said (fun _ h => by cases h) (by kernel_rfl) (fun _ h => by cases h) chunkedUpto_row_tie rfl ⟨rfl, rfl⟩ (by kernel_rfl) rfl Ee.chunked_plain (by kernel_rfl)
#print axioms chunkedUpto_holds
end Go.Proofs.YtppjlpihaocdiaaGreatDoor
