/- Proved: for all raw texts, every long text and all limits, lineworkkeep.Bounded returns true and leaves its arguments as they were: no line that is put out is longer than the space; behind a line that is too long the editor stands still with what the lines ahead make. Conditions: none but that the package-level tables are as the program's text lays them, tied by the given text. The card speaks of the pruned copy of the project that the seat holds. -/
import Derived.Test.YtppjlpihaocdiabGreatDoorCards
import Derived.Test.YtppjlpihaocdiabGreatDoorTie
import Derived.Test.YtppjlpihaocdiabGreatDoorOwnStrsH
import Derived.Test.YtppjlpihaocdiabGreatDoorBoAH
set_option linter.unusedSimpArgs false
set_option linter.unusedVariables false
set_option maxRecDepth 100000
namespace Go.Proofs.YtppjlpihaocdiabGreatDoor
namespace Ee
open Go.ChangeShapes Go.WideShapes Go.ChangeAt Go.RowKit
open Go.ChangeMaps (open_string shut_string)

theorem in64 {a : Int} (h : (Lit.int .i64 a).wf = true) : -9223372036854775808 ≤ a ∧ a ≤ 9223372036854775807 := bounds_i64 h
/-- The limits among the arguments. -/
theorem open_limits2 {H : Type} {enc : TypeId × Value → H} {W : World} {base : Nat} {v : Value} {d : DataW H} {p : List MemPlace} (hv : Value.okWide Tryz.prog W .any base 30 v) (h : DataW.Trod enc Tryz.prog W 0 (fun _ => true) true 30 v d p) : ∃ (a b c : Int) (q : Bool), v = .agg #[.int .i64 a, .int .i64 b, .int .i64 c, .bool q] ∧ p = [] ∧ (-9223372036854775808 ≤ a ∧ a ≤ 9223372036854775807) ∧ (-9223372036854775808 ≤ b ∧ b ≤ 9223372036854775807) := by
  obtain ⟨v0, v1, v2, v3, y0, y1, y2, y3, n, rfl, -, hp, h0, h1, h2, h3⟩ := Joins.open_agg4 Tryz.underlying30 (by kernel_rfl) cells_lim hv h
  obtain ⟨a, e0, rfl, ra⟩ := DataW.trod_int Tryz.underlying3 h0
  obtain ⟨b, e1, rfl, rb⟩ := DataW.trod_int Tryz.underlying3 h1
  obtain ⟨c, e2, rfl, _⟩ := DataW.trod_int Tryz.underlying3 h2
  obtain ⟨q, e3, rfl⟩ := DataW.trod_bool Tryz.underlying4 h3
  simp at e0 e1 e2 e3
  subst e0 e1 e2 e3
  exact ⟨a, b, c, q, rfl, by simpa using hp, in64 ra, in64 rb⟩

def bounded_args : Array Value := #[.slice none 0 0, .string ByteArray.empty, .agg #[.int .i64 0, .int .i64 0, .int .i64 0, .bool false]]

theorem bounded_reads (os : Os) {H : Type} (enc : TypeId × Value → H) : ∃ places, DataW.whole enc Tryz.prog ((layAll (World.holding Tryz.prog os ⟨#[], #[], []⟩)).forCall (fun _ _ => 0) ⟨#[], bounded_args, []⟩).memory Tryz.f5.params.toList Rows.boundedSpec.vars false bounded_args.toList 8 = some ([.nil, .lit (.string []), .agg [.lit (.int .i64 0), .lit (.int .i64 0), .lit (.int .i64 0), .lit (.bool false)]], [], places) :=
  ⟨[], by kernel_rfl⟩

theorem bounded_lifted (os : Os) (started : os.Started) (H : Type) (enc : TypeId × Value → H) (F : Stop.Interp) :
    ReturnsInHanded {} Tryz.checked os 5 .any ((OpenSpec.ofChange Rows.boundedSpec).preRow enc Tryz.prog Tryz.f5 Rows.boundedRow.domain false Rows.boundedRow.laid) (((OpenSpec.ofChange Rows.boundedSpec).at F).post enc Tryz.prog Tryz.f5 false true false false) := by
  obtain ⟨places, hx⟩ := bounded_reads os enc
  refine returnsInHanded_of_row (C := Tryz.checked) (s := OpenSpec.ofChange Rows.boundedSpec) own_knob started (by kernel_rfl) Tryz.func5
    (witness_row_at (enc := enc) (C := Tryz.checked) false (layAll (World.holding Tryz.prog os ⟨#[], #[], []⟩)) bounded_args rfl (by kernel_rfl) (by kernel_rfl) (by kernel_rfl)
      (OpenSpec.preRow_of_cond 8 hx (by kernel_rfl) (fun k hk => by cases hk) (by kernel_rfl) (laid_met os _))) ?_
  intro W base args ds gs before hval0 hW _ hcond _ hL _ _
  have hval : ∀ (j : Nat) t v, Tryz.f5.params[j]? = some t → args[j]? = some v → Value.okWide Tryz.prog W .any base t v := hval0
  have ht : Tab W := tab_of hL
  have hW' := hW
  obtain ⟨p, q, hA0, hV, rfl, hfz, hnd⟩ := hW
  have hA : DataW.TrodAll enc Tryz.prog W 0 (fun _ => true) true Tryz.f5.params.toList args.toList ds p := hA0
  rw [Tryz.params5] at hA hval
  obtain ⟨v0, vs0, d0, ds0, p0, q0, hargs, rfl, rfl, h0, r0⟩ := trodAll_cons hA
  obtain ⟨v1, vs1, d1, ds1, p1, q1, rfl, rfl, rfl, h1, r1⟩ := trodAll_cons r0
  obtain ⟨v2, vs2, d2, ds2, p2, q2, rfl, rfl, rfl, h2, r2⟩ := trodAll_cons r1
  obtain ⟨rfl, rfl, rfl⟩ := trodAll_nil r2
  obtain rfl : args = #[v0, v1, v2] := by cases args; simp_all
  obtain ⟨rfl, rfl⟩ := trodVars_none hV
  obtain ⟨o0, n0, c0, rfl, i0⟩ := open_texts (hval 0 22 v0 rfl rfl) h0
  obtain ⟨a1, rfl, rfl, rfl, w1⟩ := open_string Tryz.underlying9 (hval 1 9 v1 rfl rfl) h1
  obtain ⟨l1, l2, l3, l4, rfl, rfl, g1, g2⟩ := open_limits2 (hval 2 30 v2 rfl rfl) h2
  clear hA0 hval0
  simp only [List.append_nil, List.nil_append] at hW'
  have hlt : ∀ x ∈ p0, x.block < W.heap.size := fun x hx => by simpa using hW'.lt x (by simpa using hx)
  obtain ⟨mf, hm⟩ := mf_ex
  refine (bounded_any mf hm o0 n0 c0 a1 l1 l2 l3 l4 W i0 w1 g1 g2 ht).mono fun e W' ⟨he, hg⟩ => ?_
  subst he
  refine ⟨_, rfl, _, _, _, [], p0 ++ ([] ++ ([] ++ [])), [], hW', ?_, ?_, ?_, hg.frame _, fun h => by cases h⟩
  · exact trodAll_cons_mk (shut_bool Tryz.underlying4 _) trodAll_mk0
  · refine trodAll_cons_mk ?_ (trodAll_cons_mk (shut_string Tryz.underlying9 w1) (trodAll_cons_mk ?_ trodAll_mk0))
    · exact Below.trod laid_out (by kernel_rfl) (of_decide_eq_true (by kernel_rfl)) h0 hg hlt
    · exact Below.trod laid_out (by kernel_rfl) (of_decide_eq_true (by kernel_rfl)) h2 hg (fun x hx => by cases hx)
  · exact rfl

theorem bounded_said : Rows.BoundedSaid :=
  OpenClaim.holds_of_cond 5 Tryz.f5 rfl rfl rfl rfl rfl rfl rfl ⟨rfl, rfl, rfl, rfl, rfl⟩ rfl rfl rfl rfl rfl (by kernel_rfl) Tryz.func5 (by kernel_rfl)
    (of_decide_eq_true (by kernel_rfl)) (by unfold Func.isWrapper; first | (rw [if_pos (by decide +kernel)]; kernel_rfl) | (rw [if_neg (by decide +kernel)]; exact ⟨rfl, rfl⟩))
    (fun os started H enc _ F => by rw [OpenClaim.pre_eq_preRow]; exact bounded_lifted os started H enc F)

theorem bounded_plain (f : FuncId) (fn : Func) (hf : Tryz.pinned.checked.prog.funcNamed "linework/lineworkkeep.Bounded" = some f) (hfn : Tryz.pinned.checked.prog.funcs[f]? = some fn) :
    false = Tryz.pinned.checked.prog.looks [] ∧ ∀ (j : Nat) t, fn.params[j]? = some t → Tryz.pinned.checked.prog.wantsStandIn t = false := by
  obtain rfl : f = 5 := Option.some.inj ((show Tryz.prog.funcNamed "linework/lineworkkeep.Bounded" = some 5 by kernel_rfl).symm.trans hf) |>.symm
  obtain rfl : fn = Tryz.f5 := (Option.some.inj (Tryz.func5.symm.trans hfn)).symm
  refine ⟨by kernel_rfl, fun j t ht => ?_⟩
  rw [Tryz.params5] at ht
  have hm := Array.mem_of_getElem? ht
  have hall : (#[22, 9, 30] : Array TypeId).all (fun t => Tryz.prog.wantsStandIn t == false) = true := by kernel_rfl
  have := Array.all_eq_true'.1 hall t hm
  exact (show Tryz.prog.wantsStandIn t = false by simpa using this)
end Ee

/-- The card. -/
theorem bounded_holds : Rows.BoundedCardSaid :=
  Claim7.holds_tied_plain_at .later [] _ _ _ _ Ee.bounded_said (fun _ h => by cases h) (by kernel_rfl) (fun _ h => by cases h) bounded_row_tie rfl ⟨rfl, rfl⟩ (by kernel_rfl) rfl Ee.bounded_plain (by kernel_rfl)
#print axioms bounded_holds
end Go.Proofs.YtppjlpihaocdiabGreatDoor
