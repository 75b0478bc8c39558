/- Several texts in one. -/
import Derived.Test.YtppjlpihaocdiaaSNaCK
import Derived.Test.YtppjlpihaocdiaaSBegK
import Derived.Test.YtppjlpihaocdiaaSFirstK
import Derived.Test.YtppjlpihaocdiaaPrTK
/- The document's walk over a script: one step, where it only hands on. -/
set_option linter.unusedSimpArgs false
set_option linter.unusedVariables false
namespace Go.Proofs.Ytppjlpihaocdiaa
namespace Sk
open Go.RowKit

set_option maxHeartbeats 1000000 in
theorem step_0 (b : Nat) (x : Sc) (c i : Nat) (w : World) (hx : ScAt w b x) (hm : Sm x) (hc : c < 256) (hl : x.patAt.length ≤ 1000) (hl2 : x.patLen.length ≤ 1000) (hi : i ≤ 900) (h : x.mode = 0) :
    Calls Try.prog 23 #[.pointer (some ⟨b, 0, none⟩), .int .u8 c, .int .i64 i] w (Sd b w (sstep x c i)) := by
  have HX : Hid (ScAt w b x) := hx
  have HM : Hid (Sm x) := hm
  have HS : Hid (sstep x c i = begin' x c i) := by rw [Hid]; unfold sstep; simp [h]
  obtain ⟨pv, lv, bv, hR, hN⟩ := hx
  have m0 := hR.cell (k := 0) rfl
  rw [h] at m0
  have f0 := hR.frozen (k := 0) (by rw [scL_length]; omega)
  clear hR hN hm h
  go_enter Try.func23, Try.ntmps23
  go_wp2_with fail
  refine (begin_any b x c i w HX.out HM.out hc hl hl2 hi).mono ?_
  intro e w1 hq
  have HO : Hid (Sd b w (begin' x c i) e w1) := hq
  obtain ⟨q, rfl, _⟩ := HO.out
  clear hq
  go_wp2_with fail
  go_ret
  rw [HS.out]
  exact HO.out

set_option maxHeartbeats 1000000 in
theorem step_1 (b : Nat) (x : Sc) (c i : Nat) (w : World) (hx : ScAt w b x) (hm : Sm x) (hc : c < 256) (h : x.mode = 1) :
    Calls Try.prog 23 #[.pointer (some ⟨b, 0, none⟩), .int .u8 c, .int .i64 i] w (Sd b w (sstep x c i)) := by
  have HX : Hid (ScAt w b x) := hx
  have HM : Hid (Sm x) := hm
  have HS : Hid (sstep x c i = digit x c) := by rw [Hid]; unfold sstep; simp [h]
  obtain ⟨pv, lv, bv, hR, hN⟩ := hx
  have m0 := hR.cell (k := 0) rfl
  rw [h] at m0
  have f0 := hR.frozen (k := 0) (by rw [scL_length]; omega)
  clear hR hN hm h
  go_enter Try.func23, Try.ntmps23
  go_wp2_with fail
  refine (digit_any b x c w HX.out HM.out hc).mono ?_
  intro e w1 hq
  have HO : Hid (Sd b w (digit x c) e w1) := hq
  obtain ⟨q, rfl, _⟩ := HO.out
  clear hq
  go_wp2_with fail
  go_ret
  rw [HS.out]
  exact HO.out

set_option maxHeartbeats 1000000 in
theorem step_2 (b : Nat) (x : Sc) (c i : Nat) (w : World) (hx : ScAt w b x) (hm : Sm x) (hc : c < 256) (h : x.mode = 2) :
    Calls Try.prog 23 #[.pointer (some ⟨b, 0, none⟩), .int .u8 c, .int .i64 i] w (Sd b w (sstep x c i)) := by
  have HX : Hid (ScAt w b x) := hx
  have HM : Hid (Sm x) := hm
  have HS : Hid (sstep x c i = afterSpot x c) := by rw [Hid]; unfold sstep; simp [h]
  obtain ⟨pv, lv, bv, hR, hN⟩ := hx
  have m0 := hR.cell (k := 0) rfl
  rw [h] at m0
  have f0 := hR.frozen (k := 0) (by rw [scL_length]; omega)
  clear hR hN hm h
  go_enter Try.func23, Try.ntmps23
  go_wp2_with fail
  refine (afterSpot_any b x c w HX.out HM.out hc).mono ?_
  intro e w1 hq
  have HO : Hid (Sd b w (afterSpot x c) e w1) := hq
  obtain ⟨q, rfl, _⟩ := HO.out
  clear hq
  go_wp2_with fail
  go_ret
  rw [HS.out]
  exact HO.out

set_option maxHeartbeats 1000000 in
theorem step_3 (b : Nat) (x : Sc) (c i : Nat) (w : World) (hx : ScAt w b x) (hm : Sm x) (hc : c < 256) (hl : x.patAt.length ≤ 1000) (hl2 : x.patLen.length ≤ 1000) (hi : i ≤ 900) (h : x.mode = 3) :
    Calls Try.prog 23 #[.pointer (some ⟨b, 0, none⟩), .int .u8 c, .int .i64 i] w (Sd b w (sstep x c i)) := by
  have HX : Hid (ScAt w b x) := hx
  have HM : Hid (Sm x) := hm
  have HS : Hid (sstep x c i = spot x c i) := by rw [Hid]; unfold sstep; simp [h]
  obtain ⟨pv, lv, bv, hR, hN⟩ := hx
  have m0 := hR.cell (k := 0) rfl
  rw [h] at m0
  have f0 := hR.frozen (k := 0) (by rw [scL_length]; omega)
  clear hR hN hm h
  go_enter Try.func23, Try.ntmps23
  go_wp2_with fail
  refine (spot_any b x c i w HX.out hc hl hl2 hi).mono ?_
  intro e w1 hq
  have HO : Hid (Sd b w (spot x c i) e w1) := hq.sd
  obtain ⟨q, rfl, _⟩ := HO.out
  clear hq
  go_wp2_with fail
  go_ret
  rw [HS.out]
  exact HO.out

set_option maxHeartbeats 1000000 in
theorem step_4 (b : Nat) (x : Sc) (c i : Nat) (w : World) (hx : ScAt w b x) (hm : Sm x) (hc : c < 256) (h : x.mode = 4) :
    Calls Try.prog 23 #[.pointer (some ⟨b, 0, none⟩), .int .u8 c, .int .i64 i] w (Sd b w (sstep x c i)) := by
  have HX : Hid (ScAt w b x) := hx
  have HM : Hid (Sm x) := hm
  have HS : Hid (sstep x c i = addressed x c) := by rw [Hid]; unfold sstep; simp [h]
  obtain ⟨pv, lv, bv, hR, hN⟩ := hx
  have m0 := hR.cell (k := 0) rfl
  rw [h] at m0
  have f0 := hR.frozen (k := 0) (by rw [scL_length]; omega)
  clear hR hN hm h
  go_enter Try.func23, Try.ntmps23
  go_wp2_with fail
  refine (addressed_any b x c w HX.out HM.out hc).mono ?_
  intro e w1 hq
  have HO : Hid (Sd b w (addressed x c) e w1) := hq
  obtain ⟨q, rfl, _⟩ := HO.out
  clear hq
  go_wp2_with fail
  go_ret
  rw [HS.out]
  exact HO.out

set_option maxHeartbeats 1000000 in
theorem step_5 (b : Nat) (x : Sc) (c i : Nat) (w : World) (hx : ScAt w b x) (hm : Sm x) (hc : c < 256) (h : x.mode = 5) :
    Calls Try.prog 23 #[.pointer (some ⟨b, 0, none⟩), .int .u8 c, .int .i64 i] w (Sd b w (sstep x c i)) := by
  have HX : Hid (ScAt w b x) := hx
  have HM : Hid (Sm x) := hm
  have HS : Hid (sstep x c i = addressed x c) := by rw [Hid]; unfold sstep; simp [h]
  obtain ⟨pv, lv, bv, hR, hN⟩ := hx
  have m0 := hR.cell (k := 0) rfl
  rw [h] at m0
  have f0 := hR.frozen (k := 0) (by rw [scL_length]; omega)
  clear hR hN hm h
  go_enter Try.func23, Try.ntmps23
  go_wp2_with fail
  refine (addressed_any b x c w HX.out HM.out hc).mono ?_
  intro e w1 hq
  have HO : Hid (Sd b w (addressed x c) e w1) := hq
  obtain ⟨q, rfl, _⟩ := HO.out
  clear hq
  go_wp2_with fail
  go_ret
  rw [HS.out]
  exact HO.out

set_option maxHeartbeats 1000000 in
theorem step_7 (b : Nat) (x : Sc) (c i : Nat) (w : World) (hx : ScAt w b x) (hm : Sm x) (hc : c < 256) (h : x.mode = 7) :
    Calls Try.prog 23 #[.pointer (some ⟨b, 0, none⟩), .int .u8 c, .int .i64 i] w (Sd b w (sstep x c i)) := by
  have HX : Hid (ScAt w b x) := hx
  have HM : Hid (Sm x) := hm
  have HS : Hid (sstep x c i = separates x c) := by rw [Hid]; unfold sstep; simp [h]
  obtain ⟨pv, lv, bv, hR, hN⟩ := hx
  have m0 := hR.cell (k := 0) rfl
  rw [h] at m0
  have f0 := hR.frozen (k := 0) (by rw [scL_length]; omega)
  clear hR hN hm h
  go_enter Try.func23, Try.ntmps23
  go_wp2_with fail
  refine (separates_any b x c w HX.out HM.out hc).mono ?_
  intro e w1 hq
  have HO : Hid (Sd b w (separates x c) e w1) := hq
  obtain ⟨q, rfl, _⟩ := HO.out
  clear hq
  go_wp2_with fail
  go_ret
  rw [HS.out]
  exact HO.out

set_option maxHeartbeats 1000000 in
theorem step_10 (b : Nat) (x : Sc) (c i : Nat) (w : World) (hx : ScAt w b x) (hm : Sm x) (hc : c < 256) (hlb : x.count ≠ 0 → x.labels ≠ []) (hll : x.labels.length ≤ 1000) (hi : i ≤ 900) (hna : ∀ q ∈ x.labels, (str q.name).size ≤ 1000) (h : x.mode = 10) :
    Calls Try.prog 23 #[.pointer (some ⟨b, 0, none⟩), .int .u8 c, .int .i64 i] w (Sd b w (sstep x c i)) := by
  have HX : Hid (ScAt w b x) := hx
  have HM : Hid (Sm x) := hm
  have HS : Hid (sstep x c i = named x c i) := by rw [Hid]; unfold sstep; simp [h]
  obtain ⟨pv, lv, bv, hR, hN⟩ := hx
  have m0 := hR.cell (k := 0) rfl
  rw [h] at m0
  have f0 := hR.frozen (k := 0) (by rw [scL_length]; omega)
  clear hR hN hm h
  go_enter Try.func23, Try.ntmps23
  go_wp2_with fail
  refine (named_any b x c i w HX.out HM.out hc hlb hll hi hna).mono ?_
  intro e w1 hq
  have HO : Hid (Sd b w (named x c i) e w1) := hq
  obtain ⟨q, rfl, _⟩ := HO.out
  clear hq
  go_wp2_with fail
  go_ret
  rw [HS.out]
  exact HO.out

set_option maxHeartbeats 1000000 in
theorem step_13 (b : Nat) (x : Sc) (c i : Nat) (w : World) (hx : ScAt w b x) (hm : Sm x) (hc : c < 256) (h : x.mode = 13) :
    Calls Try.prog 23 #[.pointer (some ⟨b, 0, none⟩), .int .u8 c, .int .i64 i] w (Sd b w (sstep x c i)) := by
  have HX : Hid (ScAt w b x) := hx
  have HM : Hid (Sm x) := hm
  have HS : Hid (sstep x c i = inTemplate x c) := by rw [Hid]; unfold sstep; simp [h]
  obtain ⟨pv, lv, bv, hR, hN⟩ := hx
  have m0 := hR.cell (k := 0) rfl
  rw [h] at m0
  have f0 := hR.frozen (k := 0) (by rw [scL_length]; omega)
  clear hR hN hm h
  go_enter Try.func23, Try.ntmps23
  go_wp2_with fail
  refine (inTemplate_any b x c w HX.out HM.out hc).mono ?_
  intro e w1 hq
  have HO : Hid (Sd b w (inTemplate x c) e w1) := hq
  obtain ⟨q, rfl, _⟩ := HO.out
  clear hq
  go_wp2_with fail
  go_ret
  rw [HS.out]
  exact HO.out

set_option maxHeartbeats 1000000 in
theorem step_14 (b : Nat) (x : Sc) (c i : Nat) (w : World) (hx : ScAt w b x) (hm : Sm x) (hc : c < 256) (h : x.mode = 14) :
    Calls Try.prog 23 #[.pointer (some ⟨b, 0, none⟩), .int .u8 c, .int .i64 i] w (Sd b w (sstep x c i)) := by
  have HX : Hid (ScAt w b x) := hx
  have HM : Hid (Sm x) := hm
  have HS : Hid (sstep x c i = inTemplate x c) := by rw [Hid]; unfold sstep; simp [h]
  obtain ⟨pv, lv, bv, hR, hN⟩ := hx
  have m0 := hR.cell (k := 0) rfl
  rw [h] at m0
  have f0 := hR.frozen (k := 0) (by rw [scL_length]; omega)
  clear hR hN hm h
  go_enter Try.func23, Try.ntmps23
  go_wp2_with fail
  refine (inTemplate_any b x c w HX.out HM.out hc).mono ?_
  intro e w1 hq
  have HO : Hid (Sd b w (inTemplate x c) e w1) := hq
  obtain ⟨q, rfl, _⟩ := HO.out
  clear hq
  go_wp2_with fail
  go_ret
  rw [HS.out]
  exact HO.out

set_option maxHeartbeats 1000000 in
theorem step_15 (b : Nat) (x : Sc) (c i : Nat) (w : World) (hx : ScAt w b x) (hm : Sm x) (hc : c < 256) (h : x.mode = 15) :
    Calls Try.prog 23 #[.pointer (some ⟨b, 0, none⟩), .int .u8 c, .int .i64 i] w (Sd b w (sstep x c i)) := by
  have HX : Hid (ScAt w b x) := hx
  have HM : Hid (Sm x) := hm
  have HS : Hid (sstep x c i = flag x c) := by rw [Hid]; unfold sstep; simp [h]
  obtain ⟨pv, lv, bv, hR, hN⟩ := hx
  have m0 := hR.cell (k := 0) rfl
  rw [h] at m0
  have f0 := hR.frozen (k := 0) (by rw [scL_length]; omega)
  clear hR hN hm h
  go_enter Try.func23, Try.ntmps23
  go_wp2_with fail
  refine (flag_any b x c w HX.out HM.out hc).mono ?_
  intro e w1 hq
  have HO : Hid (Sd b w (flag x c) e w1) := hq
  obtain ⟨q, rfl, _⟩ := HO.out
  clear hq
  go_wp2_with fail
  go_ret
  rw [HS.out]
  exact HO.out

set_option maxHeartbeats 1000000 in
theorem step_17 (b : Nat) (x : Sc) (c i : Nat) (w : World) (hx : ScAt w b x) (hm : Sm x) (hc : c < 256) (h : x.mode = 17) :
    Calls Try.prog 23 #[.pointer (some ⟨b, 0, none⟩), .int .u8 c, .int .i64 i] w (Sd b w (sstep x c i)) := by
  have HX : Hid (ScAt w b x) := hx
  have HM : Hid (Sm x) := hm
  have HS : Hid (sstep x c i = inFirst x c) := by rw [Hid]; unfold sstep; simp [h]
  obtain ⟨pv, lv, bv, hR, hN⟩ := hx
  have m0 := hR.cell (k := 0) rfl
  rw [h] at m0
  have f0 := hR.frozen (k := 0) (by rw [scL_length]; omega)
  clear hR hN hm h
  go_enter Try.func23, Try.ntmps23
  go_wp2_with fail
  refine (inFirst_any b x c w HX.out HM.out hc).mono ?_
  intro e w1 hq
  have HO : Hid (Sd b w (inFirst x c) e w1) := hq
  obtain ⟨q, rfl, _⟩ := HO.out
  clear hq
  go_wp2_with fail
  go_ret
  rw [HS.out]
  exact HO.out

set_option maxHeartbeats 1000000 in
theorem step_18 (b : Nat) (x : Sc) (c i : Nat) (w : World) (hx : ScAt w b x) (hm : Sm x) (hc : c < 256) (h : x.mode = 18) :
    Calls Try.prog 23 #[.pointer (some ⟨b, 0, none⟩), .int .u8 c, .int .i64 i] w (Sd b w (sstep x c i)) := by
  have HX : Hid (ScAt w b x) := hx
  have HM : Hid (Sm x) := hm
  have HS : Hid (sstep x c i = inFirst x c) := by rw [Hid]; unfold sstep; simp [h]
  obtain ⟨pv, lv, bv, hR, hN⟩ := hx
  have m0 := hR.cell (k := 0) rfl
  rw [h] at m0
  have f0 := hR.frozen (k := 0) (by rw [scL_length]; omega)
  clear hR hN hm h
  go_enter Try.func23, Try.ntmps23
  go_wp2_with fail
  refine (inFirst_any b x c w HX.out HM.out hc).mono ?_
  intro e w1 hq
  have HO : Hid (Sd b w (inFirst x c) e w1) := hq
  obtain ⟨q, rfl, _⟩ := HO.out
  clear hq
  go_wp2_with fail
  go_ret
  rw [HS.out]
  exact HO.out

set_option maxHeartbeats 1000000 in
theorem step_19 (b : Nat) (x : Sc) (c i : Nat) (w : World) (hx : ScAt w b x) (hm : Sm x) (hc : c < 256) (h : x.mode = 19) :
    Calls Try.prog 23 #[.pointer (some ⟨b, 0, none⟩), .int .u8 c, .int .i64 i] w (Sd b w (sstep x c i)) := by
  have HX : Hid (ScAt w b x) := hx
  have HM : Hid (Sm x) := hm
  have HS : Hid (sstep x c i = inThen x c) := by rw [Hid]; unfold sstep; simp [h]
  obtain ⟨pv, lv, bv, hR, hN⟩ := hx
  have m0 := hR.cell (k := 0) rfl
  rw [h] at m0
  have f0 := hR.frozen (k := 0) (by rw [scL_length]; omega)
  clear hR hN hm h
  go_enter Try.func23, Try.ntmps23
  go_wp2_with fail
  refine (inThen_any b x c w HX.out HM.out hc).mono ?_
  intro e w1 hq
  have HO : Hid (Sd b w (inThen x c) e w1) := hq
  obtain ⟨q, rfl, _⟩ := HO.out
  clear hq
  go_wp2_with fail
  go_ret
  rw [HS.out]
  exact HO.out

set_option maxHeartbeats 1000000 in
theorem step_20 (b : Nat) (x : Sc) (c i : Nat) (w : World) (hx : ScAt w b x) (hm : Sm x) (hc : c < 256) (h : x.mode = 20) :
    Calls Try.prog 23 #[.pointer (some ⟨b, 0, none⟩), .int .u8 c, .int .i64 i] w (Sd b w (sstep x c i)) := by
  have HX : Hid (ScAt w b x) := hx
  have HM : Hid (Sm x) := hm
  have HS : Hid (sstep x c i = inThen x c) := by rw [Hid]; unfold sstep; simp [h]
  obtain ⟨pv, lv, bv, hR, hN⟩ := hx
  have m0 := hR.cell (k := 0) rfl
  rw [h] at m0
  have f0 := hR.frozen (k := 0) (by rw [scL_length]; omega)
  clear hR hN hm h
  go_enter Try.func23, Try.ntmps23
  go_wp2_with fail
  refine (inThen_any b x c w HX.out HM.out hc).mono ?_
  intro e w1 hq
  have HO : Hid (Sd b w (inThen x c) e w1) := hq
  obtain ⟨q, rfl, _⟩ := HO.out
  clear hq
  go_wp2_with fail
  go_ret
  rw [HS.out]
  exact HO.out

end Sk
end Go.Proofs.Ytppjlpihaocdiaa

/- The document's walk over a script: one step, the other modes. -/
set_option linter.unusedSimpArgs false
set_option linter.unusedVariables false
namespace Go.Proofs.Ytppjlpihaocdiaa
namespace Sk
open Go.RowKit

set_option maxHeartbeats 1000000 in
theorem step_8 (b : Nat) (x : Sc) (c i : Nat) (w : World) (hx : ScAt w b x) (hc : c < 256) (h : x.mode = 8) :
    Calls Try.prog 23 #[.pointer (some ⟨b, 0, none⟩), .int .u8 c, .int .i64 i] w (Sd b w (sstep x c i)) := by
  have HS : Hid (sstep x c i = if c = 32 then some { x with mode := 9 } else none) := by rw [Hid]; unfold sstep; simp [h]
  obtain ⟨pv, lv, bv, hR, hN⟩ := hx
  have HR : Hid (Row w b (scL x pv lv bv)) := hR
  have HN : Hid (Notes w b x pv lv bv) := hN
  have m0 := hR.cell (k := 0) rfl
  rw [h] at m0
  have f0 := hR.frozen (k := 0) (by rw [scL_length]; omega)
  clear hR hN h
  by_cases h32 : c = 32
  · subst h32
    go_enter Try.func23, Try.ntmps23
    go_wp2_with fail
    go_ret
    rw [HS.out]
    exact Sd.yes (x' := { x with mode := 9 }) HN.out ((Sole.refl _ _).setCell _ _) (Row.head HR.out 0 _ (by omega) rfl) rfl
  · have q1 : ((c : Int) == 32) = false := by simp; omega
    have HS2 : Hid (sstep x c i = none) := by rw [Hid, HS.out, if_neg h32]
    clear h32 HS
    go_enter Try.func23, Try.ntmps23
    go_wp2_with fail
    go_ret
    rw [HS2.out]
    exact Sd.no (Sole.below ((Sole.refl _ _).setCell _ _)) rfl

set_option maxHeartbeats 1000000 in
theorem step_9 (b : Nat) (x : Sc) (c i : Nat) (w : World) (hx : ScAt w b x) (hc : c < 256) (h : x.mode = 9) :
    Calls Try.prog 23 #[.pointer (some ⟨b, 0, none⟩), .int .u8 c, .int .i64 i] w (Sd b w (sstep x c i)) := by
  have HS : Hid (sstep x c i = some (if c = 10 then { x with mode := 0 } else x)) := by rw [Hid]; unfold sstep; simp [h]
  have HX : Hid (ScAt w b x) := hx
  obtain ⟨pv, lv, bv, hR, hN⟩ := hx
  have HR : Hid (Row w b (scL x pv lv bv)) := hR
  have HN : Hid (Notes w b x pv lv bv) := hN
  have m0 := hR.cell (k := 0) rfl
  rw [h] at m0
  have f0 := hR.frozen (k := 0) (by rw [scL_length]; omega)
  clear hR hN h
  by_cases h10 : c = 10
  · subst h10
    go_enter Try.func23, Try.ntmps23
    go_wp2_with fail
    go_ret
    rw [HS.out]
    exact Sd.yes (x' := { x with mode := 0 }) HN.out ((Sole.refl _ _).setCell _ _) (Row.head HR.out 0 _ (by omega) rfl) rfl
  · have q1 : ((c : Int) == 10) = false := by simp; omega
    have HS2 : Hid (sstep x c i = some x) := by rw [Hid, HS.out, if_neg h10]
    clear h10 HS
    go_enter Try.func23, Try.ntmps23
    go_wp2_with fail
    go_ret
    rw [HS2.out]
    exact ⟨true, rfl, Below.refl _ _, .inl ⟨x, rfl, rfl, HX.out⟩⟩

set_option maxHeartbeats 1000000 in
theorem step_21 (b : Nat) (x : Sc) (c i : Nat) (w : World) (hx : ScAt w b x) (hc : c < 256) (h : x.mode = 21) :
    Calls Try.prog 23 #[.pointer (some ⟨b, 0, none⟩), .int .u8 c, .int .i64 i] w (Sd b w (sstep x c i)) := by
  have HS : Hid (sstep x c i = if c = 47 then some { x with mode := 7 } else none) := by rw [Hid]; unfold sstep; simp [h]
  obtain ⟨pv, lv, bv, hR, hN⟩ := hx
  have HR : Hid (Row w b (scL x pv lv bv)) := hR
  have HN : Hid (Notes w b x pv lv bv) := hN
  have m0 := hR.cell (k := 0) rfl
  rw [h] at m0
  have f0 := hR.frozen (k := 0) (by rw [scL_length]; omega)
  clear hR hN h
  by_cases h47 : c = 47
  · subst h47
    go_enter Try.func23, Try.ntmps23
    go_wp2_with fail
    go_ret
    rw [HS.out]
    exact Sd.yes (x' := { x with mode := 7 }) HN.out ((Sole.refl _ _).setCell _ _) (Row.head HR.out 0 _ (by omega) rfl) rfl
  · have q1 : ((c : Int) == 47) = false := by simp; omega
    have HS2 : Hid (sstep x c i = none) := by rw [Hid, HS.out, if_neg h47]
    clear h47 HS
    go_enter Try.func23, Try.ntmps23
    go_wp2_with fail
    go_ret
    rw [HS2.out]
    exact Sd.no (Sole.below ((Sole.refl _ _).setCell _ _)) rfl

set_option maxHeartbeats 1000000 in
theorem step_11 (b : Nat) (x : Sc) (c i : Nat) (w : World) (hx : ScAt w b x) (hc : c < 256) (hl : x.patAt.length ≤ 1000) (hl2 : x.patLen.length ≤ 1000) (hi : i ≤ 900) (h : x.mode = 11) :
    Calls Try.prog 23 #[.pointer (some ⟨b, 0, none⟩), .int .u8 c, .int .i64 i] w (Sd b w (sstep x c i)) := by
  have HS : Hid (sstep x c i = if c = 47 then some (pattern { x with mode := 12 } (i + 1)) else none) := by rw [Hid]; unfold sstep; simp [h]
  obtain ⟨pv, lv, bv, hR, hN⟩ := hx
  have HX2 : Hid (ScAt (w.setCell ⟨b, 0, none⟩ (.int .i64 12)) b { x with mode := 12 }) := ScAt.put hN ((Sole.refl _ _).setCell _ _) (Row.head hR 0 _ (by omega) rfl) rfl rfl rfl
  have m0 := hR.cell (k := 0) rfl
  rw [h] at m0
  have f0 := hR.frozen (k := 0) (by rw [scL_length]; omega)
  clear hR hN h
  have HI : Hid (((i : Int) + 1) = ((i + 1 : Nat) : Int)) := by rw [Hid]; omega
  by_cases h47 : c = 47
  · subst h47
    go_enter Try.func23, Try.ntmps23
    go_wp2_with fail
    rw [HI.out]
    refine (spattern_any b { x with mode := 12 } (i + 1) _ HX2.out hl hl2 (by omega)).mono ?_
    rintro e w1 ⟨rfl, hb, hq⟩
    have HB : Hid (Below b w w1) := (Sole.below ((Sole.refl _ _).setCell _ _)).trans hb
    have HQ : Hid (ScAt w1 b (pattern { x with mode := 12 } (i + 1))) := hq
    clear hb hq
    go_wp2_with fail
    go_ret
    rw [HS.out]
    exact ⟨true, rfl, HB.out, .inl ⟨_, rfl, rfl, HQ.out⟩⟩
  · have q1 : ((c : Int) == 47) = false := by simp; omega
    have HS2 : Hid (sstep x c i = none) := by rw [Hid, HS.out, if_neg h47]
    clear h47 HS
    go_enter Try.func23, Try.ntmps23
    go_wp2_with fail
    rw [HI.out]
    refine (spattern_any b { x with mode := 12 } (i + 1) _ HX2.out hl hl2 (by omega)).mono ?_
    rintro e w1 ⟨rfl, hb, hq⟩
    have HB : Hid (Below b w w1) := (Sole.below ((Sole.refl _ _).setCell _ _)).trans hb
    clear hb hq
    go_wp2_with fail
    go_ret
    rw [HS2.out]
    exact Sd.no HB.out rfl

set_option maxHeartbeats 1000000 in
theorem step_pat (b : Nat) (x : Sc) (c i : Nat) (w : World) (hx : ScAt w b x) (hm : Sm x) (hc : c < 256) (hp : x.patLen ≠ []) (hp2 : ∀ n ∈ x.patLen, n ≤ 1000) (hp3 : x.patLen.length ≤ 1000) (h : x.mode = 6 ∨ x.mode = 12) :
    Calls Try.prog 23 #[.pointer (some ⟨b, 0, none⟩), .int .u8 c, .int .i64 i] w (Sd b w (sstep x c i)) := by
  have HX : Hid (ScAt w b x) := hx
  have HM : Hid (Sm x) := hm
  have HS : Hid (sstep x c i = (inPattern x c).1.map fun y => if (inPattern x c).2 = true then { y with mode := if x.mode = 12 then 13 else 2 } else y) := by
    rw [Hid]; unfold sstep; rcases h with h | h <;> simp [h]
  have HSE : Hid ((inPattern x c).2 = true → (inPattern x c).1 = if whole x.pat = true then some x else none) := fun he => by
    unfold inPattern at he ⊢
    split at he
    · rename_i hh; rw [if_pos hh]
    · cases he
  obtain ⟨pv, lv, bv, hR, hN⟩ := hx
  have HR : Hid (Row w b (scL x pv lv bv)) := hR
  have HN : Hid (Notes w b x pv lv bv) := hN
  have m0 := hR.cell (k := 0) rfl
  have f0 := hR.frozen (k := 0) (by rw [scL_length]; omega)
  clear hR hN hm
  have HF : Hid (∀ w' : World, ∀ ok : Bool, ok = whole x.pat → (inPattern x c).2 = true → Row w' b (scL { x with mode := if x.mode = 12 then 13 else 2 } pv lv bv) → Sole b w w' → Sd b w (sstep x c i) (.returned (.bool ok)) w') := fun w' ok hok he hr hs => by
    rw [HS.out, HSE.out he]
    rcases bool_or (whole x.pat) with hw | hw
    · rw [hw, if_pos rfl, hok, hw]
      refine Sd.yes HN.out hs hr ?_
      rw [he]
      rfl
    · rw [hw, if_neg Bool.false_ne_true, hok, hw]
      exact Sd.no (Sole.below hs) rfl
  rcases h with h | h
  · rw [h] at m0
    rcases bool_or (inPattern x c).2 with he | he
    · have HE : Hid ((inPattern x c).2 = true) := he
      clear he
      go_enter Try.func23, Try.ntmps23
      go_wp2_with fail
      refine (inPattern_any b x c w HX.out HM.out hc hp hp2 hp3).mono ?_
      rintro e w1 ⟨ok, rfl, hb, ho, _⟩
      obtain ⟨rfl, hok⟩ := ho HE.out
      have HOK : Hid (ok = whole x.pat) := hok
      clear hok ho hb
      rw [HE.out]
      go_wp2_with fail
      go_ret
      exact HF.out _ _ HOK.out HE.out (by rw [if_neg (by omega)]; exact Row.head HR.out 0 _ (by omega) rfl) ((Sole.refl _ _).setCell _ _)
    · have HE : Hid ((inPattern x c).2 = false) := he
      clear he
      go_enter Try.func23, Try.ntmps23
      go_wp2_with fail
      refine (inPattern_any b x c w HX.out HM.out hc hp hp2 hp3).mono ?_
      rintro e w1 ⟨ok, rfl, hb, _, ho⟩
      have HO : Hid _ := ho HE.out
      have HB : Hid (Below b w w1) := hb
      clear ho hb
      rw [HE.out]
      go_wp2_with fail
      go_ret
      rw [HS.out]
      rcases HO.out with ⟨x', h1, h2, h3⟩ | ⟨h1, h2⟩
      · exact ⟨ok, rfl, HB.out, .inl ⟨x', by rw [h1]; simp [HE.out], h2, h3⟩⟩
      · exact ⟨ok, rfl, HB.out, .inr ⟨by rw [h1]; rfl, h2⟩⟩
  · rw [h] at m0
    rcases bool_or (inPattern x c).2 with he | he
    · have HE : Hid ((inPattern x c).2 = true) := he
      clear he
      go_enter Try.func23, Try.ntmps23
      go_wp2_with fail
      refine (inPattern_any b x c w HX.out HM.out hc hp hp2 hp3).mono ?_
      rintro e w1 ⟨ok, rfl, hb, ho, _⟩
      obtain ⟨rfl, hok⟩ := ho HE.out
      have HOK : Hid (ok = whole x.pat) := hok
      clear hok ho hb
      rw [HE.out]
      go_wp2_with fail
      go_ret
      exact HF.out _ _ HOK.out HE.out (by rw [if_pos h]; exact Row.head HR.out 0 _ (by omega) rfl) ((Sole.refl _ _).setCell _ _)
    · have HE : Hid ((inPattern x c).2 = false) := he
      clear he
      go_enter Try.func23, Try.ntmps23
      go_wp2_with fail
      refine (inPattern_any b x c w HX.out HM.out hc hp hp2 hp3).mono ?_
      rintro e w1 ⟨ok, rfl, hb, _, ho⟩
      have HO : Hid _ := ho HE.out
      have HB : Hid (Below b w w1) := hb
      clear ho hb
      rw [HE.out]
      go_wp2_with fail
      go_ret
      rw [HS.out]
      rcases HO.out with ⟨x', h1, h2, h3⟩ | ⟨h1, h2⟩
      · exact ⟨ok, rfl, HB.out, .inl ⟨x', by rw [h1]; simp [HE.out], h2, h3⟩⟩
      · exact ⟨ok, rfl, HB.out, .inr ⟨by rw [h1]; rfl, h2⟩⟩

theorem zero_row : Try.zeroCells56 = (r256 fun _ => false).toArray := by kernel_rfl
theorem Try.size56 : (Try.prog.info? 56).map (·.size) = some 256 := by kernel_rfl

theorem scL_put_all (x : Sc) (pv lv bv : Value) (f : Nat → Bool) : (scL x pv lv bv).take 14 ++ r256 f ++ (scL x pv lv bv).drop (14 + (r256 f).length) = scL { x with row := f } pv lv bv := by
  have h1 : (r256 f).length = 256 := by simp [r256]
  have h2 : (r256 x.row).length = 256 := by simp [r256]
  rw [h1]
  have e : (scL x pv lv bv).drop (14 + 256) = [.int .i64 x.rows, pv, lv, bv] := by
    have : (r256 x.row ++ [Value.int .i64 x.rows, pv, lv, bv]).drop 256 = [.int .i64 x.rows, pv, lv, bv] := by
      rw [List.drop_append, h2]
      simp [h2]
    exact this
  rw [e]
  have e2 : (scL x pv lv bv).take 14 = [.int .i64 x.mode, .int .i64 x.op, .int .i64 x.pat.m, .int .i64 x.pat.o, .int .i64 x.pat.a, .int .i64 x.pat.l, .int .i64 x.part, .int .i64 x.count, .int .i64 x.zero, .int .i64 x.least, .bool x.goal, .bool x.all, .bool x.print, .bool x.numbers] := rfl
  rw [e2, List.append_assoc]
  rfl

set_option maxRecDepth 100000 in
set_option maxHeartbeats 4000000 in
theorem step_16 (b : Nat) (x : Sc) (c i : Nat) (w : World) (hx : ScAt w b x) (hc : c < 256) (h : x.mode = 16) :
    Calls Try.prog 23 #[.pointer (some ⟨b, 0, none⟩), .int .u8 c, .int .i64 i] w (Sd b w (sstep x c i)) := by
  have HS : Hid (sstep x c i = if c = 47 then some { x with mode := 17, row := fun _ => false, rows := 0 } else none) := by rw [Hid]; unfold sstep; simp [h]
  obtain ⟨pv, lv, bv, hR, hN⟩ := hx
  have HR : Hid (Row (w.setCell ⟨b, 0, none⟩ (.int .i64 17)) b (scL { x with mode := 17 } pv lv bv)) := Row.head hR 0 _ (by omega) rfl
  have HN : Hid (Notes w b x pv lv bv) := hN
  have HP : Hid (∀ w' : World, Row w' b (scL { x with mode := 17, row := fun _ => false } pv lv bv) → w'.cell? ⟨b, 270, none⟩ = some (.int .i64 (x.rows : Int)) ∧ w'.frozen? ⟨b, 270, none⟩ = false) := fun w' hr => ⟨hr.cell (k := 270) (scL_rows { x with mode := 17, row := fun _ => false } pv lv bv), hr.frozen (k := 270) (by rw [scL_length]; omega)⟩
  have m0 := hR.cell (k := 0) rfl
  rw [h] at m0
  have f0 := hR.frozen (k := 0) (by rw [scL_length]; omega)
  clear hR hN h
  have HF : Hid (∀ w' : World, Row w' b (scL { x with mode := 17, row := fun _ => false } pv lv bv) → Sole b (w.setCell ⟨b, 0, none⟩ (.int .i64 17)) w' → Row (w'.setCell ⟨b, 270, none⟩ (.int .i64 0)) b (scL { x with mode := 17, row := fun _ => false, rows := 0 } pv lv bv) ∧ Sole b w (w'.setCell ⟨b, 270, none⟩ (.int .i64 0))) := fun w' hr hs => by
    refine ⟨?_, (((Sole.refl _ _).setCell _ _).trans hs).trans ((Sole.refl _ _).setCell _ _)⟩
    have := hr.put 270 (by rw [scL_length]; omega) (.int .i64 ((0 : Nat) : Int))
    rw [scL_put_rows] at this
    exact this
  by_cases h47 : c = 47
  · subst h47
    go_enter Try.func23, Try.ntmps23
    go_wp2_with (refine Rs.wpList_store_part rfl 56 (.tmp 121) (.tmp 119) rfl b 14 rfl (r256 fun _ => false) (by show Value.agg Try.zeroCells56 = _; rw [Sk.zero_row]) (scL { x with mode := 17 } pv lv bv) (scL { x with mode := 17, row := fun _ => false } pv lv bv) HR.out (by rw [scL_length]; simp [r256]) (scL_put_all _ _ _ _ _) (by rw [Try.size56]; simp [r256]) (by intro v hv; simp [r256] at hv; rw [← hv.2]; rfl) ?_; intro w5 hR5 hS5; have HR5 : Hid _ := hR5; have HS5 : Hid _ := hS5; have m5 := (HP.out _ hR5).1; have f5 := (HP.out _ hR5).2; clear hR5 hS5)
    go_ret
    rw [HS.out]
    obtain ⟨g1, g2⟩ := HF.out _ HR5.out HS5.out
    exact Sd.yes (x' := { x with mode := 17, row := fun _ => false, rows := 0 }) HN.out g2 g1 rfl
  · have q1 : ((c : Int) == 47) = false := by simp; omega
    have HS2 : Hid (sstep x c i = none) := by rw [Hid, HS.out, if_neg h47]
    clear h47 HS
    go_enter Try.func23, Try.ntmps23
    go_wp2_with (refine Rs.wpList_store_part rfl 56 (.tmp 121) (.tmp 119) rfl b 14 rfl (r256 fun _ => false) (by show Value.agg Try.zeroCells56 = _; rw [Sk.zero_row]) (scL { x with mode := 17 } pv lv bv) (scL { x with mode := 17, row := fun _ => false } pv lv bv) HR.out (by rw [scL_length]; simp [r256]) (scL_put_all _ _ _ _ _) (by rw [Try.size56]; simp [r256]) (by intro v hv; simp [r256] at hv; rw [← hv.2]; rfl) ?_; intro w5 hR5 hS5; have HR5 : Hid _ := hR5; have HS5 : Hid _ := hS5; have m5 := (HP.out _ hR5).1; have f5 := (HP.out _ hR5).2; clear hR5 hS5)
    go_ret
    rw [HS2.out]
    exact Sd.no (Sole.below (HF.out _ HR5.out HS5.out).2) rfl
end Sk
end Go.Proofs.Ytppjlpihaocdiaa

