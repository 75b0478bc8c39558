/- The reader's escape, inner, between: only its place turns. -/
import Derived.Test.YtppjlpihaocdiaaLeaf
set_option linter.unusedSimpArgs false
set_option linter.unusedVariables false
namespace Go.Proofs.Ytppjlpihaocdiaa
open Go.RowKit

/-- Only the reader's place has turned. -/
structure Mv (b : Nat) (w w' : World) (j : Nat) : Prop where
  only : Only b w w'
  c1 : w'.cell? ⟨b, 1, none⟩ = some (.int .i64 j)
  cell : ∀ k, k ≠ 1 → w'.cell? ⟨b, k, none⟩ = w.cell? ⟨b, k, none⟩
  frz : ∀ k, w'.frozen? ⟨b, k, none⟩ = w.frozen? ⟨b, k, none⟩

theorem Mv.trans {b j j' : Nat} {u v w : World} (h : Mv b u v j) (k : Mv b v w j') : Mv b u w j' :=
  ⟨h.only.trans k.only, k.c1, fun i hi => (k.cell i hi).trans (h.cell i hi), fun i => (k.frz i).trans (h.frz i)⟩
theorem Mv.drewN {b j : Nat} {u w : World} (h : Mv b u w j) (n : Nat) : Mv b u (w.drewN n) j :=
  ⟨h.only.trans ⟨rfl, rfl, rfl, rfl, fun _ _ => rfl⟩, h.c1, h.cell, h.frz⟩
theorem Mv.stay {b j : Nat} {w : World} (h : w.cell? ⟨b, 1, none⟩ = some (.int .i64 j)) : Mv b w w j := ⟨.refl _ _, h, fun _ _ => rfl, fun _ => rfl⟩
theorem Rc.stay {w : World} {b : Nat} {s : ByteArray} {i : Nat} (h : Rc w b s i) : Mv b w w i := .stay h.c1
theorem Mv.put {b i : Nat} {w : World} (h : w.cell? ⟨b, 1, none⟩ = some (.int .i64 i)) {v : Int} (j : Nat) (hv : v = j) : Mv b w (w.setCell ⟨b, 1, none⟩ (.int .i64 v)) j := by
  subst hv
  refine ⟨(Only.refl _ _).setCell _ _, by go_simp, fun k hk => ?_, fun k => ?_⟩
  · exact World.cell?_setCell_other (h := fun e => hk (by injection e with _ e _; exact e.symm)) ..
  · go_simp
theorem Mv.set {b i : Nat} {u w : World} (h : Mv b u w i) {v : Int} (j : Nat) (hv : v = j) : Mv b u (w.setCell ⟨b, 1, none⟩ (.int .i64 v)) j := h.trans (.put h.c1 j hv)
theorem Mv.rc {w w' : World} {b : Nat} {s : ByteArray} {i j : Nat} (h : Mv b w w' j) (hr : Rc w b s i) (hj : j ≤ s.size) : Rc w' b s j :=
  ⟨by rw [h.cell 0 (by omega)]; exact hr.c0, h.c1, by rw [h.frz]; exact hr.f1, hj, hr.s40⟩


/-- What 'escape' answers: the byte, whether, and the place. -/
def EscR (s : ByteArray) (i L v : Nat) (ok : Bool) (j : Nat) : Prop :=
  (125 < L ∧ ok = false ∧ j = i ∧ v = 0) ∨
  (L ≤ 125 ∧ ok = false ∧ j = i + 1 ∧ v = 0 ∧ ¬ (i + 1 < s.size ∧ inB escs (byt s (i + 1)) = true ∧ L ≤ val (byt s (i + 1)))) ∨
  (L ≤ 125 ∧ ok = true ∧ j = i + 2 ∧ i + 1 < s.size ∧ inB escs (byt s (i + 1)) = true ∧ L ≤ val (byt s (i + 1)) ∧ v = val (byt s (i + 1)))

theorem ret2 {k : IntKind} {a b : Int} {p q : Bool} (h : a = b) (h' : p = q) : Ending.returned (.tuple #[.int k a, .bool p]) = .returned (.tuple #[.int k b, .bool q]) := by rw [h, h']

set_option maxHeartbeats 400000 in
theorem escape_any (b : Nat) (s : ByteArray) (i L : Nat) (w : World) (hr : Rc w b s i) (hi : i < s.size) (hL : L ≤ 255) :
    Calls Try.prog 123 #[.pointer (some ⟨b, 0, none⟩), .int .u8 L] w fun e w' => ∃ (v : Nat) (ok : Bool) (j : Nat), e = .returned (.tuple #[.int .u8 v, .bool ok]) ∧ Mv b w w' j ∧ EscR s i L v ok j := by
  have HR : Hid (Rc w b s i) := hr
  obtain ⟨ht, ha, hf, hle, hs⟩ := hr
  have HI : Hid (i < s.size) := hi
  have HP : Hid (Rc (w.setCell ⟨b, 1, none⟩ (.int .i64 ((i : Int) + 1))) b s (i + 1)) := HR.out.put (i + 1) (by omega) (by omega)
  by_cases h1 : 125 < L
  · go_enter Try.func123, Try.ntmps123
    go_wp2_with fail
    go_ret2
    exact ⟨0, false, i, rfl, HR.out.stay, .inl ⟨h1, rfl, rfl, rfl⟩⟩
  · have h1' : L ≤ 125 := by omega
    have HL : Hid (L ≤ 125) := h1'
    by_cases h2 : i + 1 < s.size
    · have H2 : Hid (i + 1 < s.size) := h2
      rcases bool_or (inB escs (byt s (i + 1))) with hq | hq
      · have hy : ((s[i + 1]).toNat : Int) = (byt s (i + 1) : Int) := byt_int s (i + 1) h2
        have hyl := byt_lt s (i + 1)
        have HV : Hid (∃ y, byt s (i + 1) = y) := ⟨_, rfl⟩
        have HQ : Hid (inB escs (byt s (i + 1)) = true) := hq
        obtain ⟨y, hye⟩ := HV.out
        have HY : Hid (byt s (i + 1) = y) := hye
        rw [hye] at hy hyl
        clear hye hq HV
        have k1 : (0 : Int) ≤ (i : Int) + 1 := by omega
        have k2 : (i : Int) + 1 < (s.size : Int) := by omega
        by_cases hn : y = 110
        · subst hn
          by_cases hv : 10 < L
          · go_enter Try.func123, Try.ntmps123
            go_wp2_with (first | (go_at_call 88; refine (nextIsIn_in b s escs (i + 1) _ HP.out H2.out).mono ?_; rw [HQ.out]; rintro e w' ⟨rfl, n, rfl⟩))
            go_quiet (fail)
            go_wp2
            go_ret2
            refine ⟨0, false, i + 1, rfl, ((Mv.stay ha).set (i + 1) (by omega)).drewN _, .inr (.inl ⟨HL.out, rfl, rfl, rfl, ?_⟩)⟩
            rw [HY.out]
            simp [val]; omega
          · go_enter Try.func123, Try.ntmps123
            go_wp2_with (first | (go_at_call 88; refine (nextIsIn_in b s escs (i + 1) _ HP.out H2.out).mono ?_; rw [HQ.out]; rintro e w' ⟨rfl, n, rfl⟩))
            go_quiet (fail)
            go_wp2
            go_ret2
            refine ⟨val (byt s (i + 1)), true, i + 2, ret2 ?_ rfl, (((Mv.stay ha).set (i + 1) (by omega)).drewN _).set (i + 2) (by omega), .inr (.inr ⟨HL.out, rfl, rfl, H2.out, HQ.out, ?_, rfl⟩)⟩
            · rw [HY.out]; simp [val]
            · rw [HY.out]; simp [val]; omega
        · have hn' : ((y : Int) == 110) = false := by simp; omega
          by_cases hv : y < L
          · go_enter Try.func123, Try.ntmps123
            go_wp2_with (first | (go_at_call 88; refine (nextIsIn_in b s escs (i + 1) _ HP.out H2.out).mono ?_; rw [HQ.out]; rintro e w' ⟨rfl, n, rfl⟩))
            go_quiet (fail)
            go_wp2
            go_ret2
            refine ⟨0, false, i + 1, rfl, ((Mv.stay ha).set (i + 1) (by omega)).drewN _, .inr (.inl ⟨HL.out, rfl, rfl, rfl, ?_⟩)⟩
            rw [HY.out]
            simp [val, hn]; omega
          · go_enter Try.func123, Try.ntmps123
            go_wp2_with (first | (go_at_call 88; refine (nextIsIn_in b s escs (i + 1) _ HP.out H2.out).mono ?_; rw [HQ.out]; rintro e w' ⟨rfl, n, rfl⟩))
            go_quiet (fail)
            go_wp2
            go_ret2
            refine ⟨val (byt s (i + 1)), true, i + 2, ret2 ?_ rfl, (((Mv.stay ha).set (i + 1) (by omega)).drewN _).set (i + 2) (by omega), .inr (.inr ⟨HL.out, rfl, rfl, H2.out, HQ.out, ?_, rfl⟩)⟩
            · rw [HY.out]; simp [val, hn]; exact hy
            · rw [HY.out]; simp [val, hn]; omega
      · have HQ : Hid (inB escs (byt s (i + 1)) = false) := hq
        clear hq
        go_enter Try.func123, Try.ntmps123
        go_wp2_with (first | (go_at_call 88; refine (nextIsIn_in b s escs (i + 1) _ HP.out H2.out).mono ?_; rw [HQ.out]; rintro e w' ⟨rfl, n, rfl⟩))
        go_ret2
        refine ⟨0, false, i + 1, rfl, ((Mv.stay ha).set (i + 1) (by omega)).drewN _, .inr (.inl ⟨HL.out, rfl, rfl, rfl, ?_⟩)⟩
        rw [HQ.out]
        simp
    · have H2 : Hid (¬ i + 1 < s.size) := h2
      go_enter Try.func123, Try.ntmps123
      go_wp2_with (first | (go_at_call 88; refine (nextIsIn_out b s escs (i + 1) _ HP.out H2.out).mono ?_; rintro e w' ⟨rfl, n, rfl⟩))
      go_ret2
      exact ⟨0, false, i + 1, rfl, ((Mv.stay ha).set (i + 1) (by omega)).drewN _, .inr (.inl ⟨HL.out, rfl, rfl, rfl, fun h => H2.out h.1⟩)⟩

/-- What 'inner' answers. -/
def InnR (s : ByteArray) (i L v : Nat) (ok : Bool) (j : Nat) : Prop :=
  ((¬ i < s.size ∨ inB noInner (byt s i) = true) ∧ ok = false ∧ j = i) ∨
  (i < s.size ∧ byt s i = 92 ∧ EscR s i L v ok j) ∨
  (i < s.size ∧ inB noInner (byt s i) = false ∧ byt s i ≠ 92 ∧ ((byt s i < L ∧ ok = false ∧ j = i) ∨ (L ≤ byt s i ∧ ok = true ∧ j = i + 1 ∧ v = byt s i)))

set_option maxHeartbeats 400000 in
theorem inner_any (b : Nat) (s : ByteArray) (i L : Nat) (w : World) (hr : Rc w b s i) (hL : L ≤ 255) :
    Calls Try.prog 144 #[.pointer (some ⟨b, 0, none⟩), .int .u8 L] w fun e w' => ∃ (v : Nat) (ok : Bool) (j : Nat), e = .returned (.tuple #[.int .u8 v, .bool ok]) ∧ Mv b w w' j ∧ InnR s i L v ok j := by
  have HR : Hid (Rc w b s i) := hr
  obtain ⟨ht, ha, hf, hle, hs⟩ := hr
  by_cases hi : i < s.size
  · have HI : Hid (i < s.size) := hi
    have hp : (pk s i == -1) = false := by rw [pk_in hi]; simp
    generalize hx : pk s i = x at hp
    have HX : Hid (pk s i = x) := hx
    have k1 : (0 : Int) ≤ (i : Int) := by omega
    have k2 : (i : Int) < (s.size : Int) := by omega
    clear hx
    have hy : ((s[i]).toNat : Int) = (byt s i : Int) := byt_int s i hi
    have hyl := byt_lt s i
    rcases bool_or (inB noInner (byt s i)) with hq | hq
    · have HQ : Hid (inB noInner (byt s i) = true) := hq
      clear hq hy hyl
      go_enter Try.func144, Try.ntmps144
      go_wp2_with (first | (go_at_call 64; refine (peek_any b s i _ HR.out).mono ?_; rw [HX.out]; rintro e w' ⟨rfl, n, rfl⟩) | (go_at_call 88; refine (nextIsIn_in b s noInner i _ (HR.out.drewN _) HI.out).mono ?_; rw [HQ.out]; rintro e w' ⟨rfl, n, rfl⟩))
      go_ret2
      exact ⟨0, false, i, rfl, HR.out.stay.drewN _, .inl ⟨.inr HQ.out, rfl, rfl⟩⟩
    · have HQ : Hid (inB noInner (byt s i) = false) := hq
      have HY : Hid (∃ y, byt s i = y) := ⟨_, rfl⟩
      obtain ⟨y, hye⟩ := HY.out
      have HV : Hid (byt s i = y) := hye
      rw [hye] at hy hyl
      clear hq HY hye
      by_cases h92 : y = 92
      · have H92 : Hid (y = 92) := h92
        go_enter Try.func144, Try.ntmps144
        go_wp2_with (first | (go_at_call 64; refine (peek_any b s i _ HR.out).mono ?_; rw [HX.out]; rintro e w' ⟨rfl, n, rfl⟩) | (go_at_call 88; refine (nextIsIn_in b s noInner i _ (HR.out.drewN _) HI.out).mono ?_; rw [HQ.out]; rintro e w' ⟨rfl, n, rfl⟩))
        go_quiet (fail)
        go_wp2_with (go_at_call 123; refine (escape_any b s i L _ (HR.out.drewN _) HI.out hL).mono ?_; rintro e w' ⟨v, ok, j, rfl, hm, hE⟩)
        go_ret2
        exact ⟨v, ok, j, rfl, (HR.out.stay.drewN _).trans hm, .inr (.inl ⟨HI.out, by rw [HV.out, H92.out], hE⟩)⟩
      · have h92' : ((y : Int) == 92) = false := by simp; omega
        by_cases hv : y < L
        · go_enter Try.func144, Try.ntmps144
          go_wp2_with (first | (go_at_call 64; refine (peek_any b s i _ HR.out).mono ?_; rw [HX.out]; rintro e w' ⟨rfl, n, rfl⟩) | (go_at_call 88; refine (nextIsIn_in b s noInner i _ (HR.out.drewN _) HI.out).mono ?_; rw [HQ.out]; rintro e w' ⟨rfl, n, rfl⟩))
          go_quiet (fail)
          go_wp2
          go_ret2
          exact ⟨0, false, i, rfl, HR.out.stay.drewN _, .inr (.inr ⟨HI.out, HQ.out, by rw [HV.out]; exact h92, .inl ⟨by rw [HV.out]; exact hv, rfl, rfl⟩⟩)⟩
        · go_enter Try.func144, Try.ntmps144
          go_wp2_with (first | (go_at_call 64; refine (peek_any b s i _ HR.out).mono ?_; rw [HX.out]; rintro e w' ⟨rfl, n, rfl⟩) | (go_at_call 88; refine (nextIsIn_in b s noInner i _ (HR.out.drewN _) HI.out).mono ?_; rw [HQ.out]; rintro e w' ⟨rfl, n, rfl⟩))
          go_quiet (fail)
          go_wp2
          go_ret2
          exact ⟨byt s i, true, i + 1, ret2 (by rw [HV.out]; exact hy) rfl, (HR.out.stay.drewN _).set (i + 1) (by omega), .inr (.inr ⟨HI.out, HQ.out, by rw [HV.out]; exact h92, .inr ⟨by rw [HV.out]; omega, rfl, rfl, rfl⟩⟩)⟩
  · have HX : Hid (pk s i = -1) := pk_out hi
    have HI : Hid (¬ i < s.size) := hi
    go_enter Try.func144, Try.ntmps144
    go_wp2_with (first | (go_at_call 64; refine (peek_any b s i _ HR.out).mono ?_; rw [HX.out]; rintro e w' ⟨rfl, n, rfl⟩))
    go_ret2
    exact ⟨0, false, i, rfl, HR.out.stay.drewN _, .inl ⟨.inl HI.out, rfl, rfl⟩⟩

end Go.Proofs.Ytppjlpihaocdiaa
