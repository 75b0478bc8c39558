/- Several texts in one. -/
import Derived.Test.YtppjlpihaocdiaaGreatDoorRefAH
import Derived.Lib.Bytealg
/- A part of the proof. -/
set_option linter.unusedSimpArgs false
set_option linter.unusedVariables false
namespace Go.Proofs.YtppjlpihaocdiaaGreatDoor
open Go.RowKit
structure Rc (w : World) (b : Nat) (s : ByteArray) (i : Nat) : Prop where
  c0 : w.cell? ⟨b, 0, none⟩ = some (.string s)
  c1 : w.cell? ⟨b, 1, none⟩ = some (.int .i64 i)
  f1 : w.frozen? ⟨b, 1, none⟩ = false
  le : i ≤ s.size
  s40 : s.size ≤ 400
theorem byt_int (s : ByteArray) (i : Nat) (h : i < s.size) : ((s[i]).toNat : Int) = (byt s i : Int) := by rw [byt_eq s i h]
set_option maxHeartbeats 400000 in
theorem peek_in (b : Nat) (s : ByteArray) (i : Nat) (w : World) (hr : Rc w b s i) (hi : i < s.size) :
    Calls Tryz.prog 110 #[.pointer (some ⟨b, 0, none⟩)] w fun e w' => e = .returned (.int .i64 (pk s i)) ∧ ∃ n, w' = w.drewN n := by
  obtain ⟨ht, ha, hf, hle, hs⟩ := hr
  have h1 : (0 : Int) ≤ (i : Int) := by omega
  have h2 : (i : Int) < (s.size : Int) := by omega
  have h3 : (s[i].toNat : Int) ≤ 255 := by have := (s[i]).toNat_lt; omega
  go_enter Tryz.func110, Tryz.ntmps110
  go_wp2
  go_quiet (fail)
  go_wp2
  go_quiet (fail)
  go_wp2
  go_ret
  exact ⟨ret_int (by rw [pk_in hi]; exact byt_int s i hi), _, World.drewN_drewN _ _ _⟩
set_option maxHeartbeats 400000 in
theorem peek_out (b : Nat) (s : ByteArray) (i : Nat) (w : World) (hr : Rc w b s i) (hi : ¬ i < s.size) :
    Calls Tryz.prog 110 #[.pointer (some ⟨b, 0, none⟩)] w fun e w' => e = .returned (.int .i64 (pk s i)) ∧ ∃ n, w' = w.drewN n := by
  obtain ⟨ht, ha, hf, hle, hs⟩ := hr
  have h2 : ((i : Int) == (s.size : Int)) = true := by simp; omega
  go_enter Tryz.func110, Tryz.ntmps110
  go_wp2
  go_quiet (fail)
  go_wp2
  go_ret
  exact ⟨ret_int (by rw [pk_out hi]), _, rfl⟩
theorem peek_any (b : Nat) (s : ByteArray) (i : Nat) (w : World) (hr : Rc w b s i) :
    Calls Tryz.prog 110 #[.pointer (some ⟨b, 0, none⟩)] w fun e w' => e = .returned (.int .i64 (pk s i)) ∧ ∃ n, w' = w.drewN n := by
  by_cases hi : i < s.size
  · exact peek_in b s i w hr hi
  · exact peek_out b s i w hr hi
theorem Rc.drewN {w : World} {b : Nat} {s : ByteArray} {i : Nat} (h : Rc w b s i) (n : Nat) : Rc (w.drewN n) b s i := ⟨h.c0, h.c1, h.f1, h.le, h.s40⟩
theorem Rc.put {w : World} {b : Nat} {s : ByteArray} {i : Nat} (h : Rc w b s i) {v : Int} (j : Nat) (hv : v = j) (hj : j ≤ s.size) : Rc (w.setCell ⟨b, 1, none⟩ (.int .i64 v)) b s j := by
  obtain ⟨ht, ha, hf, hle, hs⟩ := h
  subst hv
  exact ⟨by go_simp, by go_simp, by go_simp, hj, hs⟩
set_option maxHeartbeats 400000 in
theorem accept_yes (b : Nat) (s : ByteArray) (i c : Nat) (w : World) (hr : Rc w b s i) (hc : c < 256) (hi : pk s i = c) :
    Calls Tryz.prog 100 #[.pointer (some ⟨b, 0, none⟩), .int .u8 c] w fun e w' => e = .returned (.bool true) ∧ ∃ n, w' = (w.setCell ⟨b, 1, none⟩ (.int .i64 (i + 1 : Nat))).drewN n := by
  have HR : Hid (Rc w b s i) := hr
  have HI : Hid (pk s i = c) := hi
  obtain ⟨ht, ha, hf, hle, hs⟩ := hr
  clear hi
  go_enter Tryz.func100, Tryz.ntmps100
  go_wp2_with (go_at_call 110; refine (peek_any b s i _ HR.out).mono ?_; rw [HI.out]; rintro e w' ⟨rfl, n, rfl⟩)
  go_ret
  exact ⟨rfl, _, rfl⟩
set_option maxHeartbeats 400000 in
theorem accept_no (b : Nat) (s : ByteArray) (i c : Nat) (w : World) (hr : Rc w b s i) (hc : c < 256) (hi : pk s i ≠ c) :
    Calls Tryz.prog 100 #[.pointer (some ⟨b, 0, none⟩), .int .u8 c] w fun e w' => e = .returned (.bool false) ∧ ∃ n, w' = w.drewN n := by
  have HR : Hid (Rc w b s i) := hr
  have hb : (pk s i == (c : Int)) = false := by simpa using hi
  obtain ⟨ht, ha, hf, hle, hs⟩ := hr
  clear hi
  generalize hx : pk s i = x at hb
  have HI : Hid (pk s i = x) := hx
  clear hx
  go_enter Tryz.func100, Tryz.ntmps100
  go_wp2_with (go_at_call 110; refine (peek_any b s i _ HR.out).mono ?_; rw [HI.out]; rintro e w' ⟨rfl, n, rfl⟩)
  go_ret
  exact ⟨rfl, _, rfl⟩
theorem indexByte_in (l : List UInt8) (c : UInt8) : (0 ≤ Lib.indexByte l c) ↔ l.any (fun x => x == c) = true := by
  induction l with
  | nil => simp [Lib.indexByte]
  | cons b l ih =>
    have hg := Lib.indexByte_ge l c
    rw [Lib.indexByte, List.any_cons]
    by_cases hb : (b == c) = true
    · simp [hb]
    · have hb' : (b == c) = false := by simpa using hb
      rw [hb', Bool.false_or, ← ih]
      simp only [Bool.false_eq_true, if_false]
      split
      · rename_i h; simp at h; omega
      · rename_i h; simp at h; omega
theorem indexByte_inB (t : ByteArray) (c : Nat) (hc : c < 256) : decide (0 ≤ Lib.indexByte t.data.toList (c : Int).toNat.toUInt8) = inB t c := by
  have h := indexByte_in t.data.toList (c : Int).toNat.toUInt8
  have e : ∀ x : UInt8, (x == (c : Int).toNat.toUInt8) = (x.toNat == c) := by
    intro x
    rw [Bool.eq_iff_iff]
    simp [← UInt8.toNat_inj]
    omega
  unfold inB
  rw [show (fun x : UInt8 => x.toNat == c) = (fun x => x == (c : Int).toNat.toUInt8) from funext fun x => (e x).symm]
  rw [Bool.eq_iff_iff, decide_eq_true_iff]
  exact h
set_option maxHeartbeats 400000 in
theorem indexByte_any (t : ByteArray) (c : Nat) (w : World) (hc : c < 256) :
    Calls Tryz.prog 194 #[.string t, .int .u8 c] w fun e w' => e = .returned (.int .i64 (Lib.indexByte t.data.toList (c : Int).toNat.toUInt8)) ∧ w' = w := by
  have hd : Sem.run Tryz.prog (callFunc 239 #[.string t, .int .u8 c]) w = .ok (.value (.int .i64 (Lib.indexByte t.data.toList (c : Int).toNat.toUInt8))) w := by
    rw [run_callFunc_extern Tryz.func239 (by kernel_rfl) (by kernel_rfl) (by kernel_rfl) (e := Extern.BytealgIndexByte.indexByte) (by kernel_rfl), Lib.run_indexByteString]
    rfl
  generalize Lib.indexByte t.data.toList (c : Int).toNat.toUInt8 = x at hd
  go_enter Tryz.func194, Tryz.ntmps194
  go_wp2
  go_ret
  exact ⟨rfl, rfl⟩
set_option maxHeartbeats 400000 in
theorem nextIsIn_in (b : Nat) (s t : ByteArray) (i : Nat) (w : World) (hr : Rc w b s i) (hi : i < s.size) :
    Calls Tryz.prog 161 #[.pointer (some ⟨b, 0, none⟩), .string t] w fun e w' => e = .returned (.bool (inB t (byt s i))) ∧ ∃ n, w' = w.drewN n := by
  obtain ⟨ht, ha, hf, hle, hs⟩ := hr
  have h1 : (0 : Int) ≤ (i : Int) := by omega
  have h2 : (i : Int) < (s.size : Int) := by omega
  have hb := byt_lt s i
  have HI : Hid (i < s.size) := hi
  go_enter Tryz.func161, Tryz.ntmps161
  go_wp2_with fail
  go_quiet ((go_at_call 194; exact Calls.quiet_of_same (by have e := byt_int s i HI.out; rw [e]; exact indexByte_any t (byt s i) _ hb)))
  go_wp2
  go_ret
  exact ⟨ret_bool (indexByte_inB t (byt s i) hb), _, rfl⟩
set_option maxHeartbeats 400000 in
theorem nextIsIn_out (b : Nat) (s t : ByteArray) (i : Nat) (w : World) (hr : Rc w b s i) (hi : ¬ i < s.size) :
    Calls Tryz.prog 161 #[.pointer (some ⟨b, 0, none⟩), .string t] w fun e w' => e = .returned (.bool false) ∧ ∃ n, w' = w.drewN n := by
  obtain ⟨ht, ha, hf, hle, hs⟩ := hr
  obtain rfl : i = s.size := by omega
  clear hi
  go_enter Tryz.func161, Tryz.ntmps161
  go_wp2_with fail
  go_quiet (fail)
  go_wp2
  go_ret
  exact ⟨rfl, _, rfl⟩
def starts (s : ByteArray) (i : Nat) : Bool := decide (i < s.size) && !inB noStart (byt s i)
set_option maxHeartbeats 400000 in
theorem startsPart_any (b : Nat) (s : ByteArray) (i : Nat) (w : World) (hr : Rc w b s i) :
    Calls Tryz.prog 149 #[.pointer (some ⟨b, 0, none⟩)] w fun e w' => e = .returned (.bool (starts s i)) ∧ ∃ n, w' = w.drewN n := by
  by_cases hi : i < s.size
  · have hb : (pk s i != -1) = true := by rw [pk_in hi]; simp
    generalize hx : pk s i = x at hb
    have HI : Hid (pk s i = x) := hx
    have HL : Hid (i < s.size) := hi
    have HR : Hid (Rc w b s i) := hr
    have HQ : Hid (starts s i = !inB noStart (byt s i)) := by simp [starts, hi, Hid]
    clear hx hi hr
    go_enter Tryz.func149, Tryz.ntmps149
    go_wp2_with (first | (go_at_call 110; refine (peek_any b s i _ HR.out).mono ?_; rw [HI.out]; rintro e w' ⟨rfl, n, rfl⟩) | (go_at_call 161; refine (nextIsIn_in b s noStart i _ (HR.out.drewN _) HL.out).mono ?_; rintro e w' ⟨rfl, n, rfl⟩))
    go_ret
    exact ⟨ret_bool HQ.out.symm, _, rfl⟩
  · have HR : Hid (Rc w b s i) := hr
    have HI : Hid (pk s i = -1) := pk_out hi
    have HQ : Hid (starts s i = false) := by simp [starts, hi, Hid]
    clear hi hr
    go_enter Tryz.func149, Tryz.ntmps149
    go_wp2_with (first | (go_at_call 110; refine (peek_any b s i _ HR.out).mono ?_; rw [HI.out]; rintro e w' ⟨rfl, n, rfl⟩))
    go_ret
    exact ⟨ret_bool HQ.out.symm, _, rfl⟩
set_option maxHeartbeats 400000 in
theorem digit_no (b : Nat) (s : ByteArray) (i l : Nat) (w : World) (hr : Rc w b s i) (hl : l ≤ 9) (h : ¬ (48 + (l : Int) ≤ pk s i ∧ pk s i ≤ 57)) :
    Calls Tryz.prog 224 #[.pointer (some ⟨b, 0, none⟩), .int .i64 l] w fun e w' => e = .returned (.tuple #[.int .i64 0, .bool false]) ∧ ∃ n, w' = w.drewN n := by
  generalize hx : pk s i = x at h
  have HI : Hid (pk s i = x) := hx
  have HR : Hid (Rc w b s i) := hr
  clear hx hr
  by_cases h1 : x < 48 + (l : Int)
  · clear h
    go_enter Tryz.func224, Tryz.ntmps224
    go_wp2_with (first | (go_at_call 110; refine (peek_any b s i _ HR.out).mono ?_; rw [HI.out]; rintro e w' ⟨rfl, n, rfl⟩))
    go_ret2
    exact ⟨rfl, _, rfl⟩
  · have h2 : 57 < x := by omega
    clear h
    go_enter Tryz.func224, Tryz.ntmps224
    go_wp2_with (first | (go_at_call 110; refine (peek_any b s i _ HR.out).mono ?_; rw [HI.out]; rintro e w' ⟨rfl, n, rfl⟩))
    go_ret2
    exact ⟨rfl, _, rfl⟩
set_option maxHeartbeats 400000 in
theorem digit_yes (b : Nat) (s : ByteArray) (i l : Nat) (w : World) (hr : Rc w b s i) (hl : l ≤ 9) (h1 : 48 + (l : Int) ≤ pk s i) (h2 : pk s i ≤ 57) :
    Calls Tryz.prog 224 #[.pointer (some ⟨b, 0, none⟩), .int .i64 l] w fun e w' => e = .returned (.tuple #[.int .i64 (pk s i - 48), .bool true]) ∧ ∃ n, w' = (w.setCell ⟨b, 1, none⟩ (.int .i64 (i + 1 : Nat))).drewN n := by
  generalize hx : pk s i = x at h1 h2
  have HI : Hid (pk s i = x) := hx
  have HR : Hid (Rc w b s i) := hr
  obtain ⟨ht, ha, hf, hle, hs⟩ := hr
  clear hx
  go_enter Tryz.func224, Tryz.ntmps224
  go_wp2_with (first | (go_at_call 110; refine (peek_any b s i _ HR.out).mono ?_; rw [HI.out]; rintro e w' ⟨rfl, n, rfl⟩))
  go_ret2
  exact ⟨rfl, _, rfl⟩
end Go.Proofs.YtppjlpihaocdiaaGreatDoor

/- A part of the proof. -/
set_option linter.unusedSimpArgs false
set_option linter.unusedVariables false
namespace Go.Proofs.YtppjlpihaocdiaaGreatDoor
open Go.RowKit
structure Mv (b : Nat) (w w' : World) (j : Nat) : Prop where
  only : Only b w w'
  c1 : w'.cell? ⟨b, 1, none⟩ = some (.int .i64 j)
  cell : ∀ k, k ≠ 1 → w'.cell? ⟨b, k, none⟩ = w.cell? ⟨b, k, none⟩
  frz : ∀ k, w'.frozen? ⟨b, k, none⟩ = w.frozen? ⟨b, k, none⟩
theorem Mv.trans {b j j' : Nat} {u v w : World} (h : Mv b u v j) (k : Mv b v w j') : Mv b u w j' :=
  ⟨h.only.trans k.only, k.c1, fun i hi => (k.cell i hi).trans (h.cell i hi), fun i => (k.frz i).trans (h.frz i)⟩
theorem Mv.drewN {b j : Nat} {u w : World} (h : Mv b u w j) (n : Nat) : Mv b u (w.drewN n) j :=
  ⟨h.only.trans ⟨rfl, rfl, rfl, rfl, fun _ _ => rfl⟩, h.c1, h.cell, h.frz⟩
theorem Mv.stay {b j : Nat} {w : World} (h : w.cell? ⟨b, 1, none⟩ = some (.int .i64 j)) : Mv b w w j := ⟨.refl _ _, h, fun _ _ => rfl, fun _ => rfl⟩
theorem Rc.stay {w : World} {b : Nat} {s : ByteArray} {i : Nat} (h : Rc w b s i) : Mv b w w i := .stay h.c1
theorem Mv.put {b i : Nat} {w : World} (h : w.cell? ⟨b, 1, none⟩ = some (.int .i64 i)) {v : Int} (j : Nat) (hv : v = j) : Mv b w (w.setCell ⟨b, 1, none⟩ (.int .i64 v)) j := by
  subst hv
  refine ⟨(Only.refl _ _).setCell _ _, by go_simp, fun k hk => ?_, fun k => ?_⟩
  · exact World.cell?_setCell_other (h := fun e => hk (by injection e with _ e _; exact e.symm)) ..
  · go_simp
theorem Mv.set {b i : Nat} {u w : World} (h : Mv b u w i) {v : Int} (j : Nat) (hv : v = j) : Mv b u (w.setCell ⟨b, 1, none⟩ (.int .i64 v)) j := h.trans (.put h.c1 j hv)
theorem Mv.rc {w w' : World} {b : Nat} {s : ByteArray} {i j : Nat} (h : Mv b w w' j) (hr : Rc w b s i) (hj : j ≤ s.size) : Rc w' b s j :=
  ⟨by rw [h.cell 0 (by omega)]; exact hr.c0, h.c1, by rw [h.frz]; exact hr.f1, hj, hr.s40⟩
def EscR (s : ByteArray) (i L v : Nat) (ok : Bool) (j : Nat) : Prop :=
  (125 < L ∧ ok = false ∧ j = i ∧ v = 0) ∨
  (L ≤ 125 ∧ ok = false ∧ j = i + 1 ∧ v = 0 ∧ ¬ (i + 1 < s.size ∧ inB escs (byt s (i + 1)) = true ∧ L ≤ val (byt s (i + 1)))) ∨
  (L ≤ 125 ∧ ok = true ∧ j = i + 2 ∧ i + 1 < s.size ∧ inB escs (byt s (i + 1)) = true ∧ L ≤ val (byt s (i + 1)) ∧ v = val (byt s (i + 1)))
theorem ret2 {k : IntKind} {a b : Int} {p q : Bool} (h : a = b) (h' : p = q) : Ending.returned (.tuple #[.int k a, .bool p]) = .returned (.tuple #[.int k b, .bool q]) := by rw [h, h']
set_option maxHeartbeats 400000 in
theorem escape_any (b : Nat) (s : ByteArray) (i L : Nat) (w : World) (hr : Rc w b s i) (hi : i < s.size) (hL : L ≤ 255) :
    Calls Tryz.prog 222 #[.pointer (some ⟨b, 0, none⟩), .int .u8 L] w fun e w' => ∃ (v : Nat) (ok : Bool) (j : Nat), e = .returned (.tuple #[.int .u8 v, .bool ok]) ∧ Mv b w w' j ∧ EscR s i L v ok j := by
  have HR : Hid (Rc w b s i) := hr
  obtain ⟨ht, ha, hf, hle, hs⟩ := hr
  have HI : Hid (i < s.size) := hi
  have HP : Hid (Rc (w.setCell ⟨b, 1, none⟩ (.int .i64 ((i : Int) + 1))) b s (i + 1)) := HR.out.put (i + 1) (by omega) (by omega)
  by_cases h1 : 125 < L
  · go_enter Tryz.func222, Tryz.ntmps222
    go_wp2_with fail
    go_ret2
    exact ⟨0, false, i, rfl, HR.out.stay, .inl ⟨h1, rfl, rfl, rfl⟩⟩
  · have h1' : L ≤ 125 := by omega
    have HL : Hid (L ≤ 125) := h1'
    by_cases h2 : i + 1 < s.size
    · have H2 : Hid (i + 1 < s.size) := h2
      rcases bool_or (inB escs (byt s (i + 1))) with hq | hq
      · have hy : ((s[i + 1]).toNat : Int) = (byt s (i + 1) : Int) := byt_int s (i + 1) h2
        have hyl := byt_lt s (i + 1)
        have HV : Hid (∃ y, byt s (i + 1) = y) := ⟨_, rfl⟩
        have HQ : Hid (inB escs (byt s (i + 1)) = true) := hq
        obtain ⟨y, hye⟩ := HV.out
        have HY : Hid (byt s (i + 1) = y) := hye
        rw [hye] at hy hyl
        clear hye hq HV
        have k1 : (0 : Int) ≤ (i : Int) + 1 := by omega
        have k2 : (i : Int) + 1 < (s.size : Int) := by omega
        by_cases hn : y = 110
        · subst hn
          by_cases hv : 10 < L
          · go_enter Tryz.func222, Tryz.ntmps222
            go_wp2_with (first | (go_at_call 161; refine (nextIsIn_in b s escs (i + 1) _ HP.out H2.out).mono ?_; rw [HQ.out]; rintro e w' ⟨rfl, n, rfl⟩))
            go_quiet (fail)
            go_wp2
            go_ret2
            refine ⟨0, false, i + 1, rfl, ((Mv.stay ha).set (i + 1) (by omega)).drewN _, .inr (.inl ⟨HL.out, rfl, rfl, rfl, ?_⟩)⟩
            rw [HY.out]
            simp [val]; omega
          · go_enter Tryz.func222, Tryz.ntmps222
            go_wp2_with (first | (go_at_call 161; refine (nextIsIn_in b s escs (i + 1) _ HP.out H2.out).mono ?_; rw [HQ.out]; rintro e w' ⟨rfl, n, rfl⟩))
            go_quiet (fail)
            go_wp2
            go_ret2
            refine ⟨val (byt s (i + 1)), true, i + 2, ret2 ?_ rfl, (((Mv.stay ha).set (i + 1) (by omega)).drewN _).set (i + 2) (by omega), .inr (.inr ⟨HL.out, rfl, rfl, H2.out, HQ.out, ?_, rfl⟩)⟩
            · rw [HY.out]; simp [val]
            · rw [HY.out]; simp [val]; omega
        · have hn' : ((y : Int) == 110) = false := by simp; omega
          by_cases hv : y < L
          · go_enter Tryz.func222, Tryz.ntmps222
            go_wp2_with (first | (go_at_call 161; refine (nextIsIn_in b s escs (i + 1) _ HP.out H2.out).mono ?_; rw [HQ.out]; rintro e w' ⟨rfl, n, rfl⟩))
            go_quiet (fail)
            go_wp2
            go_ret2
            refine ⟨0, false, i + 1, rfl, ((Mv.stay ha).set (i + 1) (by omega)).drewN _, .inr (.inl ⟨HL.out, rfl, rfl, rfl, ?_⟩)⟩
            rw [HY.out]
            simp [val, hn]; omega
          · go_enter Tryz.func222, Tryz.ntmps222
            go_wp2_with (first | (go_at_call 161; refine (nextIsIn_in b s escs (i + 1) _ HP.out H2.out).mono ?_; rw [HQ.out]; rintro e w' ⟨rfl, n, rfl⟩))
            go_quiet (fail)
            go_wp2
            go_ret2
            refine ⟨val (byt s (i + 1)), true, i + 2, ret2 ?_ rfl, (((Mv.stay ha).set (i + 1) (by omega)).drewN _).set (i + 2) (by omega), .inr (.inr ⟨HL.out, rfl, rfl, H2.out, HQ.out, ?_, rfl⟩)⟩
            · rw [HY.out]; simp [val, hn]; exact hy
            · rw [HY.out]; simp [val, hn]; omega
      · have HQ : Hid (inB escs (byt s (i + 1)) = false) := hq
        clear hq
        go_enter Tryz.func222, Tryz.ntmps222
        go_wp2_with (first | (go_at_call 161; refine (nextIsIn_in b s escs (i + 1) _ HP.out H2.out).mono ?_; rw [HQ.out]; rintro e w' ⟨rfl, n, rfl⟩))
        go_ret2
        refine ⟨0, false, i + 1, rfl, ((Mv.stay ha).set (i + 1) (by omega)).drewN _, .inr (.inl ⟨HL.out, rfl, rfl, rfl, ?_⟩)⟩
        rw [HQ.out]
        simp
    · have H2 : Hid (¬ i + 1 < s.size) := h2
      go_enter Tryz.func222, Tryz.ntmps222
      go_wp2_with (first | (go_at_call 161; refine (nextIsIn_out b s escs (i + 1) _ HP.out H2.out).mono ?_; rintro e w' ⟨rfl, n, rfl⟩))
      go_ret2
      exact ⟨0, false, i + 1, rfl, ((Mv.stay ha).set (i + 1) (by omega)).drewN _, .inr (.inl ⟨HL.out, rfl, rfl, rfl, fun h => H2.out h.1⟩)⟩
def InnR (s : ByteArray) (i L v : Nat) (ok : Bool) (j : Nat) : Prop :=
  ((¬ i < s.size ∨ inB noInner (byt s i) = true) ∧ ok = false ∧ j = i) ∨
  (i < s.size ∧ byt s i = 92 ∧ EscR s i L v ok j) ∨
  (i < s.size ∧ inB noInner (byt s i) = false ∧ byt s i ≠ 92 ∧ ((byt s i < L ∧ ok = false ∧ j = i) ∨ (L ≤ byt s i ∧ ok = true ∧ j = i + 1 ∧ v = byt s i)))
set_option maxHeartbeats 400000 in
theorem inner_any (b : Nat) (s : ByteArray) (i L : Nat) (w : World) (hr : Rc w b s i) (hL : L ≤ 255) :
    Calls Tryz.prog 250 #[.pointer (some ⟨b, 0, none⟩), .int .u8 L] w fun e w' => ∃ (v : Nat) (ok : Bool) (j : Nat), e = .returned (.tuple #[.int .u8 v, .bool ok]) ∧ Mv b w w' j ∧ InnR s i L v ok j := by
  have HR : Hid (Rc w b s i) := hr
  obtain ⟨ht, ha, hf, hle, hs⟩ := hr
  by_cases hi : i < s.size
  · have HI : Hid (i < s.size) := hi
    have hp : (pk s i == -1) = false := by rw [pk_in hi]; simp
    generalize hx : pk s i = x at hp
    have HX : Hid (pk s i = x) := hx
    have k1 : (0 : Int) ≤ (i : Int) := by omega
    have k2 : (i : Int) < (s.size : Int) := by omega
    clear hx
    have hy : ((s[i]).toNat : Int) = (byt s i : Int) := byt_int s i hi
    have hyl := byt_lt s i
    rcases bool_or (inB noInner (byt s i)) with hq | hq
    · have HQ : Hid (inB noInner (byt s i) = true) := hq
      clear hq hy hyl
      go_enter Tryz.func250, Tryz.ntmps250
      go_wp2_with (first | (go_at_call 110; refine (peek_any b s i _ HR.out).mono ?_; rw [HX.out]; rintro e w' ⟨rfl, n, rfl⟩) | (go_at_call 161; refine (nextIsIn_in b s noInner i _ (HR.out.drewN _) HI.out).mono ?_; rw [HQ.out]; rintro e w' ⟨rfl, n, rfl⟩))
      go_ret2
      exact ⟨0, false, i, rfl, HR.out.stay.drewN _, .inl ⟨.inr HQ.out, rfl, rfl⟩⟩
    · have HQ : Hid (inB noInner (byt s i) = false) := hq
      have HY : Hid (∃ y, byt s i = y) := ⟨_, rfl⟩
      obtain ⟨y, hye⟩ := HY.out
      have HV : Hid (byt s i = y) := hye
      rw [hye] at hy hyl
      clear hq HY hye
      by_cases h92 : y = 92
      · have H92 : Hid (y = 92) := h92
        go_enter Tryz.func250, Tryz.ntmps250
        go_wp2_with (first | (go_at_call 110; refine (peek_any b s i _ HR.out).mono ?_; rw [HX.out]; rintro e w' ⟨rfl, n, rfl⟩) | (go_at_call 161; refine (nextIsIn_in b s noInner i _ (HR.out.drewN _) HI.out).mono ?_; rw [HQ.out]; rintro e w' ⟨rfl, n, rfl⟩))
        go_quiet (fail)
        go_wp2_with (go_at_call 222; refine (escape_any b s i L _ (HR.out.drewN _) HI.out hL).mono ?_; rintro e w' ⟨v, ok, j, rfl, hm, hE⟩)
        go_ret2
        exact ⟨v, ok, j, rfl, (HR.out.stay.drewN _).trans hm, .inr (.inl ⟨HI.out, by rw [HV.out, H92.out], hE⟩)⟩
      · have h92' : ((y : Int) == 92) = false := by simp; omega
        by_cases hv : y < L
        · go_enter Tryz.func250, Tryz.ntmps250
          go_wp2_with (first | (go_at_call 110; refine (peek_any b s i _ HR.out).mono ?_; rw [HX.out]; rintro e w' ⟨rfl, n, rfl⟩) | (go_at_call 161; refine (nextIsIn_in b s noInner i _ (HR.out.drewN _) HI.out).mono ?_; rw [HQ.out]; rintro e w' ⟨rfl, n, rfl⟩))
          go_quiet (fail)
          go_wp2
          go_ret2
          exact ⟨0, false, i, rfl, HR.out.stay.drewN _, .inr (.inr ⟨HI.out, HQ.out, by rw [HV.out]; exact h92, .inl ⟨by rw [HV.out]; exact hv, rfl, rfl⟩⟩)⟩
        · go_enter Tryz.func250, Tryz.ntmps250
          go_wp2_with (first | (go_at_call 110; refine (peek_any b s i _ HR.out).mono ?_; rw [HX.out]; rintro e w' ⟨rfl, n, rfl⟩) | (go_at_call 161; refine (nextIsIn_in b s noInner i _ (HR.out.drewN _) HI.out).mono ?_; rw [HQ.out]; rintro e w' ⟨rfl, n, rfl⟩))
          go_quiet (fail)
          go_wp2
          go_ret2
          exact ⟨byt s i, true, i + 1, ret2 (by rw [HV.out]; exact hy) rfl, (HR.out.stay.drewN _).set (i + 1) (by omega), .inr (.inr ⟨HI.out, HQ.out, by rw [HV.out]; exact h92, .inr ⟨by rw [HV.out]; omega, rfl, rfl, rfl⟩⟩)⟩
  · have HX : Hid (pk s i = -1) := pk_out hi
    have HI : Hid (¬ i < s.size) := hi
    go_enter Tryz.func250, Tryz.ntmps250
    go_wp2_with (first | (go_at_call 110; refine (peek_any b s i _ HR.out).mono ?_; rw [HX.out]; rintro e w' ⟨rfl, n, rfl⟩))
    go_ret2
    exact ⟨0, false, i, rfl, HR.out.stay.drewN _, .inl ⟨.inl HI.out, rfl, rfl⟩⟩
end Go.Proofs.YtppjlpihaocdiaaGreatDoor

/- A part of the proof. -/
set_option linter.unusedSimpArgs false
set_option linter.unusedVariables false
namespace Go.Proofs.YtppjlpihaocdiaaGreatDoor
open Go.RowKit
theorem step_set {m o a l c : Nat} (h1 : 4 ≤ m) (h2 : m ≤ 10) : step ⟨m, o, a, l⟩ c = inSet ⟨m, o, a, l⟩ c := by
  unfold step
  simp only
  rw [if_neg (by omega), if_neg (by omega), if_neg (by omega), if_neg (by omega)]
theorem not_whole {st : St} (h : st.m ≠ 1) (h' : st.m ≠ 2) : whole st = false := by
  simp [whole, h, h']
theorem Fails.here {s : ByteArray} {i : Nat} {st : St} (h : run s i = some st) (hle : i ≤ s.size) (h1 : i < s.size → step st (byt s i) = none) (h2 : i = s.size → whole st = false) : Fails s i := ⟨st, h, hle, h1, h2⟩
def InPre (s : ByteArray) (i L : Nat) (st : St) : Prop :=
  (st.m = 8 ∧ L = st.l) ∨ (L = 0 ∧ ((st.m = 4 ∧ pk s i ≠ 94) ∨ st.m = 5 ∨ (st.m = 6 ∧ pk s i ≠ 93 ∧ pk s i ≠ 45) ∨ (st.m = 7 ∧ pk s i ≠ 93)))
theorem in_no {s : ByteArray} {i L : Nat} {st : St} (hm : InPre s i L st) (hi : i < s.size) (hq : inB noInner (byt s i) = true) : step st (byt s i) = none := by
  obtain ⟨m, o, a, l⟩ := st
  rw [inB_noInner] at hq
  unfold InPre at hm
  rw [pk_in hi] at hm
  simp only at hm
  generalize byt s i = c at hm hq
  rcases hm with ⟨rfl, rfl⟩ | ⟨rfl, ⟨rfl, h⟩ | rfl | ⟨rfl, h, h'⟩ | ⟨rfl, h⟩⟩
  all_goals rw [step_set (by omega) (by omega)]
  · rw [inSet8]; (repeat' split) <;> first | rfl | omega
  · rw [inSet4]; (repeat' split) <;> first | rfl | omega
  · rw [inSet5]; (repeat' split) <;> first | rfl | omega
  · rw [inSet6]; (repeat' split) <;> first | rfl | omega
  · rw [inSet7]; (repeat' split) <;> first | rfl | omega
theorem in_bsl {s : ByteArray} {i L : Nat} {st : St} (hm : InPre s i L st) (hi : i < s.size) (hq : byt s i = 92) : step st (byt s i) = if L ≤ 125 then some ⟨if st.m = 8 then 10 else 9, st.o, st.a, st.l⟩ else none := by
  obtain ⟨m, o, a, l⟩ := st
  unfold InPre at hm
  rw [pk_in hi] at hm
  simp only at hm
  rw [hq] at hm ⊢
  rcases hm with ⟨rfl, rfl⟩ | ⟨rfl, ⟨rfl, h⟩ | rfl | ⟨rfl, h, h'⟩ | ⟨rfl, h⟩⟩
  all_goals rw [step_set (by omega) (by omega)]
  · rw [inSet8]; rfl
  · rw [inSet4]; rfl
  · rw [inSet5]; rfl
  · rw [inSet6]; rfl
  · rw [inSet7]; rfl
theorem in_byte {s : ByteArray} {i L : Nat} {st : St} (hm : InPre s i L st) (hi : i < s.size) (hq : inB noInner (byt s i) = false) (h92 : byt s i ≠ 92) : step st (byt s i) = if L ≤ byt s i then some ⟨if st.m = 8 then 7 else 6, st.o, st.a, byt s i⟩ else none := by
  obtain ⟨m, o, a, l⟩ := st
  have hq' : ¬ (inB noInner (byt s i) = true) := by rw [hq]; simp
  rw [inB_noInner] at hq'
  unfold InPre at hm
  rw [pk_in hi] at hm
  simp only at hm
  generalize byt s i = c at hm hq' h92
  rcases hm with ⟨rfl, rfl⟩ | ⟨rfl, ⟨rfl, h⟩ | rfl | ⟨rfl, h, h'⟩ | ⟨rfl, h⟩⟩
  all_goals rw [step_set (by omega) (by omega)]
  · rw [inSet8, if_neg (by omega : ¬ c = 93), if_neg (by omega : ¬ c = 45), if_neg h92]
    by_cases hL : L ≤ c
    · rw [if_neg (by omega), if_pos hL]; rfl
    · rw [if_pos (by omega), if_neg hL]
  · rw [inSet4, if_neg (by omega : ¬ c = 94), if_neg (by omega : ¬ c = 93), if_neg (by omega : ¬ c = 45), if_neg h92, if_neg (by omega : ¬ c = 10), if_pos (Nat.zero_le _)]; rfl
  · rw [inSet5, if_neg (by omega : ¬ c = 93), if_neg (by omega : ¬ c = 45), if_neg h92, if_neg (by omega : ¬ c = 10), if_pos (Nat.zero_le _)]; rfl
  · rw [inSet6, if_neg (by omega : ¬ c = 93), if_neg (by omega : ¬ c = 45), if_neg h92, if_neg (by omega : ¬ c = 10), if_pos (Nat.zero_le _)]; rfl
  · rw [inSet7, if_neg (by omega : ¬ c = 93), if_neg (by omega : ¬ c = 45), if_neg h92, if_neg (by omega : ¬ c = 10), if_pos (Nat.zero_le _)]; rfl
theorem InPre.modes {s : ByteArray} {i L : Nat} {st : St} (hm : InPre s i L st) : 4 ≤ st.m ∧ st.m ≤ 8 := by
  unfold InPre at hm; omega
theorem in_esc {st : St} {L c : Nat} {s : ByteArray} {i : Nat} (hm : InPre s i L st) : step ⟨if st.m = 8 then 10 else 9, st.o, st.a, st.l⟩ c = if inB escs c = true ∧ L ≤ val c then some ⟨if st.m = 8 then 7 else 6, st.o, st.a, val c⟩ else none := by
  unfold InPre at hm
  by_cases h8 : st.m = 8
  · have hL : L = st.l := by omega
    simp only [h8, if_true]
    rw [step_set (by omega) (by omega), inSet10, hL]
  · have hL : L = 0 := by omega
    simp only [h8, if_false]
    rw [step_set (by omega) (by omega), inSet9, hL]
    simp
theorem inner_walk {s : ByteArray} {i L v j : Nat} {ok : Bool} {st : St} (h : run s i = some st) (hle : i ≤ s.size) (hm : InPre s i L st) (hI : InnR s i L v ok j) :
    (ok = true ∧ i < j ∧ j ≤ s.size ∧ v ≤ 255 ∧ run s j = some ⟨if st.m = 8 then 7 else 6, st.o, st.a, v⟩) ∨ (ok = false ∧ Fails s j) := by
  have hc := byt_lt s i
  have hc1 := byt_lt s (i + 1)
  have hmm := hm.modes
  rcases hI with ⟨h1, rfl, hj⟩ | ⟨h1, h2, hE⟩ | ⟨h1, h2, h3, hR⟩
  · subst hj
    refine .inr ⟨rfl, .here h hle (fun hlt => ?_) (fun _ => not_whole (by omega) (by omega))⟩
    rcases h1 with h1 | h1
    · exact absurd hlt h1
    · exact in_no hm hlt h1
  · have hb := in_bsl hm h1 h2
    rcases hE with ⟨g1, rfl, hj, rfl⟩ | ⟨g1, rfl, hj, rfl, g2⟩ | ⟨g1, rfl, hj, g2, g3, g4, rfl⟩
    · subst hj
      refine .inr ⟨rfl, .here h hle (fun _ => ?_) (fun _ => not_whole (by omega) (by omega))⟩
      rw [hb, if_neg (by omega)]
    · subst hj
      have hr : run s (i + 1) = some ⟨if st.m = 8 then 10 else 9, st.o, st.a, st.l⟩ := by rw [run_succ h, hb, if_pos g1]
      refine .inr ⟨rfl, .here hr (by omega) (fun hlt => ?_) (fun _ => not_whole (by simp only; split <;> omega) (by simp only; split <;> omega))⟩
      rw [in_esc hm, if_neg (fun hh => g2 ⟨hlt, hh⟩)]
    · subst hj
      have hr : run s (i + 1) = some ⟨if st.m = 8 then 10 else 9, st.o, st.a, st.l⟩ := by rw [run_succ h, hb, if_pos g1]
      refine .inl ⟨rfl, by omega, by omega, val_le hc1, ?_⟩
      rw [run_succ hr, in_esc hm, if_pos ⟨g3, g4⟩]
  · have hb := in_byte hm h1 h2 h3
    rcases hR with ⟨g1, rfl, hj⟩ | ⟨g1, rfl, hj, rfl⟩
    · subst hj
      refine .inr ⟨rfl, .here h hle (fun _ => ?_) (fun _ => not_whole (by omega) (by omega))⟩
      rw [hb, if_neg (by omega)]
    · subst hj
      refine .inl ⟨rfl, by omega, by omega, by omega, ?_⟩
      rw [run_succ h, hb, if_pos g1]
def BetR (s : ByteArray) (i : Nat) (st : St) (ok : Bool) (j : Nat) : Prop :=
  (ok = true ∧ i < j ∧ j ≤ s.size ∧ ∃ l', ((run s j = some ⟨6, st.o, st.a, l'⟩ ∧ pk s j ≠ 45) ∨ run s j = some ⟨7, st.o, st.a, l'⟩)) ∨ (ok = false ∧ Fails s j)
theorem Fails.le {s : ByteArray} {j : Nat} (h : Fails s j) : j ≤ s.size := by
  obtain ⟨_, _, h, _⟩ := h; exact h
set_option maxHeartbeats 400000 in
theorem between_any (b : Nat) (s : ByteArray) (i : Nat) (st : St) (w : World) (hr : Rc w b s i) (h : run s i = some st) (hm : InPre s i 0 st) (h8 : st.m ≠ 8) :
    Calls Tryz.prog 238 #[.pointer (some ⟨b, 0, none⟩)] w fun e w' => ∃ (lo hi : Nat) (ok : Bool) (j : Nat), e = .returned (.tuple #[.int .u8 lo, .int .u8 hi, .bool ok]) ∧ Mv b w w' j ∧ (ok = true → lo ≤ 255 ∧ hi ≤ 255) ∧ BetR s i st ok j := by
  have HR : Hid (Rc w b s i) := hr
  have HG : Hid (run s i = some st) := h
  have HM : Hid (InPre s i 0 st) := hm
  have hle := hr.le
  clear hr h hm
  go_enter Tryz.func238, Tryz.ntmps238
  go_wp2_with fail
  refine (inner_any b s i 0 _ HR.out (by omega)).mono ?_
  rintro e w1 ⟨v, ok, j, rfl, hmv, hE⟩
  have HV : Hid (Mv b w w1 j) := hmv
  rcases inner_walk HG.out hle HM.out hE with ⟨rfl, hij, hjs, hv, hrun⟩ | ⟨rfl, hF⟩
  · rw [if_neg h8] at hrun
    have HJ : Hid (run s j = some ⟨6, st.o, st.a, v⟩) := hrun
    have HR1 : Hid (Rc w1 b s j) := hmv.rc HR.out hjs
    clear hE hmv hrun
    by_cases hd : pk s j = 45
    · have HD : Hid (pk s j = 45) := hd
      have hlt : j < s.size := by
        by_cases hx : j < s.size
        · exact hx
        · rw [pk_out hx] at hd; omega
      have HK : Hid (run s (j + 1) = some ⟨8, st.o, st.a, v⟩) := by
        have e : byt s j = 45 := by rw [pk_in hlt] at hd; omega
        rw [Hid, run_succ HJ.out, step_set (by omega) (by omega), inSet6, e]; rfl
      have HR2 : Hid (Rc (w1.setCell ⟨b, 1, none⟩ (.int .i64 ((j : Int) + 1))) b s (j + 1)) := HR1.out.put (j + 1) (by omega) (by omega)
      clear hd
      go_wp2_with (first | (go_at_call 100; refine (accept_yes b s j 45 _ HR1.out (by omega) HD.out).mono ?_; rintro e w2 ⟨rfl, n, rfl⟩))
      refine (inner_any b s (j + 1) v _ (HR2.out.drewN _) hv).mono ?_
      rintro e w2 ⟨v2, ok2, j2, rfl, hmv2, hE2⟩
      have hm2 : Mv b w w2 j2 := HV.out.trans (((HR1.out.stay.set (j + 1) (by omega)).drewN _).trans hmv2)
      have hB : (ok2 = true → v ≤ 255 ∧ v2 ≤ 255) ∧ BetR s i st ok2 j2 := by
        rcases inner_walk HK.out (by omega) (.inl ⟨rfl, rfl⟩) hE2 with ⟨rfl, g1, g2, g3, g4⟩ | ⟨rfl, hF⟩
        · exact ⟨fun _ => ⟨hv, g3⟩, .inl ⟨rfl, by omega, g2, v2, .inr g4⟩⟩
        · exact ⟨(fun h => absurd h (by simp)), .inr ⟨rfl, hF⟩⟩
      clear hmv2 hE2
      go_wp2_with fail
      go_ret3
      exact ⟨v, v2, ok2, j2, rfl, hm2, hB⟩
    · have HD : Hid (pk s j ≠ 45) := hd
      clear hd
      go_wp2_with (first | (go_at_call 100; refine (accept_no b s j 45 _ HR1.out (by omega) HD.out).mono ?_; rintro e w2 ⟨rfl, n, rfl⟩))
      go_ret3
      exact ⟨v, v, true, j, rfl, HV.out.drewN _, fun _ => ⟨hv, hv⟩, .inl ⟨rfl, hij, hjs, v, .inl ⟨HJ.out, HD.out⟩⟩⟩
  · have HF : Hid (Fails s j) := hF
    clear hF hE hmv
    go_wp2_with fail
    go_ret3
    exact ⟨v, v, false, j, rfl, HV.out, (fun h => absurd h (by simp)), .inr ⟨rfl, HF.out⟩⟩
end Go.Proofs.YtppjlpihaocdiaaGreatDoor

/- A part of the proof. -/
set_option linter.unusedSimpArgs false
set_option linter.unusedVariables false
namespace Go.Proofs.YtppjlpihaocdiaaGreatDoor
open Go.RowKit
set_option maxHeartbeats 400000 in
theorem others_any (x0 x1 x2 x3 : Int) (w : World) :
    Calls Tryz.prog 219 #[.agg #[.int .u64 x0, .int .u64 x1, .int .u64 x2, .int .u64 x3]] w fun e w' => (∃ y0 y1 y2 y3 : Int, e = .returned (.agg #[.int .u64 y0, .int .u64 y1, .int .u64 y2, .int .u64 y3])) ∧ Below w.heap.size w w' := by
  go_enter Tryz.func219, Tryz.ntmps219
  go_wp2
  exact bodyPost_ret (v := .agg #[.int .u64 (bits BinOp.xor IntKind.u64 IntKind.u64.max x0), .int .u64 (bits BinOp.xor IntKind.u64 IntKind.u64.max x1), .int .u64 (bits BinOp.xor IntKind.u64 IntKind.u64.max x2), .int .u64 (bits BinOp.xor IntKind.u64 IntKind.u64.max x3)]) (by simp [results, Tryz.results219, go_sem]) rfl ⟨⟨_, _, _, _, rfl⟩, ((Below.refl _ _).alloc (Nat.le_refl _) _).alloc (by simp) _⟩
structure Four (w : World) (b : Nat) (y0 y1 y2 y3 : Int) : Prop where
  c0 : w.cell? ⟨b, 0, none⟩ = some (.int .u64 y0)
  c1 : w.cell? ⟨b, 1, none⟩ = some (.int .u64 y1)
  c2 : w.cell? ⟨b, 2, none⟩ = some (.int .u64 y2)
  c3 : w.cell? ⟨b, 3, none⟩ = some (.int .u64 y3)
  f0 : w.frozen? ⟨b, 0, none⟩ = false
  f1 : w.frozen? ⟨b, 1, none⟩ = false
  f2 : w.frozen? ⟨b, 2, none⟩ = false
  f3 : w.frozen? ⟨b, 3, none⟩ = false
theorem Four.put0 {w : World} {b : Nat} {y0 y1 y2 y3 : Int} (h : Four w b y0 y1 y2 y3) (y : Int) : Four (w.setCell ⟨b, 0, none⟩ (.int .u64 y)).drew b y y1 y2 y3 := by
  obtain ⟨c0, c1, c2, c3, f0, f1, f2, f3⟩ := h
  constructor <;> go_simp
theorem Four.put1 {w : World} {b : Nat} {y0 y1 y2 y3 : Int} (h : Four w b y0 y1 y2 y3) (y : Int) : Four (w.setCell ⟨b, 1, none⟩ (.int .u64 y)).drew b y0 y y2 y3 := by
  obtain ⟨c0, c1, c2, c3, f0, f1, f2, f3⟩ := h
  constructor <;> go_simp
theorem Four.put2 {w : World} {b : Nat} {y0 y1 y2 y3 : Int} (h : Four w b y0 y1 y2 y3) (y : Int) : Four (w.setCell ⟨b, 2, none⟩ (.int .u64 y)).drew b y0 y1 y y3 := by
  obtain ⟨c0, c1, c2, c3, f0, f1, f2, f3⟩ := h
  constructor <;> go_simp
theorem Four.put3 {w : World} {b : Nat} {y0 y1 y2 y3 : Int} (h : Four w b y0 y1 y2 y3) (y : Int) : Four (w.setCell ⟨b, 3, none⟩ (.int .u64 y)).drew b y0 y1 y2 y := by
  obtain ⟨c0, c1, c2, c3, f0, f1, f2, f3⟩ := h
  constructor <;> go_simp
theorem Four.far {w : World} {b a : Nat} {y0 y1 y2 y3 : Int} (h : Four w b y0 y1 y2 y3) (hne : a ≠ b) (o : Nat) (v : Value) : Four (w.setCell ⟨a, o, none⟩ v).drew b y0 y1 y2 y3 := by
  obtain ⟨c0, c1, c2, c3, f0, f1, f2, f3⟩ := h
  have hh : ∀ k, (w.setCell ⟨a, o, none⟩ v).cell? ⟨b, k, none⟩ = w.cell? ⟨b, k, none⟩ := fun k => World.cell?_setCell_other (h := fun e => hne (by injection e)) ..
  refine ⟨?_, ?_, ?_, ?_, ?_, ?_, ?_, ?_⟩
  · exact (hh 0).trans c0
  · exact (hh 1).trans c1
  · exact (hh 2).trans c2
  · exact (hh 3).trans c3
  all_goals go_simp
set_option maxHeartbeats 400000 in
theorem with_any (x0 x1 x2 x3 : Int) (lo hi : Nat) (w : World) (hlo : lo ≤ 255) (hhi : hi ≤ 255) :
    Calls Tryz.prog 223 #[.agg #[.int .u64 x0, .int .u64 x1, .int .u64 x2, .int .u64 x3], .int .u8 lo, .int .u8 hi] w fun e w' => (∃ y0 y1 y2 y3 : Int, e = .returned (.agg #[.int .u64 y0, .int .u64 y1, .int .u64 y2, .int .u64 y3])) ∧ Below w.heap.size w w' := by
  go_enter Tryz.func223, Tryz.ntmps223
  go_wp2
  go_loopw [7] (fun v wr => ∃ (k : Nat) (y0 y1 y2 y3 z0 z1 z2 z3 : Int), k ≤ 256 ∧ v = .int .i64 k ∧ Four wr w.heap.size y0 y1 y2 y3 ∧ Four wr (w.heap.size + 1) z0 z1 z2 z3 ∧ Below w.heap.size w wr) (fun v _ => 256 - (intOf v).toNat)
  case atStart => exact ⟨lo, x0, x1, x2, x3, 0, 0, 0, 0, by omega, rfl, by constructor <;> go_simp, by constructor <;> go_simp, ((Below.refl _ _).alloc (Nat.le_refl _) _).alloc (by simp) _⟩
  case round =>
    obtain ⟨k, y0, y1, y2, y3, z0, z1, z2, z3, hk, rfl, hF, hG, hB⟩ := hrel
    have HB : Hid (Below w.heap.size w wr) := hB
    have HF : Hid (Four wr w.heap.size y0 y1 y2 y3) := hF
    have HG : Hid (Four wr (w.heap.size + 1) z0 z1 z2 z3) := hG
    clear hB
    obtain ⟨c0, c1, c2, c3, f0, f1, f2, f3⟩ := hF
    by_cases hlt : k ≤ hi
    · clear hG
      obtain hq | hq | hq | hq : (k : Int) / 64 = 0 ∨ (k : Int) / 64 = 1 ∨ (k : Int) / 64 = 2 ∨ (k : Int) / 64 = 3 := by omega
      all_goals
        have hr : 0 ≤ (k : Int) % 64 := by omega
        have hr2 : (k : Int) % 64 < 64 := by omega
        go_wp2
        go_region
        go_wp2
        go_roundw
        case rel => exact ⟨k + 1, _, _, _, _, _, _, _, _, by omega, by go_num, by first | exact HF.out.put0 _ | exact HF.out.put1 _ | exact HF.out.put2 _ | exact HF.out.put3 _, HG.out.far (by omega) _ _, (HB.out.setCell (Nat.le_refl _) _).drew⟩
        case measure => simp [intOf]; omega
    · obtain ⟨d0, d1, d2, d3, e0, e1, e2, e3⟩ := hG
      go_wp2
      exact bodyPost_ret (v := .agg #[.int .u64 y0, .int .u64 y1, .int .u64 y2, .int .u64 y3]) (by simp [results, Tryz.results223, go_sem, *]) rfl ⟨⟨_, _, _, _, rfl⟩, (((HB.out.setCell (by simp) _).setCell (by simp) _).setCell (by simp) _).setCell (by simp) _⟩
end Go.Proofs.YtppjlpihaocdiaaGreatDoor

