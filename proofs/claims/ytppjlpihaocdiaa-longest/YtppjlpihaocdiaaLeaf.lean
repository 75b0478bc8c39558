/- The leaves of the program's reader: peek, accept, nextIsIn, startsPart, digit, escape, inner, between. -/
import Derived.Test.YtppjlpihaocdiaaRefA
import Derived.Lib.Bytealg
set_option linter.unusedSimpArgs false
set_option linter.unusedVariables false
namespace Go.Proofs.Ytppjlpihaocdiaa
open Go.RowKit

/-- The reader's fields that are read and written all the time. -/
structure Rc (w : World) (b : Nat) (s : ByteArray) (i : Nat) : Prop where
  c0 : w.cell? ⟨b, 0, none⟩ = some (.string s)
  c1 : w.cell? ⟨b, 1, none⟩ = some (.int .i64 i)
  f1 : w.frozen? ⟨b, 1, none⟩ = false
  le : i ≤ s.size
  s40 : s.size ≤ 400

theorem byt_int (s : ByteArray) (i : Nat) (h : i < s.size) : ((s[i]).toNat : Int) = (byt s i : Int) := by rw [byt_eq s i h]

set_option maxHeartbeats 400000 in
theorem peek_in (b : Nat) (s : ByteArray) (i : Nat) (w : World) (hr : Rc w b s i) (hi : i < s.size) :
    Calls Try.prog 64 #[.pointer (some ⟨b, 0, none⟩)] w fun e w' => e = .returned (.int .i64 (pk s i)) ∧ ∃ n, w' = w.drewN n := by
  obtain ⟨ht, ha, hf, hle, hs⟩ := hr
  have h1 : (0 : Int) ≤ (i : Int) := by omega
  have h2 : (i : Int) < (s.size : Int) := by omega
  have h3 : (s[i].toNat : Int) ≤ 255 := by have := (s[i]).toNat_lt; omega
  go_enter Try.func64, Try.ntmps64
  go_wp2
  go_quiet (fail)
  go_wp2
  go_quiet (fail)
  go_wp2
  go_ret
  exact ⟨ret_int (by rw [pk_in hi]; exact byt_int s i hi), _, World.drewN_drewN _ _ _⟩

set_option maxHeartbeats 400000 in
theorem peek_out (b : Nat) (s : ByteArray) (i : Nat) (w : World) (hr : Rc w b s i) (hi : ¬ i < s.size) :
    Calls Try.prog 64 #[.pointer (some ⟨b, 0, none⟩)] w fun e w' => e = .returned (.int .i64 (pk s i)) ∧ ∃ n, w' = w.drewN n := by
  obtain ⟨ht, ha, hf, hle, hs⟩ := hr
  have h2 : ((i : Int) == (s.size : Int)) = true := by simp; omega
  go_enter Try.func64, Try.ntmps64
  go_wp2
  go_quiet (fail)
  go_wp2
  go_ret
  exact ⟨ret_int (by rw [pk_out hi]), _, rfl⟩

theorem peek_any (b : Nat) (s : ByteArray) (i : Nat) (w : World) (hr : Rc w b s i) :
    Calls Try.prog 64 #[.pointer (some ⟨b, 0, none⟩)] w fun e w' => e = .returned (.int .i64 (pk s i)) ∧ ∃ n, w' = w.drewN n := by
  by_cases hi : i < s.size
  · exact peek_in b s i w hr hi
  · exact peek_out b s i w hr hi

theorem Rc.drewN {w : World} {b : Nat} {s : ByteArray} {i : Nat} (h : Rc w b s i) (n : Nat) : Rc (w.drewN n) b s i := ⟨h.c0, h.c1, h.f1, h.le, h.s40⟩

theorem Rc.put {w : World} {b : Nat} {s : ByteArray} {i : Nat} (h : Rc w b s i) {v : Int} (j : Nat) (hv : v = j) (hj : j ≤ s.size) : Rc (w.setCell ⟨b, 1, none⟩ (.int .i64 v)) b s j := by
  obtain ⟨ht, ha, hf, hle, hs⟩ := h
  subst hv
  exact ⟨by go_simp, by go_simp, by go_simp, hj, hs⟩

set_option maxHeartbeats 400000 in
theorem accept_yes (b : Nat) (s : ByteArray) (i c : Nat) (w : World) (hr : Rc w b s i) (hc : c < 256) (hi : pk s i = c) :
    Calls Try.prog 56 #[.pointer (some ⟨b, 0, none⟩), .int .u8 c] w fun e w' => e = .returned (.bool true) ∧ ∃ n, w' = (w.setCell ⟨b, 1, none⟩ (.int .i64 (i + 1 : Nat))).drewN n := by
  have HR : Hid (Rc w b s i) := hr
  have HI : Hid (pk s i = c) := hi
  obtain ⟨ht, ha, hf, hle, hs⟩ := hr
  clear hi
  go_enter Try.func56, Try.ntmps56
  go_wp2_with (go_at_call 64; refine (peek_any b s i _ HR.out).mono ?_; rw [HI.out]; rintro e w' ⟨rfl, n, rfl⟩)
  go_ret
  exact ⟨rfl, _, rfl⟩

set_option maxHeartbeats 400000 in
theorem accept_no (b : Nat) (s : ByteArray) (i c : Nat) (w : World) (hr : Rc w b s i) (hc : c < 256) (hi : pk s i ≠ c) :
    Calls Try.prog 56 #[.pointer (some ⟨b, 0, none⟩), .int .u8 c] w fun e w' => e = .returned (.bool false) ∧ ∃ n, w' = w.drewN n := by
  have HR : Hid (Rc w b s i) := hr
  have hb : (pk s i == (c : Int)) = false := by simpa using hi
  obtain ⟨ht, ha, hf, hle, hs⟩ := hr
  clear hi
  generalize hx : pk s i = x at hb
  have HI : Hid (pk s i = x) := hx
  clear hx
  go_enter Try.func56, Try.ntmps56
  go_wp2_with (go_at_call 64; refine (peek_any b s i _ HR.out).mono ?_; rw [HI.out]; rintro e w' ⟨rfl, n, rfl⟩)
  go_ret
  exact ⟨rfl, _, rfl⟩


theorem indexByte_in (l : List UInt8) (c : UInt8) : (0 ≤ Lib.indexByte l c) ↔ l.any (fun x => x == c) = true := by
  induction l with
  | nil => simp [Lib.indexByte]
  | cons b l ih =>
    have hg := Lib.indexByte_ge l c
    rw [Lib.indexByte, List.any_cons]
    by_cases hb : (b == c) = true
    · simp [hb]
    · have hb' : (b == c) = false := by simpa using hb
      rw [hb', Bool.false_or, ← ih]
      simp only [Bool.false_eq_true, if_false]
      split
      · rename_i h; simp at h; omega
      · rename_i h; simp at h; omega

theorem indexByte_inB (t : ByteArray) (c : Nat) (hc : c < 256) : decide (0 ≤ Lib.indexByte t.data.toList (c : Int).toNat.toUInt8) = inB t c := by
  have h := indexByte_in t.data.toList (c : Int).toNat.toUInt8
  have e : ∀ x : UInt8, (x == (c : Int).toNat.toUInt8) = (x.toNat == c) := by
    intro x
    rw [Bool.eq_iff_iff]
    simp [← UInt8.toNat_inj]
    omega
  unfold inB
  rw [show (fun x : UInt8 => x.toNat == c) = (fun x => x == (c : Int).toNat.toUInt8) from funext fun x => (e x).symm]
  rw [Bool.eq_iff_iff, decide_eq_true_iff]
  exact h

set_option maxHeartbeats 400000 in
theorem indexByte_any (t : ByteArray) (c : Nat) (w : World) (hc : c < 256) :
    Calls Try.prog 108 #[.string t, .int .u8 c] w fun e w' => e = .returned (.int .i64 (Lib.indexByte t.data.toList (c : Int).toNat.toUInt8)) ∧ w' = w := by
  have hd : Sem.run Try.prog (callFunc 137 #[.string t, .int .u8 c]) w = .ok (.value (.int .i64 (Lib.indexByte t.data.toList (c : Int).toNat.toUInt8))) w := by
    rw [run_callFunc_extern Try.func137 (by kernel_rfl) (by kernel_rfl) (by kernel_rfl) (e := Extern.BytealgIndexByte.indexByte) (by kernel_rfl), Lib.run_indexByteString]
    rfl
  generalize Lib.indexByte t.data.toList (c : Int).toNat.toUInt8 = x at hd
  go_enter Try.func108, Try.ntmps108
  go_wp2
  go_ret
  exact ⟨rfl, rfl⟩

set_option maxHeartbeats 400000 in
theorem nextIsIn_in (b : Nat) (s t : ByteArray) (i : Nat) (w : World) (hr : Rc w b s i) (hi : i < s.size) :
    Calls Try.prog 88 #[.pointer (some ⟨b, 0, none⟩), .string t] w fun e w' => e = .returned (.bool (inB t (byt s i))) ∧ ∃ n, w' = w.drewN n := by
  obtain ⟨ht, ha, hf, hle, hs⟩ := hr
  have h1 : (0 : Int) ≤ (i : Int) := by omega
  have h2 : (i : Int) < (s.size : Int) := by omega
  have hb := byt_lt s i
  have HI : Hid (i < s.size) := hi
  go_enter Try.func88, Try.ntmps88
  go_wp2_with fail
  go_quiet ((go_at_call 108; exact Calls.quiet_of_same (by have e := byt_int s i HI.out; rw [e]; exact indexByte_any t (byt s i) _ hb)))
  go_wp2
  go_ret
  exact ⟨ret_bool (indexByte_inB t (byt s i) hb), _, rfl⟩

set_option maxHeartbeats 400000 in
theorem nextIsIn_out (b : Nat) (s t : ByteArray) (i : Nat) (w : World) (hr : Rc w b s i) (hi : ¬ i < s.size) :
    Calls Try.prog 88 #[.pointer (some ⟨b, 0, none⟩), .string t] w fun e w' => e = .returned (.bool false) ∧ ∃ n, w' = w.drewN n := by
  obtain ⟨ht, ha, hf, hle, hs⟩ := hr
  obtain rfl : i = s.size := by omega
  clear hi
  go_enter Try.func88, Try.ntmps88
  go_wp2_with fail
  go_quiet (fail)
  go_wp2
  go_ret
  exact ⟨rfl, _, rfl⟩


/-- A part can begin here. -/
def starts (s : ByteArray) (i : Nat) : Bool := decide (i < s.size) && !inB noStart (byt s i)

set_option maxHeartbeats 400000 in
theorem startsPart_any (b : Nat) (s : ByteArray) (i : Nat) (w : World) (hr : Rc w b s i) :
    Calls Try.prog 79 #[.pointer (some ⟨b, 0, none⟩)] w fun e w' => e = .returned (.bool (starts s i)) ∧ ∃ n, w' = w.drewN n := by
  by_cases hi : i < s.size
  · have hb : (pk s i != -1) = true := by rw [pk_in hi]; simp
    generalize hx : pk s i = x at hb
    have HI : Hid (pk s i = x) := hx
    have HL : Hid (i < s.size) := hi
    have HR : Hid (Rc w b s i) := hr
    have HQ : Hid (starts s i = !inB noStart (byt s i)) := by simp [starts, hi, Hid]
    clear hx hi hr
    go_enter Try.func79, Try.ntmps79
    go_wp2_with (first | (go_at_call 64; refine (peek_any b s i _ HR.out).mono ?_; rw [HI.out]; rintro e w' ⟨rfl, n, rfl⟩) | (go_at_call 88; refine (nextIsIn_in b s noStart i _ (HR.out.drewN _) HL.out).mono ?_; rintro e w' ⟨rfl, n, rfl⟩))
    go_ret
    exact ⟨ret_bool HQ.out.symm, _, rfl⟩
  · have HR : Hid (Rc w b s i) := hr
    have HI : Hid (pk s i = -1) := pk_out hi
    have HQ : Hid (starts s i = false) := by simp [starts, hi, Hid]
    clear hi hr
    go_enter Try.func79, Try.ntmps79
    go_wp2_with (first | (go_at_call 64; refine (peek_any b s i _ HR.out).mono ?_; rw [HI.out]; rintro e w' ⟨rfl, n, rfl⟩))
    go_ret
    exact ⟨ret_bool HQ.out.symm, _, rfl⟩

set_option maxHeartbeats 400000 in
theorem digit_no (b : Nat) (s : ByteArray) (i l : Nat) (w : World) (hr : Rc w b s i) (hl : l ≤ 9) (h : ¬ (48 + (l : Int) ≤ pk s i ∧ pk s i ≤ 57)) :
    Calls Try.prog 125 #[.pointer (some ⟨b, 0, none⟩), .int .i64 l] w fun e w' => e = .returned (.tuple #[.int .i64 0, .bool false]) ∧ ∃ n, w' = w.drewN n := by
  generalize hx : pk s i = x at h
  have HI : Hid (pk s i = x) := hx
  have HR : Hid (Rc w b s i) := hr
  clear hx hr
  by_cases h1 : x < 48 + (l : Int)
  · clear h
    go_enter Try.func125, Try.ntmps125
    go_wp2_with (first | (go_at_call 64; refine (peek_any b s i _ HR.out).mono ?_; rw [HI.out]; rintro e w' ⟨rfl, n, rfl⟩))
    go_ret2
    exact ⟨rfl, _, rfl⟩
  · have h2 : 57 < x := by omega
    clear h
    go_enter Try.func125, Try.ntmps125
    go_wp2_with (first | (go_at_call 64; refine (peek_any b s i _ HR.out).mono ?_; rw [HI.out]; rintro e w' ⟨rfl, n, rfl⟩))
    go_ret2
    exact ⟨rfl, _, rfl⟩

set_option maxHeartbeats 400000 in
theorem digit_yes (b : Nat) (s : ByteArray) (i l : Nat) (w : World) (hr : Rc w b s i) (hl : l ≤ 9) (h1 : 48 + (l : Int) ≤ pk s i) (h2 : pk s i ≤ 57) :
    Calls Try.prog 125 #[.pointer (some ⟨b, 0, none⟩), .int .i64 l] w fun e w' => e = .returned (.tuple #[.int .i64 (pk s i - 48), .bool true]) ∧ ∃ n, w' = (w.setCell ⟨b, 1, none⟩ (.int .i64 (i + 1 : Nat))).drewN n := by
  generalize hx : pk s i = x at h1 h2
  have HI : Hid (pk s i = x) := hx
  have HR : Hid (Rc w b s i) := hr
  obtain ⟨ht, ha, hf, hle, hs⟩ := hr
  clear hx
  go_enter Try.func125, Try.ntmps125
  go_wp2_with (first | (go_at_call 64; refine (peek_any b s i _ HR.out).mono ?_; rw [HI.out]; rintro e w' ⟨rfl, n, rfl⟩))
  go_ret2
  exact ⟨rfl, _, rfl⟩

end Go.Proofs.Ytppjlpihaocdiaa
