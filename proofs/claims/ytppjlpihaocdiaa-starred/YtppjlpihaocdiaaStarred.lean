/- The law 'Starred', walked. -/
import Derived.Test.YtppjlpihaocdiaaStar
import Derived.Deep.DeepCutAuto
import Derived.Laws.BytesArg
import Derived.Lib.Slices
set_option linter.unusedSimpArgs false
set_option linter.unusedVariables false
namespace Go.Proofs.Ytppjlpihaocdiaa
open Go.RowKit

set_option maxHeartbeats 400000 in
theorem pick_any (c : Int) (n : Nat) (w : World) (hn : 0 < n) (hn2 : n ≤ 100) (hc : -9223372036854775808 ≤ c) (hc2 : c ≤ 9223372036854775807) :
    Calls Try.prog 16 #[.int .i64 c, .int .i64 n] w fun e w' => ∃ p : Nat, p < n ∧ e = .returned (.int .i64 p) ∧ w' = w := by
  have hn0 : ((n : Int) == 0) = false := by simp; omega
  by_cases h : c < 0
  · go_enter Try.func16, Try.ntmps16
    go_wp2
    go_ret
    have e : -((c + 1).tmod (n : Int)) = (-(c + 1)) % (n : Int) := by rw [← Int.neg_tmod, Int.tmod_eq_emod_of_nonneg (by omega)]
    have e1 := Int.emod_nonneg (-(c + 1)) (show (n : Int) ≠ 0 by omega)
    have e2 := Int.emod_lt_of_pos (-(c + 1)) (show (0 : Int) < n by omega)
    exact ⟨((-(c + 1)) % (n : Int)).toNat, by omega, ret_int (by rw [e]; omega), rfl⟩
  · go_enter Try.func16, Try.ntmps16
    go_wp2
    go_ret
    have e1 := Int.emod_nonneg c (show (n : Int) ≠ 0 by omega)
    have e2 := Int.emod_lt_of_pos c (show (0 : Int) < n by omega)
    exact ⟨(c % (n : Int)).toNat, by omega, ret_int (by omega), rfl⟩

theorem pick_at (c v : Int) (n : Nat) (hv : v = n) (w : World) (hn : 0 < n) (hn2 : n ≤ 100) (hc : -9223372036854775808 ≤ c) (hc2 : c ≤ 9223372036854775807) :
    Calls Try.prog 16 #[.int .i64 c, .int .i64 v] w fun e w' => ∃ p : Nat, p < n ∧ e = .returned (.int .i64 p) ∧ w' = w := by
  subst hv; exact pick_any c n w hn hn2 hc hc2

theorem bdata (a b : ByteArray) : (a ++ b).data.toList = a.data.toList ++ b.data.toList := by simp

theorem bsize (a b : ByteArray) : (a ++ b).size = a.size + b.size := by simp

theorem byt_left {a b : ByteArray} {i : Nat} (h : i < a.size) : byt (a ++ b) i = byt a i := by
  have h' : i < a.data.toList.length := by simpa using h
  unfold byt
  rw [bdata, List.getD_eq_getElem?_getD, List.getD_eq_getElem?_getD, List.getElem?_append_left h']

theorem byt_right {a b : ByteArray} {i : Nat} (h : a.size ≤ i) : byt (a ++ b) i = byt b (i - a.size) := by
  have h' : a.data.toList.length ≤ i := by simpa using h
  unfold byt
  rw [bdata, List.getD_eq_getElem?_getD, List.getD_eq_getElem?_getD, List.getElem?_append_right h']
  simp

theorem OutAt.below {w w' : World} {ob : Nat} {l : List (Int × Int)} (h : OutAt w ob l) (hb : Below w.heap.size w w') : OutAt w' ob l := by
  intro q x y hq
  have hl := World.block_lt_of_cell? w _ (h q x y hq).1
  exact (h.of_block (hb.block ob hl)) q x y hq

theorem TwoAre.below {w w' : World} {v : Value} {x0 y0 x1 y1 : Int} (h : TwoAre w v x0 y0 x1 y1) (hb : Below w.heap.size w w') : TwoAre w' v x0 y0 x1 y1 := by
  obtain ⟨ob, h1, h2⟩ := h
  exact ⟨ob, h1, h2.below hb⟩

/-- What the walk reads of two spans. -/
theorem TwoAre.cells {w : World} {v : Value} {x0 y0 x1 y1 : Int} (h : TwoAre w v x0 y0 x1 y1) : ∃ ob, v = .slice (some ⟨ob, 0, none⟩) 2 2 ∧ w.cell? ⟨ob, 0, none⟩ = some (.int .i64 x0) ∧ w.cell? ⟨ob, 1, none⟩ = some (.int .i64 y0) ∧ w.cell? ⟨ob, 2, none⟩ = some (.int .i64 x1) ∧ w.cell? ⟨ob, 3, none⟩ = some (.int .i64 y1) ∧ ob < w.heap.size := by
  obtain ⟨ob, h1, h2⟩ := h
  obtain ⟨a1, a2, _⟩ := h2 0 x0 y0 rfl
  obtain ⟨b1, b2, _⟩ := h2 1 x1 y1 rfl
  exact ⟨ob, h1, a1, a2, b1, b2, World.block_lt_of_cell? w _ a1⟩

theorem below_drewN {n : Nat} {w w' : World} (h : Below n w w') (m : Nat) : Below n w (w'.drewN m) := ⟨h.os, h.tape, h.output, h.size, h.block⟩

theorem small_len {q : Nat} (h : q ≤ 1000) : q ≤ maxLen := by unfold maxLen; omega

theorem callA (t : ByteArray) (k : Nat) (w : World) (hs : Ab t k) (hk : k ≤ 30) : Calls Try.prog 14 #[.string ⟨#[40, 97, 42, 41]⟩, .string t] w fun e w' => ∃ a, e = .returned (.tuple #[a, .int .i64 0]) ∧ TwoAre w' a 0 k 0 k ∧ Below w.heap.size w w' := by
  refine (match_any ptA t w (small_len (by decide)) (small_len (by rw [hs.size]; omega))).mono ?_
  rintro e w' ⟨a, ea, rfl, hM, hB, _⟩
  obtain ⟨rfl, hT⟩ := starA hs hk hM
  exact ⟨a, rfl, hT, hB⟩
theorem callB (t : ByteArray) (k : Nat) (w : World) (hs : Ab t k) (hk : k ≤ 30) : Calls Try.prog 14 #[.string ⟨#[40, 97, 43, 41, 98]⟩, .string t] w fun e w' => ∃ a, e = .returned (.tuple #[a, .int .i64 0]) ∧ ((k = 0 ∧ a = .slice none 0 0) ∨ (0 < k ∧ TwoAre w' a 0 (k + 1) 0 k)) ∧ Below w.heap.size w w' := by
  refine (match_any ptB t w (small_len (by decide)) (small_len (by rw [hs.size]; omega))).mono ?_
  rintro e w' ⟨a, ea, rfl, hM, hB, _⟩
  obtain ⟨rfl, hT⟩ := starB hs hk hM
  exact ⟨a, rfl, hT, hB⟩
theorem callC (pt t : ByteArray) (k lo hi : Nat) (w : World) (hp : pt = ptC lo hi) (hs : Ab t k) (hk : k ≤ 30) (hlh : lo ≤ hi) (hh : hi ≤ 9) : Calls Try.prog 14 #[.string pt, .string t] w fun e w' => ∃ a, e = .returned (.tuple #[a, .int .i64 0]) ∧ ((k < lo ∧ a = .slice none 0 0) ∨ (lo ≤ k ∧ ∃ x y, TwoAre w' a x y 0 ((min hi k : Nat) : Int))) ∧ Below w.heap.size w w' := by
  subst hp
  refine (match_any (ptC lo hi) t w (small_len (show 9 ≤ 1000 by decide)) (small_len (by rw [hs.size]; omega))).mono ?_
  rintro e w' ⟨a, ea, rfl, hM, hB, _⟩
  obtain ⟨rfl, hT⟩ := starC hs hk hlh hh hM
  exact ⟨a, rfl, hT, hB⟩
theorem callD (t : ByteArray) (k : Nat) (w : World) (hs : Ab t k) (hk : k ≤ 30) : Calls Try.prog 14 #[.string ⟨#[40, 97, 63, 41, 98]⟩, .string t] w fun e w' => ∃ a, e = .returned (.tuple #[a, .int .i64 0]) ∧ TwoAre w' a ((k - 1 : Nat) : Int) (k + 1) ((k - 1 : Nat) : Int) k ∧ Below w.heap.size w w' := by
  refine (match_any ptD t w (small_len (by decide)) (small_len (by rw [hs.size]; omega))).mono ?_
  rintro e w' ⟨a, ea, rfl, hM, hB, _⟩
  obtain ⟨rfl, hT⟩ := starD hs hk hM
  exact ⟨a, rfl, hT, hB⟩

/-- A run of a. -/
def RunA (s : ByteArray) (k : Nat) : Prop := s.size = k ∧ ∀ i, i < k → byt s i = 97

set_option maxRecDepth 100000 in
set_option maxHeartbeats 4000000 in
theorem starred_any (c m n : Int) (w : World) (hc : -9223372036854775808 ≤ c) (hc2 : c ≤ 9223372036854775807) (hm : -9223372036854775808 ≤ m) (hm2 : m ≤ 9223372036854775807) (hn : -9223372036854775808 ≤ n) (hn2 : n ≤ 9223372036854775807) :
    Calls Try.prog 7 #[.int .i64 c, .int .i64 m, .int .i64 n] w fun e w' => e = .returned (.bool true) ∧ Below w.heap.size w w' := by
  go_enter Try.func7, Try.ntmps7
  go_wp2_with fail
  refine (pick_any c 30 _ (by omega) (by omega) hc hc2).mono ?_
  rintro e w1 ⟨k, hk, rfl, hw1⟩
  subst w1
  go_wp2_with fail
  refine (pick_any m 10 _ (by omega) (by omega) hm hm2).mono ?_
  rintro e w1 ⟨lo, hlo, rfl, hw1⟩
  subst w1
  go_wp2_with fail
  refine (pick_at n _ (10 - lo) (by omega) _ (by omega) (by omega) hn hn2).mono ?_
  rintro e w1 ⟨p, hp, rfl, hw1⟩
  subst w1
  obtain ⟨hi, hhi⟩ : ∃ hi, hi = lo + p := ⟨_, rfl⟩
  have hhe : (lo : Int) + (p : Int) = (hi : Int) := by omega
  have hh9 : hi ≤ 9 := by omega
  have hlh : lo ≤ hi := by omega
  clear hhi
  go_wp2_with fail
  go_loopw [10, 11] (fun sv iv wr => ∃ (t : ByteArray) (i : Nat), i ≤ k ∧ sv = .string t ∧ iv = .int .i64 i ∧ Hid (RunA t i) ∧ wr = w) (fun _ iv _ => k + 1 - (intOf iv).toNat)
  case atStart => exact ⟨_, 0, Nat.zero_le _, rfl, rfl, ⟨rfl, fun i h => by omega⟩, rfl⟩
  case round =>
    obtain ⟨t, i, hi', rfl, rfl, HRA, rfl⟩ := hrel
    have hts : t.size = i := HRA.out.1
    by_cases hlt : i < k
    · go_wp2_with fail
      go_roundw
      case rel =>
        refine ⟨_, i + 1, hlt, rfl, by go_num, ⟨by rw [bsize, hts]; rfl, fun q hq => ?_⟩, by simp⟩
        by_cases e : q < i
        · rw [byt_left (by omega)]; exact HRA.out.2 q e
        · rw [byt_right (by omega), show q - t.size = 0 by omega]; rfl
      case measure => simp [intOf]; omega
    · have hik : i = k := by omega
      subst hik
      have HAb : Hid (Ab (t ++ ⟨#[98]⟩) i) := ⟨by rw [bsize, hts]; rfl, fun q hq => by rw [byt_left (by omega)]; exact HRA.out.2 q hq, by rw [byt_right (by omega), hts, Nat.sub_self]; rfl⟩
      have hss : (t ++ (⟨#[98]⟩ : ByteArray)).size = i + 1 := HAb.out.size
      have hcv : ∀ (w9 : World), Sem.run Try.prog (convert 39 9 (.slice (some ⟨w9.heap.size, 0, none⟩) 3 3)) (w9.alloc (.cells #[.int .u8 (48 + (lo : Int)), .int .u8 44, .int .u8 (48 + (hi : Int))] 5)) = .ok (.string (strOfNums [48 + (lo : Int), 44, 48 + (hi : Int)])) (w9.alloc (.cells #[.int .u8 (48 + (lo : Int)), .int .u8 44, .int .u8 (48 + (hi : Int))] 5)) := fun w9 =>
        run_convert_bytes_arg (P := Try.prog) _ 39 5 Try.underlying39 Try.underlying5 w9.heap.size 0 3 3 [48 + (lo : Int), 44, 48 + (hi : Int)] rfl (fun q hq => by
          rw [cell_of_row _ w9.heap.size (0 + q) _ 5 (0, 0) (heap_alloc_new w9 _)]
          obtain rfl | rfl | rfl : q = 0 ∨ q = 1 ∨ q = 2 := by omega
          · rfl
          · rfl
          · rfl) 9 Try.underlying9
      have HPT : Hid ((⟨#[94, 40, 97, 123]⟩ : ByteArray) ++ strOfNums [48 + (lo : Int), 44, 48 + (hi : Int)] ++ (⟨#[125, 41]⟩ : ByteArray) = ptC lo hi) := by
        have e : strOfNums [48 + (lo : Int), 44, 48 + (hi : Int)] = ⟨#[UInt8.ofNat (48 + lo), 44, UInt8.ofNat (48 + hi)]⟩ := by
          unfold strOfNums
          simp only [List.map_cons, List.map_nil]
          rw [show (48 + (lo : Int)).toNat = 48 + lo by omega, show (48 + (hi : Int)).toNat = 48 + hi by omega]
          rfl
        rw [Hid, e]
        apply ByteArray.ext
        rw [ByteArray.data_append, ByteArray.data_append]
        rfl
      have hdg : (strOfNums [48 + (lo : Int), 44, 48 + (hi : Int)]).size = 3 := strOfNums_size _
      generalize strOfNums [48 + (lo : Int), 44, 48 + (hi : Int)] = dg at hcv HPT hdg
      go_upto_if 46 with fail
      go_cut [12] (fun s12 wx => s12 = .int .i64 ((min hi i : Nat) : Int) ∧ wx = wr)
      case first =>
        by_cases hmk : i < hi
        · go_wp2_with fail
          go_meet
          exact ⟨by rw [Nat.min_eq_right (by omega)], rfl⟩
        · go_wp2_with fail
          go_meet
          exact ⟨by rw [Nat.min_eq_left (by omega)], rfl⟩
      case rest =>
      obtain ⟨rfl, rfl⟩ := hcut
      obtain ⟨mo, hmo⟩ : ∃ mo, mo = min hi i := ⟨_, rfl⟩
      have HMO : Hid (mo = min hi i) := hmo
      rw [← hmo]
      clear hmo
      have HB0 : Hid (Below wc.heap.size wc (wc.alloc (.cells #[.int .u8 (48 + (lo : Int)), .int .u8 44, .int .u8 (48 + (hi : Int))] 5))) := (Below.refl _ _).alloc (Nat.le_refl _) _
      go_wp2_with fail
      generalize (wc.alloc (.cells #[.int .u8 (48 + (lo : Int)), .int .u8 44, .int .u8 (48 + (hi : Int))] 5)) = v0 at HB0
      clear hcv
      have hle30 : i ≤ 30 := by omega
      have hcA := callA (t ++ ⟨#[98]⟩) i v0 HAb.out hle30
      refine hcA.mono ?_
      clear hcA
      rintro e v1 ⟨a, rfl, hTa, hBa⟩
      have HTa : Hid (TwoAre v1 a 0 i 0 i) := hTa
      have HBa : Hid (Below wc.heap.size wc v1) := HB0.out.trans (hBa.mono HB0.out.size)
      clear hTa hBa
      go_wp2_with fail
      have hcB := callB (t ++ ⟨#[98]⟩) i v1 HAb.out hle30
      refine hcB.mono ?_
      clear hcB
      rintro e v2 ⟨b, rfl, hTb, hBb⟩
      have HTb : Hid ((i = 0 ∧ b = .slice none 0 0) ∨ (0 < i ∧ TwoAre v2 b 0 (i + 1) 0 i)) := hTb
      have HTa2 : Hid (TwoAre v2 a 0 i 0 i) := HTa.out.below hBb
      have HBb : Hid (Below wc.heap.size wc v2) := HBa.out.trans (hBb.mono HBa.out.size)
      clear hTb hBb HTa
      go_wp2_with fail
      have hcC := callC _ (t ++ ⟨#[98]⟩) i lo hi v2 HPT.out HAb.out hle30 hlh hh9
      refine hcC.mono ?_
      clear hcC
      rintro e v3 ⟨d, rfl, hTd, hBd⟩
      have HTd : Hid ((i < lo ∧ d = .slice none 0 0) ∨ (lo ≤ i ∧ ∃ x y, TwoAre v3 d x y 0 (mo : Int))) := by rw [HMO.out]; exact hTd
      have HTa3 : Hid (TwoAre v3 a 0 i 0 i) := HTa2.out.below hBd
      have HTb3 : Hid ((i = 0 ∧ b = .slice none 0 0) ∨ (0 < i ∧ TwoAre v3 b 0 (i + 1) 0 i)) := HTb.out.imp id (fun h => ⟨h.1, h.2.below hBd⟩)
      have HBd : Hid (Below wc.heap.size wc v3) := HBb.out.trans (hBd.mono HBb.out.size)
      clear hTd hBd HTa2 HTb
      go_wp2_with fail
      have hcD := callD (t ++ ⟨#[98]⟩) i v3 HAb.out hle30
      refine hcD.mono ?_
      clear hcD
      rintro e v4 ⟨q, rfl, hTq, hBq⟩
      have hTa4 := HTa3.out.below hBq
      have hTb4 : (i = 0 ∧ b = .slice none 0 0) ∨ (0 < i ∧ TwoAre v4 b 0 (i + 1) 0 i) := HTb3.out.imp id (fun h => ⟨h.1, h.2.below hBq⟩)
      have hTd4 : (i < lo ∧ d = .slice none 0 0) ∨ (lo ≤ i ∧ ∃ x y, TwoAre v4 d x y 0 (mo : Int)) := HTd.out.imp id (fun h => ⟨h.1, by obtain ⟨x, y, h⟩ := h.2; exact ⟨x, y, h.below hBq⟩⟩)
      have HBq : Hid (Below wc.heap.size wc v4) := HBd.out.trans (hBq.mono HBd.out.size)
      obtain ⟨oa, rfl, a0, a1, a2, a3, la⟩ := hTa4.cells
      obtain ⟨oq, rfl, q0, q1, q2, q3, lq⟩ := hTq.cells
      clear hBq HTa3 HTb3 HTd hTa4 hTq
      clear HRA hts HAb hss HPT hdg HMO HB0 HBa HBb HBd hhe hlt hi' hle30
      have n26 : ∀ (W : World), (binOp .eql 26 (.slice none 0 0) (.slice none 0 0)).run Try.prog W = .ok (.bool true) W := fun W => Lib.run_eql_slice_nil W _ _ none 0 0 0 0 Try.underlying26
      have s26 : ∀ (W : World) (x : Addr) (n c : Nat), (binOp .eql 26 (.slice (some x) n c) (.slice none 0 0)).run Try.prog W = .ok (.bool false) W := fun W x n c => Lib.run_eql_slice_nil W _ _ (some x) n c 0 0 Try.underlying26
      rcases hTb4 with ⟨hi0, rfl⟩ | ⟨hi0, hTb4⟩
      · subst hi0
        simp only [Nat.zero_sub, Int.ofNat_zero, Int.natCast_zero] at a0 a1 a2 a3 q0 q1 q2 q3
        rcases hTd4 with ⟨hlt2, rfl⟩ | ⟨hlt2, x, y, hTd4⟩
        · have hd1 : decide ((0 : Int) < (lo : Int)) = true := by simp; omega
          have hd2 : decide ((lo : Int) ≤ 0) = false := by simp; omega
          go_wp2_with fail
          go_quiet (fail)
          go_wp2_with fail
          go_quiet (fail)
          go_wp2_with fail
          go_ret
          exact ⟨ret_bool (by simp), below_drewN (HBq.out.alloc HBq.out.size _) _⟩
        · obtain ⟨od, rfl, d0, d1, d2, d3, ld⟩ := hTd4.cells
          have hd1 : decide ((0 : Int) < (lo : Int)) = false := by simp; omega
          have hd2 : decide ((lo : Int) ≤ 0) = true := by simp; omega
          clear hTd4
          go_wp2_with fail
          go_quiet (fail)
          go_wp2_with fail
          go_quiet (fail)
          go_wp2_with fail
          go_ret
          exact ⟨ret_bool (by simp), below_drewN (HBq.out.alloc HBq.out.size _) _⟩
      · obtain ⟨ob, rfl, b0, b1, b2, b3, lb⟩ := hTb4.cells
        rw [show ((i - 1 : Nat) : Int) = (i : Int) - 1 by omega] at q0 q2
        have he0 : ((i : Int) == 0) = false := by simp; omega
        have hg0 : decide ((0 : Int) < (i : Int)) = true := by simp; omega
        clear hTb4
        rcases hTd4 with ⟨hlt2, rfl⟩ | ⟨hlt2, x, y, hTd4⟩
        · have hd1 : decide ((i : Int) < (lo : Int)) = true := by simp; omega
          have hd2 : decide ((lo : Int) ≤ (i : Int)) = false := by simp; omega
          go_wp2_with fail
          go_quiet (fail)
          go_wp2_with fail
          go_quiet (fail)
          go_wp2_with fail
          go_ret
          exact ⟨ret_bool (by simp), below_drewN (HBq.out.alloc HBq.out.size _) _⟩
        · obtain ⟨od, rfl, d0, d1, d2, d3, ld⟩ := hTd4.cells
          have hd1 : decide ((i : Int) < (lo : Int)) = false := by simp; omega
          have hd2 : decide ((lo : Int) ≤ (i : Int)) = true := by simp; omega
          clear hTd4
          go_wp2_with fail
          go_quiet (fail)
          go_wp2_with fail
          go_quiet (fail)
          go_wp2_with fail
          go_ret
          exact ⟨ret_bool (by simp), below_drewN (HBq.out.alloc HBq.out.size _) _⟩
end Go.Proofs.Ytppjlpihaocdiaa
