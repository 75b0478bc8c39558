/- Several texts in one. -/
import Derived.Test.YtppjlpihaocdiaaGreatDoorEfHH
import Derived.Test.YtppjlpihaocdiaaGreatDoorEfLH
import Derived.Test.YtppjlpihaocdiaaGreatDoorEgDH
set_option linter.unusedSimpArgs false
set_option linter.unusedVariables false
namespace Go.Proofs.YtppjlpihaocdiaaGreatDoor
namespace Ee
open Go.RowKit
open Rs (Cm Wh Pc own_of CmdsIn readR)
theorem wit_nat {n m : Int} (h : wit n m = true) : n = ((n.toNat : Nat) : Int) ∧ (n.toNat : Int) ≤ m := by
  unfold wit at h
  have := of_decide_eq_true h
  omega
def cfO (s : ByteArray) (a b c : Int) (q : Bool) : Cf := ⟨a.toNat, b.toNat, c.toNat, q, (readR s).1⟩
theorem cfO_ok {s : ByteArray} {a b c : Int} {q : Bool} (h : (readR s).2.1 = 0) (hl : alw a b c = true) : Cok (cfO s a b c q) := by
  unfold alw at hl
  simp only [Bool.and_eq_true] at hl
  obtain ⟨⟨h1, h2⟩, h3⟩ := hl
  have k1 := (wit_nat h1).2
  have k2 := (wit_nat h2).2
  have k3 := (wit_nat h3).2
  obtain ⟨r1, r2⟩ := read_ok s h
  exact ⟨by show a.toNat ≤ 80; omega, by show b.toNat ≤ 80; omega, by show c.toNat ≤ 1000; omega, r1, r2⟩
theorem ed0_rest {cf : Cf} (h : Cok cf) : Rest cf 0 (ed0 cf) := by
  have hf := h.fuel
  have iv : Iv cf 0 0 (ed0 cf) := ⟨by simp [ed0, emp, ByteArray.size], by simp [ed0, emp, ByteArray.size], (fun t ht => by cases ht), by simp [ed0], by simp [ed0], by simp [ed0], by simp [ed0, Ed.more], by simp [ed0], by simp [ed0, weigh]; omega, by simp [ed0]⟩
  exact ⟨iv, fun _ => good_0 iv rfl⟩
def OQ (s : ByteArray) (a b c : Int) (q : Bool) (w : World) : Ending → World → Prop := fun e w' => Below w.heap.size w w' ∧
  (((readR s).2.1 ≠ 0 ∧ e = .returned (.tuple #[.pointer none, .int .i64 ((readR s).2.1 : Int)])) ∨
   ((readR s).2.1 = 0 ∧ alw a b c = false ∧ e = .returned (.tuple #[.pointer none, .int .i64 5])) ∨
   ((readR s).2.1 = 0 ∧ alw a b c = true ∧ ∃ bl v, e = .returned (.tuple #[.pointer (some ⟨bl, 0, none⟩), .int .i64 0]) ∧ w.heap.size ≤ bl ∧ At w' bl (cfO s a b c q) (ed0 (cfO s a b c q)) v ∧ ∀ k, Mine bl v k → w.heap.size ≤ k))
set_option maxRecDepth 100000 in
set_option maxHeartbeats 4000000 in
theorem open_any (s : ByteArray) (a b c : Int) (q : Bool) (w : World) (hs : s.size ≤ maxLen) (ht : Tab w) :
    Calls Tryz.prog 27 #[.string s, .agg #[.int .i64 a, .int .i64 b, .int .i64 c, .bool q]] w (OQ s a b c q w) := by
  have HT : Hid (Tab w) := ht
  have HRD : Hid (∀ W, Calls Tryz.prog 45 #[.string s] W (Rs.ReadPost s W)) := fun W => Rs.read_any s W hs
  have HAL : Hid (∀ W, Calls Tryz.prog 46 #[.agg #[.int .i64 a, .int .i64 b, .int .i64 c, .bool q]] W fun e w' => e = .returned (.bool (alw a b c)) ∧ Below W.heap.size W w') := fun W => allowed_any a b c q W
  have HRO : Hid ((readR s).2.1 = 0 → (readR s).1.length ≤ 1000) := fun h => (read_ok s h).1
  clear hs ht
  go_enter Tryz.func27, Tryz.ntmps27
  go_wp2_with fail
  refine (HRD.out _).mono ?_
  rintro e w1 ⟨cv, rfl, hB, h1, h2⟩
  have HB1 : Hid (Below w.heap.size w w1) := (below_alloc w _).trans (hB.mono (by simp))
  have bx : ∀ k x, (#[Value.int .i64 a, .int .i64 b, .int .i64 c, .bool q] : Array Value)[k]? = some x → w1.cell? ⟨w.heap.size, k, none⟩ = some x := fun k x hx => by
    rw [World.cell?_of_block (w := w.alloc (.cells #[.int .i64 a, .int .i64 b, .int .i64 c, .bool q] 23)) (w' := w1) (a := ⟨w.heap.size, k, none⟩) (hB.block w.heap.size (by simp))]
    rw [cell_of_row _ w.heap.size k #[.int .i64 a, .int .i64 b, .int .i64 c, .bool q] 23 (0, 0) (heap_alloc_last w _)]
    exact hx
  have b0 := bx 0 _ rfl
  have b1 := bx 1 _ rfl
  have b2 := bx 2 _ rfl
  have b3 := bx 3 _ rfl
  have H1 : Hid ((readR s).2.1 ≠ 0 → cv = .slice none 0 0) := h1
  have H2 : Hid ((readR s).2.1 = 0 → CmdsIn w1 (w.alloc (.cells #[.int .i64 a, .int .i64 b, .int .i64 c, .bool q] 23)).heap.size cv (readR s).1) := h2
  have HOQ : Hid (OQ s a b c q w = _) := rfl
  clear hB h1 h2 bx
  by_cases hr : (readR s).2.1 = 0
  · have HR0 : Hid ((readR s).2.1 = 0) := hr
    have hcm := cmds_of (H2.out hr) (HT.out.below HB1.out)
    have hlen := HRO.out hr
    have HCM : Hid (Cmds w1 (fun k => w1.heap.size ≤ k) cv (readR s).1) := hcm
    rw [hr]
    clear hr hcm
    go_wp2_with fail
    refine (HAL.out _).mono ?_
    rintro e w2 ⟨rfl, hB2⟩
    have HB2 : Hid (Below w1.heap.size w1 w2) := hB2
    have hsz1 := HB1.out.size
    have hwlt : w.heap.size < w1.heap.size := World.block_lt_of_cell? w1 _ b0
    have c0 := (World.cell?_of_block (w := w1) (w' := w2) (a := ⟨w.heap.size, 0, none⟩) (hB2.block _ hwlt)).trans b0
    have c1 := (World.cell?_of_block (w := w1) (w' := w2) (a := ⟨w.heap.size, 1, none⟩) (hB2.block _ hwlt)).trans b1
    have c2 := (World.cell?_of_block (w := w1) (w' := w2) (a := ⟨w.heap.size, 2, none⟩) (hB2.block _ hwlt)).trans b2
    have c3 := (World.cell?_of_block (w := w1) (w' := w2) (a := ⟨w.heap.size, 3, none⟩) (hB2.block _ hwlt)).trans b3
    clear hB2 b0 b1 b2 b3
    rcases bool_or (alw a b c) with hal | hal
    · have HAL2 : Hid (alw a b c = true) := hal
      rw [hal]
      unfold alw at hal
      simp only [Bool.and_eq_true] at hal
      obtain ⟨⟨g1, g2⟩, g3⟩ := hal
      have e1 := (wit_nat g1).1
      have e2 := (wit_nat g2).1
      have e3 := (wit_nat g3).1
      have HCM2 : Hid (Cmds w2 (fun k => w2.heap.size ≤ k) cv (readR s).1) := HCM.out.keep (fun k hk _ => HB2.out.block k hk) HB2.out.size (fun k hk => .inl (Nat.le_trans HB2.out.size hk))
      have hNE := newEditor_any cv a.toNat b.toNat c.toNat q (readR s).1 w2 HCM2.out hlen
      rw [← e1, ← e2, ← e3] at hNE
      have HNE : Hid (Calls Tryz.prog 47 #[cv, .agg #[.int .i64 a, .int .i64 b, .int .i64 c, .bool q]] w2 fun e w' => ∃ bl v, e = .returned (.pointer (some ⟨bl, 0, none⟩)) ∧ At w' bl (cfO s a b c q) (ed0 (cfO s a b c q)) v ∧ Below w2.heap.size w2 w' ∧ w2.heap.size ≤ bl ∧ ∀ k, Mine bl v k → w2.heap.size ≤ k) := hNE
      clear hNE e1 e2 e3 g1 g2 g3
      go_wp2_with fail
      refine HNE.out.mono ?_
      rintro e w3 ⟨bl, v, rfl, hA, hB3, hbl, hmi⟩
      have HA3 : Hid (At w3 bl (cfO s a b c q) (ed0 (cfO s a b c q)) v) := hA
      have HB3 : Hid (Below w.heap.size w w3) := (HB1.out.trans (HB2.out.mono hsz1)).trans (hB3.mono (Nat.le_trans hsz1 HB2.out.size))
      have hsz2 := HB2.out.size
      have HMI : Hid (∀ k, Mine bl v k → w2.heap.size ≤ k) := hmi
      clear hA hB3 hmi
      go_wp2_with fail
      go_ret2
      exact ⟨HB3.out, .inr (.inr ⟨HR0.out, HAL2.out, bl, v, rfl, by omega, HA3.out, fun k hk => by have := HMI.out k hk; omega⟩)⟩
    · have HAL2 : Hid (alw a b c = false) := hal
      rw [hal]
      clear hal
      go_wp2_with fail
      go_ret2
      exact ⟨HB1.out.trans (HB2.out.mono hsz1), .inr (.inl ⟨HR0.out, HAL2.out, rfl⟩)⟩
  · have q0 : (((readR s).2.1 : Int) == 0) = false := by simp; omega
    have q1 : (((readR s).2.1 : Int) != 0) = true := by simp; omega
    have HR0 : Hid ((readR s).2.1 ≠ 0) := hr
    clear hr
    go_wp2_with fail
    go_ret2
    exact ⟨HB1.out, .inl ⟨HR0.out, rfl⟩⟩
end Ee
end Go.Proofs.YtppjlpihaocdiaaGreatDoor
set_option linter.unusedSimpArgs false
set_option linter.unusedVariables false
namespace Go.Proofs.YtppjlpihaocdiaaGreatDoor
namespace Ee
open Go.RowKit
open Rs (Cm Wh Pc own_of CmdsIn readR)
def Liv (lo : Nat) (w : World) (b : Nat) (cf : Cf) (E : Ed) : Prop := lo ≤ w.heap.size ∧ ∃ v, At w b cf E v ∧ ∀ k, Mine b v k → lo ≤ k
def LQ (lo : Nat) (w : World) (b : Nat) (cf : Cf) (E : Ed) (w' : World) : Prop := Liv lo w' b cf E ∧ Below lo w w'
theorem ok_lq {lo : Nat} {w w' : World} {b : Nat} {cf : Cf} {E : Ed} {v : Ev} (hlo : lo ≤ w.heap.size) (hv : ∀ k, Mine b v k → lo ≤ k) (h : Ok w b cf v E w') : LQ lo w b cf E w' := by
  obtain ⟨v', a1, a2⟩ := h
  refine ⟨⟨Nat.le_trans hlo a2.size, v', a1, fun k hk => ?_⟩, ⟨a2.os, a2.tape, a2.output, a2.size, fun k hk => a2.block k (by omega) (fun hm => by have := hv k hm; omega)⟩⟩
  rcases a2.mine k hk with e | e
  · exact hv k e
  · omega
theorem Liv.below {lo : Nat} {w w' : World} {b : Nat} {cf : Cf} {E : Ed} (h : Liv lo w b cf E) (hb : Below w.heap.size w w') : Liv lo w' b cf E := by
  obtain ⟨h1, v, h2, h3⟩ := h
  exact ⟨Nat.le_trans h1 hb.size, v, h2.below hb, h3⟩
theorem feed_lv (mf : Mf) (hm : MfOk mf) (lo b : Nat) (cf : Cf) (K : Nat) (E : Ed) (s : ByteArray) (w : World) (h : Liv lo w b cf E) (hc : Cok cf) (hK : K + s.size ≤ 2000000) (hr : Rest cf K E) :
    Calls Tryz.prog 29 #[.pointer (some ⟨b, 0, none⟩), .string s] w fun e w' => e = .returned (.tuple #[]) ∧ LQ lo w b cf (E.feed mf cf (row s)) w' := by
  obtain ⟨h1, v, h2, h3⟩ := h
  refine (feed_any mf hm b cf K E v s w h2 hc hK hr).mono ?_
  rintro e w' ⟨rfl, hO⟩
  exact ⟨rfl, ok_lq h1 h3 hO⟩
theorem end_lv (mf : Mf) (hm : MfOk mf) (lo b : Nat) (cf : Cf) (K : Nat) (E : Ed) (w : World) (h : Liv lo w b cf E) (hc : Cok cf) (hK : K ≤ 2000000) (hr : Rest cf K E) :
    Calls Tryz.prog 32 #[.pointer (some ⟨b, 0, none⟩)] w fun e w' => e = .returned (.tuple #[]) ∧ LQ lo w b cf (E.endIt mf cf) w' := by
  obtain ⟨h1, v, h2, h3⟩ := h
  refine (end_any mf hm b cf K E v w h2 hc hK hr).mono ?_
  rintro e w' ⟨rfl, hO⟩
  exact ⟨rfl, ok_lq h1 h3 hO⟩
theorem iv_out {cf : Cf} {K c : Nat} {E : Ed} (h : Iv cf K c E) (hK : K ≤ 2000000) : E.out.length ≤ 1099511000000 := by
  have h1 := h.num
  have h2 := h.pot
  omega
theorem take_lv (lo b : Nat) (cf : Cf) (K : Nat) (E : Ed) (n : Int) (w : World) (h : Liv lo w b cf E) (hK : K ≤ 2000000) (hr : Rest cf K E) :
    Calls Tryz.prog 31 #[.pointer (some ⟨b, 0, none⟩), .int .i64 n] w fun e w' => e = .returned (.string (E.take n).2) ∧ LQ lo w b cf (E.take n).1 w' := by
  obtain ⟨h1, v, h2, h3⟩ := h
  have := iv_out hr.1 hK
  refine (take_any b cf E v n w h2 hr.1.taken (by omega)).mono ?_
  rintro e w' ⟨rfl, hO⟩
  exact ⟨rfl, ok_lq h1 h3 hO⟩
theorem state_lv (lo b : Nat) (cf : Cf) (E : Ed) (w : World) (h : Liv lo w b cf E) :
    Calls Tryz.prog 33 #[.pointer (some ⟨b, 0, none⟩)] w fun e w' => e = .returned (.int .i64 (E.state : Int)) ∧ LQ lo w b cf E w' := by
  obtain ⟨h1, v, h2, h3⟩ := h
  refine (state_any b cf E v w h2).mono ?_
  rintro e w' ⟨rfl, n, rfl⟩
  exact ⟨rfl, ok_lq h1 h3 ((Ok.refl h2).drewN n)⟩
def opens (s : ByteArray) (a b c : Int) : Bool := decide ((readR s).2.1 = 0) && alw a b c
def errOf (s : ByteArray) (a b c : Int) : Nat := if (readR s).2.1 = 0 then (if alw a b c = true then 0 else 5) else (readR s).2.1
theorem open_lv (s : ByteArray) (a b c : Int) (q : Bool) (w : World) (hs : s.size ≤ maxLen) (ht : Tab w) :
    Calls Tryz.prog 27 #[.string s, .agg #[.int .i64 a, .int .i64 b, .int .i64 c, .bool q]] w fun e w' => Below w.heap.size w w' ∧
      ((opens s a b c = false ∧ errOf s a b c ≠ 0 ∧ e = .returned (.tuple #[.pointer none, .int .i64 (errOf s a b c : Int)])) ∨
       (opens s a b c = true ∧ ∃ bl, e = .returned (.tuple #[.pointer (some ⟨bl, 0, none⟩), .int .i64 0]) ∧ Liv w.heap.size w' bl (cfO s a b c q) (ed0 (cfO s a b c q)))) := by
  refine (open_any s a b c q w hs ht).mono ?_
  rintro e w' ⟨hB, h⟩
  refine ⟨hB, ?_⟩
  rcases h with ⟨h1, rfl⟩ | ⟨h1, h2, rfl⟩ | ⟨h1, h2, bl, v, rfl, h3, h4, h5⟩
  · refine .inl ⟨by unfold opens; simp [h1], by unfold errOf; rw [if_neg h1]; exact h1, by unfold errOf; rw [if_neg h1]⟩
  · refine .inl ⟨by unfold opens; simp [h2], by unfold errOf; rw [if_pos h1, if_neg (by rw [h2]; simp)]; omega, by unfold errOf; rw [if_pos h1, if_neg (by rw [h2]; simp)]; rfl⟩
  · refine .inr ⟨by unfold opens; simp [h1, h2], bl, rfl, hB.size, v, h4, h5⟩
set_option maxHeartbeats 1000000 in
theorem pick_any (c : Int) (n : Nat) (w : World) (hc : -9223372036854775808 ≤ c) (hc2 : c ≤ 9223372036854775807) (hn : 0 < n) (hn2 : n ≤ 1000) :
    Calls Tryz.prog 21 #[.int .i64 c, .int .i64 (n : Int)] w fun e w' => ∃ k : Nat, k < n ∧ e = .returned (.int .i64 (k : Int)) ∧ w' = w := by
  have key : ∀ x : Int, 0 ≤ x → ∃ k : Nat, k < n ∧ Int.tmod x (n : Int) = (k : Int) := fun x hx => ⟨(x % n).toNat, by have := Int.emod_lt_of_pos x (by omega : (0 : Int) < n); have := Int.emod_nonneg x (by omega : (n : Int) ≠ 0); omega, by rw [Int.tmod_eq_emod_of_nonneg hx]; have := Int.emod_nonneg x (by omega : (n : Int) ≠ 0); omega⟩
  have q0 : ((n : Int) == 0) = false := by simp; omega
  have q9 : ¬ ((n : Int) = 0) := by omega
  by_cases h : c < 0
  · have q1 : decide (c < 0) = true := by simpa using h
    obtain ⟨k, hk, hkm⟩ := key (-(c + 1)) (by omega)
    go_enter Tryz.func21, Tryz.ntmps21
    go_wp2_with fail
    go_ret
    exact ⟨k, hk, by simp [hkm], rfl⟩
  · have q1 : decide (c < 0) = false := by simpa using h
    obtain ⟨k, hk, hkm⟩ := key c (by omega)
    go_enter Tryz.func21, Tryz.ntmps21
    go_wp2_with fail
    go_ret
    exact ⟨k, hk, by simp [hkm], rfl⟩
end Ee
end Go.Proofs.YtppjlpihaocdiaaGreatDoor
set_option linter.unusedSimpArgs false
set_option linter.unusedVariables false
namespace Go.Proofs.YtppjlpihaocdiaaGreatDoor
namespace Ee
open Go.RowKit
open Rs (Cm Wh Pc own_of CmdsIn readR)
structure Ints (w : World) (ao : Option Addr) (n : Nat) : Prop where
  cell : 0 < n → ∃ b o, ao = some ⟨b, o, none⟩ ∧ b < w.heap.size ∧ ∀ i, i < n → ∃ x : Int, -9223372036854775808 ≤ x ∧ x ≤ 9223372036854775807 ∧ w.cell? ⟨b, o + i, none⟩ = some (.int .i64 x)
  le : n ≤ 1048576
theorem Ints.below {w w' : World} {ao : Option Addr} {n : Nat} (h : Ints w ao n) (hb : Below w.heap.size w w') : Ints w' ao n :=
  ⟨fun hn => by
    obtain ⟨b, o, h1, h2, h3⟩ := h.cell hn
    refine ⟨b, o, h1, Nat.lt_of_lt_of_le h2 hb.size, fun i hi => ?_⟩
    obtain ⟨x, x1, x2, x3⟩ := h3 i hi
    exact ⟨x, x1, x2, (World.cell?_of_block (w := w) (w' := w') (a := ⟨b, o + i, none⟩) (hb.block b h2)).trans x3⟩, h.le⟩
theorem row_split (r : ByteArray) (k : Nat) (hk : k ≤ r.size) : row (r.extract 0 k) ++ row (r.extract k r.size) = row r := by
  unfold row
  have h1 : (r.extract 0 k).data.toList = r.data.toList.take k := by simp [ByteArray.data_extract]
  have h2 : (r.extract k r.size).data.toList = r.data.toList.drop k := by
    simp [ByteArray.data_extract]
    rw [List.take_of_length_le]
    simp
  rw [h1, h2, List.take_append_drop]
structure Ct (w wr : World) (s : ByteArray) (i : Nat) (lv : Value) (r : ByteArray) (ps : List ByteArray) : Prop where
  below : Below w.heap.size w wr
  own : wr.ownsRow w.heap.size 9 1 lv ps.length (sv ps)
  eq : ps.flatMap row ++ row r = row s
  len : ps.length ≤ i
  size : r.size ≤ s.size
theorem Ct.more {w wr w7 : World} {o : Obj} {s r : ByteArray} {i k gg cap : Nat} {lv : Value} {ps : List ByteArray} (h : Ct w wr s i lv r ps) (hk : k ≤ r.size)
    (hown : w7.ownsRow w.heap.size 9 1 (.slice (some ⟨gg, 0, none⟩) (ps.length + 1) cap) (ps.length + 1) (sv ps ++ [.string (r.extract 0 k)])) (hg : (wr.alloc o).grownBy w7 lv.ownBlock) : Ct w w7 s (i + 1) (.slice (some ⟨gg, 0, none⟩) (ps.length + 1) cap) (r.extract k r.size) (ps ++ [r.extract 0 k]) := by
  have e : (ps ++ [r.extract 0 k]).length = ps.length + 1 := by simp
  refine ⟨h.below.trans ⟨hg.os, hg.tape, hg.output, Nat.le_trans (by simp) hg.size, fun j hj => ?_⟩, by rw [e, sv_snoc]; exact hown, ?_, by rw [e]; have := h.len; omega, Nat.le_trans (extract_size_le _ _ _) h.size⟩
  · have hj2 := Nat.lt_of_lt_of_le hj h.below.size
    rw [hg.block j (by simp; omega) (fun e => by have := (h.own.lt j e.symm).1; omega), Below.heap_alloc _ _ _ hj2]
  · rw [List.flatMap_append, List.append_assoc]
    simp only [List.flatMap_cons, List.flatMap_nil, List.append_nil]
    rw [row_split r k hk]
    exact h.eq
end Ee
end Go.Proofs.YtppjlpihaocdiaaGreatDoor
set_option linter.unusedSimpArgs false
set_option linter.unusedVariables false
namespace Go.Proofs.YtppjlpihaocdiaaGreatDoor
namespace Ee
open Go.RowKit
open Rs (Cm Wh Pc own_of CmdsIn readR)
def fin (mf : Mf) (cf : Cf) (l : List UInt8) : Ed := ((ed0 cf).feed mf cf l).endIt mf cf
theorem fin_rest {mf : Mf} {cf : Cf} (hc : Cok cf) (l : List UInt8) (hl : l.length ≤ 2000000) : Rest cf l.length (fin mf cf l) := by
  have h := feed_rest (mf := mf) hc l 0 (ed0 cf) (by omega) (ed0_rest hc)
  rw [Nat.zero_add] at h
  exact end_rest hc hl h
theorem fin_taken (mf : Mf) (cf : Cf) (l : List UInt8) : (fin mf cf l).taken = 0 := by
  obtain ⟨d, _, h2, _⟩ := pu_feed mf cf l (ed0 cf) [] 0
  obtain ⟨d', _, k2, _⟩ := pu_end mf cf ((ed0 cf).feed mf cf l) [] 0
  exact k2.trans h2
theorem take_all {E : Ed} (ht : E.taken = 0) (hl : E.out.length ≤ 1099511000000) : (E.take 1099511627776).2 = txt E.out ∧ (E.take 1099511627776).1.state = E.state ∧ (E.take 1099511627776).1.ready = 0 := by
  have hk : E.takeN 1099511627776 = E.out.length := by unfold Ed.takeN Ed.ready; rw [ht]; omega
  rw [take_eq, hk, ht]
  have e : (E.out.drop 0).take E.out.length = E.out := by simp
  rw [e, if_pos (by omega)]
  exact ⟨rfl, rfl, by simp [Ed.ready]⟩
def EQ (mf : Mf) (s inp : ByteArray) (a b c : Int) (q : Bool) (w : World) : Ending → World → Prop := fun e w' => Below w.heap.size w w' ∧
  ((opens s a b c = false ∧ e = .returned (.tuple #[.string ⟨#[]⟩, .int .i64 0, .bool false])) ∨
   (opens s a b c = true ∧ e = .returned (.tuple #[.string (txt (fin mf (cfO s a b c q) (row inp)).out), .int .i64 ((fin mf (cfO s a b c q) (row inp)).state : Int), .bool true])))
theorem opens_ok {s : ByteArray} {a b c : Int} {q : Bool} (h : opens s a b c = true) : Cok (cfO s a b c q) := by
  unfold opens at h
  simp only [Bool.and_eq_true, decide_eq_true_eq] at h
  exact cfO_ok h.1 h.2
set_option maxRecDepth 100000 in
set_option maxHeartbeats 4000000 in
theorem edited_any (mf : Mf) (hm : MfOk mf) (s inp : ByteArray) (a b c : Int) (q : Bool) (w : World) (hs : s.size ≤ maxLen) (hi : inp.size ≤ 1048576) (ht : Tab w) :
    Calls Tryz.prog 26 #[.string s, .agg #[.int .i64 a, .int .i64 b, .int .i64 c, .bool q], .string inp] w (EQ mf s inp a b c q w) := by
  have HM : Hid (MfOk mf) := hm
  have HT : Hid (Tab w) := ht
  have hRL : (row inp).length = inp.size := row_length inp
  have HOP : Hid (∀ W, Tab W → Calls Tryz.prog 27 #[.string s, .agg #[.int .i64 a, .int .i64 b, .int .i64 c, .bool q]] W fun e w' => Below W.heap.size W w' ∧
      ((opens s a b c = false ∧ errOf s a b c ≠ 0 ∧ e = .returned (.tuple #[.pointer none, .int .i64 (errOf s a b c : Int)])) ∨
       (opens s a b c = true ∧ ∃ bl, e = .returned (.tuple #[.pointer (some ⟨bl, 0, none⟩), .int .i64 0]) ∧ Liv W.heap.size w' bl (cfO s a b c q) (ed0 (cfO s a b c q))))) := fun W hW => open_lv s a b c q W hs hW
  have HRL : Hid ((row inp).length = inp.size) := hRL
  clear hm ht hs hRL
  go_enter Tryz.func26, Tryz.ntmps26
  go_wp2_with fail
  refine (HOP.out _ (HT.out.below (below_alloc w _))).mono ?_
  rintro e w1 ⟨hB, h⟩
  have hsz : (w.alloc (.cells #[.int .i64 a, .int .i64 b, .int .i64 c, .bool q] 23)).heap.size = w.heap.size + 1 := by simp
  rw [hsz] at hB h
  have HB1 : Hid (Below w.heap.size w w1) := (below_alloc w _).trans (hB.mono (by omega))
  clear hB hsz
  rcases h with ⟨ho, hne, rfl⟩ | ⟨ho, bl, rfl, hlv⟩
  · have HO : Hid (opens s a b c = false) := ho
    have q0 : ((errOf s a b c : Int) == 0) = false := by simp; omega
    have q1 : ((errOf s a b c : Int) != 0) = true := by simp; omega
    clear ho hne
    generalize errOf s a b c = ec at *
    go_wp2_with fail
    refine bodyPost_ret (v := .tuple #[.string ⟨#[]⟩, .int .i64 0, .bool false]) (by simp [results, Tryz.results26, go_sem]) rfl ⟨HB1.out, .inl ⟨HO.out, rfl⟩⟩
  · have HO : Hid (opens s a b c = true) := ho
    have HC : Hid (Cok (cfO s a b c q)) := opens_ok ho
    have HR0 : Hid (Rest (cfO s a b c q) 0 (ed0 (cfO s a b c q))) := ed0_rest HC.out
    have HR1 : Hid (Rest (cfO s a b c q) inp.size ((ed0 (cfO s a b c q)).feed mf (cfO s a b c q) (row inp))) := by
      have := feed_rest (mf := mf) HC.out (row inp) 0 (ed0 (cfO s a b c q)) (by rw [HRL.out]; omega) HR0.out
      rw [HRL.out, Nat.zero_add] at this
      exact this
    have HR2 : Hid (Rest (cfO s a b c q) inp.size (fin mf (cfO s a b c q) (row inp))) := by
      have := fin_rest (mf := mf) HC.out (row inp) (by rw [HRL.out]; omega)
      rw [HRL.out] at this
      exact this
    have hTA := take_all (fin_taken mf (cfO s a b c q) (row inp)) (iv_out HR2.out.1 (by omega))
    have HTA : Hid _ := hTA
    have HFE : Hid (((ed0 (cfO s a b c q)).feed mf (cfO s a b c q) (row inp)).endIt mf (cfO s a b c q) = fin mf (cfO s a b c q) (row inp)) := rfl
    have HLV : Hid (Liv (w.heap.size + 1) w1 bl (cfO s a b c q) (ed0 (cfO s a b c q))) := hlv
    generalize hcf : cfO s a b c q = cf at *
    have HCF : Hid (cfO s a b c q = cf) := hcf
    clear hcf
    clear ho hlv hTA
    have hL := feed_lv mf HM.out (w.heap.size + 1) bl cf 0 (ed0 cf) inp w1 HLV.out HC.out (by omega) HR0.out
    go_wp2_with fail
    refine hL.mono ?_
    rintro e w2 ⟨rfl, hl, hb⟩
    have HLV2 : Hid (Liv (w.heap.size + 1) w2 bl cf ((ed0 cf).feed mf cf (row inp))) := hl
    have HB2 : Hid (Below w.heap.size w w2) := HB1.out.trans (hb.mono (by omega))
    clear hL hl hb
    have hL := end_lv mf HM.out (w.heap.size + 1) bl cf inp.size _ w2 HLV2.out HC.out (by omega) HR1.out
    rw [HFE.out] at hL
    go_wp2_with fail
    refine hL.mono ?_
    rintro e w3 ⟨rfl, hl, hb⟩
    have HLV3 : Hid (Liv (w.heap.size + 1) w3 bl cf (fin mf cf (row inp))) := hl
    have HB3 : Hid (Below w.heap.size w w3) := HB2.out.trans (hb.mono (by omega))
    clear hL hl hb
    have hL := take_lv (w.heap.size + 1) bl cf inp.size _ 1099511627776 w3 HLV3.out (by omega) HR2.out
    rw [HTA.out.1] at hL
    have hst : ((fin mf cf (row inp)).take 1099511627776).1.state = (fin mf cf (row inp)).state := HTA.out.2.1
    generalize hTX : txt (fin mf cf (row inp)).out = TX at hL
    have HTX : Hid (txt (fin mf cf (row inp)).out = TX) := hTX
    clear hTX
    go_wp2_with fail
    refine hL.mono ?_
    rintro e w4 ⟨rfl, hl, hb⟩
    have HLV4 : Hid (Liv (w.heap.size + 1) w4 bl cf ((fin mf cf (row inp)).take 1099511627776).1) := hl
    have HB4 : Hid (Below w.heap.size w w4) := HB3.out.trans (hb.mono (by omega))
    clear hL hl hb
    have hL := state_lv (w.heap.size + 1) bl cf _ w4 HLV4.out
    rw [hst] at hL
    go_wp2_with fail
    refine hL.mono ?_
    rintro e w5 ⟨rfl, hl, hb⟩
    have HB5 : Hid (Below w.heap.size w w5) := HB4.out.trans (hb.mono (by omega))
    clear hL hl hb hst
    go_wp2_with fail
    refine bodyPost_ret (v := .tuple #[.string TX, .int .i64 ((fin mf cf (row inp)).state : Int), .bool true]) (by simp [results, Tryz.results26, go_sem]) rfl ⟨HB5.out, .inr ⟨HO.out, ?_⟩⟩
    rw [HCF.out, HTX.out]
end Ee
end Go.Proofs.YtppjlpihaocdiaaGreatDoor
set_option linter.unusedSimpArgs false
set_option linter.unusedVariables false
namespace Go.Proofs.YtppjlpihaocdiaaGreatDoor
namespace Ee
open Go.RowKit
open Rs (Cm Wh Pc own_of CmdsIn readR)
def Lg (lo : Nat) (pv : Value) (w : World) (b : Nat) (cf : Cf) (E : Ed) : Prop := lo ≤ w.heap.size ∧ ∃ v, At w b cf E v ∧ (∀ k, Mine b v k → lo ≤ k) ∧ ∀ k, pv.ownBlock = some k → k < w.heap.size ∧ ¬ Mine b v k
theorem mine_lt {w : World} {b : Nat} {cf : Cf} {E : Ed} {v : Ev} (h : At w b cf E v) (k : Nat) (hk : Mine b v k) : k < w.heap.size := by
  rcases hk with e | e | e | e | e
  · rw [e]; exact h.lt
  · exact (h.nx.lt k e).2
  · exact (h.ot.lt k e).2
  · exact (h.cg.lt k e).2
  · exact (h.op.lt k e).2
theorem Liv.beside {lo : Nat} {w w' : World} {b : Nat} {cf : Cf} {E : Ed} {pv : Value} (h : Liv lo w b cf E) (hb : Below w.heap.size w w') (hp : ∀ k, pv.ownBlock = some k → w.heap.size ≤ k ∧ k < w'.heap.size) : Lg lo pv w' b cf E := by
  obtain ⟨h1, v, h2, h3⟩ := h
  exact ⟨Nat.le_trans h1 hb.size, v, h2.below hb, h3, fun k hk => ⟨(hp k hk).2, fun hm => by have := mine_lt h2 k hm; have := (hp k hk).1; omega⟩⟩
theorem take_iv {cf : Cf} {K c : Nat} {E : Ed} (h : Iv cf K c E) (n : Int) : Iv cf K c (E.take n).1 := by
  have ht := h.taken
  have hk : E.taken + E.takeN n ≤ E.out.length := by unfold Ed.takeN Ed.ready; omega
  rw [take_eq]
  split
  · exact ⟨h.pat, h.hold, h.com, h.opn, h.looked, h.at', h.num, h.next, by have := h.pot; simp only [List.length_drop]; omega, by simp⟩
  · exact ⟨h.pat, h.hold, h.com, h.opn, h.looked, h.at', h.num, h.next, h.pot, hk⟩
theorem take_fields (E : Ed) (n : Int) : (E.take n).1.stage = E.stage ∧ (E.take n).1.at' = E.at' ∧ (E.take n).1.state = E.state ∧ (E.take n).1.more = E.more := by
  rw [take_eq]
  split <;> exact ⟨rfl, rfl, rfl, rfl⟩
theorem take_rest {cf : Cf} {K : Nat} {E : Ed} (h : Rest cf K E) (n : Int) : Rest cf K (E.take n).1 := by
  obtain ⟨e1, e2, e3, e4⟩ := take_fields E n
  refine ⟨take_iv h.1 n, fun hs => ?_⟩
  have hg := h.2 (e3.symm.trans hs)
  rw [e1]
  exact ⟨by rw [e1]; exact take_iv hg.iv n, fun e => by rw [e2]; exact hg.lt e, fun e => by rw [e1]; exact hg.st e, fun e => by rw [e1, e2]; exact hg.rd e, fun e => by rw [e1, e4]; exact hg.mr e, by rw [e3]; exact hg.run⟩
theorem tw_start (cf : Cf) : Tw2 [] (ed0 cf) (ed0 cf) := ⟨rfl, rfl, rfl, by simp [ed0]⟩
theorem row_append (x y : ByteArray) : row (x ++ y) = row x ++ row y := by simp [row]
theorem row_ext {x y : ByteArray} (h : row x = row y) : x = y := by
  unfold row at h
  apply ByteArray.ext
  exact Array.ext' h
theorem row_txt (l : List UInt8) : row (txt l) = l := by simp [row, txt]
theorem tw_end {p : List UInt8} {E E' : Ed} (h : Tw2 p E E') (hl : E'.out.length ≤ 1099511000000) : p ++ row (E'.take 1099511627776).2 = E.out ∧ (E'.take 1099511627776).1.state = E.state ∧ (E'.take 1099511627776).1.ready = 0 := by
  have ht := h.le
  have hk : E'.takeN 1099511627776 = E'.out.length - E'.taken := by unfold Ed.takeN Ed.ready; omega
  have h2 : (E'.take 1099511627776).2 = txt ((E'.out.drop E'.taken).take (E'.takeN 1099511627776)) := by rw [take_eq]; split <;> rfl
  refine ⟨?_, ?_, ?_⟩
  · rw [h2, row_txt, hk, List.take_of_length_le (by simp), h.out]
  · rw [(take_fields E' _).2.2.1, h.eq]; rfl
  · rw [take_eq, hk]
    split
    · simp [Ed.ready]; omega
    · simp only [Ed.ready]; omega
end Ee
end Go.Proofs.YtppjlpihaocdiaaGreatDoor
