/- Several texts in one. -/
import Derived.Test.YtppjlpihaocdiaaGreatDoorEfHH
import Derived.Test.YtppjlpihaocdiaaGreatDoorEfLH
import Derived.Test.YtppjlpihaocdiaaGreatDoorEgDH
/- A part of the proof. -/
set_option linter.unusedSimpArgs false
set_option linter.unusedVariables false
namespace Go.Proofs.YtppjlpihaocdiaaGreatDoor
namespace Ee
open Go.RowKit
open Rs (Cm Wh Pc own_of CmdsIn readR)
theorem wit_nat {n m : Int} (h : wit n m = true) : n = ((n.toNat : Nat) : Int) ∧ (n.toNat : Int) ≤ m := by
  unfold wit at h
  have := of_decide_eq_true h
  omega
def cfO (s : ByteArray) (a b c : Int) (q : Bool) : Cf := ⟨a.toNat, b.toNat, c.toNat, q, (readR s).1⟩
theorem cfO_ok {s : ByteArray} {a b c : Int} {q : Bool} (h : (readR s).2.1 = 0) (hl : alw a b c = true) : Cok (cfO s a b c q) := by
  unfold alw at hl
  simp only [Bool.and_eq_true] at hl
  obtain ⟨⟨h1, h2⟩, h3⟩ := hl
  have k1 := (wit_nat h1).2
  have k2 := (wit_nat h2).2
  have k3 := (wit_nat h3).2
  obtain ⟨r1, r2⟩ := read_ok s h
  exact ⟨by show a.toNat ≤ 80; omega, by show b.toNat ≤ 80; omega, by show c.toNat ≤ 1000; omega, r1, r2⟩
theorem ed0_rest {cf : Cf} (h : Cok cf) : Rest cf 0 (ed0 cf) := by
  have hf := h.fuel
  have iv : Iv cf 0 0 (ed0 cf) := ⟨by simp [ed0, emp, ByteArray.size], by simp [ed0, emp, ByteArray.size], (fun t ht => by cases ht), by simp [ed0], by simp [ed0], by simp [ed0], by simp [ed0, Ed.more], by simp [ed0], by simp [ed0, weigh]; omega, by simp [ed0]⟩
  exact ⟨iv, fun _ => good_0 iv rfl⟩
def OQ (s : ByteArray) (a b c : Int) (q : Bool) (w : World) : Ending → World → Prop := fun e w' => Below w.heap.size w w' ∧
  (((readR s).2.1 ≠ 0 ∧ e = .returned (.tuple #[.pointer none, .int .i64 ((readR s).2.1 : Int)])) ∨
   ((readR s).2.1 = 0 ∧ alw a b c = false ∧ e = .returned (.tuple #[.pointer none, .int .i64 5])) ∨
   ((readR s).2.1 = 0 ∧ alw a b c = true ∧ ∃ bl v, e = .returned (.tuple #[.pointer (some ⟨bl, 0, none⟩), .int .i64 0]) ∧ w.heap.size ≤ bl ∧ At w' bl (cfO s a b c q) (ed0 (cfO s a b c q)) v ∧ ∀ k, Mine bl v k → w.heap.size ≤ k))
set_option maxRecDepth 100000 in
set_option maxHeartbeats 4000000 in
theorem open_any (s : ByteArray) (a b c : Int) (q : Bool) (w : World) (hs : s.size ≤ maxLen) (ht : Tab w) :
    Calls Tryz.prog 27 #[.string s, .agg #[.int .i64 a, .int .i64 b, .int .i64 c, .bool q]] w (OQ s a b c q w) := by
  have HT : Hid (Tab w) := ht
  have HRD : Hid (∀ W, Calls Tryz.prog 45 #[.string s] W (Rs.ReadPost s W)) := fun W => Rs.read_any s W hs
  have HAL : Hid (∀ W, Calls Tryz.prog 46 #[.agg #[.int .i64 a, .int .i64 b, .int .i64 c, .bool q]] W fun e w' => e = .returned (.bool (alw a b c)) ∧ Below W.heap.size W w') := fun W => allowed_any a b c q W
  have HRO : Hid ((readR s).2.1 = 0 → (readR s).1.length ≤ 1000) := fun h => (read_ok s h).1
  clear hs ht
  go_enter Tryz.func27, Tryz.ntmps27
  go_wp2_with fail
  refine (HRD.out _).mono ?_
  rintro e w1 ⟨cv, rfl, hB, h1, h2⟩
  have HB1 : Hid (Below w.heap.size w w1) := (below_alloc w _).trans (hB.mono (by simp))
  have bx : ∀ k x, (#[Value.int .i64 a, .int .i64 b, .int .i64 c, .bool q] : Array Value)[k]? = some x → w1.cell? ⟨w.heap.size, k, none⟩ = some x := fun k x hx => by
    rw [World.cell?_of_block (w := w.alloc (.cells #[.int .i64 a, .int .i64 b, .int .i64 c, .bool q] 23)) (w' := w1) (a := ⟨w.heap.size, k, none⟩) (hB.block w.heap.size (by simp))]
    rw [cell_of_row _ w.heap.size k #[.int .i64 a, .int .i64 b, .int .i64 c, .bool q] 23 (0, 0) (heap_alloc_last w _)]
    exact hx
  have b0 := bx 0 _ rfl
  have b1 := bx 1 _ rfl
  have b2 := bx 2 _ rfl
  have b3 := bx 3 _ rfl
  have H1 : Hid ((readR s).2.1 ≠ 0 → cv = .slice none 0 0) := h1
  have H2 : Hid ((readR s).2.1 = 0 → CmdsIn w1 (w.alloc (.cells #[.int .i64 a, .int .i64 b, .int .i64 c, .bool q] 23)).heap.size cv (readR s).1) := h2
  have HOQ : Hid (OQ s a b c q w = _) := rfl
  clear hB h1 h2 bx
  by_cases hr : (readR s).2.1 = 0
  · have HR0 : Hid ((readR s).2.1 = 0) := hr
    have hcm := cmds_of (H2.out hr) (HT.out.below HB1.out)
    have hlen := HRO.out hr
    have HCM : Hid (Cmds w1 (fun k => w1.heap.size ≤ k) cv (readR s).1) := hcm
    rw [hr]
    clear hr hcm
    go_wp2_with fail
    refine (HAL.out _).mono ?_
    rintro e w2 ⟨rfl, hB2⟩
    have HB2 : Hid (Below w1.heap.size w1 w2) := hB2
    have hsz1 := HB1.out.size
    have hwlt : w.heap.size < w1.heap.size := World.block_lt_of_cell? w1 _ b0
    have c0 := (World.cell?_of_block (w := w1) (w' := w2) (a := ⟨w.heap.size, 0, none⟩) (hB2.block _ hwlt)).trans b0
    have c1 := (World.cell?_of_block (w := w1) (w' := w2) (a := ⟨w.heap.size, 1, none⟩) (hB2.block _ hwlt)).trans b1
    have c2 := (World.cell?_of_block (w := w1) (w' := w2) (a := ⟨w.heap.size, 2, none⟩) (hB2.block _ hwlt)).trans b2
    have c3 := (World.cell?_of_block (w := w1) (w' := w2) (a := ⟨w.heap.size, 3, none⟩) (hB2.block _ hwlt)).trans b3
    clear hB2 b0 b1 b2 b3
    rcases bool_or (alw a b c) with hal | hal
    · have HAL2 : Hid (alw a b c = true) := hal
      rw [hal]
      unfold alw at hal
      simp only [Bool.and_eq_true] at hal
      obtain ⟨⟨g1, g2⟩, g3⟩ := hal
      have e1 := (wit_nat g1).1
      have e2 := (wit_nat g2).1
      have e3 := (wit_nat g3).1
      have HCM2 : Hid (Cmds w2 (fun k => w2.heap.size ≤ k) cv (readR s).1) := HCM.out.keep (fun k hk _ => HB2.out.block k hk) HB2.out.size (fun k hk => .inl (Nat.le_trans HB2.out.size hk))
      have hNE := newEditor_any cv a.toNat b.toNat c.toNat q (readR s).1 w2 HCM2.out hlen
      rw [← e1, ← e2, ← e3] at hNE
      have HNE : Hid (Calls Tryz.prog 47 #[cv, .agg #[.int .i64 a, .int .i64 b, .int .i64 c, .bool q]] w2 fun e w' => ∃ bl v, e = .returned (.pointer (some ⟨bl, 0, none⟩)) ∧ At w' bl (cfO s a b c q) (ed0 (cfO s a b c q)) v ∧ Below w2.heap.size w2 w' ∧ w2.heap.size ≤ bl ∧ ∀ k, Mine bl v k → w2.heap.size ≤ k) := hNE
      clear hNE e1 e2 e3 g1 g2 g3
      go_wp2_with fail
      refine HNE.out.mono ?_
      rintro e w3 ⟨bl, v, rfl, hA, hB3, hbl, hmi⟩
      have HA3 : Hid (At w3 bl (cfO s a b c q) (ed0 (cfO s a b c q)) v) := hA
      have HB3 : Hid (Below w.heap.size w w3) := (HB1.out.trans (HB2.out.mono hsz1)).trans (hB3.mono (Nat.le_trans hsz1 HB2.out.size))
      have hsz2 := HB2.out.size
      have HMI : Hid (∀ k, Mine bl v k → w2.heap.size ≤ k) := hmi
      clear hA hB3 hmi
      go_wp2_with fail
      go_ret2
      exact ⟨HB3.out, .inr (.inr ⟨HR0.out, HAL2.out, bl, v, rfl, by omega, HA3.out, fun k hk => by have := HMI.out k hk; omega⟩)⟩
    · have HAL2 : Hid (alw a b c = false) := hal
      rw [hal]
      clear hal
      go_wp2_with fail
      go_ret2
      exact ⟨HB1.out.trans (HB2.out.mono hsz1), .inr (.inl ⟨HR0.out, HAL2.out, rfl⟩)⟩
  · have q0 : (((readR s).2.1 : Int) == 0) = false := by simp; omega
    have q1 : (((readR s).2.1 : Int) != 0) = true := by simp; omega
    have HR0 : Hid ((readR s).2.1 ≠ 0) := hr
    clear hr
    go_wp2_with fail
    go_ret2
    exact ⟨HB1.out, .inl ⟨HR0.out, rfl⟩⟩
end Ee
end Go.Proofs.YtppjlpihaocdiaaGreatDoor

/- A part of the proof. -/
set_option linter.unusedSimpArgs false
set_option linter.unusedVariables false
namespace Go.Proofs.YtppjlpihaocdiaaGreatDoor
namespace Ee
open Go.RowKit
open Rs (Cm Wh Pc own_of CmdsIn readR)
def Liv (lo : Nat) (w : World) (b : Nat) (cf : Cf) (E : Ed) : Prop := lo ≤ w.heap.size ∧ ∃ v, At w b cf E v ∧ ∀ k, Mine b v k → lo ≤ k
def LQ (lo : Nat) (w : World) (b : Nat) (cf : Cf) (E : Ed) (w' : World) : Prop := Liv lo w' b cf E ∧ Below lo w w'
theorem ok_lq {lo : Nat} {w w' : World} {b : Nat} {cf : Cf} {E : Ed} {v : Ev} (hlo : lo ≤ w.heap.size) (hv : ∀ k, Mine b v k → lo ≤ k) (h : Ok w b cf v E w') : LQ lo w b cf E w' := by
  obtain ⟨v', a1, a2⟩ := h
  refine ⟨⟨Nat.le_trans hlo a2.size, v', a1, fun k hk => ?_⟩, ⟨a2.os, a2.tape, a2.output, a2.size, fun k hk => a2.block k (by omega) (fun hm => by have := hv k hm; omega)⟩⟩
  rcases a2.mine k hk with e | e
  · exact hv k e
  · omega
theorem Liv.below {lo : Nat} {w w' : World} {b : Nat} {cf : Cf} {E : Ed} (h : Liv lo w b cf E) (hb : Below w.heap.size w w') : Liv lo w' b cf E := by
  obtain ⟨h1, v, h2, h3⟩ := h
  exact ⟨Nat.le_trans h1 hb.size, v, h2.below hb, h3⟩
theorem feed_lv (mf : Mf) (hm : MfOk mf) (lo b : Nat) (cf : Cf) (K : Nat) (E : Ed) (s : ByteArray) (w : World) (h : Liv lo w b cf E) (hc : Cok cf) (hK : K + s.size ≤ 2000000) (hr : Rest cf K E) :
    Calls Tryz.prog 29 #[.pointer (some ⟨b, 0, none⟩), .string s] w fun e w' => e = .returned (.tuple #[]) ∧ LQ lo w b cf (E.feed mf cf (row s)) w' := by
  obtain ⟨h1, v, h2, h3⟩ := h
  refine (feed_any mf hm b cf K E v s w h2 hc hK hr).mono ?_
  rintro e w' ⟨rfl, hO⟩
  exact ⟨rfl, ok_lq h1 h3 hO⟩
theorem end_lv (mf : Mf) (hm : MfOk mf) (lo b : Nat) (cf : Cf) (K : Nat) (E : Ed) (w : World) (h : Liv lo w b cf E) (hc : Cok cf) (hK : K ≤ 2000000) (hr : Rest cf K E) :
    Calls Tryz.prog 32 #[.pointer (some ⟨b, 0, none⟩)] w fun e w' => e = .returned (.tuple #[]) ∧ LQ lo w b cf (E.endIt mf cf) w' := by
  obtain ⟨h1, v, h2, h3⟩ := h
  refine (end_any mf hm b cf K E v w h2 hc hK hr).mono ?_
  rintro e w' ⟨rfl, hO⟩
  exact ⟨rfl, ok_lq h1 h3 hO⟩
theorem iv_out {cf : Cf} {K c : Nat} {E : Ed} (h : Iv cf K c E) (hK : K ≤ 2000000) : E.out.length ≤ 1099511000000 := by
  have h1 := h.num
  have h2 := h.pot
  omega
theorem take_lv (lo b : Nat) (cf : Cf) (K : Nat) (E : Ed) (n : Int) (w : World) (h : Liv lo w b cf E) (hK : K ≤ 2000000) (hr : Rest cf K E) :
    Calls Tryz.prog 31 #[.pointer (some ⟨b, 0, none⟩), .int .i64 n] w fun e w' => e = .returned (.string (E.take n).2) ∧ LQ lo w b cf (E.take n).1 w' := by
  obtain ⟨h1, v, h2, h3⟩ := h
  have := iv_out hr.1 hK
  refine (take_any b cf E v n w h2 hr.1.taken (by omega)).mono ?_
  rintro e w' ⟨rfl, hO⟩
  exact ⟨rfl, ok_lq h1 h3 hO⟩
theorem state_lv (lo b : Nat) (cf : Cf) (E : Ed) (w : World) (h : Liv lo w b cf E) :
    Calls Tryz.prog 33 #[.pointer (some ⟨b, 0, none⟩)] w fun e w' => e = .returned (.int .i64 (E.state : Int)) ∧ LQ lo w b cf E w' := by
  obtain ⟨h1, v, h2, h3⟩ := h
  refine (state_any b cf E v w h2).mono ?_
  rintro e w' ⟨rfl, n, rfl⟩
  exact ⟨rfl, ok_lq h1 h3 ((Ok.refl h2).drewN n)⟩
def opens (s : ByteArray) (a b c : Int) : Bool := decide ((readR s).2.1 = 0) && alw a b c
def errOf (s : ByteArray) (a b c : Int) : Nat := if (readR s).2.1 = 0 then (if alw a b c = true then 0 else 5) else (readR s).2.1
theorem open_lv (s : ByteArray) (a b c : Int) (q : Bool) (w : World) (hs : s.size ≤ maxLen) (ht : Tab w) :
    Calls Tryz.prog 27 #[.string s, .agg #[.int .i64 a, .int .i64 b, .int .i64 c, .bool q]] w fun e w' => Below w.heap.size w w' ∧
      ((opens s a b c = false ∧ errOf s a b c ≠ 0 ∧ e = .returned (.tuple #[.pointer none, .int .i64 (errOf s a b c : Int)])) ∨
       (opens s a b c = true ∧ ∃ bl, e = .returned (.tuple #[.pointer (some ⟨bl, 0, none⟩), .int .i64 0]) ∧ Liv w.heap.size w' bl (cfO s a b c q) (ed0 (cfO s a b c q)))) := by
  refine (open_any s a b c q w hs ht).mono ?_
  rintro e w' ⟨hB, h⟩
  refine ⟨hB, ?_⟩
  rcases h with ⟨h1, rfl⟩ | ⟨h1, h2, rfl⟩ | ⟨h1, h2, bl, v, rfl, h3, h4, h5⟩
  · refine .inl ⟨by unfold opens; simp [h1], by unfold errOf; rw [if_neg h1]; exact h1, by unfold errOf; rw [if_neg h1]⟩
  · refine .inl ⟨by unfold opens; simp [h2], by unfold errOf; rw [if_pos h1, if_neg (by rw [h2]; simp)]; omega, by unfold errOf; rw [if_pos h1, if_neg (by rw [h2]; simp)]; rfl⟩
  · refine .inr ⟨by unfold opens; simp [h1, h2], bl, rfl, hB.size, v, h4, h5⟩
set_option maxHeartbeats 1000000 in
theorem pick_any (c : Int) (n : Nat) (w : World) (hc : -9223372036854775808 ≤ c) (hc2 : c ≤ 9223372036854775807) (hn : 0 < n) (hn2 : n ≤ 1000) :
    Calls Tryz.prog 21 #[.int .i64 c, .int .i64 (n : Int)] w fun e w' => ∃ k : Nat, k < n ∧ e = .returned (.int .i64 (k : Int)) ∧ w' = w := by
  have key : ∀ x : Int, 0 ≤ x → ∃ k : Nat, k < n ∧ Int.tmod x (n : Int) = (k : Int) := fun x hx => ⟨(x % n).toNat, by have := Int.emod_lt_of_pos x (by omega : (0 : Int) < n); have := Int.emod_nonneg x (by omega : (n : Int) ≠ 0); omega, by rw [Int.tmod_eq_emod_of_nonneg hx]; have := Int.emod_nonneg x (by omega : (n : Int) ≠ 0); omega⟩
  have q0 : ((n : Int) == 0) = false := by simp; omega
  have q9 : ¬ ((n : Int) = 0) := by omega
  by_cases h : c < 0
  · have q1 : decide (c < 0) = true := by simpa using h
    obtain ⟨k, hk, hkm⟩ := key (-(c + 1)) (by omega)
    go_enter Tryz.func21, Tryz.ntmps21
    go_wp2_with fail
    go_ret
    exact ⟨k, hk, by simp [hkm], rfl⟩
  · have q1 : decide (c < 0) = false := by simpa using h
    obtain ⟨k, hk, hkm⟩ := key c (by omega)
    go_enter Tryz.func21, Tryz.ntmps21
    go_wp2_with fail
    go_ret
    exact ⟨k, hk, by simp [hkm], rfl⟩
end Ee
end Go.Proofs.YtppjlpihaocdiaaGreatDoor

/- A part of the proof. -/
set_option linter.unusedSimpArgs false
set_option linter.unusedVariables false
namespace Go.Proofs.YtppjlpihaocdiaaGreatDoor
namespace Ee
open Go.RowKit
open Rs (Cm Wh Pc own_of CmdsIn readR)
structure Ints (w : World) (ao : Option Addr) (n : Nat) : Prop where
  cell : 0 < n → ∃ b o, ao = some ⟨b, o, none⟩ ∧ b < w.heap.size ∧ ∀ i, i < n → ∃ x : Int, -9223372036854775808 ≤ x ∧ x ≤ 9223372036854775807 ∧ w.cell? ⟨b, o + i, none⟩ = some (.int .i64 x)
  le : n ≤ 1048576
theorem Ints.below {w w' : World} {ao : Option Addr} {n : Nat} (h : Ints w ao n) (hb : Below w.heap.size w w') : Ints w' ao n :=
  ⟨fun hn => by
    obtain ⟨b, o, h1, h2, h3⟩ := h.cell hn
    refine ⟨b, o, h1, Nat.lt_of_lt_of_le h2 hb.size, fun i hi => ?_⟩
    obtain ⟨x, x1, x2, x3⟩ := h3 i hi
    exact ⟨x, x1, x2, (World.cell?_of_block (w := w) (w' := w') (a := ⟨b, o + i, none⟩) (hb.block b h2)).trans x3⟩, h.le⟩
theorem row_split (r : ByteArray) (k : Nat) (hk : k ≤ r.size) : row (r.extract 0 k) ++ row (r.extract k r.size) = row r := by
  unfold row
  have h1 : (r.extract 0 k).data.toList = r.data.toList.take k := by simp [ByteArray.data_extract]
  have h2 : (r.extract k r.size).data.toList = r.data.toList.drop k := by
    simp [ByteArray.data_extract]
    rw [List.take_of_length_le]
    simp
  rw [h1, h2, List.take_append_drop]
structure Ct (w wr : World) (s : ByteArray) (i : Nat) (lv : Value) (r : ByteArray) (ps : List ByteArray) : Prop where
  below : Below w.heap.size w wr
  own : wr.ownsRow w.heap.size 9 1 lv ps.length (sv ps)
  eq : ps.flatMap row ++ row r = row s
  len : ps.length ≤ i
  size : r.size ≤ s.size
theorem Ct.more {w wr w7 : World} {o : Obj} {s r : ByteArray} {i k gg cap : Nat} {lv : Value} {ps : List ByteArray} (h : Ct w wr s i lv r ps) (hk : k ≤ r.size)
    (hown : w7.ownsRow w.heap.size 9 1 (.slice (some ⟨gg, 0, none⟩) (ps.length + 1) cap) (ps.length + 1) (sv ps ++ [.string (r.extract 0 k)])) (hg : (wr.alloc o).grownBy w7 lv.ownBlock) : Ct w w7 s (i + 1) (.slice (some ⟨gg, 0, none⟩) (ps.length + 1) cap) (r.extract k r.size) (ps ++ [r.extract 0 k]) := by
  have e : (ps ++ [r.extract 0 k]).length = ps.length + 1 := by simp
  refine ⟨h.below.trans ⟨hg.os, hg.tape, hg.output, Nat.le_trans (by simp) hg.size, fun j hj => ?_⟩, by rw [e, sv_snoc]; exact hown, ?_, by rw [e]; have := h.len; omega, Nat.le_trans (extract_size_le _ _ _) h.size⟩
  · have hj2 := Nat.lt_of_lt_of_le hj h.below.size
    rw [hg.block j (by simp; omega) (fun e => by have := (h.own.lt j e.symm).1; omega), Below.heap_alloc _ _ _ hj2]
  · rw [List.flatMap_append, List.append_assoc]
    simp only [List.flatMap_cons, List.flatMap_nil, List.append_nil]
    rw [row_split r k hk]
    exact h.eq
end Ee
end Go.Proofs.YtppjlpihaocdiaaGreatDoor

/- A part of the proof. -/
set_option linter.unusedSimpArgs false
set_option linter.unusedVariables false
namespace Go.Proofs.YtppjlpihaocdiaaGreatDoor
namespace Ee
open Go.RowKit
open Rs (Cm Wh Pc own_of CmdsIn readR)
def noNl (l : List UInt8) : List UInt8 := l.filter fun b => b != 10
def lineF (n : Nat) (l : List UInt8) : List UInt8 := (noNl l).take n
theorem noNl_take_le (l : List UInt8) (i : Nat) : ∃ m, noNl l = noNl (l.take i) ++ m := ⟨noNl (l.drop i), by
  unfold noNl
  rw [← List.filter_append, List.take_append_drop]⟩
theorem lineF_full {l : List UInt8} {n i : Nat} (h : (noNl (l.take i)).length = n) : lineF n l = noNl (l.take i) := by
  obtain ⟨m, hm⟩ := noNl_take_le l i
  unfold lineF
  rw [hm, ← h, List.take_left]
theorem lineF_all {l : List UInt8} {n : Nat} (h : (noNl l).length ≤ n) : lineF n l = noNl l := List.take_of_length_le h
theorem noNl_step (s : ByteArray) (i : Nat) (h : i < s.size) : noNl ((row s).take (i + 1)) = noNl ((row s).take i) ++ (if s[i] = 10 then [] else [s[i]]) := by
  have e : (row s).take (i + 1) = (row s).take i ++ [s[i]] := by
    rw [List.take_add_one]
    have : (row s)[i]? = some s[i] := by
      unfold row
      rw [List.getElem?_eq_getElem (by simpa using h)]
      rfl
    rw [this, Option.toList_some]
  rw [e]
  unfold noNl
  rw [List.filter_append]
  congr 1
  by_cases hb : s[i] = 10
  · simp [hb]
  · simp [hb]
theorem lineF_mem {n : Nat} {l : List UInt8} {b : UInt8} (h : b ∈ lineF n l) : b ≠ 10 := by
  have := List.mem_of_mem_take h
  unfold noNl at this
  rw [List.mem_filter] at this
  simpa using this.2
theorem lineF_len (n : Nat) (l : List UInt8) : (lineF n l).length ≤ n := by unfold lineF; rw [List.length_take]; omega
structure Ln (w wr : World) (s : ByteArray) (n i : Nat) (lv : Value) (zs : List UInt8) : Prop where
  below : Below w.heap.size w wr
  own : wr.ownsRow w.heap.size 5 1 lv zs.length (bv zs)
  eq : zs = noNl ((row s).take i)
theorem Ln.more {w wr w7 : World} {o : Obj} {s : ByteArray} {n i gg cap : Nat} {lv : Value} {zs : List UInt8} (h : Ln w wr s n i lv zs) (hi : i < s.size) (hb : s[i] ≠ 10)
    (hown : w7.ownsRow w.heap.size 5 1 (.slice (some ⟨gg, 0, none⟩) (zs.length + 1) cap) (zs.length + 1) (bv zs ++ [.int .u8 (s[i].toNat : Int)])) (hg : (wr.alloc o).grownBy w7 lv.ownBlock) : Ln w w7 s n (i + 1) (.slice (some ⟨gg, 0, none⟩) (zs.length + 1) cap) (zs ++ [s[i]]) := by
  have e : (zs ++ [s[i]]).length = zs.length + 1 := by simp
  refine ⟨h.below.trans ⟨hg.os, hg.tape, hg.output, Nat.le_trans (by simp) hg.size, fun j hj => ?_⟩, by rw [e, bv_snoc]; exact hown, ?_⟩
  · have hj2 := Nat.lt_of_lt_of_le hj h.below.size
    rw [hg.block j (by simp; omega) (fun e => by have := (h.own.lt j e.symm).1; omega), Below.heap_alloc _ _ _ hj2]
  · rw [noNl_step s i hi, if_neg hb, h.eq]
theorem Ln.skip {w wr : World} {s : ByteArray} {n i : Nat} {lv : Value} {zs : List UInt8} (h : Ln w wr s n i lv zs) (hi : i < s.size) (hb : s[i] = 10) : Ln w wr s n (i + 1) lv zs :=
  ⟨h.below, h.own, by rw [noNl_step s i hi, if_pos hb, List.append_nil]; exact h.eq⟩
set_option maxRecDepth 100000 in
set_option maxHeartbeats 4000000 in
theorem line_any (s : ByteArray) (n : Nat) (w : World) (hs : s.size ≤ maxLen) (hn : n ≤ 80) :
    Calls Tryz.prog 36 #[.string s, .int .i64 n] w fun e w' => e = .returned (.string (txt (lineF n (row s)))) ∧ Below w.heap.size w w' := by
  unfold maxLen at hs
  obtain ⟨i0, hi0, hz0, hz1, hz2⟩ := info_parts Rs.Tryz.info5
  have HC0 : Hid (Ln w w s n 0 (.slice none 0 0) []) := ⟨Below.refl _ _, World.ownsRow_nil w _ _ 1, by simp [noNl]⟩
  go_enter Tryz.func36, Tryz.ntmps36
  go_wp2_with fail
  go_loopw [5, 6] (fun x5 x6 wr => ∃ (i : Nat) (zs : List UInt8), i ≤ s.size ∧ zs.length ≤ n ∧ x6 = .int .i64 i ∧ Hid (Ln w wr s n i x5 zs)) (fun _ x6 _ => s.size + 1 - (intOf x6).toNat)
  case atStart => exact ⟨0, [], by omega, by simp, rfl, HC0.out⟩
  case round =>
    obtain ⟨i, zs, hi, hzn, rfl, HL⟩ := hrel
    have hform : ∃ ao cap, u5 = .slice ao zs.length cap := by
      rcases own_form2 HL.out.own with ⟨e, e0⟩ | ⟨g, cap, e, hcap⟩
      · exact ⟨none, 0, by rw [e, e0]⟩
      · exact ⟨_, _, e⟩
    obtain ⟨ao, cap0, rfl⟩ := hform
    have hconv := bytes_txt w.heap.size _ zs wr HL.out.own
    by_cases hlt : i < s.size
    · by_cases hlt2 : zs.length < n
      · have hbb : (s[i]'hlt).toNat < 256 := UInt8.toNat_lt _
        by_cases hb : s[i]'hlt = 10
        · have HF : Hid (Ln w wr s n (i + 1) (.slice ao zs.length cap0) zs) := HL.out.skip hlt hb
          have hq : (((s[i]'hlt).toNat : Int) != 10) = false := by rw [hb]; rfl
          clear hconv
          go_wp2_with fail
          go_roundw
          case rel => exact ⟨i + 1, zs, by omega, by omega, by go_num, HF.out⟩
          case measure => simp [intOf]; omega
        · have hq : (((s[i]'hlt).toNat : Int) != 10) = true := by
            simp only [bne_iff_ne, ne_eq]
            intro h
            exact hb (UInt8.toNat_inj.1 (by show (s[i]'hlt).toNat = 10; omega))
          have HB : Hid (s[i]'hlt ≠ 10) := hb
          clear hconv hb
          go_wp2_with (at_builtin; (refine wpList_append_lies _ rfl _ _ 99 rfl w.heap.size 5 i0 (.int .u8 0) 1 1 Tryz.underlying99 hi0 hz0 hz1 hz2 rfl (by omega) (.slice ao zs.length cap0) zs.length (bv zs) rfl (HL.out.own.alloc _) ⟨wr.heap.size, 0, none⟩ 1 1 [.int .u8 ((s[i]'hlt).toNat : Int)] rfl rfl (cell_one_new wr _ _) (fun x hx => by simp at hx; subst hx; rfl) (by omega) (by unfold maxLen; omega) (by omega) (by have := HL.out.below.size; simp; omega) (wr.heap.size + 1) (by simp) ?_; intro gg cp w7 hown7 hgrow7 hat7 hlt7; clear hlt7 hat7; have HF : Hid (Ln w w7 s n (i + 1) (.slice (some ⟨gg, 0, none⟩) (zs.length + 1) cp) (zs ++ [s[i]'hlt])) := HL.out.more hlt HB.out hown7 hgrow7; clear hown7 hgrow7))
          go_roundw
          case rel => exact ⟨i + 1, _, by omega, by simp; omega, by go_num, HF.out⟩
          case measure => simp [intOf]; omega
      · have hd : decide ((zs.length : Int) < (n : Int)) = false := by simp; omega
        have HE : Hid (txt (lineF n (row s)) = txt zs) := by
          show _ = _
          have e := HL.out.eq
          rw [lineF_full (i := i) (by rw [← e]; omega), ← e]
        go_wp2_with fail
        go_ret
        exact ⟨by rw [HE.out]; rfl, HL.out.below⟩
    · have hd : decide ((i : Int) < (s.size : Int)) = false := by simp; omega
      have HE : Hid (txt (lineF n (row s)) = txt zs) := by
        show _ = _
        have e := HL.out.eq
        have hi2 : (row s).take i = row s := List.take_of_length_le (by rw [row_length]; omega)
        rw [hi2] at e
        rw [lineF_all (by rw [← e]; omega), ← e]
      go_wp2_with fail
      go_ret
      exact ⟨by rw [HE.out]; rfl, HL.out.below⟩
end Ee
end Go.Proofs.YtppjlpihaocdiaaGreatDoor

/- A part of the proof. -/
set_option linter.unusedSimpArgs false
set_option linter.unusedVariables false
namespace Go.Proofs.YtppjlpihaocdiaaGreatDoor
namespace Ee
open Go.RowKit
open Rs (Cm Wh Pc own_of CmdsIn readR)
def fin (mf : Mf) (cf : Cf) (l : List UInt8) : Ed := ((ed0 cf).feed mf cf l).endIt mf cf
theorem fin_rest {mf : Mf} {cf : Cf} (hc : Cok cf) (l : List UInt8) (hl : l.length ≤ 2000000) : Rest cf l.length (fin mf cf l) := by
  have h := feed_rest (mf := mf) hc l 0 (ed0 cf) (by omega) (ed0_rest hc)
  rw [Nat.zero_add] at h
  exact end_rest hc hl h
theorem fin_taken (mf : Mf) (cf : Cf) (l : List UInt8) : (fin mf cf l).taken = 0 := by
  obtain ⟨d, _, h2, _⟩ := pu_feed mf cf l (ed0 cf) [] 0
  obtain ⟨d', _, k2, _⟩ := pu_end mf cf ((ed0 cf).feed mf cf l) [] 0
  exact k2.trans h2
theorem take_all {E : Ed} (ht : E.taken = 0) (hl : E.out.length ≤ 1099511000000) : (E.take 1099511627776).2 = txt E.out ∧ (E.take 1099511627776).1.state = E.state ∧ (E.take 1099511627776).1.ready = 0 := by
  have hk : E.takeN 1099511627776 = E.out.length := by unfold Ed.takeN Ed.ready; rw [ht]; omega
  rw [take_eq, hk, ht]
  have e : (E.out.drop 0).take E.out.length = E.out := by simp
  rw [e, if_pos (by omega)]
  exact ⟨rfl, rfl, by simp [Ed.ready]⟩
def EQ (mf : Mf) (s inp : ByteArray) (a b c : Int) (q : Bool) (w : World) : Ending → World → Prop := fun e w' => Below w.heap.size w w' ∧
  ((opens s a b c = false ∧ e = .returned (.tuple #[.string ⟨#[]⟩, .int .i64 0, .bool false])) ∨
   (opens s a b c = true ∧ e = .returned (.tuple #[.string (txt (fin mf (cfO s a b c q) (row inp)).out), .int .i64 ((fin mf (cfO s a b c q) (row inp)).state : Int), .bool true])))
theorem opens_ok {s : ByteArray} {a b c : Int} {q : Bool} (h : opens s a b c = true) : Cok (cfO s a b c q) := by
  unfold opens at h
  simp only [Bool.and_eq_true, decide_eq_true_eq] at h
  exact cfO_ok h.1 h.2
set_option maxRecDepth 100000 in
set_option maxHeartbeats 4000000 in
theorem edited_any (mf : Mf) (hm : MfOk mf) (s inp : ByteArray) (a b c : Int) (q : Bool) (w : World) (hs : s.size ≤ maxLen) (hi : inp.size ≤ 1048576) (ht : Tab w) :
    Calls Tryz.prog 26 #[.string s, .agg #[.int .i64 a, .int .i64 b, .int .i64 c, .bool q], .string inp] w (EQ mf s inp a b c q w) := by
  have HM : Hid (MfOk mf) := hm
  have HT : Hid (Tab w) := ht
  have hRL : (row inp).length = inp.size := row_length inp
  have HOP : Hid (∀ W, Tab W → Calls Tryz.prog 27 #[.string s, .agg #[.int .i64 a, .int .i64 b, .int .i64 c, .bool q]] W fun e w' => Below W.heap.size W w' ∧
      ((opens s a b c = false ∧ errOf s a b c ≠ 0 ∧ e = .returned (.tuple #[.pointer none, .int .i64 (errOf s a b c : Int)])) ∨
       (opens s a b c = true ∧ ∃ bl, e = .returned (.tuple #[.pointer (some ⟨bl, 0, none⟩), .int .i64 0]) ∧ Liv W.heap.size w' bl (cfO s a b c q) (ed0 (cfO s a b c q))))) := fun W hW => open_lv s a b c q W hs hW
  have HRL : Hid ((row inp).length = inp.size) := hRL
  clear hm ht hs hRL
  go_enter Tryz.func26, Tryz.ntmps26
  go_wp2_with fail
  refine (HOP.out _ (HT.out.below (below_alloc w _))).mono ?_
  rintro e w1 ⟨hB, h⟩
  have hsz : (w.alloc (.cells #[.int .i64 a, .int .i64 b, .int .i64 c, .bool q] 23)).heap.size = w.heap.size + 1 := by simp
  rw [hsz] at hB h
  have HB1 : Hid (Below w.heap.size w w1) := (below_alloc w _).trans (hB.mono (by omega))
  clear hB hsz
  rcases h with ⟨ho, hne, rfl⟩ | ⟨ho, bl, rfl, hlv⟩
  · have HO : Hid (opens s a b c = false) := ho
    have q0 : ((errOf s a b c : Int) == 0) = false := by simp; omega
    have q1 : ((errOf s a b c : Int) != 0) = true := by simp; omega
    clear ho hne
    generalize errOf s a b c = ec at *
    go_wp2_with fail
    refine bodyPost_ret (v := .tuple #[.string ⟨#[]⟩, .int .i64 0, .bool false]) (by simp [results, Tryz.results26, go_sem]) rfl ⟨HB1.out, .inl ⟨HO.out, rfl⟩⟩
  · have HO : Hid (opens s a b c = true) := ho
    have HC : Hid (Cok (cfO s a b c q)) := opens_ok ho
    have HR0 : Hid (Rest (cfO s a b c q) 0 (ed0 (cfO s a b c q))) := ed0_rest HC.out
    have HR1 : Hid (Rest (cfO s a b c q) inp.size ((ed0 (cfO s a b c q)).feed mf (cfO s a b c q) (row inp))) := by
      have := feed_rest (mf := mf) HC.out (row inp) 0 (ed0 (cfO s a b c q)) (by rw [HRL.out]; omega) HR0.out
      rw [HRL.out, Nat.zero_add] at this
      exact this
    have HR2 : Hid (Rest (cfO s a b c q) inp.size (fin mf (cfO s a b c q) (row inp))) := by
      have := fin_rest (mf := mf) HC.out (row inp) (by rw [HRL.out]; omega)
      rw [HRL.out] at this
      exact this
    have hTA := take_all (fin_taken mf (cfO s a b c q) (row inp)) (iv_out HR2.out.1 (by omega))
    have HTA : Hid _ := hTA
    have HFE : Hid (((ed0 (cfO s a b c q)).feed mf (cfO s a b c q) (row inp)).endIt mf (cfO s a b c q) = fin mf (cfO s a b c q) (row inp)) := rfl
    have HLV : Hid (Liv (w.heap.size + 1) w1 bl (cfO s a b c q) (ed0 (cfO s a b c q))) := hlv
    generalize hcf : cfO s a b c q = cf at *
    have HCF : Hid (cfO s a b c q = cf) := hcf
    clear hcf
    clear ho hlv hTA
    have hL := feed_lv mf HM.out (w.heap.size + 1) bl cf 0 (ed0 cf) inp w1 HLV.out HC.out (by omega) HR0.out
    go_wp2_with fail
    refine hL.mono ?_
    rintro e w2 ⟨rfl, hl, hb⟩
    have HLV2 : Hid (Liv (w.heap.size + 1) w2 bl cf ((ed0 cf).feed mf cf (row inp))) := hl
    have HB2 : Hid (Below w.heap.size w w2) := HB1.out.trans (hb.mono (by omega))
    clear hL hl hb
    have hL := end_lv mf HM.out (w.heap.size + 1) bl cf inp.size _ w2 HLV2.out HC.out (by omega) HR1.out
    rw [HFE.out] at hL
    go_wp2_with fail
    refine hL.mono ?_
    rintro e w3 ⟨rfl, hl, hb⟩
    have HLV3 : Hid (Liv (w.heap.size + 1) w3 bl cf (fin mf cf (row inp))) := hl
    have HB3 : Hid (Below w.heap.size w w3) := HB2.out.trans (hb.mono (by omega))
    clear hL hl hb
    have hL := take_lv (w.heap.size + 1) bl cf inp.size _ 1099511627776 w3 HLV3.out (by omega) HR2.out
    rw [HTA.out.1] at hL
    have hst : ((fin mf cf (row inp)).take 1099511627776).1.state = (fin mf cf (row inp)).state := HTA.out.2.1
    generalize hTX : txt (fin mf cf (row inp)).out = TX at hL
    have HTX : Hid (txt (fin mf cf (row inp)).out = TX) := hTX
    clear hTX
    go_wp2_with fail
    refine hL.mono ?_
    rintro e w4 ⟨rfl, hl, hb⟩
    have HLV4 : Hid (Liv (w.heap.size + 1) w4 bl cf ((fin mf cf (row inp)).take 1099511627776).1) := hl
    have HB4 : Hid (Below w.heap.size w w4) := HB3.out.trans (hb.mono (by omega))
    clear hL hl hb
    have hL := state_lv (w.heap.size + 1) bl cf _ w4 HLV4.out
    rw [hst] at hL
    go_wp2_with fail
    refine hL.mono ?_
    rintro e w5 ⟨rfl, hl, hb⟩
    have HB5 : Hid (Below w.heap.size w w5) := HB4.out.trans (hb.mono (by omega))
    clear hL hl hb hst
    go_wp2_with fail
    refine bodyPost_ret (v := .tuple #[.string TX, .int .i64 ((fin mf cf (row inp)).state : Int), .bool true]) (by simp [results, Tryz.results26, go_sem]) rfl ⟨HB5.out, .inr ⟨HO.out, ?_⟩⟩
    rw [HCF.out, HTX.out]
end Ee
end Go.Proofs.YtppjlpihaocdiaaGreatDoor

/- A part of the proof. -/
set_option linter.unusedSimpArgs false
set_option linter.unusedVariables false
namespace Go.Proofs.YtppjlpihaocdiaaGreatDoor
namespace Ee
open Go.RowKit
open Rs (Cm Wh Pc own_of CmdsIn readR)
def Lg (lo : Nat) (pv : Value) (w : World) (b : Nat) (cf : Cf) (E : Ed) : Prop := lo ≤ w.heap.size ∧ ∃ v, At w b cf E v ∧ (∀ k, Mine b v k → lo ≤ k) ∧ ∀ k, pv.ownBlock = some k → k < w.heap.size ∧ ¬ Mine b v k
theorem mine_lt {w : World} {b : Nat} {cf : Cf} {E : Ed} {v : Ev} (h : At w b cf E v) (k : Nat) (hk : Mine b v k) : k < w.heap.size := by
  rcases hk with e | e | e | e | e
  · rw [e]; exact h.lt
  · exact (h.nx.lt k e).2
  · exact (h.ot.lt k e).2
  · exact (h.cg.lt k e).2
  · exact (h.op.lt k e).2
theorem Liv.beside {lo : Nat} {w w' : World} {b : Nat} {cf : Cf} {E : Ed} {pv : Value} (h : Liv lo w b cf E) (hb : Below w.heap.size w w') (hp : ∀ k, pv.ownBlock = some k → w.heap.size ≤ k ∧ k < w'.heap.size) : Lg lo pv w' b cf E := by
  obtain ⟨h1, v, h2, h3⟩ := h
  exact ⟨Nat.le_trans h1 hb.size, v, h2.below hb, h3, fun k hk => ⟨(hp k hk).2, fun hm => by have := mine_lt h2 k hm; have := (hp k hk).1; omega⟩⟩
end Ee
end Go.Proofs.YtppjlpihaocdiaaGreatDoor

/- A part of the proof. -/
set_option linter.unusedSimpArgs false
set_option linter.unusedVariables false
namespace Go.Proofs.YtppjlpihaocdiaaGreatDoor
namespace Ee
open Go.RowKit
open Rs (Cm Wh Pc own_of CmdsIn readR)
structure Strs (w : World) (ao : Option Addr) (n : Nat) : Prop where
  cell : 0 < n → ∃ b o, ao = some ⟨b, o, none⟩ ∧ b < w.heap.size ∧ ∀ i, i < n → ∃ x : ByteArray, x.size ≤ maxLen ∧ w.cell? ⟨b, o + i, none⟩ = some (.string x)
  le : n ≤ maxLen
def joinN (ls : List (List UInt8)) : List UInt8 := ls.flatMap fun l => l ++ [10]
def Lins (m : Nat) (ls : List (List UInt8)) : Prop := ∀ l ∈ ls, l.length ≤ m ∧ ∀ b ∈ l, b ≠ 10
structure Li (w wr : World) (m i : Nat) (lv : Value) (ls : List (List UInt8)) : Prop where
  below : Below w.heap.size w wr
  own : wr.ownsRow w.heap.size 9 1 lv ls.length (sv (ls.map txt))
  len : ls.length = i
  lins : Lins m ls
theorem Li.step {w wr w2 w7 : World} {o : Obj} {m i gg cap : Nat} {lv : Value} {ls : List (List UInt8)} {s : ByteArray} (h : Li w wr m i lv ls) (hb2 : Below wr.heap.size wr w2)
    (hown : w7.ownsRow w.heap.size 9 1 (.slice (some ⟨gg, 0, none⟩) (ls.length + 1) cap) (ls.length + 1) (sv (ls.map txt) ++ [.string (txt (lineF m (row s)))])) (hg : (w2.alloc o).grownBy w7 lv.ownBlock) : Li w w7 m (i + 1) (.slice (some ⟨gg, 0, none⟩) (ls.length + 1) cap) (ls ++ [lineF m (row s)]) := by
  have e : (ls ++ [lineF m (row s)]).length = ls.length + 1 := by simp
  have hb3 : Below w.heap.size w w2 := h.below.trans (hb2.mono h.below.size)
  refine ⟨hb3.trans ⟨hg.os, hg.tape, hg.output, Nat.le_trans (by simp) hg.size, fun j hj => ?_⟩, by rw [e, List.map_append, List.map_cons, List.map_nil, sv_snoc]; exact hown, by rw [e, h.len], fun l hl => ?_⟩
  · have hj2 := Nat.lt_of_lt_of_le hj hb3.size
    rw [hg.block j (by simp; omega) (fun e => by have := (h.own.lt j e.symm).1; omega), Below.heap_alloc _ _ _ hj2]
  · rcases List.mem_append.1 hl with hl | hl
    · exact h.lins l hl
    · have : l = lineF m (row s) := by simpa using hl
      subst this
      exact ⟨lineF_len _ _, fun b hb => lineF_mem hb⟩
end Ee
end Go.Proofs.YtppjlpihaocdiaaGreatDoor

/- A part of the proof. -/
set_option linter.unusedSimpArgs false
set_option linter.unusedVariables false
namespace Go.Proofs.YtppjlpihaocdiaaGreatDoor
namespace Ee
open Go.RowKit
open Rs (Cm Wh Pc own_of CmdsIn readR)
set_option maxHeartbeats 1000000 in
theorem wide_any (q : Bool) (w : World) :
    Calls Tryz.prog 35 #[.bool q] w fun e w' => e = .returned (.agg #[.int .i64 80, .int .i64 80, .int .i64 1000, .bool q]) ∧ Below w.heap.size w w' := by
  go_enter Tryz.func35, Tryz.ntmps35
  go_wp2_with fail
  refine bodyPost_ret (v := .agg #[.int .i64 80, .int .i64 80, .int .i64 1000, .bool q]) (by simp [results, Tryz.results35, go_sem]) rfl ?_
  exact ⟨rfl, below_alloc w _⟩
def made (mf : Mf) (s : ByteArray) (q : Bool) (l : List UInt8) : Ed := fin mf (cfO s 80 80 1000 q) l
def Makes (mf : Mf) (s : ByteArray) (q : Bool) (l : List UInt8) (want : List UInt8) : Prop := opens s 80 80 1000 = true ∧ (made mf s q l).state = 1 ∧ (made mf s q l).out = want
set_option maxRecDepth 100000 in
set_option maxHeartbeats 4000000 in
theorem makes_true (mf : Mf) (hm : MfOk mf) (s inp want : ByteArray) (q : Bool) (w : World) (hs : s.size ≤ maxLen) (hi : inp.size ≤ 1048576) (ht : Tab w) (hk : Makes mf s q (row inp) (row want)) :
    Calls Tryz.prog 25 #[.string s, .bool q, .string inp, .string want] w fun e w' => e = .returned (.bool true) ∧ Below w.heap.size w w' := by
  have HED : Hid (∀ W, Tab W → Calls Tryz.prog 26 #[.string s, .agg #[.int .i64 80, .int .i64 80, .int .i64 1000, .bool q], .string inp] W fun e w' => e = .returned (.tuple #[.string want, .int .i64 1, .bool true]) ∧ Below W.heap.size W w') := fun W hW => by
    refine (edited_any mf hm s inp 80 80 1000 q W hs hi hW).mono ?_
    rintro e w' ⟨hb, h⟩
    rcases h with ⟨h1, _⟩ | ⟨h1, h2⟩
    · rw [hk.1] at h1
      cases h1
    · refine ⟨?_, hb⟩
      have e1 : txt (fin mf (cfO s 80 80 1000 q) (row inp)).out = want := by
        have := hk.2.2
        unfold made at this
        rw [this]
        rfl
      have e2 : (fin mf (cfO s 80 80 1000 q) (row inp)).state = 1 := hk.2.1
      rw [h2, e1, e2]
      rfl
  have HT : Hid (Tab w) := ht
  have hW := wide_any q w
  clear hk ht hs hi hm
  go_enter Tryz.func25, Tryz.ntmps25
  go_wp2_with fail
  refine hW.mono ?_
  rintro e w1 ⟨rfl, hb1⟩
  have HB1 : Hid (Below w.heap.size w w1) := hb1
  have hE := HED.out w1 (HT.out.below hb1)
  clear hW hb1
  go_wp2_with fail
  refine hE.mono ?_
  rintro e w2 ⟨rfl, hb2⟩
  have HB2 : Hid (Below w.heap.size w w2) := HB1.out.trans (hb2.mono HB1.out.size)
  clear hE hb2
  go_wp2_with fail
  go_ret
  exact ⟨rfl, HB2.out⟩
end Ee
end Go.Proofs.YtppjlpihaocdiaaGreatDoor

/- A part of the proof. -/
set_option linter.unusedSimpArgs false
set_option linter.unusedVariables false
namespace Go.Proofs.YtppjlpihaocdiaaGreatDoor
namespace Ee
open Rs (Cm Wh Pc)
section
variable {mf : Mf} {cf : Cf}
theorem feed_nil (E : Ed) : E.feed mf cf [] = E := rfl
theorem feed_cons (E : Ed) (b : UInt8) (l : List UInt8) : E.feed mf cf (b :: l) = (E.feed1 mf cf b).feed mf cf l := rfl
theorem feed_app (E : Ed) (l m : List UInt8) : E.feed mf cf (l ++ m) = (E.feed mf cf l).feed mf cf m := by simp [Ed.feed]
theorem w0_wait (f : Nat) (E : Ed) (h : E.atHand cf = false) : E.workF mf cf (f + 1) 0 = { E with stage := 0 } := by
  have h' : Ed.atHand cf { E with stage := 0 } = false := h
  simp [Ed.workF, Ed.begin, h']
theorem w0_end (f : Nat) (E : Ed) (h : E.atHand cf = true) (hm : E.more = false) : E.workF mf cf (f + 1) 0 = { E with stage := 0, state := 1 } := by
  have h' : Ed.atHand cf { E with stage := 0 } = true := h
  have hm' : Ed.more { E with stage := 0 } = false := hm
  simp [Ed.workF, Ed.begin, h', hm']
def rd (E : Ed) (l : List UInt8) : Ed := { E with next := [], whole := false, number := E.number + 1, pat := txt l, looked := 0, put := false, at' := 0, stage := 0 }
theorem w0_line (f : Nat) (E : Ed) (h : E.atHand cf = true) (hm : E.more = true) (hl : E.next.length ≤ cf.line) (hs : E.next.length ≤ cf.space) : E.workF mf cf (f + 1) 0 = (rd E E.next).workF mf cf f 1 := by
  have h' : Ed.atHand cf { E with stage := 0 } = true := h
  have hm' : Ed.more { E with stage := 0 } = true := hm
  have ht : Ed.tooLong cf { E with stage := 0 } = false := by simp [Ed.tooLong]; omega
  have hsp : ¬ cf.space < (txt E.next).size := by rw [txt_size]; omega
  simp [Ed.workF, Ed.begin, h', hm', Ed.readBy, ht, Ed.read, Ed.way, Ed.become, hsp, rd]
theorem w3 (f : Nat) (E : Ed) : E.workF mf cf (f + 1) 3 = (E.printSpace cf).workF mf cf f 4 := by simp [Ed.workF]
theorem w4 (f : Nat) (E : Ed) (h : E.printComing.state = 0) : E.workF mf cf (f + 1) 4 = E.printComing.workF mf cf f 0 := by simp [Ed.workF, h]
theorem feed_bytes : ∀ (l : List UInt8) (E : Ed), E.stage = 0 → E.state = 0 → E.ended = false → E.whole = false → (∀ b ∈ l, b ≠ 10) → E.next.length + l.length ≤ cf.line → E.feed mf cf l = { E with next := E.next ++ l }
  | [], E, _, _, _, _, _, _ => by rw [feed_nil, List.append_nil]
  | b :: l, E, h1, h2, h3, h4, hb, hl => by
    have hb0 := hb b (by simp)
    have e : E.feed1 mf cf b = { E with next := E.next ++ [b] } := by
      have ht : E.takes = true := by simp [Ed.takes, h2, h3]
      have ea : E.add b = { E with next := E.next ++ [b] } := by simp [Ed.add, hb0]
      have hh : Ed.atHand cf { E with next := E.next ++ [b] } = false := by
        simp only [List.length_cons] at hl
        simp [Ed.atHand, Ed.tooLong, h3, h4]
        omega
      unfold Ed.feed1
      rw [if_pos ht, ea]
      unfold Ed.work
      rw [if_pos h1]
      rw [show (10000 : Nat) = 9999 + 1 from rfl, w0_wait _ _ hh]
      cases E
      simp_all
    rw [feed_cons, e, feed_bytes l { E with next := E.next ++ [b] } h1 h2 h3 h4 (fun c hc => hb c (by simp [hc])) (by simp at hl ⊢; omega)]
    simp
structure Rz (E : Ed) : Prop where
  next : E.next = []
  whole : E.whole = false
  ended : E.ended = false
  stage : E.stage = 0
  state : E.state = 0
structure Lk (cf : Cf) (l : List UInt8) : Prop where
  nl : ∀ b ∈ l, b ≠ 10
  line : l.length ≤ cf.line
  space : l.length ≤ cf.space
theorem line_fed (E : Ed) (h : Rz E) (l : List UInt8) (hl : Lk cf l) : E.feed mf cf (l ++ [10]) = (rd E l).workF mf cf 9999 1 := by
  have e0 := feed_bytes (mf := mf) (cf := cf) l E h.stage h.state h.ended h.whole hl.nl (by rw [h.next]; simpa using hl.line)
  rw [feed_app, e0, h.next, List.nil_append]
  have ht : Ed.takes { E with next := l } = true := by simp [Ed.takes, h.state, h.ended]
  have ea : Ed.add { E with next := l } 10 = { E with next := l, whole := true } := by simp [Ed.add]
  rw [feed_cons, feed_nil]
  unfold Ed.feed1
  rw [if_pos ht, ea]
  unfold Ed.work
  rw [if_pos h.stage, show (10000 : Nat) = 9999 + 1 from rfl, w0_line _ _ (by simp [Ed.atHand]) (by simp [Ed.more]) hl.line hl.space]
  rfl
theorem end_none (E : Ed) (h : Rz E) : E.endIt mf cf = { E with ended := true, state := 1 } := by
  have ht : E.takes = true := by simp [Ed.takes, h.state, h.ended]
  unfold Ed.endIt
  rw [if_pos ht]
  unfold Ed.work
  rw [if_pos h.stage, show (10000 : Nat) = 9999 + 1 from rfl, w0_end _ _ (by simp [Ed.atHand]) (by simp [Ed.more, h.next, h.whole])]
  have := h.stage
  cases E
  simp_all
theorem end_tail (E : Ed) (h : Rz E) (l : List UInt8) (hl : Lk cf l) (h0 : l ≠ []) : (E.feed mf cf l).endIt mf cf = (rd { E with ended := true } l).workF mf cf 9999 1 := by
  have e0 := feed_bytes (mf := mf) (cf := cf) l E h.stage h.state h.ended h.whole hl.nl (by rw [h.next]; simpa using hl.line)
  rw [e0, h.next, List.nil_append]
  have ht : Ed.takes { E with next := l } = true := by simp [Ed.takes, h.state, h.ended]
  unfold Ed.endIt
  rw [if_pos ht]
  unfold Ed.work
  rw [if_pos h.stage, show (10000 : Nat) = 9999 + 1 from rfl, w0_line _ _ (by simp [Ed.atHand]) (by simp [Ed.more, h0]) hl.line hl.space]
  rfl
structure Prompt (mf : Mf) (cf : Cf) (G : Ed → Ed) (J : Ed → Prop) (ok : List UInt8 → Prop) : Prop where
  run : ∀ (E : Ed) (l : List UInt8), J E → ok l → E.next = [] → E.whole = false → E.state = 0 → ∃ k, k ≤ 5000 ∧ ∀ f, (rd E l).workF mf cf (f + k) 1 = (G (rd E l)).workF mf cf f 0
  next : ∀ (E : Ed) (l : List UInt8), J E → ok l → (G (rd E l)).next = [] ∧ (G (rd E l)).whole = false ∧ (G (rd E l)).ended = E.ended ∧ (E.state = 0 → (G (rd E l)).state = 0)
  keep : ∀ (E : Ed) (l : List UInt8), J E → ok l → J { G (rd E l) with stage := 0 }
  free : ∀ (E : Ed) (b : Bool), J E → J { E with ended := b }
  lk : ∀ l, ok l → Lk cf l
def cyc (G : Ed → Ed) (E : Ed) (l : List UInt8) : Ed := { G (rd E l) with stage := 0 }
theorem Prompt.line {G : Ed → Ed} {J : Ed → Prop} {ok : List UInt8 → Prop} (P : Prompt mf cf G J ok) (E : Ed) (h : Rz E) (hJ : J E) (l : List UInt8) (hl : ok l) : E.feed mf cf (l ++ [10]) = cyc G E l ∧ Rz (cyc G E l) ∧ J (cyc G E l) := by
  obtain ⟨k, hk, hr⟩ := P.run E l hJ hl h.next h.whole h.state
  obtain ⟨n1, n2, n3, n4⟩ := P.next E l hJ hl
  refine ⟨?_, ⟨n1, n2, n3.trans h.ended, rfl, n4 h.state⟩, P.keep E l hJ hl⟩
  rw [line_fed E h l (P.lk l hl)]
  have e : 9999 = (9999 - k - 1 + 1) + k := by omega
  rw [e, hr, w0_wait _ _ (by simp [Ed.atHand, Ed.tooLong, n1, n2, n3, h.ended])]
  rfl
theorem Prompt.lines {G : Ed → Ed} {J : Ed → Prop} {ok : List UInt8 → Prop} (P : Prompt mf cf G J ok) : ∀ (ls : List (List UInt8)) (E : Ed), Rz E → J E → (∀ l ∈ ls, ok l) → E.feed mf cf (joinN ls) = ls.foldl (cyc G) E ∧ Rz (ls.foldl (cyc G) E) ∧ J (ls.foldl (cyc G) E)
  | [], E, h, hJ, _ => ⟨rfl, h, hJ⟩
  | l :: ls, E, h, hJ, hl => by
    obtain ⟨e1, e2, e3⟩ := P.line E h hJ l (hl l (by simp))
    obtain ⟨d1, d2, d3⟩ := P.lines ls (cyc G E l) e2 e3 fun m hm => hl m (by simp [hm])
    have e : joinN (l :: ls) = (l ++ [10]) ++ joinN ls := by simp [joinN]
    refine ⟨?_, d2, d3⟩
    rw [e, feed_app, e1, d1]
    rfl
theorem Prompt.tail {G : Ed → Ed} {J : Ed → Prop} {ok : List UInt8 → Prop} (P : Prompt mf cf G J ok) (E : Ed) (h : Rz E) (hJ : J E) (l : List UInt8) (hl : ok l) (h0 : l ≠ []) : (E.feed mf cf l).endIt mf cf = { cyc G { E with ended := true } l with state := 1 } := by
  have hJ' := P.free E true hJ
  obtain ⟨k, hk, hr⟩ := P.run { E with ended := true } l hJ' hl h.next h.whole h.state
  obtain ⟨n1, n2, n3, n4⟩ := P.next { E with ended := true } l hJ' hl
  rw [end_tail E h l (P.lk l hl) h0]
  have e : 9999 = (9999 - k - 1 + 1) + k := by omega
  rw [e, hr, w0_end _ _ (by simp [Ed.atHand, n3]) (by simp [Ed.more, n1, n2])]
  rfl
theorem ed0_rz (cf : Cf) : Rz (ed0 cf) := ⟨rfl, rfl, rfl, rfl, rfl⟩
theorem Prompt.all {G : Ed → Ed} {J : Ed → Prop} {ok : List UInt8 → Prop} (P : Prompt mf cf G J ok) (h0 : J (ed0 cf)) (ls : List (List UInt8)) (hl : ∀ l ∈ ls, ok l) : fin mf cf (joinN ls) = { ls.foldl (cyc G) (ed0 cf) with ended := true, state := 1 } := by
  obtain ⟨d1, d2, d3⟩ := P.lines ls (ed0 cf) (ed0_rz cf) h0 hl
  unfold fin
  rw [d1, end_none _ d2]
end
end Ee
end Go.Proofs.YtppjlpihaocdiaaGreatDoor

/- A part of the proof. -/
set_option linter.unusedSimpArgs false
set_option linter.unusedVariables false
namespace Go.Proofs.YtppjlpihaocdiaaGreatDoor
namespace Ee
open Rs (Cm Wh Pc readR)
section
variable {mf : Mf}
end
end Ee
end Go.Proofs.YtppjlpihaocdiaaGreatDoor

