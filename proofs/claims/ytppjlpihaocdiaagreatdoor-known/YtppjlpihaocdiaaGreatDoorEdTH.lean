/- Several texts in one. -/
import Derived.Test.YtppjlpihaocdiaaGreatDoorEdPH
import Derived.Lib.ConvBytes
import Derived.Test.YtppjlpihaocdiaaGreatDoorBitsH
/- A part of the proof. -/
set_option linter.unusedSimpArgs false
set_option linter.unusedVariables false
namespace Go.Proofs.YtppjlpihaocdiaaGreatDoor
namespace Ee
open Go.RowKit
open Rs (Cm Wh Pc CmAt Pts cmL Keep own_of eol)
set_option maxHeartbeats 1000000 in
theorem firstLine_any (b : Nat) (cf : Cf) (E : Ed) (v : Ev) (w : World) (h : At w b cf E v) (hs : E.pat.size ≤ 1000000) :
    Calls Tryz.prog 204 #[.pointer (some ⟨b, 5, none⟩)] w (Says w (.string (firstLine E.pat))) := by
  have m5 := h.cell (k := 5) rfl
  clear h
  have HL : Hid (firstLine E.pat = E.pat.extract 0 (eol E.pat 0)) := rfl
  have hC := Rs.sCut_any E.pat w hs
  generalize E.pat.extract 0 (eol E.pat 0) = X at hC HL
  generalize E.pat.extract (eol E.pat 0 + 1) E.pat.size = Y at hC
  generalize decide (eol E.pat 0 < E.pat.size) = Z at hC
  rw [HL.out]
  go_enter Tryz.func204, Tryz.ntmps204
  go_wp2_with fail
  refine hC.mono ?_
  rintro e w1 ⟨rfl, n, rfl⟩
  go_wp2_with fail
  go_ret
  exact ⟨rfl, n, rfl⟩
set_option maxHeartbeats 1000000 in
theorem dropLine_any (b : Nat) (cf : Cf) (E : Ed) (v : Ev) (w : World) (h : At w b cf E v) (hs : E.pat.size ≤ 1000000) :
    Calls Tryz.prog 202 #[.pointer (some ⟨b, 5, none⟩)] w fun e w' => (dropLine E.pat = none ∧ e = .returned (.bool false) ∧ Ok w b cf v E w') ∨ ∃ t, dropLine E.pat = some t ∧ e = .returned (.bool true) ∧ Ok w b cf v { E with pat := t } w' := by
  have HA : Hid (At w b cf E v) := h
  have m5 := h.cell (k := 5) rfl
  have f5 := h.frz 5 (by omega)
  clear h
  have HL : Hid (dropLine E.pat = if eol E.pat 0 < E.pat.size then some (E.pat.extract (eol E.pat 0 + 1) E.pat.size) else none) := rfl
  have hC := Rs.sCut_any E.pat w hs
  generalize E.pat.extract 0 (eol E.pat 0) = X at hC
  generalize hY : E.pat.extract (eol E.pat 0 + 1) E.pat.size = Y at hC HL
  by_cases hz : eol E.pat 0 < E.pat.size
  · have hd : decide (eol E.pat 0 < E.pat.size) = true := by simpa using hz
    rw [hd] at hC
    have HL2 : Hid (dropLine E.pat = some Y) := by rw [Hid, HL.out, if_pos hz]
    clear hz hd hY HL
    go_enter Tryz.func202, Tryz.ntmps202
    go_wp2_with fail
    refine hC.mono ?_
    rintro e w1 ⟨rfl, n, rfl⟩
    clear hC
    go_wp2_with fail
    go_ret
    exact .inr ⟨Y, HL2.out, rfl, ((Ok.refl HA.out).drewN n).put (fun v' h' => ⟨(Sole.refl _ _).setCell _ _, rput h'.row 5 _ (by omega) rfl⟩)⟩
  · have hd : decide (eol E.pat 0 < E.pat.size) = false := by simpa using hz
    rw [hd] at hC
    have HL2 : Hid (dropLine E.pat = none) := by rw [Hid, HL.out, if_neg hz]
    clear hz hd hY HL
    go_enter Tryz.func202, Tryz.ntmps202
    go_wp2_with fail
    refine hC.mono ?_
    rintro e w1 ⟨rfl, n, rfl⟩
    clear hC
    go_wp2_with fail
    go_ret
    exact .inl ⟨HL2.out, rfl, (Ok.refl HA.out).drewN n⟩
set_option maxHeartbeats 1000000 in
theorem exchange_any (b : Nat) (cf : Cf) (E : Ed) (v : Ev) (w : World) (h : At w b cf E v) :
    Calls Tryz.prog 207 #[.pointer (some ⟨b, 7, none⟩), .pointer (some ⟨b, 5, none⟩)] w fun e w' => e = .returned (.tuple #[]) ∧ Ok w b cf v { E with pat := E.hold, hold := E.pat } w' := by
  have HA : Hid (At w b cf E v) := h
  have m5 := h.cell (k := 5) rfl
  have f5 := h.frz 5 (by omega)
  have m7 := h.cell (k := 7) rfl
  have f7 := h.frz 7 (by omega)
  have HO : Hid (Ok w b cf v { E with pat := E.hold, hold := E.pat } ((w.setCell ⟨b, 7, none⟩ (.string E.pat)).setCell ⟨b, 5, none⟩ (.string E.hold)).drew) :=
    (h.put (E' := { E with pat := E.hold, hold := E.pat }) (((Sole.refl _ _).setCell _ _).setCell _ _) (rput (E := { E with hold := E.pat }) (rput h.row 7 _ (by omega) rfl) 5 _ (by omega) rfl)).drewN 1
  clear h
  go_enter Tryz.func207, Tryz.ntmps207
  go_wp2_with fail
  go_region
  all_goals
    go_wp2_with fail
    exact bodyPost_end (v := .tuple #[]) (by simp [results, Tryz.results207, go_sem]) rfl ⟨rfl, HO.out⟩
theorem bytes_row (w : World) (t : ByteArray) : Row (Lib.bytesWorld w 5 t) w.heap.size (bv (row t)) := by
  have hc : ∀ j x, (bv (row t))[j]? = some x → (Lib.bytesWorld w 5 t).cell? ⟨w.heap.size, j, none⟩ = some x := fun j x hx => by
    have hj : j < t.size := by
      rcases Nat.lt_or_ge j t.size with e | e
      · exact e
      · rw [List.getElem?_eq_none (by rw [bv_length, row_length]; exact e)] at hx; cases hx
    rw [Lib.bytesWorld_cell w 5 t j hj]
    rw [← hx]
    have hj2 : j < t.data.toList.length := by simpa using hj
    simp [bv, row, List.getD, List.getElem?_eq_getElem hj2]
  refine ⟨fun j x hx => by rw [Nat.zero_add]; exact hc j x hx, fun j hj => ?_⟩
  have hx : (bv (row t))[j]? = some (bv (row t))[j] := List.getElem?_eq_getElem hj
  rw [Nat.zero_add]
  refine ⟨by rw [hc j _ hx]; rfl, ?_⟩
  have hj2 : j < t.size := by rw [bv_length, row_length] at hj; exact hj
  have hsz : t.size ≤ (Lib.bytesCells w 5 t).size := by simp [Lib.bytesCells]
  simp [World.frozen?, Lib.bytesWorld_at_new]
  omega
theorem bytes_below (w : World) (t : ByteArray) : Below w.heap.size w (Lib.bytesWorld w 5 t) := ⟨rfl, rfl, rfl, by rw [Lib.bytesWorld_size]; omega, fun k hk => Lib.bytesWorld_at_old w _ t k hk⟩
end Ee
end Go.Proofs.YtppjlpihaocdiaaGreatDoor

/- A part of the proof. -/
set_option linter.unusedSimpArgs false
set_option linter.unusedVariables false
namespace Go.Proofs.YtppjlpihaocdiaaGreatDoor
namespace Ee
open Go.RowKit
open Rs (Cm Wh Pc CmAt Pts cmL Keep own_of eol)
theorem trans1_none {frm too : ByteArray} {c : UInt8} (h : ∀ x ∈ row frm, x ≠ c) : trans1 frm too c = c := by
  have e : (row frm).findIdx (· == c) = (row frm).length := List.findIdx_eq_length.2 fun x hx => by simpa using h x hx
  rw [trans1, if_neg (by rw [e]; omega)]
theorem trans1_some {frm too : ByteArray} {c : UInt8} {k : Nat} (hk : k < (row frm).length) (hc : (row frm)[k]? = some c) (hl : ∀ q x, q < k → (row frm)[q]? = some x → x ≠ c) : trans1 frm too c = (row too).getD k 0 := by
  have e : (row frm).findIdx (· == c) = k := by
    rw [List.findIdx_eq hk]
    rw [List.getElem?_eq_getElem hk] at hc
    injection hc with hc
    refine ⟨by simp [hc], fun j hj => ?_⟩
    have := hl j (row frm)[j] hj (List.getElem?_eq_getElem _)
    simpa using this
  rw [trans1, e, if_pos hk]
def tk (frm too : ByteArray) (l : List UInt8) (k : Nat) : List UInt8 := (l.take k).map (trans1 frm too) ++ l.drop k
theorem tk_length (frm too : ByteArray) (l : List UInt8) (k : Nat) : (tk frm too l k).length = l.length := by simp [tk]; omega
theorem tk_zero (frm too : ByteArray) (l : List UInt8) : tk frm too l 0 = l := by simp [tk]
theorem tk_all (frm too : ByteArray) (l : List UInt8) (k : Nat) (h : k = l.length) : tk frm too l k = l.map (trans1 frm too) := by subst h; simp [tk]
theorem tk_at (frm too : ByteArray) (l : List UInt8) (k : Nat) (h : k < l.length) : (tk frm too l k)[k]? = some l[k] := by
  rw [tk, List.getElem?_append_right (by simp; omega)]
  simp [Nat.min_eq_left (Nat.le_of_lt h), List.getElem?_eq_getElem h]
theorem tk_succ (frm too : ByteArray) (l : List UInt8) (k : Nat) (h : k < l.length) : tk frm too l (k + 1) = (tk frm too l k).set k (trans1 frm too l[k]) := by
  unfold tk
  rw [List.take_add_one, List.getElem?_eq_getElem h, Option.toList_some, List.map_append, List.set_append_right _ _ (by simp; omega)]
  have e : l.drop k = l[k] :: l.drop (k + 1) := List.drop_eq_getElem_cons h
  rw [e]
  simp [Nat.min_eq_left (Nat.le_of_lt h), -List.getElem_cons_drop]
theorem set_same {α : Type} (l : List α) (k : Nat) (x : α) (h : l[k]? = some x) : l.set k x = l := by
  apply List.ext_getElem?
  intro j
  rw [List.getElem?_set]
  split
  · rename_i e
    subst e
    split
    · exact h.symm
    · rename_i hn
      rw [List.getElem?_eq_none (by omega)] at h
      cases h
  · rfl
theorem bv_set (l : List UInt8) (k : Nat) (c : UInt8) : bv (l.set k c) = (bv l).set k (.int .u8 (c.toNat : Int)) := by simp [bv, List.map_set]
theorem sole_below {w w' : World} {b : Nat} (h : Sole b w w') : Below b w w' := ⟨h.os, h.tape, h.output, Nat.le_of_eq h.size.symm, fun k hk => h.block k (by omega)⟩
theorem u8_back (c : UInt8) : ((c.toNat : Int).toNat).toUInt8 = c := by simp
theorem back_of_row {w : World} {g cap : Nat} {l : List UInt8} (h : Row w g (bv l)) : (convert 99 9 (.slice (some ⟨g, 0, none⟩) l.length cap)).run Tryz.prog w = .ok (.string (txt l)) w :=
  run_convert_bytes_back (P := Tryz.prog) w 99 9 5 ⟨g, 0, none⟩ cap l Tryz.underlying99 Tryz.underlying5 Tryz.underlying9 (fun j hj => by
    have e : (⟨g, 0, none⟩ : Addr).add j = ⟨g, j, none⟩ := by unfold Addr.add; split <;> simp_all
    rw [e]
    exact h.cell (by simp [bv, List.getElem?_eq_getElem hj]))
set_option maxRecDepth 100000 in
set_option maxHeartbeats 2000000 in
theorem transliterate_any (b : Nat) (cf : Cf) (E : Ed) (v : Ev) (w : World) (frm too : ByteArray) (h : At w b cf E v) (hs : E.pat.size ≤ 1000000) (hf : frm.size = too.size) (hf4 : frm.size ≤ 1000000) :
    Calls Tryz.prog 209 #[.pointer (some ⟨b, 5, none⟩), .string frm, .string too] w fun e w' => e = .returned (.tuple #[]) ∧ Ok w b cf v { E with pat := trans frm too E.pat } w' := by
  have HA : Hid (At w b cf E v) := h
  have m5 := h.cell (k := 5) rfl
  obtain ⟨W0, cap, hconv, hR0, hB0⟩ : ∃ W0 cap, (convert 9 99 (.string E.pat)).run Tryz.prog w = .ok (.slice (some ⟨w.heap.size, 0, none⟩) E.pat.size cap) W0 ∧ Row W0 w.heap.size (bv (row E.pat)) ∧ Below w.heap.size w W0 :=
    ⟨_, _, Lib.run_convert_string_bytes (P := Tryz.prog) w 9 99 5 E.pat Tryz.underlying9 Tryz.underlying99 Tryz.underlying5, bytes_row w E.pat, bytes_below w E.pat⟩
  have HR0 : Hid (Row W0 w.heap.size (bv (row E.pat))) := hR0
  have HB0 : Hid (Below w.heap.size w W0) := hB0
  have HRL : Hid ((row E.pat).length = E.pat.size) := row_length _
  clear h hR0 hB0
  go_enter Tryz.func209, Tryz.ntmps209
  go_wp2_with fail
  go_loopw [18] (fun x wr => ∃ (k : Nat), k ≤ E.pat.size ∧ x = .int .i64 k ∧ Hid (Row wr w.heap.size (bv (tk frm too (row E.pat) k))) ∧ Hid (Below w.heap.size w wr)) (fun x _ => E.pat.size + 1 - (intOf x).toNat)
  case atStart => exact ⟨0, by omega, rfl, by rw [tk_zero]; exact HR0.out, HB0.out⟩
  case round =>
    obtain ⟨k, hk, rfl, HR, HB⟩ := hrel
    by_cases hlt : k < E.pat.size
    · have hkl : k < (row E.pat).length := by rw [HRL.out]; exact hlt
      have mk : wr.cell? ⟨w.heap.size, k, none⟩ = some (.int .u8 (((row E.pat)[k]).toNat : Int)) := HR.out.cell (by rw [bv, List.getElem?_map, tk_at _ _ _ _ hkl]; rfl)
      have fk := HR.out.frozen (k := k) (by rw [bv_length, tk_length, HRL.out]; exact hlt)
      have HT : Hid (tk frm too (row E.pat) (k + 1) = (tk frm too (row E.pat) k).set k (trans1 frm too (row E.pat)[k])) := tk_succ _ _ _ _ hkl
      have HK : Hid ((tk frm too (row E.pat) k)[k]? = some (row E.pat)[k]) := tk_at _ _ _ _ hkl
      have HKL : Hid (k < (bv (tk frm too (row E.pat) k)).length) := by rw [Hid, bv_length, tk_length]; exact hkl
      generalize (row E.pat)[k] = c at mk HT HK
      clear hkl
      have hc : c.toNat < 256 := UInt8.toNat_lt c
      have hI := fun W => indexByte_any frm c.toNat W hc
      have e8 : ((c.toNat : Int).toNat).toUInt8 = c := u8_back c
      rw [e8] at hI
      clear e8
      have hIH : Hid (∀ W, Calls Tryz.prog 194 #[.string frm, .int .u8 (c.toNat : Int)] W fun e w' => e = .returned (.int .i64 (Lib.indexByte frm.data.toList c)) ∧ w' = W) := hI
      clear hI
      rcases Rs.index_cases c frm.data.toList with ⟨e, hn⟩ | ⟨j, hj, e, hj2, hj3⟩
      · rw [e] at hIH
        have HT2 : Hid (tk frm too (row E.pat) (k + 1) = tk frm too (row E.pat) k) := by rw [Hid, HT.out, trans1_none hn, set_same _ _ _ HK.out]
        clear e hn
        go_wp2_with fail
        refine (hIH.out _).mono ?_
        rintro e w1 ⟨rfl, hw1⟩
        subst hw1
        go_wp2_with fail
        go_roundw
        case rel => exact ⟨k + 1, by omega, by go_num, by rw [HT2.out]; exact HR.out, HB.out⟩
        case measure => simp [intOf]; omega
      · rw [e] at hIH
        have hjs : j < frm.size := by simpa using hj
        have hjt : j < too.size := by omega
        have HT2 : Hid (bv (tk frm too (row E.pat) (k + 1)) = (bv (tk frm too (row E.pat) k)).set k (.int .u8 ((too[j]).toNat : Int))) := by
          rw [Hid, HT.out, trans1_some hj hj2 hj3, bv_set]
          have hjt2 : j < too.data.toList.length := by simpa using hjt
          simp [row, List.getD, List.getElem?_eq_getElem hjt2]
          rfl
        clear e hj hj2 hj3
        go_wp2_with fail
        refine (hIH.out _).mono ?_
        rintro e w1 ⟨rfl, hw1⟩
        subst hw1
        go_wp2_with fail
        go_roundw
        case rel => exact ⟨k + 1, by omega, by go_num, by rw [HT2.out]; exact HR.out.put k HKL.out _, HB.out.trans (sole_below ((Sole.refl _ _).setCell _ _))⟩
        case measure => simp [intOf]; omega
    · have hkN : k = E.pat.size := by omega
      subst hkN
      have HP : Hid (trans frm too E.pat = txt (tk frm too (row E.pat) E.pat.size)) := by rw [Hid, tk_all _ _ _ _ HRL.out.symm]; rfl
      have hcb := back_of_row (cap := cap) HR.out
      rw [tk_length, HRL.out, ← HP.out] at hcb
      have m2 := (HA.out.below HB.out).cell (k := 5) rfl
      have f2 := (HA.out.below HB.out).frz 5 (by omega)
      generalize hTR : trans frm too E.pat = TR at hcb
      have HO : Hid (Ok w b cf v { E with pat := TR } (wr.setCell ⟨b, 5, none⟩ (.string TR))) := (Ok.below HA.out HB.out).put (fun v' h' => ⟨(Sole.refl _ _).setCell _ _, rput h'.row 5 _ (by omega) rfl⟩)
      have HTR : Hid (trans frm too E.pat = TR) := hTR
      clear hTR
      go_wp2_with fail
      exact bodyPost_end (v := .tuple #[]) (by simp [results, Tryz.results209, go_sem]) rfl ⟨rfl, by rw [HTR.out]; exact HO.out⟩
set_option maxHeartbeats 1000000 in
theorem jump_any (b : Nat) (cf : Cf) (E : Ed) (v : Ev) (w : World) (k : Nat) (h : At w b cf E v) :
    Calls Tryz.prog 169 #[.pointer (some ⟨b, 0, none⟩), .int .i64 (k : Int)] w fun e w' => e = .returned (.int .i64 ((E.jump k).2 : Int)) ∧ Ok w b cf v (E.jump k).1 w' := by
  have HA : Hid (At w b cf E v) := h
  have m := h.cell (k := 14) rfl
  have f := h.frz 14 (by omega)
  have HE : Hid (E.jump k = ({ E with at' := k }, 1)) := rfl
  rw [HE.out]
  clear h
  go_enter Tryz.func169, Tryz.ntmps169
  go_wp2_with fail
  go_ret
  exact ⟨rfl, HA.out.put ((Sole.refl _ _).setCell _ _) (rput HA.out.row 14 _ (by omega) rfl)⟩
set_option maxHeartbeats 1000000 in
theorem stop_any (b : Nat) (cf : Cf) (E : Ed) (v : Ev) (w : World) (k : Nat) (h : At w b cf E v) :
    Calls Tryz.prog 119 #[.pointer (some ⟨b, 0, none⟩), .int .i64 (k : Int)] w fun e w' => e = .returned (.int .i64 ((E.stop k).2 : Int)) ∧ Ok w b cf v (E.stop k).1 w' := by
  have HA : Hid (At w b cf E v) := h
  have m := h.cell (k := 20) rfl
  have f := h.frz 20 (by omega)
  have HE : Hid (E.stop k = ({ E with state := k }, 0)) := rfl
  rw [HE.out]
  clear h
  go_enter Tryz.func119, Tryz.ntmps119
  go_wp2_with fail
  go_ret
  exact ⟨rfl, HA.out.put ((Sole.refl _ _).setCell _ _) (rput HA.out.row 20 _ (by omega) rfl)⟩
def Step (w : World) (b : Nat) (cf : Cf) (v : Ev) (r : Ed × Nat) (e : Ending) (w' : World) : Prop := e = .returned (.int .i64 (r.2 : Int)) ∧ Ok w b cf v r.1 w'
set_option maxHeartbeats 1000000 in
theorem pass_any (b : Nat) (cf : Cf) (E : Ed) (v : Ev) (g o : Nat) (x : Cm) (q : Pts) (w : World) (h : At w b cf E v) (hx : CmP w g o x q) (ha : E.at' ≤ 1000000) :
    Calls Tryz.prog 121 #[.pointer (some ⟨b, 0, none⟩), .pointer (some ⟨g, o, none⟩)] w (Step w b cf v (E.jump (if x.kind = 0 then x.goal else E.at' + 1))) := by
  have HA : Hid (At w b cf E v) := h
  have c0 : w.cell? ⟨g, o, none⟩ = some (.int .i64 (x.kind : Int)) := hx.cell 0 _ rfl
  have c12 := hx.cell 12 _ rfl
  have m14 := h.cell (k := 14) rfl
  clear h hx
  by_cases hk : x.kind = 0
  · rw [hk] at c0
    have hJ := jump_any b cf E v w x.goal HA.out
    rw [if_pos hk]
    generalize E.jump x.goal = r at hJ ⊢
    clear hk
    go_enter Tryz.func121, Tryz.ntmps121
    go_wp2_with fail
    refine hJ.mono ?_
    rintro e w1 ⟨rfl, hO⟩
    have HO : Hid (Ok w b cf v r.1 w1) := hO
    clear hJ hO
    go_wp2_with fail
    go_ret
    exact ⟨rfl, HO.out⟩
  · have q0 : ((x.kind : Int) == 0) = false := by simp; omega
    have hJ := jump_any b cf E v w (E.at' + 1) HA.out
    rw [if_neg hk]
    generalize E.jump (E.at' + 1) = r at hJ ⊢
    clear hk
    go_enter Tryz.func121, Tryz.ntmps121
    go_wp2_with fail
    refine hJ.mono ?_
    rintro e w1 ⟨rfl, hO⟩
    have HO : Hid (Ok w b cf v r.1 w1) := hO
    clear hJ hO
    go_wp2_with fail
    go_ret
    exact ⟨rfl, HO.out⟩
end Ee
end Go.Proofs.YtppjlpihaocdiaaGreatDoor

/- A part of the proof. -/
set_option linter.unusedSimpArgs false
set_option linter.unusedVariables false
namespace Go.Proofs.YtppjlpihaocdiaaGreatDoor
namespace Ee
open Go.RowKit
open Rs (Cm Wh Pc CmAt Pts cmL Keep own_of grps)
def Vs (L : Nat) (e : Int × Int) : Prop := e = (-1, -1) ∨ ∃ i j : Nat, e = ((i : Int), (j : Int)) ∧ i ≤ j ∧ j ≤ L
def Vc (L : Nat) (c : Caps) : Prop := ∀ e ∈ c, Vs L e
theorem altG_vs {m : Nat → Nat → Nat → Prop} {g : Nat → Nat → Nat → Caps → Caps → Prop} {L : Nat} (hg : ∀ x i j c c', i ≤ j → j ≤ L → Vc L c → g x i j c c' → Vc L c') : ∀ (l : List Nat) {i j : Nat} {c c' : Caps}, i ≤ j → j ≤ L → Vc L c → altG m g l i j c c' → Vc L c'
  | [], i, j, c, c', _, _, hc, h => by rw [show c' = c from h]; exact hc
  | x :: l, i, j, c, c', h1, h2, hc, h => by
    rcases h with ⟨_, h⟩ | ⟨_, h⟩
    · exact hg x i j c c' h1 h2 hc h
    · exact altG_vs hg l h1 h2 hc h
theorem rowG_vs {m : Nat → Nat → Nat → Prop} {g : Nat → Nat → Nat → Caps → Caps → Prop} {L : Nat} (hg : ∀ x i j c c', i ≤ j → j ≤ L → Vc L c → g x i j c c' → Vc L c') : ∀ (l : List Nat) {i j : Nat} {c c' : Caps}, i ≤ j → j ≤ L → Vc L c → rowG m g l i j c c' → Vc L c'
  | [], i, j, c, c', _, _, hc, h => by rw [show c' = c from h]; exact hc
  | x :: l, i, j, c, c', h1, h2, hc, h => by
    obtain ⟨t, c1, ht, h3, h4⟩ := h
    exact rowG_vs hg l ht.2.1 h2 (hg x i t c c1 ht.1 (Nat.le_trans ht.2.1 h2) hc h3) h4
theorem repP_vs {m : Nat → Nat → Nat → Prop} {g : Nat → Nat → Nat → Caps → Caps → Prop} {L x lo : Nat} {hi : Int} (hg : ∀ x i j c c', i ≤ j → j ≤ L → Vc L c → g x i j c c' → Vc L c') : ∀ (f a : Nat) {i j : Nat} {c c' : Caps}, i ≤ j → j ≤ L → Vc L c → repP m g x lo hi f a i j c c' → Vc L c'
  | 0, a, i, j, c, c', _, _, hc, h => by rw [show c' = c from h]; exact hc
  | f + 1, a, i, j, c, c', h1, h2, hc, h => by
    rcases h with ⟨_, h⟩ | ⟨_, t, c1, ht, h3, h4⟩
    · rcases h with ⟨_, h⟩ | ⟨_, h⟩
      · exact hg x i j c c' h1 h2 hc h
      · rw [h]; exact hc
    · exact repP_vs hg f (a + 1) ht.2.1 h2 (hg x i t c c1 ht.1 (Nat.le_trans ht.2.1 h2) hc h3) h4
theorem pgOf_vs (s : ByteArray) (nodes : List Nd) : ∀ (f n i j : Nat) (c c' : Caps), i ≤ j → j ≤ s.size → Vc s.size c → pgOf s nodes f n i j c c' → Vc s.size c'
  | 0, _, _, _, _, _, _, _, _, h => h.elim
  | f + 1, n, i, j, c, c', h1, h2, hc, h => by
    obtain ⟨d, e, h⟩ := h
    have ih : ∀ x i j c c', i ≤ j → j ≤ s.size → Vc s.size c → pgOf s nodes f x i j c c' → Vc s.size c' := fun x i j c c' => pgOf_vs s nodes f x i j c c'
    split at h
    · refine ih _ i j _ c' h1 h2 (fun e he => ?_) h
      rcases List.mem_or_eq_of_mem_set he with he | he
      · exact hc e he
      · exact .inr ⟨i, j, he, h1, h2⟩
    · split at h
      · exact altG_vs ih _ h1 h2 hc h
      · split at h
        · exact rowG_vs ih _ h1 h2 hc h
        · split at h
          · exact repP_vs ih _ _ h1 h2 hc h
          · rw [h]; exact hc
theorem FirstIs.vs {p t : ByteArray} {pl : Nat} {sp : List (Int × Int)} (h : FirstIs p t pl sp) : (∃ i j : Nat, sp[0]? = some ((i : Int), (j : Int)) ∧ pl ≤ i ∧ i ≤ j ∧ j ≤ t.size) ∧ sp.length = grps p + 1 ∧ Vc t.size sp := by
  obtain ⟨i, j, c, rfl, h1, h2, h3⟩ := h
  refine ⟨⟨i, j, rfl, h1.1, h1.2.1, h1.2.2.1⟩, by rw [List.length_cons, h2], fun e he => ?_⟩
  rcases List.mem_cons.1 he with he | he
  · exact .inr ⟨i, j, he, h1.2.1, h1.2.2.1⟩
  · exact pgOf_vs t _ _ _ i j (noCaps (grps p)) c h1.2.1 h1.2.2.1 (fun e he => .inl (by simp [noCaps] at he; exact he.2)) h3 e he
theorem spat_first {w : World} {sp : List (Int × Int)} {ob : Nat} {x y : Int} (h : OutAt w ob sp) (h0 : sp[0]? = some (x, y)) : w.cell? ⟨ob, 0, none⟩ = some (.int .i64 x) ∧ w.cell? ⟨ob, 1, none⟩ = some (.int .i64 y) := by
  obtain ⟨a1, a2, _, _⟩ := h 0 x y h0
  exact ⟨a1, a2⟩
theorem spat_lower {w : World} {r : Option (List (Int × Int))} {u : Value} {lo lo' : Nat} (h : SpAt w r u lo) (hl : lo' ≤ lo) : SpAt w r u lo' := by
  cases r with
  | none => exact h
  | some sp =>
    obtain ⟨ob, e1, e2, e3⟩ := h
    exact ⟨ob, e1, Nat.le_trans hl e2, e3⟩
set_option maxRecDepth 100000 in
set_option maxHeartbeats 2000000 in
theorem following_any (mf : Mf) (hm : MfOk mf) (p t : ByteArray) (tb to' : Nat) (x : Int) (w : World) (h : Tb w p t tb) (hto : to' ≤ t.size) (ht : t.size ≤ 80) :
    Calls Tryz.prog 247 #[.pointer (some ⟨tb, 0, none⟩), .agg #[.int .i64 x, .int .i64 (to' : Int)]] w fun e w' => Below w.heap.size w w' ∧ ∃ u, e = .returned u ∧ SpAt w' (nextM mf p t to') u w.heap.size := by
  have n41 : ∀ (W : World), (binOp .neq 41 (.slice none 0 0) (.slice none 0 0)).run Tryz.prog W = .ok (.bool false) W := fun W => run_neq_slice_nil (P := Tryz.prog) (w := W) _ _ none 0 0 Tryz.underlying41
  have s41 : ∀ (W : World) (x : Addr) (n c : Nat), (binOp .neq 41 (.slice (some x) n c) (.slice none 0 0)).run Tryz.prog W = .ok (.bool true) W := fun W x n c => run_neq_slice_nil (P := Tryz.prog) (w := W) _ _ (some x) n c Tryz.underlying41
  have HT : Hid (Tb w p t tb) := h
  have HM : Hid (MfOk mf) := hm
  have HN : Hid (nextM mf p t to' = match mf p t to' with | some sp => if (sp.getD 0 (-1, -1)).2 = (to' : Int) then mf p t (to' + 1) else some sp | none => none) := rfl
  clear h hm
  rcases hmf : mf p t to' with _ | sp
  · have HR : Hid (mf p t to' = none) := hmf
    have HN2 : Hid (nextM mf p t to' = none) := by rw [Hid, HN.out, hmf]
    clear hmf
    go_enter Tryz.func247, Tryz.ntmps247
    go_wp2_with fail
    have hL := first_tb mf HM.out p t tb to' (w.alloc (.cells #[.int .i64 x, .int .i64 (to' : Int)] 48)) (HT.out.below (below_alloc w _)) (by omega)
    refine hL.mono ?_
    rintro e w1 ⟨hB, u, rfl, hS⟩
    rw [HR.out] at hS
    obtain rfl : u = .slice none 0 0 := hS
    have HB : Hid (Below w.heap.size w w1) := (below_alloc w _).trans (hB.mono (by simp))
    clear hL hB
    go_wp2_with fail
    go_region
    all_goals
      go_wp2_with fail
      go_ret
      exact ⟨below_drew HB.out, _, rfl, by rw [HN2.out]; rfl⟩
  · have HR : Hid (mf p t to' = some sp) := hmf
    obtain ⟨⟨i, j, h0, hi1, hi2, hi3⟩, hsl, _⟩ := (HM.out.some' hmf).vs
    have H0 : Hid (sp[0]? = some ((i : Int), (j : Int))) := h0
    have hg : sp.getD 0 (-1, -1) = ((i : Int), (j : Int)) := by rw [List.getD, h0]; rfl
    have hsl1 : 1 ≤ sp.length := by omega
    clear hsl
    by_cases hj : j = to'
    · have HN2 : Hid (nextM mf p t to' = mf p t (to' + 1)) := by rw [Hid, HN.out, hmf]; simp only; rw [hg, if_pos (by simp [hj])]
      subst hj
      clear hmf hg h0
      go_enter Tryz.func247, Tryz.ntmps247
      go_wp2_with fail
      have hL := first_tb mf HM.out p t tb j (w.alloc (.cells #[.int .i64 x, .int .i64 (j : Int)] 48)) (HT.out.below (below_alloc w _)) (by omega)
      refine hL.mono ?_
      rintro e w1 ⟨hB, u, rfl, hS⟩
      rw [HR.out] at hS
      obtain ⟨ob, rfl, hob, hout⟩ := hS
      have HB : Hid (Below w.heap.size w w1) := (below_alloc w _).trans (hB.mono (by simp))
      obtain ⟨a1, a2⟩ := spat_first hout H0.out
      have b1 : w1.cell? ⟨w.heap.size, 1, none⟩ = some (.int .i64 (j : Int)) := by
        rw [World.cell?_of_block (w := w.alloc (.cells #[.int .i64 x, .int .i64 (j : Int)] 48)) (w' := w1) (a := ⟨w.heap.size, 1, none⟩) (hB.block w.heap.size (by simp))]
        exact cell_of_row _ w.heap.size 1 #[.int .i64 x, .int .i64 (j : Int)] 48 (0, 0) (heap_alloc_last w _)
      have HTb : Hid (Tb w1 p t tb) := (HT.out.below (below_alloc w _)).below hB
      clear hL hB hob hout
      go_wp2_with fail
      go_region
      all_goals
        go_wp2_with fail
        have hL := first_tb mf HM.out p t tb (j + 1) w1.drew (HTb.out.below (below_drew (Below.refl _ _))) (by omega)
        refine hL.mono ?_
        rintro e w2 ⟨hB, u, rfl, hS⟩
        have HB2 : Hid (Below w.heap.size w w2) := (below_drew HB.out).trans (hB.mono HB.out.size)
        have hsz := HB.out.size
        have HS : Hid (SpAt w2 (mf p t (j + 1)) u w.heap.size) := spat_lower hS hsz
        clear hL hB hS
        go_wp2_with fail
        go_ret
        exact ⟨HB2.out, _, rfl, by rw [HN2.out]; exact HS.out⟩
    · have HN2 : Hid (nextM mf p t to' = some sp) := by rw [Hid, HN.out, hmf]; simp only; rw [hg, if_neg (by simp; omega)]
      have q1 : ((j : Int) == (to' : Int)) = false := by simp; omega
      have q2 : (j == to') = false := by simp; omega
      clear hmf hg h0
      go_enter Tryz.func247, Tryz.ntmps247
      go_wp2_with fail
      have hL := first_tb mf HM.out p t tb to' (w.alloc (.cells #[.int .i64 x, .int .i64 (to' : Int)] 48)) (HT.out.below (below_alloc w _)) (by omega)
      refine hL.mono ?_
      rintro e w1 ⟨hB, u, rfl, hS⟩
      rw [HR.out] at hS
      obtain ⟨ob, rfl, hob, hout⟩ := hS
      have HB : Hid (Below w.heap.size w w1) := (below_alloc w _).trans (hB.mono (by simp))
      obtain ⟨a1, a2⟩ := spat_first hout H0.out
      have b1 : w1.cell? ⟨w.heap.size, 1, none⟩ = some (.int .i64 (to' : Int)) := by
        rw [World.cell?_of_block (w := w.alloc (.cells #[.int .i64 x, .int .i64 (to' : Int)] 48)) (w' := w1) (a := ⟨w.heap.size, 1, none⟩) (hB.block w.heap.size (by simp))]
        exact cell_of_row _ w.heap.size 1 #[.int .i64 x, .int .i64 (to' : Int)] 48 (0, 0) (heap_alloc_last w _)
      have hob2 : w.heap.size ≤ ob := by simp at hob; omega
      have HOut : Hid (OutAt w1 ob sp) := hout
      clear hL hB hob hout
      go_wp2_with fail
      go_region
      all_goals
        go_wp2_with fail
        go_ret
        exact ⟨below_drew HB.out, _, rfl, by rw [HN2.out]; exact ⟨ob, rfl, hob2, HOut.out⟩⟩
end Ee
end Go.Proofs.YtppjlpihaocdiaaGreatDoor

/- A part of the proof. -/
set_option linter.unusedSimpArgs false
set_option linter.unusedVariables false
namespace Go.Proofs.YtppjlpihaocdiaaGreatDoor
namespace Ee
open Go.RowKit
open Rs (Cm Wh Pc CmAt Pts cmL Keep own_of grps pcL)
def fill1 (t : ByteArray) (sp : List (Int × Int)) (out : List UInt8) (x : Pc) : List UInt8 :=
  if x.grp = -1 then out ++ [x.byte.toUInt8]
  else if 0 ≤ (sp.getD x.grp.toNat (-1, -1)).1 then out ++ row (t.extract (sp.getD x.grp.toNat (-1, -1)).1.toNat (sp.getD x.grp.toNat (-1, -1)).2.toNat) else out
theorem fillT_fold (t : ByteArray) (sp : List (Int × Int)) : ∀ (l : List Pc) (out : List UInt8), fillT t sp l out = l.foldl (fill1 t sp) out
  | [], out => rfl
  | x :: l, out => by
    rw [fillT, List.foldl_cons, fill1]
    by_cases h : x.grp = -1
    · rw [if_pos h, if_pos h]; exact fillT_fold t sp l _
    · rw [if_neg h, if_neg h]
      simp only
      by_cases h2 : 0 ≤ (sp.getD x.grp.toNat (-1, -1)).1
      · rw [if_pos h2, if_pos h2]; exact fillT_fold t sp l _
      · rw [if_neg h2, if_neg h2]; exact fillT_fold t sp l _
theorem fillT_snoc (t : ByteArray) (sp : List (Int × Int)) (l : List Pc) (x : Pc) (out : List UInt8) : fillT t sp (l ++ [x]) out = fill1 t sp (fillT t sp l out) x := by
  rw [fillT_fold, fillT_fold, List.foldl_append]; rfl
theorem extract_size_le (t : ByteArray) (i j : Nat) : (t.extract i j).size ≤ t.size := by
  rw [ByteArray.size_extract]; omega
theorem fill1_len (t : ByteArray) (sp : List (Int × Int)) (out : List UInt8) (x : Pc) : (fill1 t sp out x).length ≤ out.length + (t.size + 1) := by
  unfold fill1
  split
  · simp
  · split
    · rw [List.length_append, row_length]
      have := extract_size_le t (sp.getD x.grp.toNat (-1, -1)).1.toNat (sp.getD x.grp.toNat (-1, -1)).2.toNat
      omega
    · omega
theorem fillT_len (t : ByteArray) (sp : List (Int × Int)) : ∀ (l : List Pc) (out : List UInt8), (fillT t sp l out).length ≤ out.length + l.length * (t.size + 1)
  | [], out => by simp [fillT]
  | x :: l, out => by
    have h1 := fillT_len t sp l (fill1 t sp out x)
    have h2 := fill1_len t sp out x
    have e : fillT t sp (x :: l) out = fillT t sp l (fill1 t sp out x) := by rw [fillT_fold, fillT_fold]; rfl
    rw [e, List.length_cons, Nat.succ_mul]
    omega
theorem pcL_at : ∀ (ps : List Pc) (k : Nat) (x : Pc), ps[k]? = some x → (pcL ps)[k * 2]? = some (.int .i64 x.grp) ∧ (pcL ps)[k * 2 + 1]? = some (.int .u8 (x.byte : Int))
  | [], k, x, h => by simp at h
  | y :: ps, 0, x, h => by
    have : y = x := by simpa using h
    subst this
    exact ⟨rfl, rfl⟩
  | y :: ps, k + 1, x, h => by
    have h2 := pcL_at ps k x (by simpa using h)
    have e : pcL (y :: ps) = .int .i64 y.grp :: .int .u8 (y.byte : Int) :: pcL ps := rfl
    rw [e, show (k + 1) * 2 = k * 2 + 1 + 1 by omega]
    exact ⟨by simpa using h2.1, by simpa using h2.2⟩
theorem new_at2 {u : World} {H : Nat} (h : u.heap.size = H) (v : Value) (t : TypeId) : ∀ j z, [v][j]? = some z → (u.alloc (.cells #[v] t)).cell? ((⟨H, 0, none⟩ : Addr).add j) = some z := by
  subst h
  exact cell_one_new u v t
theorem byte_back (n : Nat) (h : n < 256) : ((n.toUInt8).toNat : Int) = (n : Int) := by simp; omega
structure Fl (B : Nat) (w wr : World) (ov ov' : Value) (l : List UInt8) : Prop where
  gn : Gn w wr ov ov'
  own : wr.ownsRow B 5 1 ov' l.length (bv l)
  le : B ≤ wr.heap.size
theorem Fl.two {B : Nat} {w wr : World} {ov ov' : Value} {l : List UInt8} (h : Fl B w wr ov ov' l) (o1 o2 : Obj) : ((wr.alloc o1).alloc o2).ownsRow B 5 1 ov' l.length (bv l) := (h.own.alloc o1).alloc o2
theorem below_alloc2 (w : World) (o1 o2 : Obj) : Below w.heap.size w ((w.alloc o1).alloc o2) := (below_alloc w o1).trans ((below_alloc _ o2).mono (by simp))
theorem Fl.grown {B : Nat} {w wr u w2 : World} {ov ov' nv : Value} {l l2 : List UInt8} (h : Fl B w wr ov ov' l) (hb : Below wr.heap.size wr u) (hg : u.grownBy w2 ov'.ownBlock) (hat : nv.ownBlock = ov'.ownBlock ∨ ∃ g, nv.ownBlock = some g ∧ wr.heap.size ≤ g) (hown : w2.ownsRow B 5 1 nv l2.length (bv l2)) : Fl B w w2 ov nv l2 :=
  ⟨h.gn.trans (Gn.grown hb hg hat), hown, Nat.le_trans h.le (Nat.le_trans hb.size hg.size)⟩
theorem Fl.beside {B : Nat} {w wr u : World} {ov ov' : Value} {l : List UInt8} (h : Fl B w wr ov ov' l) (hb : Below wr.heap.size wr u) : Fl B w u ov ov' l :=
  ⟨h.gn.trans (Gn.below hb fun k hk => .inl hk), own_of h.own fun k hk => hb.block k (h.own.lt k hk).2, Nat.le_trans h.le hb.size⟩
structure FlPre (w : World) (ov tv : Value) (temp : List Pc) (ob : Nat) (sp : List (Int × Int)) (L : Nat) : Prop where
  own : w.ownsRow 0 293 2 tv temp.length (pcL temp)
  td : ∀ k, ov.ownBlock = some k → tv.ownBlock ≠ some k
  oa : OutAt w ob sp
  ol : ob < w.heap.size
  od : ov.ownBlock ≠ some ob
  ok : ∀ p ∈ temp, (p.grp = -1 ∧ p.byte < 256) ∨ (0 ≤ p.grp ∧ p.grp < sp.length)
  vs : Vc L sp
theorem FlPre.gn {w wr : World} {ov ov' tv : Value} {temp : List Pc} {ob : Nat} {sp : List (Int × Int)} {L : Nat} (h : FlPre w ov tv temp ob sp L) (g : Gn w wr ov ov') : FlPre wr ov' tv temp ob sp L :=
  ⟨own_gn g h.own h.td, far_gn g h.own h.td, h.oa.of_block (g.block ob h.ol h.od), Nat.lt_of_lt_of_le h.ol g.size, fun e => by
    rcases g.at' ob e with e | e
    · exact h.od e
    · have := h.ol; omega, h.ok, h.vs⟩
set_option maxRecDepth 100000 in
set_option maxHeartbeats 4000000 in
theorem fill_any (B : Nat) (ov tv : Value) (out : List UInt8) (temp : List Pc) (t : ByteArray) (ob : Nat) (sp : List (Int × Int)) (w : World) (h : FlPre w ov tv temp ob sp t.size) (hown : w.ownsRow B 5 1 ov out.length (bv out)) (hB : B ≤ w.heap.size) (ht : t.size ≤ 80) (ho : out.length ≤ 100000000) (hl : temp.length ≤ 1000) :
    Calls Tryz.prog 248 #[ov, tv, .string t, .slice (some ⟨ob, 0, none⟩) sp.length sp.length] w fun e w' => ∃ ov', e = .returned ov' ∧ Fl B w w' ov ov' (fillT t sp temp out) := by
  obtain ⟨i0, hi0, hz0, hz1, hz2⟩ := info_parts Rs.Tryz.info5
  have HP : Hid (FlPre w ov tv temp ob sp t.size) := h
  have HF0 : Hid (Fl B w w ov ov out) := ⟨Gn.refl _ _, hown, hB⟩
  have hform : ∃ ao cap, tv = .slice ao temp.length cap := own_form h.own
  obtain ⟨ao, cap, htv⟩ := hform
  have HTV : Hid (tv = .slice ao temp.length cap) := htv
  clear h hown
  rw [htv]
  clear htv
  go_enter Tryz.func248, Tryz.ntmps248
  go_wp2_with fail
  go_loopw [0, 14] (fun x0 x wr => ∃ (k : Nat), k ≤ temp.length ∧ x = .int .i64 k ∧ Hid (Fl B w wr ov x0 (fillT t sp (temp.take k) out))) (fun _ x _ => temp.length + 1 - (intOf x).toNat)
  case atStart => exact ⟨0, by omega, rfl, HF0.out⟩
  case round =>
    obtain ⟨k, hk, rfl, HF⟩ := hrel
    by_cases hlt : k < temp.length
    · have HK : Hid (temp[k]? = some temp[k]) := List.getElem?_eq_getElem hlt
      have HX : Hid ((temp[k].grp = -1 ∧ temp[k].byte < 256) ∨ (0 ≤ temp[k].grp ∧ temp[k].grp < sp.length)) := HP.out.ok _ (List.getElem_mem hlt)
      have HPr := HP.out.gn HF.out.gn
      obtain ⟨g, cp, e, _, _⟩ := HPr.own.form (by omega)
      have e2 : ao = some ⟨g, 0, none⟩ ∧ cap = cp := by
        have := HTV.out
        rw [e] at this
        injection this with a1 a2 a3
        exact ⟨a1.symm, a3.symm⟩
      obtain ⟨rfl, rfl⟩ := e2
      have hcell := HPr.own
      rw [e] at hcell
      obtain ⟨p1, p2⟩ := pcL_at temp k _ HK.out
      have c1 : wr.cell? ⟨g, k * 2, none⟩ = some (.int .i64 temp[k].grp) := by rw [hcell.cellAt (k * 2) (by omega)]; exact p1
      have c2 : wr.cell? ⟨g, k * 2 + 1, none⟩ = some (.int .u8 (temp[k].byte : Int)) := by rw [hcell.cellAt (k * 2 + 1) (by omega)]; exact p2
      have HPR : Hid (FlPre wr u0 tv temp ob sp t.size) := HPr
      clear HPr hcell p1 p2 e
      have HS : Hid (fillT t sp (temp.take (k + 1)) out = fill1 t sp (fillT t sp (temp.take k) out) temp[k]) := by
        rw [Hid, List.take_add_one, HK.out, Option.toList_some, fillT_snoc]
      generalize temp[k] = x at HX c1 c2 HS
      clear HK
      have hfl := fillT_len t sp (temp.take k) out
      generalize hL : fillT t sp (temp.take k) out = l at HF HS hfl
      have hll : l.length ≤ 200000000 := by
        have h1 : (temp.take k).length ≤ 1000 := by rw [List.length_take]; omega
        have h2 : (temp.take k).length * (t.size + 1) ≤ 1000 * 81 := Nat.mul_le_mul h1 (by omega)
        omega
      clear hfl hL
      obtain ⟨grp, byte⟩ := x
      rcases HX.out with ⟨hg, hb⟩ | ⟨hg, hg2⟩
      · simp only at hg hb c1 c2
        subst hg
        have HS2 : Hid (fillT t sp (temp.take (k + 1)) out = l ++ [byte.toUInt8]) := by rw [Hid, HS.out]; rfl
        have HY : Hid (((byte.toUInt8).toNat : Int) = (byte : Int)) := byte_back byte hb
        clear HX
        go_wp2_with (at_builtin; (refine wpList_append_lies _ rfl _ _ 99 rfl B 5 i0 (.int .u8 0) 1 1 Tryz.underlying99 hi0 hz0 hz1 hz2 rfl (by omega) u0 l.length (bv l) rfl (HF.out.two _ _) ⟨wr.heap.size + 1, 0, none⟩ 1 1 [.int .u8 (byte : Int)] rfl rfl (new_at2 (by simp) _ _) (fun x hx => by simp at hx; subst hx; rfl) (by omega) (by unfold maxLen; omega) (by omega) (by have := HF.out.le; simp; omega) (wr.heap.size + 2) (by simp) ?_; intro gg cp w7 hown7 hgrow7 hat7 hlt7; clear hlt7; have HG7 : Hid (Fl B w w7 ov (.slice (some ⟨gg, 0, none⟩) (l.length + 1) cp) (l ++ [byte.toUInt8])) := HF.out.grown (below_alloc2 wr _ _) hgrow7 (by rcases hat7 with e | e; exact .inl e.symm; exact .inr ⟨gg, rfl, by omega⟩) (by rw [bv_snoc, List.length_append, HY.out]; exact hown7); clear hown7 hgrow7 hat7))
        go_roundw
        case rel => exact ⟨k + 1, by omega, by go_num, by rw [HS2.out]; exact HG7.out⟩
        case measure => simp [intOf]; omega
      · simp only at hg hg2 c1 c2
        obtain ⟨gn, rfl⟩ : ∃ gn : Nat, grp = (gn : Int) := ⟨grp.toNat, by omega⟩
        have hgn : gn < sp.length := by omega
        have q1 : ((gn : Int) == -1) = false := by simp
        have HGD : Hid (sp[gn]? = some sp[gn]) := List.getElem?_eq_getElem hgn
        have HVS : Hid (Vs t.size sp[gn]) := HPR.out.vs _ (List.getElem_mem hgn)
        have HS1 : Hid (fillT t sp (temp.take (k + 1)) out = if 0 ≤ (sp[gn]).1 then l ++ row (t.extract (sp[gn]).1.toNat (sp[gn]).2.toNat) else l) := by
          rw [Hid, HS.out]
          unfold fill1
          have e1 : sp.getD gn (-1, -1) = sp[gn] := by rw [List.getD, HGD.out]; rfl
          have e2 : ((gn : Int)).toNat = gn := by simp
          simp only [e2, e1]
          rw [if_neg (by omega)]
        obtain ⟨d1, d2, _, _⟩ := HPR.out.oa gn (sp[gn]).1 (sp[gn]).2 HGD.out
        have hol := HPR.out.ol
        have da1 : ∀ o, (wr.alloc o).cell? ⟨ob, gn * 2, none⟩ = some (.int .i64 (sp[gn]).1) := fun o => (World.cell?_of_block (w := wr) (w' := wr.alloc o) (a := ⟨ob, gn * 2, none⟩) (Below.heap_alloc _ _ _ hol)).trans d1
        have da2 : ∀ o, (wr.alloc o).cell? ⟨ob, gn * 2 + 1, none⟩ = some (.int .i64 (sp[gn]).2) := fun o => (World.cell?_of_block (w := wr) (w' := wr.alloc o) (a := ⟨ob, gn * 2 + 1, none⟩) (Below.heap_alloc _ _ _ hol)).trans d2
        clear d1 d2
        generalize sp[gn] = s2 at HVS HS1 da1 da2
        clear HX HGD hg hg2 HS
        rcases HVS.out with rfl | ⟨i, j, rfl, hij, hj⟩
        · have HS2 : Hid (fillT t sp (temp.take (k + 1)) out = l) := by rw [Hid, HS1.out]; rfl
          clear HVS HS1
          simp only at da1 da2
          go_wp2_with fail
          go_roundw
          case rel => exact ⟨k + 1, by omega, by go_num, by rw [HS2.out]; exact HF.out.beside (below_alloc2 wr _ _)⟩
          case measure => simp [intOf]; omega
        · have HS2 : Hid (fillT t sp (temp.take (k + 1)) out = l ++ row (t.extract i j)) := by rw [Hid, HS1.out]; simp
          clear HVS HS1
          simp only at da1 da2
          have hex := extract_size_le t i j
          go_wp2_with (at_builtin; (refine wpList_str_lies _ rfl _ _ 99 9 rfl B 5 i0 Tryz.underlying99 Tryz.underlying9 hi0 hz0 hz1 hz2 u0 l.length (bv l) rfl (HF.out.two _ _) (t.extract i j) rfl (by unfold maxLen; omega) (by omega) (by have := HF.out.le; simp; omega) (wr.heap.size + 2) (by simp) ?_; intro v1 w7 hown7 hgrow7 hat7; have HG7 : Hid (Fl B w w7 ov v1 (l ++ row (t.extract i j))) := HF.out.grown (below_alloc2 wr _ _) hgrow7 (by rcases hat7 with e | e; exact .inl e; exact .inr ⟨_, e, by omega⟩) (by rw [bv_append, List.length_append, row_length, ← strCells_bv]; exact hown7); clear hown7 hgrow7 hat7))
          go_roundw
          case rel => exact ⟨k + 1, by omega, by go_num, by rw [HS2.out]; exact HG7.out⟩
          case measure => simp [intOf]; omega
    · have hkN : k = temp.length := by omega
      have HE : Hid (temp.take k = temp) := by rw [Hid, hkN]; exact List.take_length
      clear hlt
      go_wp2_with fail
      go_ret
      refine ⟨_, rfl, ?_⟩
      have := HF.out
      rw [HE.out] at this
      exact this
end Ee
end Go.Proofs.YtppjlpihaocdiaaGreatDoor

