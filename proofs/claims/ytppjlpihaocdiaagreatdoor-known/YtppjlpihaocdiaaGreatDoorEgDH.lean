/- Several texts in one. -/
import Derived.Test.YtppjlpihaocdiaaGreatDoorEgBH
import Derived.Maps.AppendAt
/- A part of the proof. -/
set_option linter.unusedSimpArgs false
set_option linter.unusedVariables false
namespace Go.Proofs.YtppjlpihaocdiaaGreatDoor
namespace Ee
open Go.RowKit
open Rs (Cm Wh Pc own_of)
def Lies (w : World) (A : Addr) (l : List UInt8) : Prop := ∀ j u, (bv l)[j]? = some u → w.cell? (A.add j) = some u
theorem back_of_lies {w : World} {A : Addr} {cap : Nat} {l : List UInt8} (h : Lies w A l) : (convert 99 9 (.slice (some A) l.length cap)).run Tryz.prog w = .ok (.string (txt l)) w :=
  run_convert_bytes_back (P := Tryz.prog) w 99 9 5 A cap l Tryz.underlying99 Tryz.underlying5 Tryz.underlying9 (fun j hj => h j _ (by simp [bv, List.getElem?_eq_getElem hj]))
set_option maxHeartbeats 1000000 in
theorem clone_nil (w : World) : Calls Tryz.prog 76 #[.slice none 0 0] w fun e w' => e = .returned (.slice none 0 0) ∧ w' = w := by
  have n41 : ∀ (W : World), (binOp .eql 99 (.slice none 0 0) (.slice none 0 0)).run Tryz.prog W = .ok (.bool true) W := fun W => Lib.run_eql_slice_nil W _ _ none 0 0 0 0 Tryz.underlying99
  go_enter Tryz.func76, Tryz.ntmps76
  go_wp2_with fail
  go_ret
  exact ⟨rfl, rfl⟩
theorem own_new0 (w : World) (cs : Array Value) (hc : cs.size = 0) : (w.alloc (.cells cs 5)).ownsRow w.heap.size 5 1 (.slice (some ⟨w.heap.size, 0, none⟩) 0 0) 0 [] := by
  refine ⟨rfl, .inr ⟨w.heap.size, 0, cs, rfl, Nat.le_refl _, heap_alloc_new w _, Nat.le_refl _, by unfold maxLen; omega, by omega, by simp⟩⟩
set_option maxHeartbeats 1000000 in
theorem clone_some (w : World) (A : Addr) (c : Nat) (l : List UInt8) (h : Lies w A l) (hA : A.block < w.heap.size) (hl : l.length ≤ 70368744177664) : Calls Tryz.prog 76 #[.slice (some A) l.length c] w fun e w' => ∃ nv, e = .returned nv ∧ Below w.heap.size w w' ∧ w'.ownsRow w.heap.size 5 1 nv l.length (bv l) := by
  obtain ⟨i0, hi0, hz0, hz1, hz2⟩ := info_parts Rs.Tryz.info5
  have s41 : ∀ (W : World) (x : Addr) (n c : Nat), (binOp .eql 99 (.slice (some x) n c) (.slice none 0 0)).run Tryz.prog W = .ok (.bool false) W := fun W x n c => Lib.run_eql_slice_nil W _ _ (some x) n c 0 0 Tryz.underlying99
  have HL : Hid (Lies w A l) := h
  have HL2 : Hid (∀ o, Lies (w.alloc o) A l) := fun o j u hu => by
    have := h j u hu
    rw [← this]
    exact World.cell?_of_block (w := w) (w' := w.alloc o) (a := A.add j) (Below.heap_alloc _ _ _ (by have e : (A.add j).block = A.block := by unfold Addr.add; split <;> rfl
                                                                                                     rw [e]; exact hA))
  clear h
  go_enter Tryz.func76, Tryz.ntmps76
  go_wp2_with (at_builtin; (refine wpList_append_own_at _ rfl _ _ 99 rfl w.heap.size 5 i0 (.int .u8 0) 1 1 Tryz.underlying99 hi0 hz0 hz1 hz2 rfl (by omega) (.slice (some ⟨w.heap.size, 0, none⟩) 0 0) 0 [] rfl (own_new0 w _ rfl) A l.length c (bv l) rfl (by rw [bv_length, Nat.mul_one]) (HL2.out _) (fun x hx => by simp [bv] at hx; obtain ⟨y, _, rfl⟩ := hx; rfl) (by unfold maxLen; omega) (by omega) (by simp) ?_; intro v' w1 hown hgrow hnil hat; have HO : Hid (w1.ownsRow w.heap.size 5 1 v' l.length (bv l)) := (by rw [Nat.zero_add] at hown; exact hown); have HB : Hid (Below w.heap.size w w1) := (below_alloc w _).trans ⟨hgrow.os, hgrow.tape, hgrow.output, hgrow.size, fun k hk => hgrow.block k (by simp; omega) (by simp [Value.ownBlock]; omega)⟩; clear hown hgrow hnil hat))
  go_ret
  exact ⟨_, rfl, HB.out, HO.out⟩
theorem At.lies {w : World} {b : Nat} {cf : Cf} {E : Ed} {v : Ev} (h : At w b cf E v) {g cap : Nat} (e : v.ot = .slice (some ⟨g, 0, none⟩) E.out.length cap) (i n : Nat) (hi : i + n ≤ E.out.length) : Lies w ⟨g, i, none⟩ ((E.out.drop i).take n) := by
  intro j u hu
  have ho := h.ot
  rw [e] at ho
  have hj : j < n := by
    rcases Nat.lt_or_ge j n with e | e
    · exact e
    · rw [List.getElem?_eq_none (by rw [bv_length, List.length_take]; omega)] at hu; cases hu
  have ea : (⟨g, i, none⟩ : Addr).add j = ⟨g, i + j, none⟩ := by unfold Addr.add; split <;> simp_all
  rw [ea, ho.cellAt (i + j) (by omega), ← hu]
  simp [bv, List.getElem?_take, hj, List.getElem?_drop]
theorem takeN_int (E : Ed) (n : Int) : min (max n 0) (E.ready : Int) = ((E.takeN n : Nat) : Int) := by
  unfold Ed.takeN
  omega
theorem At.cloned {w w5 : World} {b : Nat} {cf : Cf} {E : Ed} {v : Ev} {nv : Value} {l : List UInt8} (h : At w b cf E v) (hB : Below w.heap.size w w5) (hown : w5.ownsRow w.heap.size 5 1 nv l.length (bv l)) :
    Row w5 b (edL cf E v) ∧ Ok w b cf v { E with out := l, taken := 0 } ((w5.setCell ⟨b, 9, none⟩ nv).setCell ⟨b, 10, none⟩ (.int .i64 0)) := by
  obtain ⟨h1, h2⟩ := h.got (w2 := w5) (nv := nv) (l := l) (Gn.below hB fun k hk => .inr (hown.lt k hk).1) (World.ownsRow.mono hown (by omega))
  exact ⟨h1, h2.ok.put (E' := { E with out := l, taken := 0 }) (fun v' h' => ⟨(Sole.refl _ _).setCell _ _, rput h'.row 10 _ (by omega) rfl⟩)⟩
theorem At.cloned2 {u w w5 : World} {b : Nat} {cf : Cf} {E : Ed} {v v1 : Ev} {nv : Value} {l : List UInt8} (h : At w b cf E v1) (hF : Fe b v v1 u w) (hB : Below w.heap.size w w5) (hown : w5.ownsRow w.heap.size 5 1 nv l.length (bv l)) :
    Row w5 b (edL cf E v1) ∧ Ok u b cf v { E with out := l, taken := 0 } ((w5.setCell ⟨b, 9, none⟩ nv).setCell ⟨b, 10, none⟩ (.int .i64 0)) := by
  obtain ⟨h1, v2, y1, y2⟩ := h.cloned hB hown
  exact ⟨h1, v2, y1, hF.trans y2⟩
theorem take_eq (E : Ed) (n : Int) : E.take n = if E.out.length ≤ 2 * (E.taken + E.takeN n) then ({ E with out := E.out.drop (E.taken + E.takeN n), taken := 0 }, txt ((E.out.drop E.taken).take (E.takeN n))) else ({ E with taken := E.taken + E.takeN n }, txt ((E.out.drop E.taken).take (E.takeN n))) := rfl
def TQ (cf : Cf) (b : Nat) (r : Ed × ByteArray) (w : World) (v : Ev) : Ending → World → Prop := fun e w' => e = .returned (.string r.2) ∧ Ok w b cf v r.1 w'
set_option maxRecDepth 100000 in
set_option maxHeartbeats 4000000 in
theorem wtake_any (b : Nat) (cf : Cf) (E : Ed) (v : Ev) (n : Int) (w : World) (h : At w b cf E v) (ht : E.taken ≤ E.out.length) (hl : E.out.length ≤ 70368744177664) :
    Calls Tryz.prog 52 #[.pointer (some ⟨b, 9, none⟩), .int .i64 n] w (TQ cf b (E.take n) w v) := by
  have HA : Hid (At w b cf E v) := h
  have m10 := h.cell (k := 10) rfl
  have f9 := h.frz 9 (by omega)
  have f10 := h.frz 10 (by omega)
  have hL := wready_any b cf E v w h ht hl
  have q1 := takeN_int E n
  have hk : E.taken + E.takeN n ≤ E.out.length := by unfold Ed.takeN Ed.ready; omega
  have m9 := h.cell (k := 9) rfl
  have HTE : Hid _ := take_eq E n
  rcases own_form2 h.ot with ⟨e, e0⟩ | ⟨g, cap, e, hcap⟩
  · rw [e] at m9
    have ho : E.out = [] := List.length_eq_zero_iff.1 e0
    have ht0 : E.taken = 0 := by omega
    have hk0 : E.takeN n = 0 := by omega
    have HT2 : Hid (E.take n = ({ E with out := [], taken := 0 }, txt [])) := by
      rw [Hid, HTE.out, hk0, ht0, ho]
      rfl
    have hcv : ∀ m, (convert 99 9 (.slice none 0 0)).run Tryz.prog (w.drewN m) = .ok (.string (txt [])) (w.drewN m) := fun m => bytes_txt 0 (.slice none 0 0) [] (w.drewN m) (World.ownsRow_nil _ _ _ 1)
    have HOK : Hid (∀ m, Ok w b cf v { E with out := [], taken := 0 } ((((w.setCell ⟨b, 10, none⟩ (.int .i64 0)).setCell ⟨b, 9, none⟩ (.slice none 0 0)).setCell ⟨b, 10, none⟩ (.int .i64 0)).drewN m)) := fun m => by
      have ho2 : E = { E with out := [] } := by cases E; simp at ho; simp [ho]
      refine (h.put (E' := { E with out := [], taken := 0 }) ((((Sole.refl _ _).setCell _ _).setCell _ _).setCell _ _) (rput (E := { E with out := [], taken := 0 }) (rput (E := { E with taken := 0 }) (rput h.row 10 _ (by omega) rfl) 9 _ (by omega) ?_) 10 _ (by omega) rfl) rfl ho.symm).drewN m
      simp [edL, e]
    have HC0 : Hid (∀ W, Calls Tryz.prog 76 #[.slice none 0 0] W fun e w' => e = .returned (.slice none 0 0) ∧ w' = W) := clone_nil
    rw [hk0] at q1 hk
    rw [ht0] at m10
    generalize E.ready = rd at q1 hL
    rw [HT2.out]
    generalize txt ([] : List UInt8) = T at hcv ⊢
    clear h e hk ht hl HTE e0 ho ht0 hk0
    go_enter Tryz.func52, Tryz.ntmps52
    go_wp2_with fail
    refine hL.mono ?_
    rintro e w1 ⟨rfl, n1, rfl⟩
    clear hL
    go_wp2_with fail
    go_region
    all_goals
      go_wp2_with fail
      go_region
      all_goals
        go_wp2_with fail
        go_region_with (first
          | (go_at_call 76; (refine (HC0.out _).mono ?_; rintro e w5 ⟨rfl, hw5⟩; subst hw5)))
        all_goals
          go_wp2_with fail
          go_ret
          first
            | exact ⟨rfl, HOK.out (n1 + 3)⟩
            | exact ⟨rfl, HOK.out (n1 + 1 + 1 + 1)⟩
            | exact ⟨rfl, HOK.out (n1 + 2)⟩
  · rw [e] at m9
    have hlt := (h.ot.lt g (by rw [e]; rfl)).2
    have hgb : g ≠ b := fun e2 => h.ap.b2 (by rw [e, ← e2]; rfl)
    generalize hkk : E.takeN n = k at q1 hk HTE
    generalize E.ready = rd at q1 hL
    obtain ⟨A, hA, hLA⟩ : ∃ A : Addr, (if cap = E.taken then some (⟨g, 0, none⟩ : Addr) else some ⟨g, E.taken, none⟩) = some A ∧ Lies w A ((E.out.drop E.taken).take k) := by
      by_cases ec : cap = E.taken
      · refine ⟨⟨g, 0, none⟩, by rw [if_pos ec], ?_⟩
        have hk0 : k = 0 := by omega
        subst hk0
        exact fun j u hu => by simp [bv] at hu
      · exact ⟨⟨g, E.taken, none⟩, by rw [if_neg ec], h.lies e E.taken k hk⟩
    have hsub : E.taken + k - E.taken = k := by omega
    have hcv : ∀ m, (convert 99 9 (.slice (some A) k (cap - E.taken))).run Tryz.prog (w.drewN m) = .ok (.string (txt ((E.out.drop E.taken).take k))) (w.drewN m) := fun m => by
      have el : k = ((E.out.drop E.taken).take k).length := by simp; omega
      have := back_of_lies (w := w.drewN m) (A := A) (cap := cap - E.taken) (l := (E.out.drop E.taken).take k) hLA
      rw [← el] at this
      exact this
    have HO1 : Hid (Ok w b cf v { E with taken := E.taken + k } (w.setCell ⟨b, 10, none⟩ (.int .i64 ((E.taken : Int) + (k : Int))))) := h.put ((Sole.refl _ _).setCell _ _) (rput h.row 10 _ (by omega) (by simp [edL]))
    clear hLA
    generalize txt ((E.out.drop E.taken).take k) = T at hcv HTE
    by_cases h2 : E.out.length ≤ 2 * (E.taken + k)
    · have HT2 : Hid (E.take n = ({ E with out := E.out.drop (E.taken + k), taken := 0 }, T)) := by rw [Hid, HTE.out, if_pos h2]
      obtain ⟨v1, hA1, hF1⟩ := HO1.out
      have hv1 : v1.ot = v.ot ∨ True := .inr trivial
      obtain ⟨A2, hA2, hLA2, hAb⟩ : ∃ A2 : Addr, (if cap = E.taken + k then some (⟨g, 0, none⟩ : Addr) else some ⟨g, E.taken + k, none⟩) = some A2 ∧ Lies (w.setCell ⟨b, 10, none⟩ (.int .i64 ((E.taken : Int) + (k : Int)))) A2 (E.out.drop (E.taken + k)) ∧ A2.block = g := by
        have key : Lies w ⟨g, E.taken + k, none⟩ (E.out.drop (E.taken + k)) := by
          have := h.lies e (E.taken + k) (E.out.length - (E.taken + k)) (by omega)
          rw [List.take_of_length_le (by rw [List.length_drop]; exact Nat.le_refl _)] at this
          exact this
        have far : ∀ j, (w.setCell ⟨b, 10, none⟩ (.int .i64 ((E.taken : Int) + (k : Int)))).cell? ((⟨g, E.taken + k, none⟩ : Addr).add j) = w.cell? ((⟨g, E.taken + k, none⟩ : Addr).add j) := fun j => by
          have hs : Sole b w (w.setCell ⟨b, 10, none⟩ (.int .i64 ((E.taken : Int) + (k : Int)))) := (Sole.refl _ _).setCell _ _
          have eb : ((⟨g, E.taken + k, none⟩ : Addr).add j).block = g := by unfold Addr.add; split <;> rfl
          exact World.cell?_of_block (hs.block _ (by rw [eb]; exact hgb))
        by_cases ec : cap = E.taken + k
        · refine ⟨⟨g, 0, none⟩, by rw [if_pos ec], ?_, rfl⟩
          have e0 : E.out.drop (E.taken + k) = [] := List.drop_eq_nil_of_le (by omega)
          rw [e0]
          exact fun j u hu => by simp [bv] at hu
        · exact ⟨⟨g, E.taken + k, none⟩, by rw [if_neg ec], fun j u hu => (far j).trans (key j u hu), rfl⟩
      have hl2 : (E.out.drop (E.taken + k)).length = E.out.length - (E.taken + k) := List.length_drop
      have HCL : Hid (∀ (W : World) (c : Nat), Lies W A2 (E.out.drop (E.taken + k)) → A2.block < W.heap.size → Calls Tryz.prog 76 #[.slice (some A2) (E.out.length - (E.taken + k)) c] W fun e w' => ∃ nv, e = .returned nv ∧ Below W.heap.size W w' ∧ w'.ownsRow W.heap.size 5 1 nv (E.out.drop (E.taken + k)).length (bv (E.out.drop (E.taken + k)))) := fun W c h1 h2 => by
        have := clone_some W A2 c (E.out.drop (E.taken + k)) h1 h2 (by omega)
        rw [hl2] at this ⊢
        exact this
      have HLA2 : Hid (Lies (w.setCell ⟨b, 10, none⟩ (.int .i64 ((E.taken : Int) + (k : Int)))) A2 (E.out.drop (E.taken + k))) := hLA2
      have hAb2 : A2.block < w.heap.size := by rw [hAb]; exact hlt
      have HA1 : Hid (At (w.setCell ⟨b, 10, none⟩ (.int .i64 ((E.taken : Int) + (k : Int)))) b cf { E with taken := E.taken + k } v1) := hA1
      have HF1 : Hid (Fe b v v1 w (w.setCell ⟨b, 10, none⟩ (.int .i64 ((E.taken : Int) + (k : Int))))) := hF1
      generalize E.out.drop (E.taken + k) = l2 at HT2 HCL HLA2
      rw [HT2.out]
      clear h e HTE hLA2 hl2 hA1 hF1 hv1 hAb hkk
      have hsz1 : (w.setCell ⟨b, 10, none⟩ (.int .i64 ((E.taken : Int) + (k : Int)))).heap.size = w.heap.size := by simp
      have HSZ : Hid ((w.setCell ⟨b, 10, none⟩ (.int .i64 ((E.taken : Int) + (k : Int)))).heap.size = w.heap.size) := hsz1
      clear hsz1
      have z1 : (0 : Int) ≤ (E.taken : Int) + (k : Int) := by omega
      have z2 : (E.taken : Int) + (k : Int) ≤ (E.out.length : Int) := by omega
      have z3 : ((E.taken : Int) + (k : Int)).toNat = E.taken + k := by omega
      have z4 : (E.taken : Int) + (k : Int) ≤ (cap : Int) := by omega
      go_enter Tryz.func52, Tryz.ntmps52
      go_wp2_with fail
      refine hL.mono ?_
      rintro e w1 ⟨rfl, n1, rfl⟩
      clear hL
      go_wp2_with fail
      go_region
      all_goals
        go_wp2_with fail
        go_region
        all_goals
          go_wp2_with fail
          go_region_with (first
            | (go_at_call 76; (have hCL := HCL.out (((w.drewN (n1 + 1)).setCell ⟨b, 10, none⟩ (.int .i64 ((E.taken : Int) + (k : Int)))).drew.drew) (cap - (E.taken + k)) (fun j u hu => HLA2.out j u hu) (Nat.lt_of_lt_of_eq hAb2 HSZ.out.symm); refine hCL.mono ?_; clear hCL; rintro e w5 ⟨nv, rfl, hB, hown⟩; obtain ⟨ao, cz, hnv⟩ := own_form hown; subst hnv; have HFIN : Hid (Row w5 b (edL cf { E with taken := E.taken + k } v1) ∧ Ok w b cf v { E with out := l2, taken := 0 } ((w5.setCell ⟨b, 9, none⟩ (.slice ao l2.length cz)).setCell ⟨b, 10, none⟩ (.int .i64 0))) := HA1.out.cloned2 HF1.out ⟨hB.os, hB.tape, hB.output, hB.size, hB.block⟩ hown; have k9 := HFIN.out.1.cell (k := 9) rfl; have kf9 := HFIN.out.1.frozen (k := 9) (by rw [edL_length]; omega); have k10 := HFIN.out.1.cell (k := 10) rfl; have kf10 := HFIN.out.1.frozen (k := 10) (by rw [edL_length]; omega); clear hB hown)))
          all_goals
            go_wp2_with fail
            go_ret
            exact ⟨rfl, HFIN.out.2⟩
    · have HT2 : Hid (E.take n = ({ E with taken := E.taken + k }, T)) := by rw [Hid, HTE.out, if_neg h2]
      have HOK : Hid (∀ m, Ok w b cf v { E with taken := E.taken + k } ((w.setCell ⟨b, 10, none⟩ (.int .i64 ((E.taken : Int) + (k : Int)))).drewN m)) := fun m => HO1.out.drewN m
      rw [HT2.out]
      clear h e HTE hkk
      go_enter Tryz.func52, Tryz.ntmps52
      go_wp2_with fail
      refine hL.mono ?_
      rintro e w1 ⟨rfl, n1, rfl⟩
      clear hL
      go_wp2_with fail
      go_region
      all_goals
        go_wp2_with fail
        go_region
        all_goals
          go_wp2_with fail
          go_ret
          first
            | exact ⟨rfl, HOK.out (n1 + 3)⟩
            | exact ⟨rfl, HOK.out (n1 + 1 + 1 + 1)⟩
            | exact ⟨rfl, HOK.out (n1 + 2)⟩
set_option maxHeartbeats 1000000 in
theorem take_any (b : Nat) (cf : Cf) (E : Ed) (v : Ev) (n : Int) (w : World) (h : At w b cf E v) (ht : E.taken ≤ E.out.length) (hl : E.out.length ≤ 70368744177664) :
    Calls Tryz.prog 31 #[.pointer (some ⟨b, 0, none⟩), .int .i64 n] w (TQ cf b (E.take n) w v) := by
  have hL := wtake_any b cf E v n w h ht hl
  clear h
  generalize E.take n = r at hL ⊢
  go_enter Tryz.func31, Tryz.ntmps31
  go_wp2_with fail
  refine hL.mono ?_
  rintro e w2 ⟨rfl, hO⟩
  have HO : Hid (Ok w b cf v r.1 w2) := hO
  clear hL hO
  go_wp2_with fail
  go_ret
  exact ⟨rfl, HO.out⟩
end Ee
end Go.Proofs.YtppjlpihaocdiaaGreatDoor

/- A part of the proof. -/
set_option linter.unusedSimpArgs false
set_option linter.unusedVariables false
namespace Go.Proofs.YtppjlpihaocdiaaGreatDoor
namespace Ee
open Go.RowKit
open Rs (Cm Wh Pc own_of)
def wit (n m : Int) : Bool := decide (1 ≤ n ∧ n ≤ m)
set_option maxHeartbeats 1000000 in
theorem within_any (n m : Int) (w : World) : Calls Tryz.prog 71 #[.int .i64 n, .int .i64 m] w fun e w' => e = .returned (.bool (wit n m)) ∧ w' = w := by
  by_cases h1 : 1 ≤ n
  · have q1 : decide ((1 : Int) ≤ n) = true := by simpa using h1
    have HW : Hid (wit n m = decide (n ≤ m)) := by rw [Hid, wit, decide_eq_decide]; omega
    rw [HW.out]
    rcases bool_or (decide (n ≤ m)) with h2 | h2
    all_goals
      rw [h2]
      go_enter Tryz.func71, Tryz.ntmps71
      go_wp2_with fail
      go_ret
      exact ⟨rfl, rfl⟩
  · have q1 : decide ((1 : Int) ≤ n) = false := by simpa using h1
    have HW : Hid (wit n m = false) := by rw [Hid, wit]; simp; omega
    rw [HW.out]
    go_enter Tryz.func71, Tryz.ntmps71
    go_wp2_with fail
    go_ret
    exact ⟨rfl, rfl⟩
def alw (a b c : Int) : Bool := wit a 80 && wit b 80 && wit c 1000
set_option maxHeartbeats 1000000 in
theorem allowed_any (a b c : Int) (q : Bool) (w : World) : Calls Tryz.prog 46 #[.agg #[.int .i64 a, .int .i64 b, .int .i64 c, .bool q]] w fun e w' => e = .returned (.bool (alw a b c)) ∧ Below w.heap.size w w' := by
  have HA : Hid (alw a b c = (wit a 80 && wit b 80 && wit c 1000)) := rfl
  have h1 := fun W => within_any a 80 W
  have h2 := fun W => within_any b 80 W
  have h3 := fun W => within_any c 1000 W
  rw [HA.out]
  generalize wit a 80 = x at h1 ⊢
  generalize wit b 80 = y at h2 ⊢
  generalize wit c 1000 = z at h3 ⊢
  have H1 : Hid _ := h1
  have H2 : Hid _ := h2
  have H3 : Hid _ := h3
  have HB : Hid (∀ o, Below w.heap.size w (w.alloc o)) := fun o => below_alloc w o
  clear h1 h2 h3 HA
  rcases bool_or x with hx | hx <;> subst hx
  · rcases bool_or y with hy | hy <;> subst hy
    · go_enter Tryz.func46, Tryz.ntmps46
      go_wp2_with fail
      refine (H1.out _).mono ?_
      rintro e w1 ⟨rfl, hw⟩
      subst hw
      go_wp2_with fail
      refine (H2.out _).mono ?_
      rintro e w1 ⟨rfl, hw⟩
      subst hw
      go_wp2_with fail
      refine (H3.out _).mono ?_
      rintro e w1 ⟨rfl, hw⟩
      subst hw
      go_wp2_with fail
      go_ret
      exact ⟨rfl, HB.out _⟩
    · go_enter Tryz.func46, Tryz.ntmps46
      go_wp2_with fail
      refine (H1.out _).mono ?_
      rintro e w1 ⟨rfl, hw⟩
      subst hw
      go_wp2_with fail
      refine (H2.out _).mono ?_
      rintro e w1 ⟨rfl, hw⟩
      subst hw
      go_wp2_with fail
      go_ret
      exact ⟨rfl, HB.out _⟩
  · go_enter Tryz.func46, Tryz.ntmps46
    go_wp2_with fail
    refine (H1.out _).mono ?_
    rintro e w1 ⟨rfl, hw⟩
    subst hw
    go_wp2_with fail
    go_ret
    exact ⟨rfl, HB.out _⟩
theorem Tryz.infoBool : (Tryz.prog.info? 4).map (fun i => (i.zero, i.size, i.bytes)) = some (some (.bool false), 1, 1) := by kernel_rfl
theorem run_MB (n : Nat) (hn : n ≤ 100000) : ∃ A : Array Value, A.size = n ∧ A.toList = ov (List.replicate n false) ∧ ∀ W : World, (Instr.makeSlice 109 (.int .i64 (n : Int)) (.int .i64 (n : Int))).run Tryz.prog W = .ok (.slice (some ⟨W.heap.size, 0, none⟩) n n) (W.alloc (.cells A 4)) := by
  obtain ⟨i0, hi0, hz0, hz1, hz2⟩ := info_parts Tryz.infoBool
  refine ⟨madeCells (Value.bool false).cells (n * 1), by simp [size_madeCells], ?_, fun W => ?_⟩
  · have e : (Value.bool false).cells = #[.bool false] := rfl
    rw [e, toList_madeCells_one, Nat.mul_one]
    simp [ov]
  · have := run_make (P := Tryz.prog) W 109 4 i0 _ Tryz.underlying109 hi0 hz0 .i64 .i64 n n (by omega) (Int.le_refl _) (by rw [hz2]; omega) (by omega)
    rw [hz1] at this
    simpa using this
end Ee
end Go.Proofs.YtppjlpihaocdiaaGreatDoor

/- A part of the proof. -/
set_option linter.unusedSimpArgs false
set_option linter.unusedVariables false
namespace Go.Proofs.YtppjlpihaocdiaaGreatDoor
namespace Ee
open Rs (Cm Wh Pc)
theorem pun_jump {f : Ed → Ed} (h : Pu f) (k : Ed → Nat) (hk : ∀ E o t, k (E.re o t) = k E) : PuN fun E => (f E).jump (k (f E)) := fun E o t => by
  obtain ⟨d, h1, h2, h3⟩ := h E o t
  refine ⟨d, h1, h2, ?_⟩
  show (f (E.re o t)).jump (k (f (E.re o t))) = _
  rw [h3, hk]
  rfl
theorem pu_id : Pu fun E => E := fun E o t => ⟨[], by simp, rfl, by simp⟩
theorem pun_same (n : Nat) : PuN fun E => (E, n) := fun E o t => ⟨[], by simp, rfl, by simp⟩
theorem pun_nextTail (cf : Cf) (j : Bool) : PuN (Ed.nextTail cf j) := fun E o t => by
  have e1 : (E.re o t).atHand cf = E.atHand cf := rfl
  obtain ⟨d, h1, h2, h3⟩ := pu_readBy cf j E o t
  by_cases ha : E.atHand cf = true
  · by_cases hr : (E.readBy cf j).2 = true
    · have q1 : E.nextTail cf j = (E.readBy cf j).1.jump ((E.readBy cf j).1.at' + 1) := by rw [Ed.nextTail, if_pos ha, if_pos hr]
      have q2 : (E.re o t).nextTail cf j = ((E.readBy cf j).1.re (o ++ d) t).jump ((E.readBy cf j).1.at' + 1) := by rw [Ed.nextTail, e1, if_pos ha, h3, if_pos hr]; rfl
      rw [q1, q2]
      exact ⟨d, h1, h2, rfl⟩
    · have q1 : E.nextTail cf j = ((E.readBy cf j).1, 0) := by rw [Ed.nextTail, if_pos ha, if_neg hr]
      have q2 : (E.re o t).nextTail cf j = ((E.readBy cf j).1.re (o ++ d) t, 0) := by rw [Ed.nextTail, e1, if_pos ha, h3, if_neg hr]
      rw [q1, q2]
      exact ⟨d, h1, h2, rfl⟩
  · have q1 : E.nextTail cf j = (E, 0) := by rw [Ed.nextTail, if_neg ha]
    have q2 : (E.re o t).nextTail cf j = (E.re o t, 0) := by rw [Ed.nextTail, e1, if_neg ha]
    rw [q1, q2]
    exact ⟨[], by simp, rfl, by simp⟩
theorem pun_doNext (cf : Cf) (j : Bool) : PuN fun E => E.doNext cf j := fun E o t => by
  have es : (E.re o t).stage = E.stage := rfl
  have ek : (E.re o t).known = E.known := rfl
  have em : (E.re o t).more = E.more := rfl
  by_cases h1 : E.stage = 3 ∧ E.known = false
  · have q1 : E.doNext cf j = (E, 0) := by rw [doNext_eq, if_pos h1]
    have q2 : (E.re o t).doNext cf j = (E.re o t, 0) := by rw [doNext_eq, es, ek, if_pos h1]
    simp only [q1, q2]
    exact ⟨[], by simp, by first | rfl | trivial, by simp⟩
  by_cases h2 : E.stage = 3 ∧ E.more = false
  · have q1 : E.doNext cf j = (E, 4) := by rw [doNext_eq, if_neg h1, if_pos h2]
    have q2 : (E.re o t).doNext cf j = (E.re o t, 4) := by rw [doNext_eq, es, ek, em, if_neg h1, if_pos h2]
    simp only [q1, q2]
    exact ⟨[], by simp, by first | rfl | trivial, by simp⟩
  by_cases h3 : E.stage = 3
  · cases j with
    | true =>
      have q1 : E.doNext cf true = ({ E with stage := 4 } : Ed).nextTail cf true := by rw [doNext_eq, if_neg h1, if_neg h2, if_pos h3]; rfl
      have q2 : (E.re o t).doNext cf true = (({ E with stage := 4 } : Ed).re o t).nextTail cf true := by rw [doNext_eq, es, ek, em, if_neg h1, if_neg h2, if_pos h3]; rfl
      simp only [q1, q2]
      exact pun_nextTail cf true { E with stage := 4 } o t
    | false =>
      obtain ⟨d, k1, k2, k3⟩ := pu_comp (pu_printSpace cf) pu_printComing E o t
      have k3' : ((E.re o t).printSpace cf).printComing = ((E.printSpace cf).printComing).re (o ++ d) t := k3
      have q1 : E.doNext cf false = ({ (E.printSpace cf).printComing with stage := 4 } : Ed).nextTail cf false := by rw [doNext_eq, if_neg h1, if_neg h2, if_pos h3]; rfl
      have q2 : (E.re o t).doNext cf false = (({ (E.printSpace cf).printComing with stage := 4 } : Ed).re (o ++ d) t).nextTail cf false := by
        have q : (E.re o t).doNext cf false = ({ ((E.re o t).printSpace cf).printComing with stage := 4 } : Ed).nextTail cf false := by rw [doNext_eq, es, ek, em, if_neg h1, if_neg h2, if_pos h3]; rfl
        rw [q, k3']
        rfl
      simp only [q1, q2]
      obtain ⟨d', g1, g2, g3⟩ := pun_nextTail cf false { (E.printSpace cf).printComing with stage := 4 } (o ++ d) t
      exact ⟨d ++ d', by rw [g1]; show (E.printSpace cf).printComing.out ++ d' = _; rw [show (E.printSpace cf).printComing.out = E.out ++ d from k1, List.append_assoc], by rw [g2]; exact k2, by rw [g3, List.append_assoc]⟩
  · have q1 : E.doNext cf j = E.nextTail cf j := by rw [doNext_eq, if_neg h1, if_neg h2, if_neg h3]
    have q2 : (E.re o t).doNext cf j = (E.re o t).nextTail cf j := by rw [doNext_eq, es, ek, em, if_neg h1, if_neg h2, if_neg h3]
    simp only [q1, q2]
    exact pun_nextTail cf j E o t
theorem pun_doD : PuN Ed.doD := fun E o t => by
  have ep : (E.re o t).pat = E.pat := rfl
  cases hd : dropLine E.pat with
  | none =>
    have q2 : (E.re o t).doD = (E.re o t, 3) := doD_none (by rw [ep]; exact hd)
    rw [doD_none hd, q2]
    exact ⟨[], by simp, rfl, by simp⟩
  | some x =>
    have q2 : (E.re o t).doD = ((({ E with pat := x } : Ed).re o t).printComing, 2) := doD_some (E := E.re o t) (by rw [ep]; exact hd)
    rw [doD_some hd, q2]
    obtain ⟨d, h1, h2, h3⟩ := pu_printComing { E with pat := x } o t
    exact ⟨d, h1, h2, by rw [h3]⟩
theorem pun_doIt (mf : Mf) (cf : Cf) (x : Cm) : PuN fun E => E.doIt mf cf x := by
  by_cases k1 : x.kind = 1
  · have e : (fun E : Ed => E.doIt mf cf x) = fun E => (E, 3) := funext fun E => by rw [Ed.doIt, if_pos k1]
    rw [e]; exact pun_same 3
  by_cases k2 : x.kind = 2
  · have e : (fun E : Ed => E.doIt mf cf x) = Ed.doD := funext fun E => by rw [Ed.doIt, if_neg k1, if_pos k2]; rfl
    rw [e]; exact pun_doD
  by_cases k16 : x.kind = 16
  · have e : (fun E : Ed => E.doIt mf cf x) = fun E => (E.print x.text, 3) := funext fun E => by rw [Ed.doIt, if_neg k1, if_neg k2, if_pos k16]
    rw [e]
    intro E o t
    obtain ⟨d, h1, h2, h3⟩ := pu_print (fun _ => x.text) (fun _ _ _ => rfl) E o t
    exact ⟨d, h1, h2, by show ((E.re o t).print x.text, 3) = _; rw [show (E.re o t).print x.text = (E.print x.text).re (o ++ d) t from h3]⟩
  by_cases k34 : x.kind = 3 ∨ x.kind = 4
  · have e : (fun E : Ed => E.doIt mf cf x) = fun E => E.doNext cf (decide (x.kind = 4)) := funext fun E => by rw [Ed.doIt, if_neg k1, if_neg k2, if_neg k16, if_pos k34]
    rw [e]; exact pun_doNext cf _
  by_cases k13 : x.kind = 13
  · have e : (fun E : Ed => E.doIt mf cf x) = fun E => ({ E with state := 2 }, 4) := funext fun E => by rw [Ed.doIt, if_neg k1, if_neg k2, if_neg k16, if_neg k34, if_pos k13]
    rw [e]
    exact fun E o t => ⟨[], by simp, rfl, by simp [Ed.re]⟩
  by_cases k17 : x.kind = 17
  · have e : (fun E : Ed => E.doIt mf cf x) = fun E => E.jump x.goal := funext fun E => by rw [Ed.doIt, if_neg k1, if_neg k2, if_neg k16, if_neg k34, if_neg k13, if_pos k17]
    rw [e]; exact pun_jump pu_id (fun _ => x.goal) (fun _ _ _ => rfl)
  by_cases k18 : x.kind = 18
  · have e : (fun E : Ed => E.doIt mf cf x) = fun E => if E.put = true then ({ E with put := false } : Ed).jump x.goal else E.jump (E.at' + 1) := funext fun E => by rw [Ed.doIt, if_neg k1, if_neg k2, if_neg k16, if_neg k34, if_neg k13, if_neg k17, if_pos k18]
    rw [e]
    intro E o t
    by_cases hp : E.put = true
    · have q2 : (E.re o t).put = true := hp
      simp only [if_pos hp, if_pos q2]
      exact ⟨[], by simp [Ed.jump], rfl, by simp [Ed.jump, Ed.re]⟩
    · have q2 : ¬ (E.re o t).put = true := hp
      simp only [if_neg hp, if_neg q2]
      exact ⟨[], by simp [Ed.jump], rfl, by simp [Ed.jump, Ed.re]⟩
  have e : (fun E : Ed => E.doIt mf cf x) = fun E => match E.edit mf cf x with | none => E.stop 4 | some E1 => E1.jump (E1.at' + 1) := funext fun E => by rw [Ed.doIt, if_neg k1, if_neg k2, if_neg k16, if_neg k34, if_neg k13, if_neg k17, if_neg k18]; rfl
  rw [e]
  intro E o t
  rcases puo_edit mf cf x E o t with ⟨h1, h2⟩ | ⟨E1, d, h1, h2, h3, h4⟩
  · have h1' : E.edit mf cf x = none := h1
    have h2' : (E.re o t).edit mf cf x = none := h2
    simp only [h1', h2']
    exact ⟨[], by simp [Ed.stop], rfl, by simp [Ed.stop, Ed.re]⟩
  · have h1' : E.edit mf cf x = some E1 := h1
    have h4' : (E.re o t).edit mf cf x = some (E1.re (o ++ d) t) := h4
    simp only [h1', h4']
    exact ⟨d, by simp [Ed.jump, h2], by simp [Ed.jump, h3], rfl⟩
theorem pun_choose (mf : Mf) (cf : Cf) (x : Cm) : PuN fun E => E.choose mf cf x := fun E o t => by
  by_cases h2 : E.stage = 2
  · obtain ⟨s1, s2, s3⟩ := re_selects mf E x o t
    have h2' : (E.re o t).stage = 2 := h2
    simp only [choose_2 h2, choose_2 h2', s1]
    rcases hsr : E.selects mf x with ⟨E2, sel, kn⟩
    rw [hsr] at s2 s3
    simp only at s2 s3 ⊢
    by_cases hk : kn = false
    · rw [if_pos hk, if_pos hk]
      exact ⟨[], by simp [s2], s3, by simp⟩
    · rw [if_neg hk, if_neg hk]
      by_cases hn : sel = x.neg
      · rw [if_pos hn, if_pos hn]
        exact ⟨[], by simp [Ed.jump, s2], by simp [Ed.jump, s3], by simp [Ed.jump, Ed.re]⟩
      · rw [if_neg hn, if_neg hn]
        obtain ⟨d, g1, g2, g3⟩ := pun_doIt mf cf x { E2 with stage := 3 } o t
        exact ⟨d, by rw [g1]; show E2.out ++ d = _; rw [s2], by rw [g2]; exact s3, g3⟩
  · have h2' : (E.re o t).stage ≠ 2 := h2
    simp only [choose_n h2, choose_n h2']
    exact pun_doIt mf cf x E o t
theorem pun_command (mf : Mf) (cf : Cf) : PuN fun E => E.command mf cf := fun E o t => by
  have ea : (E.re o t).at' = E.at' := rfl
  by_cases h1 : E.stage = 1
  · have h1' : (E.re o t).stage = 1 := h1
    by_cases hl : E.looked = cf.fuel
    · have hl' : (E.re o t).looked = cf.fuel := hl
      have q1 : E.command mf cf = E.stop 5 := by rw [Ed.command, if_pos h1, if_pos hl]
      have q2 : (E.re o t).command mf cf = (E.re o t).stop 5 := by rw [Ed.command, if_pos h1', if_pos hl']
      simp only [q1, q2]
      exact ⟨[], by simp [Ed.stop], rfl, by simp [Ed.stop, Ed.re]⟩
    · have hl' : ¬ (E.re o t).looked = cf.fuel := hl
      have q1 : E.command mf cf = ({ E with looked := E.looked + 1, stage := 2 } : Ed).choose mf cf (cf.cmds.getD E.at' noCm) := by rw [Ed.command, if_pos h1, if_neg hl]
      have q2 : (E.re o t).command mf cf = (({ E with looked := E.looked + 1, stage := 2 } : Ed).re o t).choose mf cf (cf.cmds.getD E.at' noCm) := by rw [Ed.command, if_pos h1', if_neg hl']; rfl
      simp only [q1, q2]
      exact pun_choose mf cf _ { E with looked := E.looked + 1, stage := 2 } o t
  · have h1' : ¬ (E.re o t).stage = 1 := h1
    have q1 : E.command mf cf = E.choose mf cf (cf.cmds.getD E.at' noCm) := by rw [Ed.command, if_neg h1]
    have q2 : (E.re o t).command mf cf = (E.re o t).choose mf cf (cf.cmds.getD E.at' noCm) := by rw [Ed.command, if_neg h1']; rfl
    simp only [q1, q2]
    exact pun_choose mf cf _ E o t
theorem pu_workF (mf : Mf) (cf : Cf) : ∀ (f l : Nat), Pu fun E => E.workF mf cf f l
  | 0, l => fun E o t => ⟨[], by simp [Ed.workF], rfl, by simp [Ed.workF]⟩
  | f + 1, l => fun E o t => by
    rcases (by omega : l = 0 ∨ l = 1 ∨ l = 2 ∨ l = 3 ∨ 4 ≤ l) with rfl | rfl | rfl | rfl | hl
    · obtain ⟨d, h1, h2, h3⟩ := pu_begin cf { E with stage := 0 } o t
      have h3' : (({ E.re o t with stage := 0 } : Ed)).begin cf = ((({ E with stage := 0 } : Ed).begin cf).1.re (o ++ d) t, (({ E with stage := 0 } : Ed).begin cf).2) := h3
      simp only [workF_0, h3']
      by_cases hb : (({ E with stage := 0 } : Ed).begin cf).2 = true
      · rw [if_pos hb, if_pos hb]
        obtain ⟨d', g1, g2, g3⟩ := pu_workF mf cf f 1 { (({ E with stage := 0 } : Ed).begin cf).1 with at' := 0 } (o ++ d) t
        refine ⟨d ++ d', ?_, ?_, ?_⟩
        · rw [g1]; show (({ E with stage := 0 } : Ed).begin cf).1.out ++ d' = _; rw [h1, List.append_assoc]
        · rw [g2]; exact h2
        · rw [← List.append_assoc]; exact g3
      · rw [if_neg hb, if_neg hb]
        exact ⟨d, h1, h2, rfl⟩
    · have ea : (E.re o t).at' = E.at' := rfl
      simp only [workF_1, ea]
      split
      · exact pu_workF mf cf f 3 E o t
      · exact pu_workF mf cf f 2 { E with stage := 1 } o t
    · obtain ⟨d, h1, h2, h3⟩ := pun_command mf cf E o t
      have h3' : (E.re o t).command mf cf = ((E.command mf cf).1.re (o ++ d) t, (E.command mf cf).2) := h3
      simp only [workF_2, h3']
      have fin : ∀ (l : Nat) (X : Ed), X.out = (E.command mf cf).1.out → X.taken = (E.command mf cf).1.taken → ∃ d', (X.workF mf cf f l).out = E.out ++ d' ∧ (X.workF mf cf f l).taken = E.taken ∧ (X.re (o ++ d) t).workF mf cf f l = (X.workF mf cf f l).re (o ++ d') t := fun l X hX hT => by
        obtain ⟨d', g1, g2, g3⟩ := pu_workF mf cf f l X (o ++ d) t
        exact ⟨d ++ d', by rw [g1, hX, h1, List.append_assoc], by rw [g2, hT]; exact h2, by rw [← List.append_assoc]; exact g3⟩
      split
      · exact ⟨d, h1, h2, rfl⟩
      · split
        · exact fin 1 _ rfl rfl
        · split
          · exact fin 1 { (E.command mf cf).1 with at' := 0 } rfl rfl
          · split
            · exact fin 4 _ rfl rfl
            · exact fin 3 _ rfl rfl
    · exact pu_comp (pu_printSpace cf) (pu_workF mf cf f 4) E o t
    · have e4 : ∀ X : Ed, X.workF mf cf (f + 1) l = if X.printComing.state = 0 then X.printComing.workF mf cf f 0 else X.printComing := fun X => by
        obtain ⟨m, rfl⟩ : ∃ m, l = m + 4 := ⟨l - 4, by omega⟩
        rfl
      obtain ⟨d, h1, h2, h3⟩ := pu_printComing E o t
      simp only [e4, h3]
      by_cases hs : E.printComing.state = 0
      · have hs' : (E.printComing.re (o ++ d) t).state = 0 := hs
        rw [if_pos hs, if_pos hs']
        obtain ⟨d', g1, g2, g3⟩ := pu_workF mf cf f 0 E.printComing (o ++ d) t
        exact ⟨d ++ d', by rw [g1, h1, List.append_assoc], by rw [g2, h2], by rw [← List.append_assoc]; exact g3⟩
      · have hs' : ¬ (E.printComing.re (o ++ d) t).state = 0 := hs
        rw [if_neg hs, if_neg hs']
        exact ⟨d, h1, h2, rfl⟩
theorem pu_work (mf : Mf) (cf : Cf) : Pu fun E => E.work mf cf := fun E o t => pu_workF mf cf 10000 (if E.stage = 0 then 0 else 2) E o t
theorem pu_feed1 (mf : Mf) (cf : Cf) (c : UInt8) : Pu fun E => E.feed1 mf cf c := fun E o t => by
  have et : (E.re o t).takes = E.takes := rfl
  by_cases h : E.takes = true
  · have q1 : E.feed1 mf cf c = (E.add c).work mf cf := by rw [Ed.feed1, if_pos h]
    have q2 : (E.re o t).feed1 mf cf c = ((E.add c).re o t).work mf cf := by
      rw [Ed.feed1, et, if_pos h]
      have : (E.re o t).add c = (E.add c).re o t := by unfold Ed.add; split <;> rfl
      rw [this]
    have eo : (E.add c).out = E.out ∧ (E.add c).taken = E.taken := by unfold Ed.add; split <;> exact ⟨rfl, rfl⟩
    simp only [q1, q2]
    obtain ⟨d, h1, h2, h3⟩ := pu_work mf cf (E.add c) o t
    exact ⟨d, by rw [← eo.1]; exact h1, by rw [← eo.2]; exact h2, h3⟩
  · have q1 : E.feed1 mf cf c = E := by rw [Ed.feed1, if_neg h]
    have q2 : (E.re o t).feed1 mf cf c = E.re o t := by rw [Ed.feed1, et, if_neg h]
    simp only [q1, q2]
    exact ⟨[], by simp, by first | rfl | trivial, by simp⟩
theorem pu_feed (mf : Mf) (cf : Cf) : ∀ l : List UInt8, Pu fun E => E.feed mf cf l
  | [] => pu_id
  | c :: l => pu_comp (pu_feed1 mf cf c) (pu_feed mf cf l)
theorem pu_end (mf : Mf) (cf : Cf) : Pu fun E => E.endIt mf cf := fun E o t => by
  have et : (E.re o t).takes = E.takes := rfl
  by_cases h : E.takes = true
  · have q1 : E.endIt mf cf = ({ E with ended := true } : Ed).work mf cf := by rw [Ed.endIt, if_pos h]
    have q2 : (E.re o t).endIt mf cf = (({ E with ended := true } : Ed).re o t).work mf cf := by rw [Ed.endIt, et, if_pos h]; rfl
    simp only [q1, q2]
    exact pu_work mf cf { E with ended := true } o t
  · have q1 : E.endIt mf cf = E := by rw [Ed.endIt, if_neg h]
    have q2 : (E.re o t).endIt mf cf = E.re o t := by rw [Ed.endIt, et, if_neg h]
    simp only [q1, q2]
    exact ⟨[], by simp, by first | rfl | trivial, by simp⟩
structure Tw2 (p : List UInt8) (E E' : Ed) : Prop where
  eq : E' = E.re E'.out E'.taken
  out : E.out = p ++ E'.out.drop E'.taken
  taken : E.taken = 0
  le : E'.taken ≤ E'.out.length
theorem Tw2.take {p : List UInt8} {E E' : Ed} (h : Tw2 p E E') (n : Int) : Tw2 (p ++ row (E'.take n).2) E (E'.take n).1 := by
  have hk : E'.taken + E'.takeN n ≤ E'.out.length := by have := h.le; unfold Ed.takeN Ed.ready; omega
  have hx : (E'.out.drop E'.taken) = (E'.out.drop E'.taken).take (E'.takeN n) ++ E'.out.drop (E'.taken + E'.takeN n) := by
    rw [← List.drop_drop, List.take_append_drop]
  have hr : ∀ l : List UInt8, row (txt l) = l := fun l => by simp [row, txt]
  rw [take_eq]
  split
  · refine ⟨?_, ?_, h.taken, by simp⟩
    · have := h.eq
      rw [this]
      rfl
    · simp only [hr, List.drop_zero]
      rw [h.out, List.append_assoc, ← hx]
  · refine ⟨?_, ?_, h.taken, hk⟩
    · have := h.eq
      rw [this]
      rfl
    · simp only [hr]
      rw [h.out, List.append_assoc, ← hx]
end Ee
end Go.Proofs.YtppjlpihaocdiaaGreatDoor

/- A part of the proof. -/
set_option linter.unusedSimpArgs false
set_option linter.unusedVariables false
namespace Go.Proofs.YtppjlpihaocdiaaGreatDoor
namespace Ee
open Rs (Cm Wh Pc)
end Ee
end Go.Proofs.YtppjlpihaocdiaaGreatDoor

