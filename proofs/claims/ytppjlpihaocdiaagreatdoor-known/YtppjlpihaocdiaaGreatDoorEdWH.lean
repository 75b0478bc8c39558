/- A part of the proof. -/
import Derived.Test.YtppjlpihaocdiaaGreatDoorEdVH
set_option linter.unusedSimpArgs false
set_option linter.unusedVariables false
namespace Go.Proofs.YtppjlpihaocdiaaGreatDoor
namespace Ee
open Go.RowKit
open Rs (Cm Wh Pc CmAt Pts cmL Keep own_of grps pcL)
structure Sml (cf : Cf) (E : Ed) : Prop where
  pat : E.pat.size ≤ 80
  hold : E.hold.size ≤ 80
  space : cf.space ≤ 80
  line : cf.line ≤ 80
  fuel : cf.fuel ≤ 1000
  out : E.out.length + weigh E.coming ≤ 1099511000000
  com : ∀ t ∈ E.coming, t.size ≤ 1000
  number : E.number ≤ 70368744000000
  next : E.next.length ≤ 4000000
  cmds : cf.cmds.length ≤ 1000
  opn : E.opn.length = cf.cmds.length
  looked : E.looked ≤ cf.fuel
  at' : E.at' ≤ cf.cmds.length
theorem Sml.outl {cf : Cf} {E : Ed} (h : Sml cf E) : E.out.length ≤ 70368744177664 := by have := h.out; omega
theorem weigh_len : ∀ l : List ByteArray, l.length ≤ weigh l
  | [] => by simp [weigh]
  | x :: l => by
    have := weigh_len l
    simp only [weigh, List.map_cons, List.sum_cons, List.length_cons] at this ⊢
    omega
set_option maxRecDepth 100000 in
set_option maxHeartbeats 4000000 in
theorem edit_5 (mf : Mf) (hm : MfOk mf) (b : Nat) (cf : Cf) (E : Ed) (v : Ev) (g o : Nat) (x : Cm) (q : Pts) (w : World) (h : At w b cf E v) (hx : CmP w g o x q) (hg : ¬ Mine b v g) (hs : Sml cf E) (hcc : E.coming.length ≤ 1099511627776) (ok : CmOk cf.cmds.length x) (hkind : x.kind = 5) :
    Calls Tryz.prog 172 #[.pointer (some ⟨b, 0, none⟩), .pointer (some ⟨g, o, none⟩)] w (Opt w b cf v E (E.edit mf cf x)) := by
  have HA : Hid (At w b cf E v) := h
  have HX : Hid (CmP w g o x q) := hx
  have HG : Hid (¬ Mine b v g) := hg
  have HM : Hid (MfOk mf) := hm
  have HOK : Hid (CmOk cf.cmds.length x) := ok
  have c0 : w.cell? ⟨g, o, none⟩ = some (.int .i64 (x.kind : Int)) := hx.cell 0 _ rfl
  have c13 := hx.cell 13 _ rfl
  have c21 := hx.cell 21 _ rfl
  have c22 := hx.cell 22 _ rfl
  have m4 := h.cell (k := 4) rfl
  have m5 := h.cell (k := 5) rfl
  have m7 := h.cell (k := 7) rfl
  have hpat := hs.pat
  have hhold := hs.hold
  have hspc := hs.space
  have hout := hs.outl
  have hnum : E.number ≤ 70368744177664 := Nat.le_trans hs.number (by omega)
  have hcl : E.coming.length ≤ 1099511627776 := hcc
  have hfl : (firstLine E.pat).size ≤ 1000000 := Nat.le_trans (extract_size_le _ _ _) (by omega)
  have hit : (itoa E.number).size ≤ 1000000 := by have := itoa_size E.number hnum; omega
  have htx := ok.tx
  have hnum9 := ok.nu
  have hys := ok.ys
  rw [hkind] at c0
  have HE : Hid (E.edit mf cf x = some (E.print E.pat)) := by rw [Hid, Ed.edit, if_pos hkind]
  clear h hx hg hs hcc ok hm hkind
  go_enter Tryz.func172, Tryz.ntmps172
  go_wp2_with fail
  go_region_with (first
    | (go_at_call 123; (have hL := print_any b cf E v w.drew E.pat HA.out.drew hout (by omega); refine hL.mono ?_; rintro e w1 ⟨rfl, nv, hO⟩; have HO : Hid (Ok w b cf v (E.print E.pat) w1) := Ok.drewed hO.ok; clear hL hO)))
  all_goals
    go_wp2_with fail
    go_ret
    exact .inr ⟨_, HE.out, rfl, HO.out⟩
set_option maxRecDepth 100000 in
set_option maxHeartbeats 4000000 in
theorem edit_6 (mf : Mf) (hm : MfOk mf) (b : Nat) (cf : Cf) (E : Ed) (v : Ev) (g o : Nat) (x : Cm) (q : Pts) (w : World) (h : At w b cf E v) (hx : CmP w g o x q) (hg : ¬ Mine b v g) (hs : Sml cf E) (hcc : E.coming.length ≤ 1099511627776) (ok : CmOk cf.cmds.length x) (hkind : x.kind = 6) :
    Calls Tryz.prog 172 #[.pointer (some ⟨b, 0, none⟩), .pointer (some ⟨g, o, none⟩)] w (Opt w b cf v E (E.edit mf cf x)) := by
  have HA : Hid (At w b cf E v) := h
  have HX : Hid (CmP w g o x q) := hx
  have HG : Hid (¬ Mine b v g) := hg
  have HM : Hid (MfOk mf) := hm
  have HOK : Hid (CmOk cf.cmds.length x) := ok
  have c0 : w.cell? ⟨g, o, none⟩ = some (.int .i64 (x.kind : Int)) := hx.cell 0 _ rfl
  have c13 := hx.cell 13 _ rfl
  have c21 := hx.cell 21 _ rfl
  have c22 := hx.cell 22 _ rfl
  have m4 := h.cell (k := 4) rfl
  have m5 := h.cell (k := 5) rfl
  have m7 := h.cell (k := 7) rfl
  have hpat := hs.pat
  have hhold := hs.hold
  have hspc := hs.space
  have hout := hs.outl
  have hnum : E.number ≤ 70368744177664 := Nat.le_trans hs.number (by omega)
  have hcl : E.coming.length ≤ 1099511627776 := hcc
  have hfl : (firstLine E.pat).size ≤ 1000000 := Nat.le_trans (extract_size_le _ _ _) (by omega)
  have hit : (itoa E.number).size ≤ 1000000 := by have := itoa_size E.number hnum; omega
  have htx := ok.tx
  have hnum9 := ok.nu
  have hys := ok.ys
  rw [hkind] at c0
  have HE : Hid (E.edit mf cf x = some (E.print (firstLine E.pat))) := by rw [Hid, Ed.edit, if_neg (by omega), if_pos hkind]
  clear h hx hg hs hcc ok hm hkind
  go_enter Tryz.func172, Tryz.ntmps172
  go_wp2_with fail
  go_region_with (first
    | (go_at_call 204; (have hL := firstLine_any b cf E v w.drew HA.out.drew (by omega); refine hL.mono ?_; rintro e w1 ⟨rfl, hw1⟩; have HA1 : Hid (At w1 b cf E v ∧ Below w.heap.size w w1) := by { obtain ⟨n, rfl⟩ := hw1; exact ⟨HA.out.drew.drewN n, ⟨rfl, rfl, rfl, Nat.le_refl _, fun _ _ => rfl⟩⟩ }; clear hL hw1))
    | (go_at_call 123; (have hL := print_any b cf E v w1 (firstLine E.pat) HA1.out.1 hout hfl; refine hL.mono ?_; rintro e w2 ⟨rfl, nv, hO⟩; have HO : Hid (Ok w b cf v (E.print (firstLine E.pat)) w2) := Ok.after HA1.out.2 hO.ok; clear hL hO)))
  all_goals
    go_wp2_with fail
    go_ret
    exact .inr ⟨_, HE.out, rfl, HO.out⟩
set_option maxRecDepth 100000 in
set_option maxHeartbeats 4000000 in
theorem edit_12 (mf : Mf) (hm : MfOk mf) (b : Nat) (cf : Cf) (E : Ed) (v : Ev) (g o : Nat) (x : Cm) (q : Pts) (w : World) (h : At w b cf E v) (hx : CmP w g o x q) (hg : ¬ Mine b v g) (hs : Sml cf E) (hcc : E.coming.length ≤ 1099511627776) (ok : CmOk cf.cmds.length x) (hkind : x.kind = 12) :
    Calls Tryz.prog 172 #[.pointer (some ⟨b, 0, none⟩), .pointer (some ⟨g, o, none⟩)] w (Opt w b cf v E (E.edit mf cf x)) := by
  have HA : Hid (At w b cf E v) := h
  have HX : Hid (CmP w g o x q) := hx
  have HG : Hid (¬ Mine b v g) := hg
  have HM : Hid (MfOk mf) := hm
  have HOK : Hid (CmOk cf.cmds.length x) := ok
  have c0 : w.cell? ⟨g, o, none⟩ = some (.int .i64 (x.kind : Int)) := hx.cell 0 _ rfl
  have c13 := hx.cell 13 _ rfl
  have c21 := hx.cell 21 _ rfl
  have c22 := hx.cell 22 _ rfl
  have m4 := h.cell (k := 4) rfl
  have m5 := h.cell (k := 5) rfl
  have m7 := h.cell (k := 7) rfl
  have hpat := hs.pat
  have hhold := hs.hold
  have hspc := hs.space
  have hout := hs.outl
  have hnum : E.number ≤ 70368744177664 := Nat.le_trans hs.number (by omega)
  have hcl : E.coming.length ≤ 1099511627776 := hcc
  have hfl : (firstLine E.pat).size ≤ 1000000 := Nat.le_trans (extract_size_le _ _ _) (by omega)
  have hit : (itoa E.number).size ≤ 1000000 := by have := itoa_size E.number hnum; omega
  have htx := ok.tx
  have hnum9 := ok.nu
  have hys := ok.ys
  rw [hkind] at c0
  have HE : Hid (E.edit mf cf x = some (E.print (itoa E.number))) := by rw [Hid, Ed.edit, if_neg (by omega), if_neg (by omega), if_pos hkind]
  clear h hx hg hs hcc ok hm hkind
  go_enter Tryz.func172, Tryz.ntmps172
  go_wp2_with fail
  go_region_with (first
    | (go_at_call 205; (have hL := itoa_any b cf E v w.drew HA.out.drew hnum; refine hL.mono ?_; rintro e w1 ⟨rfl, hB⟩; have HA1 : Hid (At w1 b cf E v ∧ Below w.heap.size w w1) := ⟨HA.out.drew.below hB, ⟨hB.os, hB.tape, hB.output, hB.size, hB.block⟩⟩; clear hL hB))
    | (go_at_call 123; (have hL := print_any b cf E v w1 (itoa E.number) HA1.out.1 hout hit; refine hL.mono ?_; rintro e w2 ⟨rfl, nv, hO⟩; have HO : Hid (Ok w b cf v (E.print (itoa E.number)) w2) := Ok.after HA1.out.2 hO.ok; clear hL hO)))
  all_goals
    go_wp2_with fail
    go_ret
    exact .inr ⟨_, HE.out, rfl, HO.out⟩
set_option maxRecDepth 100000 in
set_option maxHeartbeats 4000000 in
theorem edit_14 (mf : Mf) (hm : MfOk mf) (b : Nat) (cf : Cf) (E : Ed) (v : Ev) (g o : Nat) (x : Cm) (q : Pts) (w : World) (h : At w b cf E v) (hx : CmP w g o x q) (hg : ¬ Mine b v g) (hs : Sml cf E) (hcc : E.coming.length ≤ 1099511627776) (ok : CmOk cf.cmds.length x) (hkind : x.kind = 14) :
    Calls Tryz.prog 172 #[.pointer (some ⟨b, 0, none⟩), .pointer (some ⟨g, o, none⟩)] w (Opt w b cf v E (E.edit mf cf x)) := by
  have HA : Hid (At w b cf E v) := h
  have HX : Hid (CmP w g o x q) := hx
  have HG : Hid (¬ Mine b v g) := hg
  have HM : Hid (MfOk mf) := hm
  have HOK : Hid (CmOk cf.cmds.length x) := ok
  have c0 : w.cell? ⟨g, o, none⟩ = some (.int .i64 (x.kind : Int)) := hx.cell 0 _ rfl
  have c13 := hx.cell 13 _ rfl
  have c21 := hx.cell 21 _ rfl
  have c22 := hx.cell 22 _ rfl
  have m4 := h.cell (k := 4) rfl
  have m5 := h.cell (k := 5) rfl
  have m7 := h.cell (k := 7) rfl
  have hpat := hs.pat
  have hhold := hs.hold
  have hspc := hs.space
  have hout := hs.outl
  have hnum : E.number ≤ 70368744177664 := Nat.le_trans hs.number (by omega)
  have hcl : E.coming.length ≤ 1099511627776 := hcc
  have hfl : (firstLine E.pat).size ≤ 1000000 := Nat.le_trans (extract_size_le _ _ _) (by omega)
  have hit : (itoa E.number).size ≤ 1000000 := by have := itoa_size E.number hnum; omega
  have htx := ok.tx
  have hnum9 := ok.nu
  have hys := ok.ys
  rw [hkind] at c0
  have HE : Hid (E.edit mf cf x = some { E with coming := E.coming ++ [x.text] }) := by rw [Hid, Ed.edit, if_neg (by omega), if_neg (by omega), if_neg (by omega), if_pos hkind]
  clear h hx hg hs hcc ok hm hkind
  go_enter Tryz.func172, Tryz.ntmps172
  go_wp2_with fail
  go_region_with (first
    | (go_at_call 206; (have hL := later_any b cf E v w.drew x.text HA.out.drew hcl; refine hL.mono ?_; rintro e w1 ⟨rfl, hO⟩; have HO : Hid (Ok w b cf v { E with coming := E.coming ++ [x.text] } w1) := Ok.drewed hO; clear hL hO)))
  all_goals
    go_wp2_with fail
    go_ret
    exact .inr ⟨_, HE.out, rfl, HO.out⟩
set_option maxRecDepth 100000 in
set_option maxHeartbeats 4000000 in
theorem edit_15 (mf : Mf) (hm : MfOk mf) (b : Nat) (cf : Cf) (E : Ed) (v : Ev) (g o : Nat) (x : Cm) (q : Pts) (w : World) (h : At w b cf E v) (hx : CmP w g o x q) (hg : ¬ Mine b v g) (hs : Sml cf E) (hcc : E.coming.length ≤ 1099511627776) (ok : CmOk cf.cmds.length x) (hkind : x.kind = 15) :
    Calls Tryz.prog 172 #[.pointer (some ⟨b, 0, none⟩), .pointer (some ⟨g, o, none⟩)] w (Opt w b cf v E (E.edit mf cf x)) := by
  have HA : Hid (At w b cf E v) := h
  have HX : Hid (CmP w g o x q) := hx
  have HG : Hid (¬ Mine b v g) := hg
  have HM : Hid (MfOk mf) := hm
  have HOK : Hid (CmOk cf.cmds.length x) := ok
  have c0 : w.cell? ⟨g, o, none⟩ = some (.int .i64 (x.kind : Int)) := hx.cell 0 _ rfl
  have c13 := hx.cell 13 _ rfl
  have c21 := hx.cell 21 _ rfl
  have c22 := hx.cell 22 _ rfl
  have m4 := h.cell (k := 4) rfl
  have m5 := h.cell (k := 5) rfl
  have m7 := h.cell (k := 7) rfl
  have hpat := hs.pat
  have hhold := hs.hold
  have hspc := hs.space
  have hout := hs.outl
  have hnum : E.number ≤ 70368744177664 := Nat.le_trans hs.number (by omega)
  have hcl : E.coming.length ≤ 1099511627776 := hcc
  have hfl : (firstLine E.pat).size ≤ 1000000 := Nat.le_trans (extract_size_le _ _ _) (by omega)
  have hit : (itoa E.number).size ≤ 1000000 := by have := itoa_size E.number hnum; omega
  have htx := ok.tx
  have hnum9 := ok.nu
  have hys := ok.ys
  rw [hkind] at c0
  have HE : Hid (E.edit mf cf x = some (E.print x.text)) := by rw [Hid, Ed.edit, if_neg (by omega), if_neg (by omega), if_neg (by omega), if_neg (by omega), if_pos hkind]
  clear h hx hg hs hcc ok hm hkind
  go_enter Tryz.func172, Tryz.ntmps172
  go_wp2_with fail
  go_region_with (first
    | (go_at_call 123; (have hL := print_any b cf E v w.drew x.text HA.out.drew hout (by omega); refine hL.mono ?_; rintro e w1 ⟨rfl, nv, hO⟩; have HO : Hid (Ok w b cf v (E.print x.text) w1) := Ok.drewed hO.ok; clear hL hO)))
  all_goals
    go_wp2_with fail
    go_ret
    exact .inr ⟨_, HE.out, rfl, HO.out⟩
set_option maxRecDepth 100000 in
set_option maxHeartbeats 4000000 in
theorem edit_7 (mf : Mf) (hm : MfOk mf) (b : Nat) (cf : Cf) (E : Ed) (v : Ev) (g o : Nat) (x : Cm) (q : Pts) (w : World) (h : At w b cf E v) (hx : CmP w g o x q) (hg : ¬ Mine b v g) (hs : Sml cf E) (hcc : E.coming.length ≤ 1099511627776) (ok : CmOk cf.cmds.length x) (hkind : x.kind = 7) :
    Calls Tryz.prog 172 #[.pointer (some ⟨b, 0, none⟩), .pointer (some ⟨g, o, none⟩)] w (Opt w b cf v E (E.edit mf cf x)) := by
  have HA : Hid (At w b cf E v) := h
  have HX : Hid (CmP w g o x q) := hx
  have HG : Hid (¬ Mine b v g) := hg
  have HM : Hid (MfOk mf) := hm
  have HOK : Hid (CmOk cf.cmds.length x) := ok
  have c0 : w.cell? ⟨g, o, none⟩ = some (.int .i64 (x.kind : Int)) := hx.cell 0 _ rfl
  have c13 := hx.cell 13 _ rfl
  have c21 := hx.cell 21 _ rfl
  have c22 := hx.cell 22 _ rfl
  have m4 := h.cell (k := 4) rfl
  have m5 := h.cell (k := 5) rfl
  have m7 := h.cell (k := 7) rfl
  have hpat := hs.pat
  have hhold := hs.hold
  have hspc := hs.space
  have hout := hs.outl
  have hnum : E.number ≤ 70368744177664 := Nat.le_trans hs.number (by omega)
  have hcl : E.coming.length ≤ 1099511627776 := hcc
  have hfl : (firstLine E.pat).size ≤ 1000000 := Nat.le_trans (extract_size_le _ _ _) (by omega)
  have hit : (itoa E.number).size ≤ 1000000 := by have := itoa_size E.number hnum; omega
  have htx := ok.tx
  have hnum9 := ok.nu
  have hys := ok.ys
  rw [hkind] at c0
  have HE : Hid (E.edit mf cf x = E.become cf E.hold) := by rw [Hid, Ed.edit, if_neg (by omega), if_neg (by omega), if_neg (by omega), if_neg (by omega), if_neg (by omega), if_pos hkind]
  have hL := become_any b cf E v w.drew E.hold HA.out.drew
  clear h hx hg hs hcc ok hm hkind
  rcases hbe : E.become cf E.hold with _ | E1
  · have HE2 : Hid (E.edit mf cf x = none) := by rw [Hid, HE.out, hbe]
    rw [hbe] at hL
    clear hbe
    go_enter Tryz.func172, Tryz.ntmps172
    go_wp2_with fail
    go_region_with (first
      | (go_at_call 118; (refine hL.mono ?_; rintro e w1 hO; obtain ⟨rfl, hO2⟩ := hO.none'; have HO : Hid (Ok w b cf v E w1) := Ok.drewed hO2; clear hL hO hO2)))
    all_goals
      go_wp2_with fail
      go_ret
      exact .inl ⟨HE2.out, rfl, HO.out⟩
  · have HE2 : Hid (E.edit mf cf x = some E1) := by rw [Hid, HE.out, hbe]
    rw [hbe] at hL
    clear hbe
    go_enter Tryz.func172, Tryz.ntmps172
    go_wp2_with fail
    go_region_with (first
      | (go_at_call 118; (refine hL.mono ?_; rintro e w1 hO; obtain ⟨rfl, hO2⟩ := hO.some'; have HO : Hid (Ok w b cf v E1 w1) := Ok.drewed hO2; clear hL hO hO2)))
    all_goals
      go_wp2_with fail
      go_ret
      exact .inr ⟨_, HE2.out, rfl, HO.out⟩
set_option maxRecDepth 100000 in
set_option maxHeartbeats 4000000 in
theorem edit_8 (mf : Mf) (hm : MfOk mf) (b : Nat) (cf : Cf) (E : Ed) (v : Ev) (g o : Nat) (x : Cm) (q : Pts) (w : World) (h : At w b cf E v) (hx : CmP w g o x q) (hg : ¬ Mine b v g) (hs : Sml cf E) (hcc : E.coming.length ≤ 1099511627776) (ok : CmOk cf.cmds.length x) (hkind : x.kind = 8) :
    Calls Tryz.prog 172 #[.pointer (some ⟨b, 0, none⟩), .pointer (some ⟨g, o, none⟩)] w (Opt w b cf v E (E.edit mf cf x)) := by
  have HA : Hid (At w b cf E v) := h
  have HX : Hid (CmP w g o x q) := hx
  have HG : Hid (¬ Mine b v g) := hg
  have HM : Hid (MfOk mf) := hm
  have HOK : Hid (CmOk cf.cmds.length x) := ok
  have c0 : w.cell? ⟨g, o, none⟩ = some (.int .i64 (x.kind : Int)) := hx.cell 0 _ rfl
  have c13 := hx.cell 13 _ rfl
  have c21 := hx.cell 21 _ rfl
  have c22 := hx.cell 22 _ rfl
  have m4 := h.cell (k := 4) rfl
  have m5 := h.cell (k := 5) rfl
  have m7 := h.cell (k := 7) rfl
  have hpat := hs.pat
  have hhold := hs.hold
  have hspc := hs.space
  have hout := hs.outl
  have hnum : E.number ≤ 70368744177664 := Nat.le_trans hs.number (by omega)
  have hcl : E.coming.length ≤ 1099511627776 := hcc
  have hfl : (firstLine E.pat).size ≤ 1000000 := Nat.le_trans (extract_size_le _ _ _) (by omega)
  have hit : (itoa E.number).size ≤ 1000000 := by have := itoa_size E.number hnum; omega
  have htx := ok.tx
  have hnum9 := ok.nu
  have hys := ok.ys
  rw [hkind] at c0
  have HE : Hid (E.edit mf cf x = E.grow cf E.hold) := by rw [Hid, Ed.edit, if_neg (by omega), if_neg (by omega), if_neg (by omega), if_neg (by omega), if_neg (by omega), if_neg (by omega), if_pos hkind]
  have hL := grow_any b cf E v w.drew E.hold HA.out.drew (by omega) (by omega)
  clear h hx hg hs hcc ok hm hkind
  rcases hbe : E.grow cf E.hold with _ | E1
  · have HE2 : Hid (E.edit mf cf x = none) := by rw [Hid, HE.out, hbe]
    rw [hbe] at hL
    clear hbe
    go_enter Tryz.func172, Tryz.ntmps172
    go_wp2_with fail
    go_region_with (first
      | (go_at_call 203; (refine hL.mono ?_; rintro e w1 hO; obtain ⟨rfl, hO2⟩ := hO.none'; have HO : Hid (Ok w b cf v E w1) := Ok.drewed hO2; clear hL hO hO2)))
    all_goals
      go_wp2_with fail
      go_ret
      exact .inl ⟨HE2.out, rfl, HO.out⟩
  · have HE2 : Hid (E.edit mf cf x = some E1) := by rw [Hid, HE.out, hbe]
    rw [hbe] at hL
    clear hbe
    go_enter Tryz.func172, Tryz.ntmps172
    go_wp2_with fail
    go_region_with (first
      | (go_at_call 203; (refine hL.mono ?_; rintro e w1 hO; obtain ⟨rfl, hO2⟩ := hO.some'; have HO : Hid (Ok w b cf v E1 w1) := Ok.drewed hO2; clear hL hO hO2)))
    all_goals
      go_wp2_with fail
      go_ret
      exact .inr ⟨_, HE2.out, rfl, HO.out⟩
set_option maxRecDepth 100000 in
set_option maxHeartbeats 4000000 in
theorem edit_9 (mf : Mf) (hm : MfOk mf) (b : Nat) (cf : Cf) (E : Ed) (v : Ev) (g o : Nat) (x : Cm) (q : Pts) (w : World) (h : At w b cf E v) (hx : CmP w g o x q) (hg : ¬ Mine b v g) (hs : Sml cf E) (hcc : E.coming.length ≤ 1099511627776) (ok : CmOk cf.cmds.length x) (hkind : x.kind = 9) :
    Calls Tryz.prog 172 #[.pointer (some ⟨b, 0, none⟩), .pointer (some ⟨g, o, none⟩)] w (Opt w b cf v E (E.edit mf cf x)) := by
  have HA : Hid (At w b cf E v) := h
  have HX : Hid (CmP w g o x q) := hx
  have HG : Hid (¬ Mine b v g) := hg
  have HM : Hid (MfOk mf) := hm
  have HOK : Hid (CmOk cf.cmds.length x) := ok
  have c0 : w.cell? ⟨g, o, none⟩ = some (.int .i64 (x.kind : Int)) := hx.cell 0 _ rfl
  have c13 := hx.cell 13 _ rfl
  have c21 := hx.cell 21 _ rfl
  have c22 := hx.cell 22 _ rfl
  have m4 := h.cell (k := 4) rfl
  have m5 := h.cell (k := 5) rfl
  have m7 := h.cell (k := 7) rfl
  have hpat := hs.pat
  have hhold := hs.hold
  have hspc := hs.space
  have hout := hs.outl
  have hnum : E.number ≤ 70368744177664 := Nat.le_trans hs.number (by omega)
  have hcl : E.coming.length ≤ 1099511627776 := hcc
  have hfl : (firstLine E.pat).size ≤ 1000000 := Nat.le_trans (extract_size_le _ _ _) (by omega)
  have hit : (itoa E.number).size ≤ 1000000 := by have := itoa_size E.number hnum; omega
  have htx := ok.tx
  have hnum9 := ok.nu
  have hys := ok.ys
  rw [hkind] at c0
  have HE : Hid (E.edit mf cf x = E.holds cf E.pat) := by rw [Hid, Ed.edit, if_neg (by omega), if_neg (by omega), if_neg (by omega), if_neg (by omega), if_neg (by omega), if_neg (by omega), if_neg (by omega), if_pos hkind]
  have hL := holds_any b cf E v w.drew E.pat HA.out.drew
  clear h hx hg hs hcc ok hm hkind
  rcases hbe : E.holds cf E.pat with _ | E1
  · have HE2 : Hid (E.edit mf cf x = none) := by rw [Hid, HE.out, hbe]
    rw [hbe] at hL
    clear hbe
    go_enter Tryz.func172, Tryz.ntmps172
    go_wp2_with fail
    go_region_with (first
      | (go_at_call 118; (refine hL.mono ?_; rintro e w1 hO; obtain ⟨rfl, hO2⟩ := hO.none'; have HO : Hid (Ok w b cf v E w1) := Ok.drewed hO2; clear hL hO hO2)))
    all_goals
      go_wp2_with fail
      go_ret
      exact .inl ⟨HE2.out, rfl, HO.out⟩
  · have HE2 : Hid (E.edit mf cf x = some E1) := by rw [Hid, HE.out, hbe]
    rw [hbe] at hL
    clear hbe
    go_enter Tryz.func172, Tryz.ntmps172
    go_wp2_with fail
    go_region_with (first
      | (go_at_call 118; (refine hL.mono ?_; rintro e w1 hO; obtain ⟨rfl, hO2⟩ := hO.some'; have HO : Hid (Ok w b cf v E1 w1) := Ok.drewed hO2; clear hL hO hO2)))
    all_goals
      go_wp2_with fail
      go_ret
      exact .inr ⟨_, HE2.out, rfl, HO.out⟩
set_option maxRecDepth 100000 in
set_option maxHeartbeats 4000000 in
theorem edit_10 (mf : Mf) (hm : MfOk mf) (b : Nat) (cf : Cf) (E : Ed) (v : Ev) (g o : Nat) (x : Cm) (q : Pts) (w : World) (h : At w b cf E v) (hx : CmP w g o x q) (hg : ¬ Mine b v g) (hs : Sml cf E) (hcc : E.coming.length ≤ 1099511627776) (ok : CmOk cf.cmds.length x) (hkind : x.kind = 10) :
    Calls Tryz.prog 172 #[.pointer (some ⟨b, 0, none⟩), .pointer (some ⟨g, o, none⟩)] w (Opt w b cf v E (E.edit mf cf x)) := by
  have HA : Hid (At w b cf E v) := h
  have HX : Hid (CmP w g o x q) := hx
  have HG : Hid (¬ Mine b v g) := hg
  have HM : Hid (MfOk mf) := hm
  have HOK : Hid (CmOk cf.cmds.length x) := ok
  have c0 : w.cell? ⟨g, o, none⟩ = some (.int .i64 (x.kind : Int)) := hx.cell 0 _ rfl
  have c13 := hx.cell 13 _ rfl
  have c21 := hx.cell 21 _ rfl
  have c22 := hx.cell 22 _ rfl
  have m4 := h.cell (k := 4) rfl
  have m5 := h.cell (k := 5) rfl
  have m7 := h.cell (k := 7) rfl
  have hpat := hs.pat
  have hhold := hs.hold
  have hspc := hs.space
  have hout := hs.outl
  have hnum : E.number ≤ 70368744177664 := Nat.le_trans hs.number (by omega)
  have hcl : E.coming.length ≤ 1099511627776 := hcc
  have hfl : (firstLine E.pat).size ≤ 1000000 := Nat.le_trans (extract_size_le _ _ _) (by omega)
  have hit : (itoa E.number).size ≤ 1000000 := by have := itoa_size E.number hnum; omega
  have htx := ok.tx
  have hnum9 := ok.nu
  have hys := ok.ys
  rw [hkind] at c0
  have HE : Hid (E.edit mf cf x = E.holds cf (E.hold ++ newline ++ E.pat)) := by rw [Hid, Ed.edit, if_neg (by omega), if_neg (by omega), if_neg (by omega), if_neg (by omega), if_neg (by omega), if_neg (by omega), if_neg (by omega), if_neg (by omega), if_pos hkind]
  have hL := growH_any b cf E v w.drew E.pat HA.out.drew (by omega) (by omega)
  clear h hx hg hs hcc ok hm hkind
  rcases hbe : E.holds cf (E.hold ++ newline ++ E.pat) with _ | E1
  · have HE2 : Hid (E.edit mf cf x = none) := by rw [Hid, HE.out, hbe]
    rw [hbe] at hL
    clear hbe
    go_enter Tryz.func172, Tryz.ntmps172
    go_wp2_with fail
    go_region_with (first
      | (go_at_call 203; (refine hL.mono ?_; rintro e w1 hO; obtain ⟨rfl, hO2⟩ := hO.none'; have HO : Hid (Ok w b cf v E w1) := Ok.drewed hO2; clear hL hO hO2)))
    all_goals
      go_wp2_with fail
      go_ret
      exact .inl ⟨HE2.out, rfl, HO.out⟩
  · have HE2 : Hid (E.edit mf cf x = some E1) := by rw [Hid, HE.out, hbe]
    rw [hbe] at hL
    clear hbe
    go_enter Tryz.func172, Tryz.ntmps172
    go_wp2_with fail
    go_region_with (first
      | (go_at_call 203; (refine hL.mono ?_; rintro e w1 hO; obtain ⟨rfl, hO2⟩ := hO.some'; have HO : Hid (Ok w b cf v E1 w1) := Ok.drewed hO2; clear hL hO hO2)))
    all_goals
      go_wp2_with fail
      go_ret
      exact .inr ⟨_, HE2.out, rfl, HO.out⟩
set_option maxRecDepth 100000 in
set_option maxHeartbeats 4000000 in
theorem edit_11 (mf : Mf) (hm : MfOk mf) (b : Nat) (cf : Cf) (E : Ed) (v : Ev) (g o : Nat) (x : Cm) (q : Pts) (w : World) (h : At w b cf E v) (hx : CmP w g o x q) (hg : ¬ Mine b v g) (hs : Sml cf E) (hcc : E.coming.length ≤ 1099511627776) (ok : CmOk cf.cmds.length x) (hkind : x.kind = 11) :
    Calls Tryz.prog 172 #[.pointer (some ⟨b, 0, none⟩), .pointer (some ⟨g, o, none⟩)] w (Opt w b cf v E (E.edit mf cf x)) := by
  have HA : Hid (At w b cf E v) := h
  have HX : Hid (CmP w g o x q) := hx
  have HG : Hid (¬ Mine b v g) := hg
  have HM : Hid (MfOk mf) := hm
  have HOK : Hid (CmOk cf.cmds.length x) := ok
  have c0 : w.cell? ⟨g, o, none⟩ = some (.int .i64 (x.kind : Int)) := hx.cell 0 _ rfl
  have c13 := hx.cell 13 _ rfl
  have c21 := hx.cell 21 _ rfl
  have c22 := hx.cell 22 _ rfl
  have m4 := h.cell (k := 4) rfl
  have m5 := h.cell (k := 5) rfl
  have m7 := h.cell (k := 7) rfl
  have hpat := hs.pat
  have hhold := hs.hold
  have hspc := hs.space
  have hout := hs.outl
  have hnum : E.number ≤ 70368744177664 := Nat.le_trans hs.number (by omega)
  have hcl : E.coming.length ≤ 1099511627776 := hcc
  have hfl : (firstLine E.pat).size ≤ 1000000 := Nat.le_trans (extract_size_le _ _ _) (by omega)
  have hit : (itoa E.number).size ≤ 1000000 := by have := itoa_size E.number hnum; omega
  have htx := ok.tx
  have hnum9 := ok.nu
  have hys := ok.ys
  rw [hkind] at c0
  have HE : Hid (E.edit mf cf x = some { E with pat := E.hold, hold := E.pat }) := by rw [Hid, Ed.edit, if_neg (by omega), if_neg (by omega), if_neg (by omega), if_neg (by omega), if_neg (by omega), if_neg (by omega), if_neg (by omega), if_neg (by omega), if_neg (by omega), if_pos hkind]
  clear h hx hg hs hcc ok hm hkind
  go_enter Tryz.func172, Tryz.ntmps172
  go_wp2_with fail
  go_region_with (first
    | (go_at_call 207; (have hL := exchange_any b cf E v w.drew HA.out.drew; refine hL.mono ?_; rintro e w1 ⟨rfl, hO⟩; have HO : Hid (Ok w b cf v { E with pat := E.hold, hold := E.pat } w1) := Ok.drewed hO; clear hL hO)))
  all_goals
    go_wp2_with fail
    go_ret
    exact .inr ⟨_, HE.out, rfl, HO.out⟩
set_option maxRecDepth 100000 in
set_option maxHeartbeats 4000000 in
theorem edit_19 (mf : Mf) (hm : MfOk mf) (b : Nat) (cf : Cf) (E : Ed) (v : Ev) (g o : Nat) (x : Cm) (q : Pts) (w : World) (h : At w b cf E v) (hx : CmP w g o x q) (hg : ¬ Mine b v g) (hs : Sml cf E) (hcc : E.coming.length ≤ 1099511627776) (ok : CmOk cf.cmds.length x) (hkind : x.kind = 19) :
    Calls Tryz.prog 172 #[.pointer (some ⟨b, 0, none⟩), .pointer (some ⟨g, o, none⟩)] w (Opt w b cf v E (E.edit mf cf x)) := by
  have HA : Hid (At w b cf E v) := h
  have HX : Hid (CmP w g o x q) := hx
  have HG : Hid (¬ Mine b v g) := hg
  have HM : Hid (MfOk mf) := hm
  have HOK : Hid (CmOk cf.cmds.length x) := ok
  have c0 : w.cell? ⟨g, o, none⟩ = some (.int .i64 (x.kind : Int)) := hx.cell 0 _ rfl
  have c13 := hx.cell 13 _ rfl
  have c21 := hx.cell 21 _ rfl
  have c22 := hx.cell 22 _ rfl
  have m4 := h.cell (k := 4) rfl
  have m5 := h.cell (k := 5) rfl
  have m7 := h.cell (k := 7) rfl
  have hpat := hs.pat
  have hhold := hs.hold
  have hspc := hs.space
  have hout := hs.outl
  have hnum : E.number ≤ 70368744177664 := Nat.le_trans hs.number (by omega)
  have hcl : E.coming.length ≤ 1099511627776 := hcc
  have hfl : (firstLine E.pat).size ≤ 1000000 := Nat.le_trans (extract_size_le _ _ _) (by omega)
  have hit : (itoa E.number).size ≤ 1000000 := by have := itoa_size E.number hnum; omega
  have htx := ok.tx
  have hnum9 := ok.nu
  have hys := ok.ys
  rw [hkind] at c0
  have HE : Hid (E.edit mf cf x = E.subst mf cf x) := by rw [Hid, Ed.edit, if_neg (by omega), if_neg (by omega), if_neg (by omega), if_neg (by omega), if_neg (by omega), if_neg (by omega), if_neg (by omega), if_neg (by omega), if_neg (by omega), if_neg (by omega), if_pos hkind]
  have hL := substitute_any mf HM.out b cf E v g (o + 14) x q w HA.out (HX.out.put hkind) HG.out (by omega) hspc hout hnum9 (HOK.out.tm hkind) HOK.out.tl
  clear h hx hg hs hcc ok hm hkind
  rcases hbe : E.subst mf cf x with _ | E1
  · have HE2 : Hid (E.edit mf cf x = none) := by rw [Hid, HE.out, hbe]
    rw [hbe] at hL
    clear hbe
    go_enter Tryz.func172, Tryz.ntmps172
    go_wp2_with fail
    refine hL.mono ?_
    rintro e w1 hO
    obtain ⟨rfl, hO2⟩ := hO.none'
    have HO : Hid (Ok w b cf v E w1) := hO2
    clear hL hO hO2
    go_wp2_with fail
    go_ret
    exact .inl ⟨HE2.out, rfl, HO.out⟩
  · have HE2 : Hid (E.edit mf cf x = some E1) := by rw [Hid, HE.out, hbe]
    rw [hbe] at hL
    clear hbe
    go_enter Tryz.func172, Tryz.ntmps172
    go_wp2_with fail
    refine hL.mono ?_
    rintro e w1 hO
    obtain ⟨rfl, hO2⟩ := hO.some'
    have HO : Hid (Ok w b cf v E1 w1) := hO2
    clear hL hO hO2
    go_wp2_with fail
    go_ret
    exact .inr ⟨_, HE2.out, rfl, HO.out⟩
set_option maxRecDepth 100000 in
set_option maxHeartbeats 4000000 in
theorem edit_20 (mf : Mf) (hm : MfOk mf) (b : Nat) (cf : Cf) (E : Ed) (v : Ev) (g o : Nat) (x : Cm) (q : Pts) (w : World) (h : At w b cf E v) (hx : CmP w g o x q) (hg : ¬ Mine b v g) (hs : Sml cf E) (hcc : E.coming.length ≤ 1099511627776) (ok : CmOk cf.cmds.length x) (hkind : x.kind = 20) :
    Calls Tryz.prog 172 #[.pointer (some ⟨b, 0, none⟩), .pointer (some ⟨g, o, none⟩)] w (Opt w b cf v E (E.edit mf cf x)) := by
  have HA : Hid (At w b cf E v) := h
  have HX : Hid (CmP w g o x q) := hx
  have HG : Hid (¬ Mine b v g) := hg
  have HM : Hid (MfOk mf) := hm
  have HOK : Hid (CmOk cf.cmds.length x) := ok
  have c0 : w.cell? ⟨g, o, none⟩ = some (.int .i64 (x.kind : Int)) := hx.cell 0 _ rfl
  have c13 := hx.cell 13 _ rfl
  have c21 := hx.cell 21 _ rfl
  have c22 := hx.cell 22 _ rfl
  have m4 := h.cell (k := 4) rfl
  have m5 := h.cell (k := 5) rfl
  have m7 := h.cell (k := 7) rfl
  have hpat := hs.pat
  have hhold := hs.hold
  have hspc := hs.space
  have hout := hs.outl
  have hnum : E.number ≤ 70368744177664 := Nat.le_trans hs.number (by omega)
  have hcl : E.coming.length ≤ 1099511627776 := hcc
  have hfl : (firstLine E.pat).size ≤ 1000000 := Nat.le_trans (extract_size_le _ _ _) (by omega)
  have hit : (itoa E.number).size ≤ 1000000 := by have := itoa_size E.number hnum; omega
  have htx := ok.tx
  have hnum9 := ok.nu
  have hys := ok.ys
  have hyy := ok.yy hkind
  rw [hkind] at c0
  have HE : Hid (E.edit mf cf x = some { E with pat := trans x.frm x.too E.pat }) := by rw [Hid, Ed.edit, if_neg (by omega), if_neg (by omega), if_neg (by omega), if_neg (by omega), if_neg (by omega), if_neg (by omega), if_neg (by omega), if_neg (by omega), if_neg (by omega), if_neg (by omega), if_neg (by omega), if_pos hkind]
  clear h hx hg hs hcc ok hm hkind
  go_enter Tryz.func172, Tryz.ntmps172
  go_wp2_with fail
  go_region_with (first
    | (go_at_call 209; (have hL := transliterate_any b cf E v w.drew x.frm x.too HA.out.drew (by omega) hyy (by omega); refine hL.mono ?_; rintro e w1 ⟨rfl, hO⟩; have HO : Hid (Ok w b cf v { E with pat := trans x.frm x.too E.pat } w1) := Ok.drewed hO; clear hL hO)))
  all_goals
    go_wp2_with fail
    go_ret
    exact .inr ⟨_, HE.out, rfl, HO.out⟩
set_option maxRecDepth 100000 in
set_option maxHeartbeats 4000000 in
theorem edit_any (mf : Mf) (hm : MfOk mf) (b : Nat) (cf : Cf) (E : Ed) (v : Ev) (g o : Nat) (x : Cm) (q : Pts) (w : World) (h : At w b cf E v) (hx : CmP w g o x q) (hg : ¬ Mine b v g) (hs : Sml cf E) (hcc : E.coming.length ≤ 1099511627776) (ok : CmOk cf.cmds.length x) :
    Calls Tryz.prog 172 #[.pointer (some ⟨b, 0, none⟩), .pointer (some ⟨g, o, none⟩)] w (Opt w b cf v E (E.edit mf cf x)) := by
  by_cases h5 : x.kind = 5
  · exact edit_5 mf hm b cf E v g o x q w h hx hg hs hcc ok h5
  by_cases h6 : x.kind = 6
  · exact edit_6 mf hm b cf E v g o x q w h hx hg hs hcc ok h6
  by_cases h12 : x.kind = 12
  · exact edit_12 mf hm b cf E v g o x q w h hx hg hs hcc ok h12
  by_cases h14 : x.kind = 14
  · exact edit_14 mf hm b cf E v g o x q w h hx hg hs hcc ok h14
  by_cases h15 : x.kind = 15
  · exact edit_15 mf hm b cf E v g o x q w h hx hg hs hcc ok h15
  by_cases h7 : x.kind = 7
  · exact edit_7 mf hm b cf E v g o x q w h hx hg hs hcc ok h7
  by_cases h8 : x.kind = 8
  · exact edit_8 mf hm b cf E v g o x q w h hx hg hs hcc ok h8
  by_cases h9 : x.kind = 9
  · exact edit_9 mf hm b cf E v g o x q w h hx hg hs hcc ok h9
  by_cases h10 : x.kind = 10
  · exact edit_10 mf hm b cf E v g o x q w h hx hg hs hcc ok h10
  by_cases h11 : x.kind = 11
  · exact edit_11 mf hm b cf E v g o x q w h hx hg hs hcc ok h11
  by_cases h19 : x.kind = 19
  · exact edit_19 mf hm b cf E v g o x q w h hx hg hs hcc ok h19
  by_cases h20 : x.kind = 20
  · exact edit_20 mf hm b cf E v g o x q w h hx hg hs hcc ok h20
  have HE : Hid (E.edit mf cf x = some E) := by rw [Hid, Ed.edit, if_neg h5, if_neg h6, if_neg h12, if_neg h14, if_neg h15, if_neg h7, if_neg h8, if_neg h9, if_neg h10, if_neg h11, if_neg h19, if_neg h20]
  have HA : Hid (At w b cf E v) := h
  have c0 : w.cell? ⟨g, o, none⟩ = some (.int .i64 (x.kind : Int)) := hx.cell 0 _ rfl
  have q5 : ((x.kind : Int) == 5) = false := by simp; omega
  have q6 : ((x.kind : Int) == 6) = false := by simp; omega
  have q12 : ((x.kind : Int) == 12) = false := by simp; omega
  have q14 : ((x.kind : Int) == 14) = false := by simp; omega
  have q15 : ((x.kind : Int) == 15) = false := by simp; omega
  have q7 : ((x.kind : Int) == 7) = false := by simp; omega
  have q8 : ((x.kind : Int) == 8) = false := by simp; omega
  have q9 : ((x.kind : Int) == 9) = false := by simp; omega
  have q10 : ((x.kind : Int) == 10) = false := by simp; omega
  have q11 : ((x.kind : Int) == 11) = false := by simp; omega
  have q19 : ((x.kind : Int) == 19) = false := by simp; omega
  have q20 : ((x.kind : Int) == 20) = false := by simp; omega
  clear h hx hg hs hcc ok hm h5 h6 h12 h14 h15 h7 h8 h9 h10 h11 h19 h20
  go_enter Tryz.func172, Tryz.ntmps172
  go_wp2_with fail
  go_ret
  exact .inr ⟨_, HE.out, rfl, Ok.refl HA.out⟩
end Ee
end Go.Proofs.YtppjlpihaocdiaaGreatDoor
