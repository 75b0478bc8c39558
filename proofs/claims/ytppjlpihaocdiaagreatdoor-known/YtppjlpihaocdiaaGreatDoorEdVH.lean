/- A part of the proof. -/
import Derived.Test.YtppjlpihaocdiaaGreatDoorEdUH
import Derived.Test.YtppjlpihaocdiaaGreatDoorEdItoaH
import Derived.Lib.AppendIntMem
set_option linter.unusedSimpArgs false
set_option linter.unusedVariables false
namespace Go.Proofs.YtppjlpihaocdiaaGreatDoor
namespace Ee
open Go.RowKit
open Rs (Cm Wh Pc CmAt Pts cmL Keep own_of grps pcL)
theorem itoa_any (b : Nat) (cf : Cf) (E : Ed) (v : Ev) (w : World) (h : At w b cf E v) (hn : E.number ≤ 70368744177664) :
    Calls Tryz.prog 205 #[.int .i64 (E.number : Int)] w fun e w' => e = .returned (.string (itoa E.number)) ∧ Below w.heap.size w w' := by
  refine (Tryz.strconv_Itoa (E.number : Int) (by omega) (by omega) w h.cm.1.1).mono ?_
  rintro e w' ⟨rfl, k, os, rfl⟩
  exact ⟨rfl, Lib.below_grow _ w (Nat.le_refl _) k os⟩
theorem nDigits_le : ∀ (k u : Nat), u < 10 ^ (k + 1) → Lib.nDigits u ≤ k + 1
  | 0, u, h => by rw [Lib.nDigits_small (by simpa using h)]; omega
  | k + 1, u, h => by
    by_cases hs : u < 10
    · rw [Lib.nDigits_small hs]; omega
    · rw [Lib.nDigits_big hs]
      have := nDigits_le k (u / 10) (by rw [Nat.pow_succ] at h; omega)
      omega
theorem itoa_size (n : Nat) (h : n ≤ 70368744177664) : (itoa n).size ≤ 16 := by
  have e : (itoa n).size = (Lib.decDigits n).length := by
    simp only [itoa, Lib.itoa]
    rw [if_neg (by omega)]
    simp [ByteArray.size]
  rw [e, Lib.decDigits_length]
  exact nDigits_le 15 n (by omega)
theorem Opt.none' {w w' : World} {b : Nat} {cf : Cf} {E : Ed} {v : Ev} {e : Ending} (h : Opt w b cf v E none e w') : e = .returned (.bool false) ∧ Ok w b cf v E w' := by
  rcases h with ⟨_, h⟩ | ⟨E', h, _⟩
  · exact h
  · cases h
theorem Opt.some' {w w' : World} {b : Nat} {cf : Cf} {E E1 : Ed} {v : Ev} {e : Ending} (h : Opt w b cf v E (some E1) e w') : e = .returned (.bool true) ∧ Ok w b cf v E1 w' := by
  rcases h with ⟨h, _⟩ | ⟨E', h, h2⟩
  · cases h
  · cases h; exact h2
theorem Ok.drewed {w w' : World} {b : Nat} {cf : Cf} {E : Ed} {v : Ev} (h : Ok w.drew b cf v E w') : Ok w b cf v E w' := by
  obtain ⟨v', a1, a2⟩ := h
  exact ⟨v', a1, ⟨a2.os, a2.tape, a2.output, a2.size, a2.block, a2.mine, a2.cm⟩⟩
theorem Ok.after {w w1 w' : World} {b : Nat} {cf : Cf} {E : Ed} {v : Ev} (hb : Below w.heap.size w w1) (h : Ok w1 b cf v E w') : Ok w b cf v E w' := by
  obtain ⟨v', a1, a2⟩ := h
  exact ⟨v', a1, (Fe.below hb).trans a2⟩
theorem Ok.far {w w' : World} {b g : Nat} {cf : Cf} {E : Ed} {v : Ev} (h : Ok w b cf v E w') (hg : ¬ Mine b v g) (hl : g < w.heap.size) : w'.heap[g]? = w.heap[g]? := by
  obtain ⟨v', a1, a2⟩ := h
  exact a2.block g hl hg
set_option maxRecDepth 100000 in
set_option maxHeartbeats 2000000 in
theorem substitute_any (mf : Mf) (hm : MfOk mf) (b : Nat) (cf : Cf) (E : Ed) (v : Ev) (g o : Nat) (x : Cm) (q : Pts) (w : World) (h : At w b cf E v) (hx : PutP w g o x q) (hg : ¬ Mine b v g) (hs : E.pat.size ≤ 80) (hsp : cf.space ≤ 80) (hl : E.out.length ≤ 70368744177664)
    (hn : x.num ≤ 9) (htm : ∀ p ∈ x.temp, (p.grp = -1 ∧ p.byte < 256) ∨ (0 ≤ p.grp ∧ p.grp ≤ grps x.pat)) (htl : x.temp.length ≤ 400) :
    Calls Tryz.prog 208 #[.pointer (some ⟨b, 0, none⟩), .pointer (some ⟨g, o, none⟩)] w (Opt w b cf v E (E.subst mf cf x)) := by
  have HA : Hid (At w b cf E v) := h
  have HX : Hid (PutP w g o x q) := hx
  have HG : Hid (¬ Mine b v g) := hg
  have hgb : g ≠ b := fun e => hg (.inl e)
  have hbg : ¬ b = g := fun e => hg (.inl e.symm)
  have m5 := h.cell (k := 5) rfl
  have hR := replaced_any mf hm E.pat g o x q w hx hs hn htm htl
  have HS : Hid (E.subst mf cf x = if (repl mf x E.pat).2 = true then (match E.become cf (repl mf x E.pat).1 with | none => none | some E1 => some (if x.prt = true then { E1 with put := true }.print (repl mf x E.pat).1 else { E1 with put := true })) else some E) := rfl
  clear h hx hg hm htm
  generalize repl mf x E.pat = r at hR HS
  obtain ⟨T, ok⟩ := r
  simp only at hR HS
  rcases bool_or ok with hok | hok <;> subst hok
  · rcases hbe : E.become cf T with _ | E1
    · have HS2 : Hid (E.subst mf cf x = none) := by rw [Hid, HS.out, hbe]; rfl
      have HBE : Hid (E.become cf T = none) := hbe
      clear HS hbe
      go_enter Tryz.func208, Tryz.ntmps208
      go_wp2_with fail
      refine hR.mono ?_
      rintro e w1 ⟨hB, rfl⟩
      have HB : Hid (Below w.heap.size w w1) := hB
      clear hR hB
      have hL := become_any b cf E v w1 T (HA.out.below HB.out)
      rw [HBE.out] at hL
      go_wp2_with fail
      refine hL.mono ?_
      rintro e w2 hO
      obtain ⟨rfl, hO2⟩ := hO.none'
      have HO : Hid (Ok w b cf v E w2) := Ok.after HB.out hO2
      clear hL hO hO2
      go_wp2_with fail
      go_ret
      exact .inl ⟨HS2.out, rfl, HO.out⟩
    · have hT : T.size ≤ 80 := by
        unfold Ed.become at hbe
        split at hbe
        · cases hbe
        · omega
      have ho1 : E1.out = E.out := by
        unfold Ed.become at hbe
        split at hbe
        · cases hbe
        · cases hbe; rfl
      have HS1 : Hid (E.subst mf cf x = some (if x.prt = true then { E1 with put := true }.print T else { E1 with put := true })) := by rw [Hid, HS.out, hbe]; rfl
      have HBE : Hid (E.become cf T = some E1) := hbe
      clear HS hbe
      have c6 := HX.out.c6
      go_enter Tryz.func208, Tryz.ntmps208
      go_wp2_with fail
      refine hR.mono ?_
      rintro e w1 ⟨hB, rfl⟩
      have HB : Hid (Below w.heap.size w w1) := hB
      clear hR hB
      have hL := become_any b cf E v w1 T (HA.out.below HB.out)
      rw [HBE.out] at hL
      go_wp2_with fail
      refine hL.mono ?_
      rintro e w2 hO
      obtain ⟨rfl, hO2⟩ := hO.some'
      have HO : Hid (Ok w b cf v E1 w2) := Ok.after HB.out hO2
      clear hL hO hO2
      have k6 : w2.cell? ⟨g, o + 6, none⟩ = some (.bool x.prt) := (World.cell?_of_block (w := w) (w' := w2) (a := ⟨g, o + 6, none⟩) (HO.out.far HG.out HX.out.lt)).trans c6
      have m18 := HO.out.cell (k := 18) (fun _ => rfl)
      have f18 := HO.out.frz 18 (by omega)
      have HO2 : Hid (Ok w b cf v { E1 with put := true } (w2.setCell ⟨b, 18, none⟩ (.bool true))) := HO.out.put (fun v' h' => ⟨(Sole.refl _ _).setCell _ _, rput h'.row 18 _ (by omega) rfl⟩)
      clear c6 m5
      rcases bool_or x.prt with hp | hp
      · have HS2 : Hid (E.subst mf cf x = some ({ E1 with put := true }.print T)) := by rw [Hid, HS1.out, if_pos hp]
        rw [hp] at k6
        go_wp2_with fail
        obtain ⟨v3, hA3, hF3⟩ := HO2.out
        have HF3 : Hid (Fe b v v3 w (w2.setCell ⟨b, 18, none⟩ (.bool true))) := hF3
        have hL := print_any b cf { E1 with put := true } v3 _ T hA3 (by simp only [ho1]; exact hl) (by omega)
        clear hA3 hF3
        refine hL.mono ?_
        rintro e w4 ⟨rfl, nv, hO4⟩
        have HO4 : Hid (Ok w b cf v ({ E1 with put := true }.print T) w4) := ⟨_, hO4.1, HF3.out.trans hO4.2⟩
        clear hL hO4
        go_wp2_with fail
        go_ret
        exact .inr ⟨_, HS2.out, rfl, HO4.out⟩
      · have HS2 : Hid (E.subst mf cf x = some { E1 with put := true }) := by rw [Hid, HS1.out, if_neg (by rw [hp]; simp)]
        rw [hp] at k6
        go_wp2_with fail
        go_ret
        exact .inr ⟨_, HS2.out, rfl, HO2.out⟩
  · have HS2 : Hid (E.subst mf cf x = some E) := by rw [Hid, HS.out]; rfl
    clear HS
    go_enter Tryz.func208, Tryz.ntmps208
    go_wp2_with fail
    refine hR.mono ?_
    rintro e w1 ⟨hB, rfl⟩
    have HB : Hid (Below w.heap.size w w1) := hB
    clear hR hB
    go_wp2_with fail
    go_ret
    exact .inr ⟨_, HS2.out, rfl, Ok.below HA.out HB.out⟩
end Ee
end Go.Proofs.YtppjlpihaocdiaaGreatDoor
