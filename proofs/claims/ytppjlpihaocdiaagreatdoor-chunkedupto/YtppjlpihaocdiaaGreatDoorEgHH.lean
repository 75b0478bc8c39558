/- A part of the proof. -/
import Derived.Test.YtppjlpihaocdiaaGreatDoorEgGH
set_option linter.unusedSimpArgs false
set_option linter.unusedVariables false
namespace Go.Proofs.YtppjlpihaocdiaaGreatDoor
namespace Ee
open Go.RowKit
open Rs (Cm Wh Pc own_of CmdsIn readR)
structure Cl (mf : Mf) (cf : Cf) (w : World) (lo : Nat) (lv : Value) (ps : List ByteArray) (bl k : Nat) (o : ByteArray) (wr : World) (E : Ed) : Prop where
  lg : Lg lo lv wr bl cf E
  tw : Tw2 (row o) ((ed0 cf).feed mf cf ((ps.take k).flatMap row)) E
  rest : Rest cf ((ps.take k).flatMap row).length E
  below : Below w.heap.size w wr
  own : wr.ownsRow 0 9 1 lv ps.length (sv ps)
structure Cm2 (mf : Mf) (cf : Cf) (w : World) (lo : Nat) (lv : Value) (ps : List ByteArray) (bl : Nat) (G : Ed) (K : Nat) (o : ByteArray) (wr : World) (E : Ed) : Prop where
  lg : Lg lo lv wr bl cf E
  tw : Tw2 (row o) G E
  rest : Rest cf K E
  below : Below w.heap.size w wr
  own : wr.ownsRow 0 9 1 lv ps.length (sv ps)
theorem Cm2.step {mf : Mf} {cf : Cf} {w : World} {lo : Nat} {lv : Value} {ps : List ByteArray} {bl K K' : Nat} {G G' : Ed} {o o' : ByteArray} {wr w' : World} {E E' : Ed} (h : Cm2 mf cf w lo lv ps bl G K o wr E) (hl : w.heap.size ≤ lo) (k : Lh lo lv wr bl cf E' w') (ht : Tw2 (row o') G' E') (hr : Rest cf K' E') : Cm2 mf cf w lo lv ps bl G' K' o' w' E' :=
  ⟨k.1, ht, hr, h.below.trans (k.2.1.mono hl), own_of h.own fun j hj => k.2.2 j hj⟩
theorem flat_le (ps : List ByteArray) (inp : ByteArray) (h : ps.flatMap row = row inp) (k : Nat) : ((ps.take k).flatMap row).length ≤ inp.size := by
  have e : ps.flatMap row = (ps.take k).flatMap row ++ (ps.drop k).flatMap row := by rw [← List.flatMap_append, List.take_append_drop]
  rw [← row_length, ← h, e, List.length_append]
  omega
theorem flat_succ (ps : List ByteArray) (k : Nat) (h : k < ps.length) : (ps.take (k + 1)).flatMap row = (ps.take k).flatMap row ++ row ps[k] := by
  rw [List.take_add_one, List.getElem?_eq_getElem h, Option.toList_some, List.flatMap_append]
  simp
theorem want_of {mf : Mf} {cf : Cf} {ps : List ByteArray} {inp : ByteArray} {k : Nat} {o : ByteArray} {E : Ed} (h : ps.flatMap row = row inp) (ht : Tw2 (row o) ((ed0 cf).feed mf cf ((ps.take k).flatMap row)) E) : (txt (fin mf cf (row inp)).out).extract 0 o.size = o ∧ o.size ≤ (txt (fin mf cf (row inp)).out).size := by
  have e : row inp = (ps.take k).flatMap row ++ (ps.drop k).flatMap row := by rw [← h, ← List.flatMap_append, List.take_append_drop]
  obtain ⟨d, hd⟩ := feed_prefix mf cf ((ps.take k).flatMap row) ((ps.drop k).flatMap row)
  rw [← e] at hd
  exact head_of (d := E.out.drop E.taken ++ d) (by rw [row_txt, hd, ht.out, List.append_assoc])
set_option maxRecDepth 100000 in
set_option maxHeartbeats 8000000 in
theorem chunked_any (mf : Mf) (hm : MfOk mf) (s inp : ByteArray) (a b c : Int) (q : Bool) (ao1 ao2 : Option Addr) (n1 n2 cp1 cp2 : Nat) (w : World) (hs : s.size ≤ maxLen) (hi : inp.size ≤ 1048576) (hI1 : Ints w ao1 n1) (hI2 : Ints w ao2 n2) (ht : Tab w) :
    Calls Tryz.prog 7 #[.string s, .agg #[.int .i64 a, .int .i64 b, .int .i64 c, .bool q], .string inp, .slice ao1 n1 cp1, .slice ao2 n2 cp2] w fun e w' => e = .returned (.bool true) ∧ Below w.heap.size w w' := by
  have HM : Hid (MfOk mf) := hm
  have HT : Hid (Tab w) := ht
  have HS : Hid (s.size ≤ maxLen) := hs
  have HI1 : Hid (Ints w ao1 n1) := hI1
  have HI2 : Hid (Ints w ao2 n2) := hI2
  have hn2 := hI2.le
  have hn1 := hI1.le
  have HED : Hid (∀ W, Tab W → Calls Tryz.prog 26 #[.string s, .agg #[.int .i64 a, .int .i64 b, .int .i64 c, .bool q], .string inp] W (EQ mf s inp a b c q W)) := fun W hW => edited_any mf hm s inp a b c q W hs hi hW
  have HOP : Hid (∀ W, Tab W → Calls Tryz.prog 27 #[.string s, .agg #[.int .i64 a, .int .i64 b, .int .i64 c, .bool q]] W fun e w' => Below W.heap.size W w' ∧
      ((opens s a b c = false ∧ errOf s a b c ≠ 0 ∧ e = .returned (.tuple #[.pointer none, .int .i64 (errOf s a b c : Int)])) ∨
       (opens s a b c = true ∧ ∃ bl, e = .returned (.tuple #[.pointer (some ⟨bl, 0, none⟩), .int .i64 0]) ∧ Liv W.heap.size w' bl (cfO s a b c q) (ed0 (cfO s a b c q))))) := fun W hW => open_lv s a b c q W hs hW
  clear hm ht hs hI1 hI2
  go_enter Tryz.func7, Tryz.ntmps7
  go_wp2_with fail
  refine (HED.out _ (HT.out.below (below_alloc w _))).mono ?_
  rintro e w1 ⟨hB, h⟩
  have bx : ∀ k x, (#[Value.int .i64 a, .int .i64 b, .int .i64 c, .bool q] : Array Value)[k]? = some x → w1.cell? ⟨w.heap.size, k, none⟩ = some x := fun k x hx => by
    rw [World.cell?_of_block (w := w.alloc (.cells #[.int .i64 a, .int .i64 b, .int .i64 c, .bool q] 23)) (w' := w1) (a := ⟨w.heap.size, k, none⟩) (hB.block w.heap.size (by simp))]
    rw [cell_of_row _ w.heap.size k #[.int .i64 a, .int .i64 b, .int .i64 c, .bool q] 23 (0, 0) (heap_alloc_last w _)]
    exact hx
  have b0 := bx 0 _ rfl
  have b1 := bx 1 _ rfl
  have b2 := bx 2 _ rfl
  have b3 := bx 3 _ rfl
  have HB1 : Hid (Below w.heap.size w w1) := (below_alloc w _).trans (hB.mono (by simp))
  have hsz1 := HB1.out.size
  clear hB bx
  rcases h with ⟨ho, rfl⟩ | ⟨ho, rfl⟩
  · have HO : Hid (opens s a b c = false) := ho
    clear ho
    go_wp2_with fail
    refine (HOP.out w1 (HT.out.below HB1.out)).mono ?_
    rintro e w2 ⟨hB2, h2⟩
    have HB2 : Hid (Below w.heap.size w w2) := HB1.out.trans (hB2.mono hsz1)
    clear hB2
    rcases h2 with ⟨_, hne, rfl⟩ | ⟨h2, _⟩
    · have q0 : ((errOf s a b c : Int) == 0) = false := by simp; omega
      have q1 : ((errOf s a b c : Int) != 0) = true := by simp; omega
      clear hne
      generalize errOf s a b c = ec at *
      go_wp2_with fail
      go_ret
      exact ⟨rfl, HB2.out⟩
    · rw [HO.out] at h2
      cases h2
  · have HO : Hid (opens s a b c = true) := ho
    have HC : Hid (Cok (cfO s a b c q)) := opens_ok ho
    clear ho
    go_wp2_with fail
    refine (HOP.out w1 (HT.out.below HB1.out)).mono ?_
    rintro e w2 ⟨hB2, h2⟩
    have HB2 : Hid (Below w.heap.size w w2) := HB1.out.trans (hB2.mono hsz1)
    clear hB2
    rcases h2 with ⟨h2, _, _⟩ | ⟨_, bl, rfl, hlv⟩
    · rw [HO.out] at h2
      cases h2
    · have HLV : Hid (Liv w1.heap.size w2 bl (cfO s a b c q) (ed0 (cfO s a b c q))) := hlv
      clear hlv b0 b1 b2 b3
      generalize cfO s a b c q = cf at *
      have HFR : Hid (Rest cf inp.size (fin mf cf (row inp))) := by
        have := fin_rest (mf := mf) HC.out (row inp) (by rw [row_length]; omega)
        rw [row_length] at this
        exact this
      have hst : (fin mf cf (row inp)).state ≠ 0 := by
        have h1 := feed_rest (mf := mf) HC.out (row inp) 0 (ed0 cf) (by rw [row_length]; omega) (ed0_rest HC.out)
        have h2 := feed_ended (mf := mf) HC.out (row inp) 0 (ed0 cf) (by rw [row_length]; omega) (ed0_rest HC.out)
        exact end_stops HC.out (by rw [row_length]; omega) h1 h2
      have HFO : Hid ((fin mf cf (row inp)).out.length ≤ 1099511000000) := iv_out HFR.out.1 (by omega)
      have hWS : (txt (fin mf cf (row inp)).out).size ≤ 1099511000000 := by rw [txt_size]; exact HFO.out
      generalize hWT : txt (fin mf cf (row inp)).out = WT at *
      have HWT : Hid (txt (fin mf cf (row inp)).out = WT) := hWT
      generalize hST : (fin mf cf (row inp)).state = ST at *
      have HST : Hid ((fin mf cf (row inp)).state = ST) := hST
      have qs1 : ((ST : Int) == 0) = false := by simp; omega
      have qs2 : ((ST : Int) != 0) = true := by simp; omega
      clear hWT hST
      have hL := cuts_any inp ao1 n1 cp1 w2 (HI1.out.below HB2.out) hi
      go_wp2_with fail
      refine hL.mono ?_
      rintro e w3 ⟨lv, ps, rfl, hB3, hown, hps, hpn, hp0⟩
      clear hL
      obtain ⟨g, cpp, hlv, _, _⟩ := hown.form hp0
      have hsz2 := HB2.out.size
      have HB3 : Hid (Below w.heap.size w w3) := HB2.out.trans (hB3.mono hsz2)
      have HPS : Hid (ps.flatMap row = row inp) := hps
      have HLG : Hid (Lg w1.heap.size lv w3 bl cf (ed0 cf)) := HLV.out.beside hB3 (fun k hk => hown.lt k hk)
      have HOWN : Hid (w3.ownsRow 0 9 1 lv ps.length (sv ps)) := World.ownsRow.mono hown (by omega)
      have HLVE : Hid (lv = .slice (some ⟨g, 0, none⟩) ps.length cpp) := hlv
      have hpl : ps.length ≤ 1048577 := by omega
      subst hlv
      have HC0 : Hid (Cl mf cf w w1.heap.size (.slice (some ⟨g, 0, none⟩) ps.length cpp) ps bl 0 ⟨#[]⟩ w3 (ed0 cf)) := ⟨HLG.out, tw_start cf, ed0_rest HC.out, HB3.out, HOWN.out⟩
      clear hB3 hown hps
      go_wp2_with fail
      go_loopw [16, 18] (fun x16 x18 wr => ∃ (k : Nat) (o : ByteArray) (E : Ed), k ≤ ps.length ∧ x16 = .string o ∧ x18 = .int .i64 k ∧ Hid (Cl mf cf w w1.heap.size (.slice (some ⟨g, 0, none⟩) ps.length cpp) ps bl k o wr E)) (fun _ x18 _ => ps.length + 1 - (intOf x18).toNat)
      case atStart => exact ⟨0, ⟨#[]⟩, ed0 cf, by omega, rfl, rfl, HC0.out⟩
      case round =>
        obtain ⟨k, o, E, hk, rfl, rfl, HCL⟩ := hrel
        have hoW := (want_of (mf := mf) HPS.out HCL.out.tw).2
        rw [HWT.out] at hoW
        by_cases hlt : k < ps.length
        · have hcell := HCL.out.own.cellAt k (by omega)
          have mk : wr.cell? ⟨g, k, none⟩ = some (.string ps[k]) := by rw [hcell]; simp [sv, List.getElem?_eq_getElem hlt]
          have hfs := flat_succ ps k hlt
          have hfl := flat_le ps inp HPS.out (k + 1)
          have HFS : Hid _ := hfs
          have hfl2 : ((ps.take k).flatMap row).length + ps[k].size ≤ inp.size := by
            have := hfl
            rw [hfs, List.length_append, row_length] at this
            exact this
          have HFL : Hid (((ps.take (k + 1)).flatMap row).length ≤ inp.size) := hfl
          have HTW : Hid (Tw2 (row o) ((ed0 cf).feed mf cf ((ps.take (k + 1)).flatMap row)) (E.feed mf cf (row ps[k]))) := by
            have := HCL.out.tw.pu (pu_feed mf cf (row ps[k]))
            rw [Hid, HFS.out, feed_append]
            exact this
          have HRS : Hid (Rest cf ((ps.take (k + 1)).flatMap row).length (E.feed mf cf (row ps[k]))) := by
            have := feed_rest (mf := mf) HC.out (row ps[k]) _ E (by rw [row_length]; omega) HCL.out.rest
            rw [Hid, HFS.out, List.length_append]
            exact this
          have HCM : Hid (Cm2 mf cf w w1.heap.size (.slice (some ⟨g, 0, none⟩) ps.length cpp) ps bl ((ed0 cf).feed mf cf ((ps.take k).flatMap row)) ((ps.take k).flatMap row).length o wr E) := ⟨HCL.out.lg, HCL.out.tw, HCL.out.rest, HCL.out.below, HCL.out.own⟩
          have hL := feed_lg mf HM.out w1.heap.size (.slice (some ⟨g, 0, none⟩) ps.length cpp) bl cf _ E ps[k] wr HCL.out.lg HC.out (by omega) HCL.out.rest
          clear hcell hfs hfl hfl2
          generalize ps[k] = P at *
          go_wp2_with fail
          refine hL.mono ?_
          rintro e w4 ⟨rfl, hlh⟩
          clear hL
          have HC4 : Hid (Cm2 mf cf w w1.heap.size (.slice (some ⟨g, 0, none⟩) ps.length cpp) ps bl ((ed0 cf).feed mf cf ((ps.take (k + 1)).flatMap row)) ((ps.take (k + 1)).flatMap row).length o w4 (E.feed mf cf (row P))) := HCM.out.step hsz1 hlh HTW.out HRS.out
          clear hlh mk
          generalize E.feed mf cf (row P) = E2 at *
          by_cases h2 : 0 < n2
          · have qn : decide (0 < n2) = true := by simpa using h2
            obtain ⟨gb, go, hao, hgl, hcs⟩ := HI2.out.cell h2
            have hmlt : k % n2 < n2 := Nat.mod_lt _ h2
            obtain ⟨x, x1, x2, x3⟩ := hcs (k % n2) hmlt
            have xr : w4.cell? ⟨gb, go + k % n2, none⟩ = some (.int .i64 x) := (World.cell?_of_block (w := w) (w' := w4) (a := ⟨gb, go + k % n2, none⟩) (HC4.out.below.block gb hgl)).trans x3
            have hmod : Int.tmod (k : Int) (n2 : Int) = ((k % n2 : Nat) : Int) := by rw [Int.tmod_eq_emod_of_nonneg (by omega)]; omega
            have hn0 : ((n2 : Int) == 0) = false := by simp; omega
            have hn00 : ¬ ((n2 : Int) = 0) := by omega
            subst hao
            clear hcs x3
            have hL := pick_any x 20 w4 x1 x2 (by omega) (by omega)
            go_wp2_with fail
            refine hL.mono ?_
            rintro e w5 ⟨m, hm20, rfl, hw5⟩
            have hw6 := hw5.symm
            subst hw6
            clear hL hw5
            have hL := ready_lg w1.heap.size (.slice (some ⟨g, 0, none⟩) ps.length cpp) bl cf _ E2 w4 HC4.out.lg (by have := HFL.out; omega) HC4.out.rest
            go_wp2_with fail
            refine hL.mono ?_
            rintro e w6 ⟨rfl, hlh⟩
            clear hL
            have HC6 : Hid (Cm2 mf cf w w1.heap.size (.slice (some ⟨g, 0, none⟩) ps.length cpp) ps bl ((ed0 cf).feed mf cf ((ps.take (k + 1)).flatMap row)) ((ps.take (k + 1)).flatMap row).length o w6 E2) := HC4.out.step hsz1 hlh HC4.out.tw HC4.out.rest
            clear hlh
            have hL := take_lg w1.heap.size (.slice (some ⟨g, 0, none⟩) ps.length cpp) bl cf _ E2 (m : Int) w6 HC6.out.lg (by have := HFL.out; omega) HC6.out.rest
            have hts := take_size E2 (m : Int) HC6.out.rest.1.taken
            have htn : E2.takeN (m : Int) = min m E2.ready := by unfold Ed.takeN; simp
            rw [htn] at hts
            have HTT : Hid (Tw2 (row o ++ row (E2.take (m : Int)).2) ((ed0 cf).feed mf cf ((ps.take (k + 1)).flatMap row)) (E2.take (m : Int)).1) := HC6.out.tw.take (m : Int)
            have HTR : Hid (Rest cf ((ps.take (k + 1)).flatMap row).length (E2.take (m : Int)).1) := take_rest HC6.out.rest _
            clear htn
            generalize E2.take (m : Int) = tk at *
            obtain ⟨E3, T⟩ := tk
            simp only at hts hL HTT HTR
            go_wp2_with fail
            refine hL.mono ?_
            rintro e w7 ⟨rfl, hlh⟩
            clear hL
            have HC7 : Hid (Cm2 mf cf w w1.heap.size (.slice (some ⟨g, 0, none⟩) ps.length cpp) ps bl ((ed0 cf).feed mf cf ((ps.take (k + 1)).flatMap row)) ((ps.take (k + 1)).flatMap row).length (o ++ T) w7 E3) := HC6.out.step hsz1 hlh (by rw [row_append]; exact HTT.out) HTR.out
            clear hlh
            have hadd : ∀ W : World, (Op.stringOp .add o T).run Tryz.prog W = .ok (.string (o ++ T)) W := fun W => run_string_add_sum (P := Tryz.prog) (w := W) _ _ (by omega)
            by_cases hmr : E2.ready < m
            · have qm : decide (E2.ready < m) = true := by simpa using hmr
              have hts2 : T.size = E2.ready := by omega
              clear hts
              have qe : ((T.size : Int) != (E2.ready : Int)) = false := by rw [hts2]; simp
              have qe2 : (T.size != E2.ready) = false := by rw [hts2]; simp
              clear hts2
              generalize E2.ready = rd at *
              obtain ⟨hx1, hx2⟩ := want_of (mf := mf) HPS.out HC7.out.tw
              rw [HWT.out] at hx1 hx2
              have es : (o ++ T).size = o.size + T.size := ByteArray.size_append
              rw [es] at hx1 hx2
              have z1 : (o.size : Int) + (T.size : Int) ≤ (WT.size : Int) := by omega
              have z2 : ¬ (WT.size : Int) < (o.size : Int) + (T.size : Int) := by omega
              have z3 : (0 : Int) ≤ (o.size : Int) + (T.size : Int) := by omega
              have z4 : ((o ++ T).toList == (WT.extract 0 (o.size + T.size)).toList) = true := by rw [hx1]; simp
              clear hx1 hx2 es
              go_wp2_with fail
              go_roundw
              case rel => exact ⟨k + 1, o ++ T, _, by omega, rfl, by go_num, ⟨HC7.out.lg, HC7.out.tw, HC7.out.rest, HC7.out.below, HC7.out.own⟩⟩
              case measure => simp [intOf]; omega
            · have qm : decide (E2.ready < m) = false := by simpa using hmr
              have hts2 : T.size = m := by omega
              clear hts
              have qe : ((T.size : Int) != (m : Int)) = false := by rw [hts2]; simp
              have qe2 : (T.size != m) = false := by rw [hts2]; simp
              clear hts2
              generalize E2.ready = rd at *
              obtain ⟨hx1, hx2⟩ := want_of (mf := mf) HPS.out HC7.out.tw
              rw [HWT.out] at hx1 hx2
              have es : (o ++ T).size = o.size + T.size := ByteArray.size_append
              rw [es] at hx1 hx2
              have z1 : (o.size : Int) + (T.size : Int) ≤ (WT.size : Int) := by omega
              have z2 : ¬ (WT.size : Int) < (o.size : Int) + (T.size : Int) := by omega
              have z3 : (0 : Int) ≤ (o.size : Int) + (T.size : Int) := by omega
              have z4 : ((o ++ T).toList == (WT.extract 0 (o.size + T.size)).toList) = true := by rw [hx1]; simp
              clear hx1 hx2 es
              go_wp2_with fail
              go_roundw
              case rel => exact ⟨k + 1, o ++ T, _, by omega, rfl, by go_num, ⟨HC7.out.lg, HC7.out.tw, HC7.out.rest, HC7.out.below, HC7.out.own⟩⟩
              case measure => simp [intOf]; omega
          · have hn20 : n2 = 0 := by omega
            have qn : decide (0 < n2) = false := by simpa using h2
            subst hn20
            obtain ⟨hx1, hx2⟩ := want_of (mf := mf) HPS.out HC4.out.tw
            rw [HWT.out] at hx1 hx2
            have z1 : (o.size : Int) ≤ (WT.size : Int) := by omega
            have z2 : ¬ (WT.size : Int) < (o.size : Int) := by omega
            have z4 : (o.toList == (WT.extract 0 o.size).toList) = true := by rw [hx1]; simp
            clear hx1 hx2
            go_wp2_with fail
            go_roundw
            case rel => exact ⟨k + 1, o, _, by omega, rfl, by go_num, ⟨HC4.out.lg, HC4.out.tw, HC4.out.rest, HC4.out.below, HC4.out.own⟩⟩
            case measure => simp [intOf]; omega
        · have hkN : k = ps.length := by omega
          have hfl : (ps.take k).flatMap row = row inp := by rw [hkN, List.take_length]; exact HPS.out
          have HTW : Hid (Tw2 (row o) (fin mf cf (row inp)) (E.endIt mf cf)) := by
            have := HCL.out.tw.pu (pu_end mf cf)
            rw [hfl] at this
            exact this
          have hrE : Rest cf inp.size E := by
            have := HCL.out.rest
            rw [hfl, row_length] at this
            exact this
          have HRE : Hid (Rest cf inp.size (E.endIt mf cf)) := end_rest HC.out (by omega) hrE
          have HCM : Hid (Cm2 mf cf w w1.heap.size (.slice (some ⟨g, 0, none⟩) ps.length cpp) ps bl ((ed0 cf).feed mf cf ((ps.take k).flatMap row)) ((ps.take k).flatMap row).length o wr E) := ⟨HCL.out.lg, HCL.out.tw, HCL.out.rest, HCL.out.below, HCL.out.own⟩
          have hL := end_lg mf HM.out w1.heap.size (.slice (some ⟨g, 0, none⟩) ps.length cpp) bl cf inp.size E wr HCL.out.lg HC.out (by omega) hrE
          clear hrE
          go_wp2_with fail
          refine hL.mono ?_
          rintro e w4 ⟨rfl, hlh⟩
          clear hL
          have HC4 : Hid (Cm2 mf cf w w1.heap.size (.slice (some ⟨g, 0, none⟩) ps.length cpp) ps bl (fin mf cf (row inp)) inp.size o w4 (E.endIt mf cf)) := HCM.out.step hsz1 hlh HTW.out HRE.out
          clear hlh
          generalize E.endIt mf cf = E2 at *
          obtain ⟨t1, t2, t3⟩ := tw_end HC4.out.tw (iv_out HC4.out.rest.1 (by omega))
          have hL := take_lg w1.heap.size (.slice (some ⟨g, 0, none⟩) ps.length cpp) bl cf inp.size E2 1099511627776 w4 HC4.out.lg (by omega) HC4.out.rest
          have HTT : Hid (Tw2 (row o ++ row (E2.take 1099511627776).2) (fin mf cf (row inp)) (E2.take 1099511627776).1) := HC4.out.tw.take _
          have HTR : Hid (Rest cf inp.size (E2.take 1099511627776).1) := take_rest HC4.out.rest _
          generalize E2.take 1099511627776 = tk at *
          obtain ⟨E3, T⟩ := tk
          simp only at t1 t2 t3 hL HTT HTR
          have heq : o ++ T = WT := row_ext (by rw [row_append, t1, ← HWT.out, row_txt])
          have hsz : o.size + T.size = WT.size := by rw [← heq, ByteArray.size_append]
          have z4 : ((o ++ T).toList == WT.toList) = true := by rw [heq]; simp
          have hadd : ∀ W : World, (Op.stringOp .add o T).run Tryz.prog W = .ok (.string (o ++ T)) W := fun W => run_string_add_sum (P := Tryz.prog) (w := W) _ _ (by omega)
          rw [HST.out] at t2
          clear t1 heq
          go_wp2_with fail
          refine hL.mono ?_
          rintro e w5 ⟨rfl, hlh⟩
          clear hL
          have HC5 : Hid (Cm2 mf cf w w1.heap.size (.slice (some ⟨g, 0, none⟩) ps.length cpp) ps bl (fin mf cf (row inp)) inp.size (o ++ T) w5 E3) := HC4.out.step hsz1 hlh (by rw [row_append]; exact HTT.out) HTR.out
          clear hlh
          have hL := state_lg w1.heap.size (.slice (some ⟨g, 0, none⟩) ps.length cpp) bl cf E3 w5 HC5.out.lg
          rw [t2] at hL
          go_wp2_with fail
          refine hL.mono ?_
          rintro e w6 ⟨rfl, hlh⟩
          clear hL
          have HC6 : Hid (Cm2 mf cf w w1.heap.size (.slice (some ⟨g, 0, none⟩) ps.length cpp) ps bl (fin mf cf (row inp)) inp.size (o ++ T) w6 E3) := HC5.out.step hsz1 hlh HC5.out.tw HC5.out.rest
          clear hlh
          have hL := ready_lg w1.heap.size (.slice (some ⟨g, 0, none⟩) ps.length cpp) bl cf inp.size E3 w6 HC6.out.lg (by omega) HC6.out.rest
          rw [t3] at hL
          go_wp2_with fail
          refine hL.mono ?_
          rintro e w7 ⟨rfl, hlh⟩
          clear hL
          have HB7 : Hid (Below w.heap.size w w7) := HC6.out.below.trans (hlh.2.1.mono hsz1)
          clear hlh
          go_wp2_with fail
          go_ret
          exact ⟨rfl, HB7.out⟩
end Ee
end Go.Proofs.YtppjlpihaocdiaaGreatDoor
