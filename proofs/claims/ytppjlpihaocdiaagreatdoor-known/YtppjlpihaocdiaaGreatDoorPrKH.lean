/- A part of the proof. -/
import Derived.Test.YtppjlpihaocdiaaGreatDoorPrJH
import Derived.Lib.SlBytesConst
set_option linter.unusedSimpArgs false
set_option linter.unusedVariables false
namespace Go.Proofs.YtppjlpihaocdiaaGreatDoor
namespace Rs
open Go.RowKit
set_option maxRecDepth 100000 in
set_option maxHeartbeats 1600000 in
theorem noEsc_any (base : Nat) (v : Value) (l : List Nat) (w : World) (hown : w.ownsRow base 5 1 v l.length (u8L l)) (hl : ∀ x ∈ l, x < 256) :
    Calls Tryz.prog 254 #[v] w fun e w' => e = .returned (.bool (noEsc l)) ∧ Below w.heap.size w w' := by
  have HO : Hid (∀ u, Below w.heap.size w u → u.ownsRow base 5 1 v l.length (u8L l)) := fun u hu => own_of hown fun k hk => hu.block k (hown.lt k hk).2
  have HL : Hid (∀ x ∈ l, x < 256) := hl
  clear hown hl
  have kc := fun (w : World) (C : Array Value) (n c : Nat) => Lib.run_convert_bytes_const (P := Tryz.prog) w 99 5 C n c Tryz.underlying99 Tryz.underlying5
  go_enter Tryz.func254, Tryz.ntmps254
  go_wp2_with fail
  go_loopw [8] (fun v8 wr => ∃ k : Nat, v8 = .int .i64 (k : Int) ∧ k ≤ 3 ∧ Below w.heap.size w wr ∧ wr.cell? ⟨w.heap.size, 0, none⟩ = some (.int .u8 10) ∧ wr.cell? ⟨w.heap.size, 1, none⟩ = some (.int .u8 92) ∧ wr.cell? ⟨w.heap.size, 2, none⟩ = some (.int .u8 47) ∧ Hid (∀ q c, q < k → [10, 92, 47][q]? = some c → l.contains c = true)) (fun v8 _ => 3 - (intOf v8).toNat)
  case atStart =>
    refine ⟨0, rfl, by omega, (Below.refl _ _).alloc (Nat.le_refl _) _, cell_of_row _ w.heap.size 0 _ 5 (3, 4) (heap_alloc_new w _), cell_of_row _ w.heap.size 1 _ 5 (3, 4) (heap_alloc_new w _), cell_of_row _ w.heap.size 2 _ 5 (3, 4) (heap_alloc_new w _), fun q c h => by omega⟩
  case round =>
    obtain ⟨k, rfl, hk, hB, m0, m1, m2, HQ⟩ := hrel
    have HB : Hid (Below w.heap.size w wr) := hB
    clear hB
    have HOr : Hid (wr.ownsRow base 5 1 v l.length (u8L l)) := HO.out _ HB.out
    by_cases hk3 : k = 3
    · subst hk3
      have HN : Hid (noEsc l = true) := by
        have a0 := HQ.out 0 10 (by omega) rfl
        have a1 := HQ.out 1 92 (by omega) rfl
        have a2 := HQ.out 2 47 (by omega) rfl
        simp [Hid, noEsc] at a0 a1 a2 ⊢
        exact ⟨⟨a0, a1⟩, a2⟩
      go_wp2_with fail
      go_ret
      exact ⟨ret_bool HN.out.symm, HB.out⟩
    · obtain ⟨c, hc, hm⟩ : ∃ c : Nat, [10, 92, 47][k]? = some c ∧ wr.cell? ⟨w.heap.size, k, none⟩ = some (.int .u8 (c : Int)) := by
        have h3 : k = 0 ∨ k = 1 ∨ k = 2 := by omega
        rcases h3 with rfl | rfl | rfl
        · exact ⟨10, rfl, m0⟩
        · exact ⟨92, rfl, m1⟩
        · exact ⟨47, rfl, m2⟩
      have hc256 : c < 256 := by
        have h3 : k = 0 ∨ k = 1 ∨ k = 2 := by omega
        rcases h3 with rfl | rfl | rfl <;> (simp at hc; omega)
      have HCC : Hid ([10, 92, 47][k]? = some c) := hc
      have M0 : Hid (wr.cell? ⟨w.heap.size, 0, none⟩ = some (.int .u8 10) ∧ wr.cell? ⟨w.heap.size, 1, none⟩ = some (.int .u8 92) ∧ wr.cell? ⟨w.heap.size, 2, none⟩ = some (.int .u8 47)) := ⟨m0, m1, m2⟩
      have k1 : (0 : Int) ≤ (k : Int) := by omega
      have k2 : (k : Int) < 3 := by omega
      clear hc m0 m1 m2
      go_wp2_with fail
      refine (bIndex_any base v l c _ HOr.out HL.out hc256).mono ?_
      rintro e w1 ⟨x, rfl, hx, hw1⟩
      subst hw1
      rcases hx with ⟨hx1, hx2⟩ | ⟨hx1, hx2⟩
      · have HX : Hid (l.contains c = true) := hx1
        clear hx1
        go_wp2_with fail
        go_roundw
        case rel =>
          refine ⟨k + 1, rfl, by omega, HB.out, M0.out.1, M0.out.2.1, M0.out.2.2, fun q c' hq hc' => ?_⟩
          by_cases e : q = k
          · subst e
            rw [HCC.out] at hc'
            cases hc'
            exact HX.out
          · exact HQ.out q c' (by omega) hc'
        case measure => simp [intOf]; omega
      · have HN : Hid (noEsc l = false) := by
          have h3 : k = 0 ∨ k = 1 ∨ k = 2 := by omega
          have hcc := HCC.out
          rcases h3 with rfl | rfl | rfl
          · simp at hcc; subst hcc; simp [Hid, noEsc] at hx1 ⊢; intro h; exact absurd h hx1
          · simp at hcc; subst hcc; simp [Hid, noEsc] at hx1 ⊢; intro _ h; exact absurd h hx1
          · simp at hcc; subst hcc; simp [Hid, noEsc] at hx1 ⊢; intro _ _; exact hx1
        clear hx1
        go_wp2_with fail
        go_ret
        exact ⟨ret_bool HN.out.symm, HB.out⟩
theorem resc_nxt {s : ByteArray} {i : Nat} (h : nxt s rowEscs i = true) : i < s.size ∧ (byt s i = 110 ∨ byt s i = 92 ∨ byt s i = 47) := by
  simp [nxt] at h
  refine ⟨h.1, ?_⟩
  have h2 := h.2
  simp [inB, rowEscs] at h2
  omega
set_option maxHeartbeats 1600000 in
theorem escRow_any (b : Nat) (s : ByteArray) (i base : Nat) (v : Value) (l : List Nat) (w : World) (hr : Rc w b s i) (hp : pk s i = 92) (hbb : b < base) (hown : w.ownsRow base 5 1 v l.length (u8L l)) (hl : ∀ x ∈ l, x < 256) :
    Calls Tryz.prog 244 #[.pointer (some ⟨b, 0, none⟩), v] w fun e w' => e = .returned (.tuple #[.int .u8 ((rowByteF s l i).2.1 : Int), .bool (rowByteF s l i).2.2]) ∧ Mk b w w' (rowByteF s l i).1 := by
  have HR : Hid (Rc w b s i) := hr
  have hb : b < w.heap.size := Rc.lt hr
  have hle := hr.le
  have hs := hr.s40
  have HO : Hid (w.ownsRow base 5 1 v l.length (u8L l)) := hown
  have HL : Hid (∀ x ∈ l, x < 256) := hl
  obtain ⟨hlt, _⟩ := pk_byte (s := s) (i := i) (by rw [hp]; decide)
  have HF : Hid (rowByteF s l i = if noEsc l = true then (i, 0, false) else if nxt s rowEscs (i + 1) = true then (if l.contains (val (byt s (i + 1))) = true then (i + 1, 0, false) else (i + 2, val (byt s (i + 1)), true)) else (i + 1, 0, false)) := by rw [Hid, rowByteF, if_pos hp]
  clear hr hown hl hp
  generalize hG : rowByteF s l i = G
  have HG : Hid (rowByteF s l i = G) := hG
  clear hG
  go_enter Tryz.func244, Tryz.ntmps244
  go_wp2_with fail
  refine (noEsc_any base v l _ HO.out HL.out).mono ?_
  rintro e w1 ⟨rfl, hB⟩
  have HM1 : Hid (Mk b w w1 i) := (Mk.stay HR.out).below hB
  have HR1 : Hid (Rc w1 b s i) := Rc.below HR.out hB
  have HO1 : Hid (w1.ownsRow base 5 1 v l.length (u8L l)) := own_of HO.out fun k hk => hB.block k (HO.out.lt k hk).2
  clear hB
  obtain ⟨r0, r1, rf, _, _⟩ := HR1.out
  rcases bool_or (noEsc l) with hn | hn
  · have HG2 : Hid (G = (i, 0, false)) := by rw [Hid, ← HG.out, HF.out, if_pos hn]
    rw [hn]
    go_wp2_with fail
    go_ret2
    rw [HG2.out]
    exact ⟨rfl, HM1.out⟩
  · rw [hn]
    have HF2 : Hid (G = if nxt s rowEscs (i + 1) = true then (if l.contains (val (byt s (i + 1))) = true then (i + 1, 0, false) else (i + 2, val (byt s (i + 1)), true)) else (i + 1, 0, false)) := by rw [Hid, ← HG.out, HF.out, hn]; rfl
    clear hn HF
    have HR2 : Hid (Rc (w1.setCell ⟨b, 1, none⟩ (.int .i64 ((i : Int) + 1))) b s (i + 1)) := HR1.out.put (i + 1) (by omega) (by omega)
    have HM2 : Hid (Mk b w (w1.setCell ⟨b, 1, none⟩ (.int .i64 ((i : Int) + 1))) (i + 1)) := HM1.out.set (i + 1) (by omega)
    rcases bool_or (nxt s rowEscs (i + 1)) with hx | hx
    · have HX : Hid (nxt s rowEscs (i + 1) = true) := hx
      obtain ⟨h2, h3⟩ := resc_nxt hx
      have HB : Hid (((s[i + 1]).toNat : Int) = (byt s (i + 1) : Int)) := byt_int s (i + 1) h2
      have hy : ((s[i + 1]).toNat : Int) = (byt s (i + 1) : Int) := byt_int s (i + 1) h2
      have HF3 : Hid (G = if l.contains (val (byt s (i + 1))) = true then (i + 1, 0, false) else (i + 2, val (byt s (i + 1)), true)) := by rw [Hid, HF2.out, if_pos hx]
      generalize byt s (i + 1) = y at HF3 h3 hy
      have k1 : (0 : Int) ≤ (i : Int) + 1 := by omega
      have k2 : (i : Int) + 1 < (s.size : Int) := by omega
      have hy256 : y < 256 := by omega
      clear hx HF2 HB
      have HM2n : Hid (∀ n, Mk b w ((w1.setCell ⟨b, 1, none⟩ (.int .i64 ((i : Int) + 1))).drewN n) (i + 1)) := fun n => HM2.out.drewN n
      have HO2 : Hid (∀ n, ((w1.setCell ⟨b, 1, none⟩ (.int .i64 ((i : Int) + 1))).drewN n).ownsRow base 5 1 v l.length (u8L l)) := fun n => own_of HO1.out fun k hk => Below.heap_setCell _ _ _ _ (by have := (HO1.out.lt k hk).1; simp only; omega)
      by_cases h110 : y = 110
      · subst h110
        go_wp2_with fail
        refine (nextIsIn_any b s rowEscs (i + 1) _ HR2.out).mono ?_
        rw [HX.out]
        rintro e w3 ⟨rfl, n3, rfl⟩
        go_wp2_with fail
        go_quiet (fail)
        go_wp2_with fail
        refine (bIndex_any base v l 10 _ (HO2.out _) HL.out (by omega)).mono ?_
        rintro e w4 ⟨x, rfl, hx, hw4⟩
        subst hw4
        rcases hx with ⟨hx1, hx2⟩ | ⟨hx1, hx2⟩
        · have HF4 : Hid (G = (i + 1, 0, false)) := by rw [Hid, HF3.out, show val 110 = 10 from rfl, if_pos hx1]
          go_wp2_with fail
          go_ret2
          rw [HF4.out]
          exact ⟨rfl, HM2n.out _⟩
        · have HF4 : Hid (G = (i + 2, 10, true)) := by rw [Hid, HF3.out, show val 110 = 10 from rfl, hx1]; rfl
          go_wp2_with fail
          go_ret2
          rw [HF4.out]
          exact ⟨rfl, (HM2n.out _).set (i + 2) (by omega)⟩
      · have hne : ((y : Int) == 110) = false := beq_false_of_ne (by omega)
        go_wp2_with fail
        refine (nextIsIn_any b s rowEscs (i + 1) _ HR2.out).mono ?_
        rw [HX.out]
        rintro e w3 ⟨rfl, n3, rfl⟩
        go_wp2_with fail
        go_quiet (fail)
        go_wp2_with fail
        refine (bIndex_any base v l y _ (HO2.out _) HL.out hy256).mono ?_
        rintro e w4 ⟨x, rfl, hx, hw4⟩
        subst hw4
        rcases hx with ⟨hx1, hx2⟩ | ⟨hx1, hx2⟩
        · have HF4 : Hid (G = (i + 1, 0, false)) := by rw [Hid, HF3.out, show val y = y from if_neg h110, if_pos hx1]
          go_wp2_with fail
          go_ret2
          rw [HF4.out]
          exact ⟨rfl, HM2n.out _⟩
        · have HF4 : Hid (G = (i + 2, y, true)) := by rw [Hid, HF3.out, show val y = y from if_neg h110, hx1]; rfl
          go_wp2_with fail
          go_ret2
          rw [HF4.out]
          exact ⟨rfl, (HM2n.out _).set (i + 2) (by omega)⟩
    · have HX : Hid (nxt s rowEscs (i + 1) = false) := hx
      have HF3 : Hid (G = (i + 1, 0, false)) := by rw [Hid, HF2.out, hx]; rfl
      clear hx HF2
      go_wp2_with fail
      refine (nextIsIn_any b s rowEscs (i + 1) _ HR2.out).mono ?_
      rw [HX.out]
      rintro e w3 ⟨rfl, n3, rfl⟩
      go_wp2_with fail
      go_ret2
      rw [HF3.out]
      exact ⟨rfl, HM2.out.drewN _⟩
end Rs
end Go.Proofs.YtppjlpihaocdiaaGreatDoor
