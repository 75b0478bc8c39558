/- The first match and its spans: 'spans', 'First'. -/
import Derived.Test.YtppjlpihaocdiaaGiveF
set_option linter.unusedSimpArgs false
set_option linter.unusedVariables false
namespace Go.Proofs.Ytppjlpihaocdiaa
open Go.RowKit

def MO (a b : Value) : Sem Value := Instr.makeSlice 26 a b
theorem MO_eq (a b : Value) : Instr.makeSlice 26 a b = MO a b := rfl
attribute [local go_sem ↓] MO_eq

theorem Try.info36 : (Try.prog.info? 36).map (fun i => (i.zero, i.size, i.bytes)) = some (some (.agg #[.int .i64 0, .int .i64 0]), 2, 16) := by kernel_rfl

theorem run_MO (n : Nat) (hn : n ≤ 100000) : ∃ A : Array Value, (∀ q, q < n * 2 → A[q]? = some (.int .i64 0)) ∧ ∀ w, (MO (.int .i64 n) (.int .i64 n)).run Try.prog w = .ok (.slice (some ⟨w.heap.size, 0, none⟩) n n) (w.alloc (.cells A 36)) := by
  obtain ⟨i0, hi0, hz0, hz1, hz2⟩ := info_parts Try.info36
  refine ⟨madeCells (Value.agg #[.int .i64 0, .int .i64 0]).cells (n * 2), fun q hq => madeCells_zero _ _ ?_ ?_ _ q hq, fun w => ?_⟩
  · intro k hk
    have hk' : k < 2 := by simpa [Value.cells] using hk
    obtain rfl | rfl : k = 0 ∨ k = 1 := by omega
    · rfl
    · rfl
  · simp [Value.cells]
  · have := run_make (P := Try.prog) w 26 36 i0 _ Try.underlying26 hi0 hz0 .i64 .i64 n n (by omega) (Int.le_refl _) (by rw [hz2]; omega) (by omega)
    rw [hz1] at this
    rw [← MO_eq]
    simpa using this

/-- No bracket has got anything. -/
def noCaps (n : Nat) : Caps := List.replicate n ((-1 : Int), (-1 : Int))

set_option maxHeartbeats 4000000 in
theorem spans_any (p : Pp) (T : Nat → Nat → Nat → Nat → Bool) (m : Nat → Nat) (w : World) (hT : TbAt w p p.nodes.length T m) (hRI : ∀ (a : Nat) (d : Nd), p.nodes[a]? = some d → RowIs p.s (Mat p.s p.nodes) d (m a) (T a)) (hPN : ∀ (a : Nat) (d : Nd), p.nodes[a]? = some d → PNd a p.groups d)
    (hg9 : p.groups ≤ 9) (hrt : p.root < p.nodes.length) (i j : Nat) (hM : Mat p.s p.nodes p.root i j) (hij : i ≤ j) (hj : j ≤ p.s.size) :
    Calls Try.prog 54 #[.pointer (some ⟨p.tb, 0, none⟩), .agg #[.int .i64 i, .int .i64 j]] w
      fun e w' => ∃ ob, e = .returned (.slice (some ⟨ob, 0, none⟩) (p.groups + 1) (p.groups + 1)) ∧ w.heap.size ≤ ob ∧ ∃ c', OutAt w' ob (((i : Int), (j : Int)) :: c') ∧ c'.length = p.groups ∧ PGv p.s p.nodes p.root i j (noCaps p.groups) c' ∧ Below w.heap.size w w' := by
  have HC : Hid (Ctx p T m w (w.heap.size + 1)) := ⟨hT, hRI, hPN, by omega, hg9⟩
  have HM : Hid (Mat p.s p.nodes p.root i j) := hM
  have hs80 := hT.s80
  have hmany := hT.many
  have c1 := hT.c1
  have c2 := hT.c2
  have HC1 : Hid (w.cell? ⟨p.tb, 1, none⟩ = some (.int .i64 p.root)) := c1
  have HC2 : Hid (w.cell? ⟨p.tb, 2, none⟩ = some (.int .i64 p.groups)) := c2
  have htb : p.tb < w.heap.size := World.block_lt_of_cell? w _ c1
  obtain ⟨A1, hA1, m1⟩ := run_MO (p.groups + 1) (by omega)
  rw [show ((p.groups + 1 : Nat) : Int) = 1 + (p.groups : Int) by omega] at m1
  have HA : Hid (∀ q, q < (p.groups + 1) * 2 → A1[q]? = some (.int .i64 0)) := hA1
  clear hT hRI hPN hM hA1
  go_enter Try.func54, Try.ntmps54
  go_upto_region 2 with fail
  have hB2 : Below w.heap.size w ((w.alloc (.cells #[.int .i64 i, .int .i64 j] 36)).alloc (.cells A1 36)) := ((Below.refl _ _).alloc (Nat.le_refl _) _).alloc (by simp) _
  have hh2 : ((w.alloc (.cells #[.int .i64 i, .int .i64 j] 36)).alloc (.cells A1 36)).heap[w.heap.size + 1]? = some (.cells A1 36) := new_second w _ _
  have hL2 : Lf ((w.alloc (.cells #[.int .i64 i, .int .i64 j] 36)).alloc (.cells A1 36)) w.heap.size i j := (Lf.new w i j 36).of (Below.heap_alloc _ _ _ (by simp))
  have hz2 : ((w.alloc (.cells #[.int .i64 i, .int .i64 j] 36)).alloc (.cells A1 36)).heap.size = w.heap.size + 2 := by simp
  generalize ((w.alloc (.cells #[.int .i64 i, .int .i64 j] 36)).alloc (.cells A1 36)) = w2 at hB2 hh2 hL2 hz2
  have hO2 : OutAt w2 (w.heap.size + 1) (List.replicate (p.groups + 1) ((0 : Int), (0 : Int))) := by
    intro q x y hq
    have hql : q < p.groups + 1 := by
      have := (List.getElem?_eq_some_iff.1 hq).1
      simpa using this
    rw [List.getElem?_replicate_of_lt hql] at hq
    cases hq
    refine ⟨?_, ?_, ?_, ?_⟩
    · rw [cell_of_row w2 _ _ A1 36 (0, 0) hh2]; exact HA.out _ (by omega)
    · rw [cell_of_row w2 _ _ A1 36 (0, 0) hh2]; exact HA.out _ (by omega)
    · simp [World.frozen?, hh2]
    · simp [World.frozen?, hh2]
  have HO2 : Hid (OutAt w2 (w.heap.size + 1) (List.replicate (p.groups + 1) ((0 : Int), (0 : Int)))) := hO2
  have HB2 : Hid (Below w.heap.size w w2) := hB2
  have HL2 : Hid (Lf w2 w.heap.size i j) := hL2
  obtain ⟨l0, l1, l2⟩ := hL2
  obtain ⟨o1, o2, o3, o4⟩ := hO2 0 0 0 (by rw [List.getElem?_replicate_of_lt (by omega)])
  have d2 : w2.cell? ⟨p.tb, 2, none⟩ = some (.int .i64 p.groups) := (World.cell?_of_block (w := w) (w' := w2) (a := ⟨p.tb, 2, none⟩) (hB2.block p.tb htb)).trans c2
  have htb1 : p.tb ≠ w.heap.size + 1 := by omega
  simp only [Nat.zero_mul, Nat.zero_add] at o1 o2 o3 o4
  clear hB2 hh2 hO2 c1 c2 m1
  go_wp2_with fail
  go_loopw [22] (fun v wr => ∃ (k : Nat) (l : List (Int × Int)), k ≤ p.groups ∧ v = .int .i64 k ∧ l.length = p.groups ∧ Hid (OutAt wr (w.heap.size + 1) (((i : Int), (j : Int)) :: l)) ∧ Hid (∀ q, q < k → l[q]? = some ((-1 : Int), (-1 : Int))) ∧ Hid (Below w.heap.size w wr) ∧ Hid (Lf wr w.heap.size i j)) (fun v _ => p.groups + 1 - (intOf v).toNat)
  case atStart =>
    refine ⟨0, List.replicate p.groups ((0 : Int), (0 : Int)), Nat.zero_le _, rfl, by simp, ?_, fun q h => by omega, (HB2.out.setCell (by simp only; omega) _).setCell (by simp only; omega) _, (HL2.out.of (Below.heap_setCell _ _ _ _ (by simp only; omega))).of (Below.heap_setCell _ _ _ _ (by simp only; omega))⟩
    have := HO2.out.put (q := 0) i j (by simp)
    rw [List.replicate_succ, List.set_cons_zero] at this
    simp only [Nat.zero_mul, Nat.zero_add] at this
    exact this
  case round =>
    obtain ⟨k, l, hk, rfl, hll, HO, HQ, HB, HL⟩ := hrel
    by_cases hlt : k < p.groups
    · obtain ⟨v1, v2, hv⟩ : ∃ v1 v2, (((i : Int), (j : Int)) :: l)[1 + k]? = some (v1, v2) := by
        rw [List.getElem?_eq_getElem (by simp; omega)]
        exact ⟨_, _, rfl⟩
      obtain ⟨u1, u2, u3, u4⟩ := HO.out (1 + k) v1 v2 hv
      clear hv o1 o2 o3 o4
      go_wp2_with fail
      go_roundw
      case rel =>
        refine ⟨k + 1, l.set k ((-1 : Int), (-1 : Int)), hlt, by go_num, by rw [List.length_set]; exact hll, ?_, fun q hq => ?_, (HB.out.setCell (by simp only; omega) _).setCell (by simp only; omega) _, (HL.out.of (Below.heap_setCell _ _ _ _ (by simp only; omega))).of (Below.heap_setCell _ _ _ _ (by simp only; omega))⟩
        · have := HO.out.put (q := 1 + k) (-1) (-1) (by simp; omega)
          rw [Nat.add_comm 1 k, List.set_cons_succ] at this
          rw [Nat.add_comm 1 k]
          exact this
        · by_cases e : q = k
          · subst e; rw [List.getElem?_set_self (by omega)]
          · rw [List.getElem?_set_ne (by omega)]; exact HQ.out q (by omega)
      case measure => simp [intOf]; omega
    · have hk2 : k = p.groups := by omega
      subst hk2
      have hle : l = noCaps p.groups := by
        unfold noCaps
        refine List.ext_getElem? fun q => ?_
        by_cases hq : q < p.groups
        · rw [HQ.out q hq, List.getElem?_replicate_of_lt hq]
        · rw [List.getElem?_eq_none (by omega), List.getElem?_eq_none (by simp; omega)]
      subst hle
      have HN : Hid (Now p w (w.heap.size + 1) ((i : Int), (j : Int)) (noCaps p.groups) wr) := ⟨HB.out, HO.out, hll⟩
      have HNd : Hid (Now p w (w.heap.size + 1) ((i : Int), (j : Int)) (noCaps p.groups) wr.drew) := HN.out.below (Below.refl wr.heap.size wr).drew
      obtain ⟨l0, l1, l2⟩ := HL.out
      have d1 : wr.cell? ⟨p.tb, 1, none⟩ = some (.int .i64 p.root) := (World.cell?_of_block (w := w) (w' := wr) (a := ⟨p.tb, 1, none⟩) (HB.out.block p.tb htb)).trans HC1.out
      clear o1 o2 o3 o4
      go_wp2_with fail
      go_region_with (first
        | (go_at_call 77; (refine (give_all p T m w (w.heap.size + 1) HC.out (p.root + 1) p.root i j ((i : Int), (j : Int)) (noCaps p.groups) _ (by omega) hrt HNd.out HM.out hij hj).mono ?_; rintro e w5 ⟨rfl, c2, hN5, hG5, hF5⟩; have HN5 : Hid (Now p w (w.heap.size + 1) ((i : Int), (j : Int)) c2 w5) := hN5; have HG5 : Hid (PGv p.s p.nodes p.root i j (noCaps p.groups) c2) := hG5; clear hN5 hG5 hF5)))
      all_goals
        go_wp2_with fail
        go_ret
        exact ⟨_, rfl, by omega, c2, HN5.out.o, HN5.out.l, HG5.out, HN5.out.b⟩

/-- The match that begins first from a place on, the longest such. -/
def Best (L : Nat) (R : Nat → Nat → Prop) (pl i j : Nat) : Prop := pl ≤ i ∧ i ≤ j ∧ j ≤ L ∧ R i j ∧ (∀ i' j', pl ≤ i' → i' < i → ¬ R i' j') ∧ ∀ j', j < j' → ¬ R i j'

theorem Best.one {L : Nat} {R : Nat → Nat → Prop} {pl i j i' j' : Nat} (h : Best L R pl i j) (h' : Best L R pl i' j') : i = i' ∧ j = j' := by
  obtain ⟨a1, a2, a3, a4, a5, a6⟩ := h
  obtain ⟨b1, b2, b3, b4, b5, b6⟩ := h'
  have e : i = i' := by
    rcases Nat.lt_trichotomy i i' with e | e | e
    · exact absurd a4 (b5 i j a1 e)
    · exact e
    · exact absurd b4 (a5 i' j' b1 e)
  subst e
  refine ⟨rfl, ?_⟩
  rcases Nat.lt_trichotomy j j' with e | e | e
  · exact absurd b4 (a6 j' e)
  · exact e
  · exact absurd a4 (b6 j e)

set_option maxHeartbeats 4000000 in
theorem first_any (p : Pp) (T : Nat → Nat → Nat → Nat → Bool) (m : Nat → Nat) (w : World) (hT : TbAt w p p.nodes.length T m) (hRI : ∀ (a : Nat) (d : Nd), p.nodes[a]? = some d → RowIs p.s (Mat p.s p.nodes) d (m a) (T a)) (hPN : ∀ (a : Nat) (d : Nd), p.nodes[a]? = some d → PNd a p.groups d)
    (hg9 : p.groups ≤ 9) (hrt : p.root < p.nodes.length) (pl : Nat) (hpl : pl ≤ p.s.size + 1) :
    Calls Try.prog 26 #[.pointer (some ⟨p.tb, 0, none⟩), .int .i64 pl] w
      fun e w' => Below w.heap.size w w' ∧ ((e = .returned (.slice none 0 0) ∧ ∀ i j, pl ≤ i → i ≤ p.s.size → ¬ Mat p.s p.nodes p.root i j) ∨
        ∃ ob i j c', e = .returned (.slice (some ⟨ob, 0, none⟩) (p.groups + 1) (p.groups + 1)) ∧ w.heap.size ≤ ob ∧ Best p.s.size (Mat p.s p.nodes p.root) pl i j ∧ OutAt w' ob (((i : Int), (j : Int)) :: c') ∧ c'.length = p.groups ∧ PGv p.s p.nodes p.root i j (noCaps p.groups) c') := by
  have HT : Hid (TbAt w p p.nodes.length T m) := hT
  have HRI : Hid (∀ (a : Nat) (d : Nd), p.nodes[a]? = some d → RowIs p.s (Mat p.s p.nodes) d (m a) (T a)) := hRI
  have HPN : Hid (∀ (a : Nat) (d : Nd), p.nodes[a]? = some d → PNd a p.groups d) := hPN
  have HCx : Hid (Ctx p T m w w.heap.size) := ⟨hT, hRI, hPN, by omega, hg9⟩
  have hs80 := hT.s80
  have hmany := hT.many
  have c1 := hT.c1
  obtain ⟨g2, c2, hWI, hS2⟩ := hT.wholeIs hrt
  have HWI : Hid (WholeIs w p p.root g2 c2) := hWI
  have HS2 : Hid (Sts w g2 p.s.size (T p.root 0)) := hS2
  have hg2l := hS2.lt
  clear hT hRI hPN hWI hS2
  go_enter Try.func26, Try.ntmps26
  go_wp2_with fail
  refine (whole_is p p.root g2 c2 _ HWI.out).mono ?_
  rintro e w1 ⟨rfl, hw1⟩
  subst w1
  go_wp2_with fail
  go_loopw [6] (fun v wr => ∃ (i : Nat), pl ≤ i ∧ i ≤ p.s.size + 1 ∧ v = .int .i64 i ∧ Hid (∀ i' j', pl ≤ i' → i' < i → ¬ Mat p.s p.nodes p.root i' j') ∧ Hid (Below w.heap.size w wr)) (fun v _ => p.s.size + 2 - (intOf v).toNat)
  case atStart => exact ⟨pl, Nat.le_refl _, hpl, rfl, fun i' j' h1 h2 => by omega, Below.refl _ _⟩
  case round =>
    obtain ⟨i, hi1, hi2, rfl, HN, HB⟩ := hrel
    by_cases hlt : i ≤ p.s.size
    · have HS3 : Hid (Sts wr g2 p.s.size (T p.root 0)) := HS2.out.below HB.out hg2l
      obtain ⟨A2, B2, z1, z2, z3, z4, z5⟩ := HS3.out.cell i hlt
      have HP2 : Hid (Pl A2 B2 (T p.root 0 i)) := z5
      clear z5
      go_wp2_with fail
      refine (greatest_any A2 B2 _ _ HP2.out).mono ?_
      rintro e w1 ⟨j, ok, rfl, hB1, hG⟩
      have HB1 : Hid (Below w.heap.size w w1) := HB.out.trans (hB1.mono HB.out.size)
      have hsz1 := HB1.out.size
      rcases hG with ⟨rfl, hj1, hj2, hj3⟩ | ⟨rfl, hj3⟩
      · have HM : Hid (Mat p.s p.nodes p.root i j) := (HCx.out.tl hrt i hlt j).1 hj2
        have hst := HCx.out.st p.root i j hlt HM.out
        have HBest : Hid (Best p.s.size (Mat p.s p.nodes p.root) pl i j) := by
          refine ⟨hi1, hst.1, hst.2, HM.out, HN.out, fun j' h1 h2 => ?_⟩
          have hst' := HCx.out.st p.root i j' hlt h2
          have := (HCx.out.tl hrt i hlt j').2 h2
          rw [hj3 j' h1 (by omega)] at this
          cases this
        clear hB1 hj2 hj3 z1 z2 z3 z4
        go_wp2_with fail
        refine (spans_any p T m _ (HT.out.below HB1.out) HRI.out HPN.out hg9 hrt i j HM.out hst.1 hst.2).mono ?_
        rintro e w2 ⟨ob, rfl, hob, c', h1, h2, h3, h4⟩
        have H1 : Hid (OutAt w2 ob (((i : Int), (j : Int)) :: c')) := h1
        have H3 : Hid (PGv p.s p.nodes p.root i j (noCaps p.groups) c') := h3
        have H4 : Hid (Below w.heap.size w w2) := HB1.out.trans (h4.mono hsz1)
        clear h1 h3 h4
        go_wp2_with fail
        go_ret
        exact ⟨H4.out, .inr ⟨ob, i, j, c', rfl, by omega, HBest.out, H1.out, h2, H3.out⟩⟩
      · have HN2 : Hid (∀ j', ¬ Mat p.s p.nodes p.root i j') := fun j' h2 => by
          have hst' := HCx.out.st p.root i j' hlt h2
          have := (HCx.out.tl hrt i hlt j').2 h2
          rw [hj3 j' (by omega)] at this
          cases this
        clear hB1 hj3 z1 z2 z3 z4
        go_wp2_with fail
        go_roundw
        case rel => exact ⟨i + 1, by omega, by omega, by go_num, fun i' j' h1 h2 => by
                      by_cases e : i' = i
                      · subst e; exact HN2.out j'
                      · exact HN.out i' j' h1 (by omega), HB1.out⟩
        case measure => simp [intOf]; omega
    · go_wp2_with fail
      go_ret
      exact ⟨HB.out, .inl ⟨rfl, fun i' j' h1 h2 => HN.out i' j' h1 (by omega)⟩⟩
end Go.Proofs.Ytppjlpihaocdiaa
