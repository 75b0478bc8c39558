/- The program's table: rows, 'inOrder'. -/
import Derived.Test.YtppjlpihaocdiaaTabC
set_option linter.unusedSimpArgs false
set_option linter.unusedVariables false
namespace Go.Proofs.Ytppjlpihaocdiaa
open Go.RowKit

def MR (a b : Value) : Sem Value := Instr.makeSlice 93 a b
theorem MR_eq (a b : Value) : Instr.makeSlice 93 a b = MR a b := rfl
attribute [local go_sem ↓] MR_eq

theorem Try.info96 : (Try.prog.info? 96).map (fun i => (i.zero, i.size, i.bytes)) = some (some (.slice none 0 0), 1, 24) := by kernel_rfl

theorem run_MR (n : Nat) (hn : n ≤ 100000) : ∃ A : Array Value, (∀ q, q < n → A[q]? = some (.slice none 0 0)) ∧ ∀ w, (MR (.int .i64 n) (.int .i64 n)).run Try.prog w = .ok (.slice (some ⟨w.heap.size, 0, none⟩) n n) (w.alloc (.cells A 96)) := by
  obtain ⟨i0, hi0, hz0, hz1, hz2⟩ := info_parts Try.info96
  refine ⟨madeCells (Value.slice none 0 0).cells (n * 1), fun q hq => madeCells_zero _ _ ?_ ?_ _ q (by omega), fun w => ?_⟩
  · intro k hk
    have : k = 0 := by simp [Value.cells] at hk; omega
    subst this; rfl
  · simp [Value.cells]
  · have := run_make (P := Try.prog) w 93 96 i0 _ Try.underlying93 hi0 hz0 .i64 .i64 n n (by omega) (Int.le_refl _) (by rw [hz2]; omega) (by omega)
    rw [hz1] at this
    rw [← MR_eq]
    simpa using this

/-- A row of tables that is being laid, from its end on. -/
structure Hf (w : World) (lo r n L k : Nat) (T : Nat → Nat → Nat → Bool) : Prop where
  lr : lo ≤ r
  slot : ∀ q, q < n → (∃ v, w.cell? ⟨r, q, none⟩ = some v) ∧ w.frozen? ⟨r, q, none⟩ = false
  at' : ∀ q, k ≤ q → q < n → ∃ g c, w.cell? ⟨r, q, none⟩ = some (.slice (some ⟨g, 0, none⟩) (L + 1) c) ∧ lo ≤ g ∧ g ≠ r ∧ Sts w g L (T q)

theorem Hf.made {w : World} {lo r n L : Nat} {A : Array Value} {t : TypeId} {T : Nat → Nat → Nat → Bool} (hA : ∀ q, q < n → A[q]? = some (.slice none 0 0)) (hb : w.heap[r]? = some (.cells A t)) (hlo : lo ≤ r) : Hf w lo r n L n T := by
  refine ⟨hlo, fun q hq => ⟨⟨.slice none 0 0, ?_⟩, ?_⟩, fun q h1 h2 => by omega⟩
  · rw [cell_of_row _ r q A t (0, 0) hb]; exact hA _ hq
  · simp [World.frozen?, hb]

theorem Hf.lt {w : World} {lo r n L k : Nat} {T : Nat → Nat → Nat → Bool} (h : Hf w lo r n L k T) (hn : 0 < n) : r < w.heap.size := by
  obtain ⟨⟨v, hv⟩, _⟩ := h.slot 0 hn
  exact World.block_lt_of_cell? w _ hv

theorem Hf.below {w w' : World} {lo r n L k : Nat} {T : Nat → Nat → Nat → Bool} (h : Hf w lo r n L k T) (hb : Below w.heap.size w w') : Hf w' lo r n L k T := by
  have hc : ∀ q v, w.cell? ⟨r, q, none⟩ = some v → w'.cell? ⟨r, q, none⟩ = some v := fun q v hv => (World.cell?_of_block (w := w) (w' := w') (a := ⟨r, q, none⟩) (hb.block _ (World.block_lt_of_cell? w _ hv))).trans hv
  refine ⟨h.lr, fun q hq => ?_, fun q h1 h2 => ?_⟩
  · obtain ⟨⟨v, hv⟩, hf⟩ := h.slot q hq
    exact ⟨⟨v, hc q v hv⟩, (World.frozen?_of_block (w := w) (w' := w') (a := ⟨r, q, none⟩) (hb.block _ (World.block_lt_of_cell? w _ hv))).trans hf⟩
  · obtain ⟨g, c, g1, g2, g3, g4⟩ := h.at' q h1 h2
    exact ⟨g, c, hc q _ g1, g2, g3, g4.below hb g4.lt⟩

theorem Hf.put {w : World} {lo r n L k g c : Nat} {T : Nat → Nat → Nat → Bool} {M : Nat → Nat → Bool} (h : Hf w lo r n L (k + 1) T) (hk : k < n) (hS : Sts w g L M) (hg : lo ≤ g) (hne : g ≠ r) :
    Hf (w.setCell ⟨r, k, none⟩ (.slice (some ⟨g, 0, none⟩) (L + 1) c)) lo r n L k (fun q => if q = k then M else T q) := by
  have hn : ∀ {a b : Nat}, a ≠ b → (⟨r, a, none⟩ : Addr) ≠ ⟨r, b, none⟩ := fun hab e => hab (by injection e)
  have hs : ∀ g M, g ≠ r → Sts w g L M → Sts (w.setCell ⟨r, k, none⟩ (.slice (some ⟨g, 0, none⟩) (L + 1) c)) g L M := fun g M h1 h2 => h2.of_block (Below.heap_setCell _ _ _ _ h1)
  refine ⟨h.lr, fun q hq => ?_, fun q h1 h2 => ?_⟩
  · obtain ⟨⟨v, hv⟩, hf⟩ := h.slot q hq
    refine ⟨?_, by rw [World.frozen?_setCell]; exact hf⟩
    by_cases e : q = k
    · subst e; exact ⟨_, World.cell?_setCell_same _ _ _ hv⟩
    · exact ⟨v, by rw [World.cell?_setCell_other (h := hn (by omega))]; exact hv⟩
  · by_cases e : q = k
    · subst e
      obtain ⟨⟨v, hv⟩, hf⟩ := h.slot q hk
      exact ⟨g, c, World.cell?_setCell_same _ _ _ hv, hg, hne, by rw [if_pos rfl]; exact hS.of_block (Below.heap_setCell _ _ _ _ hne)⟩
    · obtain ⟨g', c', g1, g2, g3, g4⟩ := h.at' q (by omega) h2
      exact ⟨g', c', by rw [World.cell?_setCell_other (h := hn (by omega))]; exact g1, g2, g3, by rw [if_neg e]; exact g4.of_block (Below.heap_setCell _ _ _ _ g3)⟩

theorem Hf.rw {w : World} {lo r n L : Nat} {T : Nat → Nat → Nat → Bool} (h : Hf w lo r n L 0 T) (hn : 0 < n) : Rw w lo r n L T :=
  ⟨h.lr, hn, fun q hq => by obtain ⟨g, c, g1, g2, _, g4⟩ := h.at' q (Nat.zero_le _) hq; exact ⟨g, c, g1, g2, g4⟩⟩

theorem Tl.then {L : Nat} {M1 M2 : Nat → Nat → Bool} {R1 R2 : Nat → Nat → Prop} (h1 : Tl L M1 R1) (h2 : Tl L M2 R2) (hs : Stays L R1) : Tl L (fun i j => ow M1 M2 i i (L + 1) j) (fun i j => ∃ m, R1 i m ∧ R2 m j) := by
  intro i hi j
  simp only
  rw [ow_iff]
  constructor
  · rintro ⟨m, a, b, c, d⟩
    exact ⟨m, (h1 i hi m).1 c, (h2 m (by omega) j).1 d⟩
  · rintro ⟨m, c, d⟩
    have := hs i m hi c
    exact ⟨m, by omega, by omega, (h1 i hi m).2 c, (h2 m (by omega) j).2 d⟩

set_option maxHeartbeats 4000000 in
theorem inOrder_any (p : Pp) (k lo kb c : Nat) (subs : List Nat) (R : Nat → Nat → Nat → Prop) (T : Nat → Nat → Nat → Nat → Bool) (m : Nat → Nat) (w : World) (h : TbAt w p k T m) (hlo : lo ≤ w.heap.size) (hlv : lo ≤ p.vb + 1)
    (hR : ∀ x, x < k → Tl p.s.size (T x 0) (R x)) (hst : ∀ x, x < k → Stays p.s.size (R x)) (hc : subs.length ≤ c) (hl : subs.length ≤ 1000) (hkid : ∀ (q y : Nat), subs[q]? = some y → w.cell? ⟨kb, q, none⟩ = some (.int .i64 y)) (hsub : ∀ y ∈ subs, y < k) :
    Calls Try.prog 74 #[.pointer (some ⟨p.tb, 0, none⟩), .slice (some ⟨kb, 0, none⟩) subs.length c] w fun e w' => ∃ r, e = .returned (.slice (some ⟨r, 0, none⟩) (subs.length + 1) (subs.length + 1)) ∧ ∃ U, Rw w' lo r (subs.length + 1) p.s.size U ∧ (∀ q, q ≤ subs.length → Tl p.s.size (U q) (Chain ((subs.map R).drop q))) ∧ Below w.heap.size w w' := by
  have HT : Hid (TbAt w p k T m) := h
  have HK : Hid (∀ (q y : Nat), subs[q]? = some y → w.cell? ⟨kb, q, none⟩ = some (.int .i64 y)) := hkid
  have HSB : Hid (∀ y ∈ subs, y < k) := hsub
  have HR : Hid (∀ x, x < k → Tl p.s.size (T x 0) (R x)) := hR
  have HST : Hid (∀ x, x < k → Stays p.s.size (R x)) := hst
  have hs80 := h.s80
  have hkn := h.kn
  have hmn := h.many
  have c3 := h.c3
  have htb : p.tb < w.heap.size := World.block_lt_of_cell? w _ c3
  obtain ⟨A1, hA1, m1⟩ := run_MR (subs.length + 1) (by omega)
  rw [show ((subs.length + 1 : Nat) : Int) = (subs.length : Int) + 1 by omega] at m1
  have HA : Hid (∀ q, q < subs.length + 1 → A1[q]? = some (.slice none 0 0)) := hA1
  clear h hkid hsub hR hA1 hst
  go_enter Try.func74, Try.ntmps74
  go_wp2_with fail
  refine (empties_any p.s.size _ hs80).mono ?_
  rintro e w1 ⟨g, rfl, hg, hS, hB0⟩
  replace hg : w.heap.size + 1 ≤ g := by simpa using hg
  have HB1 : Hid (Below w.heap.size w w1) := ((Below.refl _ _).alloc (Nat.le_refl _) _).trans (hB0.mono (by simp))
  have hF : Hf w1 lo w.heap.size (subs.length + 1) p.s.size (subs.length + 1) (fun _ _ _ => false) := (Hf.made HA.out (heap_alloc_new w _) hlo).below hB0
  have HF : Hid (Hf w1 lo w.heap.size (subs.length + 1) p.s.size (subs.length + 1) (fun _ _ _ => false)) := hF
  have HS1 : Hid (Sts w1 g p.s.size (fun i j => j == i)) := hS
  obtain ⟨⟨v0, s1⟩, s2⟩ := hF.slot subs.length (by omega)
  clear hS hB0 m1 hF
  go_wp2_with fail
  go_loopw [6] (fun v wr => ∃ (z : Int) (U : Nat → Nat → Nat → Bool), -1 ≤ z ∧ z < (subs.length : Int) ∧ v = .int .i64 z ∧ Hid (Hf wr lo w.heap.size (subs.length + 1) p.s.size (z + 1).toNat U) ∧ Hid (∀ q : Nat, z < (q : Int) → q ≤ subs.length → Tl p.s.size (U q) (Chain ((subs.map R).drop q))) ∧ Hid (Below w.heap.size w wr)) (fun v _ => (intOf v + 1).toNat)
  case atStart =>
    have hput := HF.out.put (c := p.s.size + 1) (by omega) HS1.out (by omega) (by omega)
    refine ⟨(subs.length : Int) - 1, _, by omega, by omega, rfl, by rw [show ((subs.length : Int) - 1 + 1).toNat = subs.length by omega]; exact hput, fun q h1 h2 => ?_, HB1.out.setCell (Nat.le_refl _) _⟩
    obtain rfl : q = subs.length := by omega
    rw [if_pos rfl, List.drop_of_length_le (by simp)]
    intro i hi j
    simp only [Chain, beq_iff_eq]
    exact eq_comm
  case round =>
    obtain ⟨z, U, hz1, hz2, rfl, HFr, HTl, HB⟩ := hrel
    by_cases hlt : 0 ≤ z
    · obtain ⟨n, rfl⟩ : ∃ n : Nat, z = n := ⟨z.toNat, by omega⟩
      have hn : n < subs.length := by omega
      obtain ⟨x, hx⟩ : ∃ x, subs[n]? = some x := ⟨_, List.getElem?_eq_getElem hn⟩
      have HX : Hid (subs[n]? = some x) := hx
      have hxk := HSB.out x (List.mem_of_getElem? hx)
      have hkw := HK.out n x hx
      have hkb : kb < w.heap.size := World.block_lt_of_cell? w _ hkw
      have k1 : wr.cell? ⟨kb, n, none⟩ = some (.int .i64 x) := (World.cell?_of_block (w := w) (w' := wr) (a := ⟨kb, n, none⟩) (HB.out.block _ hkb)).trans hkw
      have HFq : Hid (Hf wr lo w.heap.size (subs.length + 1) p.s.size (n + 1) U) := by
        have e := HFr.out
        rw [show ((n : Int) + 1).toNat = n + 1 by omega] at e
        exact e
      obtain ⟨g3, c3', e1, e2, e3, e4⟩ := HFq.out.at' (n + 1) (Nat.le_refl _) (by omega)
      have HE4 : Hid (Sts wr g3 p.s.size (U (n + 1))) := e4
      obtain ⟨⟨v1, s3⟩, s4⟩ := HFq.out.slot n (by omega)
      have HTd : Hid (TbAt wr.drew p k T m) := (HT.out.below HB.out).below (Below.refl wr.heap.size wr).drew
      have hw1 : IntKind.i64.wrap ((n : Int) + 1) = (n : Int) + 1 := wrap_one n (n + 1) rfl (by omega)
      have hw2 : (n : Int) + 1 < (subs.length : Int) + 1 := by omega
      have hw3 : (0 : Int) ≤ (n : Int) + 1 := by omega
      clear hx hkw e4 HFr
      go_wp2_with fail
      go_region_with (first
        | (go_at_call 52; (refine (whole_any' p k x T m _ HTd.out hxk).mono ?_; rintro e w2 ⟨g2, c2, rfl, hg2, hS, hw2⟩; subst w2; have HS2 : Hid (Sts wr.drew g2 p.s.size (T x 0)) := hS; clear hS))
        | (go_at_call 96; (refine (then_any p.s.size g2 g3 c2 c3' _ (T x 0) (U (n + 1)) hs80 HS2.out (HE4.out.of_block rfl)).mono ?_; rintro e w3 ⟨g4, rfl, hg4, hS4, hB4⟩; have hB5 : Below wr.heap.size wr w3 := (Below.refl wr.heap.size wr).drew.trans hB4; have HS4 : Hid (Sts w3 g4 p.s.size (fun i j => ow (T x 0) (U (n + 1)) i i (p.s.size + 1) j)) := hS4; have hF5 := HFq.out.below hB5; have HF5 : Hid (Hf w3 lo w.heap.size (subs.length + 1) p.s.size (n + 1) U) := hF5; obtain ⟨⟨v2, s5⟩, s6⟩ := hF5.slot n (by omega); have HB5 : Hid (Below wr.heap.size wr w3) := hB5; replace hg4 : wr.heap.size ≤ g4 := hg4; clear hS4 hB4 hB5 hF5)))
      all_goals
        go_wp2_with fail
        go_roundw
        case rel =>
          have hsz := HB.out.size
          have hrl : w.heap.size < wr.heap.size := HFq.out.lt (by omega)
          refine ⟨(n : Int) - 1, _, by omega, by omega, by go_num, by rw [show ((n : Int) - 1 + 1).toNat = n by omega]; exact HF5.out.put (by omega) HS4.out (by omega) (by omega), fun q h1 h2 => ?_, (HB.out.trans (HB5.out.mono hsz)).setCell (Nat.le_refl _) _⟩
          by_cases e : q = n
          · subst e
            rw [if_pos rfl]
            have hd : (subs.map R).drop q = R x :: (subs.map R).drop (q + 1) := by
              have e := HX.out
              rw [List.getElem?_eq_getElem hn] at e
              have e2 : subs[q] = x := by simpa using e
              rw [List.drop_eq_getElem_cons (by simpa using hn)]
              simp [e2]
            rw [hd]
            exact (HR.out x hxk).then (HTl.out (q + 1) (by omega) (by omega)) (HST.out x hxk)
          · rw [if_neg e]; exact HTl.out q (by omega) h2
        case measure => simp [intOf] <;> omega
    · have hz3 : z = -1 := by omega
      subst hz3
      go_wp2_with fail
      go_ret
      exact ⟨_, rfl, U, HFr.out.rw (by omega), fun q hq => HTl.out q (by omega) hq, HB.out⟩
end Go.Proofs.Ytppjlpihaocdiaa
