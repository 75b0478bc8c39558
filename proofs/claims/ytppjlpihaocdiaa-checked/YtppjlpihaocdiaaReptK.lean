/- Several texts in one. -/
import Derived.Test.YtppjlpihaocdiaaTabK
import Derived.Test.YtppjlpihaocdiaaBitsK
import Derived.Test.YtppjlpihaocdiaaTabCK
/- Sets of bytes, with what they hold: 'with', 'others'. -/
set_option linter.unusedSimpArgs false
set_option linter.unusedVariables false
namespace Go.Proofs.Ytppjlpihaocdiaa
namespace Tr
open Go.RowKit

theorem xor_u64 (a : Nat) (ha : a < 2 ^ 64) : ∃ r : Nat, bits .xor .u64 IntKind.u64.max a = r ∧ r < 2 ^ 64 ∧ ∀ i, i < 64 → r.testBit i = !a.testBit i := by
  have e : IntKind.u64.max = ((2 ^ 64 - 1 : Nat) : Int) := by decide
  refine ⟨(BitVec.ofNat 64 (2 ^ 64 - 1) ^^^ BitVec.ofNat 64 a).toNat, ?_, BitVec.isLt _, fun i hi => ?_⟩
  · rw [e]
    exact wrap_u64 _ (BitVec.isLt _)
  · rw [BitVec.toNat_xor, BitVec.toNat_ofNat, BitVec.toNat_ofNat, Nat.mod_eq_of_lt ha, Nat.testBit_xor, show ((2 ^ 64 - 1) % 2 ^ 64 : Nat) = 2 ^ 64 - 1 from by decide, Nat.testBit_two_pow_sub_one]
    simp [hi]

theorem ret_agg4 {a b c d : Int} {A B C D : Nat} (h : a = A) (h' : b = B) (h2 : c = C) (h3 : d = D) : Ending.returned (.agg #[.int .u64 a, .int .u64 b, .int .u64 c, .int .u64 d]) = .returned (.agg #[.int .u64 (A : Int), .int .u64 (B : Int), .int .u64 (C : Int), .int .u64 (D : Int)]) := by rw [h, h', h2, h3]

set_option maxHeartbeats 400000 in
theorem others_any (x0 x1 x2 x3 : Nat) (S : Nat → Bool) (w : World) (hS : S4 x0 x1 x2 x3 S) :
    Calls Try.prog 120 #[.agg #[.int .u64 x0, .int .u64 x1, .int .u64 x2, .int .u64 x3]] w fun e w' => (∃ y0 y1 y2 y3 : Nat, e = .returned (.agg #[.int .u64 y0, .int .u64 y1, .int .u64 y2, .int .u64 y3]) ∧ S4 y0 y1 y2 y3 (fun c => !S c)) ∧ Below w.heap.size w w' := by
  obtain ⟨y0, e0, b0, t0⟩ := xor_u64 x0 hS.a0
  obtain ⟨y1, e1, b1, t1⟩ := xor_u64 x1 hS.a1
  obtain ⟨y2, e2, b2, t2⟩ := xor_u64 x2 hS.a2
  obtain ⟨y3, e3, b3, t3⟩ := xor_u64 x3 hS.a3
  have HS : Hid (S4 y0 y1 y2 y3 (fun c => !S c)) := by
    refine ⟨b0, b1, b2, b3, fun c hc => ?_⟩
    rw [← hS.m c hc]
    unfold mem4
    split
    · exact t0 _ (by omega)
    · split
      · exact t1 _ (by omega)
      · split
        · exact t2 _ (by omega)
        · exact t3 _ (by omega)
  have H0 : Hid _ := e0
  have H1 : Hid _ := e1
  have H2 : Hid _ := e2
  have H3 : Hid _ := e3
  clear hS e0 e1 e2 e3
  go_enter Try.func120, Try.ntmps120
  go_wp2
  exact bodyPost_ret (v := .agg #[.int .u64 (bits BinOp.xor IntKind.u64 IntKind.u64.max x0), .int .u64 (bits BinOp.xor IntKind.u64 IntKind.u64.max x1), .int .u64 (bits BinOp.xor IntKind.u64 IntKind.u64.max x2), .int .u64 (bits BinOp.xor IntKind.u64 IntKind.u64.max x3)]) (by simp [results, Try.results120, go_sem]) rfl ⟨⟨y0, y1, y2, y3, ret_agg4 H0.out H1.out H2.out H3.out, HS.out⟩, ((Below.refl _ _).alloc (Nat.le_refl _) _).alloc (by simp) _⟩

/-- One byte more. -/
theorem S4.more {x0 x1 x2 x3 k : Nat} {S : Nat → Bool} (h : S4 x0 x1 x2 x3 S) (hk : k < 256) :
    S4 (if k / 64 = 0 then x0 ||| 2 ^ (k % 64) else x0) (if k / 64 = 1 then x1 ||| 2 ^ (k % 64) else x1) (if k / 64 = 2 then x2 ||| 2 ^ (k % 64) else x2) (if k / 64 = 3 then x3 ||| 2 ^ (k % 64) else x3) (fun c => S c || (c == k)) := by
  have hp : 2 ^ (k % 64) < 2 ^ 64 := Nat.pow_lt_pow_right (by decide) (by omega)
  refine ⟨?_, ?_, ?_, ?_, fun c hc => ?_⟩
  · split
    · exact Nat.or_lt_two_pow h.a0 hp
    · exact h.a0
  · split
    · exact Nat.or_lt_two_pow h.a1 hp
    · exact h.a1
  · split
    · exact Nat.or_lt_two_pow h.a2 hp
    · exact h.a2
  · split
    · exact Nat.or_lt_two_pow h.a3 hp
    · exact h.a3
  · rw [← h.m c hc]
    unfold mem4
    have key : ∀ (y q : Nat), q < 4 → c / 64 = q → (if k / 64 = q then y ||| 2 ^ (k % 64) else y).testBit (c - 64 * q) = (y.testBit (c - 64 * q) || (c == k)) := by
      intro y q hq hcq
      split
      · rename_i hkq
        rw [Nat.testBit_or, one_bit]
        congr 1
        rw [Bool.eq_iff_iff]; simp; omega
      · rename_i hkq
        have : (c == k) = false := by rw [beq_eq_false_iff_ne]; intro e; subst e; exact hkq hcq
        rw [this, Bool.or_false]
    by_cases h0 : c < 64
    · rw [if_pos h0, if_pos h0]
      have := key x0 0 (by omega) (by omega)
      simpa using this
    · rw [if_neg h0, if_neg h0]
      by_cases h1 : c < 128
      · rw [if_pos h1, if_pos h1]
        exact key x1 1 (by omega) (by omega)
      · rw [if_neg h1, if_neg h1]
        by_cases h2 : c < 192
        · rw [if_pos h2, if_pos h2]
          exact key x2 2 (by omega) (by omega)
        · rw [if_neg h2, if_neg h2]
          exact key x3 3 (by omega) (by omega)

theorem S4.congr {x0 x1 x2 x3 : Nat} {S S' : Nat → Bool} (h : S4 x0 x1 x2 x3 S) (e : ∀ c, c < 256 → S c = S' c) : S4 x0 x1 x2 x3 S' := ⟨h.a0, h.a1, h.a2, h.a3, fun c hc => (h.m c hc).trans (e c hc)⟩

theorem S4.zero : S4 0 0 0 0 (fun _ => false) := ⟨by decide, by decide, by decide, by decide, fun c _ => by unfold mem4; (repeat' split) <;> simp⟩

theorem or_pow (x k : Nat) (hx : x < 2 ^ 64) : bits .or .u64 (x : Int) (IntKind.u64.wrap (2 ^ (k % 64))) = ((x ||| 2 ^ (k % 64) : Nat) : Int) := by
  rw [wrap_pow _ (by omega), or_u64 _ _ hx (Nat.pow_lt_pow_right (by decide) (by omega))]

set_option maxHeartbeats 1000000 in
theorem with_any (x0 x1 x2 x3 : Nat) (S : Nat → Bool) (lo hi : Nat) (w : World) (hS : S4 x0 x1 x2 x3 S) (hlo : lo ≤ 255) (hhi : hi ≤ 255) :
    Calls Try.prog 124 #[.agg #[.int .u64 x0, .int .u64 x1, .int .u64 x2, .int .u64 x3], .int .u8 lo, .int .u8 hi] w fun e w' => (∃ y0 y1 y2 y3 : Nat, e = .returned (.agg #[.int .u64 y0, .int .u64 y1, .int .u64 y2, .int .u64 y3]) ∧ S4 y0 y1 y2 y3 (fun c => S c || (decide (lo ≤ c) && decide (c ≤ hi)))) ∧ Below w.heap.size w w' := by
  have HS : Hid (S4 x0 x1 x2 x3 S) := hS
  clear hS
  go_enter Try.func124, Try.ntmps124
  go_wp2
  go_loopw [7] (fun v wr => ∃ (k : Nat) (y0 y1 y2 y3 : Nat) (z0 z1 z2 z3 : Int), lo ≤ k ∧ k ≤ 256 ∧ v = .int .i64 k ∧ Four wr w.heap.size y0 y1 y2 y3 ∧ Four wr (w.heap.size + 1) z0 z1 z2 z3 ∧ Below w.heap.size w wr ∧ Hid (S4 y0 y1 y2 y3 (fun c => S c || (decide (lo ≤ c) && decide (c < k)))) ∧ Hid (k ≤ hi + 1 ∨ k = lo)) (fun v _ => 256 - (intOf v).toNat)
  case atStart => exact ⟨lo, x0, x1, x2, x3, 0, 0, 0, 0, Nat.le_refl _, by omega, rfl, by constructor <;> go_simp, by constructor <;> go_simp, ((Below.refl _ _).alloc (Nat.le_refl _) _).alloc (by simp) _, S4.congr HS.out (fun c hc => by rw [show (decide (lo ≤ c) && decide (c < lo)) = false from by rw [Bool.and_eq_false_iff]; simp; omega, Bool.or_false]), .inr rfl⟩
  case round =>
    obtain ⟨k, y0, y1, y2, y3, z0, z1, z2, z3, hkl, hk, rfl, hF, hG, hB, HS4, HKH⟩ := hrel
    have HB : Hid (Below w.heap.size w wr) := hB
    have HF : Hid (Four wr w.heap.size y0 y1 y2 y3) := hF
    have HG : Hid (Four wr (w.heap.size + 1) z0 z1 z2 z3) := hG
    clear hB
    obtain ⟨c0, c1, c2, c3, f0, f1, f2, f3⟩ := hF
    by_cases hlt : k ≤ hi
    · clear hG
      have HM : Hid _ := S4.more HS4.out (show k < 256 by omega)
      have HSn : Hid (∀ c, c < 256 → ((S c || (decide (lo ≤ c) && decide (c < k))) || (c == k)) = (S c || (decide (lo ≤ c) && decide (c < k + 1)))) := fun c _ => by
        cases S c
        · simp only [Bool.false_or]; rw [Bool.eq_iff_iff]; simp; omega
        · simp
      obtain hq | hq | hq | hq : (k : Int) / 64 = 0 ∨ (k : Int) / 64 = 1 ∨ (k : Int) / 64 = 2 ∨ (k : Int) / 64 = 3 := by omega
      all_goals
        have hr : 0 ≤ (k : Int) % 64 := by omega
        have hr2 : (k : Int) % 64 < 64 := by omega
        go_wp2
        go_region
        go_wp2
        go_roundw
        case rel =>
          have hm := HM.out
          refine ⟨k + 1, _, _, _, _, _, _, _, _, by omega, by omega, by go_num, ?_, HG.out.far (by omega) _ _, (HB.out.setCell (Nat.le_refl _) _).drew, S4.congr hm HSn.out, .inl (by omega)⟩
          first
            | (rw [or_pow _ _ HS4.out.a0, if_pos (by omega), if_neg (by omega), if_neg (by omega), if_neg (by omega)]; exact HF.out.put0 _)
            | (rw [or_pow _ _ HS4.out.a1, if_neg (by omega), if_pos (by omega), if_neg (by omega), if_neg (by omega)]; exact HF.out.put1 _)
            | (rw [or_pow _ _ HS4.out.a2, if_neg (by omega), if_neg (by omega), if_pos (by omega), if_neg (by omega)]; exact HF.out.put2 _)
            | (rw [or_pow _ _ HS4.out.a3, if_neg (by omega), if_neg (by omega), if_neg (by omega), if_pos (by omega)]; exact HF.out.put3 _)
        case measure => simp [intOf]; omega
    · obtain ⟨d0, d1, d2, d3, e0, e1, e2, e3⟩ := hG
      go_wp2
      refine bodyPost_ret (v := .agg #[.int .u64 y0, .int .u64 y1, .int .u64 y2, .int .u64 y3]) (by simp [results, Try.results124, go_sem, *]) rfl ⟨⟨_, _, _, _, rfl, S4.congr HS4.out fun c hc => ?_⟩, (((HB.out.setCell (by simp) _).setCell (by simp) _).setCell (by simp) _).setCell (by simp) _⟩
      have := HKH.out
      congr 1
      rw [Bool.eq_iff_iff]; simp; omega
end Tr
end Go.Proofs.Ytppjlpihaocdiaa

/- The program's table: rows, 'inOrder'. -/
set_option linter.unusedSimpArgs false
set_option linter.unusedVariables false
namespace Go.Proofs.Ytppjlpihaocdiaa
open Go.RowKit

def MR (a b : Value) : Sem Value := Instr.makeSlice 93 a b
theorem MR_eq (a b : Value) : Instr.makeSlice 93 a b = MR a b := rfl
attribute [local go_sem ↓] MR_eq

theorem Try.info96 : (Try.prog.info? 96).map (fun i => (i.zero, i.size, i.bytes)) = some (some (.slice none 0 0), 1, 24) := by kernel_rfl

theorem run_MR (n : Nat) (hn : n ≤ 100000) : ∃ A : Array Value, (∀ q, q < n → A[q]? = some (.slice none 0 0)) ∧ ∀ w, (MR (.int .i64 n) (.int .i64 n)).run Try.prog w = .ok (.slice (some ⟨w.heap.size, 0, none⟩) n n) (w.alloc (.cells A 96)) := by
  obtain ⟨i0, hi0, hz0, hz1, hz2⟩ := info_parts Try.info96
  refine ⟨madeCells (Value.slice none 0 0).cells (n * 1), fun q hq => madeCells_zero _ _ ?_ ?_ _ q (by omega), fun w => ?_⟩
  · intro k hk
    have : k = 0 := by simp [Value.cells] at hk; omega
    subst this; rfl
  · simp [Value.cells]
  · have := run_make (P := Try.prog) w 93 96 i0 _ Try.underlying93 hi0 hz0 .i64 .i64 n n (by omega) (Int.le_refl _) (by rw [hz2]; omega) (by omega)
    rw [hz1] at this
    rw [← MR_eq]
    simpa using this

/-- A row of tables that is being laid, from its end on. -/
structure Hf (w : World) (lo r n L k : Nat) (T : Nat → Nat → Nat → Bool) : Prop where
  lr : lo ≤ r
  slot : ∀ q, q < n → (∃ v, w.cell? ⟨r, q, none⟩ = some v) ∧ w.frozen? ⟨r, q, none⟩ = false
  at' : ∀ q, k ≤ q → q < n → ∃ g c, w.cell? ⟨r, q, none⟩ = some (.slice (some ⟨g, 0, none⟩) (L + 1) c) ∧ lo ≤ g ∧ g ≠ r ∧ Sts w g L (T q)

theorem Hf.made {w : World} {lo r n L : Nat} {A : Array Value} {t : TypeId} {T : Nat → Nat → Nat → Bool} (hA : ∀ q, q < n → A[q]? = some (.slice none 0 0)) (hb : w.heap[r]? = some (.cells A t)) (hlo : lo ≤ r) : Hf w lo r n L n T := by
  refine ⟨hlo, fun q hq => ⟨⟨.slice none 0 0, ?_⟩, ?_⟩, fun q h1 h2 => by omega⟩
  · rw [cell_of_row _ r q A t (0, 0) hb]; exact hA _ hq
  · simp [World.frozen?, hb]

theorem Hf.lt {w : World} {lo r n L k : Nat} {T : Nat → Nat → Nat → Bool} (h : Hf w lo r n L k T) (hn : 0 < n) : r < w.heap.size := by
  obtain ⟨⟨v, hv⟩, _⟩ := h.slot 0 hn
  exact World.block_lt_of_cell? w _ hv

theorem Hf.below {w w' : World} {lo r n L k : Nat} {T : Nat → Nat → Nat → Bool} (h : Hf w lo r n L k T) (hb : Below w.heap.size w w') : Hf w' lo r n L k T := by
  have hc : ∀ q v, w.cell? ⟨r, q, none⟩ = some v → w'.cell? ⟨r, q, none⟩ = some v := fun q v hv => (World.cell?_of_block (w := w) (w' := w') (a := ⟨r, q, none⟩) (hb.block _ (World.block_lt_of_cell? w _ hv))).trans hv
  refine ⟨h.lr, fun q hq => ?_, fun q h1 h2 => ?_⟩
  · obtain ⟨⟨v, hv⟩, hf⟩ := h.slot q hq
    exact ⟨⟨v, hc q v hv⟩, (World.frozen?_of_block (w := w) (w' := w') (a := ⟨r, q, none⟩) (hb.block _ (World.block_lt_of_cell? w _ hv))).trans hf⟩
  · obtain ⟨g, c, g1, g2, g3, g4⟩ := h.at' q h1 h2
    exact ⟨g, c, hc q _ g1, g2, g3, g4.below hb g4.lt⟩

theorem Hf.put {w : World} {lo r n L k g c : Nat} {T : Nat → Nat → Nat → Bool} {M : Nat → Nat → Bool} (h : Hf w lo r n L (k + 1) T) (hk : k < n) (hS : Sts w g L M) (hg : lo ≤ g) (hne : g ≠ r) :
    Hf (w.setCell ⟨r, k, none⟩ (.slice (some ⟨g, 0, none⟩) (L + 1) c)) lo r n L k (fun q => if q = k then M else T q) := by
  have hn : ∀ {a b : Nat}, a ≠ b → (⟨r, a, none⟩ : Addr) ≠ ⟨r, b, none⟩ := fun hab e => hab (by injection e)
  have hs : ∀ g M, g ≠ r → Sts w g L M → Sts (w.setCell ⟨r, k, none⟩ (.slice (some ⟨g, 0, none⟩) (L + 1) c)) g L M := fun g M h1 h2 => h2.of_block (Below.heap_setCell _ _ _ _ h1)
  refine ⟨h.lr, fun q hq => ?_, fun q h1 h2 => ?_⟩
  · obtain ⟨⟨v, hv⟩, hf⟩ := h.slot q hq
    refine ⟨?_, by rw [World.frozen?_setCell]; exact hf⟩
    by_cases e : q = k
    · subst e; exact ⟨_, World.cell?_setCell_same _ _ _ hv⟩
    · exact ⟨v, by rw [World.cell?_setCell_other (h := hn (by omega))]; exact hv⟩
  · by_cases e : q = k
    · subst e
      obtain ⟨⟨v, hv⟩, hf⟩ := h.slot q hk
      exact ⟨g, c, World.cell?_setCell_same _ _ _ hv, hg, hne, by rw [if_pos rfl]; exact hS.of_block (Below.heap_setCell _ _ _ _ hne)⟩
    · obtain ⟨g', c', g1, g2, g3, g4⟩ := h.at' q (by omega) h2
      exact ⟨g', c', by rw [World.cell?_setCell_other (h := hn (by omega))]; exact g1, g2, g3, by rw [if_neg e]; exact g4.of_block (Below.heap_setCell _ _ _ _ g3)⟩

theorem Hf.rw {w : World} {lo r n L : Nat} {T : Nat → Nat → Nat → Bool} (h : Hf w lo r n L 0 T) (hn : 0 < n) : Rw w lo r n L T :=
  ⟨h.lr, hn, fun q hq => by obtain ⟨g, c, g1, g2, _, g4⟩ := h.at' q (Nat.zero_le _) hq; exact ⟨g, c, g1, g2, g4⟩⟩

theorem Tl.then {L : Nat} {M1 M2 : Nat → Nat → Bool} {R1 R2 : Nat → Nat → Prop} (h1 : Tl L M1 R1) (h2 : Tl L M2 R2) (hs : Stays L R1) : Tl L (fun i j => ow M1 M2 i i (L + 1) j) (fun i j => ∃ m, R1 i m ∧ R2 m j) := by
  intro i hi j
  simp only
  rw [ow_iff]
  constructor
  · rintro ⟨m, a, b, c, d⟩
    exact ⟨m, (h1 i hi m).1 c, (h2 m (by omega) j).1 d⟩
  · rintro ⟨m, c, d⟩
    have := hs i m hi c
    exact ⟨m, by omega, by omega, (h1 i hi m).2 c, (h2 m (by omega) j).2 d⟩

set_option maxHeartbeats 4000000 in
theorem inOrder_any (p : Pp) (k lo kb c : Nat) (subs : List Nat) (R : Nat → Nat → Nat → Prop) (T : Nat → Nat → Nat → Nat → Bool) (m : Nat → Nat) (w : World) (h : TbAt w p k T m) (hlo : lo ≤ w.heap.size) (hlv : lo ≤ p.vb + 1)
    (hR : ∀ x, x < k → Tl p.s.size (T x 0) (R x)) (hst : ∀ x, x < k → Stays p.s.size (R x)) (hc : subs.length ≤ c) (hl : subs.length ≤ 1000) (hkid : ∀ (q y : Nat), subs[q]? = some y → w.cell? ⟨kb, q, none⟩ = some (.int .i64 y)) (hsub : ∀ y ∈ subs, y < k) :
    Calls Try.prog 74 #[.pointer (some ⟨p.tb, 0, none⟩), .slice (some ⟨kb, 0, none⟩) subs.length c] w fun e w' => ∃ r, e = .returned (.slice (some ⟨r, 0, none⟩) (subs.length + 1) (subs.length + 1)) ∧ ∃ U, Rw w' lo r (subs.length + 1) p.s.size U ∧ (∀ q, q ≤ subs.length → Tl p.s.size (U q) (Chain ((subs.map R).drop q))) ∧ Below w.heap.size w w' := by
  have HT : Hid (TbAt w p k T m) := h
  have HK : Hid (∀ (q y : Nat), subs[q]? = some y → w.cell? ⟨kb, q, none⟩ = some (.int .i64 y)) := hkid
  have HSB : Hid (∀ y ∈ subs, y < k) := hsub
  have HR : Hid (∀ x, x < k → Tl p.s.size (T x 0) (R x)) := hR
  have HST : Hid (∀ x, x < k → Stays p.s.size (R x)) := hst
  have hs80 := h.s80
  have hkn := h.kn
  have hmn := h.many
  have c3 := h.c3
  have htb : p.tb < w.heap.size := World.block_lt_of_cell? w _ c3
  obtain ⟨A1, hA1, m1⟩ := run_MR (subs.length + 1) (by omega)
  rw [show ((subs.length + 1 : Nat) : Int) = (subs.length : Int) + 1 by omega] at m1
  have HA : Hid (∀ q, q < subs.length + 1 → A1[q]? = some (.slice none 0 0)) := hA1
  clear h hkid hsub hR hA1 hst
  go_enter Try.func74, Try.ntmps74
  go_wp2_with fail
  refine (empties_any p.s.size _ hs80).mono ?_
  rintro e w1 ⟨g, rfl, hg, hS, hB0⟩
  replace hg : w.heap.size + 1 ≤ g := by simpa using hg
  have HB1 : Hid (Below w.heap.size w w1) := ((Below.refl _ _).alloc (Nat.le_refl _) _).trans (hB0.mono (by simp))
  have hF : Hf w1 lo w.heap.size (subs.length + 1) p.s.size (subs.length + 1) (fun _ _ _ => false) := (Hf.made HA.out (heap_alloc_new w _) hlo).below hB0
  have HF : Hid (Hf w1 lo w.heap.size (subs.length + 1) p.s.size (subs.length + 1) (fun _ _ _ => false)) := hF
  have HS1 : Hid (Sts w1 g p.s.size (fun i j => j == i)) := hS
  obtain ⟨⟨v0, s1⟩, s2⟩ := hF.slot subs.length (by omega)
  clear hS hB0 m1 hF
  go_wp2_with fail
  go_loopw [6] (fun v wr => ∃ (z : Int) (U : Nat → Nat → Nat → Bool), -1 ≤ z ∧ z < (subs.length : Int) ∧ v = .int .i64 z ∧ Hid (Hf wr lo w.heap.size (subs.length + 1) p.s.size (z + 1).toNat U) ∧ Hid (∀ q : Nat, z < (q : Int) → q ≤ subs.length → Tl p.s.size (U q) (Chain ((subs.map R).drop q))) ∧ Hid (Below w.heap.size w wr)) (fun v _ => (intOf v + 1).toNat)
  case atStart =>
    have hput := HF.out.put (c := p.s.size + 1) (by omega) HS1.out (by omega) (by omega)
    refine ⟨(subs.length : Int) - 1, _, by omega, by omega, rfl, by rw [show ((subs.length : Int) - 1 + 1).toNat = subs.length by omega]; exact hput, fun q h1 h2 => ?_, HB1.out.setCell (Nat.le_refl _) _⟩
    obtain rfl : q = subs.length := by omega
    rw [if_pos rfl, List.drop_of_length_le (by simp)]
    intro i hi j
    simp only [Chain, beq_iff_eq]
    exact eq_comm
  case round =>
    obtain ⟨z, U, hz1, hz2, rfl, HFr, HTl, HB⟩ := hrel
    by_cases hlt : 0 ≤ z
    · obtain ⟨n, rfl⟩ : ∃ n : Nat, z = n := ⟨z.toNat, by omega⟩
      have hn : n < subs.length := by omega
      obtain ⟨x, hx⟩ : ∃ x, subs[n]? = some x := ⟨_, List.getElem?_eq_getElem hn⟩
      have HX : Hid (subs[n]? = some x) := hx
      have hxk := HSB.out x (List.mem_of_getElem? hx)
      have hkw := HK.out n x hx
      have hkb : kb < w.heap.size := World.block_lt_of_cell? w _ hkw
      have k1 : wr.cell? ⟨kb, n, none⟩ = some (.int .i64 x) := (World.cell?_of_block (w := w) (w' := wr) (a := ⟨kb, n, none⟩) (HB.out.block _ hkb)).trans hkw
      have HFq : Hid (Hf wr lo w.heap.size (subs.length + 1) p.s.size (n + 1) U) := by
        have e := HFr.out
        rw [show ((n : Int) + 1).toNat = n + 1 by omega] at e
        exact e
      obtain ⟨g3, c3', e1, e2, e3, e4⟩ := HFq.out.at' (n + 1) (Nat.le_refl _) (by omega)
      have HE4 : Hid (Sts wr g3 p.s.size (U (n + 1))) := e4
      obtain ⟨⟨v1, s3⟩, s4⟩ := HFq.out.slot n (by omega)
      have HTd : Hid (TbAt wr.drew p k T m) := (HT.out.below HB.out).below (Below.refl wr.heap.size wr).drew
      have hw1 : IntKind.i64.wrap ((n : Int) + 1) = (n : Int) + 1 := wrap_one n (n + 1) rfl (by omega)
      have hw2 : (n : Int) + 1 < (subs.length : Int) + 1 := by omega
      have hw3 : (0 : Int) ≤ (n : Int) + 1 := by omega
      clear hx hkw e4 HFr
      go_wp2_with fail
      go_region_with (first
        | (go_at_call 52; (refine (whole_any' p k x T m _ HTd.out hxk).mono ?_; rintro e w2 ⟨g2, c2, rfl, hg2, hS, hw2⟩; subst w2; have HS2 : Hid (Sts wr.drew g2 p.s.size (T x 0)) := hS; clear hS))
        | (go_at_call 96; (refine (then_any p.s.size g2 g3 c2 c3' _ (T x 0) (U (n + 1)) hs80 HS2.out (HE4.out.of_block rfl)).mono ?_; rintro e w3 ⟨g4, rfl, hg4, hS4, hB4⟩; have hB5 : Below wr.heap.size wr w3 := (Below.refl wr.heap.size wr).drew.trans hB4; have HS4 : Hid (Sts w3 g4 p.s.size (fun i j => ow (T x 0) (U (n + 1)) i i (p.s.size + 1) j)) := hS4; have hF5 := HFq.out.below hB5; have HF5 : Hid (Hf w3 lo w.heap.size (subs.length + 1) p.s.size (n + 1) U) := hF5; obtain ⟨⟨v2, s5⟩, s6⟩ := hF5.slot n (by omega); have HB5 : Hid (Below wr.heap.size wr w3) := hB5; replace hg4 : wr.heap.size ≤ g4 := hg4; clear hS4 hB4 hB5 hF5)))
      all_goals
        go_wp2_with fail
        go_roundw
        case rel =>
          have hsz := HB.out.size
          have hrl : w.heap.size < wr.heap.size := HFq.out.lt (by omega)
          refine ⟨(n : Int) - 1, _, by omega, by omega, by go_num, by rw [show ((n : Int) - 1 + 1).toNat = n by omega]; exact HF5.out.put (by omega) HS4.out (by omega) (by omega), fun q h1 h2 => ?_, (HB.out.trans (HB5.out.mono hsz)).setCell (Nat.le_refl _) _⟩
          by_cases e : q = n
          · subst e
            rw [if_pos rfl]
            have hd : (subs.map R).drop q = R x :: (subs.map R).drop (q + 1) := by
              have e := HX.out
              rw [List.getElem?_eq_getElem hn] at e
              have e2 : subs[q] = x := by simpa using e
              rw [List.drop_eq_getElem_cons (by simpa using hn)]
              simp [e2]
            rw [hd]
            exact (HR.out x hxk).then (HTl.out (q + 1) (by omega) (by omega)) (HST.out x hxk)
          · rw [if_neg e]; exact HTl.out q (by omega) h2
        case measure => simp [intOf] <;> omega
    · have hz3 : z = -1 := by omega
      subst hz3
      go_wp2_with fail
      go_ret
      exact ⟨_, rfl, U, HFr.out.rw (by omega), fun q hq => HTl.out q (by omega) hq, HB.out⟩
end Go.Proofs.Ytppjlpihaocdiaa

/- Repetitions, as plain mathematics: what is still to come behind so many times. -/
set_option linter.unusedVariables false
namespace Go.Proofs.Ytppjlpihaocdiaa

/-- What is still to come behind q times, from i to j. -/
def Zt (R : Nat → Nat → Prop) (lo : Nat) (hi : Int) (q i j : Nat) : Prop := TimesR R lo hi q (fun k => k = i) j

theorem Zt_iff {R : Nat → Nat → Prop} {lo : Nat} {hi : Int} {q i j : Nat} : Zt R lo hi q i j ↔ ∃ m r : Nat, Pow R (lo - q) i m ∧ (r = 0 ∨ hi < 0 ∨ ((max q lo : Nat) : Int) + r ≤ hi) ∧ Pow (Full R) r m j := by
  unfold Zt TimesR
  constructor
  · rintro ⟨i', m, r, rfl, h⟩; exact ⟨m, r, h⟩
  · rintro ⟨m, r, h⟩; exact ⟨i, m, r, rfl, h⟩

theorem Zt_must {R : Nat → Nat → Prop} {lo : Nat} {hi : Int} {q i j : Nat} (h : q < lo) : Zt R lo hi q i j ↔ ∃ m, R i m ∧ Zt R lo hi (q + 1) m j := by
  rw [Zt_iff]
  rw [show lo - q = (lo - (q + 1)) + 1 by omega, show max q lo = lo by omega]
  constructor
  · rintro ⟨m, r, ⟨m', h1, h2⟩, h3, h4⟩
    exact ⟨m', h1, Zt_iff.2 ⟨m, r, h2, by rw [show max (q + 1) lo = lo by omega]; exact h3, h4⟩⟩
  · rintro ⟨m', h1, h2⟩
    obtain ⟨m, r, h2, h3, h4⟩ := Zt_iff.1 h2
    rw [show max (q + 1) lo = lo by omega] at h3
    exact ⟨m, r, ⟨m', h1, h2⟩, h3, h4⟩

theorem Zt_end {R : Nat → Nat → Prop} {lo : Nat} {hi : Int} {q i j : Nat} (h : lo ≤ q) (hh : hi = (q : Int)) : Zt R lo hi q i j ↔ i = j := by
  rw [Zt_iff]
  rw [show lo - q = 0 by omega, show max q lo = q by omega]
  constructor
  · rintro ⟨m, r, rfl, h3, h4⟩
    obtain rfl : r = 0 := by omega
    exact h4
  · rintro rfl
    exact ⟨i, 0, rfl, .inl rfl, rfl⟩

theorem Zt_may {R : Nat → Nat → Prop} {lo : Nat} {hi : Int} {q i j : Nat} (h : lo ≤ q) (hh : (q : Int) < hi) : Zt R lo hi q i j ↔ (i = j ∨ ∃ m, Full R i m ∧ Zt R lo hi (q + 1) m j) := by
  rw [Zt_iff]
  rw [show lo - q = 0 by omega, show max q lo = q by omega]
  constructor
  · rintro ⟨m, r, rfl, h3, h4⟩
    cases r with
    | zero => exact .inl h4
    | succ r =>
      obtain ⟨m', h5, h6⟩ := h4
      refine .inr ⟨m', h5, Zt_iff.2 ⟨m', r, ?_, ?_, h6⟩⟩
      · rw [show lo - (q + 1) = 0 by omega]; rfl
      · rw [show max (q + 1) lo = q + 1 by omega]; omega
  · rintro (rfl | ⟨m', h5, h6⟩)
    · exact ⟨i, 0, rfl, .inl rfl, rfl⟩
    · obtain ⟨m, r, h7, h8, h9⟩ := Zt_iff.1 h6
      rw [show lo - (q + 1) = 0 by omega] at h7
      cases h7
      rw [show max (q + 1) lo = q + 1 by omega] at h8
      exact ⟨i, r + 1, rfl, by omega, ⟨m', h5, h9⟩⟩

theorem Zt_any {R : Nat → Nat → Prop} {lo : Nat} {hi : Int} {q i j : Nat} (h : lo ≤ q) (hh : hi < 0) : Zt R lo hi q i j ↔ ∃ r : Nat, Pow (Full R) r i j := by
  rw [Zt_iff]
  rw [show lo - q = 0 by omega]
  constructor
  · rintro ⟨m, r, rfl, h3, h4⟩; exact ⟨r, h4⟩
  · rintro ⟨r, h4⟩; exact ⟨i, r, rfl, .inr (.inl hh), h4⟩

theorem Tl.again {L : Nat} {M1 M : Nat → Nat → Bool} {R : Nat → Nat → Prop} (h1 : Tl L M1 R) (hs : Stays L R) (hA : Agn L M1 M) : Tl L M (fun i j => ∃ r, Pow (Full R) r i j) := by
  have key : ∀ n i, i ≤ L → L - i < n → ∀ j, (M i j = true ↔ ∃ r, Pow (Full R) r i j) := by
    intro n
    induction n with
    | zero => intro i _ h; omega
    | succ n ih =>
      intro i hi hn j
      rw [hA i hi j, Bool.or_eq_true, ow_iff]
      constructor
      · rintro (h | ⟨m, a, b, c, d⟩)
        · have : j = i := by simpa using h
          subst this; exact ⟨0, rfl⟩
        · obtain ⟨r, hr⟩ := (ih m (by omega) (by omega) j).1 d
          exact ⟨r + 1, m, ⟨(h1 i hi m).1 c, by omega⟩, hr⟩
      · rintro ⟨r, hr⟩
        cases r with
        | zero => left; cases hr; simp
        | succ r =>
          obtain ⟨m, ⟨c, d⟩, e⟩ := hr
          have x := hs i m hi c
          exact .inr ⟨m, by omega, by omega, (h1 i hi m).2 c, (ih m (by omega) (by omega) j).2 ⟨r, e⟩⟩
  exact fun i hi j => key (L + 1) i hi (by omega) j

theorem Tl.maybe {L : Nat} {M1 M2 : Nat → Nat → Bool} {R1 R2 : Nat → Nat → Prop} (h1 : Tl L M1 R1) (h2 : Tl L M2 R2) (hs : Stays L R1) : Tl L (fun i j => (j == i) || ow M1 M2 i (i + 1) (L + 1) j) (fun i j => i = j ∨ ∃ m, Full R1 i m ∧ R2 m j) := by
  intro i hi j
  simp only [Bool.or_eq_true]
  rw [ow_iff]
  constructor
  · rintro (h | ⟨m, a, b, c, d⟩)
    · have : j = i := by simpa using h
      exact .inl this.symm
    · exact .inr ⟨m, ⟨(h1 i hi m).1 c, by omega⟩, (h2 m (by omega) j).1 d⟩
  · rintro (h | ⟨m, ⟨c, e⟩, d⟩)
    · left; simp [h]
    · have := hs i m hi c
      exact .inr ⟨m, by omega, by omega, (h1 i hi m).2 c, (h2 m (by omega) j).2 d⟩

theorem Tl.iff {L : Nat} {M : Nat → Nat → Bool} {R R' : Nat → Nat → Prop} (h : Tl L M R) (e : ∀ i j, R i j ↔ R' i j) : Tl L M R' := fun i hi j => (h i hi j).trans (e i j)

theorem Tl.empty {L : Nat} : Tl L (fun i j => j == i) (fun i j => i = j) := fun i hi j => by simp only [beq_iff_eq]; exact eq_comm
end Go.Proofs.Ytppjlpihaocdiaa

