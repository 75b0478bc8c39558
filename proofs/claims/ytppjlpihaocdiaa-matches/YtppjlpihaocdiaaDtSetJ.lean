/- The document's reader: a set. -/
import Derived.Test.YtppjlpihaocdiaaDtLeafJ
import Derived.Test.YtppjlpihaocdiaaReadsJ
set_option linter.unusedSimpArgs false
set_option linter.unusedVariables false
namespace Go.Proofs.Ytppjlpihaocdiaa
namespace Dt
open Go.RowKit

/-- A set of bytes, as 256 cells. -/
def b256 (f : Nat → Bool) : List Value := (List.range 256).map fun k => Value.bool (f k)
theorem b256_length (f : Nat → Bool) : (b256 f).length = 256 := by simp [b256]
theorem b256_at (f : Nat → Bool) {k : Nat} (hk : k < 256) : (b256 f)[k]? = some (.bool (f k)) := by simp [b256, hk]
theorem b256_set (f : Nat → Bool) (k : Nat) (b : Bool) : (b256 f).set k (.bool b) = b256 fun j => if j = k then b else f j := by
  apply List.ext_getElem?
  intro j
  by_cases hj : j < 256
  · rw [b256_at _ hj]
    by_cases hjk : j = k
    · subst hjk
      rw [List.getElem?_set_self (by rw [b256_length]; exact hj), if_pos rfl]
    · rw [List.getElem?_set_ne (fun e => hjk e.symm), b256_at _ hj, if_neg hjk]
  · rw [List.getElem?_eq_none (by rw [List.length_set, b256_length]; omega), List.getElem?_eq_none (by rw [b256_length]; omega)]
theorem b256_one (f : Nat → Bool) : ∀ v ∈ b256 f, v.oneCell' = true := by
  intro v hv
  simp only [b256, List.mem_map] at hv
  obtain ⟨k, _, rfl⟩ := hv
  rfl
theorem b256_congr {f g : Nat → Bool} (h : ∀ k, k < 256 → f k = g k) : b256 f = b256 g := by
  unfold b256
  apply List.map_congr_left
  intro k hk
  rw [h k (by simpa using hk)]

theorem Try.info56 : (Try.prog.info? 56).map (fun i => (i.zero, i.size)) = some (some (.agg (b256 fun _ => false).toArray), (b256 fun _ => false).length) := by kernel_rfl
theorem Try.size56 (f : Nat → Bool) : (Try.prog.info? 56).map (·.size) = some (b256 f).length := by
  rw [b256_length]; kernel_rfl

def at4 (w : World) (b : Nat) : Nat := match w.cell? ⟨b, 4, none⟩ with | some (.int _ q) => q.toNat | _ => 0
theorem at4_is {w : World} {b j : Nat} (h : w.cell? ⟨b, 4, none⟩ = some (.int .i64 j)) : at4 w b = j := by simp [at4, h]

theorem Fr.sole {b a : Nat} {nv nv' : Value} {w wr w' : World} (h : Tr.Fr b nv nv' w wr) (hs : Sole a wr w') (ha : w.heap.size ≤ a) : Tr.Fr b nv nv' w w' :=
  ⟨hs.os.trans h.os, hs.tape.trans h.tape, hs.output.trans h.output, by rw [hs.size]; exact h.size, fun k hk hb hn => (hs.block k (by omega)).trans (h.block k hk hb hn), h.lies⟩

theorem Sole.only {b : Nat} {w w' : World} (h : Sole b w w') : Only b w w' := ⟨h.os, h.tape, h.output, h.size, h.block⟩
theorem Row.only {w w' : World} {b a : Nat} {cs : List Value} (h : Row w b cs) (hs : Only a w w') (hne : b ≠ a) : Row w' b cs := h.of_block (hs.block b hne)
theorem Row.drewN {w : World} {b : Nat} {cs : List Value} (h : Row w b cs) (n : Nat) : Row (w.drewN n) b cs := h.of_block rfl

theorem innV_256 (s : ByteArray) (i : Nat) : (innV s i).1 < 256 := by
  unfold innV
  split
  · have := val_le (byt_lt s (i + 1))
    simp only; omega
  · exact byt_lt s i

theorem betV_fst (s : ByteArray) (i : Nat) : (betV s i).1 = (innV s i).1 := by
  unfold betV
  split <;> rfl

/-- Within a set. -/
structure SIn (s : ByteArray) (j : Nat) : Prop where
  rn : ∃ m o a l, run s j = some ⟨m, o, a, l⟩ ∧ 4 ≤ m ∧ m ≤ 7 ∧ (m = 4 → byt s j ≠ 94) ∧ (byt s j = 93 → m = 6 ∨ m = 7)
  lt : j < s.size
  n45 : byt s j ≠ 45

theorem SIn.inn {s : ByteArray} (h : Wholly s) {j : Nat} (hj : SIn s j) (h93 : byt s j ≠ 93) : (innV s j).2 < s.size ∧ (pk s (innV s j).2 = 45 → (innV s j).2 + 1 < s.size ∧ (innV s ((innV s j).2 + 1)).2 ≤ s.size) := by
  obtain ⟨⟨m, o, a, l, hr, hm, hm2, h94, _⟩, hlt, h45⟩ := hj
  obtain ⟨a1, a2⟩ := inn_run h hr hlt hm (by omega) h93 h45 h94
  rw [if_neg (by omega)] at a2
  have a3 := h.inside a2 a1 (by simp) (by simp)
  refine ⟨a3, fun e => ?_⟩
  have e' : byt s (innV s j).2 = 45 := by rw [pk_in a3] at e; omega
  obtain ⟨_, b1⟩ := (set_byte h a2 a3 (by omega) (by omega)).2 e'
  have b2 := h.inside b1 (by omega) (by simp) (by simp)
  have b3 := set_byte h b1 b2 (by omega) (by omega)
  obtain ⟨c1, c2⟩ := inn_run h b1 b2 (by omega) (by omega) (fun e => by have := (b3.1 e).1; omega) (fun e => by have := (b3.2 e).1; omega) (fun e => by omega)
  exact ⟨b2, c1⟩

theorem SIn.next {s : ByteArray} (h : Wholly s) {j : Nat} (hj : SIn s j) (h93 : byt s j ≠ 93) : SIn s (betV s j).2.2 := by
  obtain ⟨⟨m, o, a, l, hr, hm, hm2, h94, _⟩, hlt, h45⟩ := hj
  obtain ⟨a1, m', l', a2, a3⟩ := bet_run h hr hlt hm hm2 h93 h45 h94
  have a4 := set_byte h a2 a1 (by omega) (by omega)
  refine ⟨⟨m', o, a, l', a2, by omega, by omega, fun e => by omega, fun _ => by omega⟩, a1, fun e => ?_⟩
  have := (a4.2 e).1
  rcases a3 with a3 | ⟨_, a3⟩
  · omega
  · rw [pk_in a1] at a3; omega

theorem SIn.first {s : ByteArray} (h : Wholly s) {i o a l : Nat} (hr : run s (i + 1) = some ⟨4, o, a, l⟩) (hi : i < s.size) : SIn s (if pk s (i + 1) = 94 then i + 2 else i + 1) ∧ i + 1 < s.size := by
  have h1 := h.inside hr (by omega) (by simp) (by simp)
  have h2 := set_byte h hr h1 (by omega) (by omega)
  have n93 : byt s (i + 1) ≠ 93 := fun e => by have := (h2.1 e).1; omega
  have n45 : byt s (i + 1) ≠ 45 := fun e => by have := (h2.2 e).1; omega
  refine ⟨?_, h1⟩
  split
  · rename_i e
    have e' : byt s (i + 1) = 94 := by rw [pk_in h1] at e; omega
    have h3 : run s (i + 2) = some ⟨5, o, a, l⟩ := by
      show run s (i + 1 + 1) = _
      rw [run_succ hr, step_inSet (by simp) (by simp), e']
      rfl
    have h4 := h.inside h3 (by omega) (by simp) (by simp)
    have h5 := set_byte h h3 h4 (by omega) (by omega)
    exact ⟨⟨5, o, a, l, h3, by omega, by omega, fun e => by omega, fun e => by have := (h5.1 e).1; omega⟩, h4, fun e => by have := (h5.2 e).1; omega⟩
  · rename_i e
    exact ⟨⟨4, o, a, l, hr, by omega, by omega, fun _ => pk_ne h1 e, fun e => absurd e n93⟩, h1, n45⟩

theorem put_true (f : Nat → Bool) (lo k : Nat) (hk : lo ≤ k) : (b256 fun j => f j || (decide (lo ≤ j) && decide (j < k))).set k (.bool true) = b256 fun j => f j || (decide (lo ≤ j) && decide (j < k + 1)) := by
  rw [b256_set]
  apply b256_congr
  intro j _
  by_cases h : j = k
  · subst h; simp [hk]
  · have : (j < k) ↔ (j < k + 1) := by omega
    simp [h, this]

theorem put_turn (f : Nat → Bool) (q : Bool) (k : Nat) : (b256 fun j => if j < k then f j != q else f j).set k (.bool (f k != q)) = b256 fun j => if j < k + 1 then f j != q else f j := by
  rw [b256_set]
  apply b256_congr
  intro j _
  by_cases h : j = k
  · subst h; simp
  · have : (j < k) ↔ (j < k + 1) := by omega
    simp [h, this]

/-- What holds from round to round within a set. -/
structure SR (w wr : World) (b : Nat) (s : ByteArray) (g : Nat) (l : List Nd) (nv : Value) (X : Nat → Prop) (j j0 : Nat) (S : Nat → Bool) : Prop where
  z : Row wr w.heap.size (b256 fun _ => false)
  r : Row wr (w.heap.size + 1) (b256 S)
  d : Dr wr b s ⟨j, g, l⟩ nv (fun k => X k ∨ w.heap.size ≤ k)
  fr : Tr.Fr b nv nv w wr

theorem SR.only {w wr w' : World} {b : Nat} {s : ByteArray} {g : Nat} {l : List Nd} {nv : Value} {X : Nat → Prop} {j j' j0 : Nat} {S : Nat → Bool} (h : SR w wr b s g l nv X j j0 S) (ho : Only b wr w') (hb : b < w.heap.size) (hd : Dr w' b s ⟨j', g, l⟩ nv (fun k => X k ∨ w.heap.size ≤ k)) : SR w w' b s g l nv X j' j0 S :=
  ⟨Row.only h.z ho (by omega), Row.only h.r ho (by omega), hd, h.fr.trans (Tr.Only.fr ho nv)⟩

theorem SR.put {w wr w' : World} {b : Nat} {s : ByteArray} {g : Nat} {l : List Nd} {nv : Value} {X : Nat → Prop} {j j0 : Nat} {S S' : Nat → Bool} (h : SR w wr b s g l nv X j j0 S) (hs : Sole (w.heap.size + 1) wr w') (hr : Row w' (w.heap.size + 1) (b256 S')) (hb : b < w.heap.size) (hn : nv.ownBlock ≠ some (w.heap.size + 1)) : SR w w' b s g l nv X j j0 S' :=
  ⟨h.z.sole hs (by omega), hr, h.d.sole hs (by omega) hn (.inr (by omega)), Fr.sole h.fr hs (by omega)⟩

attribute [local go_sem ↓] Go.wp_at_zero Go.wp_at_succ

set_option maxRecDepth 100000 in
set_option maxHeartbeats 4000000 in
theorem set_any (b i g : Nat) (l : List Nd) (X : Nat → Prop) (s : ByteArray) (nv : Value) (w : World) (hr : Dr w b s ⟨i + 1, g, l⟩ nv X) (hW : Wholly s) (o a ll : Nat) (hrun : run s (i + 1) = some ⟨4, o, a, ll⟩) (hi : i < s.size) :
    Calls Try.prog 136 #[.pointer (some ⟨b, 0, none⟩)] w fun e w' => e = .returned (.agg (b256 (dSetV s i).2).toArray) ∧ Dr w' b s ⟨(dSetV s i).1, g, l⟩ nv X ∧ Tr.Fr b nv nv w w' := by
  have HR : Hid (Dr w b s ⟨i + 1, g, l⟩ nv X) := hr
  have HW : Hid (Wholly s) := hW
  have hb := hr.lt
  have h40 := hr.s40
  have HN : Hid (nv.ownBlock ≠ some (w.heap.size + 1)) := by
    obtain ⟨xs, ho, _⟩ := hr.own
    exact fun e => by have := (ho.lt _ e).2; omega
  obtain ⟨hS1, hi1⟩ := SIn.first hW hrun hi
  obtain ⟨q, hq⟩ : ∃ q, q = decide (pk s (i + 1) = ((94 : Nat) : Int)) := ⟨_, rfl⟩
  have HS1 : Hid (SIn s (if q = true then i + 2 else i + 1)) := by
    rw [Hid, hq]
    simpa using hS1
  have HV : Hid (dSetV s i = if q = true then ((dSetL s (s.size + 1) (i + 2) noSet).1, fun c => !(dSetL s (s.size + 1) (i + 2) noSet).2 c) else dSetL s (s.size + 1) (i + 1) noSet) := by
    rw [Hid, hq]
    unfold dSetV
    simp
  have HQ : Hid (q = decide (pk s (i + 1) = ((94 : Nat) : Int))) := hq
  clear hr hW hrun hS1 hq
  go_enter Try.func136, Try.ntmps136
  go_wp2_with (first
    | (refine wpList_alloc_row 2 rfl rfl 56 rfl _ Try.info56 ?_; intro w1 h1 hR1 hB1; have HR1 : Hid (Row w1 w.heap.size (b256 fun _ => false)) := hR1; have HB1 : Hid (Below w.heap.size w w1) := hB1; clear hR1 hB1)
    | (refine wpList_alloc_row 3 rfl rfl 56 rfl _ Try.info56 ?_; intro w2 h2 hR2 hB2; rw [h1] at hR2 hB2 h2; have HR2 : Hid (Row w2 (w.heap.size + 1) (b256 fun _ => false)) := hR2; have HB2 : Hid (Below (w.heap.size + 1) w1 w2) := hB2; clear hR2 hB2))
  have HB : Hid (Below w.heap.size w w2) := HB1.out.trans (HB2.out.mono (by omega))
  have HSR : Hid (SR w w2 b s g l nv X (i + 1) (i + 1) noSet) := ⟨HR1.out.below HB2.out (by omega), HR2.out, (HR.out.bar _ (fun k hk h => h.elim id (fun h => by omega))).grow HB.out, Tr.Below.fr HB.out nv⟩
  refine (is_any b ⟨i + 1, g, l⟩ _ s nv 94 _ HSR.out.d).mono ?_
  rintro e w3 ⟨rfl, n3, rfl⟩
  rw [← HQ.out]
  have HS3 : Hid (SR w (w2.drewN n3) b s g l nv X (i + 1) (i + 1) noSet) := HSR.out.only (Only.drewN (Only.refl b w2) n3) hb (HSR.out.d.drewN n3)
  have HQ2 : Hid (∃ j w4, j = (if q = true then i + 2 else i + 1) ∧ (w4 = if q = true then (w2.drewN n3).setCell ⟨b, 4, none⟩ (.int .i64 ((i : Int) + 1 + 1)) else w2.drewN n3)) := ⟨_, _, rfl, rfl⟩
  obtain ⟨j, w4, hj, hw4⟩ := HQ2.out
  have HJ : Hid (j = if q = true then i + 2 else i + 1) := hj
  have HS4 : Hid (SR w w4 b s g l nv X j j noSet) := by
    rw [Hid, hw4, hj]
    split
    · have := HS3.out.only ((Only.refl b (w2.drewN n3)).setCell 4 _) hb (HS3.out.d.put4 (v := (i : Int) + 1 + 1) (i + 2) (by omega) (by omega))
      exact ⟨this.z, this.r, this.d, this.fr⟩
    · exact HS3.out
  have HS5 : Hid (SIn s j) := by rw [Hid, hj]; exact HS1.out
  have HV2 : Hid (dSetV s i = ((dSetL s (s.size + 1) j noSet).1, fun c => (dSetL s (s.size + 1) j noSet).2 c != q)) := by
    rw [Hid, HV.out, hj]
    split
    · rename_i h
      rw [h]
      congr 1
      funext c
      cases (dSetL s (s.size + 1) (i + 2) noSet).2 c <;> rfl
    · rename_i h
      have : q = false := by simpa using h
      rw [this]
      generalize dSetL s (s.size + 1) (i + 1) noSet = r
      obtain ⟨r1, r2⟩ := r
      simp only
      congr 1
      funext c
      cases r2 c <;> rfl
  have c4 := HS3.out.d.c4
  have f4 := HS3.out.d.f4
  clear hj HQ2 HV HS1 HR1 HR2 HB1 HB2 HSR HB
  rcases bool_or q with hq | hq
  all_goals
    rw [hq] at hw4 ⊢
    have HQV : Hid (q = _) := hq
    clear hq
    simp only [Bool.false_eq_true, if_false, if_true] at hw4
    go_wp2_with fail
    rw [← hw4]
    clear hw4 c4 f4
    go_loopw [] (fun wr => ∃ j' S f, SR w wr b s g l nv X j' j S ∧ SIn s j' ∧ s.size < f + j' ∧ j' ≤ s.size ∧ Hid (dSetL s (s.size + 1) j noSet = dSetL s f j' S)) (fun wr => s.size - at4 wr b)
    case atStart => exact ⟨j, noSet, s.size + 1, HS4.out, HS5.out, by omega, HS4.out.d.le, rfl⟩
    case round =>
      obtain ⟨jr, S, f, hSR, hSI, hf, hjr, HF⟩ := hrel
      have HSR : Hid (SR w wr b s g l nv X jr j S) := hSR
      have HSI : Hid (SIn s jr) := hSI
      have HAT : Hid (at4 wr b = jr) := at4_is hSR.d.c4
      clear hSR hSI HS3 HS4 HS5
      go_wp2_with fail
      refine (is_any b ⟨jr, g, l⟩ _ s nv 93 _ HSR.out.d).mono ?_
      rintro e w5 ⟨rfl, n5, rfl⟩
      have HR5 : Hid (SR w (wr.drewN n5) b s g l nv X jr j S) := HSR.out.only (Only.drewN (Only.refl b wr) n5) hb (HSR.out.d.drewN n5)
      simp only
      by_cases h93 : pk s jr = ((93 : Nat) : Int)
      · have hd : decide (pk s jr = ((93 : Nat) : Int)) = true := by simpa using h93
        rw [hd]
        have HE : Hid (dSetL s (s.size + 1) j noSet = (jr + 1, S)) := by
          rw [HF.out, show f = (f - 1) + 1 by omega, dSetL, if_pos (show pk s jr = 93 from h93)]
          rfl
        have hlt := HSI.out.lt
        have c4 := HR5.out.d.c4
        have f4 := HR5.out.d.f4
        clear hd h93
        have HR6 : Hid (SR w ((wr.drewN n5).setCell ⟨b, 4, none⟩ (.int .i64 ((jr : Int) + 1))) b s g l nv X (jr + 1) j S) := HR5.out.only ((Only.refl b _).setCell 4 _) hb (HR5.out.d.put4 (v := (jr : Int) + 1) (jr + 1) (by omega) (by omega))
        go_wp2_with fail
        generalize (wr.drewN n5).setCell ⟨b, 4, none⟩ (.int .i64 ((jr : Int) + 1)) = w6 at HR6 ⊢
        clear c4 f4
        go_loopw [10] (fun v wx => ∃ k : Nat, k ≤ 256 ∧ v = .int .i64 k ∧ SR w wx b s g l nv X (jr + 1) j (fun c => if c < k then S c != q else S c)) (fun v _ => 256 - (intOf v).toNat)
        case atStart => exact ⟨0, by omega, rfl, by simpa using HR6.out⟩
        case round =>
          obtain ⟨k, hk, rfl, hx⟩ := hrel
          have HX : Hid (SR w wr b s g l nv X (jr + 1) j (fun c => if c < k then S c != q else S c)) := hx
          by_cases hlt : k < 256
          · have ca := hx.r.cell (b256_at _ hlt)
            have fa := hx.r.frozen (k := k) (by rw [b256_length]; exact hlt)
            rw [if_neg (Nat.lt_irrefl k)] at ca
            have k1 : (0 : Int) ≤ (k : Int) := by omega
            have k2 : (k : Int) < 256 := by omega
            clear hx
            have HP : Hid (∀ v, v = (S k != q) → Row (wr.setCell ⟨w.heap.size + 1, k, none⟩ (.bool v)) (w.heap.size + 1) (b256 fun c => if c < k + 1 then S c != q else S c)) := by
              intro v hv
              subst hv
              have := HX.out.r.put k (by rw [b256_length]; exact hlt) (.bool (S k != q))
              rw [put_turn] at this
              exact this
            rcases bool_or (S k) with hsk | hsk
            all_goals
              rw [hsk] at ca
              have HSK : Hid (S k = _) := hsk
              clear hsk
              go_wp2_with fail
              go_roundw
              case rel => exact ⟨k + 1, by omega, by go_num, HX.out.put ((Sole.refl _ _).setCell _ _) (HP.out _ (by simp [HSK.out, HQV.out])) hb HN.out⟩
              case measure => simp [intOf]; omega
          · have hk256 : k = 256 := by omega
            subst hk256
            have HX2 : Hid (Row wr (w.heap.size + 1) (b256 (dSetV s i).2)) := by
              have := HX.out.r
              rw [b256_congr (g := (dSetV s i).2) (fun c hc => by rw [HV2.out, HE.out]; simp [hc])] at this
              exact this
            have HV3 : Hid ((dSetV s i).1 = jr + 1) := by rw [Hid, HV2.out, HE.out]
            have HZ : Hid (Row wr w.heap.size (b256 fun _ => false)) := HX.out.z
            clear hx
            go_wp2_with (first
              | (refine wpList_load_row 65 rfl rfl 56 (.tmp 3) rfl _ rfl _ _ HX2.out Try.underlying56 rfl (Try.size56 _) ?_)
              | (refine wpList_store_row rfl 56 (.tmp 2) (.tmp 65) rfl _ rfl _ rfl _ HZ.out (by rw [b256_length, b256_length]) (Try.size56 _) (b256_one _) ?_; intro w7 hR7 hS7))
            refine bodyPost_row 2 56 Try.results136 rfl _ rfl _ _ hR7 Try.underlying56 rfl (Try.size56 _) ⟨rfl, ?_, Fr.sole HX.out.fr hS7 (Nat.le_refl _)⟩
            rw [HV3.out]
            exact (HX.out.d.sole hS7 (by omega) (by
              obtain ⟨xs, ho, _⟩ := HR.out.own
              exact fun e => by have := (ho.lt _ e).2; omega) (.inr (Nat.le_refl _))).bar _ (fun k _ h => .inl h)
      · have hd : decide (pk s jr = ((93 : Nat) : Int)) = false := by simpa using h93
        rw [hd]
        have hlt := HSI.out.lt
        have H93 : Hid (byt s jr ≠ 93) := pk_ne hlt h93
        have HIN := HSI.out.inn HW.out H93.out
        obtain ⟨x1, x2⟩ := HIN
        have HX2 : Hid (pk s (innV s jr).2 = 45 → (innV s jr).2 + 1 < s.size ∧ (innV s ((innV s jr).2 + 1)).2 ≤ s.size) := x2
        have HNX : Hid (SIn s (betV s jr).2.2) := HSI.out.next HW.out H93.out
        have HL : Hid (dSetL s (s.size + 1) j noSet = dSetL s (f - 1) (betV s jr).2.2 (addR S (betV s jr).1 (betV s jr).2.1)) := by
          rw [Hid, HF.out, show f = (f - 1) + 1 by omega, dSetL, if_neg (show ¬ pk s jr = 93 from h93)]
          rfl
        clear hd h93 x2
        go_wp2_with fail
        refine (inner_any b ⟨jr, g, l⟩ _ s nv _ HR5.out.d hlt (fun e => ?_)).mono ?_
        · have : (innV s jr).2 = jr + 2 := by unfold innV; rw [if_pos (show byt s jr = 92 from e)]
          show jr + 1 < s.size
          omega
        rintro e w6 ⟨rfl, hd6, ho6⟩
        have HR6 : Hid (SR w w6 b s g l nv X (innV s jr).2 j S) := HR5.out.only ho6 hb hd6
        have HA : Hid ((innV s jr).1 < 256) := innV_256 s jr
        clear hd6 ho6
        go_wp2_with fail
        refine (is_any b ⟨(innV s jr).2, g, l⟩ _ s nv 45 _ HR6.out.d).mono ?_
        rintro e w7 ⟨rfl, n7, rfl⟩
        have HR7 : Hid (SR w (w6.drewN n7) b s g l nv X (innV s jr).2 j S) := HR6.out.only (Only.drewN (Only.refl b w6) n7) hb (HR6.out.d.drewN n7)
        simp only
        have HBV : Hid (∃ lo hi j2, betV s jr = (lo, hi, j2) ∧ lo = (innV s jr).1) := ⟨(betV s jr).1, (betV s jr).2.1, (betV s jr).2.2, rfl, betV_fst s jr⟩
        obtain ⟨lo, hi2, j2, hbv, hlo⟩ := HBV.out
        have HB2 : Hid (betV s jr = (lo, hi2, j2)) := hbv
        rw [hbv] at HNX HL
        simp only at HNX HL
        have hjj : jr < j2 := by have := betV_lt s jr; rw [hbv] at this; exact this
        have hl256 : lo < 256 := by rw [hlo]; exact HA.out
        clear HBV
        by_cases h45 : pk s (innV s jr).2 = ((45 : Nat) : Int)
        · have hd : decide (pk s (innV s jr).2 = ((45 : Nat) : Int)) = true := by simpa using h45
          rw [hd]
          obtain ⟨y1, y2⟩ := HX2.out h45
          have hvv : hi2 = (innV s ((innV s jr).2 + 1)).1 ∧ j2 = (innV s ((innV s jr).2 + 1)).2 := by
            unfold betV at hbv
            rw [if_pos (show pk s (innV s jr).2 = 45 from h45)] at hbv
            cases hbv
            exact ⟨rfl, rfl⟩
          have hh256 : hi2 < 256 := by rw [hvv.1]; exact innV_256 _ _
          have c4 := HR7.out.d.c4
          have f4 := HR7.out.d.f4
          have HVV : Hid (hi2 = (innV s ((innV s jr).2 + 1)).1 ∧ j2 = (innV s ((innV s jr).2 + 1)).2) := hvv
          have HLO : Hid (lo = (innV s jr).1) := hlo
          clear hd h45 hvv hbv hlo
          generalize hj1 : (innV s jr).2 = j1 at HR7 y1 y2 HVV HR6 x1 c4 ⊢
          have HJ1 : Hid ((innV s jr).2 = j1) := hj1
          clear hj1
          have HR8 : Hid (SR w ((w6.drewN n7).setCell ⟨b, 4, none⟩ (.int .i64 ((j1 : Int) + 1))) b s g l nv X (j1 + 1) j S) := HR7.out.only ((Only.refl b _).setCell 4 _) hb (HR7.out.d.put4 (v := (j1 : Int) + 1) (j1 + 1) (by omega) (by omega))
          go_wp2_with fail
          refine (inner_any b ⟨j1 + 1, g, l⟩ _ s nv _ HR8.out.d y1 (fun e => ?_)).mono ?_
          · have : (innV s (j1 + 1)).2 = j1 + 1 + 2 := by unfold innV; rw [if_pos (show byt s (j1 + 1) = 92 from e)]
            show j1 + 1 + 1 < s.size
            omega
          rintro e w8 ⟨rfl, hd8, ho8⟩
          have HR9 : Hid (SR w w8 b s g l nv X j2 j S) := by
            rw [HVV.out.2]
            exact HR8.out.only ho8 hb hd8
          clear hd8 ho8 c4 f4
          simp only
          rw [← HVV.out.1, ← HLO.out]
          go_wp2_with fail
          go_loopw [9] (fun v wx => ∃ k : Nat, lo ≤ k ∧ (k ≤ hi2 + 1 ∨ k = lo) ∧ v = .int .i64 k ∧ SR w wx b s g l nv X j2 j (fun c => S c || (decide (lo ≤ c) && decide (c < k)))) (fun v _ => hi2 + 1 - (intOf v).toNat)
          case atStart => exact ⟨lo, Nat.le_refl _, .inr rfl, rfl, by
            have : (fun c => S c || (decide (lo ≤ c) && decide (c < lo))) = S := by
              funext c
              by_cases h : lo ≤ c
              · have h2 : ¬ c < lo := by omega
                simp [h2]
              · simp [h]
            rw [this]
            exact HR9.out⟩
          case round =>
            obtain ⟨k, hlk, hk, rfl, hx⟩ := hrel
            have HX : Hid (SR w wr b s g l nv X j2 j (fun c => S c || (decide (lo ≤ c) && decide (c < k)))) := hx
            by_cases hlt2 : k ≤ hi2
            · have ca := hx.r.cell (b256_at _ (k := k) (by omega))
              have fa := hx.r.frozen (k := k) (by rw [b256_length]; omega)
              have k1 : (0 : Int) ≤ (k : Int) := by omega
              have k2 : (k : Int) < 256 := by omega
              have HP : Hid (Row (wr.setCell ⟨w.heap.size + 1, k, none⟩ (.bool true)) (w.heap.size + 1) (b256 fun c => S c || (decide (lo ≤ c) && decide (c < k + 1)))) := by
                have := hx.r.put k (by rw [b256_length]; omega) (.bool true)
                rw [put_true _ _ _ hlk] at this
                exact this
              generalize hgen : (S k || (decide (lo ≤ k) && decide (k < k))) = bb at ca
              clear hx hgen
              go_wp2_with fail
              go_roundw
              case rel => exact ⟨k + 1, by omega, by omega, by go_num, HX.out.put ((Sole.refl _ _).setCell _ _) HP.out hb HN.out⟩
              case measure => simp [intOf]; omega
            · have HX3 : Hid (SR w wr b s g l nv X j2 j (addR S lo hi2)) := by
                have : addR S lo hi2 = (fun c => S c || (decide (lo ≤ c) && decide (c < k))) := by
                  funext c
                  unfold addR
                  by_cases h : lo ≤ c
                  · have : (c ≤ hi2) ↔ (c < k) := by omega
                    simp [h, this]
                  · simp [h]
                rw [this]
                exact HX.out
              clear hx
              go_wp2_with fail
              go_roundw
              case rel => exact ⟨j2, addR S lo hi2, f - 1, HX3.out, HNX.out, by omega, HX3.out.d.le, HL.out⟩
              case measure =>
                have a1 := at4_is HX3.out.d.c4
                have a2 := HAT.out
                rw [a1, a2]
                simp only
                omega
        · have hd : decide (pk s (innV s jr).2 = ((45 : Nat) : Int)) = false := by simpa using h45
          rw [hd]
          have hvv : hi2 = lo ∧ j2 = (innV s jr).2 := by
            unfold betV at hbv
            rw [if_neg (show ¬ pk s (innV s jr).2 = 45 from h45)] at hbv
            cases hbv
            exact ⟨rfl, rfl⟩
          have HR9 : Hid (SR w (w6.drewN n7) b s g l nv X j2 j S) := by rw [hvv.2]; exact HR7.out
          have hhl : hi2 = lo := hvv.1
          subst hhl
          clear hd h45 hvv hbv HB2
          rw [← hlo]
          clear hlo
          go_wp2_with fail
          go_loopw [9] (fun v wx => ∃ k : Nat, hi2 ≤ k ∧ (k ≤ hi2 + 1 ∨ k = hi2) ∧ v = .int .i64 k ∧ SR w wx b s g l nv X j2 j (fun c => S c || (decide (hi2 ≤ c) && decide (c < k)))) (fun v _ => hi2 + 1 - (intOf v).toNat)
          case atStart => exact ⟨hi2, Nat.le_refl _, .inr rfl, rfl, by
            have : (fun c => S c || (decide (hi2 ≤ c) && decide (c < hi2))) = S := by
              funext c
              by_cases h : hi2 ≤ c
              · have h2 : ¬ c < hi2 := by omega
                simp [h2]
              · simp [h]
            rw [this]
            exact HR9.out⟩
          case round =>
            obtain ⟨k, hlk, hk, rfl, hx⟩ := hrel
            have HX : Hid (SR w wr b s g l nv X j2 j (fun c => S c || (decide (hi2 ≤ c) && decide (c < k)))) := hx
            by_cases hlt2 : k ≤ hi2
            · have ca := hx.r.cell (b256_at _ (k := k) (by omega))
              have fa := hx.r.frozen (k := k) (by rw [b256_length]; omega)
              have k1 : (0 : Int) ≤ (k : Int) := by omega
              have k2 : (k : Int) < 256 := by omega
              have HP : Hid (Row (wr.setCell ⟨w.heap.size + 1, k, none⟩ (.bool true)) (w.heap.size + 1) (b256 fun c => S c || (decide (hi2 ≤ c) && decide (c < k + 1)))) := by
                have := hx.r.put k (by rw [b256_length]; omega) (.bool true)
                rw [put_true _ _ _ hlk] at this
                exact this
              generalize hgen : (S k || (decide (hi2 ≤ k) && decide (k < k))) = bb at ca
              clear hx hgen
              go_wp2_with fail
              go_roundw
              case rel => exact ⟨k + 1, by omega, by omega, by go_num, HX.out.put ((Sole.refl _ _).setCell _ _) HP.out hb HN.out⟩
              case measure => simp [intOf]; omega
            · have HX3 : Hid (SR w wr b s g l nv X j2 j (addR S hi2 hi2)) := by
                have : addR S hi2 hi2 = (fun c => S c || (decide (hi2 ≤ c) && decide (c < k))) := by
                  funext c
                  unfold addR
                  by_cases h : hi2 ≤ c
                  · have : (c ≤ hi2) ↔ (c < k) := by omega
                    simp [h, this]
                  · simp [h]
                rw [this]
                exact HX.out
              clear hx
              go_wp2_with fail
              go_roundw
              case rel => exact ⟨j2, addR S hi2 hi2, f - 1, HX3.out, HNX.out, by omega, HX3.out.d.le, HL.out⟩
              case measure =>
                have a1 := at4_is HX3.out.d.c4
                have a2 := HAT.out
                rw [a1, a2]
                simp only
                omega
end Dt
end Go.Proofs.Ytppjlpihaocdiaa
