/- Several texts in one. -/
import Derived.Test.YtppjlpihaocdiaaRefFieldJ
import Derived.Deep.RegionLaw
import Derived.BigRegion
import Derived.Deep.DrawnRows
/- The document's rows: one part behind the other. -/
set_option linter.unusedSimpArgs false
set_option linter.unusedVariables false
namespace Go.Proofs.Ytppjlpihaocdiaa
open Go.RowKit

theorem ndL_kind (d : Nd) (sv : Value) : (ndL d sv)[0]? = some (.int .i64 d.kind) := rfl
theorem ndL_set (d : Nd) (sv : Value) {k : Nat} (hk : k < 256) : (ndL d sv)[k + 1]? = some (.bool (d.set k)) := by
  simp only [ndL, List.getElem?_cons_succ]
  rw [List.getElem?_append_left (by simp; exact hk)]
  simp [hk]
theorem ndL_tail (d : Nd) (sv : Value) (k : Nat) : (ndL d sv)[257 + k]? = [sv, .int .i64 d.num, .int .i64 d.lo, .int .i64 d.hi][k]? := by
  rw [show 257 + k = (256 + k) + 1 by omega]
  simp only [ndL, List.getElem?_cons_succ]
  rw [List.getElem?_append_right (by simp)]
  simp
theorem ndL_one (d : Nd) (ao : Option Addr) (l c : Nat) : ∀ v ∈ ndL d (.slice ao l c), v.oneCell' = true := by
  intro v hv
  simp only [ndL, List.mem_cons, List.mem_append, List.mem_map, List.not_mem_nil, or_false] at hv
  rcases hv with rfl | ⟨k, _, rfl⟩ | rfl | rfl | rfl | rfl <;> rfl

/-- The load and the store of an Ends, under names that the walk does not open. -/
def L66 (v : Value) : Sem Value := Instr.loadAt 114 v
def S66 (v u : Value) : Sem Unit := Instr.storeAt 114 v u
theorem L66_eq (v : Value) : Instr.loadAt 114 v = L66 v := rfl
theorem S66_eq (v u : Value) : Instr.storeAt 114 v u = S66 v u := rfl

theorem run_L66 {w : World} {b : Nat} {f : Nat → Bool} (h : Row w b (endsL f)) : (L66 (.pointer (some ⟨b, 0, none⟩))).run Try.prog w = .ok (.agg (endsL f).toArray) w :=
  run_loadAt_mid (P := Try.prog) w b 0 114 (endsL f) _ h.lies Try.underlying114 rfl (Try.size114 _)

theorem run_S66 {w : World} {b : Nat} {f : Nat → Bool} (h : Row w b (endsL f)) (g : Nat → Bool) : ∃ w', (S66 (.pointer (some ⟨b, 0, none⟩)) (.agg (endsL g).toArray)).run Try.prog w = .ok () w' ∧ Row w' b (endsL g) ∧ Sole b w w' := by
  have ht : w.there b 0 (endsL g).toArray.size := by
    have := h.free
    rw [endsL_length] at this
    simpa [endsL_length] using this
  refine ⟨w.setCells b 0 (endsL g), ?_, h.store _ (by rw [endsL_length, endsL_length]), Sole.setCells b _ 0 w⟩
  have := run_storeAt_mid (P := Try.prog) w b 0 114 (endsL g).toArray ht (by simpa using Try.size114 g) (all_oneCell_toArray (endsL_one g))
  rw [← S66_eq]
  simpa using this

/-- The parts of a node, where its slice leads. -/
def SubsAt (w : World) (N0 : Nat) (d : Nd) (ao : Option Addr) : Prop := ∀ (q x : Nat), d.subs[q]? = some x → ∃ sb, ao = some ⟨sb, 0, none⟩ ∧ sb < N0 ∧ w.cell? ⟨sb, q, none⟩ = some (.int .i64 x)

theorem SubsAt.below {w w' : World} {N0 : Nat} {d : Nd} {ao : Option Addr} (h : SubsAt w N0 d ao) (hB : Below N0 w w') : SubsAt w' N0 d ao := by
  intro q x hx
  obtain ⟨sb, e, hs, hcx⟩ := h q x hx
  exact ⟨sb, e, hs, (hB.cell (p := ⟨sb, q, none⟩) hs).trans hcx⟩

theorem Fm.below {p : Fp} {w w' : World} (h : Fm p w w') (hk : p.N0 ≤ p.kb) (he : p.N0 ≤ p.eb) (hl : p.N0 ≤ w.heap.size) : Below p.N0 w w' :=
  ⟨h.os, h.tape, h.output, h.size, fun k hk' => h.block k (by omega) (by omega) (by omega)⟩

theorem take_drop_snoc {l : List Nat} {k k0 x : Nat} (hx : l[k]? = some x) (hk : k0 ≤ k) : (l.take (k + 1)).drop k0 = (l.take k).drop k0 ++ [x] := by
  have hl : k < l.length := by
    rcases Nat.lt_or_ge k l.length with h | h
    · exact h
    · rw [List.getElem?_eq_none h] at hx; cases hx
  rw [List.take_succ_eq_append_getElem hl, List.drop_append_of_le_length (by simp; omega)]
  rw [List.getElem?_eq_getElem hl] at hx
  cases hx
  rfl

attribute [local go_sem ↓] L66_eq S66_eq Go.wp_at_zero Go.wp_at_succ

set_option maxRecDepth 100000 in
set_option maxHeartbeats 1000000 in
theorem rows_any (p : Fp) (d : Nd) (ao : Option Addr) (c : Nat) (hsub : ∀ x ∈ d.subs, x < p.nodes.length ∧ FromAt p x) (A : Nat → Bool) (k0 : Nat) (w : World) (hI : FieldAt w p) (hsa : SubsAt w p.N0 d ao) (hl : d.subs.length ≤ 1000) (hA : ∀ i, A i = true → i ≤ p.s.size) :
    Calls Try.prog 85 #[.pointer (some ⟨p.fb, 0, none⟩), .agg (ndL d (.slice ao d.subs.length c)).toArray, .agg (endsL A).toArray, .int .i64 k0] w fun e w' => ∃ f, e = .returned (.agg (endsL f).toArray) ∧
      Says f (fun j => ∃ i, A i = true ∧ Chain ((d.subs.drop k0).map fun x => Mat p.s p.nodes x) i j) ∧ FieldAt w' p ∧ Fm p w w' := by
  have HI : Hid (FieldAt w p) := hI
  have HSA : Hid (SubsAt w p.N0 d ao) := hsa
  have HSub : Hid (∀ x ∈ d.subs, x < p.nodes.length ∧ FromAt p x) := hsub
  have HAA : Hid (∀ i, A i = true → i ≤ p.s.size) := hA
  have hs80 := hI.s80
  have hfl := hI.lt
  have hkl := hI.kl
  have hel := hI.el
  have hNf := hI.nf
  have hNk := hI.nk
  have hNe := hI.ne
  clear hI hsa hsub hA
  go_enter Try.func85, Try.ntmps85
  go_wp2_with (first
    | (refine wpList_box_row 5 rfl rfl 140 (.tmp 1) rfl _ rfl ?_; intro w1 h1 hR1 hB1; have HR1 : Hid (Row w1 w.heap.size (ndL d (.slice ao d.subs.length c))) := hR1; have HB1 : Hid (Below w.heap.size w w1) := hB1; clear hR1 hB1)
    | (refine wpList_box_row 6 rfl rfl 114 (.tmp 2) rfl _ rfl ?_; intro w2 h2 hR2 hB2; rw [h1] at hR2 hB2 h2; have HR2 : Hid (Row w2 (w.heap.size + 1) (endsL A)) := hR2; have HB2 : Hid (Below (w.heap.size + 1) w1 w2) := hB2; clear hR2 hB2)
    | (refine wpList_alloc_row 8 rfl rfl 114 rfl _ Try.info114 ?_; intro w3 h3 hR3 hB3; rw [h2] at hR3 hB3 h3; have HR3 : Hid (Row w3 (w.heap.size + 1 + 1) (endsL fun _ => false)) := hR3; have HB3 : Hid (Below (w.heap.size + 1 + 1) w2 w3) := hB3; clear hR3 hB3))
  go_simp
  go_loopw [3] (fun v wr => ∃ (k : Nat) (f : Nat → Bool), k0 ≤ k ∧ (k ≤ d.subs.length ∨ k = k0) ∧ v = .int .i64 k ∧ Says f (fun j => ∃ i, A i = true ∧ Chain (((d.subs.take k).drop k0).map fun x => Mat p.s p.nodes x) i j) ∧
      Row wr w.heap.size (ndL d (.slice ao d.subs.length c)) ∧ Row wr (w.heap.size + 1) (endsL f) ∧ Row wr (w.heap.size + 1 + 1) (endsL fun _ => false) ∧ FieldAt wr p ∧ Fm p w wr) (fun v _ => d.subs.length - (intOf v).toNat)
  case atStart =>
    have hB : Below w.heap.size w w3 := (HB1.out.trans (HB2.out.mono (by omega))).trans (HB3.out.mono (by omega))
    refine ⟨k0, A, Nat.le_refl _, .inr rfl, rfl, fun j _ => ?_, (HR1.out.below HB2.out (by omega)).below HB3.out (by omega), HR2.out.below HB3.out (by omega), HR3.out, HI.out.grow hB, Below.fm hB⟩
    rw [List.drop_eq_nil_of_le (by simp; omega)]
    constructor
    · intro h; exact ⟨j, h, rfl⟩
    · rintro ⟨i, h, e⟩; cases e; exact h
  case round =>
    obtain ⟨k, f, hk0, hk, rfl, hS, hN, hE, hZ, hFi, hFm⟩ := hrel
    have HN : Hid (Row wr w.heap.size (ndL d (.slice ao d.subs.length c))) := hN
    have HE : Hid (Row wr (w.heap.size + 1) (endsL f)) := hE
    have HZ : Hid (Row wr (w.heap.size + 1 + 1) (endsL fun _ => false)) := hZ
    have HFi : Hid (FieldAt wr p) := hFi
    have HFm : Hid (Fm p w wr) := hFm
    have HS : Hid (Says f (fun j => ∃ i, A i = true ∧ Chain (((d.subs.take k).drop k0).map fun x => Mat p.s p.nodes x) i j)) := hS
    have n257 := hN.cell (k := 257) (ndL_tail d _ 0)
    have hol := hZ.lt (by rw [endsL_length]; omega)
    by_cases hlt : k < d.subs.length
    · have hsw := hFm.size
      obtain ⟨x, hx⟩ : ∃ x, d.subs[k]? = some x := ⟨d.subs[k], List.getElem?_eq_getElem hlt⟩
      have hxm : x ∈ d.subs := List.mem_of_getElem? hx
      obtain ⟨sb, hao, hsb, hcx⟩ := (HSA.out.below (hFm.below hNk hNe (by omega))) k x hx
      subst hao
      have k1 : (0 : Int) ≤ (k : Int) := by omega
      have k2 : (k : Int) < (d.subs.length : Int) := by omega
      have hld := run_L66 (w := wr.drew) (f := f) ⟨hE.lies, hE.free⟩
      have hBd : Below wr.heap.size wr wr.drew := (Below.refl _ _).drew
      have HFd : Hid (FieldAt wr.drew p) := HFi.out.grow hBd
      have HEd : Hid (Row wr.drew (w.heap.size + 1) (endsL f)) := ⟨hE.lies, hE.free⟩
      have hszd : wr.drew.heap.size = wr.heap.size := rfl
      have HZd : Hid (wr.drew.heap.size = wr.heap.size) := hszd
      have HXM : Hid (x < p.nodes.length ∧ FromAt p x) := HSub.out x hxm
      clear hBd hszd
      clear hN hE hZ hFi hFm hS
      go_wp2_with fail
      go_region_with ((go_at_call 107; refine (behind_any p x HXM.out.2 f false _ HFd.out HXM.out.1).mono ?_; rintro e w4 ⟨f4, rfl, hS4, hFi4, hFm4⟩; obtain ⟨w5, hst, hR5, hS5⟩ := run_S66 (HEd.out.fm hFm4 (by rw [HZd.out]; omega) (by omega) (by omega)) f4))
      all_goals
        have HS4 : Hid (Says f4 (fun j => ∃ i, i ≤ p.s.size ∧ f i = true ∧ Mat p.s p.nodes x i j ∧ (false = true → i ≠ j))) := hS4
        have HFi4 : Hid (FieldAt w4 p) := hFi4
        have HFm4 : Hid (Fm p wr.drew w4) := hFm4
        have HS5 : Hid (Sole (w.heap.size + 1) w4 w5) := hS5
        have HR5 : Hid (Row w5 (w.heap.size + 1) (endsL f4)) := hR5
        have hs4 := hFm4.size
        rw [HZd.out] at hs4
        clear hS4 hFi4 hFm4 hS5 hR5 hst hld
        go_wp2_with fail
        go_roundw
        case rel =>
          have hF5 : Fm p w w5 := ((HFm.out.trans (Below.fm ((Below.refl _ _).drew))).trans HFm4.out).sole HS5.out (by omega)
          refine ⟨k + 1, f4, by omega, .inl (by omega), by go_num, fun j hj => ?_, ?_, HR5.out, ?_, HFi4.out.sole HS5.out (by omega) (by omega) (by omega) (by omega), hF5⟩
          · rw [HS4.out j hj, take_drop_snoc hx hk0]
            rw [List.map_append]
            constructor
            · rintro ⟨i, y1, y2, y3, _⟩
              obtain ⟨i0, z1, z2⟩ := (HS.out i (by omega)).1 y2
              exact ⟨i0, z1, Chain.snoc z2 y3⟩
            · rintro ⟨i0, z1, z2⟩
              obtain ⟨m, z3, z4⟩ := Chain.unsnoc z2
              have hm := (Stays.chain (L := p.s.size) (fun r hr => by
                obtain ⟨x', _, rfl⟩ := List.mem_map.1 hr
                exact Mat_stays p.s HFi.out.wf (x' + 1) x' (by omega)) i0 m (HAA.out i0 z1) z3).2
              exact ⟨m, hm, (HS.out m (by omega)).2 ⟨i0, z1, z3⟩, z4, (fun h => by cases h)⟩
          · exact ((Row.of_block HN.out (w' := wr.drew) rfl).fm HFm4.out (by rw [HZd.out]; omega) (by omega) (by omega)).sole HS5.out (by omega)
          · exact ((Row.of_block HZ.out (w' := wr.drew) rfl).fm HFm4.out (by rw [HZd.out]; omega) (by omega) (by omega)).sole HS5.out (by omega)
        case measure => simp [intOf]; omega
    · have HFi' := HFi
      clear hN hE hZ hFi hFm hS
      go_wp2_with (first
        | (refine wpList_load_row 24 rfl rfl 114 (.tmp 6) rfl _ rfl _ _ HE.out Try.underlying114 rfl (Try.size114 _) ?_)
        | (refine wpList_store_row rfl 114 (.tmp 8) (.tmp 24) rfl _ rfl _ rfl _ HZ.out (by rw [endsL_length, endsL_length]) (Try.size114 _) (endsL_one _) ?_; intro w4 hR4 hS4))
      exact bodyPost_row 8 114 Try.results85 rfl _ rfl _ _ hR4 Try.underlying114 rfl (Try.size114 _) ⟨f, rfl, fun j hj => by
          rw [HS.out j hj, List.take_of_length_le (by omega)], HFi.out.sole hS4 (by omega) (by omega) (by omega) (by omega), HFm.out.sole hS4 (by omega)⟩
end Go.Proofs.Ytppjlpihaocdiaa

/- The document's from: told once, and kept. -/
set_option linter.unusedSimpArgs false
set_option linter.unusedVariables false
namespace Go.Proofs.Ytppjlpihaocdiaa
open Go.RowKit

attribute [local go_sem ↓] L66_eq S66_eq Go.wp_at_zero Go.wp_at_succ

/-- 'told' at a node, a place. -/
def ToldAt (p : Fp) (n : Nat) : Prop := ∀ (w : World) (i : Nat), FieldAt w p → i ≤ p.s.size →
    Calls Try.prog 84 #[.pointer (some ⟨p.fb, 0, none⟩), .int .i64 n, .int .i64 i] w fun e w' => ∃ f, e = .returned (.agg (endsL f).toArray) ∧ Says f (Mat p.s p.nodes n i) ∧ FieldAt w' p ∧ Fm p w w'

theorem run_S66m {w : World} {b o : Nat} (h : w.there b o 82) (g : Nat → Bool) : (S66 (.pointer (some ⟨b, o, none⟩)) (.agg (endsL g).toArray)).run Try.prog w = .ok () (w.setCells b o (endsL g)) := by
  have ht : w.there b o (endsL g).toArray.size := by simpa [endsL_length] using h
  have := run_storeAt_mid (P := Try.prog) w b o 114 (endsL g).toArray ht (by simpa using Try.size114 g) (all_oneCell_toArray (endsL_one g))
  rw [← S66_eq]
  simpa using this

theorem Row.drew' {w : World} {b : Nat} {cs : List Value} (h : Row w b cs) : Row w.drew b cs := ⟨h.lies, h.free⟩

theorem FieldAt.there {w : World} {p : Fp} (h : FieldAt w p) {q : Nat} (hq : q < p.nodes.length * 82) : w.there p.eb (q * 82) 82 := by
  obtain ⟨kn, en, m1, m2, m3⟩ := h.memo.kn
  exact (m2 q hq).2

theorem FieldAt.slot {w : World} {p : Fp} (h : FieldAt w p) {q : Nat} (hq : q < p.nodes.length * 82) : ∃ b, w.cell? ⟨p.kb, q, none⟩ = some (.bool b) ∧ w.frozen? ⟨p.kb, q, none⟩ = false := by
  obtain ⟨kn, en, m1, m2, m3⟩ := h.memo.kn
  exact ⟨_, m1 q hq⟩

/-- What was told is kept. -/
theorem FieldAt.keep {w : World} {p : Fp} (h : FieldAt w p) {n i : Nat} (hn : n < p.nodes.length) (hi : i ≤ p.s.size) {f : Nat → Bool} (hf : Says f (Mat p.s p.nodes n i)) :
    FieldAt (w.setCells p.eb ((82 * n + i) * 82) (endsL f)) p ∧ (w.setCells p.eb ((82 * n + i) * 82) (endsL f)).rangeAt p.eb ((82 * n + i) * 82) (endsL f) ∧ Sole p.eb w (w.setCells p.eb ((82 * n + i) * 82) (endsL f)) := by
  have hs80 := h.s80
  have hq : 82 * n + i < p.nodes.length * 82 := by
    have : n + 1 ≤ p.nodes.length := hn
    omega
  obtain ⟨kn, en, m1, m2, m3⟩ := h.memo.kn
  have ht : w.there p.eb ((82 * n + i) * 82) (endsL f).length := by rw [endsL_length]; exact (m2 _ hq).2
  have hS := Sole.setCells p.eb (endsL f) ((82 * n + i) * 82) w
  have hB : Below p.N0 w (w.setCells p.eb ((82 * n + i) * 82) (endsL f)) := ⟨hS.os, hS.tape, hS.output, by rw [hS.size]; exact Nat.le_refl _, fun k hk => hS.block k (by have := h.ne; omega)⟩
  have hc : ∀ x k, x ≠ p.eb → (w.setCells p.eb ((82 * n + i) * 82) (endsL f)).cell? ⟨x, k, none⟩ = w.cell? ⟨x, k, none⟩ := fun x k hx => World.cell?_of_block (w := w) (a := ⟨x, k, none⟩) (hS.block x hx)
  have hz : ∀ x k, x ≠ p.eb → (w.setCells p.eb ((82 * n + i) * 82) (endsL f)).frozen? ⟨x, k, none⟩ = w.frozen? ⟨x, k, none⟩ := fun x k hx => World.frozen?_of_block (w := w) (a := ⟨x, k, none⟩) (hS.block x hx)
  have hsame := World.rangeAt_setCells_same w p.eb ((82 * n + i) * 82) (endsL f) ht
  refine ⟨⟨(hc _ _ h.fe).trans h.c0, (hc _ _ h.fe).trans h.c1, (hc _ _ h.fe).trans h.c2, (hc _ _ h.fe).trans h.c3, h.tree.below hB, ⟨kn, fun q => if q = 82 * n + i then f else en q, ?_, ?_, ?_⟩, h.nf, h.nk, h.ne, h.fk, h.fe, h.ke, by rw [hS.size]; exact h.kl, by rw [hS.size]; exact h.el, h.s80, h.wf⟩, hsame, hS⟩
  · intro q hq'
    exact ⟨(hc _ _ h.ke).trans (m1 q hq').1, (hz _ _ h.ke).trans (m1 q hq').2⟩
  · intro q hq'
    refine ⟨?_, World.there_setCells (m2 q hq').2 _ _ _⟩
    by_cases e : q = 82 * n + i
    · subst e
      simp only [if_true]
      exact hsame
    · simp only [e, if_false]
      refine World.rangeAt_setCells_apart (m2 q hq').1 _ _ _ (.inr ?_)
      rw [endsL_length, endsL_length]
      omega
  · intro n' i' hn' hi' hkn j hj
    by_cases e : 82 * n' + i' = 82 * n + i
    · have e1 : n' = n := by omega
      have e2 : i' = i := by omega
      subst e1 e2
      simp only [if_true]
      exact hf j hj
    · simp only [e, if_false]
      exact m3 n' i' hn' hi' hkn j hj

/-- And known to be kept. -/
theorem FieldAt.know {w : World} {p : Fp} (h : FieldAt w p) {n i : Nat} (hn : n < p.nodes.length) (hi : i ≤ p.s.size) {f : Nat → Bool} (hf : Says f (Mat p.s p.nodes n i)) (hr : w.rangeAt p.eb ((82 * n + i) * 82) (endsL f)) :
    FieldAt (w.setCell ⟨p.kb, 82 * n + i, none⟩ (.bool true)) p ∧ (w.setCell ⟨p.kb, 82 * n + i, none⟩ (.bool true)).rangeAt p.eb ((82 * n + i) * 82) (endsL f) := by
  have hs80 := h.s80
  have hq : 82 * n + i < p.nodes.length * 82 := by
    have : n + 1 ≤ p.nodes.length := hn
    omega
  obtain ⟨kn, en, m1, m2, m3⟩ := h.memo.kn
  have hS := (Sole.refl p.kb w).setCell (82 * n + i) (.bool true)
  have hB : Below p.N0 w (w.setCell ⟨p.kb, 82 * n + i, none⟩ (.bool true)) := ⟨hS.os, hS.tape, hS.output, by rw [hS.size]; exact Nat.le_refl _, fun k hk => hS.block k (by have := h.nk; omega)⟩
  have hc : ∀ x k, x ≠ p.kb → (w.setCell ⟨p.kb, 82 * n + i, none⟩ (.bool true)).cell? ⟨x, k, none⟩ = w.cell? ⟨x, k, none⟩ := fun x k hx => World.cell?_of_block (w := w) (a := ⟨x, k, none⟩) (hS.block x hx)
  have hz : ∀ x k, x ≠ p.kb → (w.setCell ⟨p.kb, 82 * n + i, none⟩ (.bool true)).frozen? ⟨x, k, none⟩ = w.frozen? ⟨x, k, none⟩ := fun x k hx => World.frozen?_of_block (w := w) (a := ⟨x, k, none⟩) (hS.block x hx)
  have hek : p.eb ≠ p.kb := fun e => h.ke e.symm
  -- what lies in the table at this place is what f says
  have hsame : ∀ j, j < 82 → en (82 * n + i) j = f j := fun j hj => by
    have a := (m2 _ hq).1 j _ (endsL_at (en (82 * n + i)) hj)
    have b := hr j _ (endsL_at f hj)
    rw [a] at b
    injection b with b
    injection b
  refine ⟨⟨(hc _ _ h.fk).trans h.c0, (hc _ _ h.fk).trans h.c1, (hc _ _ h.fk).trans h.c2, (hc _ _ h.fk).trans h.c3, h.tree.below hB, ⟨fun q => if q = 82 * n + i then true else kn q, en, ?_, ?_, ?_⟩, h.nf, h.nk, h.ne, h.fk, h.fe, h.ke, by rw [hS.size]; exact h.kl, by rw [hS.size]; exact h.el, h.s80, h.wf⟩, fun j v hv => (hc _ _ hek).trans (hr j v hv)⟩
  · intro q hq'
    refine ⟨?_, by rw [World.frozen?_setCell]; exact (m1 q hq').2⟩
    by_cases e : q = 82 * n + i
    · subst e
      simp only [if_true]
      exact World.cell?_setCell_same (h := (m1 _ hq').1) ..
    · simp only [e, if_false]
      rw [World.cell?_setCell_other (h := fun e' => e (by injection e' with _ e' _; exact e'.symm))]
      exact (m1 q hq').1
  · intro q hq'
    exact ⟨fun j v hv => (hc _ _ hek).trans ((m2 q hq').1 j v hv), fun j hj => by rw [hc _ _ hek, hz _ _ hek]; exact (m2 q hq').2 j hj⟩
  · intro n' i' hn' hi' hkn j hj
    by_cases e : 82 * n' + i' = 82 * n + i
    · have e1 : n' = n := by omega
      have e2 : i' = i := by omega
      subst e1 e2
      rw [hsame j hj]
      exact hf j hj
    · simp only [e, if_false] at hkn
      exact m3 n' i' hn' hi' hkn j hj

set_option maxRecDepth 100000 in
set_option maxHeartbeats 2000000 in
theorem from_any (p : Fp) (n : Nat) (hT : ToldAt p n) (hn : n < p.nodes.length) : FromAt p n := by
  intro w i hI hi
  have HI : Hid (FieldAt w p) := hI
  have HT : Hid (ToldAt p n) := hT
  have hs80 := hI.s80
  have hfl := hI.lt
  have hkl := hI.kl
  have hel := hI.el
  have hNf := hI.nf
  have hNk := hI.nk
  have hNe := hI.ne
  have hfk := hI.fk
  have hfe := hI.fe
  have hke := hI.ke
  have hmany := hI.tree.many
  have f2 := hI.c2
  have hq : 82 * n + i < p.nodes.length * 82 := by
    have : n + 1 ≤ p.nodes.length := hn
    omega
  obtain ⟨kn, en, m1, m2, m3⟩ := hI.memo.kn
  have k1 : (0 : Int) ≤ 82 * (n : Int) + (i : Int) := by omega
  have k2 : 82 * (n : Int) + (i : Int) < ((p.nodes.length * 82 : Nat) : Int) := by omega
  have k3 : n ≤ 1000 := by omega
  have ck := (m1 _ hq).1
  have f3 := hI.c3
  have HM2 : Hid (w.rangeAt p.eb ((82 * n + i) * 82) (endsL (en (82 * n + i)))) := (m2 _ hq).1
  have HM3 : Hid (kn (82 * n + i) = true → Says (en (82 * n + i)) (Mat p.s p.nodes n i)) := fun h j hj => m3 n i hn hi h j hj
  clear hI hT m1 m2 m3
  rcases bool_or (kn (82 * n + i)) with hkn | hkn
  · rw [hkn] at ck
    have HK : Hid (kn (82 * n + i) = true) := hkn
    clear hkn
    go_enter Try.func61, Try.ntmps61
    go_wp2_with (first
      | (refine wpList_alloc_row 6 rfl rfl 114 rfl _ Try.info114 ?_; intro w1 h1 hR1 hB1; have HR1 : Hid (Row w1 w.heap.size (endsL fun _ => false)) := hR1; have HB1 : Hid (Below w.heap.size w w1) := hB1; have g2 := (hB1.cell (p := ⟨p.fb, 2, none⟩) hfl).trans f2; have g3 := (hB1.cell (p := ⟨p.fb, 3, none⟩) hfl).trans f3; have gk := (hB1.cell (p := ⟨p.kb, 82 * n + i, none⟩) hkl).trans ck; have HME : Hid (w1.rangeAt p.eb ((82 * n + i) * 82) (endsL (en (82 * n + i)))) := fun j v hv => (hB1.cell (p := ⟨p.eb, (82 * n + i) * 82 + j, none⟩) hel).trans (HM2.out j v hv); clear hR1 hB1)
      | (refine wpList_load_mid rfl 114 (.tmp 41) rfl p.eb ((82 * n + i) * 82) rfl (endsL (en (82 * n + i))) _ HME.out Try.underlying114 rfl (Try.size114 _) ?_)
      | (refine wpList_store_row rfl 114 (.tmp 6) (.tmp 42) rfl _ rfl _ rfl _ HR1.out (by simp only [endsL_length]) (Try.size114 _) (endsL_one _) ?_; intro w6 hR6 hS6))
    exact bodyPost_row 6 114 Try.results61 rfl _ rfl _ _ hR6 Try.underlying114 rfl (Try.size114 _) ⟨_, rfl, HM3.out HK.out, (HI.out.grow HB1.out).sole hS6 (by omega) (by omega) (by omega) (by omega), (Below.fm HB1.out).sole hS6 (Nat.le_refl _)⟩
  · rw [hkn] at ck
    clear HM3 hkn
    go_enter Try.func61, Try.ntmps61
    go_wp2_with (first
      | (refine wpList_alloc_row 6 rfl rfl 114 rfl _ Try.info114 ?_; intro w1 h1 hR1 hB1; have HR1 : Hid (Row w1 w.heap.size (endsL fun _ => false)) := hR1; have HB1 : Hid (Below w.heap.size w w1) := hB1; have g2 := (hB1.cell (p := ⟨p.fb, 2, none⟩) hfl).trans f2; have g3 := (hB1.cell (p := ⟨p.fb, 3, none⟩) hfl).trans f3; have gk := (hB1.cell (p := ⟨p.kb, 82 * n + i, none⟩) hkl).trans ck; clear hR1 hB1))
    have HFd : Hid (FieldAt w1.drew p) := (HI.out.grow HB1.out).grow (Below.refl _ _).drew
    have HFm1 : Hid (Fm p w w1.drew) := (Below.fm HB1.out).trans (Below.fm (Below.refl _ _).drew)
    have HRd : Hid (Row w1.drew w.heap.size (endsL fun _ => false)) := HR1.out.drew'
    have HSZ : Hid (w1.drew.heap.size = w.heap.size + 1) := h1
    clear gk g2
    go_region_with ((go_at_call 84; refine (HT.out _ i HFd.out hi).mono ?_; rintro e w5 ⟨f5, rfl, hS5, hFi5, hFm5⟩; have HS5 : Hid (Says f5 (Mat p.s p.nodes n i)) := hS5; have HFi5 : Hid (FieldAt w5 p) := hFi5; have HFm5 : Hid (Fm p w1.drew w5) := hFm5; have g35 := hFi5.c3; have hst := run_S66m (hFi5.there hq) f5; have hK := hFi5.keep hn hi hS5; have HK6 : Hid _ := hK; clear hS5 hFi5 hFm5 hK))
    all_goals
      have hK := HK6.out
      generalize w5.setCells p.eb ((82 * n + i) * 82) (endsL f5) = w6 at hK
      obtain ⟨hF6, hr6, hs6⟩ := hK
      have HF6 : Hid (FieldAt w6 p) := hF6
      have Hr6 : Hid (w6.rangeAt p.eb ((82 * n + i) * 82) (endsL f5)) := hr6
      have Hs6 : Hid (Sole p.eb w5 w6) := hs6
      have hsz5 := HFm5.out.size
      rw [HSZ.out] at hsz5
      obtain ⟨kn6, ck6, cf6⟩ := hF6.slot hq
      have g2 := hF6.c2
      have hN7 := hF6.know hn hi HS5.out hr6
      have HF7 : Hid (FieldAt (w6.setCell ⟨p.kb, 82 * n + i, none⟩ (.bool true)) p) := hN7.1
      have Hr7 : Hid ((w6.setCell ⟨p.kb, 82 * n + i, none⟩ (.bool true)).rangeAt p.eb ((82 * n + i) * 82) (endsL f5)) := hN7.2
      have g37 := hN7.1.c3
      have HR7 : Hid (Row (w6.setCell ⟨p.kb, 82 * n + i, none⟩ (.bool true)) w.heap.size (endsL fun _ => false)) := ((HRd.out.fm HFm5.out (by rw [HSZ.out]; omega) (by omega) (by omega)).sole Hs6.out (by omega)).sole ((Sole.refl _ _).setCell _ _) (by omega)
      have HFm7 : Hid (Fm p w (w6.setCell ⟨p.kb, 82 * n + i, none⟩ (.bool true))) := (HFm1.out.trans HFm5.out).trans ⟨Hs6.out.os, Hs6.out.tape, Hs6.out.output, by simp [World.setCell]; rw [Hs6.out.size]; exact Nat.le_refl _, fun k _ q1 q2 => by rw [Below.heap_setCell _ _ _ _ q1]; exact Hs6.out.block k q2⟩
      clear hF6 hr6 hs6 HK6 hst hN7 g3 g35
      go_wp2_with (first
        | (refine wpList_load_mid rfl 114 (.tmp 41) rfl p.eb ((82 * n + i) * 82) rfl (endsL f5) _ Hr7.out Try.underlying114 rfl (Try.size114 _) ?_)
        | (refine wpList_store_row rfl 114 (.tmp 6) (.tmp 42) rfl _ rfl _ rfl _ HR7.out (by simp only [endsL_length]) (Try.size114 _) (endsL_one _) ?_; intro w8 hR8 hS8))
      exact bodyPost_row 6 114 Try.results61 rfl _ rfl _ _ hR8 Try.underlying114 rfl (Try.size114 _) ⟨_, rfl, HS5.out, HF7.out.sole hS8 (by omega) (by omega) (by omega) (by omega), HFm7.out.sole hS8 (Nat.le_refl _)⟩
end Go.Proofs.Ytppjlpihaocdiaa

