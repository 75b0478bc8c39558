/- The document's tree and field in memory; 'behind'. -/
import Derived.Test.YtppjlpihaocdiaaRefEndsJ
import Derived.Test.YtppjlpihaocdiaaTrSpecJ
set_option linter.unusedSimpArgs false
set_option linter.unusedVariables false
namespace Go.Proofs.Ytppjlpihaocdiaa
open Go.RowKit

/-- The 261 cells of a node. -/
def ndL (d : Nd) (sv : Value) : List Value := Value.int .i64 d.kind :: ((List.range 256).map (fun k => Value.bool (d.set k)) ++ [sv, .int .i64 d.num, .int .i64 d.lo, .int .i64 d.hi])

theorem ndL_length (d : Nd) (sv : Value) : (ndL d sv).length = 261 := by simp [ndL]

/-- The tree of a pattern, below N0. -/
structure TreeAt (w : World) (N0 tb nb : Nat) (nodes : List Nd) (groups root : Nat) : Prop where
  c0 : ∃ cap, w.cell? ⟨tb, 0, none⟩ = some (.slice (some ⟨nb, 0, none⟩) nodes.length cap)
  c1 : w.cell? ⟨tb, 1, none⟩ = some (.int .i64 groups)
  c2 : w.cell? ⟨tb, 2, none⟩ = some (.int .i64 root)
  ltb : tb < N0
  lnb : nb < N0
  node : ∀ (n : Nat) (d : Nd), nodes[n]? = some d → ∃ ao c, w.rangeAt nb (n * 261) (ndL d (.slice ao d.subs.length c)) ∧ ∀ (q x : Nat), d.subs[q]? = some x → ∃ sb, ao = some ⟨sb, 0, none⟩ ∧ sb < N0 ∧ w.cell? ⟨sb, q, none⟩ = some (.int .i64 x)
  lroot : root < nodes.length
  many : nodes.length ≤ 1000

theorem TreeAt.below {w w' : World} {N0 tb nb groups root : Nat} {nodes : List Nd} (h : TreeAt w N0 tb nb nodes groups root) (hB : Below N0 w w') : TreeAt w' N0 tb nb nodes groups root := by
  have hc : ∀ b k, b < N0 → w'.cell? ⟨b, k, none⟩ = w.cell? ⟨b, k, none⟩ := fun b k hb => hB.cell (p := ⟨b, k, none⟩) hb
  obtain ⟨cap, h0⟩ := h.c0
  refine ⟨⟨cap, (hc _ _ h.ltb).trans h0⟩, (hc _ _ h.ltb).trans h.c1, (hc _ _ h.ltb).trans h.c2, h.ltb, h.lnb, fun n d hd => ?_, h.lroot, h.many⟩
  obtain ⟨ao, c, h1, h2⟩ := h.node n d hd
  refine ⟨ao, c, fun j v hv => (hc _ _ h.lnb).trans (h1 j v hv), fun q x hx => ?_⟩
  obtain ⟨sb, e, hs, hcx⟩ := h2 q x hx
  exact ⟨sb, e, hs, (hc _ _ hs).trans hcx⟩

/-- Where the parts of a field lie. -/
structure Fp where
  N0 : Nat
  tb : Nat
  nb : Nat
  fb : Nat
  kb : Nat
  eb : Nat
  groups : Nat
  root : Nat
  nodes : List Nd
  s : ByteArray

/-- What is known so far is so. -/
structure Memo (w : World) (p : Fp) : Prop where
  kn : ∃ kn : Nat → Bool, ∃ en : Nat → Nat → Bool,
    (∀ q, q < p.nodes.length * 82 → w.cell? ⟨p.kb, q, none⟩ = some (.bool (kn q)) ∧ w.frozen? ⟨p.kb, q, none⟩ = false) ∧
    (∀ q, q < p.nodes.length * 82 → w.rangeAt p.eb (q * 82) (endsL (en q)) ∧ w.there p.eb (q * 82) 82) ∧
    (∀ n i, n < p.nodes.length → i ≤ p.s.size → kn (82 * n + i) = true → ∀ j, j < 82 → (en (82 * n + i) j = true ↔ Mat p.s p.nodes n i j))

/-- The field lies there. -/
structure FieldAt (w : World) (p : Fp) : Prop where
  c0 : w.cell? ⟨p.fb, 0, none⟩ = some (.pointer (some ⟨p.tb, 0, none⟩))
  c1 : w.cell? ⟨p.fb, 1, none⟩ = some (.string p.s)
  c2 : w.cell? ⟨p.fb, 2, none⟩ = some (.slice (some ⟨p.kb, 0, none⟩) (p.nodes.length * 82) (p.nodes.length * 82))
  c3 : w.cell? ⟨p.fb, 3, none⟩ = some (.slice (some ⟨p.eb, 0, none⟩) (p.nodes.length * 82) (p.nodes.length * 82))
  tree : TreeAt w p.N0 p.tb p.nb p.nodes p.groups p.root
  memo : Memo w p
  nf : p.N0 ≤ p.fb
  nk : p.N0 ≤ p.kb
  ne : p.N0 ≤ p.eb
  fk : p.fb ≠ p.kb
  fe : p.fb ≠ p.eb
  ke : p.kb ≠ p.eb
  kl : p.kb < w.heap.size
  el : p.eb < w.heap.size
  s80 : p.s.size ≤ 80
  wf : Wf p.nodes

/-- What the matching leaves alone: all that was there but the two tables. -/
structure Fm (p : Fp) (w w' : World) : Prop where
  os : w'.os = w.os
  tape : w'.tape = w.tape
  output : w'.output = w.output
  size : w.heap.size ≤ w'.heap.size
  block : ∀ k, k < w.heap.size → k ≠ p.kb → k ≠ p.eb → w'.heap[k]? = w.heap[k]?

theorem Fm.refl (p : Fp) (w : World) : Fm p w w := ⟨rfl, rfl, rfl, Nat.le_refl _, fun _ _ _ _ => rfl⟩
theorem Fm.trans {p : Fp} {u v w : World} (h : Fm p u v) (k : Fm p v w) : Fm p u w :=
  ⟨k.os.trans h.os, k.tape.trans h.tape, k.output.trans h.output, Nat.le_trans h.size k.size, fun i hi h1 h2 => (k.block i (Nat.lt_of_lt_of_le hi h.size) h1 h2).trans (h.block i hi h1 h2)⟩
theorem Below.fm {p : Fp} {w w' : World} (h : Below w.heap.size w w') : Fm p w w' := ⟨h.os, h.tape, h.output, h.size, fun k hk _ _ => h.block k hk⟩
/-- A store into a block that is new since w0. -/
theorem Fm.sole {p : Fp} {w0 w w' : World} {b : Nat} (h : Fm p w0 w) (hs : Sole b w w') (hb : w0.heap.size ≤ b) : Fm p w0 w' :=
  ⟨hs.os.trans h.os, hs.tape.trans h.tape, hs.output.trans h.output, by rw [hs.size]; exact h.size, fun k hk h1 h2 => (hs.block k (by omega)).trans (h.block k hk h1 h2)⟩
theorem Row.fm {w w' : World} {p : Fp} {b : Nat} {cs : List Value} (h : Row w b cs) (hf : Fm p w w') (hb : b < w.heap.size) (h1 : b ≠ p.kb) (h2 : b ≠ p.eb) : Row w' b cs := h.of_block (hf.block b hb h1 h2)

theorem FieldAt.lt {w : World} {p : Fp} (h : FieldAt w p) : p.fb < w.heap.size := World.block_lt_of_cell? w _ h.c0

/-- New memory, and nothing old turned. -/
theorem FieldAt.grow {w w' : World} {p : Fp} (h : FieldAt w p) (hB : Below w.heap.size w w') : FieldAt w' p := by
  have hb := h.lt
  have hkl := h.kl
  have hel := h.el
  have hc : ∀ b k, b < w.heap.size → w'.cell? ⟨b, k, none⟩ = w.cell? ⟨b, k, none⟩ := fun b k hb => hB.cell (p := ⟨b, k, none⟩) hb
  have hf : ∀ b k, b < w.heap.size → w'.frozen? ⟨b, k, none⟩ = w.frozen? ⟨b, k, none⟩ := fun b k hb => hB.frozen (p := ⟨b, k, none⟩) hb
  have hN := h.nf
  obtain ⟨kn, en, m1, m2, m3⟩ := h.memo.kn
  refine ⟨(hc _ _ hb).trans h.c0, (hc _ _ hb).trans h.c1, (hc _ _ hb).trans h.c2, (hc _ _ hb).trans h.c3, h.tree.below (hB.mono (by omega)), ⟨kn, en, ?_, ?_, m3⟩, h.nf, h.nk, h.ne, h.fk, h.fe, h.ke, Nat.lt_of_lt_of_le hkl hB.size, Nat.lt_of_lt_of_le hel hB.size, h.s80, h.wf⟩
  · intro q hq
    exact ⟨(hc _ _ hkl).trans (m1 q hq).1, (hf _ _ hkl).trans (m1 q hq).2⟩
  · intro q hq
    refine ⟨fun j v hv => (hc _ _ hel).trans ((m2 q hq).1 j v hv), fun j hj => ?_⟩
    rw [hc _ _ hel, hf _ _ hel]
    exact (m2 q hq).2 j hj

/-- A store into another block. -/
theorem FieldAt.sole {w w' : World} {p : Fp} {b : Nat} (h : FieldAt w p) (hs : Sole b w w') (hN : p.N0 ≤ b) (h1 : b ≠ p.fb) (h2 : b ≠ p.kb) (h3 : b ≠ p.eb) : FieldAt w' p := by
  have hc : ∀ x k, x ≠ b → w'.cell? ⟨x, k, none⟩ = w.cell? ⟨x, k, none⟩ := fun x k hx => World.cell?_of_block (w := w) (w' := w') (a := ⟨x, k, none⟩) (hs.block x hx)
  have hf : ∀ x k, x ≠ b → w'.frozen? ⟨x, k, none⟩ = w.frozen? ⟨x, k, none⟩ := fun x k hx => World.frozen?_of_block (w := w) (w' := w') (a := ⟨x, k, none⟩) (hs.block x hx)
  obtain ⟨kn, en, m1, m2, m3⟩ := h.memo.kn
  have hB : Below p.N0 w w' := ⟨hs.os, hs.tape, hs.output, by rw [hs.size]; exact Nat.le_refl _, fun k hk => hs.block k (by omega)⟩
  refine ⟨(hc _ _ h1.symm).trans h.c0, (hc _ _ h1.symm).trans h.c1, (hc _ _ h1.symm).trans h.c2, (hc _ _ h1.symm).trans h.c3, h.tree.below hB, ⟨kn, en, ?_, ?_, m3⟩, h.nf, h.nk, h.ne, h.fk, h.fe, h.ke, by rw [hs.size]; exact h.kl, by rw [hs.size]; exact h.el, h.s80, h.wf⟩
  · intro q hq
    exact ⟨(hc _ _ h2.symm).trans (m1 q hq).1, (hf _ _ h2.symm).trans (m1 q hq).2⟩
  · intro q hq
    refine ⟨fun j v hv => (hc _ _ h3.symm).trans ((m2 q hq).1 j v hv), fun j hj => ?_⟩
    rw [hc _ _ h3.symm, hf _ _ h3.symm]
    exact (m2 q hq).2 j hj

/-- A set of places that is what a relation says. -/
def Says (f : Nat → Bool) (P : Nat → Prop) : Prop := ∀ j, j < 82 → (f j = true ↔ P j)

/-- 'from' at a node. -/
def FromAt (p : Fp) (n : Nat) : Prop := ∀ (w : World) (i : Nat), FieldAt w p → i ≤ p.s.size →
    Calls Try.prog 61 #[.pointer (some ⟨p.fb, 0, none⟩), .int .i64 n, .int .i64 i] w fun e w' => ∃ f, e = .returned (.agg (endsL f).toArray) ∧ Says f (Mat p.s p.nodes n i) ∧ FieldAt w' p ∧ Fm p w w'

set_option maxRecDepth 100000 in
set_option maxHeartbeats 1000000 in
theorem behind_any (p : Fp) (n : Nat) (hF : FromAt p n) (A : Nat → Bool) (full : Bool) (w : World) (hI : FieldAt w p) (hn : n < p.nodes.length) :
    Calls Try.prog 107 #[.pointer (some ⟨p.fb, 0, none⟩), .int .i64 n, .agg (endsL A).toArray, .bool full] w fun e w' => ∃ f, e = .returned (.agg (endsL f).toArray) ∧
      Says f (fun j => ∃ i, i ≤ p.s.size ∧ A i = true ∧ Mat p.s p.nodes n i j ∧ (full = true → i ≠ j)) ∧ FieldAt w' p ∧ Fm p w w' := by
  have HI : Hid (FieldAt w p) := hI
  have HF : Hid (FromAt p n) := hF
  have hs80 := hI.s80
  have hfl := hI.lt
  have hkl := hI.kl
  have hel := hI.el
  have hNf := hI.nf
  clear hI hF
  go_enter Try.func107, Try.ntmps107
  go_wp2_with (first
    | (refine wpList_box_row 6 rfl rfl 114 (.tmp 2) rfl _ rfl ?_; intro w1 h1 hR1 hB1; have HR1 : Hid (Row w1 w.heap.size (endsL A)) := hR1; have HB1 : Hid (Below w.heap.size w w1) := hB1; clear hR1 hB1)
    | (refine wpList_alloc_row 8 rfl rfl 114 rfl _ Try.info114 ?_; intro w2 h2 hR2 hB2; rw [h1] at hR2 hB2 h2; have HR2 : Hid (Row w2 (w.heap.size + 1) (endsL fun _ => false)) := hR2; have HB2 : Hid (Below (w.heap.size + 1) w1 w2) := hB2; clear hR2 hB2)
    | (refine wpList_alloc_row 9 rfl rfl 114 rfl _ Try.info114 ?_; intro w3 h3 hR3 hB3; rw [h2] at hR3 hB3 h3; have HR3 : Hid (Row w3 (w.heap.size + 1 + 1) (endsL fun _ => false)) := hR3; have HB3 : Hid (Below (w.heap.size + 1 + 1) w2 w3) := hB3; clear hR3 hB3))
  go_loopw [10] (fun v wr => ∃ (k : Nat) (f : Nat → Bool), k ≤ p.s.size + 1 ∧ v = .int .i64 k ∧ Says f (fun j => ∃ i, i < k ∧ A i = true ∧ Mat p.s p.nodes n i j ∧ (full = true → i ≠ j)) ∧
      Row wr w.heap.size (endsL A) ∧ Row wr (w.heap.size + 1) (endsL fun _ => false) ∧ Row wr (w.heap.size + 1 + 1) (endsL f) ∧ FieldAt wr p ∧ Fm p w wr) (fun v _ => p.s.size + 1 - (intOf v).toNat)
  case atStart =>
    have hB : Below w.heap.size w w3 := (HB1.out.trans (HB2.out.mono (by omega))).trans (HB3.out.mono (by omega))
    refine ⟨0, fun _ => false, by omega, rfl, fun j _ => ⟨(fun h => absurd h (by simp)), (fun ⟨i, h, _⟩ => absurd h (by omega))⟩, (HR1.out.below HB2.out (by omega)).below HB3.out (by omega), HR2.out.below HB3.out (by omega), HR3.out, HI.out.grow hB, Below.fm hB⟩
  case round =>
    obtain ⟨k, f, hk, rfl, hS, hA, hZ, hO, hFi, hFm⟩ := hrel
    have HA : Hid (Row wr w.heap.size (endsL A)) := hA
    have HZ : Hid (Row wr (w.heap.size + 1) (endsL fun _ => false)) := hZ
    have HO : Hid (Row wr (w.heap.size + 1 + 1) (endsL f)) := hO
    have HFi : Hid (FieldAt wr p) := hFi
    have HFm : Hid (Fm p w wr) := hFm
    have HS : Hid (Says f (fun j => ∃ i, i < k ∧ A i = true ∧ Mat p.s p.nodes n i j ∧ (full = true → i ≠ j))) := hS
    have hol := hO.lt (by rw [endsL_length]; omega)
    have g1 := hFi.c1
    clear hZ hO hFi hFm hS
    by_cases hlt : k ≤ p.s.size
    · have ca := hA.cell (endsL_at A (k := k) (by omega))
      have k1 : (0 : Int) ≤ (k : Int) := by omega
      have k2 : (k : Int) < 82 := by omega
      clear hA
      rcases bool_or (A k) with hq | hq
      · rw [hq] at ca
        have HQ : Hid (A k = true) := hq
        clear hq
        go_wp2_with fail
        refine (HF.out _ k HFi.out hlt).mono ?_
        rintro e w4 ⟨f4, rfl, hS4, hFi4, hFm4⟩
        have HS4 : Hid (Says f4 (Mat p.s p.nodes n k)) := hS4
        have HFi4 : Hid (FieldAt w4 p) := hFi4
        have HFm4 : Hid (Fm p w w4) := HFm.out.trans hFm4
        have hsz4 := hFm4.size
        have hszw := HFm.out.size
        have HO4 : Hid (Row w4 (w.heap.size + 1 + 1) (endsL f)) := HO.out.fm hFm4 hol (by omega) (by omega)
        have HZ4 : Hid (Row w4 (w.heap.size + 1) (endsL fun _ => false)) := HZ.out.fm hFm4 (by omega) (by omega) (by omega)
        have HA4 : Hid (Row w4 w.heap.size (endsL A)) := HA.out.fm hFm4 (by omega) (by omega) (by omega)
        clear hS4 hFi4 hFm4 ca
        have hne1 : w4.heap.size ≠ w.heap.size + 1 + 1 := by omega
        have hne2 : w4.heap.size ≠ w.heap.size + 1 := by omega
        have hne3 : w4.heap.size ≠ w.heap.size := by omega
        cases full
        · go_wp2_with (first
            | (refine wpList_alloc_row 11 rfl rfl 114 rfl _ Try.info114 ?_; intro w5 h5 hR5 hB5; have HR5 : Hid (Row w5 w4.heap.size (endsL fun _ => false)) := hR5; have HB5 : Hid (Below w4.heap.size w4 w5) := hB5; clear hR5 hB5)
            | (refine wpList_store_row rfl 114 (.tmp 11) (.tmp 27) rfl _ rfl _ rfl _ HR5.out (by rw [endsL_length, endsL_length]) (Try.size114 _) (endsL_one _) ?_; intro w6 hR6 hS6; have HR6 : Hid (Row w6 w4.heap.size (endsL f4)) := hR6; have HS6 : Hid (Sole w4.heap.size w5 w6) := hS6; clear hR6 hS6)
            | (refine wpList_load_row 31 rfl rfl 114 (.tmp 9) rfl _ rfl _ _ ((HO4.out.below HB5.out (by omega)).sole HS6.out (by omega)) Try.underlying114 rfl (Try.size114 _) ?_)
            | (refine wpList_load_row 32 rfl rfl 114 (.tmp 11) rfl _ rfl _ _ HR6.out Try.underlying114 rfl (Try.size114 _) ?_))
          refine (joined_any f f4 _).mono ?_
          rintro e w7 ⟨rfl, hB7⟩
          have HB7 : Hid (Below w6.heap.size w6 w7) := hB7
          clear hB7
          have hsz6 : w6.heap.size = w4.heap.size + 1 := by rw [HS6.out.size, h5]
          have HO7 : Hid (Row w7 (w.heap.size + 1 + 1) (endsL f)) := ((HO4.out.below HB5.out (by omega)).sole HS6.out (by omega)).below HB7.out (by omega)
          go_wp2_with (first
            | (refine wpList_store_row rfl 114 (.tmp 9) (.tmp 33) rfl _ rfl _ rfl _ HO7.out (by rw [endsL_length, endsL_length]) (Try.size114 _) (endsL_one _) ?_; intro w8 hR8 hS8; have HR8 : Hid (Row w8 (w.heap.size + 1 + 1) (endsL fun j => f j || f4 j)) := hR8; have HS8 : Hid (Sole (w.heap.size + 1 + 1) w7 w8) := hS8; clear hR8 hS8))
          go_roundw
          case rel =>
            have hB47 : Fm p w w7 := ((HFm4.out.trans (Below.fm HB5.out)).sole HS6.out (by omega)).trans (Below.fm HB7.out)
            have hF7 : FieldAt w7 p := ((HFi4.out.grow HB5.out).sole HS6.out (by omega) (by omega) (by omega) (by omega)).grow HB7.out
            refine ⟨k + 1, _, by omega, by go_num, fun j hj => ?_, ?_, ?_, HR8.out, hF7.sole HS8.out (by omega) (by omega) (by omega) (by omega), hB47.sole HS8.out (by omega)⟩
            · simp only [Bool.or_eq_true]
              rw [HS.out j hj, HS4.out j hj]
              constructor
              · rintro (⟨i, x1, x2⟩ | x)
                · exact ⟨i, by omega, x2⟩
                · exact ⟨k, by omega, HQ.out, x, fun h => by cases h⟩
              · rintro ⟨i, x1, x2, x3, x4⟩
                by_cases e : i = k
                · subst e; exact .inr x3
                · exact .inl ⟨i, by omega, x2, x3, x4⟩
            · exact (((HA4.out.below HB5.out (by omega)).sole HS6.out (by omega)).below HB7.out (by omega)).sole HS8.out (by omega)
            · exact (((HZ4.out.below HB5.out (by omega)).sole HS6.out (by omega)).below HB7.out (by omega)).sole HS8.out (by omega)
          case measure => simp [intOf]; omega
        · go_wp2_with (first
            | (refine wpList_alloc_row 11 rfl rfl 114 rfl _ Try.info114 ?_; intro w5 h5 hR5 hB5; have HR5 : Hid (Row w5 w4.heap.size (endsL fun _ => false)) := hR5; have HB5 : Hid (Below w4.heap.size w4 w5) := hB5; clear hR5 hB5)
            | (refine wpList_store_row rfl 114 (.tmp 11) (.tmp 27) rfl _ rfl _ rfl _ HR5.out (by rw [endsL_length, endsL_length]) (Try.size114 _) (endsL_one _) ?_; intro w6 hR6 hS6; have HR6 : Hid (Row w6 w4.heap.size (endsL f4)) := hR6; have HS6 : Hid (Sole w4.heap.size w5 w6) := hS6; have c6 := hR6.cell (endsL_at f4 (k := k) (by omega)); have f6 := hR6.frozen (k := k) (by rw [endsL_length]; omega); clear hR6 hS6)
            | (refine wpList_load_row 31 rfl rfl 114 (.tmp 9) rfl _ rfl _ _ (((HO4.out.below HB5.out (by omega)).sole HS6.out (by omega)).sole ((Sole.refl _ _).setCell k (.bool false)) (by omega)) Try.underlying114 rfl (Try.size114 _) ?_)
            | (refine wpList_load_row 32 rfl rfl 114 (.tmp 11) rfl _ rfl _ _ (HR6.out.put k (by rw [endsL_length]; omega) (.bool false)) Try.underlying114 rfl (by rw [endsL_set]; exact Try.size114 _) ?_))
          rw [endsL_set]
          generalize hg4 : (fun j => if j = k then false else f4 j) = g4
          have HG4 : Hid (g4 = fun j => if j = k then false else f4 j) := hg4.symm
          clear hg4
          refine (joined_any f g4 _).mono ?_
          rintro e w7 ⟨rfl, hB7⟩
          have hSx : Sole w4.heap.size w5 (w6.setCell ⟨w4.heap.size, k, none⟩ (.bool false)) := HS6.out.setCell k (.bool false)
          generalize w6.setCell ⟨w4.heap.size, k, none⟩ (.bool false) = wx at hB7 hSx
          have HB7 : Hid (Below wx.heap.size wx w7) := hB7
          have HSx : Hid (Sole w4.heap.size w5 wx) := hSx
          clear hSx
          clear hB7
          have hsz6 : wx.heap.size = w4.heap.size + 1 := by rw [HSx.out.size, h5]
          have HO7 : Hid (Row w7 (w.heap.size + 1 + 1) (endsL f)) := ((HO4.out.below HB5.out (by omega)).sole HSx.out (by omega)).below HB7.out (by omega)
          go_wp2_with (first
            | (refine wpList_store_row rfl 114 (.tmp 9) (.tmp 33) rfl _ rfl _ rfl _ HO7.out (by rw [endsL_length, endsL_length]) (Try.size114 _) (endsL_one _) ?_; intro w8 hR8 hS8; have HR8 : Hid (Row w8 (w.heap.size + 1 + 1) (endsL fun j => f j || g4 j)) := hR8; have HS8 : Hid (Sole (w.heap.size + 1 + 1) w7 w8) := hS8; clear hR8 hS8))
          go_roundw
          case rel =>
            have hB47 : Fm p w w7 := ((HFm4.out.trans (Below.fm HB5.out)).sole HSx.out (by omega)).trans (Below.fm HB7.out)
            have hF7 : FieldAt w7 p := ((HFi4.out.grow HB5.out).sole HSx.out (by omega) (by omega) (by omega) (by omega)).grow HB7.out
            refine ⟨k + 1, _, by omega, by go_num, fun j hj => ?_, ?_, ?_, HR8.out, hF7.sole HS8.out (by omega) (by omega) (by omega) (by omega), hB47.sole HS8.out (by omega)⟩
            · have e4 : g4 j = true ↔ (k ≠ j ∧ Mat p.s p.nodes n k j) := by
                rw [HG4.out]
                simp only
                by_cases e : j = k
                · subst e; simp
                · rw [if_neg e, HS4.out j hj]
                  exact ⟨fun h => ⟨fun h' => e h'.symm, h⟩, fun h => h.2⟩
              simp only [Bool.or_eq_true]
              rw [HS.out j hj, e4]
              constructor
              · rintro (⟨i, x1, x2⟩ | x)
                · exact ⟨i, by omega, x2⟩
                · exact ⟨k, by omega, HQ.out, x.2, fun _ => x.1⟩
              · rintro ⟨i, x1, x2, x3, x4⟩
                by_cases e : i = k
                · subst e; exact .inr ⟨x4 (by simp), x3⟩
                · exact .inl ⟨i, by omega, x2, x3, x4⟩
            · exact (((HA4.out.below HB5.out (by omega)).sole HSx.out (by omega)).below HB7.out (by omega)).sole HS8.out (by omega)
            · exact (((HZ4.out.below HB5.out (by omega)).sole HSx.out (by omega)).below HB7.out (by omega)).sole HS8.out (by omega)
          case measure => simp [intOf]; omega
      · rw [hq] at ca
        have HQ : Hid (A k = false) := hq
        clear hq
        go_wp2_with fail
        go_roundw
        case rel => exact ⟨k + 1, f, by omega, by go_num, fun j hj => by
            rw [HS.out j hj]
            constructor
            · rintro ⟨i, x1, x2⟩; exact ⟨i, by omega, x2⟩
            · rintro ⟨i, x1, x2, x3⟩
              have : i ≠ k := fun e => by rw [e, HQ.out] at x2; cases x2
              exact ⟨i, by omega, x2, x3⟩, HA.out, HZ.out, HO.out, HFi.out, HFm.out⟩
        case measure => simp [intOf]; omega
    · have hks : k = p.s.size + 1 := by omega
      go_wp2_with (first
        | (refine wpList_load_row 34 rfl rfl 114 (.tmp 9) rfl _ rfl _ _ HO.out Try.underlying114 rfl (Try.size114 _) ?_)
        | (refine wpList_store_row rfl 114 (.tmp 8) (.tmp 34) rfl _ rfl _ rfl _ HZ.out (by rw [endsL_length, endsL_length]) (Try.size114 _) (endsL_one _) ?_; intro w4 hR4 hS4))
      exact bodyPost_row 8 114 Try.results107 rfl _ rfl _ _ hR4 Try.underlying114 rfl (Try.size114 _) ⟨f, rfl, fun j hj => by
          rw [HS.out j hj, hks]
          constructor
          · rintro ⟨i, x1, x2⟩; exact ⟨i, by omega, x2⟩
          · rintro ⟨i, x1, x2⟩; exact ⟨i, by omega, x2⟩, HFi.out.sole hS4 (by omega) (by omega) (by omega) (by omega), HFm.out.sole hS4 (by omega)⟩
end Go.Proofs.Ytppjlpihaocdiaa
