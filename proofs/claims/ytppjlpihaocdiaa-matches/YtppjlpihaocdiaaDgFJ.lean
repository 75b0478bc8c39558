/- The document's First. -/
import Derived.Test.YtppjlpihaocdiaaDgIxJ
import Derived.Test.YtppjlpihaocdiaaFirstJ
import Derived.Test.YtppjlpihaocdiaaTrSetsJ
set_option linter.unusedSimpArgs false
set_option linter.unusedVariables false
namespace Go.Proofs.Ytppjlpihaocdiaa
namespace Dg
open Go.RowKit

attribute [local go_sem ↓] L66_eq S66_eq L73_eq S73_eq Go.wp_at_zero Go.wp_at_succ

/-- While the match is looked for. -/
structure Fi (w wr : World) (p : Fp) : Prop where
  fd : FieldAt wr p
  c4 : wr.cell? ⟨p.fb, 4, none⟩ = some (.slice none 0 0)
  f4 : wr.frozen? ⟨p.fb, 4, none⟩ = false
  fm : Fm p w wr

theorem Fi.of {w wr w' : World} {p : Fp} (h : Fi w wr p) (hf : FieldAt w' p) (hm : Fm p wr w') : Fi w w' p :=
  ⟨hf, (World.cell?_of_block (w := wr) (w' := w') (a := ⟨p.fb, 4, none⟩) (hm.block _ h.fd.lt h.fd.fk h.fd.fe)).trans h.c4, (World.frozen?_of_block (w := wr) (w' := w') (a := ⟨p.fb, 4, none⟩) (hm.block _ h.fd.lt h.fd.fk h.fd.fe)).trans h.f4, h.fm.trans hm⟩
theorem Fi.grow {w wr w' : World} {p : Fp} (h : Fi w wr p) (hB : Below wr.heap.size wr w') : Fi w w' p := h.of (h.fd.grow hB) (Below.fm hB)
theorem Fi.sole {w wr w' : World} {p : Fp} {b : Nat} (h : Fi w wr p) (hs : Sole b wr w') (hb : w.heap.size ≤ b) (hl : p.fb < w.heap.size) (hk : p.kb < w.heap.size) (he : p.eb < w.heap.size) : Fi w w' p := by
  have hnf := h.fd.nf
  have hx := hs.block p.fb (by omega)
  exact ⟨h.fd.sole hs (by omega) (by omega) (by omega) (by omega), (World.cell?_of_block (w := wr) (w' := w') (a := ⟨p.fb, 4, none⟩) hx).trans h.c4, (World.frozen?_of_block (w := wr) (w' := w') (a := ⟨p.fb, 4, none⟩) hx).trans h.f4, h.fm.sole hs hb⟩

/-- A list of spans, as cells. -/
def flat (l : Caps) : List Value := l.flatMap fun q => [Value.int .i64 q.1, Value.int .i64 q.2]
theorem flat_length : ∀ (l : Caps), (flat l).length = l.length * 2
  | [] => rfl
  | q :: l => by
    have := flat_length l
    simp only [flat, List.flatMap_cons, List.length_append, List.length_cons, List.length_nil] at this ⊢
    omega
theorem flat_at : ∀ (l : Caps) (k : Nat) (q : Int × Int), l[k]? = some q → (flat l)[k * 2]? = some (.int .i64 q.1) ∧ (flat l)[k * 2 + 1]? = some (.int .i64 q.2)
  | [], k, q, h => by simp at h
  | x :: l, 0, q, h => by
    have : x = q := by simpa using h
    subst this
    exact ⟨rfl, rfl⟩
  | x :: l, k + 1, q, h => by
    have h' : l[k]? = some q := by simpa using h
    obtain ⟨a1, a2⟩ := flat_at l k q h'
    have e : flat (x :: l) = [Value.int .i64 x.1, Value.int .i64 x.2] ++ flat l := rfl
    rw [e]
    constructor
    · rw [List.getElem?_append_right (by simp; omega), show (k + 1) * 2 - [Value.int IntKind.i64 x.1, Value.int .i64 x.2].length = k * 2 by simp; omega]
      exact a1
    · rw [List.getElem?_append_right (by simp; omega), show (k + 1) * 2 + 1 - [Value.int IntKind.i64 x.1, Value.int .i64 x.2].length = k * 2 + 1 by simp; omega]
      exact a2
theorem flat_append (l m : Caps) : flat (l ++ m) = flat l ++ flat m := by simp [flat, List.flatMap_append]
theorem flat_one (l : Caps) : ∀ v ∈ flat l, v.oneCell' = true := by
  intro v hv
  simp only [flat, List.mem_flatMap] at hv
  obtain ⟨q, _, hv⟩ := hv
  simp at hv
  rcases hv with rfl | rfl <;> rfl

theorem flat_cells {w : World} {o : Nat} {l : Caps} (h : OutAt w o l) : ∀ (j : Nat) (u : Value), (flat l)[j]? = some u → w.cell? ⟨o, j, none⟩ = some u := by
  intro j u hu
  have hj : j < l.length * 2 := by
    have := (List.getElem?_eq_some_iff.1 hu).1
    rw [flat_length] at this
    exact this
  have hk : j / 2 < l.length := by omega
  have hq : l[j / 2]? = some l[j / 2] := List.getElem?_eq_getElem hk
  obtain ⟨a1, a2⟩ := flat_at l (j / 2) l[j / 2] hq
  obtain ⟨b1, b2, _, _⟩ := h (j / 2) l[j / 2].1 l[j / 2].2 hq
  rcases Nat.mod_two_eq_zero_or_one j with e | e
  · have ej : j / 2 * 2 = j := by omega
    rw [ej] at a1 b1
    rw [b1, ← a1, hu]
  · have ej : j / 2 * 2 + 1 = j := by omega
    rw [ej] at a2 b2
    rw [b2, ← a2, hu]

theorem own_one (w : World) (a b : Value) : (w.alloc (.cells #[a, b] 36)).ownsRow w.heap.size 36 2 (.slice (some ⟨w.heap.size, 0, none⟩) 1 1) 1 [a, b] :=
  ⟨rfl, .inr ⟨w.heap.size, 1, #[a, b], rfl, Nat.le_refl _, heap_alloc_last w _, Nat.le_refl _, by unfold maxLen; omega, rfl, rfl⟩⟩

theorem own_span {w : World} {N g n cap : Nat} {l : Caps} (h : w.ownsRow N 36 2 (.slice (some ⟨g, 0, none⟩) n cap) n (flat l)) : OutAt w g l := by
  intro q x y hq
  rcases h.2 with ⟨e, _⟩ | ⟨g', cap', cur, hv, _, hh, _, _, _, ht⟩
  · cases e
  · cases hv
    obtain ⟨a1, a2⟩ := flat_at l q (x, y) hq
    have hc : ∀ k v, (flat l)[k]? = some v → w.cell? ⟨g, k, none⟩ = some v := by
      intro k v hk
      rw [cell_of_row w g k cur 36 (0, 0) hh]
      have : cur.toList[k]? = some v := by
        have h0 : (cur.toList.take (n * 2))[k]? = some v := by rw [ht, hk]
        rw [List.getElem?_take] at h0
        split at h0
        · exact h0
        · cases h0
      simpa using this
    have hf : ∀ k, w.frozen? ⟨g, k, none⟩ = false := fun k => by simp [World.frozen?, hh]
    exact ⟨hc _ _ a1, hc _ _ a2, hf _, hf _⟩

theorem FieldAt.got {w : World} {p : Fp} (h : FieldAt w p) (v : Value) : FieldAt (w.setCell ⟨p.fb, 4, none⟩ v) p := by
  have hx : ∀ k, k ≠ p.fb → (w.setCell ⟨p.fb, 4, none⟩ v).heap[k]? = w.heap[k]? := fun k hk => Below.heap_setCell _ _ _ _ hk
  have hc : ∀ b k, b ≠ p.fb → (w.setCell ⟨p.fb, 4, none⟩ v).cell? ⟨b, k, none⟩ = w.cell? ⟨b, k, none⟩ := fun b k hb => World.cell?_of_block (w := w) (a := ⟨b, k, none⟩) (hx b hb)
  have hf : ∀ b k, b ≠ p.fb → (w.setCell ⟨p.fb, 4, none⟩ v).frozen? ⟨b, k, none⟩ = w.frozen? ⟨b, k, none⟩ := fun b k hb => World.frozen?_of_block (w := w) (a := ⟨b, k, none⟩) (hx b hb)
  have ho : ∀ k, k ≠ 4 → (w.setCell ⟨p.fb, 4, none⟩ v).cell? ⟨p.fb, k, none⟩ = w.cell? ⟨p.fb, k, none⟩ := fun k hk => World.cell?_setCell_other (h := fun e => hk (by injection e with _ e _; exact e.symm)) ..
  have hsz : (w.setCell ⟨p.fb, 4, none⟩ v).heap.size = w.heap.size := by simp [World.setCell]
  have hB : Below p.N0 w (w.setCell ⟨p.fb, 4, none⟩ v) := (Below.refl _ _).setCell h.nf _
  obtain ⟨kn, en, m1, m2, m3⟩ := h.memo.kn
  refine ⟨(ho 0 (by omega)).trans h.c0, (ho 1 (by omega)).trans h.c1, (ho 2 (by omega)).trans h.c2, (ho 3 (by omega)).trans h.c3, h.tree.below hB, ⟨kn, en, fun q hq => ?_, fun q hq => ?_, m3⟩, h.nf, h.nk, h.ne, h.fk, h.fe, h.ke, by rw [hsz]; exact h.kl, by rw [hsz]; exact h.el, h.s80, h.wf⟩
  · exact ⟨(hc _ _ h.fk.symm).trans (m1 q hq).1, (hf _ _ h.fk.symm).trans (m1 q hq).2⟩
  · refine ⟨fun j u hu => (hc _ _ h.fe.symm).trans ((m2 q hq).1 j u hu), fun j hj => ?_⟩
    rw [hc _ _ h.fe.symm, hf _ _ h.fe.symm]
    exact (m2 q hq).2 j hj

/-- While the list of spans is laid, empty. -/
structure Ly (w wr : World) (p : Fp) (B k : Nat) (v : Value) : Prop where
  fd : FieldAt wr p
  c4 : wr.cell? ⟨p.fb, 4, none⟩ = some v
  f4 : wr.frozen? ⟨p.fb, 4, none⟩ = false
  own : wr.ownsRow B 36 2 v k (flat (List.replicate k ((-1 : Int), (-1 : Int))))
  bl : Below p.N0 w wr
  nz : k = 0 → v = .slice none 0 0

theorem Ly.more {w wr w2 : World} {p : Fp} {B k gg cap : Nat} {v : Value} (h : Ly w wr p B k v) (hB : p.fb < B ∧ p.kb < B ∧ p.eb < B ∧ B ≤ wr.heap.size)
    (hown : w2.ownsRow B 36 2 (.slice (some ⟨gg, 0, none⟩) (k + 1) cap) (k + 1) (flat (List.replicate k ((-1 : Int), (-1 : Int))) ++ [.int .i64 (-1), .int .i64 (-1)]))
    (hg : (wr.alloc (.cells #[.int .i64 (-1), .int .i64 (-1)] 36)).grownBy w2 v.ownBlock) :
    Ly w (w2.setCell ⟨p.fb, 4, none⟩ (.slice (some ⟨gg, 0, none⟩) (k + 1) cap)) p B (k + 1) (.slice (some ⟨gg, 0, none⟩) (k + 1) cap) ∧ w2.cell? ⟨p.fb, 4, none⟩ = some v ∧ w2.frozen? ⟨p.fb, 4, none⟩ = false := by
  obtain ⟨b1, b2, b3, b4⟩ := hB
  have hsz : (wr.alloc (.cells #[.int .i64 (-1), .int .i64 (-1)] 36)).heap.size = wr.heap.size + 1 := by simp
  have hvb : ∀ q, v.ownBlock = some q → B ≤ q ∧ q < wr.heap.size := fun q hq => h.own.lt q hq
  have hx : ∀ q, q < wr.heap.size → q < B → w2.heap[q]? = wr.heap[q]? := fun q hq hqB => by
    rw [hg.block q (by omega) (fun e => by have := (hvb q e.symm).1; omega), Below.heap_alloc _ _ _ hq]
  have hnf := h.fd.nf
  have hnk := h.fd.nk
  have hne := h.fd.ne
  have hsize := hg.size
  have hgB : B ≤ gg := (hown.lt gg rfl).1
  have hbl : Below p.N0 wr w2 := ⟨hg.os, hg.tape, hg.output, by omega, fun q hq => hx q (by omega) (by omega)⟩
  have hfd : FieldAt w2 p := by
    have hI := h.fd
    have hc : ∀ b k, b < B → w2.cell? ⟨b, k, none⟩ = wr.cell? ⟨b, k, none⟩ := fun b k hb => World.cell?_of_block (w := wr) (w' := w2) (a := ⟨b, k, none⟩) (hx b (by omega) hb)
    have hf : ∀ b k, b < B → w2.frozen? ⟨b, k, none⟩ = wr.frozen? ⟨b, k, none⟩ := fun b k hb => World.frozen?_of_block (w := wr) (w' := w2) (a := ⟨b, k, none⟩) (hx b (by omega) hb)
    obtain ⟨kn, en, m1, m2, m3⟩ := hI.memo.kn
    refine ⟨(hc _ _ b1).trans hI.c0, (hc _ _ b1).trans hI.c1, (hc _ _ b1).trans hI.c2, (hc _ _ b1).trans hI.c3, hI.tree.below hbl, ⟨kn, en, fun q hq => ⟨(hc _ _ b2).trans (m1 q hq).1, (hf _ _ b2).trans (m1 q hq).2⟩, fun q hq => ⟨fun j u hu => (hc _ _ b3).trans ((m2 q hq).1 j u hu), fun j hj => ?_⟩, m3⟩, hI.nf, hI.nk, hI.ne, hI.fk, hI.fe, hI.ke, by omega, by omega, hI.s80, hI.wf⟩
    rw [hc _ _ b3, hf _ _ b3]
    exact (m2 q hq).2 j hj
  have e4 := (World.cell?_of_block (w := wr) (w' := w2) (a := ⟨p.fb, 4, none⟩) (hx p.fb (by omega) b1)).trans h.c4
  have e5 := (World.frozen?_of_block (w := wr) (w' := w2) (a := ⟨p.fb, 4, none⟩) (hx p.fb (by omega) b1)).trans h.f4
  refine ⟨⟨FieldAt.got hfd _, World.cell?_setCell_same _ _ _ e4, by rw [World.frozen?_setCell]; exact e5, ?_, (h.bl.trans hbl).setCell hnf _, fun e => by omega⟩, e4, e5⟩
  have e : flat (List.replicate (k + 1) ((-1 : Int), (-1 : Int))) = flat (List.replicate k ((-1 : Int), (-1 : Int))) ++ [.int .i64 (-1), .int .i64 (-1)] := by
    rw [List.replicate_succ', flat_append]; rfl
  rw [e]
  exact Tr.ownsRow_of_block hown fun q hq => Below.heap_setCell _ _ _ _ (by
    have : gg = q := by simpa [Value.ownBlock] using hq
    simp only; omega)

/-- The list of spans is laid: the field as 'gives' wants it. -/
theorem Ly.gs {w wr : World} {p : Fp} {B : Nat} {v : Value} (h : Ly w wr p B p.groups v) (hB : p.fb < B ∧ p.kb < B ∧ p.eb < B) (hN : p.N0 ≤ B) : Gs wr wr p v.ownBlock (noCaps p.groups) ∧ (noCaps p.groups).length = p.groups := by
  have hl : (noCaps p.groups).length = p.groups := by simp [noCaps]
  obtain ⟨b1, b2, b3⟩ := hB
  refine ⟨⟨h.fd, ?_, fun k q hq => ?_, Fg.refl _ _ _, fun o e => ?_⟩, hl⟩
  · rw [hl]
    rcases h.own.2 with ⟨e, e2⟩ | ⟨g', cap', cur, hv, _⟩
    · exact ⟨none, 0, by rw [h.c4, e, e2], fun o ho => by rw [e] at ho; cases ho⟩
    · exact ⟨some ⟨g', 0, none⟩, cap', by rw [h.c4, hv], fun o ho => by rw [hv] at ho; have : g' = o := (by simpa [Value.ownBlock] using ho); rw [this]⟩
  · rcases h.own.2 with ⟨e, e2⟩ | ⟨g', cap', cur, hv, _⟩
    · have : k < (noCaps p.groups).length := (List.getElem?_eq_some_iff.1 hq).1
      omega
    · have ho := h.own
      rw [hv] at ho
      obtain ⟨a1, a2, a3, a4⟩ := own_span ho k q.1 q.2 hq
      exact ⟨g', by rw [hv]; rfl, a1, a2, a3, a4⟩
  · have := h.own.lt o e
    exact ⟨by omega, by omega, by omega, by omega, this.2⟩

theorem Try.infos36 : (Try.prog.info? 36).map (fun i => (i.zero, i.size, i.bytes)) = some (some (.agg #[.int .i64 0, .int .i64 0]), 2, 16) := by kernel_rfl

set_option maxRecDepth 100000 in
set_option maxHeartbeats 8000000 in
theorem dfirst_any (p : Fp) (w : World) (hI : FieldAt w p) (h4 : w.cell? ⟨p.fb, 4, none⟩ = some (.slice none 0 0)) (hf4 : w.frozen? ⟨p.fb, 4, none⟩ = false) (hFR : FromAt p p.root) (hGV : GivesAt p p.root) (hg : p.groups ≤ 1000) :
    Calls Try.prog 35 #[.pointer (some ⟨p.fb, 0, none⟩), .int .i64 0, .bool true] w
      fun e w' => Below p.N0 w w' ∧ ((e = .returned (.tuple #[.slice none 0 0, .bool false]) ∧ ∀ i j, i ≤ p.s.size → ¬ Mat p.s p.nodes p.root i j) ∨
        ∃ ob i j cap c', e = .returned (.tuple #[.slice (some ⟨ob, 0, none⟩) (p.groups + 1) cap, .bool true]) ∧ p.N0 ≤ ob ∧ Best p.s.size (Mat p.s p.nodes p.root) 0 i j ∧ OutAt w' ob (((i : Int), (j : Int)) :: c') ∧ c'.length = p.groups ∧ Gq p.s p.nodes p.root i j (noCaps p.groups) c') := by
  have HI : Hid (FieldAt w p) := hI
  have HS : Hid (Stays p.s.size (Mat p.s p.nodes p.root)) := Mat_stays p.s hI.wf (p.root + 1) p.root (by omega)
  have HFi : Hid (Fi w w p) := ⟨hI, h4, hf4, Fm.refl _ _⟩
  have hs80 := hI.s80
  have hfl := hI.lt
  have hkl := hI.kl
  have hel := hI.el
  have hNf := hI.nf
  have hNk := hI.nk
  have hNe := hI.ne
  have HFR : Hid (FromAt p p.root) := hFR
  have HGV : Hid (GivesAt p p.root) := hGV
  have ltb := hI.tree.ltb
  obtain ⟨i0, hi0, hz0, hz1, hz2⟩ := info_parts Try.infos36
  clear hI h4 hf4 hFR hGV
  go_enter Try.func35, Try.ntmps35
  go_wp2_with fail
  go_loopw [8] (fun v wr => ∃ i : Nat, v = .int .i64 i ∧ i ≤ p.s.size + 1 ∧ Fi w wr p ∧ Hid (∀ i' j', i' < i → ¬ Mat p.s p.nodes p.root i' j')) (fun v _ => p.s.size + 1 - (intOf v).toNat)
  case atStart => exact ⟨0, rfl, by omega, HFi.out, fun i' j' h => by omega⟩
  case round =>
    obtain ⟨i, rfl, hi, hF, HNo⟩ := hrel
    have HF : Hid (Fi w wr p) := hF
    have g0 := hF.fd.c0
    have g1 := hF.fd.c1
    have g2 := hF.fd.tree.c2
    clear hF HFi
    by_cases hil : i ≤ p.s.size
    · go_wp2_with fail
      have hcF := HFR.out wr i HF.out.fd hil
      refine hcF.mono ?_
      clear hcF
      rintro e w5 ⟨f5, rfl, hS5, hF5, hM5⟩
      have HF5 : Hid (Fi w w5 p) := HF.out.of hF5 hM5
      have HS5 : Hid (Says f5 (Mat p.s p.nodes p.root i)) := hS5
      have hsz5 := HF5.out.fm.size
      have k0 := HF5.out.fd.c1
      clear hS5 hF5 hM5 g0 g1 g2
      have HW5 : Hid (∃ E, E = w5.heap.size) := ⟨_, rfl⟩
      obtain ⟨E, hE⟩ := HW5.out
      clear hE HW5
      rcases bool_or ((i : Int) == 0) with hq0 | hq0
      all_goals
        go_wp2_with (first
          | (refine wpList_alloc_row 9 rfl rfl 114 rfl _ Try.info114 ?_; intro w6 h6 hR6 hB6; have HR6 : Hid (Row w6 w5.heap.size (endsL fun _ => false)) := hR6; have HB6 : Hid (Below w5.heap.size w5 w6) := hB6; clear hR6 hB6)
          | (refine wpList_store_row rfl 114 (.tmp 9) (.tmp 32) rfl _ rfl _ rfl _ HR6.out (by rw [endsL_length, endsL_length]) (Try.size114 _) (endsL_one _) ?_; intro w7 hR7 hS7; have HF7 : Hid (Fi w w7 p) := (HF5.out.grow HB6.out).sole hS7 (by omega) hfl hkl hel; have HE7 : Hid (Row w7 w5.heap.size (endsL f5)) := hR7; have k7 := HF7.out.fd.c1; clear hR7 hS7 k0))
        clear k7 hq0
        go_loopw [10] (fun v wx => ∃ j : Nat, v = .int .i64 ((j : Int) - 1) ∧ i ≤ j ∧ j ≤ p.s.size + 1 ∧ Fi w wx p ∧ Row wx w5.heap.size (endsL f5) ∧ Hid (∀ j', j ≤ j' → j' ≤ p.s.size → ¬ Mat p.s p.nodes p.root i j')) (fun v _ => (intOf v + 1).toNat)
        case atStart => exact ⟨p.s.size + 1, by congr 1; omega, by omega, Nat.le_refl _, HF7.out, HE7.out, fun j' h1 h2 => by omega⟩
        case round =>
          obtain ⟨j, rfl, hij, hj, hFx, hEx, HNj⟩ := hrel
          have HFx : Hid (Fi w wr p) := hFx
          have HEx : Hid (Row wr w5.heap.size (endsL f5)) := hEx
          clear HF7 HE7
          by_cases hlt : i < j
          · obtain ⟨jj, rfl⟩ : ∃ jj, j = jj + 1 := ⟨j - 1, by omega⟩
            rw [show (((jj + 1 : Nat) : Int) - 1) = (jj : Int) by omega]
            have ce := hEx.cell (endsL_at f5 (k := jj) (by omega))
            have k1 : (0 : Int) ≤ (jj : Int) := by omega
            have k2 : (jj : Int) < 82 := by omega
            have hji : (i : Int) ≤ (jj : Int) := by omega
            clear hFx hEx
            rcases bool_or (f5 jj) with hfj | hfj
            · have HMM : Hid (Mat p.s p.nodes p.root i jj) := (HS5.out jj (by omega)).1 hfj
              rw [hfj] at ce
              have g4 := HFx.out.c4
              have g5 := HFx.out.f4
              have hszx := HFx.out.fm.size
              have HL0 : Hid (Ly w (wr.setCell ⟨p.fb, 4, none⟩ (.slice none 0 0)) p wr.heap.size 0 (.slice none 0 0)) := ⟨FieldAt.got HFx.out.fd _, World.cell?_setCell_same _ _ _ g4, by rw [World.frozen?_setCell]; exact g5, World.ownsRow_nil _ _ _ _, (HFx.out.fm.below hNk hNe (by omega)).setCell hNf _, fun _ => rfl⟩
              clear hfj ce g4 g5
              have g4' := HFx.out.c4
              have g5' := HFx.out.f4
              have ce' := HEx.out.cell (endsL_at f5 (k := jj) (by omega))
              rw [(HS5.out jj (by omega)).2 HMM.out] at ce'
              go_wp2_with fail
              have HB0 : Hid (∃ B, B = wr.heap.size) := ⟨_, rfl⟩
              obtain ⟨B, hBB⟩ := HB0.out
              have HBs : Hid (p.fb < B ∧ p.kb < B ∧ p.eb < B ∧ p.N0 ≤ B) := by rw [Hid, hBB]; omega
              have HL1 : Hid (Ly w (wr.setCell ⟨p.fb, 4, none⟩ (.slice none 0 0)) p B 0 (.slice none 0 0)) := by rw [hBB]; exact HL0.out
              have HBl : Hid (B ≤ (wr.setCell ⟨p.fb, 4, none⟩ (.slice none 0 0)).heap.size) := by rw [Hid, hBB]; simp [World.setCell]
              clear hBB HB0 HL0 g4' g5' ce'
              generalize wr.setCell ⟨p.fb, 4, none⟩ (.slice none 0 0) = w8 at HL1 HBl ⊢
              go_loopw [11] (fun v wx => ∃ (k : Nat) (gv : Value), v = .int .i64 k ∧ k ≤ p.groups ∧ Ly w wx p B k gv ∧ B ≤ wx.heap.size) (fun v _ => p.groups - (intOf v).toNat)
              case atStart => exact ⟨0, _, rfl, Nat.zero_le _, HL1.out, HBl.out⟩
              case round =>
                obtain ⟨k, gv, rfl, hk, hLy, hBx⟩ := hrel
                have HLy : Hid (Ly w wr p B k gv) := hLy
                have HBx : Hid (B ≤ wr.heap.size) := hBx
                have t0 := hLy.fd.c0
                have t1 := hLy.fd.tree.c1
                have t4 := hLy.c4
                clear hLy hBx HL1 HBl
                by_cases hkg : k < p.groups
                · have HMR : Hid (∀ {w2 : World} {gg cap : Nat}, w2.ownsRow B 36 2 (.slice (some ⟨gg, 0, none⟩) (k + 1) cap) (k + 1) (flat (List.replicate k ((-1 : Int), (-1 : Int))) ++ [.int .i64 (-1), .int .i64 (-1)]) → (wr.alloc (.cells #[.int .i64 (-1), .int .i64 (-1)] 36)).grownBy w2 gv.ownBlock → _) := fun {w2 gg cap} h1 h2 => HLy.out.more ⟨HBs.out.1, HBs.out.2.1, HBs.out.2.2.1, HBx.out⟩ h1 h2
                  go_wp2_with (at_builtin; refine wpList_append_lies _ rfl _ _ 26 rfl B 36 i0 _ 2 16 Try.underlying26 hi0 hz0 hz1 hz2 rfl (by omega) gv k (flat (List.replicate k ((-1 : Int), (-1 : Int)))) rfl (HLy.out.own.alloc _) ⟨wr.heap.size, 0, none⟩ 1 1 [.int .i64 (-1), .int .i64 (-1)] rfl rfl (World.news_of_block (cs := #[.int .i64 (-1), .int .i64 (-1)]) (t := 36) (fr := (0, 0)) (heap_alloc_last wr _)) (fun x hx => by simp at hx; subst hx; rfl) (by omega) (by unfold maxLen; omega) (by omega) (by have := HBx.out; simp; omega) (wr.heap.size + 1) (by simp) ?_; intro gg cap w9 hown9 hgrow hat hlt9; obtain ⟨hL9, c9, f9⟩ := HMR.out hown9 hgrow; have HL9 : Hid (Ly w (w9.setCell ⟨p.fb, 4, none⟩ (.slice (some ⟨gg, 0, none⟩) (k + 1) cap)) p B (k + 1) (.slice (some ⟨gg, 0, none⟩) (k + 1) cap)) := hL9; have HB9 : Hid (B ≤ (w9.setCell ⟨p.fb, 4, none⟩ (.slice (some ⟨gg, 0, none⟩) (k + 1) cap)).heap.size) := (by have h1 := hgrow.size; have h2 := HBx.out; simp at h1; simp [Hid, World.setCell]; omega); clear hL9 hown9 hgrow hat hlt9)
                  go_roundw
                  case rel => exact ⟨k + 1, _, by go_num, by omega, HL9.out, HB9.out⟩
                  case measure => simp [intOf]; omega
                · have hkk : k = p.groups := by omega
                  subst hkk
                  have t2 := HLy.out.fd.tree.c2
                  obtain ⟨hGs, hGl⟩ := HLy.out.gs ⟨HBs.out.1, HBs.out.2.1, HBs.out.2.2.1⟩ HBs.out.2.2.2
                  have HGs : Hid (Gs wr wr p gv.ownBlock (noCaps p.groups)) := hGs
                  have HGl : Hid ((noCaps p.groups).length = p.groups) := hGl
                  have HGB : Hid (∀ q, gv.ownBlock = some q → B ≤ q ∧ q < wr.heap.size) := fun q hq => HLy.out.own.lt q hq
                  clear hGs hGl
                  go_wp2_with fail
                  have hcG := HGV.out wr i jj (noCaps p.groups) gv.ownBlock HGs.out HGl.out (by omega) (by omega) HMM.out
                  refine hcG.mono ?_
                  clear hcG
                  rintro e w10 ⟨rfl, c10, hg10, hl10, hG10⟩
                  have HQ10 : Hid (Gq p.s p.nodes p.root i jj (noCaps p.groups) c10) := hg10
                  have HC10 : Hid (c10.length = p.groups) := by rw [Hid, hl10]; exact HGl.out
                  have HG10 : Hid (Gs wr w10 p gv.ownBlock c10) := hG10
                  have hw10 := hG10.fr.size
                  have g4 : w10.cell? ⟨p.fb, 4, none⟩ = some gv := (World.cell?_of_block (w := wr) (w' := w10) (a := ⟨p.fb, 4, none⟩) (hG10.fr.block p.fb HLy.out.fd.lt HLy.out.fd.fk HLy.out.fd.fe (fun e => by have := (HGB.out _ e).1; have := HBs.out.1; omega))).trans HLy.out.c4
                  have HBW : Hid (Below p.N0 w w10) := HLy.out.bl.trans (Fg.below hG10.fr hNk hNe (fun o e => (hG10.ap o e).1) (by have := HBx.out; have := HBs.out.2.2.2; omega))
                  have HBest : Hid (Best p.s.size (Mat p.s p.nodes p.root) 0 i jj) := ⟨Nat.zero_le _, by omega, by omega, HMM.out, fun i' j' _ h => HNo.out i' j' h, fun j' h hm => by
                    have := HS.out i j' hil hm
                    exact HNj.out j' (by omega) (by omega) hm⟩
                  have hfl10 : p.fb < w10.heap.size := hG10.fd.lt
                  clear hg10 hl10 hG10 t0 t1 t2 t4
                  by_cases hgz : p.groups = 0
                  · have hgv := HLy.out.nz hgz
                    subst hgv
                    have hc10 : c10 = [] := List.length_eq_zero_iff.1 (by rw [HC10.out]; exact hgz)
                    have HC0 : Hid (c10 = []) := hc10
                    clear hc10
                    have HZG : Hid (p.groups = 0) := hgz
                    go_wp2_with fail
                    go_ret2
                    have hN0 : p.N0 ≤ w10.heap.size := by have := HBx.out; have := HBs.out.2.2.2; omega
                    refine ⟨HBW.out.trans ?_, .inr ⟨w10.heap.size, i, jj, 1, c10, by rw [HZG.out]; rfl, hN0, HBest.out, ?_, HC10.out, HQ10.out⟩⟩
                    · have h1 : Below w10.heap.size w10 (w10.alloc (.cells #[.int .i64 (i : Int), .int .i64 (jj : Int)] 36)) := (Below.refl _ _).alloc (Nat.le_refl _) _
                      exact h1.mono hN0
                    · rw [HC0.out]
                      exact own_span (l := [((i : Int), (jj : Int))]) (own_one w10 _ _)
                  · obtain ⟨o, capv, hgv, ho1, ho2⟩ := HLy.out.own.form (by omega)
                    subst hgv
                    have HOut : Hid (OutAt w10 o c10) := fun q x y hq => by
                      obtain ⟨o', e', a1, a2, a3, a4⟩ := HG10.out.cs q (x, y) hq
                      have : o = o' := by simpa [Value.ownBlock] using e'
                      subst this
                      exact ⟨a1, a2, a3, a4⟩
                    have hol : o < w10.heap.size := by omega
                    have HNW : Hid (∀ j u, (flat c10)[j]? = some u → (w10.alloc (.cells #[.int .i64 (i : Int), .int .i64 (jj : Int)] 36)).cell? ((⟨o, 0, none⟩ : Addr).add j) = some u) := fun j u hu => by
                      have hadd : (⟨o, 0, none⟩ : Addr).add j = ⟨o, j, none⟩ := by unfold Addr.add; split <;> simp_all
                      rw [hadd, World.cell?_alloc_lt _ _ _ (by exact hol)]
                      exact flat_cells HOut.out j u hu
                    go_wp2_with (at_builtin; refine wpList_append_lies _ rfl _ _ 26 rfl w10.heap.size 36 i0 _ 2 16 Try.underlying26 hi0 hz0 hz1 hz2 rfl (by omega) (.slice (some ⟨w10.heap.size, 0, none⟩) 1 1) 1 [.int .i64 (i : Int), .int .i64 (jj : Int)] rfl (own_one w10 _ _) ⟨o, 0, none⟩ p.groups capv (flat c10) rfl (by rw [flat_length, HC10.out]) HNW.out (flat_one _) (by omega) (by unfold maxLen; omega) (by omega) (by simp) (w10.heap.size + 1) (by simp) ?_; intro gg cap w11 hown11 hgrow hat hlt11; have HOW : Hid (w11.ownsRow w10.heap.size 36 2 (.slice (some ⟨gg, 0, none⟩) (1 + p.groups) cap) (1 + p.groups) ([.int .i64 (i : Int), .int .i64 (jj : Int)] ++ flat c10)) := hown11; have HGW : Hid ((w10.alloc (.cells #[.int .i64 (i : Int), .int .i64 (jj : Int)] 36)).grownBy w11 (some w10.heap.size)) := hgrow; clear hown11 hgrow hat hlt11)
                    go_ret2
                    have hN0 : p.N0 ≤ w10.heap.size := by have := HBx.out; have := HBs.out.2.2.2; omega
                    refine ⟨HBW.out.trans ?_, .inr ⟨gg, i, jj, cap, c10, by first | rfl | (rw [Nat.add_comm 1 p.groups]; rfl), by have := (HOW.out.lt gg rfl).1; omega, HBest.out, ?_, HC10.out, HQ10.out⟩⟩
                    · have h1 : Below w10.heap.size w10 (w10.alloc (.cells #[.int .i64 (i : Int), .int .i64 (jj : Int)] 36)) := (Below.refl _ _).alloc (Nat.le_refl _) _
                      have h2 : Below w10.heap.size (w10.alloc (.cells #[.int .i64 (i : Int), .int .i64 (jj : Int)] 36)) w11 := ⟨HGW.out.os, HGW.out.tape, HGW.out.output, HGW.out.size, fun q hq => HGW.out.block q (by simp; omega) (fun e => by have : q = w10.heap.size := (by simpa using e); omega)⟩
                      exact (h1.trans h2).mono hN0
                    · exact own_span (l := ((i : Int), (jj : Int)) :: c10) HOW.out
            · have HMM : Hid (¬ Mat p.s p.nodes p.root i jj) := fun h => by rw [(HS5.out jj (by omega)).2 h] at hfj; cases hfj
              rw [hfj] at ce
              clear hfj
              go_wp2_with fail
              go_roundw
              case rel => exact ⟨jj, rfl, by omega, by omega, HFx.out, HEx.out, fun j' h1 h2 => by
                by_cases e : j' = jj
                · subst e; exact HMM.out
                · exact HNj.out j' (by omega) h2⟩
              case measure => first | (simp [intOf]; done) | (simp [intOf]; omega)
          · have HN3 : Hid (∀ i' j', i' < i + 1 → ¬ Mat p.s p.nodes p.root i' j') := fun i' j' h hm => by
              by_cases e : i' = i
              · subst e
                have := HS.out i' j' hil hm
                exact HNj.out j' (by omega) (by omega) hm
              · exact HNo.out i' j' (by omega) hm
            have hji : ¬ (i : Int) ≤ (j : Int) - 1 := by omega
            clear hFx hEx
            go_wp2_with fail
            go_roundw
            case rel => exact ⟨i + 1, by go_num, by omega, HFx.out, HN3.out⟩
            case measure => simp [intOf]; omega
    · have HN2 : Hid (∀ i j, i ≤ p.s.size → ¬ Mat p.s p.nodes p.root i j) := fun i' j' h => HNo.out i' j' (by omega)
      go_wp2_with fail
      go_ret2
      exact ⟨HF.out.fm.below hNk hNe (by omega), .inl ⟨rfl, HN2.out⟩⟩
end Dg
end Go.Proofs.Ytppjlpihaocdiaa
