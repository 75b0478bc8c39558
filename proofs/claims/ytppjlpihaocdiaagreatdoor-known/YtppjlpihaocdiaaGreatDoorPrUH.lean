/- Several texts in one. -/
import Derived.Test.YtppjlpihaocdiaaGreatDoorPrIH
import Derived.Test.YtppjlpihaocdiaaGreatDoorPrSH
import Derived.Test.YtppjlpihaocdiaaGreatDoorRefRowLawsH
/- A part of the proof. -/
set_option linter.unusedSimpArgs false
set_option linter.unusedVariables false
namespace Go.Proofs.YtppjlpihaocdiaaGreatDoor
namespace Rs
open Go.RowKit
theorem Row.splice {w : World} {b : Nat} {cs : List Value} (h : Row w b cs) (o : Nat) (vs : List Value) (hl : o + vs.length ≤ cs.length) : Row (w.setCells b o vs) b (cs.take o ++ vs ++ cs.drop (o + vs.length)) := by
  have ht : w.there b o vs.length := fun j hj => by
    have := h.free (o + j) (by omega)
    simpa using this
  have hlen : (cs.take o ++ vs ++ cs.drop (o + vs.length)).length = cs.length := by simp; omega
  refine ⟨fun j v hv => ?_, by rw [hlen]; exact World.there_setCells h.free b o _⟩
  rw [Nat.zero_add]
  by_cases h0 : j < o
  · rw [World.cell?_setCells_out b _ _ _ _ (fun _ _ => .inl h0)]
    apply h.cell
    rw [List.append_assoc, List.getElem?_append_left (by simp; omega), List.getElem?_take, if_pos h0] at hv
    exact hv
  · by_cases h1 : j < o + vs.length
    · have hin := World.rangeAt_setCells_same w b o vs ht (j - o) v (by
        rw [List.append_assoc, List.getElem?_append_right (by simp; omega), List.getElem?_append_left (by simp; omega)] at hv
        rw [List.length_take, Nat.min_eq_left (by omega)] at hv
        exact hv)
      rw [show o + (j - o) = j by omega] at hin
      exact hin
    · rw [World.cell?_setCells_out b _ _ _ _ (fun _ _ => .inr (by show o + vs.length ≤ j; omega))]
      apply h.cell
      rw [List.getElem?_append_right (by simp; omega), List.getElem?_drop] at hv
      simp only [List.length_append, List.length_take] at hv
      rw [Nat.min_eq_left (by omega), show o + vs.length + (j - (o + vs.length)) = j by omega] at hv
      exact hv
section
variable {P : Program} {ops : Array Oper} {rest : List Oper} {op : Oper} {a : Act} {w : World} {Q : Exit → Act → World → Prop}
theorem wpList_store_part (hgd : op.guard = none) (ty : TypeId) (x y : Operand) (ho : op.op = .store ty x y) (b o : Nat) (hx : a.eval x = .pointer (some ⟨b, o, none⟩)) (vs : List Value) (hy : a.eval y = .agg vs.toArray) (cs cs' : List Value)
    (hc : Row w b cs) (hl : o + vs.length ≤ cs.length) (he : cs.take o ++ vs ++ cs.drop (o + vs.length) = cs') (hi : (P.info? ty).map (·.size) = some vs.length) (h1 : ∀ v ∈ vs, v.oneCell' = true)
    (h : ∀ w', Row w' b cs' → Sole b w w' → wpList P ops Q rest (a.put op.dst undef) w') : wpList P ops Q (op :: rest) a w := by
  have ht : w.there b o vs.toArray.size := fun j hj => by
    have := hc.free (o + j) (by simp at hj; omega)
    simpa using this
  refine wpList_store_mid hgd ty x y ho b o vs.toArray hx hy ht (by simpa using hi) (all_oneCell_toArray h1) ?_
  have := h (w.setCells b o vs) (he ▸ Row.splice hc o vs hl) (Sole.setCells b _ o w)
  simpa using this
theorem bodyPost_row2 {fn : Func} {R : Ending → World → Prop} (p q : Tmp) (ty : TypeId) (hres : fn.results = #[.cell p ty, .tmp q]) (hd : a.defers = []) (b : Nat) (hp : a.tmps.getD p undef = .pointer (some ⟨b, 0, none⟩)) (cs : List Value) (d : TypeDesc) (v : Value) (hv : a.tmps.getD q undef = v)
    (hc : Row w b cs) (hu : P.underlying ty = some d) (hdd : d.isRow = true) (hi : (P.info? ty).map (·.size) = some cs.length) (hR : R (.returned (.tuple #[.agg cs.toArray, v])) w) : bodyPost P fn R .ret a w := by
  refine bodyPost_ret (v := .tuple #[.agg cs.toArray, v]) ?_ hd hR
  have hl := run_loadVar_mid (P := P) w b 0 ty cs d hc.lies hu hdd hi
  simp only [results, hres]
  have hp' : a.tmps[p]?.getD undef = .pointer (some ⟨b, 0, none⟩) := by simpa using hp
  have hv' : a.tmps[q]?.getD undef = v := by simpa using hv
  simp [Sem.run_bind, Result.andThen, hp', hv', asAddr, hl]
end
theorem Mw.sole {b B : Nat} {u w w' : World} (h : Mw b u w) (hs : Sole B w w') (hB : u.heap.size ≤ B) (hb : b < u.heap.size) : Mw b u w' := by
  have hx := hs.block b (by omega)
  exact ⟨hs.os.trans h.os, hs.tape.trans h.tape, hs.output.trans h.output, by rw [hs.size]; exact h.size, fun k hk hne => (hs.block k (by omega)).trans (h.block k hk hne), fun k h1 h2 => (World.cell?_of_block (w := w) (w' := w') (a := ⟨b, k, none⟩) hx).trans (h.cell k h1 h2), fun k => (World.frozen?_of_block (w := w) (w' := w') (a := ⟨b, k, none⟩) hx).trans (h.frz k)⟩
theorem Cu.sole {w w' : World} {b B : Nat} {s : ByteArray} {i : Nat} {lg : Int} (h : Cu w b s i lg) (hs : Sole B w w') (hB : b ≠ B) : Cu w' b s i lg := by
  obtain ⟨⟨r0, r1, rf, rle, r40⟩, c5, f5⟩ := h
  have hx := hs.block b hB
  have hc : ∀ k, w'.cell? ⟨b, k, none⟩ = w.cell? ⟨b, k, none⟩ := fun k => World.cell?_of_block (w := w) (w' := w') (a := ⟨b, k, none⟩) hx
  have hf : ∀ k, w'.frozen? ⟨b, k, none⟩ = w.frozen? ⟨b, k, none⟩ := fun k => World.frozen?_of_block (w := w) (w' := w') (a := ⟨b, k, none⟩) hx
  exact ⟨⟨(hc 0).trans r0, (hc 1).trans r1, (hf 1).trans rf, rle, r40⟩, (hc 5).trans c5, (hf 5).trans f5⟩
theorem Keep.sole {lo hi B : Nat} {u w w' : World} (h : Keep lo hi u w) (hs : Sole B w w') (hB : B ≤ lo ∨ hi ≤ B) : Keep lo hi u w' :=
  ⟨fun k h1 h2 => (hs.block k (by omega)).trans (h.same k h1 h2), by rw [hs.size]; exact h.size⟩
theorem Keep.mw {lo hi b : Nat} {u w w' : World} (h : Keep lo hi u w) (hm : Mw b w w') (hb : b ≤ lo) : Keep lo hi u w' :=
  ⟨fun k h1 h2 => (hm.block k (Nat.lt_of_lt_of_le h2 h.size) (by omega)).trans (h.same k h1 h2), Nat.le_trans h.size hm.size⟩
def adC (f g : Wh) : Cm := { cm0 with fst := f, snd := g }
def adP (ao1 : Option Addr) (l1 c1 : Nat) (r1 g1 : Int) (ao2 : Option Addr) (l2 c2 : Nat) (r2 g2 : Int) : Pts := ⟨ao1, l1, c1, r1, g1, ao2, l2, c2, r2, g2, none, 0, 0, 0, 0, .slice none 0 0⟩
theorem Tryz.zero200 : (Tryz.prog.info? 200).map (fun i => (i.zero, i.size)) = some (some (.agg (cmL cm0 pts0).toArray), (cmL cm0 pts0).length) := by kernel_rfl
theorem Tryz.size200 (x : Cm) (q : Pts) : (Tryz.prog.info? 200).map (·.size) = some (cmL x q).length := by rw [cmL_length]; kernel_rfl
theorem Tryz.size195 : (Tryz.prog.info? 195).map (·.size) = some 5 := by kernel_rfl
theorem cmL_one (x : Cm) (q : Pts) (h : q.tv.oneCell' = true) : ∀ v ∈ cmL x q, v.oneCell' = true := by
  intro v hv
  simp only [cmL, List.mem_cons, List.not_mem_nil, or_false] at hv
  rcases hv with rfl | rfl | rfl | rfl | rfl | rfl | rfl | rfl | rfl | rfl | rfl | rfl | rfl | rfl | rfl | rfl | rfl | rfl | rfl | rfl | rfl | rfl | rfl <;> first | rfl | exact h
set_option maxRecDepth 100000 in
set_option maxHeartbeats 4000000 in
theorem address_any (b : Nat) (s : ByteArray) (i : Nat) (lg : Int) (w : World) (hc : Cu w b s i lg) :
    Calls Tryz.prog 162 #[.pointer (some ⟨b, 0, none⟩)] w fun e w' => ∃ (a1 : Option Addr) (l1 c1 : Nat) (r1 g1 : Int) (a2 : Option Addr) (l2 c2 : Nat) (r2 g2 : Int),
      e = .returned (.tuple #[.agg (cmL (adC (addrF s i lg).2.1 (addrF s i lg).2.2.1) (adP a1 l1 c1 r1 g1 a2 l2 c2 r2 g2)).toArray, .bool (addrF s i lg).2.2.2.2]) ∧ Mw b w w' ∧ Cu w' b s (addrF s i lg).1 (addrF s i lg).2.2.2.1 ∧
      ((addrF s i lg).2.2.2.2 = true → WhAt w' w.heap.size w'.heap.size (addrF s i lg).2.1 a1 l1 c1 r1 g1 ∧ WhAt w' w.heap.size w'.heap.size (addrF s i lg).2.2.1 a2 l2 c2 r2 g2) := by
  have HC : Hid (Cu w b s i lg) := hc
  have hb := hc.lt
  have hle := hc.rc.le
  have h400 := hc.rc.s40
  clear hc
  rcases bool_or (nxt s starters i) with hn | hn
  · have HN : Hid (nxt s starters i = true) := hn
    have HF : Hid (addrF s i lg = if (whereF s i lg).2.2.2 = true then (if pk s (whereF s i lg).1 = 44 then (if (whereF s ((whereF s i lg).1 + 1) (whereF s i lg).2.2.1).2.2.2 = true then (skip s blank (whereF s ((whereF s i lg).1 + 1) (whereF s i lg).2.2.1).1, (whereF s i lg).2.1, (whereF s ((whereF s i lg).1 + 1) (whereF s i lg).2.2.1).2.1, (whereF s ((whereF s i lg).1 + 1) (whereF s i lg).2.2.1).2.2.1, true) else ((whereF s ((whereF s i lg).1 + 1) (whereF s i lg).2.2.1).1, (whereF s i lg).2.1, (whereF s ((whereF s i lg).1 + 1) (whereF s i lg).2.2.1).2.1, (whereF s ((whereF s i lg).1 + 1) (whereF s i lg).2.2.1).2.2.1, false)) else (skip s blank (whereF s i lg).1, (whereF s i lg).2.1, wh0, (whereF s i lg).2.2.1, true)) else ((whereF s i lg).1, (whereF s i lg).2.1, wh0, (whereF s i lg).2.2.1, false)) := by rw [Hid, addrF, if_pos hn]
    clear hn
    generalize hA : addrF s i lg = A at HF
    clear hA
    have hwl := whereF_le s i lg hle
    generalize hG : whereF s i lg = G at HF hwl
    have HG : Hid (whereF s i lg = G) := hG
    clear hG
    obtain ⟨j1, x1, lg1, ok⟩ := G
    simp only at HF hwl
    go_enter Tryz.func162, Tryz.ntmps162
    go_wp2_with (first
      | (refine wpList_alloc_row 2 rfl rfl 200 rfl _ Tryz.zero200 ?_; intro w1 h1 hR1 hB1; have HR1 : Hid (Row w1 w.heap.size (cmL cm0 pts0)) := hR1; have HB1 : Hid (Below w.heap.size w w1) := hB1; clear hR1 hB1)
      | (go_at_call 161; refine (nextIsIn_any b s starters i _ (HC.out.below HB1.out).rc).mono ?_; rw [HN.out]; rintro e w2 ⟨rfl, n2, rfl⟩))
    refine (where_any b s i lg _ ((HC.out.below HB1.out).drewN n2)).mono ?_
    rw [HG.out]
    rintro e w3 ⟨a1, l1, c1, r1, g1, rfl, hm3, hc3, hw3⟩
    have HM3 : Hid (Mw b w w3) := ((Mw.below HB1.out hb).drewN n2).trans hm3
    have HC3 : Hid (Cu w3 b s j1 lg1) := hc3
    have hz1 : w.heap.size < w1.heap.size := by omega
    have HR3 : Hid (Row w3 w.heap.size (cmL cm0 pts0)) := HR1.out.of_block ((hm3.block w.heap.size hz1 (by omega)).trans rfl)
    have HW3 : Hid (ok = true → WhAt w3 w1.heap.size w3.heap.size x1 a1 l1 c1 r1 g1) := hw3
    have hz3 : w.heap.size < w3.heap.size := Nat.lt_of_lt_of_le hz1 hm3.size
    have hz13 : w1.heap.size ≤ w3.heap.size := hm3.size
    clear hm3 hc3 hw3 HR1 HB1
    simp only
    cases ok with
    | false =>
      have HF2 : Hid (A = (j1, x1, wh0, lg1, false)) := by rw [Hid, HF.out]; rfl
      clear HF
      go_wp2_with (first
        | (refine wpList_store_part rfl 195 (.tmp 15) (.tmp 13) rfl w.heap.size 1 rfl [.int .i64 (x1.sort : Int), .int .i64 (x1.num : Int), .slice a1 l1 c1, .int .i64 r1, .int .i64 g1] rfl (cmL cm0 pts0) (cmL (adC x1 wh0) (adP a1 l1 c1 r1 g1 none 0 0 0 0)) HR3.out (by show 1 + 5 ≤ 23; omega) rfl Tryz.size195 (by intro v hv; simp only [List.mem_cons, List.not_mem_nil, or_false] at hv; rcases hv with rfl | rfl | rfl | rfl | rfl <;> rfl) ?_; intro w5 hR5 hS5; have HR5 : Hid (Row w5 w.heap.size (cmL (adC x1 wh0) (adP a1 l1 c1 r1 g1 none 0 0 0 0))) := hR5; have HS5 : Hid (Sole w.heap.size w3 w5) := hS5; clear hR5 hS5)
        | (first
      | (refine wpList_load_row 18 rfl rfl 200 (.tmp 2) rfl _ rfl _ _ (HR5.out) Tryz.underlying200 rfl (Tryz.size200 _ _) ?_)
      | (refine wpList_store_row rfl 200 (.tmp 2) (.tmp 18) rfl _ rfl _ rfl _ (HR5.out) rfl (Tryz.size200 _ _) (cmL_one _ _ rfl) ?_; intro w6 hR4 hS4; have HRL : Hid (Row w6 w.heap.size (cmL (adC x1 wh0) (adP a1 l1 c1 r1 g1 none 0 0 0 0))) := hR4; have HSL : Hid (Sole w.heap.size _ w6) := hS4; clear hR4 hS4)))
      rw [HF2.out]
      exact bodyPost_row2 2 3 200 rfl rfl w.heap.size rfl _ _ _ rfl HRL.out Tryz.underlying200 rfl (Tryz.size200 _ _) ⟨a1, l1, c1, r1, g1, none, 0, 0, 0, 0, rfl, (HM3.out.sole HS5.out (Nat.le_refl _) hb).sole HSL.out (Nat.le_refl _) hb, (HC3.out.sole HS5.out (by omega)).sole HSL.out (by omega), fun h => (by cases h)⟩
    | true =>
      have HW3' : Hid (WhAt w3 w1.heap.size w3.heap.size x1 a1 l1 c1 r1 g1) := HW3.out rfl
      by_cases h44 : pk s j1 = ((44 : Nat) : Int)
      · have HI : Hid (pk s j1 = ((44 : Nat) : Int)) := h44
        obtain ⟨hlt, _⟩ := pk_byte (s := s) (i := j1) (by rw [h44]; decide)
        have HF1 : Hid (A = if (whereF s (j1 + 1) lg1).2.2.2 = true then (skip s blank (whereF s (j1 + 1) lg1).1, x1, (whereF s (j1 + 1) lg1).2.1, (whereF s (j1 + 1) lg1).2.2.1, true) else ((whereF s (j1 + 1) lg1).1, x1, (whereF s (j1 + 1) lg1).2.1, (whereF s (j1 + 1) lg1).2.2.1, false)) := by
          rw [Hid, HF.out, if_pos rfl, if_pos (by rw [h44]; rfl)]
        have hwl2 := whereF_le s (j1 + 1) lg1 (by omega)
        generalize hG2 : whereF s (j1 + 1) lg1 = G2 at HF1 hwl2
        have HG2 : Hid (whereF s (j1 + 1) lg1 = G2) := hG2
        clear hG2 h44 HF
        obtain ⟨j2, x2, lg2, ok2⟩ := G2
        simp only at HF1 hwl2
        go_wp2_with (first
          | (refine wpList_store_part rfl 195 (.tmp 15) (.tmp 13) rfl w.heap.size 1 rfl [.int .i64 (x1.sort : Int), .int .i64 (x1.num : Int), .slice a1 l1 c1, .int .i64 r1, .int .i64 g1] rfl (cmL cm0 pts0) (cmL (adC x1 wh0) (adP a1 l1 c1 r1 g1 none 0 0 0 0)) HR3.out (by show 1 + 5 ≤ 23; omega) rfl Tryz.size195 (by intro v hv; simp only [List.mem_cons, List.not_mem_nil, or_false] at hv; rcases hv with rfl | rfl | rfl | rfl | rfl <;> rfl) ?_; intro w5 hR5 hS5; have HR5 : Hid (Row w5 w.heap.size (cmL (adC x1 wh0) (adP a1 l1 c1 r1 g1 none 0 0 0 0))) := hR5; have HS5 : Hid (Sole w.heap.size w3 w5) := hS5; clear hR5 hS5))
        have HM5 : Hid (Mw b w w5) := HM3.out.sole HS5.out (Nat.le_refl _) hb
        have HC5 : Hid (Cu w5 b s j1 lg1) := HC3.out.sole HS5.out (by omega)
        have hz5 : w5.heap.size = w3.heap.size := HS5.out.size
        refine (acceptY b s j1 44 _ HC5.out.rc (by omega) HI.out).mono ?_
        rintro e w6 ⟨rfl, hm6⟩
        have HM6 : Hid (Mw b w w6) := HM5.out.trans (.mv hm6)
        have HC6 : Hid (Cu w6 b s (j1 + 1) lg1) := HC5.out.mv hm6 (by omega)
        have HR6 : Hid (Row w6 w.heap.size (cmL (adC x1 wh0) (adP a1 l1 c1 r1 g1 none 0 0 0 0))) := HR5.out.of_block (hm6.only.block _ (by omega))
        have HK6 : Hid (Keep w1.heap.size w3.heap.size w3 w6) := ((Keep.refl (Nat.le_refl _)).sole HS5.out (by omega)).mw (.mv hm6) (by omega)
        have hz6 : w6.heap.size = w3.heap.size := hm6.only.size.trans hz5
        clear hm6
        go_wp2_with fail
        refine (where_any b s (j1 + 1) lg1 _ HC6.out).mono ?_
        rw [HG2.out]
        rintro e w7 ⟨a2, l2, c2, r2, g2, rfl, hm7, hc7, hw7⟩
        have HM7 : Hid (Mw b w w7) := HM6.out.trans hm7
        have HC7 : Hid (Cu w7 b s j2 lg2) := hc7
        have HR7 : Hid (Row w7 w.heap.size (cmL (adC x1 wh0) (adP a1 l1 c1 r1 g1 none 0 0 0 0))) := HR6.out.of_block (hm7.block w.heap.size (by omega) (by omega))
        have HK7 : Hid (Keep w1.heap.size w3.heap.size w3 w7) := HK6.out.mw hm7 (by omega)
        have HW7 : Hid (ok2 = true → WhAt w7 w6.heap.size w7.heap.size x2 a2 l2 c2 r2 g2) := hw7
        have hz7 : w6.heap.size ≤ w7.heap.size := hm7.size
        clear hm7 hc7 hw7
        simp only
        cases ok2 with
        | false =>
          have HF2 : Hid (A = (j2, x1, x2, lg2, false)) := by rw [Hid, HF1.out]; rfl
          go_wp2_with (first
            | (refine wpList_store_part rfl 195 (.tmp 28) (.tmp 26) rfl w.heap.size 6 rfl [.int .i64 (x2.sort : Int), .int .i64 (x2.num : Int), .slice a2 l2 c2, .int .i64 r2, .int .i64 g2] rfl (cmL (adC x1 wh0) (adP a1 l1 c1 r1 g1 none 0 0 0 0)) (cmL (adC x1 x2) (adP a1 l1 c1 r1 g1 a2 l2 c2 r2 g2)) HR7.out (by show 6 + 5 ≤ 23; omega) rfl Tryz.size195 (by intro v hv; simp only [List.mem_cons, List.not_mem_nil, or_false] at hv; rcases hv with rfl | rfl | rfl | rfl | rfl <;> rfl) ?_; intro w8 hR8 hS8; have HR8 : Hid (Row w8 w.heap.size (cmL (adC x1 x2) (adP a1 l1 c1 r1 g1 a2 l2 c2 r2 g2))) := hR8; have HS8 : Hid (Sole w.heap.size w7 w8) := hS8; clear hR8 hS8)
            | (first
      | (refine wpList_load_row 31 rfl rfl 200 (.tmp 2) rfl _ rfl _ _ (HR8.out) Tryz.underlying200 rfl (Tryz.size200 _ _) ?_)
      | (refine wpList_store_row rfl 200 (.tmp 2) (.tmp 31) rfl _ rfl _ rfl _ (HR8.out) rfl (Tryz.size200 _ _) (cmL_one _ _ rfl) ?_; intro w9 hR4 hS4; have HRL : Hid (Row w9 w.heap.size (cmL (adC x1 x2) (adP a1 l1 c1 r1 g1 a2 l2 c2 r2 g2))) := hR4; have HSL : Hid (Sole w.heap.size _ w9) := hS4; clear hR4 hS4)))
          rw [HF2.out]
          exact bodyPost_row2 2 3 200 rfl rfl w.heap.size rfl _ _ _ rfl HRL.out Tryz.underlying200 rfl (Tryz.size200 _ _) ⟨a1, l1, c1, r1, g1, a2, l2, c2, r2, g2, rfl, (HM7.out.sole HS8.out (Nat.le_refl _) hb).sole HSL.out (Nat.le_refl _) hb, (HC7.out.sole HS8.out (by omega)).sole HSL.out (by omega), fun h => (by cases h)⟩
        | true =>
          have HF2 : Hid (A = (skip s blank j2, x1, x2, lg2, true)) := by rw [Hid, HF1.out]; rfl
          have HW7' : Hid (WhAt w7 w6.heap.size w7.heap.size x2 a2 l2 c2 r2 g2) := HW7.out rfl
          go_wp2_with (first
            | (refine wpList_store_part rfl 195 (.tmp 28) (.tmp 26) rfl w.heap.size 6 rfl [.int .i64 (x2.sort : Int), .int .i64 (x2.num : Int), .slice a2 l2 c2, .int .i64 r2, .int .i64 g2] rfl (cmL (adC x1 wh0) (adP a1 l1 c1 r1 g1 none 0 0 0 0)) (cmL (adC x1 x2) (adP a1 l1 c1 r1 g1 a2 l2 c2 r2 g2)) HR7.out (by show 6 + 5 ≤ 23; omega) rfl Tryz.size195 (by intro v hv; simp only [List.mem_cons, List.not_mem_nil, or_false] at hv; rcases hv with rfl | rfl | rfl | rfl | rfl <;> rfl) ?_; intro w8 hR8 hS8; have HR8 : Hid (Row w8 w.heap.size (cmL (adC x1 x2) (adP a1 l1 c1 r1 g1 a2 l2 c2 r2 g2))) := hR8; have HS8 : Hid (Sole w.heap.size w7 w8) := hS8; clear hR8 hS8))
          have HC8 : Hid (Cu w8 b s j2 lg2) := HC7.out.sole HS8.out (by omega)
          refine (skip_any b s blank j2 _ HC8.out.rc).mono ?_
          rintro e w9 ⟨rfl, hm9⟩
          have HM9 : Hid (Mw b w w9) := (HM7.out.sole HS8.out (Nat.le_refl _) hb).trans (.mv hm9)
          have HC9 : Hid (Cu w9 b s (skip s blank j2) lg2) := HC8.out.mv hm9 (skip_le s blank j2 (by omega))
          have HR9 : Hid (Row w9 w.heap.size (cmL (adC x1 x2) (adP a1 l1 c1 r1 g1 a2 l2 c2 r2 g2))) := HR8.out.of_block (hm9.only.block _ (by omega))
          have HK9 : Hid (Keep w1.heap.size w3.heap.size w3 w9) := (HK7.out.sole HS8.out (by omega)).mw (.mv hm9) (by omega)
          have HL9 : Hid (Keep w6.heap.size w7.heap.size w7 w9) := ((Keep.refl (Nat.le_refl _)).sole HS8.out (by omega)).mw (.mv hm9) (by omega)
          clear hm9
          go_wp2_with (first
      | (refine wpList_load_row 36 rfl rfl 200 (.tmp 2) rfl _ rfl _ _ (HR9.out) Tryz.underlying200 rfl (Tryz.size200 _ _) ?_)
      | (refine wpList_store_row rfl 200 (.tmp 2) (.tmp 36) rfl _ rfl _ rfl _ (HR9.out) rfl (Tryz.size200 _ _) (cmL_one _ _ rfl) ?_; intro w10 hR4 hS4; have HRL : Hid (Row w10 w.heap.size (cmL (adC x1 x2) (adP a1 l1 c1 r1 g1 a2 l2 c2 r2 g2))) := hR4; have HSL : Hid (Sole w.heap.size _ w10) := hS4; clear hR4 hS4))
          rw [HF2.out]
          exact bodyPost_row2 2 3 200 rfl rfl w.heap.size rfl _ _ _ rfl HRL.out Tryz.underlying200 rfl (Tryz.size200 _ _) ⟨a1, l1, c1, r1, g1, a2, l2, c2, r2, g2, rfl, HM9.out.sole HSL.out (Nat.le_refl _) hb, HC9.out.sole HSL.out (by omega), fun _ => ⟨fun h => (HW3'.out h).keep (HK9.out.sole HSL.out (by omega)) (by omega), fun h => (HW7'.out h).keep (HL9.out.sole HSL.out (by omega)) (by omega)⟩⟩
      · have HI : Hid (pk s j1 ≠ ((44 : Nat) : Int)) := h44
        have HF2 : Hid (A = (skip s blank j1, x1, wh0, lg1, true)) := by rw [Hid, HF.out, if_pos rfl, if_neg (fun e => h44 (by rw [e]; rfl))]
        clear h44 HF
        go_wp2_with (first
          | (refine wpList_store_part rfl 195 (.tmp 15) (.tmp 13) rfl w.heap.size 1 rfl [.int .i64 (x1.sort : Int), .int .i64 (x1.num : Int), .slice a1 l1 c1, .int .i64 r1, .int .i64 g1] rfl (cmL cm0 pts0) (cmL (adC x1 wh0) (adP a1 l1 c1 r1 g1 none 0 0 0 0)) HR3.out (by show 1 + 5 ≤ 23; omega) rfl Tryz.size195 (by intro v hv; simp only [List.mem_cons, List.not_mem_nil, or_false] at hv; rcases hv with rfl | rfl | rfl | rfl | rfl <;> rfl) ?_; intro w5 hR5 hS5; have HR5 : Hid (Row w5 w.heap.size (cmL (adC x1 wh0) (adP a1 l1 c1 r1 g1 none 0 0 0 0))) := hR5; have HS5 : Hid (Sole w.heap.size w3 w5) := hS5; clear hR5 hS5))
        have HM5 : Hid (Mw b w w5) := HM3.out.sole HS5.out (Nat.le_refl _) hb
        have HC5 : Hid (Cu w5 b s j1 lg1) := HC3.out.sole HS5.out (by omega)
        refine (acceptN b s j1 44 _ HC5.out.rc (by omega) HI.out).mono ?_
        rintro e w6 ⟨rfl, hm6⟩
        have HM6 : Hid (Mw b w w6) := HM5.out.trans (.mv hm6)
        have HC6 : Hid (Cu w6 b s j1 lg1) := HC5.out.mv hm6 (by omega)
        have HR6 : Hid (Row w6 w.heap.size (cmL (adC x1 wh0) (adP a1 l1 c1 r1 g1 none 0 0 0 0))) := HR5.out.of_block (hm6.only.block _ (by omega))
        have HK6 : Hid (Keep w1.heap.size w3.heap.size w3 w6) := ((Keep.refl (Nat.le_refl _)).sole HS5.out (by omega)).mw (.mv hm6) (by omega)
        clear hm6
        go_wp2_with fail
        refine (skip_any b s blank j1 _ HC6.out.rc).mono ?_
        rintro e w9 ⟨rfl, hm9⟩
        have HM9 : Hid (Mw b w w9) := HM6.out.trans (.mv hm9)
        have HC9 : Hid (Cu w9 b s (skip s blank j1) lg1) := HC6.out.mv hm9 (skip_le s blank j1 (by omega))
        have HR9 : Hid (Row w9 w.heap.size (cmL (adC x1 wh0) (adP a1 l1 c1 r1 g1 none 0 0 0 0))) := HR6.out.of_block (hm9.only.block _ (by omega))
        have HK9 : Hid (Keep w1.heap.size w3.heap.size w3 w9) := HK6.out.mw (.mv hm9) (by omega)
        clear hm9
        go_wp2_with (first
      | (refine wpList_load_row 36 rfl rfl 200 (.tmp 2) rfl _ rfl _ _ (HR9.out) Tryz.underlying200 rfl (Tryz.size200 _ _) ?_)
      | (refine wpList_store_row rfl 200 (.tmp 2) (.tmp 36) rfl _ rfl _ rfl _ (HR9.out) rfl (Tryz.size200 _ _) (cmL_one _ _ rfl) ?_; intro w10 hR4 hS4; have HRL : Hid (Row w10 w.heap.size (cmL (adC x1 wh0) (adP a1 l1 c1 r1 g1 none 0 0 0 0))) := hR4; have HSL : Hid (Sole w.heap.size _ w10) := hS4; clear hR4 hS4))
        rw [HF2.out]
        exact bodyPost_row2 2 3 200 rfl rfl w.heap.size rfl _ _ _ rfl HRL.out Tryz.underlying200 rfl (Tryz.size200 _ _) ⟨a1, l1, c1, r1, g1, none, 0, 0, 0, 0, rfl, HM9.out.sole HSL.out (Nat.le_refl _) hb, HC9.out.sole HSL.out (by omega), fun _ => ⟨fun h => (HW3'.out h).keep (HK9.out.sole HSL.out (by omega)) (by omega), fun h => absurd h (by show ¬ ((0 : Nat) = 3); decide)⟩⟩
  · have HN : Hid (nxt s starters i = false) := hn
    have HF : Hid (addrF s i lg = (i, wh0, wh0, lg, true)) := by rw [Hid, addrF, hn]; rfl
    clear hn
    rw [HF.out]
    go_enter Tryz.func162, Tryz.ntmps162
    go_wp2_with (first
      | (refine wpList_alloc_row 2 rfl rfl 200 rfl _ Tryz.zero200 ?_; intro w1 h1 hR1 hB1; have HR1 : Hid (Row w1 w.heap.size (cmL cm0 pts0)) := hR1; have HB1 : Hid (Below w.heap.size w w1) := hB1; clear hR1 hB1)
      | (go_at_call 161; refine (nextIsIn_any b s starters i _ (HC.out.below HB1.out).rc).mono ?_; rw [HN.out]; rintro e w2 ⟨rfl, n2, rfl⟩)
      | (refine wpList_load_row 9 rfl rfl 200 (.tmp 2) rfl _ rfl _ _ (HR1.out.of_block rfl) Tryz.underlying200 rfl (Tryz.size200 _ _) ?_)
      | (refine wpList_store_row rfl 200 (.tmp 2) (.tmp 9) rfl _ rfl _ rfl _ (HR1.out.of_block rfl) rfl (Tryz.size200 _ _) (cmL_one _ _ rfl) ?_; intro w4 hR4 hS4; have HR4 : Hid (Row w4 w.heap.size (cmL cm0 pts0)) := hR4; have HS4 : Hid (Sole w.heap.size (w1.drewN n2) w4) := hS4; clear hR4 hS4))
    exact bodyPost_row2 2 3 200 rfl rfl w.heap.size rfl _ _ _ rfl HR4.out Tryz.underlying200 rfl (Tryz.size200 _ _) ⟨none, 0, 0, 0, 0, none, 0, 0, 0, 0, rfl, ((Mw.below HB1.out hb).drewN n2).sole HS4.out (Nat.le_refl _) hb, ((HC.out.below HB1.out).drewN n2).sole HS4.out (by omega), fun _ => ⟨fun h => absurd h (by show ¬ ((0 : Nat) = 3); decide), fun h => absurd h (by show ¬ ((0 : Nat) = 3); decide)⟩⟩
end Rs
end Go.Proofs.YtppjlpihaocdiaaGreatDoor

/- A part of the proof. -/
set_option linter.unusedSimpArgs false
set_option linter.unusedVariables false
namespace Go.Proofs.YtppjlpihaocdiaaGreatDoor
namespace Rs
open Go.RowKit
def putL (ao : Option Addr) (l c : Nat) (r g : Int) (tv : Value) (num : Nat) (all prt : Bool) : List Value := [.slice ao l c, .int .i64 r, .int .i64 g, tv, .int .i64 (num : Int), .bool all, .bool prt]
theorem Tryz.zero198 : (Tryz.prog.info? 198).map (fun i => (i.zero, i.size)) = some (some (.agg (putL none 0 0 0 0 (.slice none 0 0) 0 false false).toArray), (putL none 0 0 0 0 (.slice none 0 0) 0 false false).length) := by kernel_rfl
theorem Tryz.size198 : (Tryz.prog.info? 198).map (·.size) = some 7 := by kernel_rfl
theorem Tryz.size88 : (Tryz.prog.info? 88).map (·.size) = some 3 := by kernel_rfl
theorem putL_one (ao : Option Addr) (l c : Nat) (r g : Int) (num : Nat) (all prt : Bool) {tv : Value} (h : tv.oneCell' = true) : ∀ v ∈ putL ao l c r g tv num all prt, v.oneCell' = true := by
  intro v hv
  simp only [putL, List.mem_cons, List.not_mem_nil, or_false] at hv
  rcases hv with rfl | rfl | rfl | rfl | rfl | rfl | rfl <;> first | rfl | exact h
theorem Row.flags {w w' : World} {b P j : Nat} {ao : Option Addr} {l c : Nat} {r g : Int} {tv : Value} {a p : Bool} {n : Nat} (h : Row w P (putL ao l c r g tv 0 false false)) (hf : Fl b P w w' j a p n) : Row w' P (putL ao l c r g tv n a p) := by
  have hc : ∀ k v, (putL ao l c r g tv n a p)[k]? = some v → w'.cell? ⟨P, k, none⟩ = some v := by
    intro k v hv
    have hk : k < 7 := (List.getElem?_eq_some_iff.1 hv).1
    by_cases h4 : k < 4
    · rw [hf.pc k h4]
      apply h.cell
      have h3 : k = 0 ∨ k = 1 ∨ k = 2 ∨ k = 3 := by omega
      rcases h3 with rfl | rfl | rfl | rfl <;> exact hv
    · have h3 : k = 4 ∨ k = 5 ∨ k = 6 := by omega
      rcases h3 with rfl | rfl | rfl
      · rw [hf.p4]; exact hv
      · rw [hf.p5]; exact hv
      · rw [hf.p6]; exact hv
  refine ⟨fun k v hv => by rw [Nat.zero_add]; exact hc k v hv, fun k hk => ?_⟩
  have hk7 : k < 7 := hk
  obtain ⟨v, hv⟩ : ∃ v, (putL ao l c r g tv n a p)[k]? = some v := ⟨_, List.getElem?_eq_getElem hk⟩
  rw [Nat.zero_add]
  exact ⟨by rw [hc k v hv]; rfl, by rw [hf.pf k]; exact h.frozen (by exact hk7)⟩
theorem Mw.fl {b P j n : Nat} {a p : Bool} {u w w' : World} (h : Mw b u w) (hf : Fl b P w w' j a p n) (hP : u.heap.size ≤ P) : Mw b u w' :=
  ⟨hf.os.trans h.os, hf.tape.trans h.tape, hf.output.trans h.output, by rw [hf.size]; exact h.size, fun k hk hb => (hf.block k hb (by omega)).trans (h.block k hk hb), fun k h1 h2 => (hf.cell k h1).trans (h.cell k h1 h2), fun k => (hf.frz k).trans (h.frz k)⟩
theorem Cu.fl {b P i j n : Nat} {a p : Bool} {w w' : World} {s : ByteArray} {lg : Int} (h : Cu w b s i lg) (hf : Fl b P w w' j a p n) (hj : j ≤ s.size) : Cu w' b s j lg :=
  ⟨hf.rc h.rc hj, (hf.cell 5 (by omega)).trans h.c5, (hf.frz 5).trans h.f5⟩
theorem Keep.fl {b P j n lo hi : Nat} {a p : Bool} {u w w' : World} (h : Keep lo hi u w) (hf : Fl b P w w' j a p n) (hb : b ≤ lo) (hP : P ≤ lo) : Keep lo hi u w' :=
  ⟨fun k h1 h2 => (hf.block k (by omega) (by omega)).trans (h.same k h1 h2), by rw [hf.size]; exact h.size⟩
def PutPost (b : Nat) (s : ByteArray) (w : World) (x : Cm) (r : Nat × Cm × Int × Bool) : Ending → World → Prop := fun e w' => ∃ (ao : Option Addr) (l c : Nat) (r3 g : Int) (tv : Value) (num : Nat) (all prt : Bool),
      e = .returned (.tuple #[.agg (putL ao l c r3 g tv num all prt).toArray, .bool r.2.2.2]) ∧ tv.oneCell' = true ∧ Mw b w w' ∧ Cu w' b s r.1 r.2.2.1 ∧
      (r.2.2.2 = true → ∃ pt tp, r.2.1 = { x with pat := pt, temp := tp, num := num, all := all, prt := prt } ∧ PatAt w' w.heap.size w'.heap.size pt (.slice ao l c) (.int .i64 r3) (.int .i64 g) ∧ TempIn w' w.heap.size w'.heap.size tp tv)
set_option maxRecDepth 100000 in
set_option maxHeartbeats 4000000 in
theorem put_any (b : Nat) (s : ByteArray) (i : Nat) (lg : Int) (x : Cm) (w : World) (hc : Cu w b s i lg) :
    Calls Tryz.prog 199 #[.pointer (some ⟨b, 0, none⟩)] w (PutPost b s w x (putF s i lg x)) := by
  have HC : Hid (Cu w b s i lg) := hc
  have hb := hc.lt
  have hle := hc.rc.le
  have h400 := hc.rc.s40
  clear hc
  by_cases h47 : pk s i = ((47 : Nat) : Int)
  · have HI : Hid (pk s i = ((47 : Nat) : Int)) := h47
    obtain ⟨hlt, _⟩ := pk_byte (s := s) (i := i) (by rw [h47]; decide)
    have HF : Hid (putF s i lg x = if (patF s (i + 1) lg).2.2.2 = true then (if (tempF s (grps (patF s (i + 1) lg).2.1) (patF s (i + 1) lg).1).2.2 = true then ((flagF s 4 (tempF s (grps (patF s (i + 1) lg).2.1) (patF s (i + 1) lg).1).1 false false 0).1, { x with pat := (patF s (i + 1) lg).2.1, temp := (tempF s (grps (patF s (i + 1) lg).2.1) (patF s (i + 1) lg).1).2.1, num := (flagF s 4 (tempF s (grps (patF s (i + 1) lg).2.1) (patF s (i + 1) lg).1).1 false false 0).2.2.2, all := (flagF s 4 (tempF s (grps (patF s (i + 1) lg).2.1) (patF s (i + 1) lg).1).1 false false 0).2.1, prt := (flagF s 4 (tempF s (grps (patF s (i + 1) lg).2.1) (patF s (i + 1) lg).1).1 false false 0).2.2.1 }, (patF s (i + 1) lg).2.2.1, true) else ((tempF s (grps (patF s (i + 1) lg).2.1) (patF s (i + 1) lg).1).1, x, (patF s (i + 1) lg).2.2.1, false)) else ((patF s (i + 1) lg).1, x, (patF s (i + 1) lg).2.2.1, false)) := by rw [Hid, putF, if_pos (by rw [h47]; rfl)]
    clear h47
    generalize hA : putF s i lg x = A at HF
    clear hA
    have hple := patF_le s (i + 1) lg (by omega)
    generalize hG : patF s (i + 1) lg = G at HF hple
    have HG : Hid (patF s (i + 1) lg = G) := hG
    clear hG
    obtain ⟨j1, pt, lg1, ok⟩ := G
    simp only at HF hple
    go_enter Tryz.func199, Tryz.ntmps199
    go_wp2_with (first
      | (refine wpList_alloc_row 2 rfl rfl 198 rfl _ Tryz.zero198 ?_; intro w1 h1 hR1 hB1; have HR1 : Hid (Row w1 w.heap.size (putL none 0 0 0 0 (.slice none 0 0) 0 false false)) := hR1; have HB1 : Hid (Below w.heap.size w w1) := hB1; clear hR1 hB1)
      | (go_at_call 100; refine (acceptY b s i 47 _ (HC.out.below HB1.out).rc (by omega) HI.out).mono ?_; rintro e w2 ⟨rfl, hm2⟩; have HM2 : Hid (Mw b w w2) := (Mw.below HB1.out hb).trans (.mv hm2); have HC2 : Hid (Cu w2 b s (i + 1) lg) := (HC.out.below HB1.out).mv hm2 (by omega); have HR2 : Hid (Row w2 w.heap.size (putL none 0 0 0 0 (.slice none 0 0) 0 false false)) := HR1.out.of_block (hm2.only.block _ (by omega)); have hz2 : w.heap.size < w2.heap.size := (by have := hm2.only.size; omega); clear hm2))
    refine (pattern_any b s (i + 1) lg _ HC2.out).mono ?_
    rw [HG.out]
    rintro e w3 ⟨ao, l, c, r, g, rfl, hm3, hc3, hp3⟩
    have HM3 : Hid (Mw b w w3) := HM2.out.trans hm3
    have HC3 : Hid (Cu w3 b s j1 lg1) := hc3
    have HR3 : Hid (Row w3 w.heap.size (putL none 0 0 0 0 (.slice none 0 0) 0 false false)) := HR2.out.of_block (hm3.block w.heap.size hz2 (by omega))
    have HP3 : Hid (ok = true → PatAt w3 w2.heap.size w3.heap.size pt (.slice ao l c) (.int .i64 r) (.int .i64 g)) := hp3
    have hz3 : w2.heap.size ≤ w3.heap.size := hm3.size
    clear hm3 hc3 hp3
    simp only
    cases ok with
    | false =>
      have HF2 : Hid (A = (j1, x, lg1, false)) := by rw [Hid, HF.out]; rfl
      go_wp2_with (first
        | (refine wpList_store_part rfl 88 (.tmp 15) (.tmp 13) rfl w.heap.size 0 rfl [.slice ao l c, .int .i64 r, .int .i64 g] rfl (putL none 0 0 0 0 (.slice none 0 0) 0 false false) (putL ao l c r g (.slice none 0 0) 0 false false) HR3.out (by show 0 + 3 ≤ 7; omega) rfl Tryz.size88 (by intro v hv; simp only [List.mem_cons, List.not_mem_nil, or_false] at hv; rcases hv with rfl | rfl | rfl <;> rfl) ?_; intro w5 hR5 hS5; have HR5 : Hid (Row w5 w.heap.size (putL ao l c r g (.slice none 0 0) 0 false false)) := hR5; have HS5 : Hid (Sole w.heap.size w3 w5) := hS5; clear hR5 hS5)
        | (first
      | (refine wpList_load_row 18 rfl rfl 198 (.tmp 2) rfl _ rfl _ _ (HR5.out) Tryz.underlying198 rfl Tryz.size198 ?_)
      | (refine wpList_store_row rfl 198 (.tmp 2) (.tmp 18) rfl _ rfl _ rfl _ (HR5.out) rfl Tryz.size198 (putL_one _ _ _ _ _ _ _ _ (by first | rfl | exact hone)) ?_; intro w6 hR4 hS4; have HRL : Hid (Row w6 w.heap.size (putL ao l c r g (.slice none 0 0) 0 false false)) := hR4; have HSL : Hid (Sole w.heap.size _ w6) := hS4; clear hR4 hS4)))
      rw [HF2.out]
      refine bodyPost_row2 2 3 198 rfl rfl w.heap.size rfl _ _ _ rfl HRL.out Tryz.underlying198 rfl Tryz.size198 (show PutPost _ _ _ _ _ _ _ by unfold PutPost; exact ⟨ao, l, c, r, g, _, 0, false, false, rfl, rfl, (HM3.out.sole HS5.out (Nat.le_refl _) hb).sole HSL.out (Nat.le_refl _) hb, (HC3.out.sole HS5.out (by omega)).sole HSL.out (by omega), fun h => (by cases h)⟩)
    | true =>
      have HP3' : Hid (PatAt w3 w2.heap.size w3.heap.size pt (.slice ao l c) (.int .i64 r) (.int .i64 g)) := HP3.out rfl
      obtain ⟨gr, hgr⟩ : ∃ gr, grps pt = gr := ⟨_, rfl⟩
      have hg9 : gr ≤ 9 := by rw [← hgr]; exact HP3'.out.2.1
      have HGI : Hid (g = (gr : Int)) := by
        have := HP3'.out.1
        rw [hgr] at this
        injection this
      have HF1 : Hid (A = if (tempF s gr j1).2.2 = true then ((flagF s 4 (tempF s gr j1).1 false false 0).1, { x with pat := pt, temp := (tempF s gr j1).2.1, num := (flagF s 4 (tempF s gr j1).1 false false 0).2.2.2, all := (flagF s 4 (tempF s gr j1).1 false false 0).2.1, prt := (flagF s 4 (tempF s gr j1).1 false false 0).2.2.1 }, lg1, true) else ((tempF s gr j1).1, x, lg1, false)) := by rw [Hid, HF.out, if_pos rfl, hgr]
      clear HF hgr
      generalize hG2 : tempF s gr j1 = G2 at HF1
      have HG2 : Hid (tempF s gr j1 = G2) := hG2
      clear hG2
      obtain ⟨j2, tp, ok2⟩ := G2
      simp only at HF1
      go_wp2_with (first
        | (refine wpList_store_part rfl 88 (.tmp 15) (.tmp 13) rfl w.heap.size 0 rfl [.slice ao l c, .int .i64 r, .int .i64 g] rfl (putL none 0 0 0 0 (.slice none 0 0) 0 false false) (putL ao l c r g (.slice none 0 0) 0 false false) HR3.out (by show 0 + 3 ≤ 7; omega) rfl Tryz.size88 (by intro v hv; simp only [List.mem_cons, List.not_mem_nil, or_false] at hv; rcases hv with rfl | rfl | rfl <;> rfl) ?_; intro w5 hR5 hS5; have m2 := hR5.cell (k := 2) rfl; have HR5 : Hid (Row w5 w.heap.size (putL ao l c r g (.slice none 0 0) 0 false false)) := hR5; have HS5 : Hid (Sole w.heap.size w3 w5) := hS5; clear hR5 hS5))
      have HM5 : Hid (Mw b w w5) := HM3.out.sole HS5.out (Nat.le_refl _) hb
      have HC5 : Hid (Cu w5 b s j1 lg1) := HC3.out.sole HS5.out (by omega)
      have hz5 : w5.heap.size = w3.heap.size := HS5.out.size
      have HK5 : Hid (Keep w2.heap.size w3.heap.size w3 w5) := (Keep.refl (Nat.le_refl _)).sole HS5.out (by omega)
      rw [HGI.out]
      refine (template_any b s gr j1 _ HC5.out.rc hg9).mono ?_
      rw [HG2.out]
      rintro e w6 ⟨pa, pl, pc, rfl, hm6, hj2, ht6⟩
      have hone : (Value.slice pa pl pc).oneCell' = true := rfl
      have HM6 : Hid (Mw b w w6) := HM5.out.trans (Mw.ofMk hm6)
      have HC6 : Hid (Cu w6 b s j2 lg1) := HC5.out.ofMk hm6 hj2
      have HR6 : Hid (Row w6 w.heap.size (putL ao l c r g (.slice none 0 0) 0 false false)) := HR5.out.of_block (hm6.block w.heap.size (by omega) (by omega))
      have HK6 : Hid (Keep w2.heap.size w3.heap.size w3 w6) := HK5.out.mw (Mw.ofMk hm6) (by omega)
      have HT6 : Hid (ok2 = true → TempAt w6 w5.heap.size w6.heap.size tp (.slice pa pl pc)) := ht6
      have hz6 : w5.heap.size ≤ w6.heap.size := hm6.size
      have m3 := HR6.out.cell (k := 3) rfl
      have f3 := HR6.out.frozen (k := 3) (by show 3 < 7; omega)
      have HR7 : Hid (Row (w6.setCell ⟨w.heap.size, 3, none⟩ (.slice pa pl pc)) w.heap.size (putL ao l c r g (.slice pa pl pc) 0 false false)) := HR6.out.put 3 (by show 3 < 7; omega) (.slice pa pl pc)
      have HS7 : Hid (Sole w.heap.size w6 (w6.setCell ⟨w.heap.size, 3, none⟩ (.slice pa pl pc))) := (Sole.refl _ _).setCell _ _
      clear hm6 ht6
      simp only
      cases ok2 with
      | false =>
        have HF2 : Hid (A = (j2, x, lg1, false)) := by rw [Hid, HF1.out]; rfl
        go_wp2_with (first
      | (refine wpList_load_row 30 rfl rfl 198 (.tmp 2) rfl _ rfl _ _ (HR7.out) Tryz.underlying198 rfl Tryz.size198 ?_)
      | (refine wpList_store_row rfl 198 (.tmp 2) (.tmp 30) rfl _ rfl _ rfl _ (HR7.out) rfl Tryz.size198 (putL_one _ _ _ _ _ _ _ _ (by first | rfl | exact hone)) ?_; intro w8 hR4 hS4; have HRL : Hid (Row w8 w.heap.size (putL ao l c r g (.slice pa pl pc) 0 false false)) := hR4; have HSL : Hid (Sole w.heap.size _ w8) := hS4; clear hR4 hS4))
        rw [HF2.out]
        refine bodyPost_row2 2 3 198 rfl rfl w.heap.size rfl _ _ _ rfl HRL.out Tryz.underlying198 rfl Tryz.size198 (show PutPost _ _ _ _ _ _ _ by unfold PutPost; exact ⟨ao, l, c, _, _, _, 0, false, false, rfl, hone, (HM6.out.sole HS7.out (Nat.le_refl _) hb).sole HSL.out (Nat.le_refl _) hb, (HC6.out.sole HS7.out (by omega)).sole HSL.out (by omega), fun h => (by cases h)⟩)
      | true =>
        have HT6' : Hid (TempAt w6 w5.heap.size w6.heap.size tp (.slice pa pl pc)) := HT6.out rfl
        have HF2 : Hid (A = ((flagF s 4 j2 false false 0).1, { x with pat := pt, temp := tp, num := (flagF s 4 j2 false false 0).2.2.2, all := (flagF s 4 j2 false false 0).2.1, prt := (flagF s 4 j2 false false 0).2.2.1 }, lg1, true)) := by rw [Hid, HF1.out]; rfl
        clear HF1
        generalize hG3 : flagF s 4 j2 false false 0 = G3 at HF2
        have HG3 : Hid (flagF s 4 j2 false false 0 = G3) := hG3
        clear hG3
        obtain ⟨j3, fa, fp, fn⟩ := G3
        simp only at HF2
        have HC7 : Hid (Cu (w6.setCell ⟨w.heap.size, 3, none⟩ (.slice pa pl pc)) b s j2 lg1) := HC6.out.sole HS7.out (by omega)
        have HM7 : Hid (Mw b w (w6.setCell ⟨w.heap.size, 3, none⟩ (.slice pa pl pc))) := HM6.out.sole HS7.out (Nat.le_refl _) hb
        have HK7 : Hid (Keep w2.heap.size w3.heap.size w3 (w6.setCell ⟨w.heap.size, 3, none⟩ (.slice pa pl pc))) := HK6.out.sole HS7.out (by omega)
        have HL7 : Hid (Keep w.heap.size w6.heap.size w6 (w6.setCell ⟨w.heap.size, 3, none⟩ (.slice pa pl pc))) := (Keep.refl (Nat.le_refl _)).sole HS7.out (by omega)
        go_wp2_with fail
        generalize w6.setCell ⟨w.heap.size, 3, none⟩ (.slice pa pl pc) = w7 at HR7 HC7 HM7 HK7 HL7 ⊢
        clear m3 f3 m2 HS7
        refine (flags_any b w.heap.size s j2 _ HC7.out.rc (by omega) (HR7.out.cell (k := 4) rfl) (HR7.out.cell (k := 5) rfl) (HR7.out.cell (k := 6) rfl) (fun k hk => HR7.out.frozen (by show k < 7; omega))).mono ?_
        rw [HG3.out]
        rintro e w8 ⟨rfl, hf8, hj3⟩
        have HR8 : Hid (Row w8 w.heap.size (putL ao l c r g (.slice pa pl pc) fn fa fp)) := Row.flags HR7.out hf8
        have HM8 : Hid (Mw b w w8) := HM7.out.fl hf8 (Nat.le_refl _)
        have HC8 : Hid (Cu w8 b s j3 lg1) := HC7.out.fl hf8 hj3
        have HK8 : Hid (Keep w2.heap.size w3.heap.size w3 w8) := HK7.out.fl hf8 (by omega) (by omega)
        have HL8 : Hid (Keep w.heap.size w6.heap.size w6 w8) := HL7.out.fl hf8 (by omega) (by omega)
        clear hf8
        simp only
        go_wp2_with (first
      | (refine wpList_load_row 33 rfl rfl 198 (.tmp 2) rfl _ rfl _ _ (HR8.out) Tryz.underlying198 rfl Tryz.size198 ?_)
      | (refine wpList_store_row rfl 198 (.tmp 2) (.tmp 33) rfl _ rfl _ rfl _ (HR8.out) rfl Tryz.size198 (putL_one _ _ _ _ _ _ _ _ (by first | rfl | exact hone)) ?_; intro w9 hR4 hS4; have HRL : Hid (Row w9 w.heap.size (putL ao l c r g (.slice pa pl pc) fn fa fp)) := hR4; have HSL : Hid (Sole w.heap.size _ w9) := hS4; clear hR4 hS4))
        rw [HF2.out]
        refine bodyPost_row2 2 3 198 rfl rfl w.heap.size rfl _ _ _ rfl HRL.out Tryz.underlying198 rfl Tryz.size198 (show PutPost _ _ _ _ _ _ _ by unfold PutPost; exact ⟨ao, l, c, _, _, _, fn, fa, fp, rfl, hone, HM8.out.sole HSL.out (Nat.le_refl _) hb, HC8.out.sole HSL.out (by omega), fun _ => ⟨pt, tp, rfl, HP3'.out.keep (HK8.out.sole HSL.out (by omega)) (by omega), HT6'.out.tempIn (by omega) (HL8.out.sole HSL.out (by omega))⟩⟩)
  · have HI : Hid (pk s i ≠ ((47 : Nat) : Int)) := h47
    have HF : Hid (putF s i lg x = (i, x, lg, false)) := by rw [Hid, putF, if_neg (fun e => h47 (by rw [e]; rfl))]
    clear h47
    go_enter Tryz.func199, Tryz.ntmps199
    go_wp2_with (first
      | (refine wpList_alloc_row 2 rfl rfl 198 rfl _ Tryz.zero198 ?_; intro w1 h1 hR1 hB1; have HR1 : Hid (Row w1 w.heap.size (putL none 0 0 0 0 (.slice none 0 0) 0 false false)) := hR1; have HB1 : Hid (Below w.heap.size w w1) := hB1; clear hR1 hB1)
      | (go_at_call 100; refine (acceptN b s i 47 _ (HC.out.below HB1.out).rc (by omega) HI.out).mono ?_; rintro e w2 ⟨rfl, hm2⟩; have HM2 : Hid (Mw b w w2) := (Mw.below HB1.out hb).trans (.mv hm2); have HC2 : Hid (Cu w2 b s i lg) := (HC.out.below HB1.out).mv hm2 (by omega); have HR2 : Hid (Row w2 w.heap.size (putL none 0 0 0 0 (.slice none 0 0) 0 false false)) := HR1.out.of_block (hm2.only.block _ (by omega)); clear hm2)
      | (first
      | (refine wpList_load_row 9 rfl rfl 198 (.tmp 2) rfl _ rfl _ _ (HR2.out) Tryz.underlying198 rfl Tryz.size198 ?_)
      | (refine wpList_store_row rfl 198 (.tmp 2) (.tmp 9) rfl _ rfl _ rfl _ (HR2.out) rfl Tryz.size198 (putL_one _ _ _ _ _ _ _ _ (by first | rfl | exact hone)) ?_; intro w4 hR4 hS4; have HRL : Hid (Row w4 w.heap.size (putL none 0 0 0 0 (.slice none 0 0) 0 false false)) := hR4; have HSL : Hid (Sole w.heap.size _ w4) := hS4; clear hR4 hS4)))
    rw [HF.out]
    refine bodyPost_row2 2 3 198 rfl rfl w.heap.size rfl _ _ _ rfl HRL.out Tryz.underlying198 rfl Tryz.size198 (show PutPost _ _ _ _ _ _ _ by unfold PutPost; exact ⟨none, 0, 0, 0, 0, _, 0, false, false, rfl, rfl, HM2.out.sole HSL.out (Nat.le_refl _) hb, HC2.out.sole HSL.out (by omega), fun h => (by cases h)⟩)
end Rs
end Go.Proofs.YtppjlpihaocdiaaGreatDoor

