/- The document's told, kind by kind. -/
import Derived.Test.YtppjlpihaocdiaaRefTimesJ
import Derived.Test.YtppjlpihaocdiaaRefFromJ
set_option linter.unusedSimpArgs false
set_option linter.unusedVariables false
namespace Go.Proofs.Ytppjlpihaocdiaa
open Go.RowKit

def L73 (v : Value) : Sem Value := Instr.loadAt 140 v
def S73 (v u : Value) : Sem Unit := Instr.storeAt 140 v u
theorem L73_eq (v : Value) : Instr.loadAt 140 v = L73 v := rfl
theorem S73_eq (v u : Value) : Instr.storeAt 140 v u = S73 v u := rfl
attribute [local go_sem ↓] L66_eq S66_eq L73_eq S73_eq Go.wp_at_zero Go.wp_at_succ

theorem Try.info140 : (Try.prog.info? 140).map (fun i => (i.zero, i.size)) = some (some (.agg (ndL ⟨0, fun _ => false, [], 0, 0, 0⟩ (.slice none 0 0)).toArray), (ndL ⟨0, fun _ => false, [], 0, 0, 0⟩ (.slice none 0 0)).length) := by kernel_rfl
theorem Try.size140 (d : Nd) (sv : Value) : (Try.prog.info? 140).map (·.size) = some (ndL d sv).length := by
  rw [ndL_length]; kernel_rfl


theorem Row.kind {w : World} {b : Nat} {d : Nd} {sv : Value} (h : Row w b (ndL d sv)) : w.cell? ⟨b, 0, none⟩ = some (.int .i64 d.kind) := h.cell (ndL_kind d sv)
theorem Row.sets {w : World} {b : Nat} {d : Nd} {sv : Value} (h : Row w b (ndL d sv)) (k : Nat) (hk : k < 256) : w.cell? ⟨b, 1 + k, none⟩ = some (.bool (d.set k)) := by
  rw [Nat.add_comm 1 k]; exact h.cell (ndL_set d sv hk)
theorem Row.subs {w : World} {b : Nat} {d : Nd} {sv : Value} (h : Row w b (ndL d sv)) : w.cell? ⟨b, 257, none⟩ = some sv := h.cell (k := 257) (ndL_tail d sv 0)

/-- Where 'told' stands when it has laid the node out. -/
structure ToldIn (w w4 : World) (p : Fp) (d : Nd) (ao : Option Addr) (c : Nat) : Prop where
  nd : Row w4 (w.heap.size + 1 + 1) (ndL d (.slice ao d.subs.length c))
  below : Below w.heap.size w w4
  e : Row w4 (w.heap.size + 1) (endsL fun _ => false)
  z : Row w4 w.heap.size (endsL fun _ => false)
  size : w4.heap.size = w.heap.size + 1 + 1 + 1
  s : w4.cell? ⟨p.fb, 1, none⟩ = some (.string p.s)

theorem ToldIn.mk' {w w1 w2 w3 w4 : World} {p : Fp} {d : Nd} {ao : Option Addr} {c : Nat} (h1 : w1.heap.size = w.heap.size + 1) (h2 : w2.heap.size = w.heap.size + 1 + 1) (h3 : w3.heap.size = w.heap.size + 1 + 1 + 1) (hB1 : Below w.heap.size w w1) (hB2 : Below (w.heap.size + 1) w1 w2) (hB3 : Below (w.heap.size + 1 + 1) w2 w3)
    (hR1 : Row w1 w.heap.size (endsL fun _ => false)) (hR2 : Row w2 (w.heap.size + 1) (endsL fun _ => false)) (hS : Sole (w.heap.size + 1 + 1) w3 w4) (hR4 : Row w4 (w.heap.size + 1 + 1) (ndL d (.slice ao d.subs.length c))) (hfl : p.fb < w.heap.size) (f1 : w.cell? ⟨p.fb, 1, none⟩ = some (.string p.s)) : ToldIn w w4 p d ao c := by
  have hB : Below w.heap.size w w4 := Below.sole ((hB1.trans (hB2.mono (by omega))).trans (hB3.mono (by omega))) hS (by omega)
  exact ⟨hR4, hB, (hR2.below hB3 (by omega)).sole hS (by omega), ((hR1.below hB2 (by omega)).below hB3 (by omega)).sole hS (by omega), hS.size.trans h3, (hB.cell (p := ⟨p.fb, 1, none⟩) hfl).trans f1⟩

theorem ToldIn.e0 {w w4 : World} {p : Fp} {d : Nd} {ao : Option Addr} {c : Nat} (h : ToldIn w w4 p d ao c) (k : Nat) (hk : k < 82) : w4.cell? ⟨w.heap.size + 1, k, none⟩ = some (.bool false) ∧ w4.frozen? ⟨w.heap.size + 1, k, none⟩ = false :=
  ⟨h.e.cell (endsL_at (fun _ => false) hk), h.e.frozen (by rw [endsL_length]; exact hk)⟩

/-- 'told' ends: what lies in e is handed back. -/
theorem told_done {w w5 w6 : World} {p : Fp} (hI : FieldAt w5 p) (hF : Fm p w w5) (hS : Sole w.heap.size w5 w6) (hfl : p.fb < w.heap.size) (hkl : p.kb < w.heap.size) (hel : p.eb < w.heap.size) (hNf : p.N0 ≤ p.fb) : FieldAt w6 p ∧ Fm p w w6 :=
  ⟨hI.sole hS (by omega) (by omega) (by omega) (by omega), hF.sole hS (Nat.le_refl _)⟩


theorem run_L73 {w : World} {b : Nat} {d : Nd} {sv : Value} (h : Row w b (ndL d sv)) : (L73 (.pointer (some ⟨b, 0, none⟩))).run Try.prog w = .ok (.agg (ndL d sv).toArray) w :=
  run_loadAt_mid (P := Try.prog) w b 0 140 _ _ h.lies Try.underlying140 rfl (Try.size140 _ _)

theorem Row.drew {w : World} {b : Nat} {cs : List Value} (h : Row w b cs) : Row w.drew b cs := ⟨h.lies, h.free⟩

set_option maxRecDepth 100000 in
set_option maxHeartbeats 2000000 in
theorem told_bol (p : Fp) (n i : Nat) (d : Nd) (hd : p.nodes[n]? = some d) (h0 : d.kind = 1) (w : World) (hI : FieldAt w p) (hi : i ≤ p.s.size) :
    Calls Try.prog 84 #[.pointer (some ⟨p.fb, 0, none⟩), .int .i64 n, .int .i64 i] w fun e w' => ∃ f, e = .returned (.agg (endsL f).toArray) ∧ Says f (Mat p.s p.nodes n i) ∧ FieldAt w' p ∧ Fm p w w' := by
  have HI : Hid (FieldAt w p) := hI
  have hs80 := hI.s80
  have hfl := hI.lt
  have hkl := hI.kl
  have hel := hI.el
  have hNf := hI.nf
  have hNk := hI.nk
  have hNe := hI.ne
  have hn : n < p.nodes.length := by
    rcases Nat.lt_or_ge n p.nodes.length with h | h
    · exact h
    · rw [List.getElem?_eq_none h] at hd; cases hd
  have hmany := hI.tree.many
  have HD : Hid (p.nodes[n]? = some d) := hd
  obtain ⟨ao, c, hnd, hsub⟩ := hI.tree.node n d hd
  have HND : Hid (w.rangeAt p.nb (n * 261) (ndL d (.slice ao d.subs.length c))) := hnd
  have ltb := hI.tree.ltb
  have lnb := hI.tree.lnb
  obtain ⟨cap, t0⟩ := hI.tree.c0
  have f0 := hI.c0
  have f1 := hI.c1
  have k1 : (0 : Int) ≤ (n : Int) := by omega
  have k2 : (n : Int) < (p.nodes.length : Int) := by omega
  have hk0 : (d.kind : Int) = 1 := by omega
  have HSays : Hid (Says (fun j => if j = i then ((i : Int) == 0) else false) (Mat p.s p.nodes n i)) := by
    intro j hj
    rw [Mat_eq hI.wf hd, if_neg (by omega), if_pos h0]
    by_cases e : j = i
    · subst e; simp
    · simp [e]
  clear hI hnd hsub hd h0
  go_enter Try.func84, Try.ntmps84
  go_wp2_with (first
    | (refine wpList_alloc_row 6 rfl rfl 114 rfl _ Try.info114 ?_; intro w1 h1 hR1 hB1; have HR1 : Hid (Row w1 w.heap.size (endsL fun _ => false)) := hR1; have HB1 : Hid (Below w.heap.size w w1) := hB1; clear hR1 hB1)
    | (refine wpList_alloc_row 7 rfl rfl 114 rfl _ Try.info114 ?_; intro w2 h2 hR2 hB2; rw [h1] at hR2 hB2 h2; have HR2 : Hid (Row w2 (w.heap.size + 1) (endsL fun _ => false)) := hR2; have HB2 : Hid (Below (w.heap.size + 1) w1 w2) := hB2; have hB02 : Below w.heap.size w w2 := HB1.out.trans (hB2.mono (by omega)); have HB02 : Hid (Below w.heap.size w w2) := hB02; have g0 := (hB02.cell (p := ⟨p.fb, 0, none⟩) hfl).trans f0; have g2 := (hB02.cell (p := ⟨p.tb, 0, none⟩) (by simp; omega)).trans t0; have HND2 : Hid (w2.rangeAt p.nb (n * 261) (ndL d (.slice ao d.subs.length c))) := fun j v hv => (hB02.cell (p := ⟨p.nb, n * 261 + j, none⟩) (by simp; omega)).trans (HND.out j v hv); clear hR2 hB2 hB02)
    | (refine wpList_load_mid rfl 140 (.tmp 18) rfl p.nb (n * 261) rfl (ndL d (.slice ao d.subs.length c)) _ HND2.out Try.underlying140 rfl (Try.size140 _ _) ?_)
    | (refine wpList_alloc_row 8 rfl rfl 140 rfl _ Try.info140 ?_; intro w3 h3 hR3 hB3; rw [h2] at hB3 h3; have HR3 : Hid (Row w3 w2.heap.size (ndL ⟨0, fun _ => false, [], 0, 0, 0⟩ (.slice none 0 0))) := hR3; have HB3 : Hid (Below (w.heap.size + 1 + 1) w2 w3) := hB3; clear hR3 hB3)
    | (refine wpList_store_row rfl 140 (.tmp 8) (.tmp 19) rfl _ rfl _ rfl _ HR3.out (by rw [ndL_length, ndL_length]) (Try.size140 _ _) (ndL_one _ _ _ _) ?_; intro w4 hR4 hS4; rw [h2] at hR4 hS4; have hT := ToldIn.mk' h1 h2 h3 HB1.out HB2.out HB3.out HR1.out HR2.out hS4 hR4 hfl f1; have HT : Hid (ToldIn w w4 p d ao c) := hT; have n0 := hT.nd.kind; have n257 := hT.nd.subs; have g1 := hT.s; have e0 := hT.e0 i (by omega); have e2 := hT.e0 (i + 1) (by omega); have hE5 := hT.e.put i (by rw [endsL_length]; omega) (.bool ((i : Int) == 0)); rw [endsL_set] at hE5; have HE5 : Hid (Row (w4.setCell ⟨w.heap.size + 1, i, none⟩ (.bool ((i : Int) == 0))) (w.heap.size + 1) (endsL fun j => if j = i then (i : Int) == 0 else false)) := hE5; have HZ5 : Hid (Row (w4.setCell ⟨w.heap.size + 1, i, none⟩ (.bool ((i : Int) == 0))) w.heap.size (endsL fun _ => false)) := hT.z.sole ((Sole.refl _ _).setCell _ _) (by omega); have HFi5 : Hid (FieldAt (w4.setCell ⟨w.heap.size + 1, i, none⟩ (.bool ((i : Int) == 0))) p) := (HI.out.grow hT.below).sole ((Sole.refl _ _).setCell _ _) (by omega) (by omega) (by omega) (by omega); have HFm5 : Hid (Fm p w (w4.setCell ⟨w.heap.size + 1, i, none⟩ (.bool ((i : Int) == 0)))) := (Below.fm hT.below).sole ((Sole.refl _ _).setCell _ _) (by omega); clear hE5; clear hR4 hS4 hT g0 g2)
    | (refine wpList_load_row 91 rfl rfl 114 (.tmp 7) rfl _ rfl _ _ HE5.out Try.underlying114 rfl (Try.size114 _) ?_)
    | (refine wpList_store_row rfl 114 (.tmp 6) (.tmp 91) rfl _ rfl _ rfl _ HZ5.out (by simp only [endsL_length]) (Try.size114 _) (endsL_one _) ?_; intro w6 hR6 hS6))
  exact bodyPost_row 6 114 Try.results84 rfl _ rfl _ _ hR6 Try.underlying114 rfl (Try.size114 _) ⟨_, rfl, HSays.out, told_done HFi5.out HFm5.out hS6 hfl hkl hel hNf⟩

set_option maxRecDepth 100000 in
set_option maxHeartbeats 2000000 in
theorem told_eol (p : Fp) (n i : Nat) (d : Nd) (hd : p.nodes[n]? = some d) (h0 : d.kind = 2) (w : World) (hI : FieldAt w p) (hi : i ≤ p.s.size) :
    Calls Try.prog 84 #[.pointer (some ⟨p.fb, 0, none⟩), .int .i64 n, .int .i64 i] w fun e w' => ∃ f, e = .returned (.agg (endsL f).toArray) ∧ Says f (Mat p.s p.nodes n i) ∧ FieldAt w' p ∧ Fm p w w' := by
  have HI : Hid (FieldAt w p) := hI
  have hs80 := hI.s80
  have hfl := hI.lt
  have hkl := hI.kl
  have hel := hI.el
  have hNf := hI.nf
  have hNk := hI.nk
  have hNe := hI.ne
  have hn : n < p.nodes.length := by
    rcases Nat.lt_or_ge n p.nodes.length with h | h
    · exact h
    · rw [List.getElem?_eq_none h] at hd; cases hd
  have hmany := hI.tree.many
  have HD : Hid (p.nodes[n]? = some d) := hd
  obtain ⟨ao, c, hnd, hsub⟩ := hI.tree.node n d hd
  have HND : Hid (w.rangeAt p.nb (n * 261) (ndL d (.slice ao d.subs.length c))) := hnd
  have ltb := hI.tree.ltb
  have lnb := hI.tree.lnb
  obtain ⟨cap, t0⟩ := hI.tree.c0
  have f0 := hI.c0
  have f1 := hI.c1
  have k1 : (0 : Int) ≤ (n : Int) := by omega
  have k2 : (n : Int) < (p.nodes.length : Int) := by omega
  have hk0 : (d.kind : Int) = 2 := by omega
  have HSays : Hid (Says (fun j => if j = i then ((i : Int) == (p.s.size : Int)) else false) (Mat p.s p.nodes n i)) := by
    intro j hj
    rw [Mat_eq hI.wf hd, if_neg (by omega), if_neg (by omega), if_pos h0]
    by_cases e : j = i
    · subst e; simp; omega
    · simp [e]
  clear hI hnd hsub hd h0
  go_enter Try.func84, Try.ntmps84
  go_wp2_with (first
    | (refine wpList_alloc_row 6 rfl rfl 114 rfl _ Try.info114 ?_; intro w1 h1 hR1 hB1; have HR1 : Hid (Row w1 w.heap.size (endsL fun _ => false)) := hR1; have HB1 : Hid (Below w.heap.size w w1) := hB1; clear hR1 hB1)
    | (refine wpList_alloc_row 7 rfl rfl 114 rfl _ Try.info114 ?_; intro w2 h2 hR2 hB2; rw [h1] at hR2 hB2 h2; have HR2 : Hid (Row w2 (w.heap.size + 1) (endsL fun _ => false)) := hR2; have HB2 : Hid (Below (w.heap.size + 1) w1 w2) := hB2; have hB02 : Below w.heap.size w w2 := HB1.out.trans (hB2.mono (by omega)); have HB02 : Hid (Below w.heap.size w w2) := hB02; have g0 := (hB02.cell (p := ⟨p.fb, 0, none⟩) hfl).trans f0; have g2 := (hB02.cell (p := ⟨p.tb, 0, none⟩) (by simp; omega)).trans t0; have HND2 : Hid (w2.rangeAt p.nb (n * 261) (ndL d (.slice ao d.subs.length c))) := fun j v hv => (hB02.cell (p := ⟨p.nb, n * 261 + j, none⟩) (by simp; omega)).trans (HND.out j v hv); clear hR2 hB2 hB02)
    | (refine wpList_load_mid rfl 140 (.tmp 18) rfl p.nb (n * 261) rfl (ndL d (.slice ao d.subs.length c)) _ HND2.out Try.underlying140 rfl (Try.size140 _ _) ?_)
    | (refine wpList_alloc_row 8 rfl rfl 140 rfl _ Try.info140 ?_; intro w3 h3 hR3 hB3; rw [h2] at hB3 h3; have HR3 : Hid (Row w3 w2.heap.size (ndL ⟨0, fun _ => false, [], 0, 0, 0⟩ (.slice none 0 0))) := hR3; have HB3 : Hid (Below (w.heap.size + 1 + 1) w2 w3) := hB3; clear hR3 hB3)
    | (refine wpList_store_row rfl 140 (.tmp 8) (.tmp 19) rfl _ rfl _ rfl _ HR3.out (by rw [ndL_length, ndL_length]) (Try.size140 _ _) (ndL_one _ _ _ _) ?_; intro w4 hR4 hS4; rw [h2] at hR4 hS4; have hT := ToldIn.mk' h1 h2 h3 HB1.out HB2.out HB3.out HR1.out HR2.out hS4 hR4 hfl f1; have HT : Hid (ToldIn w w4 p d ao c) := hT; have n0 := hT.nd.kind; have n257 := hT.nd.subs; have g1 := hT.s; have e0 := hT.e0 i (by omega); have e2 := hT.e0 (i + 1) (by omega); have hE5 := hT.e.put i (by rw [endsL_length]; omega) (.bool ((i : Int) == (p.s.size : Int))); rw [endsL_set] at hE5; have HE5 : Hid (Row (w4.setCell ⟨w.heap.size + 1, i, none⟩ (.bool ((i : Int) == (p.s.size : Int)))) (w.heap.size + 1) (endsL fun j => if j = i then (i : Int) == (p.s.size : Int) else false)) := hE5; have HZ5 : Hid (Row (w4.setCell ⟨w.heap.size + 1, i, none⟩ (.bool ((i : Int) == (p.s.size : Int)))) w.heap.size (endsL fun _ => false)) := hT.z.sole ((Sole.refl _ _).setCell _ _) (by omega); have HFi5 : Hid (FieldAt (w4.setCell ⟨w.heap.size + 1, i, none⟩ (.bool ((i : Int) == (p.s.size : Int)))) p) := (HI.out.grow hT.below).sole ((Sole.refl _ _).setCell _ _) (by omega) (by omega) (by omega) (by omega); have HFm5 : Hid (Fm p w (w4.setCell ⟨w.heap.size + 1, i, none⟩ (.bool ((i : Int) == (p.s.size : Int))))) := (Below.fm hT.below).sole ((Sole.refl _ _).setCell _ _) (by omega); clear hE5; clear hR4 hS4 hT g0 g2)
    | (refine wpList_load_row 91 rfl rfl 114 (.tmp 7) rfl _ rfl _ _ HE5.out Try.underlying114 rfl (Try.size114 _) ?_)
    | (refine wpList_store_row rfl 114 (.tmp 6) (.tmp 91) rfl _ rfl _ rfl _ HZ5.out (by simp only [endsL_length]) (Try.size114 _) (endsL_one _) ?_; intro w6 hR6 hS6))
  exact bodyPost_row 6 114 Try.results84 rfl _ rfl _ _ hR6 Try.underlying114 rfl (Try.size114 _) ⟨_, rfl, HSays.out, told_done HFi5.out HFm5.out hS6 hfl hkl hel hNf⟩

set_option maxRecDepth 100000 in
set_option maxHeartbeats 2000000 in
theorem told_set_in (p : Fp) (n i : Nat) (d : Nd) (hd : p.nodes[n]? = some d) (h0 : d.kind = 0) (hlt : i < p.s.size) (w : World) (hI : FieldAt w p) (hi : i ≤ p.s.size) :
    Calls Try.prog 84 #[.pointer (some ⟨p.fb, 0, none⟩), .int .i64 n, .int .i64 i] w fun e w' => ∃ f, e = .returned (.agg (endsL f).toArray) ∧ Says f (Mat p.s p.nodes n i) ∧ FieldAt w' p ∧ Fm p w w' := by
  have HI : Hid (FieldAt w p) := hI
  have hs80 := hI.s80
  have hfl := hI.lt
  have hkl := hI.kl
  have hel := hI.el
  have hNf := hI.nf
  have hNk := hI.nk
  have hNe := hI.ne
  have hn : n < p.nodes.length := by
    rcases Nat.lt_or_ge n p.nodes.length with h | h
    · exact h
    · rw [List.getElem?_eq_none h] at hd; cases hd
  have hmany := hI.tree.many
  have HD : Hid (p.nodes[n]? = some d) := hd
  obtain ⟨ao, c, hnd, hsub⟩ := hI.tree.node n d hd
  have HND : Hid (w.rangeAt p.nb (n * 261) (ndL d (.slice ao d.subs.length c))) := hnd
  have ltb := hI.tree.ltb
  have lnb := hI.tree.lnb
  obtain ⟨cap, t0⟩ := hI.tree.c0
  have f0 := hI.c0
  have f1 := hI.c1
  have k1 : (0 : Int) ≤ (n : Int) := by omega
  have k2 : (n : Int) < (p.nodes.length : Int) := by omega
  have hk0 : (d.kind : Int) = 0 := by omega
  have q1 : (0 : Int) ≤ (i : Int) := by omega
  have q2 : (i : Int) < (p.s.size : Int) := by omega
  have q3 : ((p.s[i]'hlt).toNat : Int) < 256 := by have := (p.s[i]'hlt).toNat_lt; omega
  have HSays : Hid (Says (fun j => if j = i + 1 then d.set ((p.s[i]'hlt).toNat) else false) (Mat p.s p.nodes n i)) := by
    intro j hj
    rw [Mat_eq hI.wf hd, if_pos h0, byt_eq p.s i hlt]
    by_cases e : j = i + 1
    · subst e; simp [hlt]
    · simp [e]
  clear hI hnd hsub hd h0
  go_enter Try.func84, Try.ntmps84
  go_wp2_with (first
    | (refine wpList_alloc_row 6 rfl rfl 114 rfl _ Try.info114 ?_; intro w1 h1 hR1 hB1; have HR1 : Hid (Row w1 w.heap.size (endsL fun _ => false)) := hR1; have HB1 : Hid (Below w.heap.size w w1) := hB1; clear hR1 hB1)
    | (refine wpList_alloc_row 7 rfl rfl 114 rfl _ Try.info114 ?_; intro w2 h2 hR2 hB2; rw [h1] at hR2 hB2 h2; have HR2 : Hid (Row w2 (w.heap.size + 1) (endsL fun _ => false)) := hR2; have HB2 : Hid (Below (w.heap.size + 1) w1 w2) := hB2; have hB02 : Below w.heap.size w w2 := HB1.out.trans (hB2.mono (by omega)); have HB02 : Hid (Below w.heap.size w w2) := hB02; have g0 := (hB02.cell (p := ⟨p.fb, 0, none⟩) hfl).trans f0; have g2 := (hB02.cell (p := ⟨p.tb, 0, none⟩) (by simp; omega)).trans t0; have HND2 : Hid (w2.rangeAt p.nb (n * 261) (ndL d (.slice ao d.subs.length c))) := fun j v hv => (hB02.cell (p := ⟨p.nb, n * 261 + j, none⟩) (by simp; omega)).trans (HND.out j v hv); clear hR2 hB2 hB02)
    | (refine wpList_load_mid rfl 140 (.tmp 18) rfl p.nb (n * 261) rfl (ndL d (.slice ao d.subs.length c)) _ HND2.out Try.underlying140 rfl (Try.size140 _ _) ?_)
    | (refine wpList_alloc_row 8 rfl rfl 140 rfl _ Try.info140 ?_; intro w3 h3 hR3 hB3; rw [h2] at hB3 h3; have HR3 : Hid (Row w3 w2.heap.size (ndL ⟨0, fun _ => false, [], 0, 0, 0⟩ (.slice none 0 0))) := hR3; have HB3 : Hid (Below (w.heap.size + 1 + 1) w2 w3) := hB3; clear hR3 hB3)
    | (refine wpList_store_row rfl 140 (.tmp 8) (.tmp 19) rfl _ rfl _ rfl _ HR3.out (by rw [ndL_length, ndL_length]) (Try.size140 _ _) (ndL_one _ _ _ _) ?_; intro w4 hR4 hS4; rw [h2] at hR4 hS4; have hT := ToldIn.mk' h1 h2 h3 HB1.out HB2.out HB3.out HR1.out HR2.out hS4 hR4 hfl f1; have HT : Hid (ToldIn w w4 p d ao c) := hT; have n0 := hT.nd.kind; have n257 := hT.nd.subs; have g1 := hT.s; have e0 := hT.e0 i (by omega); have e2 := hT.e0 (i + 1) (by omega); have n1 := hT.nd.sets (p.s[i]'hlt).toNat (UInt8.toNat_lt _); have hE5 := hT.e.put (i + 1) (by rw [endsL_length]; omega) (.bool (d.set ((p.s[i]'hlt).toNat))); rw [endsL_set] at hE5; have HE5 : Hid (Row (w4.setCell ⟨w.heap.size + 1, (i + 1), none⟩ (.bool (d.set ((p.s[i]'hlt).toNat)))) (w.heap.size + 1) (endsL fun j => if j = (i + 1) then d.set ((p.s[i]'hlt).toNat) else false)) := hE5; have HZ5 : Hid (Row (w4.setCell ⟨w.heap.size + 1, (i + 1), none⟩ (.bool (d.set ((p.s[i]'hlt).toNat)))) w.heap.size (endsL fun _ => false)) := hT.z.sole ((Sole.refl _ _).setCell _ _) (by omega); have HFi5 : Hid (FieldAt (w4.setCell ⟨w.heap.size + 1, (i + 1), none⟩ (.bool (d.set ((p.s[i]'hlt).toNat)))) p) := (HI.out.grow hT.below).sole ((Sole.refl _ _).setCell _ _) (by omega) (by omega) (by omega) (by omega); have HFm5 : Hid (Fm p w (w4.setCell ⟨w.heap.size + 1, (i + 1), none⟩ (.bool (d.set ((p.s[i]'hlt).toNat))))) := (Below.fm hT.below).sole ((Sole.refl _ _).setCell _ _) (by omega); clear hE5; clear hR4 hS4 hT g0 g2)
    | (refine wpList_load_row 91 rfl rfl 114 (.tmp 7) rfl _ rfl _ _ HE5.out Try.underlying114 rfl (Try.size114 _) ?_)
    | (refine wpList_store_row rfl 114 (.tmp 6) (.tmp 91) rfl _ rfl _ rfl _ HZ5.out (by simp only [endsL_length]) (Try.size114 _) (endsL_one _) ?_; intro w6 hR6 hS6))
  exact bodyPost_row 6 114 Try.results84 rfl _ rfl _ _ hR6 Try.underlying114 rfl (Try.size114 _) ⟨_, rfl, HSays.out, told_done HFi5.out HFm5.out hS6 hfl hkl hel hNf⟩

set_option maxRecDepth 100000 in
set_option maxHeartbeats 2000000 in
theorem told_set_out (p : Fp) (n i : Nat) (d : Nd) (hd : p.nodes[n]? = some d) (h0 : d.kind = 0) (hlt : ¬ i < p.s.size) (w : World) (hI : FieldAt w p) (hi : i ≤ p.s.size) :
    Calls Try.prog 84 #[.pointer (some ⟨p.fb, 0, none⟩), .int .i64 n, .int .i64 i] w fun e w' => ∃ f, e = .returned (.agg (endsL f).toArray) ∧ Says f (Mat p.s p.nodes n i) ∧ FieldAt w' p ∧ Fm p w w' := by
  have HI : Hid (FieldAt w p) := hI
  have hs80 := hI.s80
  have hfl := hI.lt
  have hkl := hI.kl
  have hel := hI.el
  have hNf := hI.nf
  have hNk := hI.nk
  have hNe := hI.ne
  have hn : n < p.nodes.length := by
    rcases Nat.lt_or_ge n p.nodes.length with h | h
    · exact h
    · rw [List.getElem?_eq_none h] at hd; cases hd
  have hmany := hI.tree.many
  have HD : Hid (p.nodes[n]? = some d) := hd
  obtain ⟨ao, c, hnd, hsub⟩ := hI.tree.node n d hd
  have HND : Hid (w.rangeAt p.nb (n * 261) (ndL d (.slice ao d.subs.length c))) := hnd
  have ltb := hI.tree.ltb
  have lnb := hI.tree.lnb
  obtain ⟨cap, t0⟩ := hI.tree.c0
  have f0 := hI.c0
  have f1 := hI.c1
  have k1 : (0 : Int) ≤ (n : Int) := by omega
  have k2 : (n : Int) < (p.nodes.length : Int) := by omega
  have hk0 : (d.kind : Int) = 0 := by omega
  have HSays : Hid (Says (fun _ => false) (Mat p.s p.nodes n i)) := by
    intro j hj
    rw [Mat_eq hI.wf hd, if_pos h0]
    constructor
    · intro h; cases h
    · rintro ⟨h, _⟩; exact absurd h hlt
  clear hI hnd hsub hd h0
  go_enter Try.func84, Try.ntmps84
  go_wp2_with (first
    | (refine wpList_alloc_row 6 rfl rfl 114 rfl _ Try.info114 ?_; intro w1 h1 hR1 hB1; have HR1 : Hid (Row w1 w.heap.size (endsL fun _ => false)) := hR1; have HB1 : Hid (Below w.heap.size w w1) := hB1; clear hR1 hB1)
    | (refine wpList_alloc_row 7 rfl rfl 114 rfl _ Try.info114 ?_; intro w2 h2 hR2 hB2; rw [h1] at hR2 hB2 h2; have HR2 : Hid (Row w2 (w.heap.size + 1) (endsL fun _ => false)) := hR2; have HB2 : Hid (Below (w.heap.size + 1) w1 w2) := hB2; have hB02 : Below w.heap.size w w2 := HB1.out.trans (hB2.mono (by omega)); have HB02 : Hid (Below w.heap.size w w2) := hB02; have g0 := (hB02.cell (p := ⟨p.fb, 0, none⟩) hfl).trans f0; have g2 := (hB02.cell (p := ⟨p.tb, 0, none⟩) (by simp; omega)).trans t0; have HND2 : Hid (w2.rangeAt p.nb (n * 261) (ndL d (.slice ao d.subs.length c))) := fun j v hv => (hB02.cell (p := ⟨p.nb, n * 261 + j, none⟩) (by simp; omega)).trans (HND.out j v hv); clear hR2 hB2 hB02)
    | (refine wpList_load_mid rfl 140 (.tmp 18) rfl p.nb (n * 261) rfl (ndL d (.slice ao d.subs.length c)) _ HND2.out Try.underlying140 rfl (Try.size140 _ _) ?_)
    | (refine wpList_alloc_row 8 rfl rfl 140 rfl _ Try.info140 ?_; intro w3 h3 hR3 hB3; rw [h2] at hB3 h3; have HR3 : Hid (Row w3 w2.heap.size (ndL ⟨0, fun _ => false, [], 0, 0, 0⟩ (.slice none 0 0))) := hR3; have HB3 : Hid (Below (w.heap.size + 1 + 1) w2 w3) := hB3; clear hR3 hB3)
    | (refine wpList_store_row rfl 140 (.tmp 8) (.tmp 19) rfl _ rfl _ rfl _ HR3.out (by rw [ndL_length, ndL_length]) (Try.size140 _ _) (ndL_one _ _ _ _) ?_; intro w4 hR4 hS4; rw [h2] at hR4 hS4; have hT := ToldIn.mk' h1 h2 h3 HB1.out HB2.out HB3.out HR1.out HR2.out hS4 hR4 hfl f1; have HT : Hid (ToldIn w w4 p d ao c) := hT; have n0 := hT.nd.kind; have n257 := hT.nd.subs; have g1 := hT.s; have e0 := hT.e0 i (by omega); have e2 := hT.e0 (i + 1) (by omega); have HE5 : Hid (Row w4 (w.heap.size + 1) (endsL fun _ => false)) := hT.e; have HZ5 : Hid (Row w4 w.heap.size (endsL fun _ => false)) := hT.z; have HFi5 : Hid (FieldAt w4 p) := HI.out.grow hT.below; have HFm5 : Hid (Fm p w w4) := Below.fm hT.below; clear hR4 hS4 hT g0 g2)
    | (refine wpList_load_row 91 rfl rfl 114 (.tmp 7) rfl _ rfl _ _ HE5.out Try.underlying114 rfl (Try.size114 _) ?_)
    | (refine wpList_store_row rfl 114 (.tmp 6) (.tmp 91) rfl _ rfl _ rfl _ HZ5.out (by simp only [endsL_length]) (Try.size114 _) (endsL_one _) ?_; intro w6 hR6 hS6))
  exact bodyPost_row 6 114 Try.results84 rfl _ rfl _ _ hR6 Try.underlying114 rfl (Try.size114 _) ⟨_, rfl, HSays.out, told_done HFi5.out HFm5.out hS6 hfl hkl hel hNf⟩

set_option maxRecDepth 100000 in
set_option maxHeartbeats 2000000 in
theorem told_grp (p : Fp) (n i : Nat) (d : Nd) (hd : p.nodes[n]? = some d) (h0 : d.kind = 3 ∨ d.kind = 4) (hsf : ∀ x ∈ d.subs, x < p.nodes.length ∧ FromAt p x) (hsl : d.subs.length ≤ 1000) (hkk : d.kind = 3) (w : World) (hI : FieldAt w p) (hi : i ≤ p.s.size) :
    Calls Try.prog 84 #[.pointer (some ⟨p.fb, 0, none⟩), .int .i64 n, .int .i64 i] w fun e w' => ∃ f, e = .returned (.agg (endsL f).toArray) ∧ Says f (Mat p.s p.nodes n i) ∧ FieldAt w' p ∧ Fm p w w' := by
  have HI : Hid (FieldAt w p) := hI
  have hs80 := hI.s80
  have hfl := hI.lt
  have hkl := hI.kl
  have hel := hI.el
  have hNf := hI.nf
  have hNk := hI.nk
  have hNe := hI.ne
  have hn : n < p.nodes.length := by
    rcases Nat.lt_or_ge n p.nodes.length with h | h
    · exact h
    · rw [List.getElem?_eq_none h] at hd; cases hd
  have hmany := hI.tree.many
  have HD : Hid (p.nodes[n]? = some d) := hd
  obtain ⟨ao, c, hnd, hsub⟩ := hI.tree.node n d hd
  have HND : Hid (w.rangeAt p.nb (n * 261) (ndL d (.slice ao d.subs.length c))) := hnd
  have ltb := hI.tree.ltb
  have lnb := hI.tree.lnb
  obtain ⟨cap, t0⟩ := hI.tree.c0
  have f0 := hI.c0
  have f1 := hI.c1
  have k1 : (0 : Int) ≤ (n : Int) := by omega
  have k2 : (n : Int) < (p.nodes.length : Int) := by omega
  have hk0 : (d.kind : Int) = 3 := by omega
  have HNK : Hid (d.kind ≠ 0 ∧ d.kind ≠ 1 ∧ d.kind ≠ 2 ∧ d.kind ≠ 5 ∧ d.kind ≠ 6) := by rcases h0 with h | h <;> (rw [Hid, h]; decide)
  have HSA : Hid (SubsAt w p.N0 d ao) := hsub
  have HSays : Hid (∀ f, Says f (fun j => ∃ x ∈ d.subs, Mat p.s p.nodes x i j) → Says f (Mat p.s p.nodes n i)) := by
    intro f hf j hj
    obtain ⟨a0, a1, a2, a5, a6⟩ := HNK.out
    rw [hf j hj, Mat_eq hI.wf hd, if_neg a0, if_neg a1, if_neg a2, if_neg a5, if_neg a6]
  have HSF : Hid (∀ x ∈ d.subs, x < p.nodes.length ∧ FromAt p x) := hsf
  clear hsf
  clear hI hnd hsub hd h0 hkk
  go_enter Try.func84, Try.ntmps84
  go_wp2_with (first
    | (refine wpList_alloc_row 6 rfl rfl 114 rfl _ Try.info114 ?_; intro w1 h1 hR1 hB1; have HR1 : Hid (Row w1 w.heap.size (endsL fun _ => false)) := hR1; have HB1 : Hid (Below w.heap.size w w1) := hB1; clear hR1 hB1)
    | (refine wpList_alloc_row 7 rfl rfl 114 rfl _ Try.info114 ?_; intro w2 h2 hR2 hB2; rw [h1] at hR2 hB2 h2; have HR2 : Hid (Row w2 (w.heap.size + 1) (endsL fun _ => false)) := hR2; have HB2 : Hid (Below (w.heap.size + 1) w1 w2) := hB2; have hB02 : Below w.heap.size w w2 := HB1.out.trans (hB2.mono (by omega)); have HB02 : Hid (Below w.heap.size w w2) := hB02; have g0 := (hB02.cell (p := ⟨p.fb, 0, none⟩) hfl).trans f0; have g2 := (hB02.cell (p := ⟨p.tb, 0, none⟩) (by simp; omega)).trans t0; have HND2 : Hid (w2.rangeAt p.nb (n * 261) (ndL d (.slice ao d.subs.length c))) := fun j v hv => (hB02.cell (p := ⟨p.nb, n * 261 + j, none⟩) (by simp; omega)).trans (HND.out j v hv); clear hR2 hB2 hB02)
    | (refine wpList_load_mid rfl 140 (.tmp 18) rfl p.nb (n * 261) rfl (ndL d (.slice ao d.subs.length c)) _ HND2.out Try.underlying140 rfl (Try.size140 _ _) ?_)
    | (refine wpList_alloc_row 8 rfl rfl 140 rfl _ Try.info140 ?_; intro w3 h3 hR3 hB3; rw [h2] at hB3 h3; have HR3 : Hid (Row w3 w2.heap.size (ndL ⟨0, fun _ => false, [], 0, 0, 0⟩ (.slice none 0 0))) := hR3; have HB3 : Hid (Below (w.heap.size + 1 + 1) w2 w3) := hB3; clear hR3 hB3)
    | (refine wpList_store_row rfl 140 (.tmp 8) (.tmp 19) rfl _ rfl _ rfl _ HR3.out (by rw [ndL_length, ndL_length]) (Try.size140 _ _) (ndL_one _ _ _ _) ?_; intro w4 hR4 hS4; rw [h2] at hR4 hS4; have hT := ToldIn.mk' h1 h2 h3 HB1.out HB2.out HB3.out HR1.out HR2.out hS4 hR4 hfl f1; have HT : Hid (ToldIn w w4 p d ao c) := hT; have n0 := hT.nd.kind; have n257 := hT.nd.subs; have g1 := hT.s; have e0 := hT.e0 i (by omega); have e2 := hT.e0 (i + 1) (by omega); clear hR4 hS4 hT g0 g2))
  go_loopw [9] (fun v wr => ∃ (k : Nat) (f : Nat → Bool), k ≤ d.subs.length ∧ v = .int .i64 k ∧ Says f (fun j => ∃ x ∈ d.subs.take k, Mat p.s p.nodes x i j) ∧
      Row wr (w.heap.size + 1 + 1) (ndL d (.slice ao d.subs.length c)) ∧ Row wr (w.heap.size + 1) (endsL f) ∧ Row wr w.heap.size (endsL fun _ => false) ∧ FieldAt wr p ∧ Fm p w wr) (fun v _ => d.subs.length - (intOf v).toNat)
  case atStart => exact ⟨0, _, Nat.zero_le _, rfl, fun j _ => ⟨(fun h => absurd h (by simp)), (fun ⟨x, hx, _⟩ => absurd hx (by simp))⟩, HT.out.nd, HT.out.e, HT.out.z, HI.out.grow HT.out.below, Below.fm HT.out.below⟩
  case round =>
    obtain ⟨k, f, hk, rfl, hS, hN, hE, hZ, hFi, hFm⟩ := hrel
    have HN : Hid (Row wr (w.heap.size + 1 + 1) (ndL d (.slice ao d.subs.length c))) := hN
    have HE : Hid (Row wr (w.heap.size + 1) (endsL f)) := hE
    have HZ : Hid (Row wr w.heap.size (endsL fun _ => false)) := hZ
    have HFi : Hid (FieldAt wr p) := hFi
    have HFm : Hid (Fm p w wr) := hFm
    have HS : Hid (Says f (fun j => ∃ x ∈ d.subs.take k, Mat p.s p.nodes x i j)) := hS
    have n257' := hN.subs
    have hol := hN.lt (by rw [ndL_length]; omega)
    clear n0 n257 g1 e0 e2
    by_cases hlt : k < d.subs.length
    · have hsw := hFm.size
      obtain ⟨x, hx⟩ : ∃ x, d.subs[k]? = some x := ⟨d.subs[k], List.getElem?_eq_getElem hlt⟩
      have hxm : x ∈ d.subs := List.mem_of_getElem? hx
      obtain ⟨sb, hao, hsb, hcx⟩ := (HSA.out.below (hFm.below hNk hNe (by omega))) k x hx
      subst hao
      have q1 : (0 : Int) ≤ (k : Int) := by omega
      have q2 : (k : Int) < (d.subs.length : Int) := by omega
      have HFd : Hid (FieldAt wr.drew p) := HFi.out.grow (Below.refl _ _).drew
      have HEd : Hid (Row wr.drew (w.heap.size + 1) (endsL f)) := hE.drew
      have HSZ : Hid (wr.drew.heap.size = wr.heap.size) := rfl
      have HXM : Hid (x < p.nodes.length ∧ FromAt p x) := HSF.out x hxm
      have hl66 := run_L66 HEd.out
      clear hN hE hZ hFi hFm hS
      go_wp2_with fail
      go_region_with ((first
        | (go_at_call 61; refine (HXM.out.2 _ i HFd.out hi).mono ?_; rintro e w5 ⟨f5, rfl, hS5, hFi5, hFm5⟩; have HS5 : Hid (Says f5 (Mat p.s p.nodes x i)) := hS5; have HFi5 : Hid (FieldAt w5 p) := hFi5; have HFm5 : Hid (Fm p wr.drew w5) := hFm5; have hE5 := HEd.out.fm hFm5 (by rw [HSZ.out]; omega) (by omega) (by omega); have HE5 : Hid (Row w5 (w.heap.size + 1) (endsL f)) := hE5; have hl665 := run_L66 hE5; clear hS5 hFi5 hFm5 hE5)
        | (go_at_call 106; refine (joined_any f f5 _).mono ?_; rintro e w6 ⟨rfl, hB6⟩; obtain ⟨w7, hst, hR7, hS7⟩ := run_S66 (HE5.out.below hB6 (by have := HFm5.out.size; rw [HSZ.out] at this; omega)) (fun j => f j || f5 j))))
      all_goals
        have hs5 := HFm5.out.size
        rw [HSZ.out] at hs5
        have HB6 : Hid (Below w5.heap.size w5 w6) := hB6
        have HR7 : Hid (Row w7 (w.heap.size + 1) (endsL fun j => f j || f5 j)) := hR7
        have HS7 : Hid (Sole (w.heap.size + 1) w6 w7) := hS7
        clear hB6 hR7 hS7 hst hl66
        go_wp2_with fail
        go_roundw
        case rel =>
          refine ⟨k + 1, _, by omega, by go_num, fun j hj => ?_, ?_, HR7.out, ?_, (HFi5.out.grow HB6.out).sole HS7.out (by omega) (by omega) (by omega) (by omega), (((HFm.out.trans (Below.fm (Below.refl _ _).drew)).trans HFm5.out).trans (Below.fm HB6.out)).sole HS7.out (by omega)⟩
          · simp only [Bool.or_eq_true]
            have ht : d.subs.take (k + 1) = d.subs.take k ++ [x] := by
              have := take_drop_snoc (k0 := 0) hx (Nat.zero_le _)
              simpa using this
            rw [HS.out j hj, HS5.out j hj, ht]
            constructor
            · rintro (⟨y, hy, hm⟩ | hm)
              · exact ⟨y, List.mem_append_left _ hy, hm⟩
              · exact ⟨x, by simp, hm⟩
            · rintro ⟨y, hy, hm⟩
              rcases List.mem_append.1 hy with h | h
              · exact .inl ⟨y, h, hm⟩
              · have : y = x := by simpa using h
                subst this
                exact .inr hm
          · exact (((Row.drew HN.out).fm HFm5.out (by rw [HSZ.out]; omega) (by omega) (by omega)).below HB6.out (by omega)).sole HS7.out (by omega)
          · exact (((Row.drew HZ.out).fm HFm5.out (by rw [HSZ.out]; omega) (by omega) (by omega)).below HB6.out (by omega)).sole HS7.out (by omega)
        case measure => simp [intOf]; omega
    · have hkk : k = d.subs.length := by omega
      subst hkk
      have HSS : Hid (Says f (Mat p.s p.nodes n i)) := HSays.out f (by
        intro j hj
        rw [HS.out j hj, List.take_length])
      have HE5 := HE
      have HZ5 := HZ
      clear hN hE hZ hFi hFm hS
      go_wp2_with (first
        | (refine wpList_load_row 91 rfl rfl 114 (.tmp 7) rfl _ rfl _ _ HE5.out Try.underlying114 rfl (Try.size114 _) ?_)
        | (refine wpList_store_row rfl 114 (.tmp 6) (.tmp 91) rfl _ rfl _ rfl _ HZ5.out (by simp only [endsL_length]) (Try.size114 _) (endsL_one _) ?_; intro w6 hR6 hS6))
      exact bodyPost_row 6 114 Try.results84 rfl _ rfl _ _ hR6 Try.underlying114 rfl (Try.size114 _) ⟨_, rfl, HSS.out, told_done HFi.out HFm.out hS6 hfl hkl hel hNf⟩

set_option maxRecDepth 100000 in
set_option maxHeartbeats 2000000 in
theorem told_alt (p : Fp) (n i : Nat) (d : Nd) (hd : p.nodes[n]? = some d) (h0 : d.kind = 3 ∨ d.kind = 4) (hsf : ∀ x ∈ d.subs, x < p.nodes.length ∧ FromAt p x) (hsl : d.subs.length ≤ 1000) (hkk : d.kind = 4) (w : World) (hI : FieldAt w p) (hi : i ≤ p.s.size) :
    Calls Try.prog 84 #[.pointer (some ⟨p.fb, 0, none⟩), .int .i64 n, .int .i64 i] w fun e w' => ∃ f, e = .returned (.agg (endsL f).toArray) ∧ Says f (Mat p.s p.nodes n i) ∧ FieldAt w' p ∧ Fm p w w' := by
  have HI : Hid (FieldAt w p) := hI
  have hs80 := hI.s80
  have hfl := hI.lt
  have hkl := hI.kl
  have hel := hI.el
  have hNf := hI.nf
  have hNk := hI.nk
  have hNe := hI.ne
  have hn : n < p.nodes.length := by
    rcases Nat.lt_or_ge n p.nodes.length with h | h
    · exact h
    · rw [List.getElem?_eq_none h] at hd; cases hd
  have hmany := hI.tree.many
  have HD : Hid (p.nodes[n]? = some d) := hd
  obtain ⟨ao, c, hnd, hsub⟩ := hI.tree.node n d hd
  have HND : Hid (w.rangeAt p.nb (n * 261) (ndL d (.slice ao d.subs.length c))) := hnd
  have ltb := hI.tree.ltb
  have lnb := hI.tree.lnb
  obtain ⟨cap, t0⟩ := hI.tree.c0
  have f0 := hI.c0
  have f1 := hI.c1
  have k1 : (0 : Int) ≤ (n : Int) := by omega
  have k2 : (n : Int) < (p.nodes.length : Int) := by omega
  have hk0 : (d.kind : Int) = 4 := by omega
  have HNK : Hid (d.kind ≠ 0 ∧ d.kind ≠ 1 ∧ d.kind ≠ 2 ∧ d.kind ≠ 5 ∧ d.kind ≠ 6) := by rcases h0 with h | h <;> (rw [Hid, h]; decide)
  have HSA : Hid (SubsAt w p.N0 d ao) := hsub
  have HSays : Hid (∀ f, Says f (fun j => ∃ x ∈ d.subs, Mat p.s p.nodes x i j) → Says f (Mat p.s p.nodes n i)) := by
    intro f hf j hj
    obtain ⟨a0, a1, a2, a5, a6⟩ := HNK.out
    rw [hf j hj, Mat_eq hI.wf hd, if_neg a0, if_neg a1, if_neg a2, if_neg a5, if_neg a6]
  have HSF : Hid (∀ x ∈ d.subs, x < p.nodes.length ∧ FromAt p x) := hsf
  clear hsf
  clear hI hnd hsub hd h0 hkk
  go_enter Try.func84, Try.ntmps84
  go_wp2_with (first
    | (refine wpList_alloc_row 6 rfl rfl 114 rfl _ Try.info114 ?_; intro w1 h1 hR1 hB1; have HR1 : Hid (Row w1 w.heap.size (endsL fun _ => false)) := hR1; have HB1 : Hid (Below w.heap.size w w1) := hB1; clear hR1 hB1)
    | (refine wpList_alloc_row 7 rfl rfl 114 rfl _ Try.info114 ?_; intro w2 h2 hR2 hB2; rw [h1] at hR2 hB2 h2; have HR2 : Hid (Row w2 (w.heap.size + 1) (endsL fun _ => false)) := hR2; have HB2 : Hid (Below (w.heap.size + 1) w1 w2) := hB2; have hB02 : Below w.heap.size w w2 := HB1.out.trans (hB2.mono (by omega)); have HB02 : Hid (Below w.heap.size w w2) := hB02; have g0 := (hB02.cell (p := ⟨p.fb, 0, none⟩) hfl).trans f0; have g2 := (hB02.cell (p := ⟨p.tb, 0, none⟩) (by simp; omega)).trans t0; have HND2 : Hid (w2.rangeAt p.nb (n * 261) (ndL d (.slice ao d.subs.length c))) := fun j v hv => (hB02.cell (p := ⟨p.nb, n * 261 + j, none⟩) (by simp; omega)).trans (HND.out j v hv); clear hR2 hB2 hB02)
    | (refine wpList_load_mid rfl 140 (.tmp 18) rfl p.nb (n * 261) rfl (ndL d (.slice ao d.subs.length c)) _ HND2.out Try.underlying140 rfl (Try.size140 _ _) ?_)
    | (refine wpList_alloc_row 8 rfl rfl 140 rfl _ Try.info140 ?_; intro w3 h3 hR3 hB3; rw [h2] at hB3 h3; have HR3 : Hid (Row w3 w2.heap.size (ndL ⟨0, fun _ => false, [], 0, 0, 0⟩ (.slice none 0 0))) := hR3; have HB3 : Hid (Below (w.heap.size + 1 + 1) w2 w3) := hB3; clear hR3 hB3)
    | (refine wpList_store_row rfl 140 (.tmp 8) (.tmp 19) rfl _ rfl _ rfl _ HR3.out (by rw [ndL_length, ndL_length]) (Try.size140 _ _) (ndL_one _ _ _ _) ?_; intro w4 hR4 hS4; rw [h2] at hR4 hS4; have hT := ToldIn.mk' h1 h2 h3 HB1.out HB2.out HB3.out HR1.out HR2.out hS4 hR4 hfl f1; have HT : Hid (ToldIn w w4 p d ao c) := hT; have n0 := hT.nd.kind; have n257 := hT.nd.subs; have g1 := hT.s; have e0 := hT.e0 i (by omega); have e2 := hT.e0 (i + 1) (by omega); clear hR4 hS4 hT g0 g2))
  go_loopw [9] (fun v wr => ∃ (k : Nat) (f : Nat → Bool), k ≤ d.subs.length ∧ v = .int .i64 k ∧ Says f (fun j => ∃ x ∈ d.subs.take k, Mat p.s p.nodes x i j) ∧
      Row wr (w.heap.size + 1 + 1) (ndL d (.slice ao d.subs.length c)) ∧ Row wr (w.heap.size + 1) (endsL f) ∧ Row wr w.heap.size (endsL fun _ => false) ∧ FieldAt wr p ∧ Fm p w wr) (fun v _ => d.subs.length - (intOf v).toNat)
  case atStart => exact ⟨0, _, Nat.zero_le _, rfl, fun j _ => ⟨(fun h => absurd h (by simp)), (fun ⟨x, hx, _⟩ => absurd hx (by simp))⟩, HT.out.nd, HT.out.e, HT.out.z, HI.out.grow HT.out.below, Below.fm HT.out.below⟩
  case round =>
    obtain ⟨k, f, hk, rfl, hS, hN, hE, hZ, hFi, hFm⟩ := hrel
    have HN : Hid (Row wr (w.heap.size + 1 + 1) (ndL d (.slice ao d.subs.length c))) := hN
    have HE : Hid (Row wr (w.heap.size + 1) (endsL f)) := hE
    have HZ : Hid (Row wr w.heap.size (endsL fun _ => false)) := hZ
    have HFi : Hid (FieldAt wr p) := hFi
    have HFm : Hid (Fm p w wr) := hFm
    have HS : Hid (Says f (fun j => ∃ x ∈ d.subs.take k, Mat p.s p.nodes x i j)) := hS
    have n257' := hN.subs
    have hol := hN.lt (by rw [ndL_length]; omega)
    clear n0 n257 g1 e0 e2
    by_cases hlt : k < d.subs.length
    · have hsw := hFm.size
      obtain ⟨x, hx⟩ : ∃ x, d.subs[k]? = some x := ⟨d.subs[k], List.getElem?_eq_getElem hlt⟩
      have hxm : x ∈ d.subs := List.mem_of_getElem? hx
      obtain ⟨sb, hao, hsb, hcx⟩ := (HSA.out.below (hFm.below hNk hNe (by omega))) k x hx
      subst hao
      have q1 : (0 : Int) ≤ (k : Int) := by omega
      have q2 : (k : Int) < (d.subs.length : Int) := by omega
      have HFd : Hid (FieldAt wr.drew p) := HFi.out.grow (Below.refl _ _).drew
      have HEd : Hid (Row wr.drew (w.heap.size + 1) (endsL f)) := hE.drew
      have HSZ : Hid (wr.drew.heap.size = wr.heap.size) := rfl
      have HXM : Hid (x < p.nodes.length ∧ FromAt p x) := HSF.out x hxm
      have hl66 := run_L66 HEd.out
      clear hN hE hZ hFi hFm hS
      go_wp2_with fail
      go_region_with ((first
        | (go_at_call 61; refine (HXM.out.2 _ i HFd.out hi).mono ?_; rintro e w5 ⟨f5, rfl, hS5, hFi5, hFm5⟩; have HS5 : Hid (Says f5 (Mat p.s p.nodes x i)) := hS5; have HFi5 : Hid (FieldAt w5 p) := hFi5; have HFm5 : Hid (Fm p wr.drew w5) := hFm5; have hE5 := HEd.out.fm hFm5 (by rw [HSZ.out]; omega) (by omega) (by omega); have HE5 : Hid (Row w5 (w.heap.size + 1) (endsL f)) := hE5; have hl665 := run_L66 hE5; clear hS5 hFi5 hFm5 hE5)
        | (go_at_call 106; refine (joined_any f f5 _).mono ?_; rintro e w6 ⟨rfl, hB6⟩; obtain ⟨w7, hst, hR7, hS7⟩ := run_S66 (HE5.out.below hB6 (by have := HFm5.out.size; rw [HSZ.out] at this; omega)) (fun j => f j || f5 j))))
      all_goals
        have hs5 := HFm5.out.size
        rw [HSZ.out] at hs5
        have HB6 : Hid (Below w5.heap.size w5 w6) := hB6
        have HR7 : Hid (Row w7 (w.heap.size + 1) (endsL fun j => f j || f5 j)) := hR7
        have HS7 : Hid (Sole (w.heap.size + 1) w6 w7) := hS7
        clear hB6 hR7 hS7 hst hl66
        go_wp2_with fail
        go_roundw
        case rel =>
          refine ⟨k + 1, _, by omega, by go_num, fun j hj => ?_, ?_, HR7.out, ?_, (HFi5.out.grow HB6.out).sole HS7.out (by omega) (by omega) (by omega) (by omega), (((HFm.out.trans (Below.fm (Below.refl _ _).drew)).trans HFm5.out).trans (Below.fm HB6.out)).sole HS7.out (by omega)⟩
          · simp only [Bool.or_eq_true]
            have ht : d.subs.take (k + 1) = d.subs.take k ++ [x] := by
              have := take_drop_snoc (k0 := 0) hx (Nat.zero_le _)
              simpa using this
            rw [HS.out j hj, HS5.out j hj, ht]
            constructor
            · rintro (⟨y, hy, hm⟩ | hm)
              · exact ⟨y, List.mem_append_left _ hy, hm⟩
              · exact ⟨x, by simp, hm⟩
            · rintro ⟨y, hy, hm⟩
              rcases List.mem_append.1 hy with h | h
              · exact .inl ⟨y, h, hm⟩
              · have : y = x := by simpa using h
                subst this
                exact .inr hm
          · exact (((Row.drew HN.out).fm HFm5.out (by rw [HSZ.out]; omega) (by omega) (by omega)).below HB6.out (by omega)).sole HS7.out (by omega)
          · exact (((Row.drew HZ.out).fm HFm5.out (by rw [HSZ.out]; omega) (by omega) (by omega)).below HB6.out (by omega)).sole HS7.out (by omega)
        case measure => simp [intOf]; omega
    · have hkk : k = d.subs.length := by omega
      subst hkk
      have HSS : Hid (Says f (Mat p.s p.nodes n i)) := HSays.out f (by
        intro j hj
        rw [HS.out j hj, List.take_length])
      have HE5 := HE
      have HZ5 := HZ
      clear hN hE hZ hFi hFm hS
      go_wp2_with (first
        | (refine wpList_load_row 91 rfl rfl 114 (.tmp 7) rfl _ rfl _ _ HE5.out Try.underlying114 rfl (Try.size114 _) ?_)
        | (refine wpList_store_row rfl 114 (.tmp 6) (.tmp 91) rfl _ rfl _ rfl _ HZ5.out (by simp only [endsL_length]) (Try.size114 _) (endsL_one _) ?_; intro w6 hR6 hS6))
      exact bodyPost_row 6 114 Try.results84 rfl _ rfl _ _ hR6 Try.underlying114 rfl (Try.size114 _) ⟨_, rfl, HSS.out, told_done HFi.out HFm.out hS6 hfl hkl hel hNf⟩

set_option maxRecDepth 100000 in
set_option maxHeartbeats 2000000 in
theorem told_row (p : Fp) (n i : Nat) (d : Nd) (hd : p.nodes[n]? = some d) (h0 : d.kind = 5) (hsf : ∀ x ∈ d.subs, x < p.nodes.length ∧ FromAt p x) (hsl : d.subs.length ≤ 1000) (w : World) (hI : FieldAt w p) (hi : i ≤ p.s.size) :
    Calls Try.prog 84 #[.pointer (some ⟨p.fb, 0, none⟩), .int .i64 n, .int .i64 i] w fun e w' => ∃ f, e = .returned (.agg (endsL f).toArray) ∧ Says f (Mat p.s p.nodes n i) ∧ FieldAt w' p ∧ Fm p w w' := by
  have HI : Hid (FieldAt w p) := hI
  have hs80 := hI.s80
  have hfl := hI.lt
  have hkl := hI.kl
  have hel := hI.el
  have hNf := hI.nf
  have hNk := hI.nk
  have hNe := hI.ne
  have hn : n < p.nodes.length := by
    rcases Nat.lt_or_ge n p.nodes.length with h | h
    · exact h
    · rw [List.getElem?_eq_none h] at hd; cases hd
  have hmany := hI.tree.many
  have HD : Hid (p.nodes[n]? = some d) := hd
  obtain ⟨ao, c, hnd, hsub⟩ := hI.tree.node n d hd
  have HND : Hid (w.rangeAt p.nb (n * 261) (ndL d (.slice ao d.subs.length c))) := hnd
  have ltb := hI.tree.ltb
  have lnb := hI.tree.lnb
  obtain ⟨cap, t0⟩ := hI.tree.c0
  have f0 := hI.c0
  have f1 := hI.c1
  have k1 : (0 : Int) ≤ (n : Int) := by omega
  have k2 : (n : Int) < (p.nodes.length : Int) := by omega
  have hk0 : (d.kind : Int) = 5 := by omega
  have HSA : Hid (SubsAt w p.N0 d ao) := hsub
  have HSays : Hid (∀ f, Says f (fun j => ∃ i', (fun k => decide (k = i)) i' = true ∧ Chain ((d.subs.drop 0).map fun x => Mat p.s p.nodes x) i' j) → Says f (Mat p.s p.nodes n i)) := by
    intro f hf j hj
    rw [hf j hj, Mat_eq hI.wf hd, if_neg (by omega), if_neg (by omega), if_neg (by omega), if_pos h0]
    constructor
    · rintro ⟨i', h1, h2⟩
      have : i' = i := by simpa using h1
      subst this
      exact h2
    · intro h
      exact ⟨i, by simp, h⟩
  have HSF : Hid (∀ x ∈ d.subs, x < p.nodes.length ∧ FromAt p x) := hsf
  have HAI : Hid (∀ k, (fun k => decide (k = i)) k = true → k ≤ p.s.size) := fun k hk => by
    have : k = i := by simpa using hk
    omega
  clear hsf
  clear hI hnd hsub hd h0
  go_enter Try.func84, Try.ntmps84
  go_wp2_with (first
    | (refine wpList_alloc_row 6 rfl rfl 114 rfl _ Try.info114 ?_; intro w1 h1 hR1 hB1; have HR1 : Hid (Row w1 w.heap.size (endsL fun _ => false)) := hR1; have HB1 : Hid (Below w.heap.size w w1) := hB1; clear hR1 hB1)
    | (refine wpList_alloc_row 7 rfl rfl 114 rfl _ Try.info114 ?_; intro w2 h2 hR2 hB2; rw [h1] at hR2 hB2 h2; have HR2 : Hid (Row w2 (w.heap.size + 1) (endsL fun _ => false)) := hR2; have HB2 : Hid (Below (w.heap.size + 1) w1 w2) := hB2; have hB02 : Below w.heap.size w w2 := HB1.out.trans (hB2.mono (by omega)); have HB02 : Hid (Below w.heap.size w w2) := hB02; have g0 := (hB02.cell (p := ⟨p.fb, 0, none⟩) hfl).trans f0; have g2 := (hB02.cell (p := ⟨p.tb, 0, none⟩) (by simp; omega)).trans t0; have HND2 : Hid (w2.rangeAt p.nb (n * 261) (ndL d (.slice ao d.subs.length c))) := fun j v hv => (hB02.cell (p := ⟨p.nb, n * 261 + j, none⟩) (by simp; omega)).trans (HND.out j v hv); clear hR2 hB2 hB02)
    | (refine wpList_load_mid rfl 140 (.tmp 18) rfl p.nb (n * 261) rfl (ndL d (.slice ao d.subs.length c)) _ HND2.out Try.underlying140 rfl (Try.size140 _ _) ?_)
    | (refine wpList_alloc_row 8 rfl rfl 140 rfl _ Try.info140 ?_; intro w3 h3 hR3 hB3; rw [h2] at hB3 h3; have HR3 : Hid (Row w3 w2.heap.size (ndL ⟨0, fun _ => false, [], 0, 0, 0⟩ (.slice none 0 0))) := hR3; have HB3 : Hid (Below (w.heap.size + 1 + 1) w2 w3) := hB3; clear hR3 hB3)
    | (refine wpList_store_row rfl 140 (.tmp 8) (.tmp 19) rfl _ rfl _ rfl _ HR3.out (by rw [ndL_length, ndL_length]) (Try.size140 _ _) (ndL_one _ _ _ _) ?_; intro w4 hR4 hS4; rw [h2] at hR4 hS4; have hT := ToldIn.mk' h1 h2 h3 HB1.out HB2.out HB3.out HR1.out HR2.out hS4 hR4 hfl f1; have HT : Hid (ToldIn w w4 p d ao c) := hT; have n0 := hT.nd.kind; have n257 := hT.nd.subs; have g1 := hT.s; have e0 := hT.e0 i (by omega); have e2 := hT.e0 (i + 1) (by omega); clear hR4 hS4 hT g0 g2))
  have HFd : Hid (FieldAt w4.drew p) := (HI.out.grow HT.out.below).grow (Below.refl _ _).drew
  have HFmd : Hid (Fm p w w4.drew) := (Below.fm HT.out.below).trans (Below.fm (Below.refl _ _).drew)
  have HNd : Hid (Row w4.drew (w.heap.size + 1 + 1) (ndL d (.slice ao d.subs.length c))) := HT.out.nd.drew
  have HEd : Hid (Row w4.drew (w.heap.size + 1) (endsL fun _ => false)) := HT.out.e.drew
  have HZd : Hid (Row w4.drew w.heap.size (endsL fun _ => false)) := HT.out.z.drew
  have HSd : Hid (SubsAt w4.drew p.N0 d ao) := HSA.out.below (HFmd.out.below hNk hNe (by omega))
  have hl73 := run_L73 HNd.out
  have HSZ : Hid (w4.drew.heap.size = w.heap.size + 1 + 1 + 1) := HT.out.size
  clear n0 n257 g1 e0 e2
  go_region_with ((first
    | (go_at_call 86; refine (donly_any i _ (by omega)).mono ?_; rintro e w5 ⟨rfl, hB5⟩; have HB5 : Hid (Below w4.drew.heap.size w4.drew w5) := hB5; have hl735 := run_L73 (HNd.out.below hB5 (by rw [HSZ.out]; omega)); clear hB5)
    | (go_at_call 85; refine (rows_any p d ao c HSF.out _ 0 _ (HFd.out.grow HB5.out) (HSd.out.below (HB5.out.mono (by rw [HSZ.out]; omega))) hsl HAI.out).mono ?_; rintro e w6 ⟨f6, rfl, hS6, hFi6, hFm6⟩; obtain ⟨w7, hst, hR7, hS7⟩ := run_S66 ((HEd.out.below HB5.out (by rw [HSZ.out]; omega)).fm hFm6 (by have := HB5.out.size; rw [HSZ.out] at this; omega) (by omega) (by omega)) f6)))
  all_goals
    have hs6 := hFm6.size
    have hs5 := HB5.out.size
    rw [HSZ.out] at hs5
    have HE5 : Hid (Row w7 (w.heap.size + 1) (endsL f6)) := hR7
    have HZ5 : Hid (Row w7 w.heap.size (endsL fun _ => false)) := ((HZd.out.below HB5.out (by rw [HSZ.out]; omega)).fm hFm6 (by omega) (by omega) (by omega)).sole hS7 (by omega)
    have HFi5 : Hid (FieldAt w7 p) := hFi6.sole hS7 (by omega) (by omega) (by omega) (by omega)
    have HFm5 : Hid (Fm p w w7) := ((HFmd.out.trans (Below.fm HB5.out)).trans hFm6).sole hS7 (by omega)
    have HSS : Hid (Says f6 (Mat p.s p.nodes n i)) := HSays.out f6 hS6
    clear hS6 hFi6 hFm6 hst hR7 hS7 hl73
    go_wp2_with (first
      | (refine wpList_load_row 91 rfl rfl 114 (.tmp 7) rfl _ rfl _ _ HE5.out Try.underlying114 rfl (Try.size114 _) ?_)
      | (refine wpList_store_row rfl 114 (.tmp 6) (.tmp 91) rfl _ rfl _ rfl _ HZ5.out (by simp only [endsL_length]) (Try.size114 _) (endsL_one _) ?_; intro w6 hR6 hS6))
    exact bodyPost_row 6 114 Try.results84 rfl _ rfl _ _ hR6 Try.underlying114 rfl (Try.size114 _) ⟨_, rfl, HSS.out, told_done HFi5.out HFm5.out hS6 hfl hkl hel hNf⟩

set_option maxRecDepth 100000 in
set_option maxHeartbeats 2000000 in
theorem told_times (p : Fp) (n i : Nat) (d : Nd) (hd : p.nodes[n]? = some d) (x : Nat) (h0 : d.kind = 6) (hx0 : d.subs[0]? = some x) (hsf : x < p.nodes.length ∧ FromAt p x) (hsl : d.subs.length ≤ 1000) (hlo : d.lo ≤ 1000) (hhi : -1 ≤ d.hi ∧ d.hi ≤ 1000) (hlh : d.hi < 0 ∨ (d.lo : Int) ≤ d.hi) (w : World) (hI : FieldAt w p) (hi : i ≤ p.s.size) :
    Calls Try.prog 84 #[.pointer (some ⟨p.fb, 0, none⟩), .int .i64 n, .int .i64 i] w fun e w' => ∃ f, e = .returned (.agg (endsL f).toArray) ∧ Says f (Mat p.s p.nodes n i) ∧ FieldAt w' p ∧ Fm p w w' := by
  have HI : Hid (FieldAt w p) := hI
  have hs80 := hI.s80
  have hfl := hI.lt
  have hkl := hI.kl
  have hel := hI.el
  have hNf := hI.nf
  have hNk := hI.nk
  have hNe := hI.ne
  have hn : n < p.nodes.length := by
    rcases Nat.lt_or_ge n p.nodes.length with h | h
    · exact h
    · rw [List.getElem?_eq_none h] at hd; cases hd
  have hmany := hI.tree.many
  have HD : Hid (p.nodes[n]? = some d) := hd
  obtain ⟨ao, c, hnd, hsub⟩ := hI.tree.node n d hd
  have HND : Hid (w.rangeAt p.nb (n * 261) (ndL d (.slice ao d.subs.length c))) := hnd
  have ltb := hI.tree.ltb
  have lnb := hI.tree.lnb
  obtain ⟨cap, t0⟩ := hI.tree.c0
  have f0 := hI.c0
  have f1 := hI.c1
  have k1 : (0 : Int) ≤ (n : Int) := by omega
  have k2 : (n : Int) < (p.nodes.length : Int) := by omega
  have hk0 : (d.kind : Int) = 6 := by omega
  have HSA : Hid (SubsAt w p.N0 d ao) := hsub
  have HSays : Hid (∀ f, Says f (TimesR (Mat p.s p.nodes x) d.lo d.hi 0 (fun i' => (fun k => decide (k = i)) i' = true)) → Says f (Mat p.s p.nodes n i)) := by
    intro f hf j hj
    have hx' : d.subs.getD 0 0 = x := by rw [List.getD_eq_getElem?_getD, hx0]; rfl
    rw [hf j hj, Mat_eq hI.wf hd, if_neg (by omega), if_neg (by omega), if_neg (by omega), if_neg (by omega), if_pos h0, hx']
    unfold TimesR Times
    constructor
    · rintro ⟨i', m, q, h1, h2, h3, h4⟩
      have : i' = i := by simpa using h1
      subst this
      exact ⟨m, q, h2, by have := hlh; simp at h3; omega, h4⟩
    · rintro ⟨m, q, h2, h3, h4⟩
      exact ⟨i, m, q, by simp, h2, by simp; omega, h4⟩
  have HXM : Hid (x < p.nodes.length ∧ FromAt p x) := hsf
  have HX0 : Hid (d.subs[0]? = some x) := hx0
  have HAI : Hid (∀ k, (fun k => decide (k = i)) k = true → k ≤ p.s.size) := fun k hk => by
    have : k = i := by simpa using hk
    omega
  clear hsf hx0
  clear hI hnd hsub hd h0
  go_enter Try.func84, Try.ntmps84
  go_wp2_with (first
    | (refine wpList_alloc_row 6 rfl rfl 114 rfl _ Try.info114 ?_; intro w1 h1 hR1 hB1; have HR1 : Hid (Row w1 w.heap.size (endsL fun _ => false)) := hR1; have HB1 : Hid (Below w.heap.size w w1) := hB1; clear hR1 hB1)
    | (refine wpList_alloc_row 7 rfl rfl 114 rfl _ Try.info114 ?_; intro w2 h2 hR2 hB2; rw [h1] at hR2 hB2 h2; have HR2 : Hid (Row w2 (w.heap.size + 1) (endsL fun _ => false)) := hR2; have HB2 : Hid (Below (w.heap.size + 1) w1 w2) := hB2; have hB02 : Below w.heap.size w w2 := HB1.out.trans (hB2.mono (by omega)); have HB02 : Hid (Below w.heap.size w w2) := hB02; have g0 := (hB02.cell (p := ⟨p.fb, 0, none⟩) hfl).trans f0; have g2 := (hB02.cell (p := ⟨p.tb, 0, none⟩) (by simp; omega)).trans t0; have HND2 : Hid (w2.rangeAt p.nb (n * 261) (ndL d (.slice ao d.subs.length c))) := fun j v hv => (hB02.cell (p := ⟨p.nb, n * 261 + j, none⟩) (by simp; omega)).trans (HND.out j v hv); clear hR2 hB2 hB02)
    | (refine wpList_load_mid rfl 140 (.tmp 18) rfl p.nb (n * 261) rfl (ndL d (.slice ao d.subs.length c)) _ HND2.out Try.underlying140 rfl (Try.size140 _ _) ?_)
    | (refine wpList_alloc_row 8 rfl rfl 140 rfl _ Try.info140 ?_; intro w3 h3 hR3 hB3; rw [h2] at hB3 h3; have HR3 : Hid (Row w3 w2.heap.size (ndL ⟨0, fun _ => false, [], 0, 0, 0⟩ (.slice none 0 0))) := hR3; have HB3 : Hid (Below (w.heap.size + 1 + 1) w2 w3) := hB3; clear hR3 hB3)
    | (refine wpList_store_row rfl 140 (.tmp 8) (.tmp 19) rfl _ rfl _ rfl _ HR3.out (by rw [ndL_length, ndL_length]) (Try.size140 _ _) (ndL_one _ _ _ _) ?_; intro w4 hR4 hS4; rw [h2] at hR4 hS4; have hT := ToldIn.mk' h1 h2 h3 HB1.out HB2.out HB3.out HR1.out HR2.out hS4 hR4 hfl f1; have HT : Hid (ToldIn w w4 p d ao c) := hT; have n0 := hT.nd.kind; have n257 := hT.nd.subs; have g1 := hT.s; have e0 := hT.e0 i (by omega); have e2 := hT.e0 (i + 1) (by omega); clear hR4 hS4 hT g0 g2))
  have HFd : Hid (FieldAt w4.drew p) := (HI.out.grow HT.out.below).grow (Below.refl _ _).drew
  have HFmd : Hid (Fm p w w4.drew) := (Below.fm HT.out.below).trans (Below.fm (Below.refl _ _).drew)
  have HNd : Hid (Row w4.drew (w.heap.size + 1 + 1) (ndL d (.slice ao d.subs.length c))) := HT.out.nd.drew
  have HEd : Hid (Row w4.drew (w.heap.size + 1) (endsL fun _ => false)) := HT.out.e.drew
  have HZd : Hid (Row w4.drew w.heap.size (endsL fun _ => false)) := HT.out.z.drew
  have HSd : Hid (SubsAt w4.drew p.N0 d ao) := HSA.out.below (HFmd.out.below hNk hNe (by omega))
  have hl73 := run_L73 HNd.out
  have HSZ : Hid (w4.drew.heap.size = w.heap.size + 1 + 1 + 1) := HT.out.size
  clear n0 n257 g1 e0 e2
  go_region_with ((first
    | (go_at_call 86; refine (donly_any i _ (by omega)).mono ?_; rintro e w5 ⟨rfl, hB5⟩; have HB5 : Hid (Below w4.drew.heap.size w4.drew w5) := hB5; have hl735 := run_L73 (HNd.out.below hB5 (by rw [HSZ.out]; omega)); clear hB5)
    | (go_at_call 87; refine (times_any p d ao c x HX0.out HXM.out _ 0 _ (HFd.out.grow HB5.out) (HSd.out.below (HB5.out.mono (by rw [HSZ.out]; omega))) hsl hlo hhi (by omega) HAI.out).mono ?_; rintro e w6 ⟨f6, rfl, hS6, hFi6, hFm6⟩; obtain ⟨w7, hst, hR7, hS7⟩ := run_S66 ((HEd.out.below HB5.out (by rw [HSZ.out]; omega)).fm hFm6 (by have := HB5.out.size; rw [HSZ.out] at this; omega) (by omega) (by omega)) f6)))
  all_goals
    have hs6 := hFm6.size
    have hs5 := HB5.out.size
    rw [HSZ.out] at hs5
    have HE5 : Hid (Row w7 (w.heap.size + 1) (endsL f6)) := hR7
    have HZ5 : Hid (Row w7 w.heap.size (endsL fun _ => false)) := ((HZd.out.below HB5.out (by rw [HSZ.out]; omega)).fm hFm6 (by omega) (by omega) (by omega)).sole hS7 (by omega)
    have HFi5 : Hid (FieldAt w7 p) := hFi6.sole hS7 (by omega) (by omega) (by omega) (by omega)
    have HFm5 : Hid (Fm p w w7) := ((HFmd.out.trans (Below.fm HB5.out)).trans hFm6).sole hS7 (by omega)
    have HSS : Hid (Says f6 (Mat p.s p.nodes n i)) := HSays.out f6 hS6
    clear hS6 hFi6 hFm6 hst hR7 hS7 hl73
    go_wp2_with (first
      | (refine wpList_load_row 91 rfl rfl 114 (.tmp 7) rfl _ rfl _ _ HE5.out Try.underlying114 rfl (Try.size114 _) ?_)
      | (refine wpList_store_row rfl 114 (.tmp 6) (.tmp 91) rfl _ rfl _ rfl _ HZ5.out (by simp only [endsL_length]) (Try.size114 _) (endsL_one _) ?_; intro w6 hR6 hS6))
    exact bodyPost_row 6 114 Try.results84 rfl _ rfl _ _ hR6 Try.underlying114 rfl (Try.size114 _) ⟨_, rfl, HSS.out, told_done HFi5.out HFm5.out hS6 hfl hkl hel hNf⟩


/-- A node as the document makes them. -/
structure NdOk (d : Nd) : Prop where
  kind : d.kind ≤ 6
  subs : d.subs.length ≤ 1000
  lo : d.lo ≤ 1000
  hi : -1 ≤ d.hi ∧ d.hi ≤ 1000
  lh : d.hi < 0 ∨ (d.lo : Int) ≤ d.hi

theorem told_any (p : Fp) (n : Nat) (d : Nd) (hd : p.nodes[n]? = some d) (hk : NdOk d) (hf : ∀ x ∈ d.subs, x < p.nodes.length ∧ FromAt p x) : ToldAt p n := by
  intro w i hI hi
  have hkk := hk.kind
  obtain ⟨_, h6⟩ := hI.wf n d hd
  obtain h | h | h | h | h | h | h : d.kind = 0 ∨ d.kind = 1 ∨ d.kind = 2 ∨ d.kind = 3 ∨ d.kind = 4 ∨ d.kind = 5 ∨ d.kind = 6 := by omega
  · by_cases hlt : i < p.s.size
    · exact told_set_in p n i d hd h hlt w hI hi
    · exact told_set_out p n i d hd h hlt w hI hi
  · exact told_bol p n i d hd h w hI hi
  · exact told_eol p n i d hd h w hI hi
  · exact told_grp p n i d hd (.inl h) hf hk.subs h w hI hi
  · exact told_alt p n i d hd (.inr h) hf hk.subs h w hI hi
  · exact told_row p n i d hd h hf hk.subs w hI hi
  · have hne := h6 h
    obtain ⟨x, hx⟩ : ∃ x, d.subs[0]? = some x := by
      cases hs : d.subs with
      | nil => exact absurd hs hne
      | cons a l => exact ⟨a, rfl⟩
    exact told_times p n i d hd x h hx (hf x (List.mem_of_getElem? hx)) hk.subs hk.lo hk.hi hk.lh w hI hi

/-- THE TABLE: 'from' tells, at every node and place, where a match can end. -/
theorem from_all (p : Fp) (hw : Wf p.nodes) (hok : ∀ (n : Nat) (d : Nd), p.nodes[n]? = some d → NdOk d) : ∀ (N n : Nat), n < N → n < p.nodes.length → FromAt p n
  | 0, n, h, _ => by omega
  | N + 1, n, h, hn => by
    have hd : p.nodes[n]? = some p.nodes[n] := List.getElem?_eq_getElem hn
    obtain ⟨hs, _⟩ := hw n _ hd
    exact from_any p n (told_any p n _ hd (hok n _ hd) (fun x hx => by
      have := hs x hx
      exact ⟨by omega, from_all p hw hok N x (by omega) (by omega)⟩)) hn

end Go.Proofs.Ytppjlpihaocdiaa
