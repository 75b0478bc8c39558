/- The document's field is laid: two tables, nothing known yet. -/
import Derived.Test.YtppjlpihaocdiaaRefFromJ
import Derived.Laws.MakeOwn
set_option linter.unusedSimpArgs false
set_option linter.unusedVariables false
namespace Go.Proofs.Ytppjlpihaocdiaa
open Go.RowKit

def M61 (a b : Value) : Sem Value := Instr.makeSlice 109 a b
def M62 (a b : Value) : Sem Value := Instr.makeSlice 110 a b
theorem M61_eq (a b : Value) : Instr.makeSlice 109 a b = M61 a b := rfl
theorem M62_eq (a b : Value) : Instr.makeSlice 110 a b = M62 a b := rfl
attribute [local go_sem ↓] M61_eq M62_eq Go.wp_at_zero Go.wp_at_succ

theorem Try.info4 : (Try.prog.info? 4).map (fun i => (i.zero, i.size, i.bytes)) = some (some (.bool false), 1, 1) := by kernel_rfl
theorem Try.info66b : (Try.prog.info? 114).map (fun i => (i.zero, i.size, i.bytes)) = some (some (.agg (endsL fun _ => false).toArray), 82, 82) := by kernel_rfl

theorem madeCells_false (z : Array Value) (hz : ∀ k, k < z.size → z[k]! = .bool false) (hp : 0 < z.size) (n q : Nat) (hq : q < n) : (madeCells z n)[q]? = some (.bool false) := by
  unfold madeCells
  rw [Array.getElem?_map]
  simp only [Array.getElem?_range, hq, if_true, Option.map_some]
  rw [hz _ (Nat.mod_lt _ hp)]

/-- The two makes: where the tables lie, and that nothing is in them. -/
theorem run_M61 (n : Nat) (hn : n ≤ 100000) : ∃ A : Array Value, (∀ q, q < n → A[q]? = some (.bool false)) ∧ ∀ w, (M61 (.int .i64 n) (.int .i64 n)).run Try.prog w = .ok (.slice (some ⟨w.heap.size, 0, none⟩) n n) (w.alloc (.cells A 4)) := by
  obtain ⟨i0, hi0, hz0, hz1, hz2⟩ := info_parts Try.info4
  refine ⟨madeCells (Value.bool false).cells (n * 1), fun q hq => madeCells_false _ ?_ ?_ _ q (by omega), fun w => ?_⟩
  · intro k hk
    have : k = 0 := by simp [Value.cells] at hk; omega
    subst this; rfl
  · simp [Value.cells]
  · have := run_make (P := Try.prog) w 109 4 i0 _ Try.underlying109 hi0 hz0 .i64 .i64 n n (by omega) (Int.le_refl _) (by rw [hz2]; omega) (by omega)
    rw [hz1] at this
    rw [← M61_eq]
    simpa using this

theorem run_M62 (n : Nat) (hn : n ≤ 100000) : ∃ A : Array Value, (∀ q, q < n * 82 → A[q]? = some (.bool false)) ∧ ∀ w, (M62 (.int .i64 n) (.int .i64 n)).run Try.prog w = .ok (.slice (some ⟨w.heap.size, 0, none⟩) n n) (w.alloc (.cells A 114)) := by
  obtain ⟨i0, hi0, hz0, hz1, hz2⟩ := info_parts Try.info66b
  refine ⟨madeCells (Value.agg (endsL fun _ => false).toArray).cells (n * 82), fun q hq => madeCells_false _ ?_ ?_ _ q hq, fun w => ?_⟩
  · intro k hk
    have hk' : k < 82 := by simpa [Value.cells, endsL_length] using hk
    have h := endsL_at (fun _ => false) hk'
    show (endsL fun _ => false).toArray[k]! = _
    rw [getElem!_def]
    simp [h]
  · simp [Value.cells, endsL_length]
  · have := run_make (P := Try.prog) w 110 114 i0 _ Try.underlying110 hi0 hz0 .i64 .i64 n n (by omega) (Int.le_refl _) (by rw [hz2]; omega) (by omega)
    rw [hz1] at this
    rw [← M62_eq]
    simpa using this

theorem all_false (A : Array Value) (n : Nat) (h : ∀ q, q < n → A[q]? = some (.bool false)) {w : World} {b t : Nat} (hb : w.heap[b]? = some (.cells A t)) : ∀ q, q < n → w.cell? ⟨b, q, none⟩ = some (.bool false) ∧ w.frozen? ⟨b, q, none⟩ = false := by
  intro q hq
  refine ⟨by rw [cell_of_row w b q A t (0, 0) hb]; exact h q hq, ?_⟩
  simp [World.frozen?, hb]

/-- Three new blocks. -/
theorem three_new (w : World) (o1 o2 o3 : Obj) : (((w.alloc o1).alloc o2).alloc o3).drew.heap[w.heap.size]? = some o1 ∧ (((w.alloc o1).alloc o2).alloc o3).drew.heap[w.heap.size + 1]? = some o2 ∧ (((w.alloc o1).alloc o2).alloc o3).drew.heap[w.heap.size + 1 + 1]? = some o3 ∧ Below w.heap.size w (((w.alloc o1).alloc o2).alloc o3).drew ∧ (((w.alloc o1).alloc o2).alloc o3).drew.heap.size = w.heap.size + 1 + 1 + 1 := by
  have e1 : (w.alloc o1).heap.size = w.heap.size + 1 := by simp
  have e2 : ((w.alloc o1).alloc o2).heap.size = w.heap.size + 1 + 1 := by simp
  refine ⟨?_, ?_, ?_, ((((Below.refl _ _).alloc (Nat.le_refl _) _).alloc (by omega) _).alloc (by omega) _).drew, by simp⟩
  · show (((w.alloc o1).alloc o2).alloc o3).heap[w.heap.size]? = _
    rw [Below.heap_alloc _ _ _ (by omega), Below.heap_alloc _ _ _ (by omega)]
    exact heap_alloc_last w o1
  · show (((w.alloc o1).alloc o2).alloc o3).heap[w.heap.size + 1]? = _
    rw [Below.heap_alloc _ _ _ (by omega), ← e1]
    exact heap_alloc_last _ o2
  · show (((w.alloc o1).alloc o2).alloc o3).heap[w.heap.size + 1 + 1]? = _
    rw [← e2]
    exact heap_alloc_last _ o3

theorem field_new {w w' : World} {s : ByteArray} {tb nb groups root kb eb fb : Nat} {nodes : List Nd} {A1 A2 : Array Value} (hT : TreeAt w w.heap.size tb nb nodes groups root) (hs : s.size ≤ 80) (hw : Wf nodes)
    (hA1 : ∀ q, q < nodes.length * 82 → A1[q]? = some (.bool false)) (hA2 : ∀ q, q < nodes.length * 82 * 82 → A2[q]? = some (.bool false)) (hB : Below w.heap.size w w')
    (hk : w'.heap[kb]? = some (.cells A1 4)) (he : w'.heap[eb]? = some (.cells A2 114))
    (hf : w'.heap[fb]? = some (.cells #[.pointer (some ⟨tb, 0, none⟩), .string s, .slice (some ⟨kb, 0, none⟩) (nodes.length * 82) (nodes.length * 82), .slice (some ⟨eb, 0, none⟩) (nodes.length * 82) (nodes.length * 82), .slice none 0 0] 112))
    (n1 : w.heap.size ≤ fb) (n2 : w.heap.size ≤ kb) (n3 : w.heap.size ≤ eb) (d1 : fb ≠ kb) (d2 : fb ≠ eb) (d3 : kb ≠ eb) (l1 : kb < w'.heap.size) (l2 : eb < w'.heap.size) :
    FieldAt w' ⟨w.heap.size, tb, nb, fb, kb, eb, groups, root, nodes, s⟩ ∧ w'.cell? ⟨fb, 4, none⟩ = some (.slice none 0 0) ∧ w'.frozen? ⟨fb, 4, none⟩ = false := by
  have hc : ∀ k, w'.cell? ⟨fb, k, none⟩ = (#[.pointer (some ⟨tb, 0, none⟩), .string s, .slice (some ⟨kb, 0, none⟩) (nodes.length * 82) (nodes.length * 82), .slice (some ⟨eb, 0, none⟩) (nodes.length * 82) (nodes.length * 82), .slice none 0 0] : Array Value)[k]? := fun k => cell_of_row w' fb k _ 112 (0, 0) hf
  have h1 := all_false A1 _ hA1 hk
  have h2 := all_false A2 _ hA2 he
  refine ⟨⟨hc 0, hc 1, hc 2, hc 3, hT.below hB, ⟨fun _ => false, fun _ _ => false, h1, fun q hq => ⟨fun j v hv => ?_, fun j hj => ?_⟩, fun n i _ _ h => by cases h⟩, n1, n2, n3, d1, d2, d3, l1, l2, hs, hw⟩, hc 4, by simp [World.frozen?, hf]⟩
  · have hj : j < 82 := by
      rcases Nat.lt_or_ge j 82 with h | h
      · exact h
      · rw [List.getElem?_eq_none (by rw [endsL_length]; exact h)] at hv; cases hv
    rw [endsL_at _ hj] at hv
    cases hv
    simp only at hq
    exact (h2 (q * 82 + j) (by omega)).1
  · simp only at hq
    have := h2 (q * 82 + j) (by omega)
    exact ⟨by rw [this.1]; rfl, this.2⟩

set_option maxRecDepth 100000 in
set_option maxHeartbeats 1000000 in
theorem lay_any (s : ByteArray) (tb nb groups root : Nat) (nodes : List Nd) (w : World) (hT : TreeAt w w.heap.size tb nb nodes groups root) (hs : s.size ≤ 80) (hw : Wf nodes) :
    Calls Try.prog 34 #[.pointer (some ⟨tb, 0, none⟩), .string s] w fun e w' => ∃ fb kb eb, e = .returned (.pointer (some ⟨fb, 0, none⟩)) ∧ FieldAt w' ⟨w.heap.size, tb, nb, fb, kb, eb, groups, root, nodes, s⟩ ∧
      w'.cell? ⟨fb, 4, none⟩ = some (.slice none 0 0) ∧ w'.frozen? ⟨fb, 4, none⟩ = false ∧ Below w.heap.size w w' := by
  have HT : Hid (TreeAt w w.heap.size tb nb nodes groups root) := hT
  obtain ⟨cap, t0⟩ := hT.c0
  have hm := hT.many
  have htb := hT.ltb
  obtain ⟨A1, hA1, m1⟩ := run_M61 (nodes.length * 82) (by omega)
  obtain ⟨A2, hA2, m2⟩ := run_M62 (nodes.length * 82) (by omega)
  have H1 : Hid (∀ q, q < nodes.length * 82 → A1[q]? = some (.bool false)) := hA1
  have H2 : Hid (∀ q, q < nodes.length * 82 * 82 → A2[q]? = some (.bool false)) := hA2
  have HW : Hid (Wf nodes) := hw
  clear hT hA1 hA2 hw
  rw [show ((nodes.length * 82 : Nat) : Int) = (nodes.length : Int) * 82 by omega] at m1 m2
  go_enter Try.func34, Try.ntmps34
  go_wp2_with fail
  go_region
  all_goals go_wp2_with fail
  all_goals go_ret
  · obtain ⟨a1, a2, a3, a4, a5⟩ := three_new w (.cells A1 4) (.cells A2 114) (.cells #[.pointer (some ⟨tb, 0, none⟩), .string s, .slice (some ⟨w.heap.size, 0, none⟩) (nodes.length * 82) (nodes.length * 82), .slice (some ⟨w.heap.size + 1, 0, none⟩) (nodes.length * 82) (nodes.length * 82), .slice none 0 0] 112)
    obtain ⟨x1, x2, x3⟩ := field_new HT.out hs HW.out H1.out H2.out a4 a1 a2 a3 (by omega) (by omega) (by omega) (by omega) (by omega) (by omega) (by omega) (by omega)
    exact ⟨_, _, _, rfl, x1, x2, x3, a4⟩
  · obtain ⟨a1, a2, a3, a4, a5⟩ := three_new w (.cells A2 114) (.cells A1 4) (.cells #[.pointer (some ⟨tb, 0, none⟩), .string s, .slice (some ⟨w.heap.size + 1, 0, none⟩) (nodes.length * 82) (nodes.length * 82), .slice (some ⟨w.heap.size, 0, none⟩) (nodes.length * 82) (nodes.length * 82), .slice none 0 0] 112)
    obtain ⟨x1, x2, x3⟩ := field_new HT.out hs HW.out H1.out H2.out a4 a2 a1 a3 (by omega) (by omega) (by omega) (by omega) (by omega) (by omega) (by omega) (by omega)
    exact ⟨_, _, _, rfl, x1, x2, x3, a4⟩
end Go.Proofs.Ytppjlpihaocdiaa
