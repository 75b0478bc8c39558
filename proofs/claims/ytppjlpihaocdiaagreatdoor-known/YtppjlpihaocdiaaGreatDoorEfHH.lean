/- A part of the proof. -/
import Derived.Test.YtppjlpihaocdiaaGreatDoorEgDH
import Derived.Test.YtppjlpihaocdiaaGreatDoorPsFH
set_option linter.unusedSimpArgs false
set_option linter.unusedVariables false
namespace Go.Proofs.YtppjlpihaocdiaaGreatDoor
namespace Ee
open Go.RowKit
open Rs (Cm Wh Pc own_of CmdsIn)
def Tab (w : World) : Prop := Tw w (fun k => w.heap.size ≤ k)
theorem Tab.below {w w' : World} (h : Tab w) (hb : Below w.heap.size w w') : Tab w' := by
  refine Tw.keep h (fun k hk _ => hb.block k hk) hb.size (fun k hk => .inl ?_)
  exact Nat.le_trans hb.size hk
theorem cmds_of {w : World} {lo : Nat} {cv : Value} {cs : List Cm} (h : CmdsIn w lo cv cs) (ht : Tab w) : Cmds w (fun k => w.heap.size ≤ k) cv cs := by
  obtain ⟨xs, own, hc⟩ := h
  refine ⟨ht, xs, World.ownsRow.mono own (by omega), fun g hg hX => ?_, fun k x hx => ?_⟩
  · have := (own.lt g hg).2; omega
  · obtain ⟨l, hh, q, a1, a2, a3, a4, a5⟩ := hc k x hx
    exact ⟨l, hh, q, a2, fun j h1 h2 hX => by omega, a4, a5⟩
def ev0 (w : World) (cv : Value) (n : Nat) : Ev := ⟨.slice none 0 0, .slice none 0 0, .slice none 0 0, cv, .slice (some ⟨w.heap.size + 1, 0, none⟩) n n⟩
theorem new_at {w : World} {cf : Cf} {cv : Value} {A : Array Value} {o1 : Obj} {T : TypeId} (hA : A.size = cf.cmds.length) (hA2 : A.toList = ov (List.replicate cf.cmds.length false)) (hc : Cmds w (fun k => w.heap.size ≤ k) cv cf.cmds) (hn : cf.cmds.length ≤ 1000) :
    At (((w.alloc o1).alloc (.cells A 4)).alloc (.cells (edL cf (ed0 cf) (ev0 w cv cf.cmds.length)).toArray T)).drew (w.heap.size + 1 + 1) cf (ed0 cf) (ev0 w cv cf.cmds.length) := by
  have hsz : ((w.alloc o1).alloc (.cells A 4)).heap.size = w.heap.size + 1 + 1 := by simp
  have hb : Below w.heap.size w (((w.alloc o1).alloc (.cells A 4)).alloc (.cells (edL cf (ed0 cf) (ev0 w cv cf.cmds.length)).toArray T)).drew := below_drew ((below_alloc2 w _ _).trans ((below_alloc _ _).mono (by simp; omega)))
  have hrow := Row.new ((w.alloc o1).alloc (.cells A 4)) (edL cf (ed0 cf) (ev0 w cv cf.cmds.length)) T
  rw [hsz] at hrow
  have hop : (((w.alloc o1).alloc (.cells A 4)).alloc (.cells (edL cf (ed0 cf) (ev0 w cv cf.cmds.length)).toArray T)).drew.heap[w.heap.size + 1]? = some (.cells A 4 (0, 0)) := by
    have e1 := heap_alloc_new (w.alloc o1) (.cells A 4)
    have e2 : (w.alloc o1).heap.size = w.heap.size + 1 := by simp
    rw [e2] at e1
    show (((w.alloc o1).alloc (.cells A 4)).alloc _).heap[w.heap.size + 1]? = _
    rw [Below.heap_alloc _ _ _ (by simp)]
    exact e1
  refine ⟨hrow.of_block rfl, World.ownsRow_nil _ _ _ 1, World.ownsRow_nil _ _ _ 1, World.ownsRow_nil _ _ _ 1, ?_, ?_, ?_⟩
  · refine ⟨by simp [ed0, ov], .inr ⟨w.heap.size + 1, cf.cmds.length, A, by simp [ev0, ed0], Nat.zero_le _, hop, by simp [ed0], by unfold maxLen; omega, by omega, ?_⟩⟩
    have e : (ed0 cf).opn = List.replicate cf.cmds.length false := rfl
    rw [e, List.length_replicate, Nat.mul_one, hA2, List.take_of_length_le (by simp [ov])]
  · refine hc.keep (fun k hk _ => hb.block k hk) hb.size (fun k hk => .inl ?_)
    rcases hk with e | e | e | e | e
    · show w.heap.size ≤ k; omega
    · cases e
    · cases e
    · cases e
    · have : w.heap.size + 1 = k := by simpa [ev0, Value.ownBlock] using e
      show w.heap.size ≤ k
      omega
  · refine ⟨(fun e => by cases e), (fun e => by cases e), (fun e => by cases e), ?_, (fun k e => by cases e), (fun k e => by cases e), (fun k e => by cases e), (fun k e => by cases e), (fun k e => by cases e), (fun k e => by cases e)⟩
    intro e
    simp [ev0, Value.ownBlock] at e
set_option maxRecDepth 100000 in
set_option maxHeartbeats 4000000 in
theorem newEditor_any (cv : Value) (l s f : Nat) (q : Bool) (cs : List Cm) (w : World) (hc : Cmds w (fun k => w.heap.size ≤ k) cv cs) (hn : cs.length ≤ 1000) :
    Calls Tryz.prog 47 #[cv, .agg #[.int .i64 (l : Int), .int .i64 (s : Int), .int .i64 (f : Int), .bool q]] w fun e w' => ∃ b v, e = .returned (.pointer (some ⟨b, 0, none⟩)) ∧ At w' b ⟨l, s, f, q, cs⟩ (ed0 ⟨l, s, f, q, cs⟩) v ∧ Below w.heap.size w w' ∧ w.heap.size ≤ b ∧ ∀ k, Mine b v k → w.heap.size ≤ k := by
  have HC : Hid (Cmds w (fun k => w.heap.size ≤ k) cv cs) := hc
  obtain ⟨_, xs, own, _⟩ := hc
  obtain ⟨ao, cp, hcv⟩ := own_form own
  obtain ⟨A, hA1, hA2, hmk⟩ := run_MB cs.length (by omega)
  have HA1 : Hid (A.size = cs.length) := hA1
  have HA2 : Hid (A.toList = ov (List.replicate cs.length false)) := hA2
  subst hcv
  clear hA2 own hA1
  have HAT : Hid (∀ o1, At (((w.alloc o1).alloc (.cells A 4)).alloc (.cells (edL ⟨l, s, f, q, cs⟩ (ed0 ⟨l, s, f, q, cs⟩) (ev0 w (.slice ao cs.length cp) cs.length)).toArray 112)).drew (w.heap.size + 1 + 1) ⟨l, s, f, q, cs⟩ (ed0 ⟨l, s, f, q, cs⟩) (ev0 w (.slice ao cs.length cp) cs.length)) := fun o1 => new_at (cf := ⟨l, s, f, q, cs⟩) HA1.out HA2.out HC.out hn
  have HB : Hid (∀ o1 o2 o3, Below w.heap.size w (((w.alloc o1).alloc o2).alloc o3).drew) := fun o1 o2 o3 => below_drew ((below_alloc2 w _ _).trans ((below_alloc _ _).mono (by simp; omega)))
  have HMI : Hid (∀ k, Mine (w.heap.size + 1 + 1) (ev0 w (.slice ao cs.length cp) cs.length) k → w.heap.size ≤ k) := fun k hk => by
    rcases hk with e | e | e | e | e
    · omega
    · cases e
    · cases e
    · cases e
    · have : w.heap.size + 1 = k := by simpa [ev0, Value.ownBlock] using e
      omega
  generalize hN : cs.length = N at hmk HA1
  have HN : Hid (cs.length = N) := hN
  go_enter Tryz.func47, Tryz.ntmps47
  go_wp2_with fail
  go_region
  all_goals
    go_wp2_with fail
    go_ret
    refine ⟨w.heap.size + 1 + 1, ev0 w (.slice ao cs.length cp) cs.length, rfl, ?_, HB.out _ _ _, by omega, HMI.out⟩
    have := HAT.out (Obj.cells #[.int .i64 (l : Int), .int .i64 (s : Int), .int .i64 (f : Int), .bool q] 23)
    rw [HN.out] at this ⊢
    exact this
end Ee
end Go.Proofs.YtppjlpihaocdiaaGreatDoor
