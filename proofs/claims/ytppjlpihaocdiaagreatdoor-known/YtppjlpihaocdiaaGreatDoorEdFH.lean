/- Several texts in one. -/
import Derived.Test.YtppjlpihaocdiaaGreatDoorEdAH
import Derived.Test.YtppjlpihaocdiaaGreatDoorEdStrH
import Derived.Deep.AppendLies
import Derived.OwnWalk
import Derived.Laws.OwnMore
import Derived.Test.YtppjlpihaocdiaaGreatDoorPrMH
import Derived.Laws.Concat
/- A part of the proof. -/
set_option linter.unusedSimpArgs false
set_option linter.unusedVariables false
namespace Go.Proofs.YtppjlpihaocdiaaGreatDoor
namespace Ee
open Go.RowKit
open Rs (Cm CmAt Pts cmL Keep own_of)
structure Gn (w w2 : World) (v v' : Value) : Prop where
  os : w2.os = w.os
  tape : w2.tape = w.tape
  output : w2.output = w.output
  size : w.heap.size ≤ w2.heap.size
  block : ∀ k, k < w.heap.size → v.ownBlock ≠ some k → w2.heap[k]? = w.heap[k]?
  at' : ∀ k, v'.ownBlock = some k → v.ownBlock = some k ∨ w.heap.size ≤ k
theorem Gn.refl (w : World) (v : Value) : Gn w w v v := ⟨rfl, rfl, rfl, Nat.le_refl _, fun _ _ _ => rfl, fun _ h => .inl h⟩
theorem Gn.trans {w w2 w3 : World} {v v' v'' : Value} (h : Gn w w2 v v') (k : Gn w2 w3 v' v'') : Gn w w3 v v'' := by
  refine ⟨k.os.trans h.os, k.tape.trans h.tape, k.output.trans h.output, Nat.le_trans h.size k.size, fun i hi hn => ?_, fun i hi => ?_⟩
  · refine (k.block i (Nat.lt_of_lt_of_le hi h.size) (fun e => ?_)).trans (h.block i hi hn)
    rcases h.at' i e with e | e
    · exact hn e
    · omega
  · rcases k.at' i hi with e | e
    · exact h.at' i e
    · exact .inr (Nat.le_trans h.size e)
theorem Gn.drewN {w w2 : World} {v v' : Value} (h : Gn w w2 v v') (n : Nat) : Gn w (w2.drewN n) v v' := ⟨h.os, h.tape, h.output, h.size, h.block, h.at'⟩
theorem Gn.below {w w2 : World} {v v' : Value} (h : Below w.heap.size w w2) (hv : ∀ k, v'.ownBlock = some k → v.ownBlock = some k ∨ w.heap.size ≤ k) : Gn w w2 v v' := ⟨h.os, h.tape, h.output, h.size, fun k hk _ => h.block k hk, hv⟩
theorem Gn.grown {w u w2 : World} {v v' : Value} (hb : Below w.heap.size w u) (hg : u.grownBy w2 v.ownBlock) (hat : v'.ownBlock = v.ownBlock ∨ ∃ g, v'.ownBlock = some g ∧ w.heap.size ≤ g) : Gn w w2 v v' := by
  refine ⟨hg.os.trans hb.os, hg.tape.trans hb.tape, hg.output.trans hb.output, Nat.le_trans hb.size hg.size, fun k hk hn => ?_, fun k hk => ?_⟩
  · rw [hg.block k (Nat.lt_of_lt_of_le hk hb.size) (fun e => hn e.symm), hb.block k hk]
  · rcases hat with e | ⟨g, e, e2⟩
    · exact .inl (by rw [← e]; exact hk)
    · rw [e] at hk; injection hk with hk; subst hk; exact .inr e2
def OkV (w : World) (b : Nat) (cf : Cf) (v v' : Ev) (E' : Ed) (w' : World) : Prop := At w' b cf E' v' ∧ Fe b v v' w w'
theorem OkV.ok {w w' : World} {b : Nat} {cf : Cf} {v v' : Ev} {E' : Ed} (h : OkV w b cf v v' E' w') : Ok w b cf v E' w' := ⟨v', h.1, h.2⟩
theorem own_gn {w w2 : World} {v v' u : Value} {base : Nat} {e : TypeId} {sz n : Nat} {xs : List Value} (h : Gn w w2 v v') (hu : w.ownsRow base e sz u n xs) (hd : ∀ k, v.ownBlock = some k → u.ownBlock ≠ some k) : w2.ownsRow base e sz u n xs :=
  own_of hu fun k hk => h.block k (hu.lt k hk).2 (fun e => hd k e hk)
theorem far_gn {w w2 : World} {v v' u : Value} {base : Nat} {e : TypeId} {sz n : Nat} {xs : List Value} (h : Gn w w2 v v') (hu : w.ownsRow base e sz u n xs) (hd : ∀ k, v.ownBlock = some k → u.ownBlock ≠ some k) : ∀ k, v'.ownBlock = some k → u.ownBlock ≠ some k := by
  intro k hk hk'
  rcases h.at' k hk with e | e
  · exact hd k e hk'
  · have := (hu.lt k hk').2; omega
theorem own_sole {w w2 : World} {b : Nat} {u : Value} {base : Nat} {e : TypeId} {sz n : Nat} {xs : List Value} (h : Sole b w w2) (hu : w.ownsRow base e sz u n xs) (hd : u.ownBlock ≠ some b) : w2.ownsRow base e sz u n xs :=
  own_of hu fun k hk => h.block k (fun e => hd (by rw [← e]; exact hk))
theorem At.gnx {w w2 : World} {b : Nat} {cf : Cf} {E : Ed} {v : Ev} {nv : Value} {l : List UInt8} (h : At w b cf E v) (g : Gn w w2 v.nx nv) (own : w2.ownsRow 0 5 1 nv l.length (bv l)) :
    Row w2 b (edL cf E v) ∧ OkV w b cf v { v with nx := nv } { E with next := l } (w2.setCell ⟨b, 1, none⟩ nv) := by
  have hbl := h.lt
  have hr : Row w2 b (edL cf E v) := h.row.of_block (g.block b hbl h.ap.b1)
  have hs : Sole b w2 (w2.setCell ⟨b, 1, none⟩ nv) := (Sole.refl _ _).setCell _ _
  have hnb : nv.ownBlock ≠ some b := fun e => by
    rcases g.at' b e with e | e
    · exact h.ap.b1 e
    · omega
  have hk : ∀ k, k < w.heap.size → ¬ Mine b v k → (w2.setCell ⟨b, 1, none⟩ nv).heap[k]? = w.heap[k]? := fun k h1 h2 =>
    (hs.block k (fun e => h2 (.inl e))).trans (g.block k h1 (fun e => h2 (.inr (.inl e))))
  have hm : ∀ k, Mine b { v with nx := nv } k → Mine b v k ∨ w.heap.size ≤ k := fun k hk => by
    rcases hk with e | e | e | e | e
    · exact .inl (.inl e)
    · rcases g.at' k e with e | e
      · exact .inl (.inr (.inl e))
      · exact .inr e
    · exact .inl (.inr (.inr (.inl e)))
    · exact .inl (.inr (.inr (.inr (.inl e))))
    · exact .inl (.inr (.inr (.inr (.inr e))))
  have hsz : w.heap.size ≤ (w2.setCell ⟨b, 1, none⟩ nv).heap.size := by rw [hs.size]; exact g.size
  refine ⟨hr, ⟨rput hr 1 nv (by omega) rfl, ?_, ?_, ?_, ?_, h.cm.keep hk hsz hm, ⟨hnb, h.ap.b2, h.ap.b3, h.ap.b4, far_gn g h.ot h.ap.d12, far_gn g h.cg h.ap.d13, far_gn g h.op h.ap.d14, h.ap.d23, h.ap.d24, h.ap.d34⟩⟩, ⟨hs.os.trans g.os, hs.tape.trans g.tape, hs.output.trans g.output, hsz, hk, hm, rfl⟩⟩
  · exact own_sole hs own hnb
  · exact own_sole hs (own_gn g h.ot h.ap.d12) h.ap.b2
  · exact own_sole hs (own_gn g h.cg h.ap.d13) h.ap.b3
  · exact own_sole hs (own_gn g h.op h.ap.d14) h.ap.b4
theorem At.got {w w2 : World} {b : Nat} {cf : Cf} {E : Ed} {v : Ev} {nv : Value} {l : List UInt8} (h : At w b cf E v) (g : Gn w w2 v.ot nv) (own : w2.ownsRow 0 5 1 nv l.length (bv l)) :
    Row w2 b (edL cf E v) ∧ OkV w b cf v { v with ot := nv } { E with out := l } (w2.setCell ⟨b, 9, none⟩ nv) := by
  have hbl := h.lt
  have hr : Row w2 b (edL cf E v) := h.row.of_block (g.block b hbl h.ap.b2)
  have hs : Sole b w2 (w2.setCell ⟨b, 9, none⟩ nv) := (Sole.refl _ _).setCell _ _
  have hnb : nv.ownBlock ≠ some b := fun e => by
    rcases g.at' b e with e | e
    · exact h.ap.b2 e
    · omega
  have hk : ∀ k, k < w.heap.size → ¬ Mine b v k → (w2.setCell ⟨b, 9, none⟩ nv).heap[k]? = w.heap[k]? := fun k h1 h2 =>
    (hs.block k (fun e => h2 (.inl e))).trans (g.block k h1 (fun e => h2 (.inr (.inr (.inl e)))))
  have hm : ∀ k, Mine b { v with ot := nv } k → Mine b v k ∨ w.heap.size ≤ k := fun k hk => by
    rcases hk with e | e | e | e | e
    · exact .inl (.inl e)
    · exact .inl (.inr (.inl e))
    · rcases g.at' k e with e | e
      · exact .inl (.inr (.inr (.inl e)))
      · exact .inr e
    · exact .inl (.inr (.inr (.inr (.inl e))))
    · exact .inl (.inr (.inr (.inr (.inr e))))
  have hsz : w.heap.size ≤ (w2.setCell ⟨b, 9, none⟩ nv).heap.size := by rw [hs.size]; exact g.size
  refine ⟨hr, ⟨rput hr 9 nv (by omega) rfl, ?_, ?_, ?_, ?_, h.cm.keep hk hsz hm, ⟨h.ap.b1, hnb, h.ap.b3, h.ap.b4, (fun k h1 h2 => far_gn g h.nx (fun k h1 h2 => h.ap.d12 k h2 h1) k h2 h1), h.ap.d13, h.ap.d14, far_gn g h.cg h.ap.d23, far_gn g h.op h.ap.d24, h.ap.d34⟩⟩, ⟨hs.os.trans g.os, hs.tape.trans g.tape, hs.output.trans g.output, hsz, hk, hm, rfl⟩⟩
  · exact own_sole hs (own_gn g h.nx (fun k h1 h2 => h.ap.d12 k h2 h1)) h.ap.b1
  · exact own_sole hs own hnb
  · exact own_sole hs (own_gn g h.cg h.ap.d23) h.ap.b3
  · exact own_sole hs (own_gn g h.op h.ap.d24) h.ap.b4
theorem At.gcg {w w2 : World} {b : Nat} {cf : Cf} {E : Ed} {v : Ev} {nv : Value} {l : List ByteArray} (h : At w b cf E v) (g : Gn w w2 v.cg nv) (own : w2.ownsRow 0 9 1 nv l.length (sv l)) :
    Row w2 b (edL cf E v) ∧ OkV w b cf v { v with cg := nv } { E with coming := l } (w2.setCell ⟨b, 11, none⟩ nv) := by
  have hbl := h.lt
  have hr : Row w2 b (edL cf E v) := h.row.of_block (g.block b hbl h.ap.b3)
  have hs : Sole b w2 (w2.setCell ⟨b, 11, none⟩ nv) := (Sole.refl _ _).setCell _ _
  have hnb : nv.ownBlock ≠ some b := fun e => by
    rcases g.at' b e with e | e
    · exact h.ap.b3 e
    · omega
  have hk : ∀ k, k < w.heap.size → ¬ Mine b v k → (w2.setCell ⟨b, 11, none⟩ nv).heap[k]? = w.heap[k]? := fun k h1 h2 =>
    (hs.block k (fun e => h2 (.inl e))).trans (g.block k h1 (fun e => h2 (.inr (.inr (.inr (.inl e))))))
  have hm : ∀ k, Mine b { v with cg := nv } k → Mine b v k ∨ w.heap.size ≤ k := fun k hk => by
    rcases hk with e | e | e | e | e
    · exact .inl (.inl e)
    · exact .inl (.inr (.inl e))
    · exact .inl (.inr (.inr (.inl e)))
    · rcases g.at' k e with e | e
      · exact .inl (.inr (.inr (.inr (.inl e))))
      · exact .inr e
    · exact .inl (.inr (.inr (.inr (.inr e))))
  have hsz : w.heap.size ≤ (w2.setCell ⟨b, 11, none⟩ nv).heap.size := by rw [hs.size]; exact g.size
  refine ⟨hr, ⟨rput hr 11 nv (by omega) rfl, ?_, ?_, ?_, ?_, h.cm.keep hk hsz hm, ⟨h.ap.b1, h.ap.b2, hnb, h.ap.b4, h.ap.d12, (fun k h1 h2 => far_gn g h.nx (fun k h1 h2 => h.ap.d13 k h2 h1) k h2 h1), h.ap.d14, (fun k h1 h2 => far_gn g h.ot (fun k h1 h2 => h.ap.d23 k h2 h1) k h2 h1), h.ap.d24, far_gn g h.op h.ap.d34⟩⟩, ⟨hs.os.trans g.os, hs.tape.trans g.tape, hs.output.trans g.output, hsz, hk, hm, rfl⟩⟩
  · exact own_sole hs (own_gn g h.nx (fun k h1 h2 => h.ap.d13 k h2 h1)) h.ap.b1
  · exact own_sole hs (own_gn g h.ot (fun k h1 h2 => h.ap.d23 k h2 h1)) h.ap.b2
  · exact own_sole hs own hnb
  · exact own_sole hs (own_gn g h.op h.ap.d34) h.ap.b4
end Ee
end Go.Proofs.YtppjlpihaocdiaaGreatDoor

/- A part of the proof. -/
set_option linter.unusedSimpArgs false
set_option linter.unusedVariables false
namespace Go.Proofs.YtppjlpihaocdiaaGreatDoor
namespace Ee
open Go.RowKit
open Rs (Cm CmAt Pts cmL Keep own_of)
theorem bv_snoc (l : List UInt8) (c : UInt8) : bv (l ++ [c]) = bv l ++ [.int .u8 (c.toNat : Int)] := by simp [bv]
theorem bv_append (l m : List UInt8) : bv (l ++ m) = bv l ++ bv m := by simp [bv]
theorem bv_length (l : List UInt8) : (bv l).length = l.length := by simp [bv]
theorem row_length (t : ByteArray) : (row t).length = t.size := by simp [row]
theorem strCells_bv (t : ByteArray) : Lib.strCells t = bv (row t) := rfl
theorem bytes_txt (base : Nat) (v : Value) (l : List UInt8) (w : World) (hown : w.ownsRow base 5 1 v l.length (bv l)) : (convert 99 9 v).run Tryz.prog w = .ok (.string (txt l)) w := by
  obtain ⟨h1, h2⟩ := hown
  rcases h2 with ⟨rfl, h0⟩ | ⟨g, cap, cur, rfl, _, hh, hcap, _, hcs, htk⟩
  · have : l = [] := List.length_eq_zero_iff.1 h0
    subst this
    rw [run_convert_bytes_string (P := Tryz.prog) w 99 9 5 none 0 0 Tryz.underlying99 Tryz.underlying5 Tryz.underlying9]
    rfl
  · exact run_convert_bytes_back (P := Tryz.prog) w 99 9 5 ⟨g, 0, none⟩ cap l Tryz.underlying99 Tryz.underlying5 Tryz.underlying9 (fun j hj => by
      have e : (⟨g, 0, none⟩ : Addr).add j = ⟨g, j, none⟩ := by unfold Addr.add; split <;> simp_all
      rw [e, cell_of_row w g j cur 5 (0, 0) hh]
      have hx : (bv l)[j]? = some (.int .u8 (l[j].toNat : Int)) := by simp [bv, List.getElem?_eq_getElem hj]
      rw [← htk, List.getElem?_take] at hx
      split at hx
      · simpa using hx
      · cases hx)
theorem below_alloc (w : World) (o : Obj) : Below w.heap.size w (w.alloc o) := ⟨rfl, rfl, rfl, by simp, fun k hk => Below.heap_alloc _ _ _ hk⟩
theorem At.added {w w7 : World} {o : Obj} {b : Nat} {cf : Cf} {E : Ed} {v : Ev} {c : UInt8} {gg cap : Nat} (h : At w b cf E v)
    (hown : w7.ownsRow 0 5 1 (.slice (some ⟨gg, 0, none⟩) (E.next.length + 1) cap) (E.next.length + 1) (bv E.next ++ [.int .u8 (c.toNat : Int)])) (hg : (w.alloc o).grownBy w7 v.nx.ownBlock) (hat : v.nx.ownBlock = some gg ∨ gg = w.heap.size + 1) :
    Row w7 b (edL cf E v) ∧ OkV w b cf v { v with nx := .slice (some ⟨gg, 0, none⟩) (E.next.length + 1) cap } { E with next := E.next ++ [c] } (w7.setCell ⟨b, 1, none⟩ (.slice (some ⟨gg, 0, none⟩) (E.next.length + 1) cap)) := by
  refine h.gnx (Gn.grown (below_alloc w o) hg ?_) (by rw [bv_snoc, List.length_append]; exact hown)
  rcases hat with e | e
  · exact .inl e.symm
  · exact .inr ⟨gg, rfl, by omega⟩
set_option maxHeartbeats 1000000 in
theorem radd_any (b : Nat) (cf : Cf) (E : Ed) (v : Ev) (w : World) (c : UInt8) (h : At w b cf E v) (hl : E.next.length ≤ 70368744177664) :
    Calls Tryz.prog 49 #[.pointer (some ⟨b, 0, none⟩), .int .u8 (c.toNat : Int)] w fun e w' => e = .returned (.tuple #[]) ∧ Ok w b cf v (E.add c) w' := by
  obtain ⟨i0, hi0, hz0, hz1, hz2⟩ := info_parts Rs.Tryz.info5
  have HA : Hid (At w b cf E v) := h
  have m1 := h.cell (k := 1) rfl
  have f1 := h.frz 1 (by omega)
  have m2 := h.cell (k := 2) rfl
  have f2 := h.frz 2 (by omega)
  clear h
  by_cases hc : c = 10
  · subst hc
    have HE : Hid (E.add 10 = { E with whole := true }) := rfl
    go_enter Tryz.func49, Tryz.ntmps49
    go_wp2_with fail
    refine bodyPost_ret (v := .tuple #[]) (by simp [results, Tryz.results49, go_sem]) rfl ⟨rfl, ?_⟩
    rw [HE.out]
    exact HA.out.put ((Sole.refl _ _).setCell _ _) (rput HA.out.row 2 _ (by omega) rfl)
  · have HE : Hid (E.add c = { E with next := E.next ++ [c] }) := by rw [Hid, Ed.add, if_neg hc]
    have q1 : ((c.toNat : Int) == 10) = false := by
      have : c.toNat ≠ 10 := fun e => hc (UInt8.toNat.inj e)
      simp; omega
    clear hc
    go_enter Tryz.func49, Tryz.ntmps49
    go_wp2_with (at_builtin; (refine wpList_append_lies _ rfl _ _ 99 rfl 0 5 i0 (.int .u8 0) 1 1 Tryz.underlying99 hi0 hz0 hz1 hz2 rfl (by omega) v.nx E.next.length (bv E.next) rfl (HA.out.nx.alloc _) ⟨w.heap.size, 0, none⟩ 1 1 [.int .u8 (c.toNat : Int)] rfl rfl (cell_one_new w _ _) (fun x hx => by simp at hx; subst hx; rfl) (by omega) (by unfold maxLen; omega) (by omega) (by omega) (w.heap.size + 1) (by simp) ?_; intro gg cap w7 hown7 hgrow7 hat7 hlt7; clear hlt7; have HG7 : Hid (Row w7 b (edL cf E v) ∧ OkV w b cf v { v with nx := .slice (some ⟨gg, 0, none⟩) (E.next.length + 1) cap } { E with next := E.next ++ [c] } (w7.setCell ⟨b, 1, none⟩ (.slice (some ⟨gg, 0, none⟩) (E.next.length + 1) cap))) := HA.out.added hown7 hgrow7 hat7; have m7 := HG7.out.1.cell (k := 1) rfl; have f7 := HG7.out.1.frozen (k := 1) (by rw [edL_length]; omega); clear hown7 hgrow7 hat7 m1 f1 m2 f2))
    exact bodyPost_end (v := .tuple #[]) (by simp [results, Tryz.results49, go_sem]) rfl ⟨rfl, by rw [HE.out]; exact HG7.out.2.ok⟩
theorem At.printed {w w1 w7 : World} {o : Obj} {b : Nat} {cf : Cf} {E : Ed} {v : Ev} {t : ByteArray} {v1 : Value} {gg cap : Nat} (h : At w b cf E v)
    (hg1 : w.grownBy w1 v.ot.ownBlock) (hat1 : v1.ownBlock = v.ot.ownBlock ∨ v1.ownBlock = some w.heap.size)
    (hown : w7.ownsRow 0 5 1 (.slice (some ⟨gg, 0, none⟩) (E.out.length + t.size + 1) cap) (E.out.length + t.size + 1) (bv E.out ++ Lib.strCells t ++ [.int .u8 10])) (hg : (w1.alloc o).grownBy w7 v1.ownBlock) (hat : v1.ownBlock = some gg ∨ gg = w1.heap.size + 1) :
    Row w7 b (edL cf E v) ∧ OkV w b cf v { v with ot := .slice (some ⟨gg, 0, none⟩) (E.out.length + t.size + 1) cap } (E.print t) (w7.setCell ⟨b, 9, none⟩ (.slice (some ⟨gg, 0, none⟩) (E.out.length + t.size + 1) cap)) := by
  have g1 : Gn w w1 v.ot v1 := Gn.grown (Below.refl _ _) hg1 (by
    rcases hat1 with e | e
    · exact .inl e
    · exact .inr ⟨_, e, Nat.le_refl _⟩)
  have g2 : Gn w1 w7 v1 (.slice (some ⟨gg, 0, none⟩) (E.out.length + t.size + 1) cap) := Gn.grown (below_alloc w1 o) hg (by
    rcases hat with e | e
    · exact .inl e.symm
    · exact .inr ⟨gg, rfl, by omega⟩)
  refine h.got (l := E.out ++ Ee.row t ++ [10]) (g1.trans g2) ?_
  rw [bv_append, bv_append, List.length_append, List.length_append, row_length, ← strCells_bv]
  exact hown
set_option maxHeartbeats 1000000 in
theorem print_any (b : Nat) (cf : Cf) (E : Ed) (v : Ev) (w : World) (t : ByteArray) (h : At w b cf E v) (hl : E.out.length ≤ 70368744177664) (ht : t.size ≤ 1000000) :
    Calls Tryz.prog 123 #[.pointer (some ⟨b, 9, none⟩), .string t] w fun e w' => e = .returned (.tuple #[]) ∧ ∃ nv, OkV w b cf v { v with ot := nv } (E.print t) w' := by
  obtain ⟨i0, hi0, hz0, hz1, hz2⟩ := info_parts Rs.Tryz.info5
  have HA : Hid (At w b cf E v) := h
  have m1 := h.cell (k := 9) rfl
  have f1 := h.frz 9 (by omega)
  clear h
  go_enter Tryz.func123, Tryz.ntmps123
  go_wp2_with (at_builtin; first
    | (have q2 := m1; clear q2; refine wpList_str_lies _ rfl _ _ 99 9 rfl 0 5 i0 Tryz.underlying99 Tryz.underlying9 hi0 hz0 hz1 hz2 v.ot E.out.length (bv E.out) rfl HA.out.ot t rfl (by unfold maxLen; omega) (by omega) (by omega) w.heap.size rfl ?_; intro v1 w1 hown1 hgrow1 hat1; have HO1 : Hid (w1.ownsRow 0 5 1 v1 (E.out.length + t.size) (bv E.out ++ Lib.strCells t)) := hown1; have HG1 : Hid (w.grownBy w1 v.ot.ownBlock) := hgrow1; have HT1 : Hid (v1.ownBlock = v.ot.ownBlock ∨ v1.ownBlock = some w.heap.size) := hat1; clear hown1 hgrow1 hat1 m1 f1)
    | (refine wpList_append_lies _ rfl _ _ 99 rfl 0 5 i0 (.int .u8 0) 1 1 Tryz.underlying99 hi0 hz0 hz1 hz2 rfl (by omega) v1 (E.out.length + t.size) (bv E.out ++ Lib.strCells t) rfl (HO1.out.alloc _) ⟨w1.heap.size, 0, none⟩ 1 1 [.int .u8 10] rfl rfl (cell_one_new w1 _ _) (fun x hx => by simp at hx; subst hx; rfl) (by omega) (by unfold maxLen; omega) (by omega) (by omega) (w1.heap.size + 1) (by simp) ?_; intro gg cap w7 hown7 hgrow7 hat7 hlt7; clear hlt7; have HG7 : Hid (Row w7 b (edL cf E v) ∧ OkV w b cf v { v with ot := .slice (some ⟨gg, 0, none⟩) (E.out.length + t.size + 1) cap } (E.print t) (w7.setCell ⟨b, 9, none⟩ (.slice (some ⟨gg, 0, none⟩) (E.out.length + t.size + 1) cap))) := HA.out.printed HG1.out HT1.out hown7 hgrow7 hat7; have m7 := HG7.out.1.cell (k := 9) rfl; have f7 := HG7.out.1.frozen (k := 9) (by rw [edL_length]; omega); clear hown7 hgrow7 hat7))
  exact bodyPost_end (v := .tuple #[]) (by simp [results, Tryz.results123, go_sem]) rfl ⟨rfl, _, HG7.out.2⟩
end Ee
end Go.Proofs.YtppjlpihaocdiaaGreatDoor

/- A part of the proof. -/
set_option linter.unusedSimpArgs false
set_option linter.unusedVariables false
namespace Go.Proofs.YtppjlpihaocdiaaGreatDoor
namespace Ee
open Go.RowKit
open Rs (Cm CmAt Pts cmL Keep own_of)
theorem own_cut0 {w : World} {base : Nat} {e : TypeId} {sz n cap : Nat} {ao : Option Addr} {xs : List Value} (h : w.ownsRow base e sz (.slice ao n cap) n xs) : w.ownsRow base e sz (.slice ao 0 cap) 0 [] := by
  refine ⟨by simp, ?_⟩
  rcases h.2 with ⟨e1, e2⟩ | ⟨g, c, cur, e1, r1, r2, r3, r4, r5, r6⟩
  · left
    injection e1 with a1 a2 a3
    subst a1; subst a3
    exact ⟨rfl, rfl⟩
  · right
    injection e1 with a1 a2 a3
    subst a1; subst a3
    exact ⟨g, _, cur, rfl, r1, r2, Nat.zero_le _, r4, r5, by simp⟩
theorem cut_block (ao : Option Addr) (n m c : Nat) : (Value.slice ao n c).ownBlock = (Value.slice ao m c).ownBlock := by cases ao <;> rfl
theorem own_form2 {w : World} {base : Nat} {e : TypeId} {size n : Nat} {v : Value} {xs : List Value} (h : w.ownsRow base e size v n xs) : (v = .slice none 0 0 ∧ n = 0) ∨ ∃ g cap, v = .slice (some ⟨g, 0, none⟩) n cap ∧ n ≤ cap := by
  rcases h.2 with ⟨e1, e2⟩ | ⟨g, c, cur, e1, r1, r2, r3, r4, r5, r6⟩
  · exact .inl ⟨e1, e2⟩
  · exact .inr ⟨g, c, e1, r3⟩
theorem At.cleared {w : World} {b : Nat} {cf : Cf} {E : Ed} {v : Ev} {ao : Option Addr} {n cap : Nat} (h : At w b cf E v) (e : v.nx = .slice ao n cap) (hn : n = E.next.length) : Ok w b cf v E.read (((w.setCell ⟨b, 1, none⟩ (.slice ao 0 cap)).setCell ⟨b, 2, none⟩ (.bool false)).setCell ⟨b, 4, none⟩ (.int .i64 ((E.number : Int) + 1))) := by
  have h1 := h.nx
  rw [e] at h1
  subst hn
  obtain ⟨hr, hok⟩ := h.gnx (w2 := w) (nv := .slice ao 0 cap) (l := []) ⟨rfl, rfl, rfl, Nat.le_refl _, fun _ _ _ => rfl, fun k hk => .inl (by rw [e, cut_block ao E.next.length 0 cap]; exact hk)⟩ (own_cut0 h1)
  refine hok.ok.trans fun v' h' => ?_
  exact h'.put (E' := E.read) (((Sole.refl _ _).setCell _ _).setCell _ _) (rput (E := { E with next := [], whole := false }) (rput h'.row 2 _ (by omega) rfl) 4 _ (by omega) (by simp [edL, Ed.read]))
set_option maxHeartbeats 1000000 in
theorem rread_any (b : Nat) (cf : Cf) (E : Ed) (v : Ev) (w : World) (h : At w b cf E v) (hn : E.number ≤ 70368744177664) (hl : E.next.length ≤ 70368744177664) :
    Calls Tryz.prog 166 #[.pointer (some ⟨b, 0, none⟩)] w fun e w' => e = .returned (.string (txt E.next)) ∧ Ok w b cf v E.read w' := by
  have HA : Hid (At w b cf E v) := h
  have hconv := bytes_txt 0 v.nx E.next w h.nx
  have m1 := h.cell (k := 1) rfl
  have f1 := h.frz 1 (by omega)
  have m2 := h.cell (k := 2) rfl
  have f2 := h.frz 2 (by omega)
  have m4 := h.cell (k := 4) rfl
  have f4 := h.frz 4 (by omega)
  rcases own_form2 h.nx with ⟨e, e0⟩ | ⟨g, cap, e, hcap⟩
  · have HE : Hid (v.nx = .slice none 0 0 ∧ 0 = E.next.length) := ⟨e, e0.symm⟩
    rw [e] at m1 hconv
    clear h e e0
    generalize hT : txt E.next = T at hconv ⊢
    clear hT
    go_enter Tryz.func166, Tryz.ntmps166
    go_wp2_with fail
    go_ret
    exact ⟨rfl, HA.out.cleared HE.out.1 HE.out.2⟩
  · have HE : Hid (v.nx = .slice (some ⟨g, 0, none⟩) E.next.length cap) := e
    rw [e] at m1 hconv
    clear h e
    generalize hT : txt E.next = T at hconv ⊢
    clear hT
    go_enter Tryz.func166, Tryz.ntmps166
    go_wp2_with fail
    go_ret
    exact ⟨rfl, HA.out.cleared HE.out rfl⟩
def Opt (w : World) (b : Nat) (cf : Cf) (v : Ev) (E : Ed) (r : Option Ed) (e : Ending) (w' : World) : Prop :=
  (r = none ∧ e = .returned (.bool false) ∧ Ok w b cf v E w') ∨ ∃ E', r = some E' ∧ e = .returned (.bool true) ∧ Ok w b cf v E' w'
set_option maxHeartbeats 1000000 in
theorem become_any (b : Nat) (cf : Cf) (E : Ed) (v : Ev) (w : World) (t : ByteArray) (h : At w b cf E v) :
    Calls Tryz.prog 118 #[.pointer (some ⟨b, 5, none⟩), .string t] w (Opt w b cf v E (E.become cf t)) := by
  have HA : Hid (At w b cf E v) := h
  have m1 := h.cell (k := 5) rfl
  have f1 := h.frz 5 (by omega)
  have m2 := h.cell (k := 6) rfl
  clear h
  by_cases hq : cf.space < t.size
  · have q1 : decide (cf.space < t.size) = true := by simp; omega
    have HE : Hid (E.become cf t = none) := by rw [Hid, Ed.become, if_pos hq]
    go_enter Tryz.func118, Tryz.ntmps118
    go_wp2_with fail
    go_ret
    exact .inl ⟨HE.out, rfl, Ok.refl HA.out⟩
  · have q1 : decide (cf.space < t.size) = false := by simp; omega
    have HE : Hid (E.become cf t = some { E with pat := t }) := by rw [Hid, Ed.become, if_neg hq]
    clear hq
    go_enter Tryz.func118, Tryz.ntmps118
    go_wp2_with fail
    go_ret
    exact .inr ⟨_, HE.out, rfl, HA.out.put ((Sole.refl _ _).setCell _ _) (rput HA.out.row 5 _ (by omega) rfl)⟩
set_option maxHeartbeats 1000000 in
theorem holds_any (b : Nat) (cf : Cf) (E : Ed) (v : Ev) (w : World) (t : ByteArray) (h : At w b cf E v) :
    Calls Tryz.prog 118 #[.pointer (some ⟨b, 7, none⟩), .string t] w (Opt w b cf v E (E.holds cf t)) := by
  have HA : Hid (At w b cf E v) := h
  have m1 := h.cell (k := 7) rfl
  have f1 := h.frz 7 (by omega)
  have m2 := h.cell (k := 8) rfl
  clear h
  by_cases hq : cf.space < t.size
  · have q1 : decide (cf.space < t.size) = true := by simp; omega
    have HE : Hid (E.holds cf t = none) := by rw [Hid, Ed.holds, if_pos hq]
    go_enter Tryz.func118, Tryz.ntmps118
    go_wp2_with fail
    go_ret
    exact .inl ⟨HE.out, rfl, Ok.refl HA.out⟩
  · have q1 : decide (cf.space < t.size) = false := by simp; omega
    have HE : Hid (E.holds cf t = some { E with hold := t }) := by rw [Hid, Ed.holds, if_neg hq]
    clear hq
    go_enter Tryz.func118, Tryz.ntmps118
    go_wp2_with fail
    go_ret
    exact .inr ⟨_, HE.out, rfl, HA.out.put ((Sole.refl _ _).setCell _ _) (rput HA.out.row 7 _ (by omega) rfl)⟩
set_option maxHeartbeats 1000000 in
theorem grow_any (b : Nat) (cf : Cf) (E : Ed) (v : Ev) (w : World) (t : ByteArray) (h : At w b cf E v) (hp : E.pat.size ≤ 1000000) (ht : t.size ≤ 4000000) :
    Calls Tryz.prog 203 #[.pointer (some ⟨b, 5, none⟩), .string t] w (Opt w b cf v E (E.grow cf t)) := by
  have HA : Hid (At w b cf E v) := h
  have m1 := h.cell (k := 5) rfl
  have hadd1 : ∀ W : World, (Op.stringOp .add E.pat ⟨#[10]⟩).run Tryz.prog W = .ok (.string (E.pat ++ ⟨#[10]⟩)) W := fun W => run_string_add (P := Tryz.prog) (w := W) _ _ (by omega) (by simp [ByteArray.size])
  have hadd2 : ∀ W : World, (Op.stringOp .add (E.pat ++ ⟨#[10]⟩) t).run Tryz.prog W = .ok (.string (E.pat ++ ⟨#[10]⟩ ++ t)) W := fun W => run_string_add (P := Tryz.prog) (w := W) _ _ (by rw [ByteArray.size_append]; show (((E.pat).size + 1 : Nat) : Int) ≤ _; omega) (by omega)
  have HE : Hid (E.grow cf t = E.become cf (E.pat ++ ⟨#[10]⟩ ++ t)) := rfl
  clear h
  generalize E.pat ++ (⟨#[10]⟩ : ByteArray) = p1 at hadd1 hadd2 HE
  generalize p1 ++ t = p2 at hadd2 HE
  go_enter Tryz.func203, Tryz.ntmps203
  go_wp2_with fail
  refine (become_any b cf E v _ p2 HA.out).mono ?_
  rintro e w1 hO
  rw [← HE.out] at hO
  rcases hO with ⟨h1, rfl, h2⟩ | ⟨E', h1, rfl, h2⟩
  · have H2 : Hid (Ok w b cf v E w1) := h2
    have H1 : Hid (E.grow cf t = none) := h1
    clear h1 h2
    go_wp2_with fail
    go_ret
    exact .inl ⟨H1.out, rfl, H2.out⟩
  · have H2 : Hid (Ok w b cf v E' w1) := h2
    have H1 : Hid (E.grow cf t = some E') := h1
    clear h1 h2
    go_wp2_with fail
    go_ret
    exact .inr ⟨E', H1.out, rfl, H2.out⟩
set_option maxHeartbeats 1000000 in
theorem growH_any (b : Nat) (cf : Cf) (E : Ed) (v : Ev) (w : World) (t : ByteArray) (h : At w b cf E v) (hp : E.hold.size ≤ 1000000) (ht : t.size ≤ 4000000) :
    Calls Tryz.prog 203 #[.pointer (some ⟨b, 7, none⟩), .string t] w (Opt w b cf v E (E.holds cf (E.hold ++ newline ++ t))) := by
  have HA : Hid (At w b cf E v) := h
  have m1 := h.cell (k := 7) rfl
  have hadd1 : ∀ W : World, (Op.stringOp .add E.hold ⟨#[10]⟩).run Tryz.prog W = .ok (.string (E.hold ++ ⟨#[10]⟩)) W := fun W => run_string_add (P := Tryz.prog) (w := W) _ _ (by omega) (by simp [ByteArray.size])
  have hadd2 : ∀ W : World, (Op.stringOp .add (E.hold ++ ⟨#[10]⟩) t).run Tryz.prog W = .ok (.string (E.hold ++ ⟨#[10]⟩ ++ t)) W := fun W => run_string_add (P := Tryz.prog) (w := W) _ _ (by rw [ByteArray.size_append]; show (((E.hold).size + 1 : Nat) : Int) ≤ _; omega) (by omega)
  have HN : newline = ⟨#[10]⟩ := rfl
  rw [HN]
  clear h HN
  generalize E.hold ++ (⟨#[10]⟩ : ByteArray) = p1 at hadd1 hadd2 ⊢
  generalize p1 ++ t = p2 at hadd2 ⊢
  go_enter Tryz.func203, Tryz.ntmps203
  go_wp2_with fail
  refine (holds_any b cf E v _ p2 HA.out).mono ?_
  rintro e w1 hO
  rcases hO with ⟨h1, rfl, h2⟩ | ⟨E', h1, rfl, h2⟩
  · have H2 : Hid (Ok w b cf v E w1) := h2
    have H1 : Hid (E.holds cf p2 = none) := h1
    clear h1 h2
    go_wp2_with fail
    go_ret
    exact .inl ⟨H1.out, rfl, H2.out⟩
  · have H2 : Hid (Ok w b cf v E' w1) := h2
    have H1 : Hid (E.holds cf p2 = some E') := h1
    clear h1 h2
    go_wp2_with fail
    go_ret
    exact .inr ⟨E', H1.out, rfl, H2.out⟩
end Ee
end Go.Proofs.YtppjlpihaocdiaaGreatDoor

/- A part of the proof. -/
set_option linter.unusedSimpArgs false
set_option linter.unusedVariables false
namespace Go.Proofs.YtppjlpihaocdiaaGreatDoor
namespace Ee
open Go.RowKit
open Rs (Cm CmAt Pts cmL Keep own_of)
theorem Tryz.infoStr : (Tryz.prog.info? 9).map (fun i => (i.zero, i.size, i.bytes)) = some (some (.string ⟨#[]⟩), 1, 16) := by kernel_rfl
theorem sv_snoc (l : List ByteArray) (c : ByteArray) : sv (l ++ [c]) = sv l ++ [.string c] := by simp [sv]
theorem At.latered {w w7 : World} {o : Obj} {b : Nat} {cf : Cf} {E : Ed} {v : Ev} {t : ByteArray} {gg cap : Nat} (h : At w b cf E v)
    (hown : w7.ownsRow 0 9 1 (.slice (some ⟨gg, 0, none⟩) (E.coming.length + 1) cap) (E.coming.length + 1) (sv E.coming ++ [.string t])) (hg : (w.alloc o).grownBy w7 v.cg.ownBlock) (hat : v.cg.ownBlock = some gg ∨ gg = w.heap.size + 1) :
    Row w7 b (edL cf E v) ∧ Ok w b cf v { E with coming := E.coming ++ [t] } (w7.setCell ⟨b, 11, none⟩ (.slice (some ⟨gg, 0, none⟩) (E.coming.length + 1) cap)) := by
  have := h.gcg (l := E.coming ++ [t]) (Gn.grown (v' := .slice (some ⟨gg, 0, none⟩) (E.coming.length + 1) cap) (below_alloc w o) hg (by
    rcases hat with e | e
    · exact .inl e.symm
    · exact .inr ⟨gg, rfl, by omega⟩)) (by rw [sv_snoc, List.length_append]; exact hown)
  exact ⟨this.1, this.2.ok⟩
set_option maxHeartbeats 1000000 in
theorem later_any (b : Nat) (cf : Cf) (E : Ed) (v : Ev) (w : World) (t : ByteArray) (h : At w b cf E v) (hl : E.coming.length ≤ 1099511627776) :
    Calls Tryz.prog 206 #[.pointer (some ⟨b, 9, none⟩), .string t] w fun e w' => e = .returned (.tuple #[]) ∧ Ok w b cf v { E with coming := E.coming ++ [t] } w' := by
  obtain ⟨i0, hi0, hz0, hz1, hz2⟩ := info_parts Tryz.infoStr
  have HA : Hid (At w b cf E v) := h
  have m1 := h.cell (k := 11) rfl
  have f1 := h.frz 11 (by omega)
  clear h
  go_enter Tryz.func206, Tryz.ntmps206
  go_wp2_with (at_builtin; (refine wpList_append_lies _ rfl _ _ 62 rfl 0 9 i0 (.string ⟨#[]⟩) 1 16 Tryz.underlying62 hi0 hz0 hz1 hz2 rfl (by omega) v.cg E.coming.length (sv E.coming) rfl (HA.out.cg.alloc _) ⟨w.heap.size, 0, none⟩ 1 1 [.string t] rfl rfl (cell_one_new w _ _) (fun x hx => by simp at hx; subst hx; rfl) (by omega) (by unfold maxLen; omega) (by omega) (by omega) (w.heap.size + 1) (by simp) ?_; intro gg cap w7 hown7 hgrow7 hat7 hlt7; clear hlt7; have HG7 : Hid (Row w7 b (edL cf E v) ∧ Ok w b cf v { E with coming := E.coming ++ [t] } (w7.setCell ⟨b, 11, none⟩ (.slice (some ⟨gg, 0, none⟩) (E.coming.length + 1) cap))) := HA.out.latered hown7 hgrow7 hat7; have m7 := HG7.out.1.cell (k := 11) rfl; have f7 := HG7.out.1.frozen (k := 11) (by rw [edL_length]; omega); clear hown7 hgrow7 hat7 m1 f1))
  exact bodyPost_end (v := .tuple #[]) (by simp [results, Tryz.results206, go_sem]) rfl ⟨rfl, HG7.out.2⟩
theorem printAll_snoc (E : Ed) (t : ByteArray) : ∀ (l : List ByteArray) (E : Ed), (E.printAll (l ++ [t])) = (E.printAll l).print t
  | [], E => rfl
  | x :: l, E => by simp only [List.cons_append, Ed.printAll]; exact printAll_snoc E t l _
def weigh (l : List ByteArray) : Nat := (l.map fun t => t.size + 1).sum
theorem printAll_same : ∀ (l : List ByteArray) (E : Ed), ∃ o, E.printAll l = { E with out := o } ∧ o.length = E.out.length + weigh l
  | [], E => ⟨E.out, rfl, by simp [weigh]⟩
  | x :: l, E => by
    obtain ⟨o, h1, h2⟩ := printAll_same l (E.print x)
    refine ⟨o, by rw [Ed.printAll, h1]; rfl, ?_⟩
    rw [h2]
    simp only [Ed.print, List.length_append, row_length, List.length_singleton, weigh, List.map_cons, List.sum_cons]
    omega
theorem weigh_append (l m : List ByteArray) : weigh (l ++ m) = weigh l + weigh m := by simp [weigh]
theorem cleared_cg {w : World} {b : Nat} {cf : Cf} {E : Ed} {v : Ev} {ao : Option Addr} {n cap : Nat} (h : At w b cf E v) (e : v.cg = .slice ao n cap) (hn : n = E.coming.length) : Ok w b cf v { E with coming := [] } (w.setCell ⟨b, 11, none⟩ (.slice ao 0 cap)) := by
  have h1 := h.cg
  rw [e] at h1
  subst hn
  exact (h.gcg (w2 := w) (nv := .slice ao 0 cap) (l := []) ⟨rfl, rfl, rfl, Nat.le_refl _, fun _ _ _ => rfl, fun k hk => .inl (by rw [e, cut_block ao E.coming.length 0 cap]; exact hk)⟩ (own_cut0 h1)).2.ok
theorem printComing_out (E : Ed) : ∃ o, E.printComing = { E with out := o, coming := [] } ∧ o.length = E.out.length + weigh E.coming := by
  obtain ⟨o, h1, h2⟩ := printAll_same E.coming E
  exact ⟨o, by rw [Ed.printComing, h1], h2⟩
set_option maxHeartbeats 1000000 in
theorem printComing_any (b : Nat) (cf : Cf) (E : Ed) (v : Ev) (w : World) (h : At w b cf E v) (hl : E.out.length + weigh E.coming ≤ 70368744177664) (ht : ∀ t ∈ E.coming, t.size ≤ 1000000) :
    Calls Tryz.prog 75 #[.pointer (some ⟨b, 9, none⟩)] w fun e w' => e = .returned (.tuple #[]) ∧ Ok w b cf v E.printComing w' := by
  have HA : Hid (At w b cf E v) := h
  have hcl : E.coming.length ≤ weigh E.coming := by
    have : ∀ l : List ByteArray, l.length ≤ weigh l := fun l => by
      induction l with
      | nil => simp [weigh]
      | cons x l ih => simp only [weigh, List.map_cons, List.sum_cons, List.length_cons] at ih ⊢; omega
    exact this _
  rcases own_form2 h.cg with ⟨e, e0⟩ | ⟨g, cap, e, hcap⟩
  · have HE : Hid (v.cg = .slice none 0 0 ∧ 0 = E.coming.length) := ⟨e, e0.symm⟩
    have m1 := h.cell (k := 11) rfl
    have f1 := h.frz 11 (by omega)
    rw [e] at m1
    have HP : Hid (E.printComing = { E with coming := [] }) := by
      have e1 : E.coming = [] := List.length_eq_zero_iff.1 e0
      rw [Hid, Ed.printComing, e1]
      rfl
    clear h e e0 hl ht
    go_enter Tryz.func75, Tryz.ntmps75
    go_wp2_with fail
    go_loopw [9] (fun x wr => x = .int .i64 0 ∧ wr = w) (fun _ _ => 0)
    case atStart => exact ⟨rfl, rfl⟩
    case round =>
      obtain ⟨rfl, rfl⟩ := hrel
      go_wp2_with fail
      exact bodyPost_end (v := .tuple #[]) (by simp [results, Tryz.results75, go_sem]) rfl ⟨rfl, by rw [HP.out]; exact cleared_cg HA.out HE.out.1 HE.out.2⟩
  · have HE : Hid (v.cg = .slice (some ⟨g, 0, none⟩) E.coming.length cap) := e
    have m1 := h.cell (k := 11) rfl
    rw [e] at m1
    have HT : Hid (∀ t ∈ E.coming, t.size ≤ 1000000) := ht
    have HL : Hid (E.out.length + weigh E.coming ≤ 70368744177664) := hl
    clear h e ht
    generalize hN : E.coming.length = N at m1 HE
    have HN : Hid (E.coming.length = N) := hN
    have hN2 : N ≤ 70368744177664 := by omega
    clear hN hl hcl
    go_enter Tryz.func75, Tryz.ntmps75
    go_wp2_with fail
    go_loopw [9] (fun x wr => ∃ (k : Nat) (nv : Value), k ≤ N ∧ x = .int .i64 k ∧ Hid (OkV w b cf v { v with ot := nv } (E.printAll (E.coming.take k)) wr)) (fun x _ => N + 1 - (intOf x).toNat)
    case atStart => exact ⟨0, v.ot, by omega, rfl, HA.out, Fe.refl _ _ _⟩
    case round =>
      obtain ⟨k, nv, hk, rfl, HO⟩ := hrel
      obtain ⟨o, ho, hol⟩ := printAll_same (E.coming.take k) E
      have HW : Hid (weigh (E.coming.take k) + weigh (E.coming.drop k) = weigh E.coming) := by rw [Hid, ← weigh_append, List.take_append_drop]
      have Ho : Hid (E.printAll (E.coming.take k) = { E with out := o }) := ho
      have Hol : Hid (o.length = E.out.length + weigh (E.coming.take k)) := hol
      clear ho hol
      have HO2 : Hid (OkV w b cf v { v with ot := nv } { E with out := o } wr) := by rw [Hid, ← Ho.out]; exact HO.out
      by_cases hlt : k < N
      · have q1 : decide ((k : Int) < (N : Int)) = true := by simp; omega
        have hkl : k < E.coming.length := by rw [HN.out]; exact hlt
        have HK : Hid (E.coming[k]? = some E.coming[k]) := List.getElem?_eq_getElem hkl
        have HM : Hid (E.coming[k] ∈ E.coming) := List.getElem_mem hkl
        have hcg := HO2.out.1.cg
        have mk : wr.cell? ⟨g, k, none⟩ = some (.string E.coming[k]) := by
          have e1 : ({ v with ot := nv } : Ev).cg = .slice (some ⟨g, 0, none⟩) N cap := HE.out
          rw [e1] at hcg
          have e2 : ({ E with out := o } : Ed).coming.length = N := HN.out
          rw [e2] at hcg
          have := hcg.cellAt k (by omega)
          rw [this]
          show (sv E.coming)[k]? = _
          simp [sv, HK.out]
        clear hcg
        generalize hT : E.coming[k] = T at mk HK HM
        have HTs : Hid (E.printAll (E.coming.take (k + 1)) = ({ E with out := o } : Ed).print T) := by
          rw [Hid, List.take_add_one, HK.out, Option.toList_some, printAll_snoc E, Ho.out]
        clear hT hkl
        have hTs : T.size ≤ 1000000 := HT.out T HM.out
        have hol : o.length ≤ 70368744177664 := by have := Hol.out; have := HW.out; have := HL.out; omega
        go_wp2_with fail
        refine (print_any b cf { E with out := o } { v with ot := nv } _ T HO2.out.1 hol hTs).mono ?_
        rintro e w1 ⟨rfl, nv2, hA2, hF2⟩
        have HO3 : Hid (OkV w b cf v { v with ot := nv2 } (E.printAll (E.coming.take (k + 1))) w1) := by
          rw [Hid, HTs.out]
          exact ⟨hA2, HO2.out.2.trans hF2⟩
        clear hA2 hF2
        go_wp2_with fail
        go_roundw
        case rel => exact ⟨k + 1, nv2, by omega, by go_num, HO3.out⟩
        case measure => simp [intOf]; omega
      · have hkN : k = N := by omega
        subst hkN
        have HP : Hid (E.printComing = { ({ E with out := o } : Ed) with coming := [] }) := by
          rw [Hid, Ed.printComing]
          have e1 : E.coming.take k = E.coming := by rw [← HN.out]; exact List.take_length
          have e2 := Ho.out
          rw [e1] at e2
          rw [e2]
        have m2 : wr.cell? ⟨b, 11, none⟩ = some (.slice (some ⟨g, 0, none⟩) k cap) := by
          have := HO2.out.1.cell (k := 11) rfl
          rw [this]
          exact congrArg some HE.out
        have f2 := HO2.out.1.frz 11 (by omega)
        have HF : Hid (Ok w b cf v E.printComing (wr.setCell ⟨b, 11, none⟩ (.slice (some ⟨g, 0, none⟩) 0 cap))) := by
          rw [Hid, HP.out]
          obtain ⟨v', a1, a2⟩ := cleared_cg (n := k) HO2.out.1 HE.out HN.out.symm
          exact ⟨v', a1, HO2.out.2.trans a2⟩
        go_wp2_with fail
        exact bodyPost_end (v := .tuple #[]) (by simp [results, Tryz.results75, go_sem]) rfl ⟨rfl, HF.out⟩
end Ee
end Go.Proofs.YtppjlpihaocdiaaGreatDoor

/- A part of the proof. -/
set_option linter.unusedSimpArgs false
set_option linter.unusedVariables false
namespace Go.Proofs.YtppjlpihaocdiaaGreatDoor
namespace Ee
open Go.RowKit
open Rs (Cm CmAt Pts cmL Keep own_of)
theorem txt_size (l : List UInt8) : (txt l).size = l.length := by simp [txt, ByteArray.size]
theorem Ok.put {w w1 w2 : World} {b : Nat} {cf : Cf} {E E' : Ed} {v : Ev} (h : Ok w b cf v E w1) (k : ∀ v', At w1 b cf E v' → Sole b w1 w2 ∧ Row w2 b (edL cf E' v')) (e1 : E'.next = E.next := by rfl) (e2 : E'.out = E.out := by rfl) (e3 : E'.coming = E.coming := by rfl) (e4 : E'.opn = E.opn := by rfl) : Ok w b cf v E' w2 :=
  h.trans fun v' h' => h'.put (k v' h').1 (k v' h').2 e1 e2 e3 e4
theorem Ok.cell {w w1 : World} {b : Nat} {cf : Cf} {E : Ed} {v : Ev} (h : Ok w b cf v E w1) {k : Nat} {x : Value} (hk : ∀ v', (edL cf E v')[k]? = some x) : w1.cell? ⟨b, k, none⟩ = some x := by
  obtain ⟨v', h', _⟩ := h
  exact h'.cell (hk v')
theorem Ok.frz {w w1 : World} {b : Nat} {cf : Cf} {E : Ed} {v : Ev} (h : Ok w b cf v E w1) (k : Nat) (hk : k < 21) : w1.frozen? ⟨b, k, none⟩ = false := by
  obtain ⟨v', h', _⟩ := h
  exact h'.frz k hk
set_option maxHeartbeats 1000000 in
theorem readBy_become (b : Nat) (cf : Cf) (E : Ed) (v : Ev) (w : World) (h : At w b cf E v) (hn : E.number ≤ 70368744177664) (hl : E.next.length ≤ 4000000) :
    Calls Tryz.prog 117 #[.pointer (some ⟨b, 0, none⟩), .func (.func 118) #[.pointer (some ⟨b, 5, none⟩)] #[]] w fun e w' => e = .returned (.bool (E.readBy cf false).2) ∧ Ok w b cf v (E.readBy cf false).1 w' := by
  have HA : Hid (At w b cf E v) := h
  have f20 := h.frz 20 (by omega)
  have m20 := h.cell (k := 20) rfl
  clear h
  have HTL := tooLong_any b cf E v w HA.out
  by_cases hq : E.tooLong cf = true
  · have HE : Hid (E.readBy cf false = ({ E with state := 3 }, false)) := by rw [Hid, Ed.readBy, if_pos hq]
    rw [hq] at HTL
    rw [HE.out]
    clear hq
    go_enter Tryz.func117, Tryz.ntmps117
    go_wp2_with fail
    refine HTL.mono ?_
    rintro e w1 ⟨rfl, n, rfl⟩
    go_wp2_with fail
    go_ret
    exact ⟨rfl, (Ok.refl HA.out).drewN n |>.put (fun v' h' => ⟨(Sole.refl _ _).setCell _ _, rput h'.row 20 _ (by omega) rfl⟩)⟩
  · have hq2 : E.tooLong cf = false := by simpa using hq
    rw [hq2] at HTL
    clear hq
    have HE0 : Hid (E.readBy cf false = match E.read.way cf false (txt E.next) with | none => ({ E.read with state := 4 }, false) | some E' => ({ E' with looked := 0, put := false }, true)) := by rw [Hid, Ed.readBy, hq2]; rfl
    clear hq2
    go_enter Tryz.func117, Tryz.ntmps117
    go_wp2_with fail
    refine HTL.mono ?_
    rintro e w1 ⟨rfl, n, rfl⟩
    have HA1 : Hid (At (w.drewN n) b cf E v) := HA.out.drewN n
    clear HTL
    go_wp2_with fail
    refine (rread_any b cf E v _ HA1.out hn (by omega)).mono ?_
    rintro e w2 ⟨rfl, hO⟩
    obtain ⟨v2, hA2, hF2⟩ := hO
    have HA2 : Hid (At w2 b cf E.read v2) := hA2
    have HF2 : Hid (Fe b v v2 w w2) := ⟨hF2.os, hF2.tape, hF2.output, hF2.size, hF2.block, hF2.mine, hF2.cm⟩
    clear hA2 hF2
    have ht : (txt E.next).size ≤ 4000000 := by rw [txt_size]; exact hl
    generalize hT : txt E.next = T at ht HE0 ⊢
    clear hT
    have hW := become_any b cf E.read v2 w2 T HA2.out
    go_wp2_with fail
    refine hW.mono ?_
    rintro e w3 hO
    clear hW
    rcases hO with ⟨h1, rfl, h2⟩ | ⟨E', h1, rfl, h2⟩
    · have HE : Hid (E.readBy cf false = ({ E.read with state := 4 }, false)) := by rw [Hid, HE0.out]; show (match E.read.become cf T with | none => _ | some E' => _) = _; rw [h1]
      have H2 : Hid (Ok w b cf v E.read w3) := by
        obtain ⟨v3, a1, a2⟩ := h2
        exact ⟨v3, a1, HF2.out.trans a2⟩
      clear h1 h2 m20 f20 HE0
      have f20 := H2.out.frz 20 (by omega)
      have m20 := H2.out.cell (k := 20) (fun _ => rfl)
      go_wp2_with fail
      go_ret
      rw [HE.out]
      exact ⟨rfl, H2.out.put (fun v' h' => ⟨(Sole.refl _ _).setCell _ _, rput h'.row 20 _ (by omega) rfl⟩)⟩
    · have HE : Hid (E.readBy cf false = ({ E' with looked := 0, put := false }, true)) := by rw [Hid, HE0.out]; show (match E.read.become cf T with | none => _ | some E' => _) = _; rw [h1]
      have H2 : Hid (Ok w b cf v E' w3) := by
        obtain ⟨v3, a1, a2⟩ := h2
        exact ⟨v3, a1, HF2.out.trans a2⟩
      clear h1 h2 m20 f20 HE0
      have f16 := H2.out.frz 16 (by omega)
      have m16 := H2.out.cell (k := 16) (fun _ => rfl)
      have f18 := H2.out.frz 18 (by omega)
      have m18 := H2.out.cell (k := 18) (fun _ => rfl)
      go_wp2_with fail
      go_ret
      rw [HE.out]
      exact ⟨rfl, H2.out.put (fun v' h' => ⟨((Sole.refl _ _).setCell _ _).setCell _ _, rput (E := { E' with looked := 0 }) (rput h'.row 16 _ (by omega) rfl) 18 _ (by omega) rfl⟩)⟩
set_option maxHeartbeats 1000000 in
theorem readBy_grow (b : Nat) (cf : Cf) (E : Ed) (v : Ev) (w : World) (h : At w b cf E v) (hn : E.number ≤ 70368744177664) (hl : E.next.length ≤ 4000000) (hp : E.pat.size ≤ 1000000) :
    Calls Tryz.prog 117 #[.pointer (some ⟨b, 0, none⟩), .func (.func 203) #[.pointer (some ⟨b, 5, none⟩)] #[]] w fun e w' => e = .returned (.bool (E.readBy cf true).2) ∧ Ok w b cf v (E.readBy cf true).1 w' := by
  have HA : Hid (At w b cf E v) := h
  have f20 := h.frz 20 (by omega)
  have m20 := h.cell (k := 20) rfl
  clear h
  have HTL := tooLong_any b cf E v w HA.out
  by_cases hq : E.tooLong cf = true
  · have HE : Hid (E.readBy cf true = ({ E with state := 3 }, false)) := by rw [Hid, Ed.readBy, if_pos hq]
    rw [hq] at HTL
    rw [HE.out]
    clear hq
    go_enter Tryz.func117, Tryz.ntmps117
    go_wp2_with fail
    refine HTL.mono ?_
    rintro e w1 ⟨rfl, n, rfl⟩
    go_wp2_with fail
    go_ret
    exact ⟨rfl, (Ok.refl HA.out).drewN n |>.put (fun v' h' => ⟨(Sole.refl _ _).setCell _ _, rput h'.row 20 _ (by omega) rfl⟩)⟩
  · have hq2 : E.tooLong cf = false := by simpa using hq
    rw [hq2] at HTL
    clear hq
    have HE0 : Hid (E.readBy cf true = match E.read.way cf true (txt E.next) with | none => ({ E.read with state := 4 }, false) | some E' => ({ E' with looked := 0, put := false }, true)) := by rw [Hid, Ed.readBy, hq2]; rfl
    clear hq2
    go_enter Tryz.func117, Tryz.ntmps117
    go_wp2_with fail
    refine HTL.mono ?_
    rintro e w1 ⟨rfl, n, rfl⟩
    have HA1 : Hid (At (w.drewN n) b cf E v) := HA.out.drewN n
    clear HTL
    go_wp2_with fail
    refine (rread_any b cf E v _ HA1.out hn (by omega)).mono ?_
    rintro e w2 ⟨rfl, hO⟩
    obtain ⟨v2, hA2, hF2⟩ := hO
    have HA2 : Hid (At w2 b cf E.read v2) := hA2
    have HF2 : Hid (Fe b v v2 w w2) := ⟨hF2.os, hF2.tape, hF2.output, hF2.size, hF2.block, hF2.mine, hF2.cm⟩
    clear hA2 hF2
    have ht : (txt E.next).size ≤ 4000000 := by rw [txt_size]; exact hl
    generalize hT : txt E.next = T at ht HE0 ⊢
    clear hT
    have hW := grow_any b cf E.read v2 w2 T HA2.out hp ht
    go_wp2_with fail
    refine hW.mono ?_
    rintro e w3 hO
    clear hW
    rcases hO with ⟨h1, rfl, h2⟩ | ⟨E', h1, rfl, h2⟩
    · have HE : Hid (E.readBy cf true = ({ E.read with state := 4 }, false)) := by rw [Hid, HE0.out]; show (match E.read.grow cf T with | none => _ | some E' => _) = _; rw [h1]
      have H2 : Hid (Ok w b cf v E.read w3) := by
        obtain ⟨v3, a1, a2⟩ := h2
        exact ⟨v3, a1, HF2.out.trans a2⟩
      clear h1 h2 m20 f20 HE0
      have f20 := H2.out.frz 20 (by omega)
      have m20 := H2.out.cell (k := 20) (fun _ => rfl)
      go_wp2_with fail
      go_ret
      rw [HE.out]
      exact ⟨rfl, H2.out.put (fun v' h' => ⟨(Sole.refl _ _).setCell _ _, rput h'.row 20 _ (by omega) rfl⟩)⟩
    · have HE : Hid (E.readBy cf true = ({ E' with looked := 0, put := false }, true)) := by rw [Hid, HE0.out]; show (match E.read.grow cf T with | none => _ | some E' => _) = _; rw [h1]
      have H2 : Hid (Ok w b cf v E' w3) := by
        obtain ⟨v3, a1, a2⟩ := h2
        exact ⟨v3, a1, HF2.out.trans a2⟩
      clear h1 h2 m20 f20 HE0
      have f16 := H2.out.frz 16 (by omega)
      have m16 := H2.out.cell (k := 16) (fun _ => rfl)
      have f18 := H2.out.frz 18 (by omega)
      have m18 := H2.out.cell (k := 18) (fun _ => rfl)
      go_wp2_with fail
      go_ret
      rw [HE.out]
      exact ⟨rfl, H2.out.put (fun v' h' => ⟨((Sole.refl _ _).setCell _ _).setCell _ _, rput (E := { E' with looked := 0 }) (rput h'.row 16 _ (by omega) rfl) 18 _ (by omega) rfl⟩)⟩
set_option maxHeartbeats 1000000 in
theorem begin_any (b : Nat) (cf : Cf) (E : Ed) (v : Ev) (w : World) (h : At w b cf E v) (hn : E.number ≤ 70368744177664) (hl : E.next.length ≤ 4000000) :
    Calls Tryz.prog 72 #[.pointer (some ⟨b, 0, none⟩)] w fun e w' => e = .returned (.bool (E.begin cf).2) ∧ Ok w b cf v (E.begin cf).1 w' := by
  have HA : Hid (At w b cf E v) := h
  have f20 := h.frz 20 (by omega)
  have m20 := h.cell (k := 20) rfl
  clear h
  have HTL := atHand_any b cf E v w HA.out
  by_cases hq : E.atHand cf = true
  · rw [hq] at HTL
    by_cases hm : E.more = true
    · have HE : Hid (E.begin cf = E.readBy cf false) := by rw [Hid, Ed.begin, if_pos hq, if_pos hm]
      have HM : Hid (E.more = true) := hm
      rw [HE.out]
      clear hq hm
      go_enter Tryz.func72, Tryz.ntmps72
      go_wp2_with fail
      refine HTL.mono ?_
      rintro e w1 ⟨rfl, n, rfl⟩
      clear HTL
      have HML := more_any b cf E v _ (HA.out.drewN n)
      rw [HM.out] at HML
      go_wp2_with fail
      refine HML.mono ?_
      rintro e w1 ⟨rfl, n2, rfl⟩
      clear HML
      have HR := readBy_become b cf E v _ (HA.out.drewN (n + n2)) hn hl
      go_wp2_with fail
      refine HR.mono ?_
      rintro e w1 ⟨rfl, hO⟩
      have HO : Hid (Ok w b cf v (E.readBy cf false).1 w1) := by
        obtain ⟨v', a1, a2⟩ := hO
        exact ⟨v', a1, ⟨a2.os, a2.tape, a2.output, a2.size, a2.block, a2.mine, a2.cm⟩⟩
      clear HR hO
      go_wp2_with fail
      go_ret
      exact ⟨rfl, HO.out⟩
    · have hm2 : E.more = false := by simpa using hm
      have HE : Hid (E.begin cf = ({ E with state := 1 }, false)) := by rw [Hid, Ed.begin, if_pos hq, if_neg hm]
      have HM : Hid (E.more = false) := hm2
      rw [HE.out]
      clear hq hm hm2
      go_enter Tryz.func72, Tryz.ntmps72
      go_wp2_with fail
      refine HTL.mono ?_
      rintro e w1 ⟨rfl, n, rfl⟩
      clear HTL
      have HML := more_any b cf E v _ (HA.out.drewN n)
      rw [HM.out] at HML
      go_wp2_with fail
      refine HML.mono ?_
      rintro e w1 ⟨rfl, n2, rfl⟩
      clear HML
      go_wp2_with fail
      go_ret
      exact ⟨rfl, (Ok.refl HA.out).drewN (n + n2) |>.put (fun v' h' => ⟨(Sole.refl _ _).setCell _ _, rput h'.row 20 _ (by omega) rfl⟩)⟩
  · have hq2 : E.atHand cf = false := by simpa using hq
    rw [hq2] at HTL
    have HE : Hid (E.begin cf = (E, false)) := by rw [Hid, Ed.begin, if_neg hq]
    rw [HE.out]
    clear hq hq2
    go_enter Tryz.func72, Tryz.ntmps72
    go_wp2_with fail
    refine HTL.mono ?_
    rintro e w1 ⟨rfl, n, rfl⟩
    clear HTL
    go_wp2_with fail
    go_ret
    exact ⟨rfl, (Ok.refl HA.out).drewN n⟩
set_option maxHeartbeats 1000000 in
theorem printSpace_any (b : Nat) (cf : Cf) (E : Ed) (v : Ev) (w : World) (h : At w b cf E v) (hl : E.out.length ≤ 70368744177664) (hp : E.pat.size ≤ 1000000) :
    Calls Tryz.prog 74 #[.pointer (some ⟨b, 0, none⟩)] w fun e w' => e = .returned (.tuple #[]) ∧ Ok w b cf v (E.printSpace cf) w' := by
  have HA : Hid (At w b cf E v) := h
  have m19 := h.cell (k := 19) rfl
  have m5 := h.cell (k := 5) rfl
  clear h
  have HE : Hid (E.printSpace cf = if cf.quiet = true then E else E.print E.pat) := rfl
  generalize hqq : cf.quiet = q at m19 HE
  clear hqq
  rcases bool_or q with hq | hq <;> subst hq
  · rw [HE.out, if_pos rfl]
    go_enter Tryz.func74, Tryz.ntmps74
    go_wp2_with fail
    exact bodyPost_end (v := .tuple #[]) (by simp [results, Tryz.results74, go_sem]) rfl ⟨rfl, Ok.refl HA.out⟩
  · rw [HE.out, if_neg (by simp)]
    have HP := fun W (hW : At W b cf E v) => print_any b cf E v W E.pat hW hl hp
    have HPH : Hid (∀ W, At W b cf E v → Calls Tryz.prog 123 #[.pointer (some ⟨b, 9, none⟩), .string E.pat] W fun e w' => e = .returned (.tuple #[]) ∧ ∃ nv, OkV W b cf v { v with ot := nv } (E.print E.pat) w') := HP
    clear HP
    go_enter Tryz.func74, Tryz.ntmps74
    go_wp2_with fail
    go_region_with (first
      | (go_at_call 123; (refine (HPH.out w.drew HA.out.drew).mono ?_; rintro e w1 ⟨rfl, nv, hO⟩; have HO : Hid (Ok w b cf v (E.print E.pat) w1) := ⟨_, hO.1, ⟨hO.2.os, hO.2.tape, hO.2.output, hO.2.size, hO.2.block, hO.2.mine, hO.2.cm⟩⟩; clear hO)))
    all_goals
      go_wp2_with fail
      exact bodyPost_end (v := .tuple #[]) (by simp [results, Tryz.results74, go_sem]) rfl ⟨rfl, HO.out⟩
end Ee
end Go.Proofs.YtppjlpihaocdiaaGreatDoor

