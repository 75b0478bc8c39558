/- Several texts in one. -/
import Derived.Test.YtppjlpihaocdiaaSLetK
import Derived.Deep.AppendLies
import Derived.OwnWalk
import Derived.Test.YtppjlpihaocdiaaSFirstK
/- The document's walk over a script: a pattern begins. -/
set_option linter.unusedSimpArgs false
set_option linter.unusedVariables false
namespace Go.Proofs.Ytppjlpihaocdiaa
namespace Sk
open Go.RowKit

theorem own_of {w w' : World} {base : Nat} {e : TypeId} {size n : Nat} {v : Value} {xs : List Value} (h : w.ownsRow base e size v n xs) (hb : ∀ k, v.ownBlock = some k → w'.heap[k]? = w.heap[k]?) : w'.ownsRow base e size v n xs := by
  obtain ⟨h1, h2⟩ := h
  refine ⟨h1, ?_⟩
  rcases h2 with h2 | ⟨g, cap, cur, hv, hg, hh, r⟩
  · exact .inl h2
  · exact .inr ⟨g, cap, cur, hv, hg, by rw [hb g (by rw [hv]; rfl)]; exact hh, r⟩

/-- Another row is grown: this one stays. -/
theorem own_beside {w w2 : World} {o : Obj} {base : Nat} {e : TypeId} {size n : Nat} {u v : Value} {xs : List Value} (hu : w.ownsRow base e size u n xs) (hg : (w.alloc o).grownBy w2 v.ownBlock) (hd : ∀ k, v.ownBlock = some k → u.ownBlock ≠ some k) : w2.ownsRow base e size u n xs :=
  own_of hu fun k hk => by
    have hl := (hu.lt k hk).2
    rw [hg.block k (by simp; omega) (fun e => hd k e.symm hk), Below.heap_alloc _ _ _ hl]

theorem ints_snoc (l : List Nat) (i : Nat) : ints (l ++ [i]) = ints l ++ [.int .i64 (i : Int)] := by simp [ints]

/-- What the first row's growth leaves. -/
theorem Notes.more1 {w w2 : World} {o : Obj} {b i gg cap : Nat} {x : Sc} {pv lv bv : Value} (hn : Notes w b x pv lv bv) (hown : w2.ownsRow (b + 1) 3 1 (.slice (some ⟨gg, 0, none⟩) (x.patAt.length + 1) cap) (x.patAt.length + 1) (ints x.patAt ++ [.int .i64 (i : Int)]))
    (hg : (w.alloc o).grownBy w2 pv.ownBlock) (hat : pv.ownBlock = some gg ∨ gg = w.heap.size + 1) : Notes w2 b { x with patAt := x.patAt ++ [i] } (.slice (some ⟨gg, 0, none⟩) (x.patAt.length + 1) cap) lv bv := by
  obtain ⟨o1, o2, o3, d1, d2, d3⟩ := hn
  have far : ∀ {u : Value} {e : TypeId} {sz n : Nat} {xs : List Value}, w.ownsRow (b + 1) e sz u n xs → (∀ k, pv.ownBlock = some k → u.ownBlock ≠ some k) → ∀ k, (Value.slice (some ⟨gg, 0, none⟩) (x.patAt.length + 1) cap).ownBlock = some k → u.ownBlock ≠ some k := by
    intro u e sz n xs hu hd k hk hk'
    have hgk : gg = k := by simpa [Value.ownBlock] using hk
    subst hgk
    rcases hat with e | e
    · exact hd gg e hk'
    · have := (hu.lt gg hk').2
      omega
  exact ⟨by simp only [List.length_append, List.length_singleton, ints_snoc]; exact hown, own_beside o2 hg d1, own_beside o3 hg d2, far o2 d1, far o3 d2, d3⟩

theorem Notes.more2 {w w2 : World} {o : Obj} {b i gg cap : Nat} {x : Sc} {pv lv bv : Value} (hn : Notes w b x pv lv bv) (hown : w2.ownsRow (b + 1) 3 1 (.slice (some ⟨gg, 0, none⟩) (x.patLen.length + 1) cap) (x.patLen.length + 1) (ints x.patLen ++ [.int .i64 (i : Int)]))
    (hg : (w.alloc o).grownBy w2 lv.ownBlock) (hat : lv.ownBlock = some gg ∨ gg = w.heap.size + 1) : Notes w2 b { x with patLen := x.patLen ++ [i] } pv (.slice (some ⟨gg, 0, none⟩) (x.patLen.length + 1) cap) bv := by
  obtain ⟨o1, o2, o3, d1, d2, d3⟩ := hn
  have far : ∀ {u : Value} {e : TypeId} {sz n : Nat} {xs : List Value}, w.ownsRow (b + 1) e sz u n xs → (∀ k, lv.ownBlock = some k → u.ownBlock ≠ some k) → ∀ k, (Value.slice (some ⟨gg, 0, none⟩) (x.patLen.length + 1) cap).ownBlock = some k → u.ownBlock ≠ some k := by
    intro u e sz n xs hu hd k hk hk'
    have hgk : gg = k := by simpa [Value.ownBlock] using hk
    subst hgk
    rcases hat with e | e
    · exact hd gg e hk'
    · have := (hu.lt gg hk').2
      omega
  have d1' : ∀ k, lv.ownBlock = some k → pv.ownBlock ≠ some k := fun k h h' => d1 k h' h
  exact ⟨own_beside o1 hg d1', by simp only [List.length_append, List.length_singleton, ints_snoc]; exact hown, own_beside o3 hg d3, fun k h h' => far o1 d1' k h' h, d2, far o3 d3⟩

/-- The walk's own block stays where one of its rows is grown. -/
theorem Row.grown {w w2 : World} {o : Obj} {b n : Nat} {e : TypeId} {sz : Nat} {v : Value} {xs cs : List Value} (h : Row w b cs) (hc : 0 < cs.length) (hu : w.ownsRow (b + 1) e sz v n xs) (hg : (w.alloc o).grownBy w2 v.ownBlock) : Row w2 b cs :=
  h.of_block (by
    have hl := h.lt hc
    rw [hg.block b (by simp; omega) (fun e => by have := (hu.lt b e.symm).1; omega), Below.heap_alloc _ _ _ hl])

theorem Below.grown {w w2 : World} {o : Obj} {b n : Nat} {e : TypeId} {sz : Nat} {v : Value} {xs : List Value} (hu : w.ownsRow (b + 1) e sz v n xs) (hb : b < w.heap.size) (hg : (w.alloc o).grownBy w2 v.ownBlock) : Below b w w2 := by
  refine ⟨hg.os, hg.tape, hg.output, by have := hg.size; simp at this; omega, fun k hk => ?_⟩
  rw [hg.block k (by simp; omega) (fun e => by have := (hu.lt k e.symm).1; omega), Below.heap_alloc _ _ _ (by omega)]

theorem scL_pv (x : Sc) (pv lv bv : Value) : (scL x pv lv bv)[271]? = some pv := by
  have h : (r256 x.row ++ [Value.int .i64 x.rows, pv, lv, bv])[257]? = some pv := by
    rw [List.getElem?_append_right (by simp [r256])]
    simp [r256]
  exact h
theorem scL_lv (x : Sc) (pv lv bv : Value) : (scL x pv lv bv)[272]? = some lv := by
  have h : (r256 x.row ++ [Value.int .i64 x.rows, pv, lv, bv])[258]? = some lv := by
    rw [List.getElem?_append_right (by simp [r256])]
    simp [r256]
  exact h
theorem scL_put_pv (x : Sc) (pv lv bv v : Value) : (scL x pv lv bv).set 271 v = scL x v lv bv := by
  have h : (r256 x.row ++ [Value.int .i64 x.rows, pv, lv, bv]).set 257 v = r256 x.row ++ [Value.int .i64 x.rows, v, lv, bv] := by
    rw [List.set_append_right _ _ (by simp [r256])]
    simp [r256]
  unfold scL
  simp only [List.set_cons_succ]
  rw [h]
theorem scL_put_lv (x : Sc) (pv lv bv v : Value) : (scL x pv lv bv).set 272 v = scL x pv v bv := by
  have h : (r256 x.row ++ [Value.int .i64 x.rows, pv, lv, bv]).set 258 v = r256 x.row ++ [Value.int .i64 x.rows, pv, v, bv] := by
    rw [List.set_append_right _ _ (by simp [r256])]
    simp [r256]
  unfold scL
  simp only [List.set_cons_succ]
  rw [h]

theorem Try.infos3 : (Try.prog.info? 3).map (fun i => (i.zero, i.size, i.bytes)) = some (some (.int .i64 0), 1, 8) := by kernel_rfl

def emptied (w : World) (b : Nat) : World := (((w.setCell ⟨b, 2, none⟩ (.int .i64 0)).setCell ⟨b, 3, none⟩ (.int .i64 0)).setCell ⟨b, 4, none⟩ (.int .i64 0)).setCell ⟨b, 5, none⟩ (.int .i64 0)

theorem emptied_sole (w : World) (b : Nat) : Sole b w (emptied w b) := ((((Sole.refl _ _).setCell _ _).setCell _ _).setCell _ _).setCell _ _
theorem emptied_row {w : World} {b : Nat} {x : Sc} {pv lv bv : Value} (h : Row w b (scL x pv lv bv)) : Row (emptied w b) b (scL { x with pat := ⟨0, 0, 0, 0⟩ } pv lv bv) :=
  Row.head (x := { x with pat := ⟨0, 0, 0, x.pat.l⟩ }) (Row.head (x := { x with pat := ⟨0, 0, x.pat.a, x.pat.l⟩ }) (Row.head (x := { x with pat := ⟨0, x.pat.o, x.pat.a, x.pat.l⟩ }) (Row.head h 2 _ (by omega) rfl) 3 _ (by omega) rfl) 4 _ (by omega) rfl) 5 _ (by omega) rfl
theorem emptied_size (w : World) (b : Nat) : (emptied w b).heap.size = w.heap.size := by simp [emptied]

/-- One row has grown and its cell is written. -/
structure Gr (w w' : World) (b : Nat) (x : Sc) (pv lv bv : Value) : Prop where
  row : Row w' b (scL x pv lv bv)
  notes : Notes w' b x pv lv bv
  below : Below b w w'

theorem Gr.one {w u w2 : World} {o : Obj} {b i gg cap : Nat} {x : Sc} {pv lv bv : Value} (h : Gr w u b x pv lv bv) (hown : w2.ownsRow (b + 1) 3 1 (.slice (some ⟨gg, 0, none⟩) (x.patAt.length + 1) cap) (x.patAt.length + 1) (ints x.patAt ++ [.int .i64 (i : Int)]))
    (hg : (u.alloc o).grownBy w2 pv.ownBlock) (hat : pv.ownBlock = some gg ∨ gg = u.heap.size + 1) :
    Row w2 b (scL x pv lv bv) ∧ Gr w (w2.setCell ⟨b, 271, none⟩ (.slice (some ⟨gg, 0, none⟩) (x.patAt.length + 1) cap)) b { x with patAt := x.patAt ++ [i] } (.slice (some ⟨gg, 0, none⟩) (x.patAt.length + 1) cap) lv bv := by
  have hr : Row w2 b (scL x pv lv bv) := Row.grown h.row (by rw [scL_length]; omega) h.notes.o1 hg
  have hs : Sole b w2 (w2.setCell ⟨b, 271, none⟩ (.slice (some ⟨gg, 0, none⟩) (x.patAt.length + 1) cap)) := (Sole.refl _ _).setCell _ _
  refine ⟨hr, ?_, (h.notes.more1 hown hg hat).sole hs, (h.below.trans (Below.grown h.notes.o1 (h.row.lt (by rw [scL_length]; omega)) hg)).trans (Sole.below hs)⟩
  have := hr.put 271 (by rw [scL_length]; omega) (.slice (some ⟨gg, 0, none⟩) (x.patAt.length + 1) cap)
  rw [scL_put_pv] at this
  exact this

theorem Gr.two {w u w2 : World} {o : Obj} {b i gg cap : Nat} {x : Sc} {pv lv bv : Value} (h : Gr w u b x pv lv bv) (hown : w2.ownsRow (b + 1) 3 1 (.slice (some ⟨gg, 0, none⟩) (x.patLen.length + 1) cap) (x.patLen.length + 1) (ints x.patLen ++ [.int .i64 (i : Int)]))
    (hg : (u.alloc o).grownBy w2 lv.ownBlock) (hat : lv.ownBlock = some gg ∨ gg = u.heap.size + 1) :
    Row w2 b (scL x pv lv bv) ∧ Gr w (w2.setCell ⟨b, 272, none⟩ (.slice (some ⟨gg, 0, none⟩) (x.patLen.length + 1) cap)) b { x with patLen := x.patLen ++ [i] } pv (.slice (some ⟨gg, 0, none⟩) (x.patLen.length + 1) cap) bv := by
  have hr : Row w2 b (scL x pv lv bv) := Row.grown h.row (by rw [scL_length]; omega) h.notes.o2 hg
  have hs : Sole b w2 (w2.setCell ⟨b, 272, none⟩ (.slice (some ⟨gg, 0, none⟩) (x.patLen.length + 1) cap)) := (Sole.refl _ _).setCell _ _
  refine ⟨hr, ?_, (h.notes.more2 hown hg hat).sole hs, (h.below.trans (Below.grown h.notes.o2 (h.row.lt (by rw [scL_length]; omega)) hg)).trans (Sole.below hs)⟩
  have := hr.put 272 (by rw [scL_length]; omega) (.slice (some ⟨gg, 0, none⟩) (x.patLen.length + 1) cap)
  rw [scL_put_lv] at this
  exact this

theorem new_at {u : World} {H : Nat} (h : u.heap.size = H) (v : Value) (t : TypeId) : ∀ j z, [v][j]? = some z → (u.alloc (.cells #[v] t)).cell? ((⟨H, 0, none⟩ : Addr).add j) = some z := by
  subst h
  exact cell_one_new u v t

set_option maxHeartbeats 400000 in
theorem spattern_any (b : Nat) (x : Sc) (i : Nat) (w : World) (hx : ScAt w b x) (hl : x.patAt.length ≤ 1000) (hl2 : x.patLen.length ≤ 1000) (hi : i ≤ 1000) :
    Calls Try.prog 46 #[.pointer (some ⟨b, 0, none⟩), .int .i64 (i : Int)] w fun e w' => e = .returned (.tuple #[]) ∧ Below b w w' ∧ ScAt w' b (pattern x i) := by
  obtain ⟨pv, lv, bv, hR, hN⟩ := hx
  obtain ⟨i0, hi0, hz0, hz1, hz2⟩ := info_parts Try.infos3
  have HG : Hid (Gr w (emptied w b) b { x with pat := ⟨0, 0, 0, 0⟩ } pv lv bv) := by
    obtain ⟨o1, o2, o3, d1, d2, d3⟩ := hN.sole (emptied_sole w b)
    exact ⟨emptied_row hR, ⟨o1, o2, o3, d1, d2, d3⟩, Sole.below (emptied_sole w b)⟩
  have hbl : b < w.heap.size := hR.lt (by rw [scL_length]; omega)
  have m2 := hR.cell (k := 2) rfl
  have f2 := hR.frozen (k := 2) (by rw [scL_length]; omega)
  have m3 := hR.cell (k := 3) rfl
  have f3 := hR.frozen (k := 3) (by rw [scL_length]; omega)
  have m4 := hR.cell (k := 4) rfl
  have f4 := hR.frozen (k := 4) (by rw [scL_length]; omega)
  have m5 := hR.cell (k := 5) rfl
  have f5 := hR.frozen (k := 5) (by rw [scL_length]; omega)
  have m271 := hR.cell (scL_pv x pv lv bv)
  have f271 := hR.frozen (k := 271) (by rw [scL_length]; omega)
  have m272 := hR.cell (scL_lv x pv lv bv)
  have f272 := hR.frozen (k := 272) (by rw [scL_length]; omega)
  clear hR hN
  go_enter Try.func46, Try.ntmps46
  go_wp2_with (at_builtin; first
    | (have q2 := m2; clear q2; refine wpList_append_lies _ rfl _ _ 57 rfl (b + 1) 3 i0 (.int .i64 0) 1 8 Try.underlying57 hi0 hz0 hz1 hz2 rfl (by omega) pv x.patAt.length (ints x.patAt) rfl (HG.out.notes.o1.alloc _) ⟨w.heap.size, 0, none⟩ 1 1 [.int .i64 (i : Int)] rfl rfl (new_at (emptied_size w b) _ _) (fun x hx => by simp at hx; subst hx; rfl) (by omega) (by unfold maxLen; omega) (by omega) (by simp; omega) (w.heap.size + 1) (by simp) ?_; intro gg cap w7 hown7 hgrow7 hat7 hlt7; clear hlt7; have HG7 : Hid (Row w7 b (scL { x with pat := ⟨0, 0, 0, 0⟩ } pv lv bv) ∧ Gr w (w7.setCell ⟨b, 271, none⟩ (.slice (some ⟨gg, 0, none⟩) (x.patAt.length + 1) cap)) b { x with pat := ⟨0, 0, 0, 0⟩, patAt := x.patAt ++ [i] } (.slice (some ⟨gg, 0, none⟩) (x.patAt.length + 1) cap) lv bv) := Gr.one HG.out hown7 hgrow7 (by rw [emptied_size]; exact hat7); have HSZ : Hid ((w7.setCell ⟨b, 271, none⟩ (.slice (some ⟨gg, 0, none⟩) (x.patAt.length + 1) cap)).heap.size = w7.heap.size) := (by rw [Hid]; simp); have hb7 : b < w7.heap.size := HG7.out.1.lt (by rw [scL_length]; omega); have m7 := HG7.out.1.cell (scL_pv _ pv lv bv); have f7 := HG7.out.1.frozen (k := 271) (by rw [scL_length]; omega); have n7 := HG7.out.1.cell (scL_lv _ pv lv bv); have g7 := HG7.out.1.frozen (k := 272) (by rw [scL_length]; omega); clear hown7 hgrow7 hat7 m2 m3 m4 m5 f2 f3 f4 f5 m271 m272 f271 f272)
    | (refine wpList_append_lies _ rfl _ _ 57 rfl (b + 1) 3 i0 (.int .i64 0) 1 8 Try.underlying57 hi0 hz0 hz1 hz2 rfl (by omega) lv x.patLen.length (ints x.patLen) rfl (HG7.out.2.notes.o2.alloc _) ⟨w7.heap.size, 0, none⟩ 1 1 [.int .i64 0] rfl rfl (new_at HSZ.out _ _) (fun x hx => by simp at hx; subst hx; rfl) (by omega) (by unfold maxLen; omega) (by omega) (by simp; omega) (w7.heap.size + 1) (by simp) ?_; intro g2 cap2 w9 hown9 hgrow9 hat9 hlt9; clear hlt9; have HG9 : Hid (Row w9 b (scL { x with pat := ⟨0, 0, 0, 0⟩, patAt := x.patAt ++ [i] } (.slice (some ⟨gg, 0, none⟩) (x.patAt.length + 1) cap) lv bv) ∧ Gr w (w9.setCell ⟨b, 272, none⟩ (.slice (some ⟨g2, 0, none⟩) (x.patLen.length + 1) cap2)) b { x with pat := ⟨0, 0, 0, 0⟩, patAt := x.patAt ++ [i], patLen := x.patLen ++ [0] } (.slice (some ⟨gg, 0, none⟩) (x.patAt.length + 1) cap) (.slice (some ⟨g2, 0, none⟩) (x.patLen.length + 1) cap2) bv) := Gr.two (i := 0) HG7.out.2 hown9 hgrow9 (by rw [HSZ.out]; exact hat9); have m9 := HG9.out.1.cell (scL_lv _ _ lv bv); have f9 := HG9.out.1.frozen (k := 272) (by rw [scL_length]; omega); clear hown9 hgrow9 hat9 m7 f7 n7 g7))
  exact bodyPost_end (v := .tuple #[]) (by simp [results, Try.results46, go_sem]) rfl ⟨rfl, HG9.out.2.below, _, _, _, HG9.out.2.row, HG9.out.2.notes⟩
end Sk
end Go.Proofs.Ytppjlpihaocdiaa

/- The document's walk over a script: the names of labels. -/
set_option linter.unusedSimpArgs false
set_option linter.unusedVariables false
namespace Go.Proofs.Ytppjlpihaocdiaa
namespace Sk
open Go.RowKit

theorem addLetter_snoc (l0 : List Lb) (q : Lb) (c : Nat) : addLetter (l0 ++ [q]) c = l0 ++ [⟨q.name ++ [c], q.at', q.goal⟩] := by
  unfold addLetter
  simp

theorem str_snoc (l : List Nat) (c : Nat) : str (l ++ [c]) = str l ++ ⟨#[UInt8.ofNat c]⟩ := by
  apply ByteArray.ext
  simp [str, ByteArray.data_append]

theorem lbL_length (l : List Lb) : (lbL l).length = l.length * 3 := by
  induction l with
  | nil => rfl
  | cons a l ih => simp only [lbL, List.flatMap_cons, List.length_append, List.length_cons, List.length_nil] at ih ⊢; omega

theorem lbL_snoc (l : List Lb) (q : Lb) : lbL (l ++ [q]) = lbL l ++ [Value.string (str q.name), .int .i64 q.at', .bool q.goal] := by simp [lbL]

theorem scL_bv (x : Sc) (pv lv bv : Value) : (scL x pv lv bv)[273]? = some bv := by
  have h : (r256 x.row ++ [Value.int .i64 x.rows, pv, lv, bv])[259]? = some bv := by
    rw [List.getElem?_append_right (by simp [r256])]
    simp [r256]
  exact h
theorem scL_put_bv (x : Sc) (pv lv bv v : Value) : (scL x pv lv bv).set 273 v = scL x pv lv v := by
  have h : (r256 x.row ++ [Value.int .i64 x.rows, pv, lv, bv]).set 259 v = r256 x.row ++ [Value.int .i64 x.rows, pv, lv, v] := by
    rw [List.set_append_right _ _ (by simp [r256])]
    simp [r256]
  unfold scL
  simp only [List.set_cons_succ]
  rw [h]

/-- The third row has grown. -/
theorem Notes.more3 {w w2 : World} {o : Obj} {b gg cap : Nat} {q : Lb} {x : Sc} {pv lv bv : Value} (hn : Notes w b x pv lv bv) (hown : w2.ownsRow (b + 1) 63 3 (.slice (some ⟨gg, 0, none⟩) (x.labels.length + 1) cap) (x.labels.length + 1) (lbL x.labels ++ [Value.string (str q.name), .int .i64 q.at', .bool q.goal]))
    (hg : (w.alloc o).grownBy w2 bv.ownBlock) (hat : bv.ownBlock = some gg ∨ gg = w.heap.size + 1) : Notes w2 b { x with labels := x.labels ++ [q] } pv lv (.slice (some ⟨gg, 0, none⟩) (x.labels.length + 1) cap) := by
  obtain ⟨o1, o2, o3, d1, d2, d3⟩ := hn
  have far : ∀ {u : Value} {e : TypeId} {sz n : Nat} {xs : List Value}, w.ownsRow (b + 1) e sz u n xs → (∀ k, bv.ownBlock = some k → u.ownBlock ≠ some k) → ∀ k, (Value.slice (some ⟨gg, 0, none⟩) (x.labels.length + 1) cap).ownBlock = some k → u.ownBlock ≠ some k := by
    intro u e sz n xs hu hd k hk hk'
    have hgk : gg = k := by simpa [Value.ownBlock] using hk
    subst hgk
    rcases hat with e | e
    · exact hd gg e hk'
    · have := (hu.lt gg hk').2
      omega
  have d2' : ∀ k, bv.ownBlock = some k → pv.ownBlock ≠ some k := fun k h h' => d2 k h' h
  have d3' : ∀ k, bv.ownBlock = some k → lv.ownBlock ≠ some k := fun k h h' => d3 k h' h
  exact ⟨own_beside o1 hg d2', own_beside o2 hg d3', by simp only [List.length_append, List.length_singleton, lbL_snoc]; exact hown, d1, fun k h h' => far o1 d2' k h' h, fun k h h' => far o2 d3' k h' h⟩

/-- The last label has one letter more. -/
theorem Notes.lettered {w : World} {b g cap c : Nat} {l0 : List Lb} {q : Lb} {x : Sc} {pv lv : Value} (hl : x.labels = l0 ++ [q]) (hn : Notes w b x pv lv (.slice (some ⟨g, 0, none⟩) (l0.length + 1) cap)) :
    Notes (w.setCell ⟨g, l0.length * 3, none⟩ (.string (str (q.name ++ [c])))) b { x with labels := l0 ++ [⟨q.name ++ [c], q.at', q.goal⟩] } pv lv (.slice (some ⟨g, 0, none⟩) (l0.length + 1) cap) := by
  obtain ⟨o1, o2, o3, d1, d2, d3⟩ := hn
  have far : ∀ {u : Value} {e : TypeId} {sz n : Nat} {xs : List Value}, w.ownsRow (b + 1) e sz u n xs → u.ownBlock ≠ some g → (w.setCell ⟨g, l0.length * 3, none⟩ (.string (str (q.name ++ [c])))).ownsRow (b + 1) e sz u n xs := fun hu hd =>
    own_of hu fun k hk => Below.heap_setCell _ _ _ _ (fun e => hd (by rw [hk]; simp only at e; rw [e]))
  rw [hl] at o3
  simp only [List.length_append, List.length_singleton] at o3
  have h2 := (o3.stored (l0.length * 3) (.string (str (q.name ++ [c])))).1
  have e2 : (lbL (l0 ++ [q])).set (l0.length * 3) (.string (str (q.name ++ [c]))) = lbL (l0 ++ [⟨q.name ++ [c], q.at', q.goal⟩]) := by
    rw [lbL_snoc, lbL_snoc, List.set_append_right _ _ (by rw [lbL_length]; omega), lbL_length]
    simp
  rw [e2] at h2
  exact ⟨far o1 (fun e => d2 g e rfl), far o2 (fun e => d3 g e rfl), by simp only [List.length_append, List.length_singleton]; exact h2, d1, d2, d3⟩
end Sk
end Go.Proofs.Ytppjlpihaocdiaa

/- The document's walk over a script: a byte of a pattern. -/
set_option linter.unusedSimpArgs false
set_option linter.unusedVariables false
namespace Go.Proofs.Ytppjlpihaocdiaa
namespace Sk
open Go.RowKit

theorem bump_snoc (l : List Nat) (a : Nat) : bump (l ++ [a]) = l ++ [a + 1] := by
  unfold bump
  simp

/-- The last length is one more. -/
theorem Notes.bumped {w : World} {b g cap a : Nat} {l0 : List Nat} {x : Sc} {pv bv : Value} (hl : x.patLen = l0 ++ [a]) (hn : Notes w b x pv (.slice (some ⟨g, 0, none⟩) (l0.length + 1) cap) bv) :
    Notes (w.setCell ⟨g, l0.length, none⟩ (.int .i64 ((a + 1 : Nat) : Int))) b { x with patLen := l0 ++ [a + 1] } pv (.slice (some ⟨g, 0, none⟩) (l0.length + 1) cap) bv := by
  obtain ⟨o1, o2, o3, d1, d2, d3⟩ := hn
  have far : ∀ {u : Value} {e : TypeId} {sz n : Nat} {xs : List Value}, w.ownsRow (b + 1) e sz u n xs → u.ownBlock ≠ some g → (w.setCell ⟨g, l0.length, none⟩ (.int .i64 ((a + 1 : Nat) : Int))).ownsRow (b + 1) e sz u n xs := fun hu hd =>
    own_of hu fun k hk => Below.heap_setCell _ _ _ _ (fun e => hd (by rw [hk]; simp only at e; rw [e]))
  rw [hl] at o2
  simp only [List.length_append, List.length_singleton] at o2
  have h2 := (o2.stored l0.length (.int .i64 ((a + 1 : Nat) : Int))).1
  have e2 : (ints (l0 ++ [a])).set l0.length (.int .i64 ((a + 1 : Nat) : Int)) = ints (l0 ++ [a + 1]) := by
    rw [ints_snoc, ints_snoc, List.set_append_right _ _ (by simp [ints])]
    simp [ints]
  rw [e2] at h2
  exact ⟨far o1 (fun e => d1 g e rfl), by simp only [List.length_append, List.length_singleton]; exact h2, far o3 (fun e => d3 g rfl e), d1, d2, d3⟩

/-- What a byte of a pattern leaves. -/
def Sp (b : Nat) (x : Sc) (c : Nat) (w : World) (e : Ending) (w' : World) : Prop :=
  ∃ ok, e = .returned (.tuple #[.bool ok, .bool (inPattern x c).2]) ∧ Below b w w' ∧ ((inPattern x c).2 = true → w' = w ∧ ok = whole x.pat) ∧ ((inPattern x c).2 = false → (∃ x', (inPattern x c).1 = some x' ∧ ok = true ∧ ScAt w' b x') ∨ ((inPattern x c).1 = none ∧ ok = false))

set_option maxHeartbeats 1000000 in
theorem inPattern_any (b : Nat) (x : Sc) (c : Nat) (w : World) (hx : ScAt w b x) (hm : Sm x) (hc : c < 256) (hp : x.patLen ≠ []) (hp2 : ∀ n ∈ x.patLen, n ≤ 1000) (hp3 : x.patLen.length ≤ 1000) :
    Calls Try.prog 43 #[.pointer (some ⟨b, 0, none⟩), .int .u8 c] w (Sp b x c w) := by
  obtain ⟨pv, lv, bv, hR, hN⟩ := hx
  have HR : Hid (Row w b (scL x pv lv bv)) := hR
  have HM : Hid (Small x.pat) := hm.pat
  have HW : Hid (W2.Wk w b x.pat) := Row.wk hR
  by_cases hend : c = 47 ∧ escaping x.pat = false
  · obtain ⟨rfl, hesc⟩ := hend
    have HI : Hid (inPattern x 47 = (if whole x.pat = true then some x else none, true)) := by unfold inPattern; rw [Hid, if_pos ⟨rfl, hesc⟩]
    have HQ : Hid (escaping x.pat = false) := hesc
    clear hesc hR hN hm
    go_enter Try.func43, Try.ntmps43
    go_wp2_with fail
    refine (escaping_any b x.pat w HM.out HW.out).mono ?_
    rw [HQ.out]
    rintro e w1 ⟨rfl, rfl⟩
    go_wp2_with fail
    refine (W2.whole_any b x.pat w1 HW.out).mono ?_
    rintro e w2 ⟨rfl, rfl⟩
    go_wp2_with fail
    go_ret2
    unfold Sp
    rw [HI.out]
    exact ⟨whole x.pat, rfl, Below.refl _ _, fun _ => ⟨rfl, rfl⟩, fun h => by cases h⟩
  · have HI : Hid (inPattern x c = ((step x.pat c).map fun st => { x with pat := st, patLen := bump x.patLen }, false)) := by unfold inPattern; rw [Hid, if_neg hend]
    obtain ⟨l0, a, hla⟩ : ∃ l0 a, x.patLen = l0 ++ [a] := ⟨x.patLen.dropLast, x.patLen.getLast hp, (List.dropLast_concat_getLast hp).symm⟩
    have hlen : x.patLen.length = l0.length + 1 := by rw [hla]; simp
    have ha : a ≤ 1000 := hp2 a (by rw [hla]; simp)
    have hl0 : l0.length ≤ 1000 := by omega
    obtain ⟨g, cap, hlv, hg1, hg2⟩ := hN.o2.form (by omega)
    rw [hlen] at hlv
    subst hlv
    have m272 := hR.cell (scL_lv x _ _ _)
    have hgc : w.cell? ⟨g, l0.length, none⟩ = some (.int .i64 (a : Int)) := by
      have o2 := hN.o2
      rw [hlen] at o2
      rw [o2.cellAt l0.length (by omega), hla, ints_snoc]
      simp [ints]
    have hgf : w.frozen? ⟨g, l0.length, none⟩ = false := by
      have o2 := hN.o2
      rw [hlen] at o2
      exact o2.frozenAt _
    have HE : Hid (((a : Int) + 1) = ((a + 1 : Nat) : Int)) := by rw [Hid]; omega
    have HN1 : Hid (Notes (w.setCell ⟨g, l0.length, none⟩ (.int .i64 ((a : Int) + 1))).drew b { x with patLen := l0 ++ [a + 1] } pv (.slice (some ⟨g, 0, none⟩) (l0.length + 1) cap) bv) := by
      rw [HE.out]
      exact (hN.bumped hla).sole (w' := (w.setCell ⟨g, l0.length, none⟩ (.int .i64 ((a + 1 : Nat) : Int))).drew) ⟨rfl, rfl, rfl, rfl, fun _ _ => rfl⟩
    have HR1 : Hid (Row (w.setCell ⟨g, l0.length, none⟩ (.int .i64 ((a : Int) + 1))).drew b (scL { x with patLen := l0 ++ [a + 1] } pv (.slice (some ⟨g, 0, none⟩) (l0.length + 1) cap) bv)) := by
      exact hR.of_block (w' := (w.setCell ⟨g, l0.length, none⟩ (.int .i64 ((a : Int) + 1))).drew) (Below.heap_setCell _ _ _ _ (by simp only; omega))
    have HB1 : Hid (Below b w (w.setCell ⟨g, l0.length, none⟩ (.int .i64 ((a : Int) + 1))).drew) := ⟨rfl, rfl, rfl, by simp [World.setCell], fun k hk => Below.heap_setCell w ⟨g, l0.length, none⟩ _ k (by simp only; omega)⟩
    have HL : Hid (bump x.patLen = l0 ++ [a + 1]) := by rw [Hid, hla, bump_snoc]
    have hcs : (c = 47 ∧ escaping x.pat = true) ∨ (c ≠ 47) := by
      by_cases h : c = 47
      · refine .inl ⟨h, ?_⟩
        rcases bool_or (escaping x.pat) with h' | h'
        · exact h'
        · exact absurd ⟨h, h'⟩ hend
      · exact .inr h
    clear hR hN hm hend hp hp2 hp3 hla hlen
    go_enter Try.func43, Try.ntmps43
    go_wp2_with fail
    refine (escaping_any b x.pat w HM.out HW.out).mono ?_
    rcases hcs with ⟨rfl, hq⟩ | hq
    · rw [hq]
      rintro e w1 ⟨rfl, rfl⟩
      clear hq
      go_wp2_with fail
      go_region
      go_wp2_with fail
      clear hgc hgf m272
      generalize (w1.setCell ⟨g, l0.length, none⟩ (.int .i64 ((a : Int) + 1))).drew = W1 at HN1 HR1 HB1 ⊢
      refine (W2.step_any b x.pat 47 W1 hc HM.out (Row.wk HR1.out)).mono ?_
      rintro e w2 ⟨q, rfl, ho, hd⟩
      have HB2 : Hid (Below b w1 w2) := HB1.out.trans (Sole.below (OnlyW.sole ho))
      have HF : Hid (Sp b x 47 w1 (.returned (.tuple #[.bool q, .bool false])) w2) := by
        unfold Sp
        rw [Hid, HI.out]
        refine ⟨q, rfl, HB2.out, fun h => (by cases h), fun _ => ?_⟩
        rcases hd with ⟨st', h1, rfl, hk⟩ | ⟨h1, rfl⟩
        · refine .inl ⟨_, by rw [h1]; rfl, rfl, ?_⟩
          rw [HL.out]
          exact ScAt.put HN1.out (OnlyW.sole ho) (Row.walked HR1.out ho hk) rfl rfl rfl
        · exact .inr ⟨by rw [h1]; rfl, rfl⟩
      clear ho hd
      go_wp2_with fail
      go_ret2
      exact HF.out
    · have q1 : ((c : Int) == 47) = false := by simp; omega
      clear hq
      rintro e w1 ⟨rfl, rfl⟩
      go_wp2_with fail
      go_region
      go_wp2_with fail
      clear hgc hgf m272
      generalize (w1.setCell ⟨g, l0.length, none⟩ (.int .i64 ((a : Int) + 1))).drew = W1 at HN1 HR1 HB1 ⊢
      refine (W2.step_any b x.pat c W1 hc HM.out (Row.wk HR1.out)).mono ?_
      rintro e w2 ⟨q, rfl, ho, hd⟩
      have HB2 : Hid (Below b w1 w2) := HB1.out.trans (Sole.below (OnlyW.sole ho))
      have HF : Hid (Sp b x c w1 (.returned (.tuple #[.bool q, .bool false])) w2) := by
        unfold Sp
        rw [Hid, HI.out]
        refine ⟨q, rfl, HB2.out, fun h => (by cases h), fun _ => ?_⟩
        rcases hd with ⟨st', h1, rfl, hk⟩ | ⟨h1, rfl⟩
        · refine .inl ⟨_, by rw [h1]; rfl, rfl, ?_⟩
          rw [HL.out]
          exact ScAt.put HN1.out (OnlyW.sole ho) (Row.walked HR1.out ho hk) rfl rfl rfl
        · exact .inr ⟨by rw [h1]; rfl, rfl⟩
      clear ho hd
      go_wp2_with fail
      go_ret2
      exact HF.out
end Sk
end Go.Proofs.Ytppjlpihaocdiaa

/- The document's walk over a script: places, and how a row of a script begins. -/
set_option linter.unusedSimpArgs false
set_option linter.unusedVariables false
namespace Go.Proofs.Ytppjlpihaocdiaa
namespace Sk
open Go.RowKit

/-- What a step leaves that turns nothing where it fails. -/
def Ss (b : Nat) (w : World) (r : Option Sc) (e : Ending) (w' : World) : Prop :=
  ∃ q, e = .returned (.bool q) ∧ Below b w w' ∧ ((∃ x', r = some x' ∧ q = true ∧ ScAt w' b x') ∨ (r = none ∧ q = false ∧ w' = w))
theorem Ss.yes {b : Nat} {w w' : World} {x x' : Sc} {pv lv bv : Value} {r : Option Sc} (hn : Notes w b x pv lv bv) (hs : Sole b w w') (hr : Row w' b (scL x' pv lv bv)) (e : r = some x') (e1 : x'.patAt = x.patAt := by rfl) (e2 : x'.patLen = x.patLen := by rfl) (e3 : x'.labels = x.labels := by rfl) : Ss b w r (.returned (.bool true)) w' :=
  ⟨true, rfl, Sole.below hs, .inl ⟨x', e, rfl, ScAt.put hn hs hr e1 e2 e3⟩⟩
theorem Ss.sd {b : Nat} {w w' : World} {r : Option Sc} {e : Ending} (h : Ss b w r e w') : Sd b w r e w' := by
  obtain ⟨q, h1, h2, h3⟩ := h
  refine ⟨q, h1, h2, ?_⟩
  rcases h3 with h3 | ⟨h3, h4, _⟩
  · exact .inl h3
  · exact .inr ⟨h3, h4⟩

set_option maxHeartbeats 1000000 in
theorem spot_any (b : Nat) (x : Sc) (c i : Nat) (w : World) (hx : ScAt w b x) (hc : c < 256) (hl : x.patAt.length ≤ 1000) (hl2 : x.patLen.length ≤ 1000) (hi : i ≤ 900) :
    Calls Try.prog 41 #[.pointer (some ⟨b, 0, none⟩), .int .u8 c, .int .i64 i] w (Ss b w (spot x c i)) := by
  obtain ⟨pv, lv, bv, hR, hN⟩ := hx
  have HR : Hid (Row w b (scL x pv lv bv)) := hR
  have HN : Hid (Notes w b x pv lv bv) := hN
  have m0 := hR.cell (k := 0) rfl
  have f0 := hR.frozen (k := 0) (by rw [scL_length]; omega)
  have m7 := hR.cell (k := 7) rfl
  have f7 := hR.frozen (k := 7) (by rw [scL_length]; omega)
  have m8 := hR.cell (k := 8) rfl
  have f8 := hR.frozen (k := 8) (by rw [scL_length]; omega)
  clear hR hN
  by_cases hd : 48 ≤ c ∧ c ≤ 57
  · obtain ⟨d1, d2⟩ := hd
    have i1 : (48 : Int) ≤ (c : Int) := by omega
    have i2 : (c : Int) ≤ 57 := by omega
    by_cases h48 : c = 48
    · have HS : Hid (spot x c i = some { x with mode := 1, count := 1, zero := 0 }) := by unfold spot; rw [Hid, if_pos ⟨d1, d2⟩, if_pos h48]
      have HRR : Hid _ := Row.head (x' := { x with mode := 1, count := 1, zero := 0 }) (Row.head (x' := { x with mode := 1, count := 1 }) (Row.head (x' := { x with mode := 1 }) HR.out 0 (.int .i64 1) (by omega) rfl) 7 (.int .i64 1) (by omega) rfl) 8 (.int .i64 0) (by omega) rfl
      subst h48
      go_enter Try.func41, Try.ntmps41
      go_wp2_with fail
      go_ret
      rw [HS.out]
      exact Ss.yes (x' := { x with mode := 1, count := 1, zero := 0 }) HN.out ((((Sole.refl _ _).setCell _ _).setCell _ _).setCell _ _) HRR.out rfl
    · have HS : Hid (spot x c i = some { x with mode := 1, count := 1, zero := 1 }) := by unfold spot; rw [Hid, if_pos ⟨d1, d2⟩, if_neg h48]
      have HRR : Hid _ := Row.head (x' := { x with mode := 1, count := 1, zero := 1 }) (Row.head (x' := { x with mode := 1, count := 1, zero := 0 }) (Row.head (x' := { x with mode := 1, count := 1 }) (Row.head (x' := { x with mode := 1 }) HR.out 0 (.int .i64 1) (by omega) rfl) 7 (.int .i64 1) (by omega) rfl) 8 (.int .i64 0) (by omega) rfl) 8 (.int .i64 1) (by omega) rfl
      have q1 : ((c : Int) == 48) = false := by simp; omega
      have q2 : ((c : Int) != 48) = true := by simp; omega
      clear h48
      go_enter Try.func41, Try.ntmps41
      go_wp2_with fail
      go_ret
      rw [HS.out]
      exact Ss.yes (x' := { x with mode := 1, count := 1, zero := 1 }) HN.out (((((Sole.refl _ _).setCell _ _).setCell _ _).setCell _ _).setCell _ _) HRR.out rfl
  · by_cases h36 : c = 36
    · subst h36
      have HS : Hid (spot x 36 i = some { x with mode := 2 }) := by unfold spot; rw [Hid, if_neg (by omega), if_pos rfl]
      clear hd
      go_enter Try.func41, Try.ntmps41
      go_wp2_with fail
      go_ret
      rw [HS.out]
      exact Ss.yes (x' := { x with mode := 2 }) HN.out ((Sole.refl _ _).setCell _ _) (Row.head HR.out 0 _ (by omega) rfl) rfl
    by_cases h47 : c = 47
    · subst h47
      have HS : Hid (spot x 47 i = some (pattern { x with mode := 6 } (i + 1))) := by unfold spot; rw [Hid, if_neg (by omega), if_neg (by omega), if_pos rfl]
      have hsp := spattern_any b { x with mode := 6 } (i + 1) (w.setCell ⟨b, 0, none⟩ (.int .i64 6)) (ScAt.put HN.out ((Sole.refl _ _).setCell _ _) (Row.head (x' := { x with mode := 6 }) HR.out 0 _ (by omega) rfl) rfl rfl rfl) hl hl2 (by omega)
      rw [show ((i + 1 : Nat) : Int) = (i : Int) + 1 by omega] at hsp
      have HSP : Hid (Calls Try.prog 46 #[.pointer (some ⟨b, 0, none⟩), .int .i64 ((i : Int) + 1)] (w.setCell ⟨b, 0, none⟩ (.int .i64 6)) fun e w' => e = .returned (.tuple #[]) ∧ Below b (w.setCell ⟨b, 0, none⟩ (.int .i64 6)) w' ∧ ScAt w' b (pattern { x with mode := 6 } (i + 1))) := hsp
      clear hd hsp
      go_enter Try.func41, Try.ntmps41
      go_wp2_with fail
      refine HSP.out.mono ?_
      rintro e w2 ⟨rfl, hb, ha⟩
      have HB : Hid (Below b w w2) := (Sole.below ((Sole.refl b w).setCell 0 (.int .i64 6))).trans hb
      have HA : Hid (ScAt w2 b (pattern { x with mode := 6 } (i + 1))) := ha
      clear hb ha
      go_wp2_with fail
      go_ret
      rw [HS.out]
      exact ⟨true, rfl, HB.out, .inl ⟨_, rfl, rfl, HA.out⟩⟩
    · have HS : Hid (spot x c i = none) := by unfold spot; rw [Hid, if_neg hd, if_neg h36, if_neg h47]
      have q1 : ((c : Int) == 36) = false := by simp; omega
      have q2 : ((c : Int) == 47) = false := by simp; omega
      have hcs : ¬ (48 : Int) ≤ (c : Int) ∨ ((48 : Int) ≤ (c : Int) ∧ ¬ (c : Int) ≤ 57) := by omega
      clear hd h36 h47
      rcases hcs with d1 | ⟨d1, d2⟩
      · have d1' : decide ((48 : Int) ≤ (c : Int)) = false := decide_eq_false d1
        go_enter Try.func41, Try.ntmps41
        go_wp2_with fail
        go_ret
        rw [HS.out]
        exact ⟨false, rfl, Below.refl _ _, .inr ⟨rfl, rfl, rfl⟩⟩
      · have d2' : decide ((c : Int) ≤ 57) = false := decide_eq_false d2
        go_enter Try.func41, Try.ntmps41
        go_wp2_with fail
        go_ret
        rw [HS.out]
        exact ⟨false, rfl, Below.refl _ _, .inr ⟨rfl, rfl, rfl⟩⟩

end Sk
end Go.Proofs.Ytppjlpihaocdiaa

/- The document's walk over a script: how a row of a script begins. -/
set_option linter.unusedSimpArgs false
set_option linter.unusedVariables false
namespace Go.Proofs.Ytppjlpihaocdiaa
namespace Sk
open Go.RowKit

set_option maxHeartbeats 1000000 in
theorem begin_any (b : Nat) (x : Sc) (c i : Nat) (w : World) (hx : ScAt w b x) (hm : Sm x) (hc : c < 256) (hl : x.patAt.length ≤ 1000) (hl2 : x.patLen.length ≤ 1000) (hi : i ≤ 900) :
    Calls Try.prog 38 #[.pointer (some ⟨b, 0, none⟩), .int .u8 c, .int .i64 i] w (Sd b w (begin' x c i)) := by
  have HX : Hid (ScAt w b x) := hx
  have HM : Hid (Sm x) := hm
  obtain ⟨pv, lv, bv, hR, hN⟩ := hx
  have HR : Hid (Row w b (scL x pv lv bv)) := hR
  have HN : Hid (Notes w b x pv lv bv) := hN
  have m0 := hR.cell (k := 0) rfl
  have f0 := hR.frozen (k := 0) (by rw [scL_length]; omega)
  have m1 := hR.cell (k := 1) rfl
  have f1 := hR.frozen (k := 1) (by rw [scL_length]; omega)
  have m6 := hR.cell (k := 6) rfl
  have f6 := hR.frozen (k := 6) (by rw [scL_length]; omega)
  have m7 := hR.cell (k := 7) rfl
  have f7 := hR.frozen (k := 7) (by rw [scL_length]; omega)
  have m9 := hR.cell (k := 9) rfl
  have f9 := hR.frozen (k := 9) (by rw [scL_length]; omega)
  have m10 := hR.cell (k := 10) rfl
  have f10 := hR.frozen (k := 10) (by rw [scL_length]; omega)
  have h5 := hm.op
  clear hR hN hm
  by_cases h32 : c = 32
  · subst h32
    have HS : Hid (begin' x 32 i = some x) := by unfold begin'; rw [Hid, if_pos (by omega)]
    go_enter Try.func38, Try.ntmps38
    go_wp2_with fail
    go_ret
    rw [HS.out]
    exact ⟨true, rfl, Below.refl _ _, .inl ⟨x, rfl, rfl, HX.out⟩⟩
  by_cases h59 : c = 59
  · subst h59
    have HS : Hid (begin' x 59 i = some x) := by unfold begin'; rw [Hid, if_pos (by omega)]
    go_enter Try.func38, Try.ntmps38
    go_wp2_with fail
    go_ret
    rw [HS.out]
    exact ⟨true, rfl, Below.refl _ _, .inl ⟨x, rfl, rfl, HX.out⟩⟩
  by_cases h10 : c = 10
  · subst h10
    have HS : Hid (begin' x 10 i = some x) := by unfold begin'; rw [Hid, if_pos (by omega)]
    go_enter Try.func38, Try.ntmps38
    go_wp2_with fail
    go_ret
    rw [HS.out]
    exact ⟨true, rfl, Below.refl _ _, .inl ⟨x, rfl, rfl, HX.out⟩⟩
  by_cases h125 : c = 125
  · subst h125
    by_cases ho : 0 < x.op
    · have HE : Hid (((x.op : Int) - 1) = ((x.op - 1 : Nat) : Int)) := by rw [Hid]; omega
      have HS : Hid (begin' x 125 i = some { x with op := x.op - 1, mode := 7 }) := by unfold begin'; rw [Hid, if_neg (by omega), if_pos rfl, if_pos ho]
      have HRR : Hid _ := Row.head (x' := { x with op := x.op - 1, mode := 7 }) (Row.head (x' := { x with op := x.op - 1 }) HR.out 1 (.int .i64 ((x.op - 1 : Nat) : Int)) (by omega) rfl) 0 (.int .i64 7) (by omega) rfl
      have hoi : (0 : Int) ≤ (x.op : Int) - 1 := by omega
      go_enter Try.func38, Try.ntmps38
      go_wp2_with fail
      go_ret
      rw [HS.out, HE.out]
      exact ⟨_, rfl, Sole.below (((Sole.refl _ _).setCell _ _).setCell _ _), .inl ⟨_, rfl, by first | rfl | (simp; done) | (simp; omega), ScAt.put HN.out (((Sole.refl _ _).setCell _ _).setCell _ _) HRR.out rfl rfl rfl⟩⟩
    · have HS : Hid (begin' x 125 i = none) := by unfold begin'; rw [Hid, if_neg (by omega), if_pos rfl, if_neg ho]
      have ho' : x.op = 0 := by omega
      have hoi : ¬ (0 : Int) ≤ (x.op : Int) - 1 := by omega
      clear ho
      go_enter Try.func38, Try.ntmps38
      go_wp2_with fail
      go_ret
      rw [HS.out]
      exact ⟨_, rfl, Sole.below (((Sole.refl _ _).setCell _ _).setCell _ _), .inr ⟨rfl, by first | rfl | (simp; done) | (simp; omega)⟩⟩
  by_cases h58 : c = 58
  · subst h58
    have HS : Hid (begin' x 58 i = some { x with mode := 10, least := 1, count := 0, goal := true }) := by unfold begin'; rw [Hid, if_neg (by omega), if_neg (by omega), if_pos rfl]
    have HRR : Hid _ := Row.head (x' := { x with mode := 10, least := 1, count := 0, goal := true }) (Row.head (x' := { x with mode := 10, least := 1, count := 0 }) (Row.head (x' := { x with mode := 10, least := 1 }) (Row.head (x' := { x with mode := 10 }) HR.out 0 (.int .i64 10) (by omega) rfl) 9 (.int .i64 1) (by omega) rfl) 7 (.int .i64 0) (by omega) rfl) 10 (.bool true) (by omega) rfl
    go_enter Try.func38, Try.ntmps38
    go_wp2_with fail
    go_ret
    rw [HS.out]
    exact Sd.yes (x' := { x with mode := 10, least := 1, count := 0, goal := true }) HN.out (((((Sole.refl _ _).setCell _ _).setCell _ _).setCell _ _).setCell _ _) HRR.out rfl
  have hT : begin' x c i = match spot { x with part := 1 } c i with
    | some y => some y
    | none => addressed { x with part := 1 } c := by unfold begin'; rw [if_neg (by omega), if_neg h125, if_neg h58]; rfl
  have HT : Hid _ := hT
  have q1 : ((c : Int) == 32) = false := by simp; omega
  have q2 : ((c : Int) == 59) = false := by simp; omega
  have q3 : ((c : Int) == 10) = false := by simp; omega
  have q4 : ((c : Int) == 125) = false := by simp; omega
  have q5 : ((c : Int) == 58) = false := by simp; omega
  have HA1 : Hid (ScAt (w.setCell ⟨b, 6, none⟩ (.int .i64 1)) b { x with part := 1 }) := ScAt.put HN.out ((Sole.refl _ _).setCell _ _) (Row.head (x' := { x with part := 1 }) HR.out 6 _ (by omega) rfl) rfl rfl rfl
  have HM1 : Hid (Sm { x with part := 1 }) := by
    obtain ⟨a1, a2, a3, a4, a5, a6, a7, a8⟩ := HM.out
    exact ⟨a1, a2, a3, a4, a5, by simp, a7, a8⟩
  clear hT h32 h59 h10 h125 h58
  go_enter Try.func38, Try.ntmps38
  go_wp2_with fail
  refine (spot_any b { x with part := 1 } c i _ HA1.out hc hl hl2 hi).mono ?_
  rintro e w2 ⟨q, rfl, hb, h⟩
  rcases h with ⟨y, hy, rfl, ha⟩ | ⟨hy, rfl, rfl⟩
  · have HB : Hid (Below b w w2) := (Sole.below ((Sole.refl b w).setCell 6 (.int .i64 1))).trans hb
    have HA : Hid (ScAt w2 b y) := ha
    have HS : Hid (begin' x c i = some y) := by rw [Hid, HT.out, hy]
    clear hb ha hy
    go_wp2_with fail
    go_ret
    rw [HS.out]
    exact ⟨true, rfl, HB.out, .inl ⟨y, rfl, rfl, HA.out⟩⟩
  · have HS : Hid (begin' x c i = addressed { x with part := 1 } c) := by rw [Hid, HT.out, hy]
    clear hb hy
    go_wp2_with fail
    refine (addressed_any b { x with part := 1 } c _ HA1.out HM1.out hc).mono ?_
    rintro e w2 ⟨q, rfl, hb, h⟩
    have HB : Hid (Below b w w2) := (Sole.below ((Sole.refl b w).setCell 6 (.int .i64 1))).trans hb
    have H2 : Hid _ := h
    clear hb h
    go_wp2_with fail
    go_ret
    rw [HS.out]
    exact ⟨q, rfl, HB.out, H2.out⟩
end Sk
end Go.Proofs.Ytppjlpihaocdiaa

