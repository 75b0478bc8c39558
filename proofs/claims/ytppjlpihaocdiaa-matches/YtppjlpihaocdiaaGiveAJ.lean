/- Several texts in one. -/
import Derived.Test.YtppjlpihaocdiaaLookJ
/- What the program gives each bracket, as plain mathematics. -/
set_option linter.unusedVariables false
namespace Go.Proofs.Ytppjlpihaocdiaa

section
variable (m : Nat → Nat → Nat → Prop) (g : Nat → Nat → Nat → Caps → Caps → Prop)

/-- A repetition, as the program hands it out: once more at the end, if some times are wanting. -/
def repP (x lo : Nat) (hi : Int) : Nat → Nat → Nat → Nat → Caps → Caps → Prop
  | 0, _, _, _, c, c' => c' = c
  | f + 1, done, i, j, c, c' => (¬ i < j ∧ ((done < lo ∧ g x i j c c') ∨ (¬ done < lo ∧ c' = c))) ∨
      (i < j ∧ ∃ t c1, Top (fun t => m x i t ∧ Zt (m x) lo hi (done + 1) t j) i j t ∧ g x i t c c1 ∧ repP x lo hi f (done + 1) t j c1 c')
end

theorem altG.congr {m : Nat → Nat → Nat → Prop} {g g' : Nat → Nat → Nat → Caps → Caps → Prop} : ∀ {l : List Nat}, (∀ x ∈ l, g x = g' x) → altG m g l = altG m g' l
  | [], _ => by funext i j c c'; rfl
  | x :: xs, h => by
    funext i j c c'
    simp only [altG]
    rw [h x (by simp), altG.congr (l := xs) fun y hy => h y (List.mem_cons_of_mem _ hy)]

theorem rowG.congr {m : Nat → Nat → Nat → Prop} {g g' : Nat → Nat → Nat → Caps → Caps → Prop} : ∀ {l : List Nat}, (∀ x ∈ l, g x = g' x) → rowG m g l = rowG m g' l
  | [], _ => by funext i j c c'; rfl
  | x :: xs, h => by
    funext i j c c'
    simp only [rowG]
    rw [h x (by simp), rowG.congr (l := xs) fun y hy => h y (List.mem_cons_of_mem _ hy)]

theorem repP.congr {m : Nat → Nat → Nat → Prop} {g g' : Nat → Nat → Nat → Caps → Caps → Prop} {x lo : Nat} {hi : Int} (h : g x = g' x) : ∀ f, repP m g x lo hi f = repP m g' x lo hi f
  | 0 => by funext a i j c c'; rfl
  | f + 1 => by
    funext a i j c c'
    simp only [repP]
    rw [h, repP.congr h f]

/-- What the program gives for a node that has the stretch from i to j. -/
def pgOf (s : ByteArray) (nodes : List Nd) : Nat → Nat → Nat → Nat → Caps → Caps → Prop
  | 0, _, _, _, _, _ => False
  | f + 1, n, i, j, c, c' => ∃ d, nodes[n]? = some d ∧
      (if d.kind = 3 then pgOf s nodes f (d.subs.getD 0 0) i j (c.set d.num ((i : Int), (j : Int))) c'
      else if d.kind = 4 then altG (Mat s nodes) (pgOf s nodes f) d.subs i j c c'
      else if d.kind = 5 then rowG (Mat s nodes) (pgOf s nodes f) d.subs i j c c'
      else if d.kind = 6 then repP (Mat s nodes) (pgOf s nodes f) (d.subs.getD 0 0) d.lo d.hi (d.lo + s.size + 1) 0 i j c c'
      else c' = c)

theorem getD_mem {l : List Nat} (h : l ≠ []) : l.getD 0 0 ∈ l := by
  cases l with
  | nil => exact absurd rfl h
  | cons a l => simp

theorem pgOf_more (s : ByteArray) (nodes : List Nd) (hw : Wf nodes) (h3 : ∀ (n : Nat) (d : Nd), nodes[n]? = some d → d.kind = 3 → d.subs ≠ []) : ∀ (f f' n : Nat), n < f → n < f' → pgOf s nodes f n = pgOf s nodes f' n
  | 0, _, _, h, _ => by omega
  | _, 0, _, _, h => by omega
  | f + 1, f' + 1, n, h, h' => by
    funext i j c c'
    simp only [pgOf]
    apply propext
    refine exists_congr fun d => and_congr_right fun hd => ?_
    obtain ⟨hs, h6⟩ := hw n d hd
    have ih : ∀ x ∈ d.subs, pgOf s nodes f x = pgOf s nodes f' x := fun x hx => pgOf_more s nodes hw h3 f f' x (by have := hs x hx; omega) (by have := hs x hx; omega)
    split
    · rename_i hk; rw [ih _ (getD_mem (h3 n d hd hk))]
    · split
      · rw [altG.congr ih]
      · split
        · rw [rowG.congr ih]
        · split
          · rename_i hk; rw [repP.congr (ih _ (getD_mem (h6 hk)))]
          · exact Iff.rfl

/-- What node n gives. -/
def PGv (s : ByteArray) (nodes : List Nd) (n : Nat) : Nat → Nat → Caps → Caps → Prop := pgOf s nodes (n + 1) n

theorem PGv_eq {s : ByteArray} {nodes : List Nd} (hw : Wf nodes) (h3 : ∀ (n : Nat) (d : Nd), nodes[n]? = some d → d.kind = 3 → d.subs ≠ []) {n : Nat} {d : Nd} (hd : nodes[n]? = some d) (i j : Nat) (c c' : Caps) : PGv s nodes n i j c c' ↔
      (if d.kind = 3 then PGv s nodes (d.subs.getD 0 0) i j (c.set d.num ((i : Int), (j : Int))) c'
      else if d.kind = 4 then altG (Mat s nodes) (PGv s nodes) d.subs i j c c'
      else if d.kind = 5 then rowG (Mat s nodes) (PGv s nodes) d.subs i j c c'
      else if d.kind = 6 then repP (Mat s nodes) (PGv s nodes) (d.subs.getD 0 0) d.lo d.hi (d.lo + s.size + 1) 0 i j c c'
      else c' = c) := by
  obtain ⟨hs, h6⟩ := hw n d hd
  have ih : ∀ x ∈ d.subs, pgOf s nodes n x = PGv s nodes x := fun x hx => pgOf_more s nodes hw h3 n (x + 1) x (hs x hx) (by omega)
  have e : PGv s nodes n i j c c' ↔ (if d.kind = 3 then pgOf s nodes n (d.subs.getD 0 0) i j (c.set d.num ((i : Int), (j : Int))) c'
      else if d.kind = 4 then altG (Mat s nodes) (pgOf s nodes n) d.subs i j c c'
      else if d.kind = 5 then rowG (Mat s nodes) (pgOf s nodes n) d.subs i j c c'
      else if d.kind = 6 then repP (Mat s nodes) (pgOf s nodes n) (d.subs.getD 0 0) d.lo d.hi (d.lo + s.size + 1) 0 i j c c'
      else c' = c) := by
    show (∃ d', nodes[n]? = some d' ∧ _) ↔ _
    constructor
    · rintro ⟨d', hd', h⟩
      rw [hd] at hd'
      cases hd'
      exact h
    · intro h; exact ⟨d, hd, h⟩
  rw [e]
  split
  · rename_i hk; rw [ih _ (getD_mem (h3 n d hd hk))]
  · split
    · rw [altG.congr ih]
    · split
      · rw [rowG.congr ih]
      · split
        · rename_i hk; rw [repP.congr (ih _ (getD_mem (h6 hk)))]
        · exact Iff.rfl
end Go.Proofs.Ytppjlpihaocdiaa

/- Handing out: the row of spans, what is left alone, where a table lies. -/
set_option linter.unusedSimpArgs false
set_option linter.unusedVariables false
namespace Go.Proofs.Ytppjlpihaocdiaa
open Go.RowKit

/-- All that was there is as it was, but block ob. -/
structure Fo (ob : Nat) (w w' : World) : Prop where
  os : w'.os = w.os
  tape : w'.tape = w.tape
  output : w'.output = w.output
  size : w.heap.size ≤ w'.heap.size
  block : ∀ k, k < w.heap.size → k ≠ ob → w'.heap[k]? = w.heap[k]?

theorem Fo.refl (ob : Nat) (w : World) : Fo ob w w := ⟨rfl, rfl, rfl, Nat.le_refl _, fun _ _ _ => rfl⟩
theorem Fo.trans {ob : Nat} {u v w : World} (h : Fo ob u v) (k : Fo ob v w) : Fo ob u w :=
  ⟨k.os.trans h.os, k.tape.trans h.tape, k.output.trans h.output, Nat.le_trans h.size k.size, fun i hi hn => (k.block i (Nat.lt_of_lt_of_le hi h.size) hn).trans (h.block i hi hn)⟩
theorem Fo.of_below {ob : Nat} {w w' : World} (h : Below w.heap.size w w') : Fo ob w w' := ⟨h.os, h.tape, h.output, h.size, fun i hi _ => h.block i hi⟩
theorem Fo.set {ob : Nat} {u w : World} (h : Fo ob u w) (o : Nat) (v : Value) : Fo ob u (w.setCell ⟨ob, o, none⟩ v) :=
  ⟨h.os, h.tape, h.output, by rw [size_set]; exact h.size, fun i hi hn => by rw [Below.heap_setCell _ _ _ _ hn]; exact h.block i hi hn⟩
/-- A block that was not there is written. -/
theorem Fo.setNew {ob b : Nat} {u w : World} (h : Fo ob u w) (hb : u.heap.size ≤ b) (o : Nat) (v : Value) : Fo ob u (w.setCell ⟨b, o, none⟩ v) :=
  ⟨h.os, h.tape, h.output, by rw [size_set]; exact h.size, fun i hi hn => by rw [Below.heap_setCell _ _ _ _ (by simp only; omega)]; exact h.block i hi hn⟩
theorem Fo.below {ob n : Nat} {w w' : World} (h : Fo ob w w') (hn : n ≤ w.heap.size) (ho : n ≤ ob) : Below n w w' :=
  ⟨h.os, h.tape, h.output, h.size, fun i hi => h.block i (by omega) (by omega)⟩
theorem Fo.cell {ob : Nat} {w w' : World} (h : Fo ob w w') {b o : Nat} (hb : b < w.heap.size) (hn : b ≠ ob) : w'.cell? ⟨b, o, none⟩ = w.cell? ⟨b, o, none⟩ := World.cell?_of_block (w := w) (w' := w') (a := ⟨b, o, none⟩) (h.block b hb hn)
theorem Fo.frz {ob : Nat} {w w' : World} (h : Fo ob w w') {b o : Nat} (hb : b < w.heap.size) (hn : b ≠ ob) : w'.frozen? ⟨b, o, none⟩ = w.frozen? ⟨b, o, none⟩ := World.frozen?_of_block (w := w) (w' := w') (a := ⟨b, o, none⟩) (h.block b hb hn)

/-- A row of spans lies in block ob. -/
def OutAt (w : World) (ob : Nat) (l : List (Int × Int)) : Prop := ∀ (q : Nat) (x y : Int), l[q]? = some (x, y) → w.cell? ⟨ob, q * 2, none⟩ = some (.int .i64 x) ∧ w.cell? ⟨ob, q * 2 + 1, none⟩ = some (.int .i64 y) ∧ w.frozen? ⟨ob, q * 2, none⟩ = false ∧ w.frozen? ⟨ob, q * 2 + 1, none⟩ = false

theorem OutAt.of_block {w w' : World} {ob : Nat} {l : List (Int × Int)} (h : OutAt w ob l) (hb : w'.heap[ob]? = w.heap[ob]?) : OutAt w' ob l := by
  intro q x y hq
  obtain ⟨h1, h2, h3, h4⟩ := h q x y hq
  have hc : ∀ k, w'.cell? ⟨ob, k, none⟩ = w.cell? ⟨ob, k, none⟩ := fun k => World.cell?_of_block (w := w) (w' := w') (a := ⟨ob, k, none⟩) hb
  have hf : ∀ k, w'.frozen? ⟨ob, k, none⟩ = w.frozen? ⟨ob, k, none⟩ := fun k => World.frozen?_of_block (w := w) (w' := w') (a := ⟨ob, k, none⟩) hb
  exact ⟨(hc _).trans h1, (hc _).trans h2, (hf _).trans h3, (hf _).trans h4⟩

theorem OutAt.put {w : World} {ob q : Nat} {l : List (Int × Int)} (h : OutAt w ob l) (x y : Int) (hq : q < l.length) : OutAt ((w.setCell ⟨ob, q * 2, none⟩ (.int .i64 x)).setCell ⟨ob, q * 2 + 1, none⟩ (.int .i64 y)) ob (l.set q (x, y)) := by
  intro k x' y' hk
  have hne : ∀ {a b : Nat}, a ≠ b → (⟨ob, a, none⟩ : Addr) ≠ ⟨ob, b, none⟩ := fun hab e => hab (by injection e)
  by_cases e : k = q
  · subst e
    rw [List.getElem?_set_self hq] at hk
    cases hk
    obtain ⟨h1, h2, h3, h4⟩ := h k _ _ (List.getElem?_eq_getElem hq)
    refine ⟨?_, ?_, ?_, ?_⟩
    · rw [World.cell?_setCell_other (h := hne (by omega))]
      exact World.cell?_setCell_same _ _ _ h1
    · refine World.cell?_setCell_same _ _ _ (u := .int .i64 (l[k]).2) ?_
      rw [World.cell?_setCell_other (h := hne (by omega))]
      exact h2
    · rw [World.frozen?_setCell, World.frozen?_setCell]; exact h3
    · rw [World.frozen?_setCell, World.frozen?_setCell]; exact h4
  · rw [List.getElem?_set_ne (by omega)] at hk
    obtain ⟨h1, h2, h3, h4⟩ := h k _ _ hk
    refine ⟨?_, ?_, ?_, ?_⟩
    · rw [World.cell?_setCell_other (h := hne (by omega)), World.cell?_setCell_other (h := hne (by omega))]; exact h1
    · rw [World.cell?_setCell_other (h := hne (by omega)), World.cell?_setCell_other (h := hne (by omega))]; exact h2
    · rw [World.frozen?_setCell, World.frozen?_setCell]; exact h3
    · rw [World.frozen?_setCell, World.frozen?_setCell]; exact h4

/-- The table stands. -/
structure Ctx (p : Pp) (T : Nat → Nat → Nat → Nat → Bool) (m : Nat → Nat) (w0 : World) (ob : Nat) : Prop where
  tb : TbAt w0 p p.nodes.length T m
  ri : ∀ (a : Nat) (d : Nd), p.nodes[a]? = some d → RowIs p.s (Mat p.s p.nodes) d (m a) (T a)
  pn : ∀ (a : Nat) (d : Nd), p.nodes[a]? = some d → PNd a p.groups d
  ob : w0.heap.size ≤ ob
  g9 : p.groups ≤ 9

theorem Ctx.wf {p : Pp} {T : Nat → Nat → Nat → Nat → Bool} {m : Nat → Nat} {w0 : World} {ob : Nat} (h : Ctx p T m w0 ob) : Wf p.nodes := fun n d hd => ⟨(h.pn n d hd).sub, fun e => by obtain ⟨x, hx⟩ := (h.pn n d hd).one (.inr e); rw [hx]; simp⟩
theorem Ctx.h3 {p : Pp} {T : Nat → Nat → Nat → Nat → Bool} {m : Nat → Nat} {w0 : World} {ob : Nat} (h : Ctx p T m w0 ob) : ∀ (n : Nat) (d : Nd), p.nodes[n]? = some d → d.kind = 3 → d.subs ≠ [] := fun n d hd e => by obtain ⟨x, hx⟩ := (h.pn n d hd).one (.inl e); rw [hx]; simp
theorem Ctx.tl {p : Pp} {T : Nat → Nat → Nat → Nat → Bool} {m : Nat → Nat} {w0 : World} {ob : Nat} (h : Ctx p T m w0 ob) {x : Nat} (hx : x < p.nodes.length) : Tl p.s.size (T x 0) (Mat p.s p.nodes x) :=
  (h.ri x _ (List.getElem?_eq_getElem hx)).whole.iff fun i j => Rel_Mat h.wf (List.getElem?_eq_getElem hx) i j
theorem Ctx.st {p : Pp} {T : Nat → Nat → Nat → Nat → Bool} {m : Nat → Nat} {w0 : World} {ob : Nat} (h : Ctx p T m w0 ob) (x : Nat) : Stays p.s.size (Mat p.s p.nodes x) := Mat_stays p.s h.wf (x + 1) x (by omega)

/-- How things stand: the table below, the row of spans. -/
structure Now (p : Pp) (w0 : World) (ob : Nat) (mt : Int × Int) (c : Caps) (w : World) : Prop where
  b : Below w0.heap.size w0 w
  o : OutAt w ob (mt :: c)
  l : c.length = p.groups

theorem Now.lt {p : Pp} {w0 : World} {ob : Nat} {mt : Int × Int} {c : Caps} {w : World} (h : Now p w0 ob mt c w) : ob < w.heap.size := World.block_lt_of_cell? w _ (h.o 0 _ _ rfl).1
theorem Now.below {p : Pp} {w0 : World} {ob : Nat} {mt : Int × Int} {c : Caps} {w w' : World} (h : Now p w0 ob mt c w) (hb : Below w.heap.size w w') : Now p w0 ob mt c w' :=
  ⟨h.b.trans (hb.mono h.b.size), h.o.of_block (hb.block _ h.lt), h.l⟩

/-- 'give' does what it should for the nodes below N. -/
def GiveAt (p : Pp) (T : Nat → Nat → Nat → Nat → Bool) (m : Nat → Nat) (w0 : World) (ob N : Nat) : Prop :=
  ∀ (a i j : Nat) (mt : Int × Int) (c : Caps) (w : World), a < N → a < p.nodes.length → Now p w0 ob mt c w → Mat p.s p.nodes a i j → i ≤ j → j ≤ p.s.size →
    Calls Try.prog 77 #[.pointer (some ⟨p.tb, 0, none⟩), .int .i64 a, .agg #[.int .i64 i, .int .i64 j], .slice (some ⟨ob, 0, none⟩) (p.groups + 1) (p.groups + 1)] w
      fun e w' => e = .returned (.tuple #[]) ∧ ∃ c', Now p w0 ob mt c' w' ∧ PGv p.s p.nodes a i j c c' ∧ Fo ob w w'

/-- Where a node's whole table lies. -/
structure WholeIs (w : World) (p : Pp) (x g c : Nat) : Prop where
  c4 : w.cell? ⟨p.tb, 4, none⟩ = some (.slice (some ⟨p.vb, 0, none⟩) p.nodes.length p.nodes.length)
  row : ∃ r mm, w.cell? ⟨p.vb, x, none⟩ = some (.slice (some ⟨r, 0, none⟩) mm mm) ∧ 1 ≤ mm ∧ w.cell? ⟨r, 0, none⟩ = some (.slice (some ⟨g, 0, none⟩) (p.s.size + 1) c)
  x : x < p.nodes.length
  many : p.nodes.length ≤ 200

theorem WholeIs.below {w w' : World} {p : Pp} {x g c : Nat} (h : WholeIs w p x g c) (hb : Below w.heap.size w w') : WholeIs w' p x g c := by
  have hc : ∀ b o v, w.cell? ⟨b, o, none⟩ = some v → w'.cell? ⟨b, o, none⟩ = some v := fun b o v hv => (World.cell?_of_block (w := w) (w' := w') (a := ⟨b, o, none⟩) (hb.block _ (World.block_lt_of_cell? w _ hv))).trans hv
  obtain ⟨r, mm, h1, h2, h3⟩ := h.row
  exact ⟨hc _ _ _ h.c4, ⟨r, mm, hc _ _ _ h1, h2, hc _ _ _ h3⟩, h.x, h.many⟩

theorem TbAt.wholeIs {w : World} {p : Pp} {T : Nat → Nat → Nat → Nat → Bool} {m : Nat → Nat} (h : TbAt w p p.nodes.length T m) {x : Nat} (hx : x < p.nodes.length) : ∃ g c, WholeIs w p x g c ∧ Sts w g p.s.size (T x 0) := by
  obtain ⟨r, r1, r2⟩ := h.row x hx
  obtain ⟨g, c, g1, g2, g3⟩ := r2.at' 0 r2.m1
  exact ⟨g, c, ⟨h.c4, ⟨r, _, r1, r2.m1, g1⟩, hx, h.many⟩, g3⟩

set_option maxHeartbeats 400000 in
theorem whole_is (p : Pp) (x g c : Nat) (w : World) (h : WholeIs w p x g c) :
    Calls Try.prog 52 #[.pointer (some ⟨p.tb, 0, none⟩), .int .i64 x] w fun e w' => e = .returned (.slice (some ⟨g, 0, none⟩) (p.s.size + 1) c) ∧ w' = w := by
  obtain ⟨c4, ⟨r, mm, r1, hm1, r2⟩, hx, hm⟩ := h
  go_enter Try.func52, Try.ntmps52
  go_wp2_with fail
  go_ret
  exact ⟨rfl, rfl⟩

end Go.Proofs.Ytppjlpihaocdiaa

