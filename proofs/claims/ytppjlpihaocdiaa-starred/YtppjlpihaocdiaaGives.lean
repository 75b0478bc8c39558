/- What the program gives each bracket, as plain mathematics. -/
import Derived.Test.YtppjlpihaocdiaaLook
set_option linter.unusedVariables false
namespace Go.Proofs.Ytppjlpihaocdiaa

section
variable (m : Nat → Nat → Nat → Prop) (g : Nat → Nat → Nat → Caps → Caps → Prop)

/-- A repetition, as the program hands it out: once more at the end, if some times are wanting. -/
def repP (x lo : Nat) (hi : Int) : Nat → Nat → Nat → Nat → Caps → Caps → Prop
  | 0, _, _, _, c, c' => c' = c
  | f + 1, done, i, j, c, c' => (¬ i < j ∧ ((done < lo ∧ g x i j c c') ∨ (¬ done < lo ∧ c' = c))) ∨
      (i < j ∧ ∃ t c1, Top (fun t => m x i t ∧ Zt (m x) lo hi (done + 1) t j) i j t ∧ g x i t c c1 ∧ repP x lo hi f (done + 1) t j c1 c')
end

theorem altG.congr {m : Nat → Nat → Nat → Prop} {g g' : Nat → Nat → Nat → Caps → Caps → Prop} : ∀ {l : List Nat}, (∀ x ∈ l, g x = g' x) → altG m g l = altG m g' l
  | [], _ => by funext i j c c'; rfl
  | x :: xs, h => by
    funext i j c c'
    simp only [altG]
    rw [h x (by simp), altG.congr (l := xs) fun y hy => h y (List.mem_cons_of_mem _ hy)]

theorem rowG.congr {m : Nat → Nat → Nat → Prop} {g g' : Nat → Nat → Nat → Caps → Caps → Prop} : ∀ {l : List Nat}, (∀ x ∈ l, g x = g' x) → rowG m g l = rowG m g' l
  | [], _ => by funext i j c c'; rfl
  | x :: xs, h => by
    funext i j c c'
    simp only [rowG]
    rw [h x (by simp), rowG.congr (l := xs) fun y hy => h y (List.mem_cons_of_mem _ hy)]

theorem repP.congr {m : Nat → Nat → Nat → Prop} {g g' : Nat → Nat → Nat → Caps → Caps → Prop} {x lo : Nat} {hi : Int} (h : g x = g' x) : ∀ f, repP m g x lo hi f = repP m g' x lo hi f
  | 0 => by funext a i j c c'; rfl
  | f + 1 => by
    funext a i j c c'
    simp only [repP]
    rw [h, repP.congr h f]

/-- What the program gives for a node that has the stretch from i to j. -/
def pgOf (s : ByteArray) (nodes : List Nd) : Nat → Nat → Nat → Nat → Caps → Caps → Prop
  | 0, _, _, _, _, _ => False
  | f + 1, n, i, j, c, c' => ∃ d, nodes[n]? = some d ∧
      (if d.kind = 3 then pgOf s nodes f (d.subs.getD 0 0) i j (c.set d.num ((i : Int), (j : Int))) c'
      else if d.kind = 4 then altG (Mat s nodes) (pgOf s nodes f) d.subs i j c c'
      else if d.kind = 5 then rowG (Mat s nodes) (pgOf s nodes f) d.subs i j c c'
      else if d.kind = 6 then repP (Mat s nodes) (pgOf s nodes f) (d.subs.getD 0 0) d.lo d.hi (d.lo + s.size + 1) 0 i j c c'
      else c' = c)

theorem getD_mem {l : List Nat} (h : l ≠ []) : l.getD 0 0 ∈ l := by
  cases l with
  | nil => exact absurd rfl h
  | cons a l => simp

theorem pgOf_more (s : ByteArray) (nodes : List Nd) (hw : Wf nodes) (h3 : ∀ (n : Nat) (d : Nd), nodes[n]? = some d → d.kind = 3 → d.subs ≠ []) : ∀ (f f' n : Nat), n < f → n < f' → pgOf s nodes f n = pgOf s nodes f' n
  | 0, _, _, h, _ => by omega
  | _, 0, _, _, h => by omega
  | f + 1, f' + 1, n, h, h' => by
    funext i j c c'
    simp only [pgOf]
    apply propext
    refine exists_congr fun d => and_congr_right fun hd => ?_
    obtain ⟨hs, h6⟩ := hw n d hd
    have ih : ∀ x ∈ d.subs, pgOf s nodes f x = pgOf s nodes f' x := fun x hx => pgOf_more s nodes hw h3 f f' x (by have := hs x hx; omega) (by have := hs x hx; omega)
    split
    · rename_i hk; rw [ih _ (getD_mem (h3 n d hd hk))]
    · split
      · rw [altG.congr ih]
      · split
        · rw [rowG.congr ih]
        · split
          · rename_i hk; rw [repP.congr (ih _ (getD_mem (h6 hk)))]
          · exact Iff.rfl

/-- What node n gives. -/
def PGv (s : ByteArray) (nodes : List Nd) (n : Nat) : Nat → Nat → Caps → Caps → Prop := pgOf s nodes (n + 1) n

theorem PGv_eq {s : ByteArray} {nodes : List Nd} (hw : Wf nodes) (h3 : ∀ (n : Nat) (d : Nd), nodes[n]? = some d → d.kind = 3 → d.subs ≠ []) {n : Nat} {d : Nd} (hd : nodes[n]? = some d) (i j : Nat) (c c' : Caps) : PGv s nodes n i j c c' ↔
      (if d.kind = 3 then PGv s nodes (d.subs.getD 0 0) i j (c.set d.num ((i : Int), (j : Int))) c'
      else if d.kind = 4 then altG (Mat s nodes) (PGv s nodes) d.subs i j c c'
      else if d.kind = 5 then rowG (Mat s nodes) (PGv s nodes) d.subs i j c c'
      else if d.kind = 6 then repP (Mat s nodes) (PGv s nodes) (d.subs.getD 0 0) d.lo d.hi (d.lo + s.size + 1) 0 i j c c'
      else c' = c) := by
  obtain ⟨hs, h6⟩ := hw n d hd
  have ih : ∀ x ∈ d.subs, pgOf s nodes n x = PGv s nodes x := fun x hx => pgOf_more s nodes hw h3 n (x + 1) x (hs x hx) (by omega)
  have e : PGv s nodes n i j c c' ↔ (if d.kind = 3 then pgOf s nodes n (d.subs.getD 0 0) i j (c.set d.num ((i : Int), (j : Int))) c'
      else if d.kind = 4 then altG (Mat s nodes) (pgOf s nodes n) d.subs i j c c'
      else if d.kind = 5 then rowG (Mat s nodes) (pgOf s nodes n) d.subs i j c c'
      else if d.kind = 6 then repP (Mat s nodes) (pgOf s nodes n) (d.subs.getD 0 0) d.lo d.hi (d.lo + s.size + 1) 0 i j c c'
      else c' = c) := by
    show (∃ d', nodes[n]? = some d' ∧ _) ↔ _
    constructor
    · rintro ⟨d', hd', h⟩
      rw [hd] at hd'
      cases hd'
      exact h
    · intro h; exact ⟨d, hd, h⟩
  rw [e]
  split
  · rename_i hk; rw [ih _ (getD_mem (h3 n d hd hk))]
  · split
    · rw [altG.congr ih]
    · split
      · rw [rowG.congr ih]
      · split
        · rename_i hk; rw [repP.congr (ih _ (getD_mem (h6 hk)))]
        · exact Iff.rfl
end Go.Proofs.Ytppjlpihaocdiaa
