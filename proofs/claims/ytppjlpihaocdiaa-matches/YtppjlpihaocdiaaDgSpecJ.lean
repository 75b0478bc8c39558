/- Several texts in one. -/
import Derived.Test.YtppjlpihaocdiaaDocSpecJ
import Derived.Test.YtppjlpihaocdiaaGiveEJ
/- Nodes of two trees that match and give the same. Plain mathematics. -/
set_option linter.unusedVariables false
namespace Go.Proofs.Ytppjlpihaocdiaa

/-- A tree whose parts stand ahead of what they are parts of. -/
structure Gd (l : List Nd) : Prop where
  wf : Wf l
  h3 : ∀ (n : Nat) (d : Nd), l[n]? = some d → d.kind = 3 → d.subs ≠ []

/-- Two nodes of two trees match the same, and where they match they give the same. -/
structure Alike (s : ByteArray) (l : List Nd) (z : Nat) (l' : List Nd) (y : Nat) : Prop where
  m : Mat s l z = Mat s l' y
  g : ∀ i j, i ≤ s.size → Mat s l z i j → ∀ c c', (PGv s l z i j c c' ↔ PGv s l' y i j c c')

theorem Alike.more {s : ByteArray} {l l2 l' l2' : List Nd} {z y : Nat} (hl : Gd l) (hz : z < l.length) (hl' : Gd l') (hy : y < l'.length) (h : Alike s l z l' y) : Alike s (l ++ l2) z (l' ++ l2') y := by
  obtain ⟨a, b⟩ := h
  refine ⟨?_, ?_⟩
  · rw [Mat_ext s hl.wf hz, Mat_ext s hl'.wf hy]; exact a
  · rw [Mat_ext s hl.wf hz, PGv_ext s hl.wf hl.h3 hz, PGv_ext s hl'.wf hl'.h3 hy]; exact b

section
variable {s : ByteArray} {l l' : List Nd} {z y : Nat}

theorem Alike.leaf (hl : Gd l) (hl' : Gd l') {k : Nat} {S : Nat → Bool} (hk : k ≤ 2) (hz : l[z]? = some (leaf k S)) (hy : l'[y]? = some (leaf k S)) : Alike s l z l' y := by
  constructor
  · funext i j
    apply propext
    rw [Mat_eq hl.wf hz, Mat_eq hl'.wf hy]
    have : k = 0 ∨ k = 1 ∨ k = 2 := by omega
    rcases this with rfl | rfl | rfl <;> exact Iff.rfl
  · intro i j _ _ c c'
    rw [PGv_eq hl.wf hl.h3 hz, PGv_eq hl'.wf hl'.h3 hy]
    have : k = 0 ∨ k = 1 ∨ k = 2 := by omega
    rcases this with rfl | rfl | rfl <;> exact Iff.rfl

theorem Alike.grp (hl : Gd l) (hl' : Gd l') {a b num : Nat} (hz : l[z]? = some (grpN a num)) (hy : l'[y]? = some (grpN b num)) (h : Alike s l a l' b) : Alike s l z l' y := by
  have e1 : ∀ i j, Mat s l z i j ↔ Mat s l a i j := fun i j => by
    rw [Mat_eq hl.wf hz]
    show (∃ x ∈ [a], Mat s l x i j) ↔ _
    simp
  have e2 : ∀ i j, Mat s l' y i j ↔ Mat s l' b i j := fun i j => by
    rw [Mat_eq hl'.wf hy]
    show (∃ x ∈ [b], Mat s l' x i j) ↔ _
    simp
  constructor
  · funext i j
    apply propext
    rw [e1, e2, h.m]
  · intro i j hi hm c c'
    rw [PGv_eq hl.wf hl.h3 hz, PGv_eq hl'.wf hl'.h3 hy]
    exact h.g i j hi ((e1 i j).1 hm) _ _

/-- Parts of two trees, one by one alike. -/
def Each (s : ByteArray) (l l' : List Nd) : List Nat → List Nat → Prop
  | [], [] => True
  | z :: zs, y :: ys => Alike s l z l' y ∧ Each s l l' zs ys
  | _, _ => False

theorem Each.map : ∀ {zs ys : List Nat}, Each s l l' zs ys → zs.map (Mat s l) = ys.map (Mat s l')
  | [], [], _ => rfl
  | z :: zs, y :: ys, h => by rw [List.map_cons, List.map_cons, h.1.m, Each.map h.2]
  | [], _ :: _, h => h.elim
  | _ :: _, [], h => h.elim

theorem Each.any : ∀ {zs ys : List Nat} {i j : Nat}, Each s l l' zs ys → ((∃ x ∈ zs, Mat s l x i j) ↔ ∃ x ∈ ys, Mat s l' x i j)
  | [], [], _, _, _ => by simp
  | z :: zs, y :: ys, i, j, h => by
    have := Each.any (i := i) (j := j) h.2
    simp only [List.mem_cons, exists_eq_or_imp]
    rw [h.1.m, this]
  | [], _ :: _, _, _, h => h.elim
  | _ :: _, [], _, _, h => h.elim

theorem Each.alt : ∀ {zs ys : List Nat} {i j : Nat} {c c' : Caps}, i ≤ s.size → Each s l l' zs ys → (altG (Mat s l) (PGv s l) zs i j c c' ↔ altG (Mat s l') (PGv s l') ys i j c c')
  | [], [], _, _, _, _, _, _ => Iff.rfl
  | z :: zs, y :: ys, i, j, c, c', hi, h => by
    have ih := Each.alt (i := i) (j := j) (c := c) (c' := c') hi h.2
    simp only [altG]
    rw [ih, ← h.1.m]
    by_cases hm : Mat s l z i j
    · have := h.1.g i j hi hm c c'
      simp [hm, this]
    · simp [hm]
  | [], _ :: _, _, _, _, _, _, h => h.elim
  | _ :: _, [], _, _, _, _, _, h => h.elim

/-- The place that a row's first part is given is one that it matches. -/
theorem Top.good {P : Nat → Prop} {i j t t0 : Nat} (h : Top P i j t) (h0 : P t0) (h1 : i ≤ t0) (h2 : t0 ≤ j) : P t := by
  obtain ⟨a, b, c, d⟩ := h
  rcases d with rfl | d
  · rcases Nat.lt_or_ge t t0 with h | h
    · exact absurd h0 (c t0 h h2)
    · have : t0 = t := by omega
      rw [← this]; exact h0
  · exact d

theorem Each.row (hl : Gd l) : ∀ {zs ys : List Nat} {i j : Nat} {c c' : Caps}, i ≤ s.size → Each s l l' zs ys → Chain (zs.map (Mat s l)) i j → (rowG (Mat s l) (PGv s l) zs i j c c' ↔ rowG (Mat s l') (PGv s l') ys i j c c')
  | [], [], _, _, _, _, _, _, _ => Iff.rfl
  | z :: zs, y :: ys, i, j, c, c', hi, h, hc => by
    obtain ⟨t0, m0, c0⟩ := hc
    have hz := Mat_stays s hl.wf (z + 1) z (by omega) i t0 hi m0
    have hst : ∀ r ∈ zs.map (Mat s l), Stays s.size r := fun r hr => by
      obtain ⟨x, _, rfl⟩ := List.mem_map.1 hr
      exact Mat_stays s hl.wf (x + 1) x (by omega)
    have ht := Stays.chain hst t0 j hz.2 c0
    simp only [rowG]
    rw [← h.1.m, ← h.2.map]
    refine exists_congr fun t => exists_congr fun c1 => and_congr_right fun hT => ?_
    obtain ⟨p1, p2⟩ := hT.good ⟨m0, c0⟩ hz.1 ht.1
    have hts : t ≤ s.size := (Mat_stays s hl.wf (z + 1) z (by omega) i t hi p1).2
    exact and_congr (h.1.g i t hi p1 c c1) (Each.row hl hts h.2 p2)
  | [], _ :: _, _, _, _, _, _, h, _ => h.elim
  | _ :: _, [], _, _, _, _, _, h, _ => h.elim

theorem Alike.ways (hl : Gd l) (hl' : Gd l') {zs ys : List Nat} (hz : l[z]? = some (rowN 4 zs)) (hy : l'[y]? = some (rowN 4 ys)) (h : Each s l l' zs ys) : Alike s l z l' y := by
  constructor
  · funext i j
    apply propext
    rw [Mat_eq hl.wf hz, Mat_eq hl'.wf hy]
    exact h.any
  · intro i j hi _ c c'
    rw [PGv_eq hl.wf hl.h3 hz, PGv_eq hl'.wf hl'.h3 hy]
    exact h.alt hi

theorem Alike.row (hl : Gd l) (hl' : Gd l') {zs ys : List Nat} (hz : l[z]? = some (rowN 5 zs)) (hy : l'[y]? = some (rowN 5 ys)) (h : Each s l l' zs ys) : Alike s l z l' y := by
  have e1 : ∀ i j, Mat s l z i j ↔ Chain (zs.map (Mat s l)) i j := fun i j => Mat_eq hl.wf hz i j
  constructor
  · funext i j
    apply propext
    rw [e1, Mat_eq hl'.wf hy, h.map]
    exact Iff.rfl
  · intro i j hi hm c c'
    rw [PGv_eq hl.wf hl.h3 hz, PGv_eq hl'.wf hl'.h3 hy]
    exact h.row hl hi ((e1 i j).1 hm)

/-- One way alone needs no parent. -/
theorem Alike.way1 (hl' : Gd l') {y1 : Nat} (hy : l'[y]? = some (rowN 4 [y1])) (h : Alike s l z l' y1) : Alike s l z l' y := by
  have e2 : ∀ i j, Mat s l' y i j ↔ Mat s l' y1 i j := fun i j => by
    rw [Mat_eq hl'.wf hy]
    show (∃ x ∈ [y1], Mat s l' x i j) ↔ _
    simp
  constructor
  · rw [h.m]
    funext i j
    exact (propext (e2 i j)).symm
  · intro i j hi hm c c'
    rw [PGv_eq hl'.wf hl'.h3 hy, h.g i j hi hm]
    rw [h.m] at hm
    show _ ↔ ((Mat s l' y1 i j ∧ PGv s l' y1 i j c c') ∨ (¬ Mat s l' y1 i j ∧ c' = c))
    simp [hm]

/-- One part alone needs no parent. -/
theorem Alike.row1 (hl' : Gd l') {y1 : Nat} (hy : l'[y]? = some (rowN 5 [y1])) (h : Alike s l z l' y1) : Alike s l z l' y := by
  have e2 : ∀ i j, Mat s l' y i j ↔ Mat s l' y1 i j := fun i j => by
    rw [Mat_eq hl'.wf hy]
    show (∃ t, Mat s l' y1 i t ∧ t = j) ↔ _
    simp
  constructor
  · rw [h.m]
    funext i j
    exact (propext (e2 i j)).symm
  · intro i j hi hm c c'
    rw [PGv_eq hl'.wf hl'.h3 hy, h.g i j hi hm]
    rw [h.m] at hm
    have hs := Mat_stays s hl'.wf (y1 + 1) y1 (by omega) i j hi hm
    show _ ↔ (∃ t c1, Top (fun t => Mat s l' y1 i t ∧ t = j) i j t ∧ PGv s l' y1 i t c c1 ∧ c' = c1)
    constructor
    · intro hp
      exact ⟨j, c', ⟨hs.1, Nat.le_refl _, fun u a b => by omega, .inr ⟨hm, rfl⟩⟩, hp, rfl⟩
    · rintro ⟨t, c1, hT, hp, rfl⟩
      obtain ⟨_, rfl⟩ := hT.good ⟨hm, rfl⟩ hs.1 (Nat.le_refl _)
      exact hp

theorem Alike.reps (hl : Gd l) {a b lo : Nat} {hi : Int} (hb : hi = -1 ∨ (lo : Int) ≤ hi) (h : Alike s l a l' b) : ∀ (f : Nat) {done i j : Nat} {c c' : Caps}, i ≤ s.size → Zt (Mat s l a) lo hi done i j →
    (repP (Mat s l) (PGv s l) a lo hi f done i j c c' ↔ repP (Mat s l') (PGv s l') b lo hi f done i j c c')
  | 0, _, _, _, _, _, _, _ => Iff.rfl
  | f + 1, done, i, j, c, c', hi', hZ => by
    have hst : Stays s.size (Mat s l a) := Mat_stays s hl.wf (a + 1) a (by omega)
    simp only [repP]
    rw [← h.m]
    refine or_congr (and_congr_right fun hij => or_congr (and_congr_right fun hd => ?_) Iff.rfl) (and_congr_right fun hij => exists_congr fun t => exists_congr fun c1 => and_congr_right fun hT => ?_)
    · obtain ⟨t, h1, h2⟩ := (Zt_must hd).1 hZ
      have h3 := hst i t hi' h1
      have h4 := Zt_stays hst h3.2 h2
      obtain rfl : t = j := by omega
      exact h.g i t hi' h1 c c'
    · obtain ⟨_, t0, h1, _, h2⟩ := Zt_step hb hZ hij
      have h3 := hst i t0 hi' h1
      have h4 := Zt_stays hst h3.2 h2
      obtain ⟨p1, p2⟩ := hT.good ⟨h1, h2⟩ h3.1 h4.1
      exact and_congr (h.g i t hi' p1 c c1) (Alike.reps hl hb h f (hst i t hi' p1).2 p2)

theorem Alike.rep (hl : Gd l) (hl' : Gd l') {a b lo : Nat} {hi : Int} (hb : hi = -1 ∨ (lo : Int) ≤ hi) (hz : l[z]? = some (repN a lo hi)) (hy : l'[y]? = some (repN b lo hi)) (h : Alike s l a l' b) : Alike s l z l' y := by
  have e1 : ∀ i j, Mat s l z i j ↔ Times (Mat s l a) lo hi i j := fun i j => Mat_eq hl.wf hz i j
  constructor
  · funext i j
    apply propext
    rw [e1, Mat_eq hl'.wf hy, h.m]
    exact Iff.rfl
  · intro i j hi' hm c c'
    rw [PGv_eq hl.wf hl.h3 hz, PGv_eq hl'.wf hl'.h3 hy]
    exact Alike.reps hl hb h (lo + s.size + 1) hi' ((Times_Zt (by omega) i j).2 ((e1 i j).1 hm))
end
end Go.Proofs.Ytppjlpihaocdiaa

/- What the document gives each bracket: the steps. Plain mathematics. -/
set_option linter.unusedSimpArgs false
set_option linter.unusedVariables false
namespace Go.Proofs.Ytppjlpihaocdiaa

theorem repG.congr {m : Nat → Nat → Nat → Prop} {g g' : Nat → Nat → Nat → Caps → Caps → Prop} {x lo : Nat} {hi : Int} (h : g x = g' x) : ∀ f, repG m g x lo hi f = repG m g' x lo hi f
  | 0 => by funext a i j c c'; rfl
  | f + 1 => by
    funext a i j c c'
    simp only [repG]
    rw [h, repG.congr h f]

theorem gOf_more (s : ByteArray) (nodes : List Nd) (hw : Wf nodes) (h3 : ∀ (n : Nat) (d : Nd), nodes[n]? = some d → d.kind = 3 → d.subs ≠ []) : ∀ (f f' n : Nat), n < f → n < f' → gOf s nodes f n = gOf s nodes f' n
  | 0, _, _, h, _ => by omega
  | _, 0, _, _, h => by omega
  | f + 1, f' + 1, n, h, h' => by
    funext i j c c'
    simp only [gOf]
    apply propext
    refine exists_congr fun d => and_congr_right fun hd => ?_
    obtain ⟨hs, h6⟩ := hw n d hd
    have ih : ∀ x ∈ d.subs, gOf s nodes f x = gOf s nodes f' x := fun x hx => gOf_more s nodes hw h3 f f' x (by have := hs x hx; omega) (by have := hs x hx; omega)
    split
    · rename_i hk; rw [ih _ (getD_mem (h3 n d hd hk))]
    · split
      · rw [altG.congr ih]
      · split
        · rw [rowG.congr ih]
        · split
          · rename_i hk; rw [repG.congr (ih _ (getD_mem (h6 hk)))]
          · exact Iff.rfl

/-- What node n gives, by the document. -/
def Gq (s : ByteArray) (nodes : List Nd) (n : Nat) : Nat → Nat → Caps → Caps → Prop := gOf s nodes (n + 1) n

theorem Gq_eq {s : ByteArray} {nodes : List Nd} (hw : Wf nodes) (h3 : ∀ (n : Nat) (d : Nd), nodes[n]? = some d → d.kind = 3 → d.subs ≠ []) {n : Nat} {d : Nd} (hd : nodes[n]? = some d) (i j : Nat) (c c' : Caps) : Gq s nodes n i j c c' ↔
      (if d.kind = 3 then Gq s nodes (d.subs.getD 0 0) i j (c.set d.num ((i : Int), (j : Int))) c'
      else if d.kind = 4 then altG (Mat s nodes) (Gq s nodes) d.subs i j c c'
      else if d.kind = 5 then rowG (Mat s nodes) (Gq s nodes) d.subs i j c c'
      else if d.kind = 6 then repG (Mat s nodes) (Gq s nodes) (d.subs.getD 0 0) d.lo d.hi (d.lo + s.size + 1) 0 i j c c'
      else c' = c) := by
  obtain ⟨hs, h6⟩ := hw n d hd
  have ih : ∀ x ∈ d.subs, gOf s nodes n x = Gq s nodes x := fun x hx => gOf_more s nodes hw h3 n (x + 1) x (hs x hx) (by omega)
  have e : Gq s nodes n i j c c' ↔ (if d.kind = 3 then gOf s nodes n (d.subs.getD 0 0) i j (c.set d.num ((i : Int), (j : Int))) c'
      else if d.kind = 4 then altG (Mat s nodes) (gOf s nodes n) d.subs i j c c'
      else if d.kind = 5 then rowG (Mat s nodes) (gOf s nodes n) d.subs i j c c'
      else if d.kind = 6 then repG (Mat s nodes) (gOf s nodes n) (d.subs.getD 0 0) d.lo d.hi (d.lo + s.size + 1) 0 i j c c'
      else c' = c) := by
    show (∃ d', nodes[n]? = some d' ∧ _) ↔ _
    constructor
    · rintro ⟨d', hd', h⟩
      rw [hd] at hd'
      cases hd'
      exact h
    · intro h; exact ⟨d, hd, h⟩
  rw [e]
  split
  · rename_i hk; rw [ih _ (getD_mem (h3 n d hd hk))]
  · split
    · rw [altG.congr ih]
    · split
      · rw [rowG.congr ih]
      · split
        · rename_i hk; rw [repG.congr (ih _ (getD_mem (h6 hk)))]
        · exact Iff.rfl

/-- If any place serves, the one that is found does. -/
theorem Top.holds {P : Nat → Prop} {i j t : Nat} (h : Top P i j t) (he : ∃ u, i ≤ u ∧ u ≤ j ∧ P u) : P t := by
  obtain ⟨h1, h2, h3, h4⟩ := h
  rcases h4 with h4 | h4
  · obtain ⟨u, u1, u2, u3⟩ := he
    by_cases e : u = t
    · rw [← e]; exact u3
    · exact absurd u3 (h3 u (by omega) u2)
  · exact h4

theorem Stays.pow {L : Nat} {R : Nat → Nat → Prop} (h : Stays L R) {n i j : Nat} (hi : i ≤ L) (hp : Pow R n i j) : i ≤ j ∧ j ≤ L := Pow.le h hi hp

/-- A repetition that goes on: the next time. -/
theorem times_step {L : Nat} {R : Nat → Nat → Prop} (hR : Stays L R) {lo a i j : Nat} {hi : Int} (hiL : i ≤ L) (h : TimesR R lo hi a (fun k => k = i) j) (hg : i < j ∨ a < lo) :
    ∃ t, i ≤ t ∧ t ≤ j ∧ R i t ∧ TimesR R lo hi (a + 1) (fun k => k = t) j ∧ (a < lo ∨ i < t) := by
  obtain ⟨i', m, q, rfl, h1, h2, h3⟩ := h
  by_cases hlt : a < lo
  · rw [show lo - a = (lo - (a + 1)) + 1 by omega] at h1
    obtain ⟨t, r1, r2⟩ := h1
    have a1 := hR i' t hiL r1
    have a2 := hR.pow a1.2 r2
    have a3 := hR.full.pow a2.2 h3
    refine ⟨t, a1.1, by omega, r1, ⟨t, m, q, rfl, r2, ?_, h3⟩, .inl hlt⟩
    rw [show max (a + 1) lo = max a lo by omega]
    exact h2
  · rw [show lo - a = 0 by omega] at h1
    have h1' : i' = m := h1
    subst h1'
    cases q with
    | zero =>
      have : i' = j := h3
      omega
    | succ q =>
      obtain ⟨t, ⟨r1, r1'⟩, r2⟩ := h3
      have a1 := hR i' t hiL r1
      have a2 := hR.full.pow a1.2 r2
      refine ⟨t, a1.1, by omega, r1, ⟨t, t, q, rfl, ?_, ?_, r2⟩, .inr (by omega)⟩
      · rw [show lo - (a + 1) = 0 by omega]; rfl
      · rcases h2 with h2 | h2 | h2
        · omega
        · exact .inr (.inl h2)
        · right; right
          have e1 : max a lo = a := by omega
          have e2 : max (a + 1) lo = a + 1 := by omega
          rw [e1] at h2
          rw [e2]
          omega

/-- A repetition that has come to its end. -/
theorem Times.toR {R : Nat → Nat → Prop} {lo i j : Nat} {hi : Int} (h : Times R lo hi i j) : TimesR R lo hi 0 (fun k => k = i) j := by
  obtain ⟨m, q, h1, h2, h3⟩ := h
  refine ⟨i, m, q, rfl, h1, ?_, h3⟩
  rcases h2 with h2 | h2
  · exact .inr (.inl h2)
  · right; right
    rw [show max 0 lo = lo by omega]
    exact h2

section
variable {m : Nat → Nat → Nat → Prop} {g : Nat → Nat → Nat → Caps → Caps → Prop}
theorem repG_end {x lo f a i j : Nat} {hi : Int} {c : Caps} (h : ¬ (i < j ∨ a < lo)) : repG m g x lo hi f a i j c c := by
  cases f with
  | zero => rfl
  | succ f => exact .inl ⟨h, rfl⟩
theorem repG_step {x lo f a i j t : Nat} {hi : Int} {c c1 c' : Caps} (h : i < j ∨ a < lo) (ht : Top (fun t => m x i t ∧ TimesR (m x) lo hi (a + 1) (fun k => k = t) j) i j t) (hg : g x i t c c1) (hr : repG m g x lo hi f (a + 1) t j c1 c') : repG m g x lo hi (f + 1) a i j c c' := .inr ⟨h, t, c1, ht, hg, hr⟩
theorem rowG_step {x : Nat} {xs : List Nat} {i j t : Nat} {c c1 c' : Caps} (ht : Top (fun t => m x i t ∧ Chain (xs.map m) t j) i j t) (hg : g x i t c c1) (hr : rowG m g xs t j c1 c') : rowG m g (x :: xs) i j c c' := ⟨t, c1, ht, hg, hr⟩
end
end Go.Proofs.Ytppjlpihaocdiaa

