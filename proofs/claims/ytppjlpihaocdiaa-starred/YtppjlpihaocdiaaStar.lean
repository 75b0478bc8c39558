/- What some patterns match over a run of one byte, as plain mathematics. -/
import Derived.Test.YtppjlpihaocdiaaMatch
set_option linter.unusedVariables false
set_option linter.unusedSimpArgs false
namespace Go.Proofs.Ytppjlpihaocdiaa

/-- A run of a and then b. -/
structure Ab (s : ByteArray) (k : Nat) : Prop where
  size : s.size = k + 1
  a : ∀ i, i < k → byt s i = 97
  b : byt s k = 98

def leafA : Nd := leaf 0 (addR noSet 97 97)
def leafB : Nd := leaf 0 (addR noSet 98 98)

/-- One step in the run. -/
def StepA (k i j : Nat) : Prop := i < k ∧ j = i + 1

theorem Pow_A {k : Nat} : ∀ {r i j : Nat}, Pow (StepA k) r i j ↔ j = i + r ∧ (r = 0 ∨ j ≤ k)
  | 0, i, j => by
    constructor
    · intro h; cases h; exact ⟨rfl, .inl rfl⟩
    · rintro ⟨h, _⟩; exact h.symm
  | r + 1, i, j => by
    constructor
    · rintro ⟨m, ⟨h1, h2⟩, h3⟩
      have := (Pow_A (k := k)).1 h3
      omega
    · rintro ⟨h1, h2⟩
      exact ⟨i + 1, ⟨by omega, rfl⟩, (Pow_A (k := k)).2 (by omega)⟩

theorem Full_A {k i j : Nat} : Full (StepA k) i j ↔ StepA k i j := by
  unfold Full StepA; omega

theorem Pow_congr {R R' : Nat → Nat → Prop} (h : ∀ i j, R i j ↔ R' i j) : ∀ {r i j : Nat}, Pow R r i j ↔ Pow R' r i j
  | 0, i, j => Iff.rfl
  | r + 1, i, j => exists_congr fun m => and_congr (h i m) (Pow_congr h)

theorem times_A {R : Nat → Nat → Prop} {k lo : Nat} {hi : Int} (hR : ∀ i j, R i j ↔ StepA k i j) (i j : Nat) : Times R lo hi i j ↔ (i + lo ≤ j ∧ (hi < 0 ∨ (j : Int) - i ≤ hi) ∧ (j = i ∨ j ≤ k)) := by
  have hF : ∀ i j, Full R i j ↔ StepA k i j := fun i j => by
    rw [← Full_A]; unfold Full; rw [hR]
  unfold Times
  constructor
  · rintro ⟨m, q, h1, h2, h3⟩
    have a := (Pow_A (k := k)).1 ((Pow_congr hR).1 h1)
    have b := (Pow_A (k := k)).1 ((Pow_congr hF).1 h3)
    omega
  · rintro ⟨h1, h2, h3⟩
    exact ⟨i + lo, j - i - lo, (Pow_congr hR).2 ((Pow_A (k := k)).2 (by omega)), by omega, (Pow_congr hF).2 ((Pow_A (k := k)).2 (by omega))⟩


theorem P_wf {nodes : List Nd} {g : Nat} (hP : ∀ (a : Nat) (d : Nd), nodes[a]? = some d → PNd a g d) : Wf nodes := fun n d hd => ⟨(hP n d hd).sub, fun e => by obtain ⟨x, hx⟩ := (hP n d hd).one (.inr e); rw [hx]; simp⟩
theorem P_h3 {nodes : List Nd} {g : Nat} (hP : ∀ (a : Nat) (d : Nd), nodes[a]? = some d → PNd a g d) : ∀ (n : Nat) (d : Nd), nodes[n]? = some d → d.kind = 3 → d.subs ≠ [] := fun n d hd e => by obtain ⟨x, hx⟩ := (hP n d hd).one (.inl e); rw [hx]; simp

theorem Mat_leaf {s : ByteArray} {nodes : List Nd} {g : Nat} (hP : ∀ (a : Nat) (d : Nd), nodes[a]? = some d → PNd a g d) {n : Nat} {S : Nat → Bool} (hd : nodes[n]? = some (leaf 0 S)) (i j : Nat) : Mat s nodes n i j ↔ (i < s.size ∧ S (byt s i) = true ∧ j = i + 1) := by
  rw [Mat_eq (P_wf hP) hd]; rfl
theorem Mat_begin {s : ByteArray} {nodes : List Nd} {g : Nat} (hP : ∀ (a : Nat) (d : Nd), nodes[a]? = some d → PNd a g d) {n : Nat} {S : Nat → Bool} (hd : nodes[n]? = some (leaf 1 S)) (i j : Nat) : Mat s nodes n i j ↔ (i = 0 ∧ j = i) := by
  rw [Mat_eq (P_wf hP) hd]; rfl
theorem Mat_rep {s : ByteArray} {nodes : List Nd} {g : Nat} (hP : ∀ (a : Nat) (d : Nd), nodes[a]? = some d → PNd a g d) {n x lo : Nat} {hi : Int} (hd : nodes[n]? = some (repN x lo hi)) (i j : Nat) : Mat s nodes n i j ↔ Times (Mat s nodes x) lo hi i j := by
  rw [Mat_eq (P_wf hP) hd]; rfl
theorem Mat_grp {s : ByteArray} {nodes : List Nd} {g : Nat} (hP : ∀ (a : Nat) (d : Nd), nodes[a]? = some d → PNd a g d) {n x m : Nat} (hd : nodes[n]? = some (grpN x m)) (i j : Nat) : Mat s nodes n i j ↔ Mat s nodes x i j := by
  rw [Mat_eq (P_wf hP) hd]
  show (∃ y ∈ [x], Mat s nodes y i j) ↔ _
  simp
theorem Mat_two {s : ByteArray} {nodes : List Nd} {g : Nat} (hP : ∀ (a : Nat) (d : Nd), nodes[a]? = some d → PNd a g d) {n x y : Nat} (hd : nodes[n]? = some (rowN 5 [x, y])) (i j : Nat) : Mat s nodes n i j ↔ ∃ m, Mat s nodes x i m ∧ Mat s nodes y m j := by
  rw [Mat_eq (P_wf hP) hd]
  show (∃ m, Mat s nodes x i m ∧ ∃ m', Mat s nodes y m m' ∧ m' = j) ↔ _
  constructor
  · rintro ⟨m, h1, m', h2, rfl⟩; exact ⟨m, h1, h2⟩
  · rintro ⟨m, h1, h2⟩; exact ⟨m, h1, j, h2, rfl⟩

theorem G_leaf {s : ByteArray} {nodes : List Nd} {g : Nat} (hP : ∀ (a : Nat) (d : Nd), nodes[a]? = some d → PNd a g d) {n i j k : Nat} {S : Nat → Bool} {c c' : Caps} (hk : k ≤ 2) (hd : nodes[n]? = some (leaf k S)) (h : PGv s nodes n i j c c') : c' = c := by
  rw [PGv_eq (P_wf hP) (P_h3 hP) hd] at h
  unfold leaf at h
  simp only at h
  rw [if_neg (by omega), if_neg (by omega), if_neg (by omega), if_neg (by omega)] at h
  exact h

theorem repP_id {m : Nat → Nat → Nat → Prop} {gg : Nat → Nat → Nat → Caps → Caps → Prop} {x lo : Nat} {hi : Int} (hg : ∀ i j c c', gg x i j c c' → c' = c) : ∀ {f d i j : Nat} {c c' : Caps}, repP m gg x lo hi f d i j c c' → c' = c
  | 0, _, _, _, _, _, h => h
  | f + 1, d, i, j, c, c', h => by
    rcases h with ⟨_, ⟨_, h⟩ | ⟨_, h⟩⟩ | ⟨_, t, c1, _, h1, h2⟩
    · exact hg _ _ _ _ h
    · exact h
    · rw [repP_id hg h2, hg _ _ _ _ h1]

theorem G_rep {s : ByteArray} {nodes : List Nd} {g : Nat} (hP : ∀ (a : Nat) (d : Nd), nodes[a]? = some d → PNd a g d) {n x lo i j k : Nat} {hi : Int} {S : Nat → Bool} {c c' : Caps} (hk : k ≤ 2) (hx : nodes[x]? = some (leaf k S)) (hd : nodes[n]? = some (repN x lo hi)) (h : PGv s nodes n i j c c') : c' = c := by
  rw [PGv_eq (P_wf hP) (P_h3 hP) hd] at h
  exact repP_id (fun i j c c' h => G_leaf hP hk hx h) h

theorem G_grp {s : ByteArray} {nodes : List Nd} {g : Nat} (hP : ∀ (a : Nat) (d : Nd), nodes[a]? = some d → PNd a g d) {n x m i j : Nat} {c c' : Caps} (hd : nodes[n]? = some (grpN x m)) (h : PGv s nodes n i j c c') : PGv s nodes x i j (c.set m ((i : Int), (j : Int))) c' := by
  rw [PGv_eq (P_wf hP) (P_h3 hP) hd] at h
  exact h

theorem G_two {s : ByteArray} {nodes : List Nd} {g : Nat} (hP : ∀ (a : Nat) (d : Nd), nodes[a]? = some d → PNd a g d) {n x y i j : Nat} {c c' : Caps} (hd : nodes[n]? = some (rowN 5 [x, y])) (h : PGv s nodes n i j c c') : ∃ t c1, Top (fun t => Mat s nodes x i t ∧ Mat s nodes y t j) i j t ∧ PGv s nodes x i t c c1 ∧ ∃ t2, Top (fun t2 => Mat s nodes y t t2 ∧ t2 = j) t j t2 ∧ PGv s nodes y t t2 c1 c' := by
  rw [PGv_eq (P_wf hP) (P_h3 hP) hd] at h
  obtain ⟨t, c1, h1, h2, t2, c2, h3, h4, h5⟩ := h
  refine ⟨t, c1, ?_, h2, t2, h3, by rw [show c' = c2 from h5]; exact h4⟩
  obtain ⟨a1, a2, a3, a4⟩ := h1
  have e : ∀ u, (Mat s nodes x i u ∧ Chain ([y].map (Mat s nodes)) u j) ↔ (Mat s nodes x i u ∧ Mat s nodes y u j) := fun u => and_congr_right fun _ => by
    show (∃ m', Mat s nodes y u m' ∧ m' = j) ↔ _
    simp
  exact ⟨a1, a2, fun u h1 h2 h3 => a3 u h1 h2 ((e u).2 h3), a4.imp id (e t).1⟩

theorem A_step {s : ByteArray} {nodes : List Nd} {g k n : Nat} (hP : ∀ (a : Nat) (d : Nd), nodes[a]? = some d → PNd a g d) (hs : Ab s k) (hd : nodes[n]? = some leafA) (i j : Nat) : Mat s nodes n i j ↔ StepA k i j := by
  rw [Mat_leaf hP hd, hs.size]
  unfold StepA
  constructor
  · rintro ⟨h1, h2, h3⟩
    refine ⟨?_, h3⟩
    rcases Nat.lt_or_ge i k with h | h
    · exact h
    · obtain rfl : i = k := by omega
      rw [hs.b] at h2
      cases h2
  · rintro ⟨h1, h2⟩
    exact ⟨by omega, by rw [hs.a i h1]; rfl, h2⟩

theorem B_step {s : ByteArray} {nodes : List Nd} {g k n : Nat} (hP : ∀ (a : Nat) (d : Nd), nodes[a]? = some d → PNd a g d) (hs : Ab s k) (hd : nodes[n]? = some leafB) (i j : Nat) : Mat s nodes n i j ↔ (i = k ∧ j = k + 1) := by
  rw [Mat_leaf hP hd, hs.size]
  constructor
  · rintro ⟨h1, h2, h3⟩
    rcases Nat.lt_or_ge i k with h | h
    · rw [hs.a i h] at h2
      cases h2
    · omega
  · rintro ⟨h1, h2⟩
    subst h1
    exact ⟨by omega, by rw [hs.b]; rfl, h2⟩

/-- The answer is a list of two spans. -/
def TwoAre (w : World) (v : Value) (x0 y0 x1 y1 : Int) : Prop := ∃ ob, v = .slice (some ⟨ob, 0, none⟩) 2 2 ∧ OutAt w ob [(x0, y0), (x1, y1)]

/-- What 'Match' answers where the pattern is one and no longer than it may be. -/
theorem MatchIs.good {pt s : ByteArray} {w' : World} {v : Value} {ec : Int} {nodes : List Nd} {a g r : Nat} (h : MatchIs pt s w' v ec) (hp : pt.size ≤ 40) (hs : s.size ≤ 80) (hW : Wholly pt) (ht : treeOf pt = (⟨a, g, nodes⟩, r)) :
    ec = 0 ∧ (∀ (a : Nat) (d : Nd), nodes[a]? = some d → PNd a g d) ∧ ((v = .slice none 0 0 ∧ ∀ i j, i ≤ s.size → ¬ Mat s nodes r i j) ∨
     ∃ ob i j c', v = .slice (some ⟨ob, 0, none⟩) (g + 1) (g + 1) ∧ Best s.size (Mat s nodes r) 0 i j ∧ OutAt w' ob (((i : Int), (j : Int)) :: c') ∧ c'.length = g ∧ PGv s nodes r i j (noCaps g) c') := by
  rcases h with ⟨h, _⟩ | ⟨_, _, ⟨j, hF⟩, _⟩ | ⟨_, _, _, h1, h2, h3, h4, h5⟩
  · omega
  · exact (hF.not_wholly hW).elim
  · rw [ht] at h4 h5
    exact ⟨h1, h4, h5⟩

def ptA : ByteArray := ⟨#[40, 97, 42, 41]⟩
def ptB : ByteArray := ⟨#[40, 97, 43, 41, 98]⟩
def ptC (lo hi : Nat) : ByteArray := ⟨#[94, 40, 97, 123, UInt8.ofNat (48 + lo), 44, UInt8.ofNat (48 + hi), 125, 41]⟩
def ptD : ByteArray := ⟨#[40, 97, 63, 41, 98]⟩

theorem treeA : treeOf ptA = (⟨4, 1, [leafA, repN 0 0 (-1), grpN 1 0]⟩, 2) := by kernel_rfl
theorem treeB : treeOf ptB = (⟨5, 1, [leafA, repN 0 1 (-1), grpN 1 0, leafB, rowN 5 [2, 3]]⟩, 4) := by kernel_rfl
theorem treeD : treeOf ptD = (⟨5, 1, [leafA, repN 0 0 1, grpN 1 0, leafB, rowN 5 [2, 3]]⟩, 4) := by kernel_rfl
theorem wholeA : Wholly ptA := ⟨⟨1, 0, 1, 0⟩, by kernel_rfl, rfl⟩
theorem wholeB : Wholly ptB := ⟨⟨1, 0, 1, 0⟩, by kernel_rfl, rfl⟩
theorem wholeD : Wholly ptD := ⟨⟨1, 0, 1, 0⟩, by kernel_rfl, rfl⟩

theorem starA {s : ByteArray} {k : Nat} {w' : World} {v : Value} {ec : Int} (hs : Ab s k) (hk : k ≤ 30) (h : MatchIs ptA s w' v ec) : ec = 0 ∧ TwoAre w' v 0 k 0 k := by
  have hsz := hs.size
  obtain ⟨h0, hP, hR⟩ := h.good (by decide) (by omega) wholeA treeA
  have m0 := fun i j => A_step (n := 0) hP hs rfl i j
  have m2 : ∀ i j, Mat s [leafA, repN 0 0 (-1), grpN 1 0] 2 i j ↔ (i ≤ j ∧ (j = i ∨ j ≤ k)) := fun i j => by
    rw [Mat_grp (n := 2) (x := 1) hP rfl, Mat_rep (n := 1) (x := 0) hP rfl, times_A m0]
    omega
  refine ⟨h0, ?_⟩
  rcases hR with ⟨_, hno⟩ | ⟨ob, i, j, c', rfl, hB, hO, hl, hG⟩
  · exact absurd ((m2 0 k).2 ⟨by omega, by omega⟩) (hno 0 k (by omega))
  · have hB' : Best s.size (Mat s [leafA, repN 0 0 (-1), grpN 1 0] 2) 0 0 k := ⟨by omega, by omega, by omega, (m2 0 k).2 (by omega), fun i' j' h1 h2 => by omega, fun j' h1 h2 => by have := (m2 0 j').1 h2; omega⟩
    obtain ⟨rfl, rfl⟩ := hB.one hB'
    have := G_rep (n := 1) (x := 0) hP (Nat.zero_le _) rfl rfl (G_grp (n := 2) hP rfl hG)
    subst this
    exact ⟨ob, rfl, hO⟩

theorem starB {s : ByteArray} {k : Nat} {w' : World} {v : Value} {ec : Int} (hs : Ab s k) (hk : k ≤ 30) (h : MatchIs ptB s w' v ec) : ec = 0 ∧ ((k = 0 ∧ v = .slice none 0 0) ∨ (0 < k ∧ TwoAre w' v 0 (k + 1) 0 k)) := by
  have hsz := hs.size
  obtain ⟨h0, hP, hR⟩ := h.good (by decide) (by omega) wholeB treeB
  have m0 := fun i j => A_step (n := 0) hP hs rfl i j
  have m3 := fun i j => B_step (n := 3) hP hs rfl i j
  have m2 : ∀ i j, Mat s [leafA, repN 0 1 (-1), grpN 1 0, leafB, rowN 5 [2, 3]] 2 i j ↔ (i + 1 ≤ j ∧ (j = i ∨ j ≤ k)) := fun i j => by
    rw [Mat_grp (n := 2) (x := 1) hP rfl, Mat_rep (n := 1) (x := 0) hP rfl, times_A m0]
    omega
  have m4 : ∀ i j, Mat s [leafA, repN 0 1 (-1), grpN 1 0, leafB, rowN 5 [2, 3]] 4 i j ↔ (i < k ∧ j = k + 1) := fun i j => by
    rw [Mat_two (n := 4) (x := 2) (y := 3) hP rfl]
    constructor
    · rintro ⟨m, h1, h2⟩
      have a := (m2 i m).1 h1
      have b := (m3 m j).1 h2
      omega
    · rintro ⟨h1, h2⟩
      exact ⟨k, (m2 i k).2 (by omega), (m3 k j).2 (by omega)⟩
  refine ⟨h0, ?_⟩
  rcases hR with ⟨rfl, hno⟩ | ⟨ob, i, j, c', rfl, hB, hO, hl, hG⟩
  · rcases Nat.eq_zero_or_pos k with h | h
    · exact .inl ⟨h, rfl⟩
    · exact absurd ((m4 0 (k + 1)).2 ⟨h, rfl⟩) (hno 0 (k + 1) (by omega))
  · have hm := (m4 i j).1 hB.2.2.2.1
    have hk0 : 0 < k := by omega
    have hB' : Best s.size (Mat s [leafA, repN 0 1 (-1), grpN 1 0, leafB, rowN 5 [2, 3]] 4) 0 0 (k + 1) := ⟨by omega, by omega, by omega, (m4 _ _).2 (by omega), fun i' j' h1 h2 => by omega, fun j' h1 h2 => by have := (m4 0 j').1 h2; omega⟩
    obtain ⟨rfl, rfl⟩ := hB.one hB'
    obtain ⟨t, c1, hT, g1, t2, hT2, g2⟩ := G_two (n := 4) (x := 2) (y := 3) hP rfl hG
    have ht : t = k := by
      have := hT.sat ⟨k, by omega, by omega, (m2 0 k).2 (by omega), (m3 k (k + 1)).2 (by omega)⟩
      exact ((m3 _ _).1 this.2).1
    subst ht
    have e1 := G_rep (n := 1) (x := 0) hP (Nat.zero_le _) rfl rfl (G_grp (n := 2) hP rfl g1)
    have e2 := G_leaf (n := 3) hP (Nat.zero_le _) rfl g2
    subst e1
    subst e2
    exact .inr ⟨hk0, ob, rfl, hO⟩

theorem starD {s : ByteArray} {k : Nat} {w' : World} {v : Value} {ec : Int} (hs : Ab s k) (hk : k ≤ 30) (h : MatchIs ptD s w' v ec) : ec = 0 ∧ TwoAre w' v ((k - 1 : Nat) : Int) (k + 1) ((k - 1 : Nat) : Int) k := by
  have hsz := hs.size
  obtain ⟨h0, hP, hR⟩ := h.good (by decide) (by omega) wholeD treeD
  have m0 := fun i j => A_step (n := 0) hP hs rfl i j
  have m3 := fun i j => B_step (n := 3) hP hs rfl i j
  have m2 : ∀ i j, Mat s [leafA, repN 0 0 1, grpN 1 0, leafB, rowN 5 [2, 3]] 2 i j ↔ (i ≤ j ∧ j ≤ i + 1 ∧ (j = i ∨ j ≤ k)) := fun i j => by
    rw [Mat_grp (n := 2) (x := 1) hP rfl, Mat_rep (n := 1) (x := 0) hP rfl, times_A m0]
    omega
  have m4 : ∀ i j, Mat s [leafA, repN 0 0 1, grpN 1 0, leafB, rowN 5 [2, 3]] 4 i j ↔ (i ≤ k ∧ k ≤ i + 1 ∧ j = k + 1) := fun i j => by
    rw [Mat_two (n := 4) (x := 2) (y := 3) hP rfl]
    constructor
    · rintro ⟨m, h1, h2⟩
      have a := (m2 i m).1 h1
      have b := (m3 m j).1 h2
      omega
    · rintro ⟨h1, h2, h3⟩
      exact ⟨k, (m2 i k).2 (by omega), (m3 k j).2 (by omega)⟩
  refine ⟨h0, ?_⟩
  rcases hR with ⟨rfl, hno⟩ | ⟨ob, i, j, c', rfl, hB, hO, hl, hG⟩
  · exact absurd ((m4 (k - 1) (k + 1)).2 (by omega)) (hno (k - 1) (k + 1) (by omega))
  · have hB' : Best s.size (Mat s [leafA, repN 0 0 1, grpN 1 0, leafB, rowN 5 [2, 3]] 4) 0 (k - 1) (k + 1) := ⟨by omega, by omega, by omega, (m4 _ _).2 (by omega), fun i' j' h1 h2 h3 => by have := (m4 i' j').1 h3; omega, fun j' h1 h2 => by have := (m4 (k - 1) j').1 h2; omega⟩
    obtain ⟨rfl, rfl⟩ := hB.one hB'
    obtain ⟨t, c1, hT, g1, t2, hT2, g2⟩ := G_two (n := 4) (x := 2) (y := 3) hP rfl hG
    have ht : t = k := by
      have := hT.sat ⟨k, by omega, by omega, (m2 (k - 1) k).2 (by omega), (m3 k (k + 1)).2 (by omega)⟩
      exact ((m3 _ _).1 this.2).1
    subst ht
    have e1 := G_rep (n := 1) (x := 0) hP (Nat.zero_le _) rfl rfl (G_grp (n := 2) hP rfl g1)
    have e2 := G_leaf (n := 3) hP (Nat.zero_le _) rfl g2
    subst e1
    subst e2
    exact ⟨ob, rfl, hO⟩

def treeCof (lo hi : Nat) : PSt × Nat := (⟨9, 1, [leaf 1 noSet, leafA, repN 1 lo (hi : Int), grpN 2 0, rowN 5 [0, 3]]⟩, 4)

theorem treeC {lo hi : Nat} (h : lo ≤ hi) (h9 : hi ≤ 9) : treeOf (ptC lo hi) = treeCof lo hi ∧ run (ptC lo hi) 9 = some ⟨1, 0, 1, hi⟩ := by
  obtain rfl | rfl | rfl | rfl | rfl | rfl | rfl | rfl | rfl | rfl : hi = 0 ∨ hi = 1 ∨ hi = 2 ∨ hi = 3 ∨ hi = 4 ∨ hi = 5 ∨ hi = 6 ∨ hi = 7 ∨ hi = 8 ∨ hi = 9 := by omega
  all_goals
    obtain rfl | rfl | rfl | rfl | rfl | rfl | rfl | rfl | rfl | rfl : lo = 0 ∨ lo = 1 ∨ lo = 2 ∨ lo = 3 ∨ lo = 4 ∨ lo = 5 ∨ lo = 6 ∨ lo = 7 ∨ lo = 8 ∨ lo = 9 := by omega
    all_goals first
      | (exfalso; omega)
      | exact ⟨by kernel_rfl, by kernel_rfl⟩

theorem wholeC {lo hi : Nat} (h : lo ≤ hi) (h9 : hi ≤ 9) : Wholly (ptC lo hi) := ⟨_, (treeC h h9).2, rfl⟩

theorem starC {s : ByteArray} {k lo hi : Nat} {w' : World} {v : Value} {ec : Int} (hs : Ab s k) (hk : k ≤ 30) (hlh : lo ≤ hi) (hh : hi ≤ 9) (h : MatchIs (ptC lo hi) s w' v ec) : ec = 0 ∧ ((k < lo ∧ v = .slice none 0 0) ∨ (lo ≤ k ∧ ∃ x y, TwoAre w' v x y 0 ((min hi k : Nat) : Int))) := by
  have hsz := hs.size
  obtain ⟨h0, hP, hR⟩ := h.good (show 9 ≤ 40 by decide) (by omega) (wholeC hlh hh) (treeC hlh hh).1
  have m0 := fun i j => Mat_begin (s := s) (n := 0) hP rfl i j
  have m1 := fun i j => A_step (n := 1) hP hs rfl i j
  have m3 : ∀ i j, Mat s [leaf 1 noSet, leafA, repN 1 lo (hi : Int), grpN 2 0, rowN 5 [0, 3]] 3 i j ↔ (i + lo ≤ j ∧ j ≤ i + hi ∧ (j = i ∨ j ≤ k)) := fun i j => by
    rw [Mat_grp (n := 3) (x := 2) hP rfl, Mat_rep (n := 2) (x := 1) hP rfl, times_A m1]
    omega
  have m4 : ∀ i j, Mat s [leaf 1 noSet, leafA, repN 1 lo (hi : Int), grpN 2 0, rowN 5 [0, 3]] 4 i j ↔ (i = 0 ∧ lo ≤ j ∧ j ≤ hi ∧ (j = 0 ∨ j ≤ k)) := fun i j => by
    rw [Mat_two (n := 4) (x := 0) (y := 3) hP rfl]
    constructor
    · rintro ⟨m, h1, h2⟩
      have a := (m0 i m).1 h1
      have b := (m3 m j).1 h2
      omega
    · rintro ⟨h1, h2⟩
      exact ⟨0, (m0 i 0).2 (by omega), (m3 0 j).2 (by omega)⟩
  refine ⟨h0, ?_⟩
  rcases hR with ⟨rfl, hno⟩ | ⟨ob, i, j, c', rfl, hB, hO, hl, hG⟩
  · rcases Nat.lt_or_ge k lo with h | h
    · exact .inl ⟨h, rfl⟩
    · exact absurd ((m4 0 lo).2 (by omega)) (hno 0 lo (by omega))
  · have hm := (m4 i j).1 hB.2.2.2.1
    have hk0 : lo ≤ k := by omega
    have hB' : Best s.size (Mat s [leaf 1 noSet, leafA, repN 1 lo (hi : Int), grpN 2 0, rowN 5 [0, 3]] 4) 0 0 (min hi k) := ⟨by omega, by omega, by omega, (m4 _ _).2 (by omega), fun i' j' h1 h2 => by omega, fun j' h1 h2 => by have := (m4 0 j').1 h2; omega⟩
    obtain ⟨rfl, rfl⟩ := hB.one hB'
    obtain ⟨t, c1, hT, g1, t2, hT2, g2⟩ := G_two (n := 4) (x := 0) (y := 3) hP rfl hG
    have ht : t = 0 := by
      have := hT.sat ⟨0, by omega, by omega, (m0 0 0).2 (by omega), (m3 0 (min hi k)).2 (by omega)⟩
      have := (m0 _ _).1 this.1
      omega
    subst ht
    have ht2 : t2 = min hi k := (hT2.sat ⟨min hi k, by omega, by omega, (m3 0 (min hi k)).2 (by omega), rfl⟩).2
    subst ht2
    have e1 := G_leaf (n := 0) hP (by omega) rfl g1
    have e2 := G_rep (n := 2) (x := 1) hP (Nat.zero_le _) rfl rfl (G_grp (n := 3) hP rfl g2)
    subst e1
    subst e2
    exact .inr ⟨hk0, _, _, ob, rfl, hO⟩
end Go.Proofs.Ytppjlpihaocdiaa
