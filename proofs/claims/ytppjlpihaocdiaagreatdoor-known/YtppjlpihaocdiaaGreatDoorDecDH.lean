/- Several texts in one. -/
import Derived.Test.YtppjlpihaocdiaaGreatDoorFirstH
import Derived.Test.YtppjlpihaocdiaaGreatDoorPrCH
import Derived.Test.YtppjlpihaocdiaaGreatDoorEdSpecH
import Derived.Test.YtppjlpihaocdiaaGreatDoorDecAH
/- A part of the proof. -/
set_option linter.unusedSimpArgs false
set_option linter.unusedVariables false
namespace Go.Proofs.YtppjlpihaocdiaaGreatDoor
namespace Ee
open Go.RowKit
open Rs (TreeIn PatAt grps)
theorem repP_one {m : Nat → Nat → Nat → Prop} {g : Nat → Nat → Nat → Caps → Caps → Prop} (hg : ∀ x i j c c1 c2, g x i j c c1 → g x i j c c2 → c1 = c2) {x lo : Nat} {hi : Int} : ∀ {f a i j : Nat} {c c1 c2 : Caps}, repP m g x lo hi f a i j c c1 → repP m g x lo hi f a i j c c2 → c1 = c2
  | 0, _, _, _, _, _, _, h, h' => by rw [h, h']
  | f + 1, a, i, j, c, c1, c2, h, h' => by
    rcases h with ⟨n1, h⟩ | ⟨n1, t, d, a1, a2, a3⟩
    · rcases h' with ⟨_, h'⟩ | ⟨n2, _⟩
      · rcases h with ⟨b1, b2⟩ | ⟨b1, b2⟩
        · rcases h' with ⟨_, b2'⟩ | ⟨b1', _⟩
          · exact hg _ _ _ _ _ _ b2 b2'
          · exact absurd b1 b1'
        · rcases h' with ⟨b1', _⟩ | ⟨_, b2'⟩
          · exact absurd b1' b1
          · rw [b2, b2']
      · exact absurd n2 n1
    · rcases h' with ⟨n2, _⟩ | ⟨_, t', d', b1, b2, b3⟩
      · exact absurd n1 n2
      · have e := a1.one b1
        subst e
        have e := hg _ _ _ _ _ _ a2 b2
        subst e
        exact repP_one hg a3 b3
theorem pgOf_one (s : ByteArray) (nodes : List Nd) : ∀ {f n i j : Nat} {c c1 c2 : Caps}, pgOf s nodes f n i j c c1 → pgOf s nodes f n i j c c2 → c1 = c2
  | 0, _, _, _, _, _, _, h, _ => h.elim
  | f + 1, n, i, j, c, c1, c2, h, h' => by
    obtain ⟨d, e, h⟩ := h
    obtain ⟨d', e', h'⟩ := h'
    rw [e] at e'
    cases e'
    have ih : ∀ x i j c c1 c2, pgOf s nodes f x i j c c1 → pgOf s nodes f x i j c c2 → c1 = c2 := fun _ _ _ _ _ _ a b => pgOf_one s nodes a b
    split at h
    · rename_i k; rw [if_pos k] at h'; exact ih _ _ _ _ _ _ h h'
    · rename_i k; rw [if_neg k] at h'
      split at h
      · rename_i k; rw [if_pos k] at h'; exact altG.one ih h h'
      · rename_i k; rw [if_neg k] at h'
        split at h
        · rename_i k; rw [if_pos k] at h'; exact rowG.one ih h h'
        · rename_i k; rw [if_neg k] at h'
          split at h
          · rename_i k; rw [if_pos k] at h'; exact repP_one ih h h'
          · rename_i k; rw [if_neg k] at h'; rw [h, h']
def FirstIs (p t : ByteArray) (pl : Nat) (sp : List (Int × Int)) : Prop :=
  ∃ (i j : Nat) (c : Caps), sp = ((i : Int), (j : Int)) :: c ∧ Best t.size (Mat t (treeOf p).1.l (treeOf p).2) pl i j ∧ c.length = grps p ∧ PGv t (treeOf p).1.l (treeOf p).2 i j (noCaps (grps p)) c
theorem FirstIs.one {p t : ByteArray} {pl : Nat} {sp sp' : List (Int × Int)} (h : FirstIs p t pl sp) (h' : FirstIs p t pl sp') : sp = sp' := by
  obtain ⟨i, j, c, rfl, h1, h2, h3⟩ := h
  obtain ⟨i', j', c', rfl, k1, k2, k3⟩ := h'
  obtain ⟨rfl, rfl⟩ := h1.one k1
  have := pgOf_one _ _ h3 k3
  rw [this]
def MfOk (mf : Mf) : Prop := ∀ p t pl, (∀ sp, FirstIs p t pl sp → mf p t pl = some sp) ∧ ((∀ sp, ¬ FirstIs p t pl sp) → mf p t pl = none)
theorem MfOk.some' {mf : Mf} (h : MfOk mf) {p t : ByteArray} {pl : Nat} {sp : List (Int × Int)} (hs : mf p t pl = some sp) : FirstIs p t pl sp := by
  by_cases hx : ∃ sp, FirstIs p t pl sp
  · obtain ⟨s', h'⟩ := hx
    have := (h p t pl).1 s' h'
    rw [this] at hs
    cases hs
    exact h'
  · have := (h p t pl).2 (fun sp hsp => hx ⟨sp, hsp⟩)
    rw [this] at hs
    cases hs
theorem mf_ex : ∃ mf : Mf, MfOk mf := by
  have h : ∀ x : ByteArray × ByteArray × Nat, ∃ r : Option (List (Int × Int)), (∀ sp, FirstIs x.1 x.2.1 x.2.2 sp → r = some sp) ∧ ((∀ sp, ¬ FirstIs x.1 x.2.1 x.2.2 sp) → r = none) := fun x => by
    by_cases hx : ∃ sp, FirstIs x.1 x.2.1 x.2.2 sp
    · obtain ⟨sp, hsp⟩ := hx
      exact ⟨some sp, fun sp' h' => by rw [hsp.one h'], fun h' => absurd hsp (h' sp)⟩
    · exact ⟨none, fun sp' h' => absurd ⟨sp', h'⟩ hx, fun _ => rfl⟩
  obtain ⟨f, hf⟩ := Classical.axiomOfChoice h
  exact ⟨fun p t pl => f (p, t, pl), fun p t pl => hf (p, t, pl)⟩
def Pt (w : World) (t : ByteArray) (v0 v1 v2 : Value) : Prop :=
  ∃ nb cap : Nat, v0 = .slice (some ⟨nb, 0, none⟩) (treeOf t).1.l.length cap ∧ v1 = .int .i64 ((treeOf t).2 : Nat) ∧ v2 = .int .i64 (grps t : Nat) ∧ grps t ≤ 9 ∧ (treeOf t).2 < (treeOf t).1.l.length ∧ ∀ w', Below w.heap.size w w' → TreeIs w' nb (treeOf t).1.l (grps t)
theorem PatAt.pt {w : World} {lo hi : Nat} {t : ByteArray} {v0 v1 v2 : Value} (h : PatAt w lo hi t v0 v1 v2) (ht : t.size ≤ 40) : Pt w t v0 v1 v2 := by
  obtain ⟨h1, h2, h3⟩ := h
  obtain ⟨nb, cap, a1, a2, a3, a4, a5⟩ := h3 ht
  exact ⟨nb, cap, a1, a2, h1, h2, a4, fun w' hb => a5.2 w' (fun k _ hk => hb.block k (Nat.lt_of_lt_of_le hk a5.1)) (Nat.le_trans a5.1 hb.size)⟩
theorem Pt.below {w w' : World} {t : ByteArray} {v0 v1 v2 : Value} (h : Pt w t v0 v1 v2) (hb : Below w.heap.size w w') : Pt w' t v0 v1 v2 := by
  obtain ⟨nb, cap, a1, a2, a3, a4, a5, a6⟩ := h
  exact ⟨nb, cap, a1, a2, a3, a4, a5, fun w'' hb' => a6 w'' (hb.trans (hb'.mono hb.size))⟩
def Tb (w : World) (p t : ByteArray) (tb : Nat) : Prop := ∃ nb vb cap T m, TbAt w ⟨(treeOf p).1.l, t, (treeOf p).2, grps p, tb, nb, vb, cap⟩ (treeOf p).1.l.length T m ∧ (∀ a d, (treeOf p).1.l[a]? = some d → RowIs t (Mat t (treeOf p).1.l) d (m a) (T a)) ∧ (∀ a d, (treeOf p).1.l[a]? = some d → PNd a (grps p) d) ∧ grps p ≤ 9 ∧ (treeOf p).2 < (treeOf p).1.l.length
theorem Tb.below {w w' : World} {p t : ByteArray} {tb : Nat} (h : Tb w p t tb) (hb : Below w.heap.size w w') : Tb w' p t tb := by
  obtain ⟨nb, vb, cap, T, m, h1, h2⟩ := h
  exact ⟨nb, vb, cap, T, m, h1.below hb, h2⟩
theorem look_pt (p t : ByteArray) (v0 v1 v2 : Value) (w : World) (h : Pt w p v0 v1 v2) (ht : t.size ≤ 80) :
    Calls Tryz.prog 43 #[.agg #[v0, v1, v2], .string t] w fun e w' => ∃ tb, e = .returned (.pointer (some ⟨tb, 0, none⟩)) ∧ Tb w' p t tb ∧ Below w.heap.size w w' := by
  obtain ⟨nb, cap, rfl, rfl, rfl, h1, h2, h3⟩ := h
  refine (look_any t nb cap (treeOf p).2 (grps p) (treeOf p).1.l w (h3 w (Below.refl _ _)) ht).mono ?_
  rintro e w' ⟨tb, rfl, vb, T, m, a1, a2, a3⟩
  exact ⟨tb, rfl, ⟨nb, vb, cap, T, m, a1, a2, (h3 w (Below.refl _ _)).wf, h1, h2⟩, a3⟩
def SpAt (w : World) (r : Option (List (Int × Int))) (u : Value) (lo : Nat) : Prop :=
  match r with
  | none => u = .slice none 0 0
  | some sp => ∃ ob, u = .slice (some ⟨ob, 0, none⟩) sp.length sp.length ∧ lo ≤ ob ∧ OutAt w ob sp
theorem first_tb (mf : Mf) (hm : MfOk mf) (p t : ByteArray) (tb pl : Nat) (w : World) (h : Tb w p t tb) (hpl : pl ≤ t.size + 1) :
    Calls Tryz.prog 44 #[.pointer (some ⟨tb, 0, none⟩), .int .i64 pl] w fun e w' => Below w.heap.size w w' ∧ ∃ u, e = .returned u ∧ SpAt w' (mf p t pl) u w.heap.size := by
  obtain ⟨nb, vb, cap, T, m, h1, h2, h3, h4, h5⟩ := h
  refine (first_any ⟨(treeOf p).1.l, t, (treeOf p).2, grps p, tb, nb, vb, cap⟩ T m w h1 h2 h3 h4 h5 pl hpl).mono ?_
  rintro e w' ⟨hB, h6⟩
  refine ⟨hB, ?_⟩
  rcases h6 with ⟨rfl, h6⟩ | ⟨ob, i, j, c', rfl, a1, a2, a3, a4, a5⟩
  · refine ⟨_, rfl, ?_⟩
    have : mf p t pl = none := (hm p t pl).2 fun sp hsp => by
      obtain ⟨i, j, c, _, b1, _, _⟩ := hsp
      exact h6 i j b1.1 (Nat.le_trans b1.2.1 b1.2.2.1) b1.2.2.2.1
    rw [this]
    rfl
  · refine ⟨_, rfl, ?_⟩
    have : mf p t pl = some (((i : Int), (j : Int)) :: c') := (hm p t pl).1 _ ⟨i, j, c', rfl, a2, a4, a5⟩
    rw [this]
    refine ⟨ob, ?_, a1, a3⟩
    rw [List.length_cons, a4]
end Ee
end Go.Proofs.YtppjlpihaocdiaaGreatDoor

/- A part of the proof. -/
set_option linter.unusedVariables false
namespace Go.Proofs.YtppjlpihaocdiaaGreatDoor
def ztB (L : Nat) (r : Nat → Nat → Bool) (lo : Nat) (hi : Int) (q i j : Nat) : Bool :=
  anyTo L fun m => powB L r (lo - q) i m && anyTo L fun k => ((k == 0) || (decide (hi < 0) || decide (((max q lo : Nat) : Int) + k ≤ hi))) && powB L (fullB r) k m j
theorem Tells.zt {L : Nat} {r : Nat → Nat → Bool} {R : Nat → Nat → Prop} (h : Tells L r R) (lo : Nat) (hi : Int) (q i j : Nat) (hij : i ≤ L) : ztB L r lo hi q i j = true ↔ Zt R lo hi q i j := by
  unfold ztB Zt TimesR
  rw [anyTo_iff]
  constructor
  · rintro ⟨m, h1, h2⟩
    rw [Bool.and_eq_true, anyTo_iff] at h2
    obtain ⟨h2, k, h3, h4⟩ := h2
    rw [Bool.and_eq_true, Bool.or_eq_true, Bool.or_eq_true, decide_eq_true_eq, decide_eq_true_eq, beq_iff_eq] at h4
    exact ⟨i, m, k, rfl, (h.pow _ i m hij).1 h2, h4.1, (h.full.pow k m j h1).1 h4.2⟩
  · rintro ⟨_, m, k, rfl, h1, h2, h3⟩
    have hm := (Pow.le h.1 hij h1).2
    have hq := pow_full h.1 hm h3
    have hj := (Pow.le h.1.full hm h3).2
    refine ⟨m, hm, ?_⟩
    rw [Bool.and_eq_true, anyTo_iff]
    refine ⟨(h.pow _ _ m hij).2 h1, k, by omega, ?_⟩
    rw [Bool.and_eq_true, Bool.or_eq_true, Bool.or_eq_true, decide_eq_true_eq, decide_eq_true_eq, beq_iff_eq]
    exact ⟨h2, (h.full.pow k m j hm).2 h3⟩
def topD (p : Nat → Bool) (i : Nat) : Nat → Nat
  | 0 => i
  | k + 1 => if p (i + k + 1) = true then i + k + 1 else topD p i k
theorem topD_top {p : Nat → Bool} {P : Nat → Prop} {i : Nat} : ∀ (k : Nat), (∀ t, i ≤ t → t ≤ i + k → (p t = true ↔ P t)) → Top P i (i + k) (topD p i k)
  | 0, h => ⟨Nat.le_refl _, Nat.le_refl _, fun u h1 h2 => by simp [topD] at h1; omega, .inl rfl⟩
  | k + 1, h => by
    rw [topD]
    by_cases hp : p (i + k + 1) = true
    · rw [if_pos hp]
      exact ⟨by omega, by omega, fun u h1 h2 => by omega, .inr ((h _ (by omega) (by omega)).1 hp)⟩
    · rw [if_neg hp]
      obtain ⟨h1, h2, h3, h4⟩ := topD_top k (fun t a b => h t a (by omega))
      refine ⟨h1, by omega, fun u a b hu => ?_, h4⟩
      by_cases hk : u ≤ i + k
      · exact h3 u a hk hu
      · obtain rfl : u = i + k + 1 := by omega
        exact hp ((h _ (by omega) (by omega)).2 hu)
section
variable (s : ByteArray) (nodes : List Nd) (g : Nat → Nat → Nat → Caps → Option Caps)
def altF (i j : Nat) (c : Caps) : List Nat → Option Caps
  | [] => some c
  | x :: xs => if matB s nodes x i j = true then g x i j c else altF i j c xs
def rowF' (j : Nat) : List Nat → Nat → Caps → Option Caps
  | [], i, c => some c
  | x :: xs, i, c => (g x i (topD (fun t => matB s nodes x i t && chainB s.size (xs.map fun y => matB s nodes y) t j) i (j - i)) c).bind fun c1 => rowF' j xs (topD (fun t => matB s nodes x i t && chainB s.size (xs.map fun y => matB s nodes y) t j) i (j - i)) c1
def repF' (x lo : Nat) (hi : Int) (j : Nat) : Nat → Nat → Nat → Caps → Option Caps
  | 0, _, _, c => some c
  | f + 1, done, i, c =>
    if i < j then (g x i (topD (fun t => matB s nodes x i t && ztB s.size (matB s nodes x) lo hi (done + 1) t j) i (j - i)) c).bind fun c1 => repF' x lo hi j f (done + 1) (topD (fun t => matB s nodes x i t && ztB s.size (matB s nodes x) lo hi (done + 1) t j) i (j - i)) c1
    else if done < lo then g x i j c else some c
end
def pgF (s : ByteArray) (nodes : List Nd) : Nat → Nat → Nat → Nat → Caps → Option Caps
  | 0, _, _, _, _ => none
  | f + 1, n, i, j, c => match nodes[n]? with
    | none => none
    | some d =>
      if d.kind = 3 then pgF s nodes f (d.subs.getD 0 0) i j (c.set d.num ((i : Int), (j : Int)))
      else if d.kind = 4 then altF s nodes (pgF s nodes f) i j c d.subs
      else if d.kind = 5 then rowF' s nodes (pgF s nodes f) j d.subs i c
      else if d.kind = 6 then repF' s nodes (pgF s nodes f) (d.subs.getD 0 0) d.lo d.hi j (d.lo + s.size + 1) 0 i c
      else some c
theorem mat_tells (s : ByteArray) (nodes : List Nd) (x : Nat) : Tells s.size (matB s nodes x) (Mat s nodes x) := mB_tells s nodes (x + 1) x
section
variable {s : ByteArray} {nodes : List Nd} {g : Nat → Nat → Nat → Caps → Option Caps} {G : Nat → Nat → Nat → Caps → Caps → Prop}
theorem altF_ok (hg : ∀ x i j c c', i ≤ j → j ≤ s.size → g x i j c = some c' → G x i j c c') {i j : Nat} (hij : i ≤ j) (hj : j ≤ s.size) {c c' : Caps} : ∀ (l : List Nat), altF s nodes g i j c l = some c' → altG (Mat s nodes) G l i j c c'
  | [], h => by
    simp [altF] at h
    exact h.symm
  | x :: xs, h => by
    rw [altF] at h
    by_cases hm : matB s nodes x i j = true
    · rw [if_pos hm] at h
      exact .inl ⟨(matB_iff s nodes x i j (by omega)).1 hm, hg _ _ _ _ _ hij hj h⟩
    · rw [if_neg hm] at h
      exact .inr ⟨fun hx => hm ((matB_iff s nodes x i j (by omega)).2 hx), altF_ok hg hij hj xs h⟩
theorem rowF_ok (hg : ∀ x i j c c', i ≤ j → j ≤ s.size → g x i j c = some c' → G x i j c c') {j : Nat} (hj : j ≤ s.size) : ∀ (l : List Nat) {i : Nat} {c c' : Caps}, i ≤ j → rowF' s nodes g j l i c = some c' → rowG (Mat s nodes) G l i j c c'
  | [], i, c, c', _, h => by
    simp [rowF'] at h
    exact h.symm
  | x :: xs, i, c, c', hij, h => by
    have ht := topD_top (p := fun t => matB s nodes x i t && chainB s.size (xs.map fun y => matB s nodes y) t j) (P := fun t => Mat s nodes x i t ∧ Chain (xs.map (Mat s nodes)) t j) (i := i) (j - i) (fun t h1 h2 => by
      rw [Bool.and_eq_true, matB_iff s nodes x i t (by omega)]
      exact and_congr_right fun _ => (Tells.chain (r := fun y => matB s nodes y) (R := fun y => Mat s nodes y) xs (mat_tells s nodes)).2 t j (by omega))
    rw [show i + (j - i) = j by omega] at ht
    rw [rowF', Option.bind_eq_some_iff] at h
    obtain ⟨c1, h1, h2⟩ := h
    exact ⟨_, c1, ht, hg _ _ _ _ _ ht.1 (by have := ht.2.1; omega) h1, rowF_ok hg hj xs ht.2.1 h2⟩
theorem repF_ok (hg : ∀ x i j c c', i ≤ j → j ≤ s.size → g x i j c = some c' → G x i j c c') {x lo j : Nat} {hi : Int} (hj : j ≤ s.size) : ∀ (f : Nat) {done i : Nat} {c c' : Caps}, i ≤ j → repF' s nodes g x lo hi j f done i c = some c' → repP (Mat s nodes) G x lo hi f done i j c c'
  | 0, done, i, c, c', _, h => by
    simp [repF'] at h
    exact h.symm
  | f + 1, done, i, c, c', hij, h => by
    rw [repF'] at h
    by_cases hlt : i < j
    · rw [if_pos hlt] at h
      have ht := topD_top (p := fun t => matB s nodes x i t && ztB s.size (matB s nodes x) lo hi (done + 1) t j) (P := fun t => Mat s nodes x i t ∧ Zt (Mat s nodes x) lo hi (done + 1) t j) (i := i) (j - i) (fun t h1 h2 => by
        rw [Bool.and_eq_true, matB_iff s nodes x i t (by omega)]
        exact and_congr_right fun _ => (mat_tells s nodes x).zt lo hi (done + 1) t j (by omega))
      rw [show i + (j - i) = j by omega] at ht
      rw [Option.bind_eq_some_iff] at h
      obtain ⟨c1, h1, h2⟩ := h
      exact .inr ⟨hlt, _, c1, ht, hg _ _ _ _ _ ht.1 (by have := ht.2.1; omega) h1, repF_ok hg hj f ht.2.1 h2⟩
    · rw [if_neg hlt] at h
      by_cases hd : done < lo
      · rw [if_pos hd] at h
        exact .inl ⟨hlt, .inl ⟨hd, hg _ _ _ _ _ hij hj h⟩⟩
      · rw [if_neg hd] at h
        simp at h
        exact .inl ⟨hlt, .inr ⟨hd, h.symm⟩⟩
end
theorem pgF_ok (s : ByteArray) (nodes : List Nd) : ∀ (f n i j : Nat) (c c' : Caps), i ≤ j → j ≤ s.size → pgF s nodes f n i j c = some c' → pgOf s nodes f n i j c c'
  | 0, _, _, _, _, _, _, _, h => by simp [pgF] at h
  | f + 1, n, i, j, c, c', hij, hj, h => by
    have ih := fun x i j c c' a b h => pgF_ok s nodes f x i j c c' a b h
    rw [pgF] at h
    cases hd : nodes[n]? with
    | none => rw [hd] at h; simp at h
    | some d =>
      rw [hd] at h
      simp only at h
      refine ⟨d, hd, ?_⟩
      split
      · rename_i k; rw [if_pos k] at h; exact ih _ _ _ _ _ hij hj h
      · rename_i k; rw [if_neg k] at h
        split
        · rename_i k; rw [if_pos k] at h; exact altF_ok ih hij hj _ h
        · rename_i k; rw [if_neg k] at h
          split
          · rename_i k; rw [if_pos k] at h; exact rowF_ok ih hj _ hij h
          · rename_i k; rw [if_neg k] at h
            split
            · rename_i k; rw [if_pos k] at h; exact repF_ok ih hj _ hij h
            · rename_i k; rw [if_neg k] at h
              simp at h
              exact h.symm
end Go.Proofs.YtppjlpihaocdiaaGreatDoor

/- A part of the proof. -/
set_option linter.unusedVariables false
namespace Go.Proofs.YtppjlpihaocdiaaGreatDoor
namespace Ee
open Rs (grps)
def bestAt (s : ByteArray) (nodes : List Nd) (n i : Nat) : Option Nat :=
  if matB s nodes n i (topD (fun j => matB s nodes n i j) i (s.size - i)) = true then some (topD (fun j => matB s nodes n i j) i (s.size - i)) else none
theorem best_at (s : ByteArray) (nodes : List Nd) (n i : Nat) (hi : i ≤ s.size) : (∃ j, bestAt s nodes n i = some j ∧ i ≤ j ∧ j ≤ s.size ∧ Mat s nodes n i j ∧ ∀ j', j < j' → ¬ Mat s nodes n i j') ∨ (bestAt s nodes n i = none ∧ ∀ j, ¬ Mat s nodes n i j) := by
  have st := (mat_tells s nodes n).1
  have ht := topD_top (p := fun j => matB s nodes n i j) (P := fun j => Mat s nodes n i j) (i := i) (s.size - i) (fun t _ _ => matB_iff s nodes n i t hi)
  rw [show i + (s.size - i) = s.size by omega] at ht
  obtain ⟨h1, h2, h3, h4⟩ := ht
  unfold bestAt
  by_cases hm : matB s nodes n i (topD (fun j => matB s nodes n i j) i (s.size - i)) = true
  · rw [if_pos hm]
    refine .inl ⟨_, rfl, h1, h2, (matB_iff s nodes n i _ hi).1 hm, fun j' hj' hx => ?_⟩
    exact h3 j' hj' (st i j' hi hx).2 hx
  · rw [if_neg hm]
    refine .inr ⟨rfl, fun j hx => ?_⟩
    have hj := st i j hi hx
    have hm' : ¬ Mat s nodes n i (topD (fun j => matB s nodes n i j) i (s.size - i)) := fun h => hm ((matB_iff s nodes n i _ hi).2 h)
    rcases h4 with h4 | h4
    · by_cases e : j = topD (fun j => matB s nodes n i j) i (s.size - i)
      · exact hm' (e ▸ hx)
      · exact h3 j (by omega) hj.2 hx
    · exact hm' h4
def fF (s : ByteArray) (nodes : List Nd) (n : Nat) : Nat → Nat → Option (Nat × Nat)
  | 0, _ => none
  | f + 1, i => match bestAt s nodes n i with
    | some j => some (i, j)
    | none => fF s nodes n f (i + 1)
theorem fF_ok (s : ByteArray) (nodes : List Nd) (n : Nat) : ∀ (f i : Nat), i + f = s.size + 1 → (∃ a b, fF s nodes n f i = some (a, b) ∧ Best s.size (Mat s nodes n) i a b) ∨ (fF s nodes n f i = none ∧ ∀ a b, i ≤ a → a ≤ s.size → ¬ Mat s nodes n a b)
  | 0, i, h => .inr ⟨rfl, fun a b h1 h2 => by omega⟩
  | f + 1, i, h => by
    rw [fF]
    rcases best_at s nodes n i (by omega) with ⟨j, e, h1, h2, h3, h4⟩ | ⟨e, h1⟩
    · rw [e]
      exact .inl ⟨i, j, rfl, Nat.le_refl _, h1, h2, h3, fun i' j' a b => by omega, h4⟩
    · rw [e]
      rcases fF_ok s nodes n f (i + 1) (by omega) with ⟨a, b, k1, k2⟩ | ⟨k1, k2⟩
      · obtain ⟨b1, b2, b3, b4, b5, b6⟩ := k2
        refine .inl ⟨a, b, k1, by omega, b2, b3, b4, fun i' j' c1 c2 hx => ?_, b6⟩
        by_cases e2 : i' = i
        · exact h1 j' (e2 ▸ hx)
        · exact b5 i' j' (by omega) c2 hx
      · refine .inr ⟨k1, fun a b c1 c2 hx => ?_⟩
        by_cases e2 : a = i
        · exact h1 b (e2 ▸ hx)
        · exact k2 a b (by omega) c2 hx
def mfC (p t : ByteArray) (pl : Nat) : Option (Option (List (Int × Int))) :=
  if t.size < pl then some none else
  match fF t (treeOf p).1.l (treeOf p).2 (t.size + 1 - pl) pl with
  | none => some none
  | some (i, j) => match pgF t (treeOf p).1.l ((treeOf p).2 + 1) (treeOf p).2 i j (noCaps (grps p)) with
    | none => none
    | some c => if c.length = grps p then some (some (((i : Int), (j : Int)) :: c)) else none
theorem mf_closed {mf : Mf} (hm : MfOk mf) {p t : ByteArray} {pl : Nat} {r : Option (List (Int × Int))} (h : mfC p t pl = some r) : mf p t pl = r := by
  unfold mfC at h
  by_cases hp : t.size < pl
  · rw [if_pos hp] at h
    cases h
    refine (hm p t pl).2 fun sp hx => ?_
    obtain ⟨i, j, c, _, hb, _⟩ := hx
    obtain ⟨b1, b2, b3, _⟩ := hb
    omega
  · rw [if_neg hp] at h
    rcases fF_ok t (treeOf p).1.l (treeOf p).2 (t.size + 1 - pl) pl (by omega) with ⟨a, b, k1, k2⟩ | ⟨k1, k2⟩
    · rw [k1] at h
      simp only at h
      obtain ⟨b1, b2, b3, b4, b5, b6⟩ := k2
      cases hg : pgF t (treeOf p).1.l ((treeOf p).2 + 1) (treeOf p).2 a b (noCaps (grps p)) with
      | none => rw [hg] at h; cases h
      | some c =>
        rw [hg] at h
        simp only at h
        by_cases hl : c.length = grps p
        · rw [if_pos hl] at h
          cases h
          exact (hm p t pl).1 _ ⟨a, b, c, rfl, ⟨b1, b2, b3, b4, b5, b6⟩, hl, pgF_ok t _ _ _ a b _ c b2 b3 hg⟩
        · rw [if_neg hl] at h
          cases h
    · rw [k1] at h
      cases h
      refine (hm p t pl).2 fun sp hx => ?_
      obtain ⟨i, j, c, _, hb, _⟩ := hx
      obtain ⟨b1, b2, b3, b4, _⟩ := hb
      exact k2 i j b1 (by omega) b4
end Ee
end Go.Proofs.YtppjlpihaocdiaaGreatDoor

/- A part of the proof. -/
set_option linter.unusedVariables false
namespace Go.Proofs.YtppjlpihaocdiaaGreatDoor
section
variable {s : ByteArray} {nodes : List Nd} {g : Nat → Nat → Nat → Caps → Option Caps}
def Gv (g : Nat → Nat → Nat → Caps → Option Caps) (x : Nat) : Prop := ∀ i j c, ∃ c', g x i j c = some c' ∧ c'.length = c.length
theorem altF_some (i j : Nat) (c : Caps) : ∀ (l : List Nat), (∀ x ∈ l, Gv g x) → ∃ c', altF s nodes g i j c l = some c' ∧ c'.length = c.length
  | [], _ => ⟨c, rfl, rfl⟩
  | x :: xs, h => by
    rw [altF]
    split
    · exact h x (by simp) i j c
    · exact altF_some i j c xs fun y hy => h y (List.mem_cons_of_mem _ hy)
theorem rowF_some (j : Nat) : ∀ (l : List Nat) (i : Nat) (c : Caps), (∀ x ∈ l, Gv g x) → ∃ c', rowF' s nodes g j l i c = some c' ∧ c'.length = c.length
  | [], i, c, _ => ⟨c, rfl, rfl⟩
  | x :: xs, i, c, h => by
    rw [rowF']
    obtain ⟨c1, e1, e2⟩ := h x (by simp) i (topD (fun t => matB s nodes x i t && chainB s.size (xs.map fun y => matB s nodes y) t j) i (j - i)) c
    obtain ⟨c2, e3, e4⟩ := rowF_some j xs (topD (fun t => matB s nodes x i t && chainB s.size (xs.map fun y => matB s nodes y) t j) i (j - i)) c1 fun y hy => h y (List.mem_cons_of_mem _ hy)
    exact ⟨c2, by rw [e1]; exact e3, by rw [e4, e2]⟩
theorem repF_some (x lo : Nat) (hi : Int) (j : Nat) (h : Gv g x) : ∀ (f done i : Nat) (c : Caps), ∃ c', repF' s nodes g x lo hi j f done i c = some c' ∧ c'.length = c.length
  | 0, done, i, c => ⟨c, rfl, rfl⟩
  | f + 1, done, i, c => by
    rw [repF']
    split
    · obtain ⟨c1, e1, e2⟩ := h i (topD (fun t => matB s nodes x i t && ztB s.size (matB s nodes x) lo hi (done + 1) t j) i (j - i)) c
      obtain ⟨c2, e3, e4⟩ := repF_some x lo hi j h f (done + 1) (topD (fun t => matB s nodes x i t && ztB s.size (matB s nodes x) lo hi (done + 1) t j) i (j - i)) c1
      exact ⟨c2, by rw [e1]; exact e3, by rw [e4, e2]⟩
    · split
      · exact h i j c
      · exact ⟨c, rfl, rfl⟩
end
def wfB (nodes : List Nd) : Bool := (List.range nodes.length).all fun n => match nodes[n]? with
  | none => true
  | some d => d.subs.all (fun x => decide (x < n)) && (!(d.kind == 3 || d.kind == 6) || !d.subs.isEmpty)
theorem wfB_at {nodes : List Nd} (h : wfB nodes = true) {n : Nat} {d : Nd} (hd : nodes[n]? = some d) : (∀ x ∈ d.subs, x < n) ∧ (d.kind = 3 ∨ d.kind = 6 → d.subs.getD 0 0 ∈ d.subs) := by
  unfold wfB at h
  rw [List.all_eq_true] at h
  have hn := (List.getElem?_eq_some_iff.1 hd).1
  have h1 := h n (List.mem_range.2 hn)
  rw [hd] at h1
  simp only [Bool.and_eq_true, List.all_eq_true, decide_eq_true_eq] at h1
  refine ⟨h1.1, fun hk => ?_⟩
  have h2 := h1.2
  have hs : d.subs ≠ [] := by
    intro e
    rw [e] at h2
    rcases hk with hk | hk <;> simp [hk] at h2
  cases hd2 : d.subs with
  | nil => exact absurd hd2 hs
  | cons a l => simp
theorem pgF_some (s : ByteArray) (nodes : List Nd) (hw : wfB nodes = true) : ∀ (f n : Nat), n < f → n < nodes.length → Gv (pgF s nodes f) n
  | 0, n, h, _ => by omega
  | f + 1, n, h, hn => by
    intro i j c
    obtain ⟨d, hd⟩ : ∃ d, nodes[n]? = some d := ⟨_, List.getElem?_eq_getElem hn⟩
    obtain ⟨h1, h2⟩ := wfB_at hw hd
    have ih : ∀ x ∈ d.subs, Gv (pgF s nodes f) x := fun x hx => pgF_some s nodes hw f x (by have := h1 x hx; omega) (by have := h1 x hx; omega)
    rw [pgF, hd]
    simp only
    split
    · rename_i k
      obtain ⟨c', e1, e2⟩ := ih _ (h2 (.inl k)) i j (c.set d.num ((i : Int), (j : Int)))
      exact ⟨c', e1, by rw [e2, List.length_set]⟩
    · split
      · exact altF_some i j c d.subs ih
      · split
        · exact rowF_some j d.subs i c ih
        · split
          · rename_i k
            exact repF_some _ _ _ j (ih _ (h2 (.inr k))) _ _ _ _
          · exact ⟨c, rfl, rfl⟩
namespace Ee
open Rs (grps)
def fineP (p : ByteArray) : Bool := wfB (treeOf p).1.l && decide ((treeOf p).2 < (treeOf p).1.l.length)
def mfT (p t : ByteArray) (pl : Nat) : Option (List (Int × Int)) := (mfC p t pl).getD none
theorem mf_fine {mf : Mf} (hm : MfOk mf) {p : ByteArray} (hp : fineP p = true) (t : ByteArray) (pl : Nat) : mf p t pl = mfT p t pl := by
  unfold fineP at hp
  rw [Bool.and_eq_true, decide_eq_true_eq] at hp
  have key : ∃ r, mfC p t pl = some r := by
    unfold mfC
    split
    · exact ⟨_, rfl⟩
    · split
      · exact ⟨_, rfl⟩
      · rename_i i j _
        obtain ⟨c, e1, e2⟩ := pgF_some t (treeOf p).1.l hp.1 ((treeOf p).2 + 1) (treeOf p).2 (by omega) hp.2 i j (noCaps (grps p))
        rw [e1]
        simp only
        rw [if_pos (by rw [e2]; simp [noCaps])]
        exact ⟨_, rfl⟩
  obtain ⟨r, hr⟩ := key
  rw [mf_closed hm hr]
  unfold mfT
  rw [hr]
  rfl
def mfP (mf : Mf) (ps : List (List UInt8)) : Mf := fun p t pl => if p.data.toList ∈ ps then mfT p t pl else mf p t pl
theorem mf_as {mf : Mf} (hm : MfOk mf) (ps : List (List UInt8)) (h : ∀ l ∈ ps, fineP ⟨l.toArray⟩ = true) : mf = mfP mf ps := by
  funext p t pl
  unfold mfP
  by_cases hp : p.data.toList ∈ ps
  · rw [if_pos hp]
    exact mf_fine hm (h _ hp) t pl
  · rw [if_neg hp]
end Ee
end Go.Proofs.YtppjlpihaocdiaaGreatDoor

