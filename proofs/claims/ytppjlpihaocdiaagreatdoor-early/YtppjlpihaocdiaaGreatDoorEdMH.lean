/- A part of the proof. -/
import Derived.Test.YtppjlpihaocdiaaGreatDoorFirstH
import Derived.Test.YtppjlpihaocdiaaGreatDoorPrCH
import Derived.Test.YtppjlpihaocdiaaGreatDoorEdSpecH
set_option linter.unusedSimpArgs false
set_option linter.unusedVariables false
namespace Go.Proofs.YtppjlpihaocdiaaGreatDoor
namespace Ee
open Go.RowKit
open Rs (TreeIn PatAt grps)
theorem repP_one {m : Nat → Nat → Nat → Prop} {g : Nat → Nat → Nat → Caps → Caps → Prop} (hg : ∀ x i j c c1 c2, g x i j c c1 → g x i j c c2 → c1 = c2) {x lo : Nat} {hi : Int} : ∀ {f a i j : Nat} {c c1 c2 : Caps}, repP m g x lo hi f a i j c c1 → repP m g x lo hi f a i j c c2 → c1 = c2
  | 0, _, _, _, _, _, _, h, h' => by rw [h, h']
  | f + 1, a, i, j, c, c1, c2, h, h' => by
    rcases h with ⟨n1, h⟩ | ⟨n1, t, d, a1, a2, a3⟩
    · rcases h' with ⟨_, h'⟩ | ⟨n2, _⟩
      · rcases h with ⟨b1, b2⟩ | ⟨b1, b2⟩
        · rcases h' with ⟨_, b2'⟩ | ⟨b1', _⟩
          · exact hg _ _ _ _ _ _ b2 b2'
          · exact absurd b1 b1'
        · rcases h' with ⟨b1', _⟩ | ⟨_, b2'⟩
          · exact absurd b1' b1
          · rw [b2, b2']
      · exact absurd n2 n1
    · rcases h' with ⟨n2, _⟩ | ⟨_, t', d', b1, b2, b3⟩
      · exact absurd n1 n2
      · have e := a1.one b1
        subst e
        have e := hg _ _ _ _ _ _ a2 b2
        subst e
        exact repP_one hg a3 b3
theorem pgOf_one (s : ByteArray) (nodes : List Nd) : ∀ {f n i j : Nat} {c c1 c2 : Caps}, pgOf s nodes f n i j c c1 → pgOf s nodes f n i j c c2 → c1 = c2
  | 0, _, _, _, _, _, _, h, _ => h.elim
  | f + 1, n, i, j, c, c1, c2, h, h' => by
    obtain ⟨d, e, h⟩ := h
    obtain ⟨d', e', h'⟩ := h'
    rw [e] at e'
    cases e'
    have ih : ∀ x i j c c1 c2, pgOf s nodes f x i j c c1 → pgOf s nodes f x i j c c2 → c1 = c2 := fun _ _ _ _ _ _ a b => pgOf_one s nodes a b
    split at h
    · rename_i k; rw [if_pos k] at h'; exact ih _ _ _ _ _ _ h h'
    · rename_i k; rw [if_neg k] at h'
      split at h
      · rename_i k; rw [if_pos k] at h'; exact altG.one ih h h'
      · rename_i k; rw [if_neg k] at h'
        split at h
        · rename_i k; rw [if_pos k] at h'; exact rowG.one ih h h'
        · rename_i k; rw [if_neg k] at h'
          split at h
          · rename_i k; rw [if_pos k] at h'; exact repP_one ih h h'
          · rename_i k; rw [if_neg k] at h'; rw [h, h']
def FirstIs (p t : ByteArray) (pl : Nat) (sp : List (Int × Int)) : Prop :=
  ∃ (i j : Nat) (c : Caps), sp = ((i : Int), (j : Int)) :: c ∧ Best t.size (Mat t (treeOf p).1.l (treeOf p).2) pl i j ∧ c.length = grps p ∧ PGv t (treeOf p).1.l (treeOf p).2 i j (noCaps (grps p)) c
theorem FirstIs.one {p t : ByteArray} {pl : Nat} {sp sp' : List (Int × Int)} (h : FirstIs p t pl sp) (h' : FirstIs p t pl sp') : sp = sp' := by
  obtain ⟨i, j, c, rfl, h1, h2, h3⟩ := h
  obtain ⟨i', j', c', rfl, k1, k2, k3⟩ := h'
  obtain ⟨rfl, rfl⟩ := h1.one k1
  have := pgOf_one _ _ h3 k3
  rw [this]
def MfOk (mf : Mf) : Prop := ∀ p t pl, (∀ sp, FirstIs p t pl sp → mf p t pl = some sp) ∧ ((∀ sp, ¬ FirstIs p t pl sp) → mf p t pl = none)
theorem MfOk.some' {mf : Mf} (h : MfOk mf) {p t : ByteArray} {pl : Nat} {sp : List (Int × Int)} (hs : mf p t pl = some sp) : FirstIs p t pl sp := by
  by_cases hx : ∃ sp, FirstIs p t pl sp
  · obtain ⟨s', h'⟩ := hx
    have := (h p t pl).1 s' h'
    rw [this] at hs
    cases hs
    exact h'
  · have := (h p t pl).2 (fun sp hsp => hx ⟨sp, hsp⟩)
    rw [this] at hs
    cases hs
theorem mf_ex : ∃ mf : Mf, MfOk mf := by
  have h : ∀ x : ByteArray × ByteArray × Nat, ∃ r : Option (List (Int × Int)), (∀ sp, FirstIs x.1 x.2.1 x.2.2 sp → r = some sp) ∧ ((∀ sp, ¬ FirstIs x.1 x.2.1 x.2.2 sp) → r = none) := fun x => by
    by_cases hx : ∃ sp, FirstIs x.1 x.2.1 x.2.2 sp
    · obtain ⟨sp, hsp⟩ := hx
      exact ⟨some sp, fun sp' h' => by rw [hsp.one h'], fun h' => absurd hsp (h' sp)⟩
    · exact ⟨none, fun sp' h' => absurd ⟨sp', h'⟩ hx, fun _ => rfl⟩
  obtain ⟨f, hf⟩ := Classical.axiomOfChoice h
  exact ⟨fun p t pl => f (p, t, pl), fun p t pl => hf (p, t, pl)⟩
def Pt (w : World) (t : ByteArray) (v0 v1 v2 : Value) : Prop :=
  ∃ nb cap : Nat, v0 = .slice (some ⟨nb, 0, none⟩) (treeOf t).1.l.length cap ∧ v1 = .int .i64 ((treeOf t).2 : Nat) ∧ v2 = .int .i64 (grps t : Nat) ∧ grps t ≤ 9 ∧ (treeOf t).2 < (treeOf t).1.l.length ∧ ∀ w', Below w.heap.size w w' → TreeIs w' nb (treeOf t).1.l (grps t)
theorem PatAt.pt {w : World} {lo hi : Nat} {t : ByteArray} {v0 v1 v2 : Value} (h : PatAt w lo hi t v0 v1 v2) (ht : t.size ≤ 40) : Pt w t v0 v1 v2 := by
  obtain ⟨h1, h2, h3⟩ := h
  obtain ⟨nb, cap, a1, a2, a3, a4, a5⟩ := h3 ht
  exact ⟨nb, cap, a1, a2, h1, h2, a4, fun w' hb => a5.2 w' (fun k _ hk => hb.block k (Nat.lt_of_lt_of_le hk a5.1)) (Nat.le_trans a5.1 hb.size)⟩
theorem Pt.below {w w' : World} {t : ByteArray} {v0 v1 v2 : Value} (h : Pt w t v0 v1 v2) (hb : Below w.heap.size w w') : Pt w' t v0 v1 v2 := by
  obtain ⟨nb, cap, a1, a2, a3, a4, a5, a6⟩ := h
  exact ⟨nb, cap, a1, a2, a3, a4, a5, fun w'' hb' => a6 w'' (hb.trans (hb'.mono hb.size))⟩
def Tb (w : World) (p t : ByteArray) (tb : Nat) : Prop := ∃ nb vb cap T m, TbAt w ⟨(treeOf p).1.l, t, (treeOf p).2, grps p, tb, nb, vb, cap⟩ (treeOf p).1.l.length T m ∧ (∀ a d, (treeOf p).1.l[a]? = some d → RowIs t (Mat t (treeOf p).1.l) d (m a) (T a)) ∧ (∀ a d, (treeOf p).1.l[a]? = some d → PNd a (grps p) d) ∧ grps p ≤ 9 ∧ (treeOf p).2 < (treeOf p).1.l.length
theorem Tb.below {w w' : World} {p t : ByteArray} {tb : Nat} (h : Tb w p t tb) (hb : Below w.heap.size w w') : Tb w' p t tb := by
  obtain ⟨nb, vb, cap, T, m, h1, h2⟩ := h
  exact ⟨nb, vb, cap, T, m, h1.below hb, h2⟩
theorem look_pt (p t : ByteArray) (v0 v1 v2 : Value) (w : World) (h : Pt w p v0 v1 v2) (ht : t.size ≤ 80) :
    Calls Tryz.prog 43 #[.agg #[v0, v1, v2], .string t] w fun e w' => ∃ tb, e = .returned (.pointer (some ⟨tb, 0, none⟩)) ∧ Tb w' p t tb ∧ Below w.heap.size w w' := by
  obtain ⟨nb, cap, rfl, rfl, rfl, h1, h2, h3⟩ := h
  refine (look_any t nb cap (treeOf p).2 (grps p) (treeOf p).1.l w (h3 w (Below.refl _ _)) ht).mono ?_
  rintro e w' ⟨tb, rfl, vb, T, m, a1, a2, a3⟩
  exact ⟨tb, rfl, ⟨nb, vb, cap, T, m, a1, a2, (h3 w (Below.refl _ _)).wf, h1, h2⟩, a3⟩
def SpAt (w : World) (r : Option (List (Int × Int))) (u : Value) (lo : Nat) : Prop :=
  match r with
  | none => u = .slice none 0 0
  | some sp => ∃ ob, u = .slice (some ⟨ob, 0, none⟩) sp.length sp.length ∧ lo ≤ ob ∧ OutAt w ob sp
theorem first_tb (mf : Mf) (hm : MfOk mf) (p t : ByteArray) (tb pl : Nat) (w : World) (h : Tb w p t tb) (hpl : pl ≤ t.size + 1) :
    Calls Tryz.prog 44 #[.pointer (some ⟨tb, 0, none⟩), .int .i64 pl] w fun e w' => Below w.heap.size w w' ∧ ∃ u, e = .returned u ∧ SpAt w' (mf p t pl) u w.heap.size := by
  obtain ⟨nb, vb, cap, T, m, h1, h2, h3, h4, h5⟩ := h
  refine (first_any ⟨(treeOf p).1.l, t, (treeOf p).2, grps p, tb, nb, vb, cap⟩ T m w h1 h2 h3 h4 h5 pl hpl).mono ?_
  rintro e w' ⟨hB, h6⟩
  refine ⟨hB, ?_⟩
  rcases h6 with ⟨rfl, h6⟩ | ⟨ob, i, j, c', rfl, a1, a2, a3, a4, a5⟩
  · refine ⟨_, rfl, ?_⟩
    have : mf p t pl = none := (hm p t pl).2 fun sp hsp => by
      obtain ⟨i, j, c, _, b1, _, _⟩ := hsp
      exact h6 i j b1.1 (Nat.le_trans b1.2.1 b1.2.2.1) b1.2.2.2.1
    rw [this]
    rfl
  · refine ⟨_, rfl, ?_⟩
    have : mf p t pl = some (((i : Int), (j : Int)) :: c') := (hm p t pl).1 _ ⟨i, j, c', rfl, a2, a4, a5⟩
    rw [this]
    refine ⟨ob, ?_, a1, a3⟩
    rw [List.length_cons, a4]
end Ee
end Go.Proofs.YtppjlpihaocdiaaGreatDoor
