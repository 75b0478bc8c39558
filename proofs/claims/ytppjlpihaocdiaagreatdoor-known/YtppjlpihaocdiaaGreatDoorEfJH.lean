/- Several texts in one. -/
import Derived.Scope
/- A part of the proof. -/
set_option linter.unusedVariables false
namespace Go.Proofs.YtppjlpihaocdiaaGreatDoor
namespace Ee
def jumpM (L : Nat → Prop) (J : Nat → Act → World → Prop) (Q : Exit → Act → World → Prop) : Exit → Act → World → Prop
  | .goto l, a, w => L l ∧ J l a w
  | e, a, w => Q e a w
section
variable {P : Program} {a : Act} {w : World} {Q : Exit → Act → World → Prop}
end
end Ee
end Go.Proofs.YtppjlpihaocdiaaGreatDoor

/- A part of the proof. -/
set_option linter.unusedVariables false
namespace Go.Proofs.YtppjlpihaocdiaaGreatDoor
namespace Ee
section
variable {P : Program} {a : Act} {w : World} {Q : Exit → Act → World → Prop}
theorem jumpM_mono {L : Nat → Prop} {J J' : Nat → Act → World → Prop} (h : ∀ l a w, J l a w → J' l a w) : ∀ (e : Exit) (a : Act) (w : World), jumpM L J Q e a w → jumpM L J' Q e a w := fun e a w hq => by
  cases e <;> first | exact hq | exact ⟨hq.1, h _ _ _ hq.2⟩
theorem wp_scope_ghost {c : Code} (rest : Nat → Code) (L : Nat → Prop) (J : Nat → Nat → Act → World → Prop) (hf : ∀ l, L l → findLabel c l = some (rest l))
    (first : c.wp P (jumpM L (fun l a w => ∃ n, J l n a w) Q) a w)
    (pass : ∀ l n a w, L l → J l n a w → (rest l).wp P (jumpM L (fun l' a' w' => ∃ n', n' < n ∧ J l' n' a' w') Q) a w) : (Code.scope c).wp P Q a w := by
  intro b k cs
  have hg : ∀ l, L l → gotoIn l (.inScope c :: k) = some (.code (rest l) :: .inScope c :: k) := fun l hl => by simp [gotoIn, hf l hl]
  have key : ∀ n l a w, L l → J l n a w → ∃ e a' w', Q e a' w' ∧ Arrives P (lone (b.at a (.code (rest l) :: .inScope c :: k)) cs w) b k cs e a' w' := by
    intro n
    induction n using Nat.strongRecOn with
    | _ n ih =>
      intro l a w hl hJ
      obtain ⟨e, a₁, w₁, hq, harr⟩ := pass l n a w hl hJ b (.inScope c :: k) cs
      cases e with
      | normal => exact ⟨.normal, a₁, w₁, hq, Steps.trans harr (.one step_inScope)⟩
      | exit id => exact ⟨.exit id, a₁, w₁, hq, fun k' hk => harr k' (by simp [exitTo, hk])⟩
      | goto l' =>
        obtain ⟨hl', n', hlt, hJ'⟩ := hq
        obtain ⟨e₂, a₂, w₂, hq₂, harr₂⟩ := ih n' hlt l' a₁ w₁ hl' hJ'
        exact ⟨e₂, a₂, w₂, hq₂, .of_steps (harr _ (hg l' hl')) harr₂⟩
      | ret => exact ⟨_, a₁, w₁, hq, harr⟩
      | panic ch => exact ⟨_, a₁, w₁, hq, harr⟩
      | outgrown => exact ⟨_, a₁, w₁, hq, harr⟩
  obtain ⟨e, a₁, w₁, hq, harr⟩ := first b (.inScope c :: k) cs
  cases e with
  | normal => exact ⟨.normal, a₁, w₁, hq, .head step_scope (Steps.trans harr (.one step_inScope))⟩
  | exit id => exact ⟨.exit id, a₁, w₁, hq, fun k' hk => .head step_scope (harr k' (by simp [exitTo, hk]))⟩
  | goto l' =>
    obtain ⟨hl', n, hJ'⟩ := hq
    obtain ⟨e₂, a₂, w₂, hq₂, harr₂⟩ := key n l' a₁ w₁ hl' hJ'
    exact ⟨e₂, a₂, w₂, hq₂, .of_steps (.head step_scope (harr _ (hg l' hl'))) harr₂⟩
  | ret => exact ⟨_, a₁, w₁, hq, .of_steps (.one step_scope) harr⟩
  | panic ch => exact ⟨_, a₁, w₁, hq, .of_steps (.one step_scope) harr⟩
  | outgrown => exact ⟨_, a₁, w₁, hq, .of_steps (.one step_scope) harr⟩
def jmp (J : Nat → Nat → Act → World → Prop) (N : Nat) (Q : Exit → Act → World → Prop) : Exit → Act → World → Prop := jumpM (fun l => l ≤ 5) (fun l a w => ∃ n, n < N ∧ J l n a w) Q
def Sb (P : Program) (J : Nat → Nat → Act → World → Prop) (Q : Exit → Act → World → Prop) (l : Nat) (b : Code) : Prop := ∀ N n a w, n ≤ N → J l n a w → b.wp P (jmp J N Q) a w
theorem wp_scope_six {c b0 b1 b2 b3 b4 b5 : Code} (J : Nat → Nat → Act → World → Prop) (hf0 : findLabel c 0 = some (.seq .skip b0)) (hf1 : findLabel c 1 = some (.seq .skip b1)) (hf2 : findLabel c 2 = some (.seq .skip b2)) (hf3 : findLabel c 3 = some (.seq .skip b3)) (hf4 : findLabel c 4 = some (.seq .skip b4)) (hf5 : findLabel c 5 = some (.seq .skip b5))
    (s5 : Sb P J Q 5 b5) (s3 : Sb P J Q 5 b5 → Sb P J Q 3 b3) (s0 : Sb P J Q 3 b3 → Sb P J Q 0 b0) (s4 : Sb P J Q 0 b0 → Sb P J Q 4 b4) (s2 : Sb P J Q 4 b4 → Sb P J Q 2 b2) (s1 : Sb P J Q 2 b2 → Sb P J Q 1 b1)
    (first : (∀ n a w, J 1 n a w → b1.wp P (jumpM (fun l => l ≤ 5) (fun l a w => ∃ n, J l n a w) Q) a w) → c.wp P (jumpM (fun l => l ≤ 5) (fun l a w => ∃ n, J l n a w) Q) a w) : (Code.scope c).wp P Q a w := by
  have t5 := s5
  have t3 := s3 t5
  have t0 := s0 t3
  have t4 := s4 t0
  have t2 := s2 t4
  have t1 := s1 t2
  have skip : ∀ {b : Code} {Q' : Exit → Act → World → Prop} {a : Act} {w : World}, b.wp P Q' a w → (Code.seq .skip b).wp P Q' a w := fun h => wp_seq (wp_skip h)
  refine wp_scope_ghost (fun l => if l = 0 then .seq .skip b0 else if l = 1 then .seq .skip b1 else if l = 2 then .seq .skip b2 else if l = 3 then .seq .skip b3 else if l = 4 then .seq .skip b4 else .seq .skip b5) (fun l => l ≤ 5) J ?_ (first fun n a w h => Code.wp_mono (jumpM_mono fun l a w ⟨n', _, hj⟩ => ⟨n', hj⟩) (t1 n n a w (Nat.le_refl _) h)) ?_
  · intro l hl
    rcases (by omega : l = 0 ∨ l = 1 ∨ l = 2 ∨ l = 3 ∨ l = 4 ∨ l = 5) with rfl | rfl | rfl | rfl | rfl | rfl
    · exact hf0
    · exact hf1
    · exact hf2
    · exact hf3
    · exact hf4
    · exact hf5
  · intro l n a w hl hJ
    rcases (by omega : l = 0 ∨ l = 1 ∨ l = 2 ∨ l = 3 ∨ l = 4 ∨ l = 5) with rfl | rfl | rfl | rfl | rfl | rfl
    · exact skip (t0 n n a w (Nat.le_refl _) hJ)
    · exact skip (t1 n n a w (Nat.le_refl _) hJ)
    · exact skip (t2 n n a w (Nat.le_refl _) hJ)
    · exact skip (t3 n n a w (Nat.le_refl _) hJ)
    · exact skip (t4 n n a w (Nat.le_refl _) hJ)
    · exact skip (t5 n n a w (Nat.le_refl _) hJ)
end
end Ee
end Go.Proofs.YtppjlpihaocdiaaGreatDoor

