/- The tree of words with bars between, in a bracket, as plain mathematics. -/
import Derived.Test.YtppjlpihaocdiaaStar
set_option linter.unusedVariables false
set_option linter.unusedSimpArgs false
namespace Go.Proofs.Ytppjlpihaocdiaa

/-- A letter of a word, as a node. -/
def letN (c : Nat) : Nd := leaf 0 (addR noSet c c)

/-- The bytes of a text from a place on. -/
def From (s : ByteArray) (i : Nat) (l : List Nat) : Prop := i + l.length = s.size ∧ ∀ (q c : Nat), l[q]? = some c → byt s (i + q) = c

theorem From.head {s : ByteArray} {i c : Nat} {l : List Nat} (h : From s i (c :: l)) : i < s.size ∧ byt s i = c ∧ From s (i + 1) l := by
  obtain ⟨h1, h2⟩ := h
  simp only [List.length_cons] at h1
  refine ⟨by omega, h2 0 c rfl, by omega, fun q c' hq => ?_⟩
  rw [Nat.add_assoc, Nat.add_comm 1 q]
  exact h2 (q + 1) c' hq

theorem From.skip {s : ByteArray} {i : Nat} : ∀ {l l' : List Nat}, From s i (l ++ l') → From s (i + l.length) l'
  | [], l', h => h
  | c :: l, l', h => by
    have := From.skip (i := i + 1) (l := l) (l' := l') h.head.2.2
    rw [List.length_cons, Nat.add_comm l.length 1, ← Nat.add_assoc]
    exact this

/-- Only letters a to d. -/
def Letters (w : List Nat) : Prop := ∀ c ∈ w, 97 ≤ c ∧ c ≤ 100

theorem starts_letter {s : ByteArray} {i c : Nat} (hi : i < s.size) (hb : byt s i = c) (hc : 97 ≤ c ∧ c ≤ 100) : startsP s i = true := by
  have : ¬ (inB noStart c = true) := by rw [inB_noStart]; omega
  unfold startsP
  rw [hb]
  simp [hi, this]

theorem starts_end {s : ByteArray} {i c : Nat} (hb : byt s i = c) (hc : c = 124 ∨ c = 41) : startsP s i = false := by
  have : inB noStart c = true := by rw [inB_noStart]; omega
  unfold startsP
  rw [hb]
  simp [this]

theorem part_letter {ch : PSt → PSt × Nat} {s : ByteArray} {i g c d : Nat} {l : List Nd} (hb : byt s i = c) (hc : 97 ≤ c ∧ c ≤ 100) (hi : i + 1 < s.size) (hd : byt s (i + 1) = d) (hdd : (97 ≤ d ∧ d ≤ 100) ∨ d = 124 ∨ d = 41) :
    partF ch s ⟨i, g, l⟩ = (⟨i + 1, g, l ++ [letN c]⟩, l.length) := by
  have h1 : oneF ch s ⟨i, g, l⟩ = (⟨i + 1, g, l ++ [letN c]⟩, l.length) := by
    rw [Tr.oneF_else (c := c) (by exact hb) (by omega) (by omega) (by omega) (by omega) (by omega) (by omega)]
    rfl
  rw [Tr.partF_eq h1, pk_in hi, hd]
  rw [if_neg (by omega), if_neg (by omega), if_neg (by omega), if_neg (by omega)]

/-- A word, letter by letter. -/
theorem wayL_word {ch : PSt → PSt × Nat} {s : ByteArray} {g e : Nat} {tail : List Nat} (he : e = 124 ∨ e = 41) : ∀ (rest : List Nat) (f i : Nat) (l : List Nd) (zs : List Nat), rest ≠ [] → rest.length ≤ f → Letters rest → From s i (rest ++ e :: tail) →
    wayL ch s f ⟨i, g, l⟩ zs = joinF 5 (zs ++ List.range' l.length rest.length) ⟨i + rest.length, g, l ++ rest.map letN⟩
  | [], _, _, _, _, h, _, _, _ => absurd rfl h
  | [c], f, i, l, zs, _, hf, hL, hF => by
    obtain ⟨f, rfl⟩ : ∃ f', f = f' + 1 := ⟨f - 1, by simp only [List.length_singleton] at hf; omega⟩
    obtain ⟨h1, h2, h3⟩ := hF.head
    obtain ⟨h4, h5, h6⟩ := From.head h3
    have hc := hL c (by simp)
    rw [wayL, part_letter h2 hc h4 h5 (.inr he)]
    simp only
    rw [if_neg (by rw [starts_end h5 he]; simp)]
    rfl
  | c :: c2 :: rest, f, i, l, zs, _, hf, hL, hF => by
    obtain ⟨f, rfl⟩ : ∃ f', f = f' + 1 := ⟨f - 1, by simp only [List.length_cons] at hf; omega⟩
    obtain ⟨h1, h2, h3⟩ := hF.head
    obtain ⟨h4, h5, h6⟩ := From.head h3
    have hc := hL c (by simp)
    have hc2 := hL c2 (by simp)
    rw [wayL, part_letter h2 hc h4 h5 (.inl hc2)]
    simp only
    rw [if_pos (starts_letter h4 h5 hc2)]
    rw [wayL_word he (c2 :: rest) f (i + 1) (l ++ [letN c]) (zs ++ [l.length]) (by simp) (by simp only [List.length_cons] at hf ⊢; omega) (fun x hx => hL x (List.mem_cons_of_mem _ hx)) h3]
    have e1 : zs ++ [l.length] ++ List.range' (l ++ [letN c]).length (c2 :: rest).length = zs ++ List.range' l.length (c :: c2 :: rest).length := by
      rw [List.append_assoc]
      congr 1
      simp only [List.length_append, List.length_singleton, List.length_cons]
      rw [List.range'_succ (s := l.length)]
      rfl
    have e2 : l ++ [letN c] ++ (c2 :: rest).map letN = l ++ (c :: c2 :: rest).map letN := by simp
    have e3 : i + 1 + (c2 :: rest).length = i + (c :: c2 :: rest).length := by simp only [List.length_cons]; omega
    rw [e1, e2, e3]

/-- A node is a word. -/
def IsWord (l : List Nd) (z : Nat) (w : List Nat) : Prop :=
  (∃ c, w = [c] ∧ l[z]? = some (letN c)) ∨ (∃ n, l[z]? = some (rowN 5 (List.range' n w.length)) ∧ ∀ (q c : Nat), w[q]? = some c → l[n + q]? = some (letN c))

theorem get_app {l l' : List Nd} {k : Nat} {d : Nd} (h : l[k]? = some d) : (l ++ l')[k]? = some d := by
  rw [List.getElem?_append_left (List.getElem?_eq_some_iff.1 h).1]; exact h

theorem IsWord.more {l l' : List Nd} {z : Nat} {w : List Nat} (h : IsWord l z w) : IsWord (l ++ l') z w := by
  rcases h with ⟨c, h1, h2⟩ | ⟨n, h1, h2⟩
  · exact .inl ⟨c, h1, get_app h2⟩
  · exact .inr ⟨n, get_app h1, fun q c hq => get_app (h2 q c hq)⟩

/-- A way that is a word. -/
theorem wayF_word {ch : PSt → PSt × Nat} {s : ByteArray} {g i e : Nat} {w tail : List Nat} (he : e = 124 ∨ e = 41) (l : List Nd) (hw : w ≠ []) (hL : Letters w) (hF : From s i (w ++ e :: tail)) :
    ∃ l2 z, wayF ch s ⟨i, g, l⟩ = (⟨i + w.length, g, l ++ l2⟩, z) ∧ IsWord (l ++ l2) z w := by
  have hlen : w.length ≤ s.size := by
    have := hF.1
    simp only [List.length_append, List.length_cons] at this
    omega
  have h := wayL_word (ch := ch) (g := g) he w s.size i l [] hw hlen hL hF
  rw [List.nil_append] at h
  cases w with
  | nil => exact absurd rfl hw
  | cons c w =>
    cases w with
    | nil =>
      refine ⟨[letN c], l.length, ?_, .inl ⟨c, rfl, by simp⟩⟩
      show wayL ch s s.size _ [] = _
      rw [h]
      rfl
    | cons c2 w =>
      refine ⟨(c :: c2 :: w).map letN ++ [rowN 5 (List.range' l.length (c :: c2 :: w).length)], (l ++ (c :: c2 :: w).map letN).length, ?_, .inr ⟨l.length, ?_, fun q x hq => ?_⟩⟩
      · show wayL ch s s.size _ [] = _
        rw [h, Tr.joinF_more (by simp)]
        simp [addN]
      · rw [← List.append_assoc]
        simp
      · rw [← List.append_assoc]
        refine get_app ?_
        rw [List.getElem?_append_right (by omega), Nat.add_sub_cancel_left, List.getElem?_map, hq]
        rfl

/-- Words with bars between. -/
def body : List (List Nat) → List Nat
  | [] => []
  | [w] => w
  | w :: ws => w ++ 124 :: body ws

/-- Word by word. -/
theorem choiceL_words {ch : PSt → PSt × Nat} {s : ByteArray} {g : Nat} : ∀ (ws : List (List Nat)) (f i : Nat) (l : List Nd) (zs : List Nat), ws ≠ [] → ws.length ≤ f → (∀ w ∈ ws, w ≠ [] ∧ Letters w) → From s i (body ws ++ [41]) →
    ∃ l2 ys, choiceL ch s f ⟨i, g, l⟩ zs = joinF 4 (zs ++ ys) ⟨i + (body ws).length, g, l ++ l2⟩ ∧ ys.length = ws.length ∧ ∀ (q : Nat) (w : List Nat), ws[q]? = some w → ∃ z, ys[q]? = some z ∧ IsWord (l ++ l2) z w
  | [], _, _, _, _, h, _, _, _ => absurd rfl h
  | [w], f, i, l, zs, _, hf, hW, hF => by
    obtain ⟨f, rfl⟩ : ∃ f', f = f' + 1 := ⟨f - 1, by simp only [List.length_singleton] at hf; omega⟩
    obtain ⟨hw, hL⟩ := hW w (by simp)
    obtain ⟨l2, z, h1, h2⟩ := wayF_word (ch := ch) (g := g) (e := 41) (tail := []) (.inr rfl) l hw hL hF
    have hF0 : From s i (w ++ [41]) := hF
    have h3 := (From.skip hF0).head
    refine ⟨l2, [z], ?_, rfl, fun q w' hq => ?_⟩
    · rw [choiceL, h1]
      simp only
      rw [if_neg (by rw [pk_in h3.1]; show ¬ ((byt s (i + w.length) : Int) = 124); rw [h3.2.1]; decide)]
      rfl
    · cases q with
      | zero => cases hq; exact ⟨z, rfl, h2⟩
      | succ q => cases hq
  | w :: w2 :: ws, f, i, l, zs, _, hf, hW, hF => by
    obtain ⟨f, rfl⟩ : ∃ f', f = f' + 1 := ⟨f - 1, by simp only [List.length_cons] at hf; omega⟩
    obtain ⟨hw, hL⟩ := hW w (by simp)
    have hF' : From s i (w ++ 124 :: (body (w2 :: ws) ++ [41])) := by
      have e : body (w :: w2 :: ws) ++ [41] = w ++ 124 :: (body (w2 :: ws) ++ [41]) := by simp [body]
      rw [e] at hF
      exact hF
    obtain ⟨l2, z, h1, h2⟩ := wayF_word (ch := ch) (g := g) (e := 124) (.inl rfl) l hw hL hF'
    have h3 := (From.skip hF').head
    obtain ⟨l3, ys, h4, h5, h6⟩ := choiceL_words (ch := ch) (g := g) (w2 :: ws) f (i + w.length + 1) (l ++ l2) (zs ++ [z]) (by simp) (by simp only [List.length_cons] at hf ⊢; omega) (fun x hx => hW x (List.mem_cons_of_mem _ hx)) h3.2.2
    refine ⟨l2 ++ l3, z :: ys, ?_, by simp only [List.length_cons] at h5 ⊢; omega, fun q w' hq => ?_⟩
    · rw [choiceL, h1]
      simp only
      rw [if_pos (by rw [pk_in h3.1]; show ((byt s (i + w.length) : Int) = 124); rw [h3.2.1]; rfl), h4]
      have e : i + w.length + 1 + (body (w2 :: ws)).length = i + (body (w :: w2 :: ws)).length := by
        simp [body]; omega
      rw [e]
      simp
    · cases q with
      | zero => cases hq; exact ⟨z, rfl, by rw [← List.append_assoc]; exact h2.more⟩
      | succ q =>
        obtain ⟨y, hy, hI⟩ := h6 q w' hq
        exact ⟨y, hy, by rw [← List.append_assoc]; exact hI⟩

/-- The tree of words in a bracket. -/
theorem tree_words {s : ByteArray} {ws : List (List Nat)} (hne : ws ≠ []) (hW : ∀ w ∈ ws, w ≠ [] ∧ Letters w) (hF : From s 0 (40 :: (body ws ++ [41]))) (hlen : ws.length ≤ s.size) :
    ∃ l ys r, treeOf s = (⟨s.size, 1, l⟩, r) ∧ (∃ z, l[r]? = some (grpN z 0) ∧ ((∃ y, ys = [y] ∧ z = y) ∨ (2 ≤ ys.length ∧ l[z]? = some (rowN 4 ys)))) ∧ ys.length = ws.length ∧ ∀ (q : Nat) (w : List Nat), ws[q]? = some w → ∃ z, ys[q]? = some z ∧ IsWord l z w := by
  obtain ⟨h1, h2, h3⟩ := hF.head
  obtain ⟨l2, ys, h4, h5, h6⟩ := choiceL_words (ch := choiceN s 39) (g := 1) ws s.size 1 [] [] hne hlen hW h3
  have h7 := (From.skip h3).head
  have hsz : s.size = 1 + (body ws).length + 1 := by
    have := h3.1
    simp only [List.length_append, List.length_singleton] at this
    omega
  rw [List.nil_append, List.nil_append] at h4
  -- what the inner choice reads
  obtain ⟨l3, z, hz1, hz2⟩ : ∃ l3 z, choiceN s 40 ⟨1, 1, []⟩ = (⟨1 + (body ws).length, 1, l2 ++ l3⟩, z) ∧ ((∃ y, ys = [y] ∧ z = y) ∨ (2 ≤ ys.length ∧ (l2 ++ l3)[z]? = some (rowN 4 ys))) := by
    have e : choiceN s 40 ⟨1, 1, []⟩ = joinF 4 ys ⟨1 + (body ws).length, 1, l2⟩ := h4
    cases ys with
    | nil =>
      simp only [List.length_nil] at h5
      cases ws with
      | nil => exact absurd rfl hne
      | cons a b => simp at h5
    | cons y ys =>
      cases ys with
      | nil => exact ⟨[], y, by rw [e]; simp [joinF], .inl ⟨y, rfl, rfl⟩⟩
      | cons y2 ys =>
        refine ⟨[rowN 4 (y :: y2 :: ys)], l2.length, ?_, .inr ⟨by simp, by simp⟩⟩
        rw [e, Tr.joinF_more (by simp)]
        rfl
  have hone : oneF (choiceN s 40) s ⟨0, 0, []⟩ = (⟨s.size, 1, l2 ++ l3 ++ [grpN z 0]⟩, (l2 ++ l3).length) := by
    rw [Tr.oneF_40 (by exact h2)]
    show addN (choiceN s 40 ⟨1, 1, []⟩).1 _ _ = _
    rw [hz1, hsz]
    rfl
  have hend : pk s s.size = -1 := pk_out (by omega)
  have hpart : partF (choiceN s 40) s ⟨0, 0, []⟩ = (⟨s.size, 1, l2 ++ l3 ++ [grpN z 0]⟩, (l2 ++ l3).length) := by
    rw [Tr.partF_eq hone, hend]
    rfl
  have hst : startsP s s.size = false := by unfold startsP; simp
  have hway : wayF (choiceN s 40) s ⟨0, 0, []⟩ = (⟨s.size, 1, l2 ++ l3 ++ [grpN z 0]⟩, (l2 ++ l3).length) := by
    show wayL (choiceN s 40) s s.size ⟨0, 0, []⟩ [] = _
    rw [show s.size = (s.size - 1) + 1 by omega, wayL, hpart]
    simp only
    rw [if_neg (by rw [hst]; simp)]
    rw [show s.size - 1 + 1 = s.size by omega]
    rfl
  refine ⟨l2 ++ l3 ++ [grpN z 0], ys, (l2 ++ l3).length, ?_, ⟨z, by simp, hz2.imp id fun h => ⟨h.1, get_app h.2⟩⟩, h5, fun q w hq => ?_⟩
  · show choiceL (choiceN s 40) s s.size ⟨0, 0, []⟩ [] = _
    rw [show s.size = (s.size - 1) + 1 by omega, choiceL, hway]
    simp only
    rw [if_neg (by rw [hend]; decide)]
    rw [show s.size - 1 + 1 = s.size by omega]
    rfl
  · obtain ⟨y, hy, hI⟩ := h6 q w hq
    rw [List.nil_append] at hI
    exact ⟨y, hy, hI.more.more⟩

/-- The walk over a word. -/
theorem run_word {s : ByteArray} {o a l : Nat} : ∀ (w tail : List Nat) (i m : Nat), m ≤ 1 → w ≠ [] → Letters w → From s i (w ++ tail) → run s i = some ⟨m, o, a, l⟩ → run s (i + w.length) = some ⟨1, o, a, l⟩
  | [], _, _, _, _, h, _, _, _ => absurd rfl h
  | c :: w, tail, i, m, hm, _, hL, hF, hr => by
    obtain ⟨h1, h2, h3⟩ := hF.head
    have hc := hL c (by simp)
    have hns : inB noStart c = false := by
      have : ¬ (inB noStart c = true) := by rw [inB_noStart]; omega
      simpa using this
    have h4 : run s (i + 1) = some ⟨1, o, a, l⟩ := by
      rw [run_succ hr, h2, Tr.step_low (by simp only; omega) hns, Tr.begins_plain hns (by omega) (by omega) (by omega)]
    cases w with
    | nil => exact h4
    | cons c2 w =>
      have := run_word (c2 :: w) tail (i + 1) 1 (Nat.le_refl _) (by simp) (fun x hx => hL x (List.mem_cons_of_mem _ hx)) h3 h4
      rw [show i + (c :: c2 :: w).length = i + 1 + (c2 :: w).length by simp only [List.length_cons]; omega]
      exact this

/-- The walk over words with bars between. -/
theorem run_words {s : ByteArray} {o a l : Nat} : ∀ (ws : List (List Nat)) (i : Nat), ws ≠ [] → (∀ w ∈ ws, w ≠ [] ∧ Letters w) → From s i (body ws ++ [41]) → run s i = some ⟨0, o, a, l⟩ → run s (i + (body ws).length) = some ⟨1, o, a, l⟩
  | [], _, h, _, _, _ => absurd rfl h
  | [w], i, _, hW, hF, hr => run_word w [41] i 0 (by omega) (hW w (by simp)).1 (hW w (by simp)).2 hF hr
  | w :: w2 :: ws, i, _, hW, hF, hr => by
    have hF' : From s i (w ++ 124 :: (body (w2 :: ws) ++ [41])) := by
      have e : body (w :: w2 :: ws) ++ [41] = w ++ 124 :: (body (w2 :: ws) ++ [41]) := by simp [body]
      rw [e] at hF
      exact hF
    have h1 := run_word w _ i 0 (by omega) (hW w (by simp)).1 (hW w (by simp)).2 hF' hr
    obtain ⟨h2, h3, h4⟩ := (From.skip hF').head
    have h5 : run s (i + w.length + 1) = some ⟨0, o, a, l⟩ := by
      rw [run_succ h1, h3]
      exact Tr.step_bar (.inl rfl)
    have := run_words (w2 :: ws) (i + w.length + 1) (by simp) (fun x hx => hW x (List.mem_cons_of_mem _ hx)) h4 h5
    rw [show i + (body (w :: w2 :: ws)).length = i + w.length + 1 + (body (w2 :: ws)).length by simp [body]; omega]
    exact this

theorem whole_words {s : ByteArray} {ws : List (List Nat)} (hne : ws ≠ []) (hW : ∀ w ∈ ws, w ≠ [] ∧ Letters w) (hF : From s 0 (40 :: (body ws ++ [41]))) : Wholly s := by
  obtain ⟨h1, h2, h3⟩ := hF.head
  have r1 : run s 1 = some ⟨0, 1, 1, 0⟩ := by
    rw [run_succ (st := ⟨0, 0, 0, 0⟩) rfl, h2]
    rfl
  have r2 := run_words ws 1 hne hW h3 r1
  obtain ⟨h4, h5, h6⟩ := (From.skip h3).head
  have r3 : run s (1 + (body ws).length + 1) = some ⟨1, 0, 1, 0⟩ := by
    rw [run_succ r2, show byt s (1 + (body ws).length) = 41 from h5, Tr.step_close (s := s) (.inl rfl) (by simp)]
    all_goals rfl
  have hsz : s.size = 1 + (body ws).length + 1 := by
    have := h3.1
    simp only [List.length_append, List.length_singleton] at this
    omega
  exact ⟨⟨1, 0, 1, 0⟩, by rw [hsz]; exact r3, rfl⟩

/-- A word stands at a place of a text. -/
def Stands (s : ByteArray) (w : List Nat) (i : Nat) : Prop := i + w.length ≤ s.size ∧ ∀ (q c : Nat), w[q]? = some c → byt s (i + q) = c

theorem addR_one (c x : Nat) : addR noSet c c x = true ↔ x = c := by
  unfold addR noSet
  simp
  omega

theorem Stands.cons {s : ByteArray} {c i : Nat} {w : List Nat} : Stands s (c :: w) i ↔ (i < s.size ∧ byt s i = c ∧ Stands s w (i + 1)) := by
  constructor
  · rintro ⟨h1, h2⟩
    simp only [List.length_cons] at h1
    refine ⟨by omega, h2 0 c rfl, by omega, fun q c' hq => ?_⟩
    rw [Nat.add_assoc, Nat.add_comm 1 q]
    exact h2 (q + 1) c' hq
  · rintro ⟨h1, h2, h3, h4⟩
    refine ⟨by simp only [List.length_cons]; omega, fun q c' hq => ?_⟩
    cases q with
    | zero => cases hq; exact h2
    | succ q =>
      rw [show i + (q + 1) = i + 1 + q by omega]
      exact h4 q c' hq

section
variable {t : ByteArray} {nodes : List Nd} {g : Nat}

theorem chain_word (hP : ∀ (a : Nat) (d : Nd), nodes[a]? = some d → PNd a g d) : ∀ (w : List Nat) (n i j : Nat), (∀ (q c : Nat), w[q]? = some c → nodes[n + q]? = some (letN c)) → i ≤ t.size →
    (Chain ((List.range' n w.length).map (Mat t nodes)) i j ↔ (Stands t w i ∧ j = i + w.length))
  | [], n, i, j, _, hi => by
    show (i = j) ↔ _
    constructor
    · rintro rfl; exact ⟨⟨by simpa using hi, fun q c hq => by cases hq⟩, rfl⟩
    · rintro ⟨_, h⟩; simpa using h.symm
  | c :: w, n, i, j, hN, hi => by
    have e : (List.range' n (c :: w).length).map (Mat t nodes) = Mat t nodes n :: (List.range' (n + 1) w.length).map (Mat t nodes) := by
      rw [List.length_cons, List.range'_succ, List.map_cons]
    rw [e]
    have h0 := Mat_leaf (s := t) (n := n) (S := addR noSet c c) hP (hN 0 c rfl)
    have ih := fun m hm => chain_word hP w (n + 1) m j (fun q c' hq => by
      rw [Nat.add_assoc, Nat.add_comm 1 q]
      exact hN (q + 1) c' hq) hm
    show (∃ m, Mat t nodes n i m ∧ _) ↔ _
    rw [Stands.cons]
    constructor
    · rintro ⟨m, h1, h2⟩
      obtain ⟨a1, a2, rfl⟩ := (h0 i m).1 h1
      obtain ⟨b1, b2⟩ := (ih (i + 1) (by omega)).1 h2
      exact ⟨⟨a1, (addR_one c _).1 a2, b1⟩, by rw [b2]; simp only [List.length_cons]; omega⟩
    · rintro ⟨⟨a1, a2, a3⟩, a4⟩
      exact ⟨i + 1, (h0 i (i + 1)).2 ⟨a1, (addR_one c _).2 a2, rfl⟩, (ih (i + 1) (by omega)).2 ⟨a3, by rw [a4]; simp only [List.length_cons]; omega⟩⟩

theorem Mat_word (hP : ∀ (a : Nat) (d : Nd), nodes[a]? = some d → PNd a g d) {z : Nat} {w : List Nat} (h : IsWord nodes z w) (i j : Nat) (hi : i ≤ t.size) : Mat t nodes z i j ↔ (Stands t w i ∧ j = i + w.length) := by
  rcases h with ⟨c, rfl, h⟩ | ⟨n, h1, h2⟩
  · rw [Mat_leaf (S := addR noSet c c) hP h, Stands.cons, addR_one]
    constructor
    · rintro ⟨a, b, c⟩; exact ⟨⟨a, b, ⟨by simp; omega, fun q c hq => by cases hq⟩⟩, c⟩
    · rintro ⟨⟨a, b, _⟩, c⟩; exact ⟨a, b, c⟩
  · rw [Mat_eq (P_wf hP) h1]
    exact chain_word hP w n i j h2 hi

theorem rowG_id {m : Nat → Nat → Nat → Prop} {gg : Nat → Nat → Nat → Caps → Caps → Prop} : ∀ {l : List Nat}, (∀ x ∈ l, ∀ i j c c', gg x i j c c' → c' = c) → ∀ {i j : Nat} {c c' : Caps}, rowG m gg l i j c c' → c' = c
  | [], _, _, _, _, _, h => h
  | x :: l, hg, i, j, c, c', h => by
    obtain ⟨t, c1, _, h1, h2⟩ := h
    rw [rowG_id (fun y hy => hg y (List.mem_cons_of_mem _ hy)) h2, hg x (by simp) _ _ _ _ h1]

theorem altG_id {m : Nat → Nat → Nat → Prop} {gg : Nat → Nat → Nat → Caps → Caps → Prop} : ∀ {l : List Nat}, (∀ x ∈ l, ∀ i j c c', gg x i j c c' → c' = c) → ∀ {i j : Nat} {c c' : Caps}, altG m gg l i j c c' → c' = c
  | [], _, _, _, _, _, h => h
  | x :: l, hg, i, j, c, c', h => by
    rcases h with ⟨_, h⟩ | ⟨_, h⟩
    · exact hg x (by simp) _ _ _ _ h
    · exact altG_id (fun y hy => hg y (List.mem_cons_of_mem _ hy)) h

theorem G_word (hP : ∀ (a : Nat) (d : Nd), nodes[a]? = some d → PNd a g d) {z : Nat} {w : List Nat} (h : IsWord nodes z w) {i j : Nat} {c c' : Caps} (hG : PGv t nodes z i j c c') : c' = c := by
  rcases h with ⟨x, rfl, h⟩ | ⟨n, h1, h2⟩
  · exact G_leaf hP (Nat.zero_le _) h hG
  · rw [PGv_eq (P_wf hP) (P_h3 hP) h1] at hG
    refine rowG_id (fun x hx i j c c' h => ?_) hG
    have hx' : x ∈ List.range' n w.length := hx
    obtain ⟨k, hk, rfl⟩ := List.mem_range'.1 hx'
    obtain ⟨y, hy⟩ : ∃ y, w[k]? = some y := ⟨_, List.getElem?_eq_getElem hk⟩
    rw [Nat.one_mul] at h
    exact G_leaf hP (Nat.zero_le _) (h2 k y hy) h
end

/-- What 'Match' answers for words in a bracket. -/
theorem words_match {pt s : ByteArray} {ws : List (List Nat)} {w' : World} {v : Value} {ec : Int} (hne : ws ≠ []) (hW : ∀ w ∈ ws, w ≠ [] ∧ Letters w) (hF : From pt 0 (40 :: (body ws ++ [41]))) (hlen : ws.length ≤ pt.size) (hp : pt.size ≤ 40) (hs : s.size ≤ 80) (h : MatchIs pt s w' v ec) :
    ec = 0 ∧ ((v = .slice none 0 0 ∧ ∀ i, i ≤ s.size → ∀ w ∈ ws, ¬ Stands s w i) ∨
      ∃ i n : Nat, TwoAre w' v i ((i + n : Nat) : Int) i ((i + n : Nat) : Int) ∧ (∃ w ∈ ws, Stands s w i ∧ w.length = n) ∧ (∀ i', i' < i → ∀ w ∈ ws, ¬ Stands s w i') ∧ ∀ w ∈ ws, Stands s w i → w.length ≤ n) := by
  obtain ⟨l, ys, r, ht, ⟨z, hz, hzz⟩, hl, hq⟩ := tree_words hne hW hF hlen
  obtain ⟨h0, hP, hR⟩ := h.good hp hs (whole_words hne hW hF) ht
  have hmem : ∀ w ∈ ws, ∃ y ∈ ys, IsWord l y w := fun w hw => by
    obtain ⟨q, hqw⟩ := List.mem_iff_getElem?.1 hw
    obtain ⟨y, hy, hI⟩ := hq q w hqw
    exact ⟨y, List.mem_of_getElem? hy, hI⟩
  have hmem2 : ∀ y ∈ ys, ∃ w ∈ ws, IsWord l y w := fun y hy => by
    obtain ⟨q, hqy⟩ := List.mem_iff_getElem?.1 hy
    have hlt : q < ws.length := by rw [← hl]; exact (List.getElem?_eq_some_iff.1 hqy).1
    obtain ⟨y', hy', hI⟩ := hq q _ (List.getElem?_eq_getElem hlt)
    rw [hqy] at hy'
    cases hy'
    exact ⟨_, List.getElem_mem hlt, hI⟩
  have hm : ∀ i j, i ≤ s.size → (Mat s l r i j ↔ ∃ w ∈ ws, Stands s w i ∧ j = i + w.length) := fun i j hi => by
    rw [Mat_grp hP hz]
    have hk : Mat s l z i j ↔ ∃ y ∈ ys, Mat s l y i j := by
      rcases hzz with ⟨y, rfl, rfl⟩ | ⟨_, hz4⟩
      · simp
      · rw [Mat_eq (P_wf hP) hz4]; exact Iff.rfl
    rw [hk]
    constructor
    · rintro ⟨y, hy, h⟩
      obtain ⟨w, hw, hI⟩ := hmem2 y hy
      exact ⟨w, hw, (Mat_word hP hI i j hi).1 h⟩
    · rintro ⟨w, hw, h⟩
      obtain ⟨y, hy, hI⟩ := hmem w hw
      exact ⟨y, hy, (Mat_word hP hI i j hi).2 h⟩
  refine ⟨h0, ?_⟩
  rcases hR with ⟨hv, hno⟩ | ⟨ob, i, j, c', hv, hB, hO, hl2, hG⟩
  · exact .inl ⟨hv, fun i hi w hw hS => hno i (i + w.length) hi ((hm i _ hi).2 ⟨w, hw, hS, rfl⟩)⟩
  · obtain ⟨b1, b2, b3, b4, b5, b6⟩ := hB
    have his : i ≤ s.size := by omega
    obtain ⟨w, hw, hS, rfl⟩ := (hm i j his).1 b4
    refine .inr ⟨i, w.length, ⟨ob, hv, ?_⟩, ⟨w, hw, hS, rfl⟩, fun i' hi' w2 hw2 hS2 => b5 i' (i' + w2.length) (Nat.zero_le _) hi' ((hm i' _ (by omega)).2 ⟨w2, hw2, hS2, rfl⟩), fun w2 hw2 hS2 => ?_⟩
    · have g1 := G_grp hP hz hG
      have : c' = (noCaps 1).set 0 ((i : Int), ((i + w.length : Nat) : Int)) := by
        rcases hzz with ⟨y, rfl, rfl⟩ | ⟨_, hz4⟩
        · obtain ⟨w3, _, hI⟩ := hmem2 z (by simp)
          exact G_word hP hI g1
        · rw [PGv_eq (P_wf hP) (P_h3 hP) hz4] at g1
          exact altG_id (fun x hx i j c c' h => by
            obtain ⟨w3, _, hI⟩ := hmem2 x hx
            exact G_word hP hI h) g1
      rw [this] at hO
      exact hO
    · rcases Nat.lt_or_ge w.length w2.length with h | h
      · exact absurd ((hm i _ his).2 ⟨w2, hw2, hS2, rfl⟩) (b6 (i + w2.length) (by omega))
      · exact h
end Go.Proofs.Ytppjlpihaocdiaa
