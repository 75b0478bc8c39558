/- Several texts in one. -/
import Derived.Test.YtppjlpihaocdiaaGreatDoorEdPH
import Derived.Test.YtppjlpihaocdiaaGreatDoorPsFH
/- A part of the proof. -/
set_option linter.unusedSimpArgs false
set_option linter.unusedVariables false
namespace Go.Proofs.YtppjlpihaocdiaaGreatDoor
namespace Ee
open Rs
structure CmB (lg : Int) (n : Nat) (x : Cm) : Prop where
  p1 : lg = -1 → x.fst.sort = 3 → x.fst.pat.size ≤ 40
  p2 : lg = -1 → x.snd.sort = 3 → x.snd.pat.size ≤ 40
  p3 : lg = -1 → x.kind = 19 → x.pat.size ≤ 40
  tm : x.kind = 19 → ∀ p ∈ x.temp, (p.grp = -1 ∧ p.byte < 256) ∨ (0 ≤ p.grp ∧ p.grp ≤ grps x.pat)
  tl : x.temp.length ≤ 400
  yy : x.kind = 20 → x.frm.size = x.too.size
  ys : x.frm.size ≤ 400
  tx : x.text.size ≤ 400
  gl : x.goal ≤ n
  nu : x.num ≤ 9
structure Cv (s : ByteArray) (p : RSt) : Prop where
  cm : ∀ x ∈ p.cmds, CmB p.long p.cmds.length x
  lb : ∀ l ∈ p.labs, l.cmd ≤ p.cmds.length
  ln : p.cmds.length ≤ p.at'
  ls : p.cmds.length ≤ s.size
theorem CmB.more {lg lg' : Int} {n n' : Nat} {x : Cm} (h : CmB lg n x) (hl : lg' = -1 → lg = -1) (hn : n ≤ n') : CmB lg' n' x :=
  ⟨fun e => h.p1 (hl e), fun e => h.p2 (hl e), fun e => h.p3 (hl e), h.tm, h.tl, h.yy, h.ys, h.tx, Nat.le_trans h.gl hn, h.nu⟩
theorem Cv.more {s : ByteArray} {p : RSt} (h : Cv s p) {i o : Nat} {lg : Int} (hi : p.at' ≤ i) (hl : lg = -1 → p.long = -1) : Cv s ⟨i, o, p.cmds, p.labs, lg⟩ :=
  ⟨fun x hx => (h.cm x hx).more hl (Nat.le_refl _), h.lb, Nat.le_trans h.ln hi, h.ls⟩
theorem Cv.add {s : ByteArray} {p : RSt} (h : Cv s p) {c : Cm} {i o : Nat} {lg : Int} {labs : List Lab} (hc : CmB lg (p.cmds.length + 1) c) (hi : p.at' + 1 ≤ i) (hs : p.at' < s.size) (hl : lg = -1 → p.long = -1) (hlb : ∀ l ∈ labs, l ∈ p.labs ∨ l.cmd ≤ p.cmds.length) : Cv s ⟨i, o, p.cmds ++ [c], labs, lg⟩ := by
  have e : (p.cmds ++ [c]).length = p.cmds.length + 1 := by simp
  refine ⟨fun x hx => ?_, fun l hl' => ?_, ?_, ?_⟩
  · rw [e]
    rcases List.mem_append.1 hx with hx | hx
    · exact (h.cm x hx).more hl (by omega)
    · have : x = c := by simpa using hx
      subst this
      exact hc
  · rw [e]
    rcases hlb l hl' with hh | hh
    · have := h.lb l hh; omega
    · omega
  · rw [e]; have := h.ln; show p.cmds.length + 1 ≤ i; omega
  · rw [e]; have := h.ln; omega
theorem patF_long (s : ByteArray) (i : Nat) (lg : Int) : ((patF s i lg).2.2.1 = -1 → lg = -1) ∧ ((patF s i lg).2.2.2 = true → (patF s i lg).2.2.1 = -1 → (patF s i lg).2.1.size ≤ 40) := by
  unfold patF
  simp only
  cases failAt (s.extract i (slash s i)) with
  | some j => exact ⟨fun e => e, fun e => by cases e⟩
  | none =>
    simp only
    have key : (if 40 < (s.extract i (slash s i)).size ∧ lg = -1 then (i : Int) else lg) = -1 → lg = -1 ∧ (s.extract i (slash s i)).size ≤ 40 := by
      intro e
      split at e
      · omega
      · rename_i hn
        refine ⟨e, ?_⟩
        rcases Nat.lt_or_ge 40 (s.extract i (slash s i)).size with h | h
        · exact absurd ⟨h, e⟩ hn
        · exact h
    split
    · exact ⟨fun e => (key e).1, fun _ e => (key e).2⟩
    · exact ⟨fun e => (key e).1, fun e => by cases e⟩
theorem whereF_long (s : ByteArray) (i : Nat) (lg : Int) : ((whereF s i lg).2.2.1 = -1 → lg = -1) ∧ ((whereF s i lg).2.2.2 = true → (whereF s i lg).2.2.1 = -1 → (whereF s i lg).2.1.sort = 3 → (whereF s i lg).2.1.pat.size ≤ 40) := by
  unfold whereF
  split
  · exact ⟨fun e => e, fun _ _ e => by simp at e⟩
  · split
    · have := patF_long s (i + 1) lg
      exact ⟨this.1, fun h1 h2 _ => this.2 h1 h2⟩
    · exact ⟨fun e => e, fun _ _ e => by simp at e⟩
theorem addrF_long (s : ByteArray) (i : Nat) (lg : Int) (h : (addrF s i lg).2.2.2.2 = true) : ((addrF s i lg).2.2.2.1 = -1 → lg = -1) ∧ ((addrF s i lg).2.2.2.1 = -1 → (addrF s i lg).2.1.sort = 3 → (addrF s i lg).2.1.pat.size ≤ 40) ∧ ((addrF s i lg).2.2.2.1 = -1 → (addrF s i lg).2.2.1.sort = 3 → (addrF s i lg).2.2.1.pat.size ≤ 40) := by
  unfold addrF at *
  split
  · rename_i h0
    rw [if_pos h0] at h
    simp only at h ⊢
    have w1 := whereF_long s i lg
    split
    · rename_i h1
      rw [if_pos h1] at h
      split
      · rename_i h2
        rw [if_pos h2] at h
        have w2 := whereF_long s ((whereF s i lg).1 + 1) (whereF s i lg).2.2.1
        split
        · rename_i h3
          exact ⟨fun e => w1.1 (w2.1 e), fun e => w1.2 h1 (w2.1 e), fun e => w2.2 h3 e⟩
        · rename_i h3
          rw [if_neg h3] at h
          cases h
      · exact ⟨w1.1, fun e => w1.2 h1 e, fun _ e => by simp [wh0] at e⟩
    · rename_i h1
      rw [if_neg h1] at h
      cases h
  · exact ⟨fun e => e, fun _ e => by simp [wh0] at e, fun _ e => by simp [wh0] at e⟩
theorem skip_ge (s t : ByteArray) (i : Nat) : i ≤ skip s t i := by
  have key : ∀ (f i : Nat), i ≤ skipF s t f i := fun f => by
    induction f with
    | zero => exact fun i => Nat.le_refl _
    | succ f ih =>
      intro i
      unfold skipF
      split
      · exact Nat.le_trans (Nat.le_succ i) (ih (i + 1))
      · exact Nat.le_refl _
  exact key _ i
theorem numF_ge (s : ByteArray) : ∀ (l i n : Nat), i ≤ (numF s l i n).1
  | 0, i, n => Nat.le_refl _
  | l + 1, i, n => by
    unfold numF
    split
    · split
      · exact Nat.le_refl _
      · exact Nat.le_trans (Nat.le_succ i) (numF_ge s l (i + 1) _)
    · exact Nat.le_refl _
theorem patF_ge (s : ByteArray) (i : Nat) (lg : Int) : i ≤ (patF s i lg).1 := by
  unfold patF
  simp only
  cases failAt (s.extract i (slash s i)) with
  | some j => exact Nat.le_add_right _ _
  | none =>
    simp only
    split
    · show i ≤ i + _ + 1; omega
    · show i ≤ i + _; omega
theorem whereF_ge (s : ByteArray) (i : Nat) (lg : Int) : i ≤ (whereF s i lg).1 := by
  unfold whereF
  split
  · exact Nat.le_succ i
  · split
    · exact Nat.le_trans (Nat.le_succ i) (patF_ge s (i + 1) lg)
    · exact numF_ge s 4 i 0
theorem addrF_ge (s : ByteArray) (i : Nat) (lg : Int) : i ≤ (addrF s i lg).1 := by
  unfold addrF
  split
  · simp only
    have w1 := whereF_ge s i lg
    split
    · split
      · have w2 := whereF_ge s ((whereF s i lg).1 + 1) (whereF s i lg).2.2.1
        split
        · have := skip_ge s Rs.blank (whereF s ((whereF s i lg).1 + 1) (whereF s i lg).2.2.1).1
          show i ≤ skip s Rs.blank _
          omega
        · show i ≤ (whereF s _ _).1
          omega
      · have := skip_ge s Rs.blank (whereF s i lg).1
        show i ≤ skip s Rs.blank _
        omega
    · exact w1
  · exact Nat.le_refl _
theorem eol_ge (s : ByteArray) (i : Nat) : i ≤ eol s i := by
  have key : ∀ (f i : Nat), i ≤ eolF s f i := fun f => by
    induction f with
    | zero => exact fun i => Nat.le_refl _
    | succ f ih =>
      intro i
      unfold eolF
      split
      · exact Nat.le_trans (Nat.le_succ i) (ih (i + 1))
      · exact Nat.le_refl _
  exact key _ i
theorem labF_ge (s : ByteArray) : ∀ (f i : Nat), i ≤ labF s f i
  | 0, i => Nat.le_refl _
  | f + 1, i => by
    unfold labF
    split
    · exact Nat.le_trans (Nat.le_succ i) (labF_ge s f (i + 1))
    · exact Nat.le_refl _
def PcOk (g : Nat) (p : Pc) : Prop := (p.grp = -1 ∧ p.byte < 256) ∨ (0 ≤ p.grp ∧ p.grp ≤ g)
theorem pieceF_ok (s : ByteArray) (g i : Nat) : i ≤ (pieceF s g i).1 ∧ ((pieceF s g i).2.2 = true → PcOk g (pieceF s g i).2.1) := by
  have hb : ∀ j, byt s j < 256 := fun j => by unfold byt; exact UInt8.toNat_lt _
  unfold pieceF
  split
  · exact ⟨Nat.le_succ i, fun _ => .inr ⟨by simp, by simp⟩⟩
  · split
    · unfold escPieceF
      split
      · rename_i h
        exact ⟨by simp only; omega, fun _ => .inr ⟨by simp only; omega, by simp only; omega⟩⟩
      · split
        · exact ⟨by simp only; omega, fun _ => .inl ⟨rfl, by simp⟩⟩
        · split
          · exact ⟨by simp only; omega, fun _ => .inl ⟨rfl, hb _⟩⟩
          · exact ⟨by simp only; omega, fun e => by cases e⟩
    · unfold plainF
      split
      · exact ⟨Nat.le_refl _, fun e => by cases e⟩
      · exact ⟨Nat.le_succ i, fun _ => .inl ⟨rfl, hb _⟩⟩
theorem tempL_ok (s : ByteArray) (g : Nat) : ∀ (f i : Nat) (ps : List Pc), (∀ p ∈ ps, PcOk g p) → (tempL s g f i ps).2.2 = true → i ≤ (tempL s g f i ps).1 ∧ (tempL s g f i ps).2.1.length + 1 ≤ ps.length + f ∧ ∀ p ∈ (tempL s g f i ps).2.1, PcOk g p
  | 0, i, ps, hp, h => by cases h
  | f + 1, i, ps, hp, h => by
    unfold tempL at *
    split
    · exact ⟨Nat.le_succ i, by simp only; omega, hp⟩
    · rename_i h1
      rw [if_neg h1] at h
      split
      · rename_i h2
        rw [if_pos h2] at h
        have pk := pieceF_ok s g i
        have := tempL_ok s g f (pieceF s g i).1 (ps ++ [(pieceF s g i).2.1]) (fun p hp' => by
          rcases List.mem_append.1 hp' with e | e
          · exact hp p e
          · have : p = (pieceF s g i).2.1 := by simpa using e
            rw [this]; exact pk.2 h2) h
        refine ⟨Nat.le_trans pk.1 this.1, ?_, this.2.2⟩
        have h3 := this.2.1
        rw [List.length_append, List.length_singleton] at h3
        omega
      · rename_i h2
        rw [if_neg h2] at h
        cases h
theorem flagF_ok (s : ByteArray) : ∀ (f i : Nat) (a p : Bool) (n : Nat), n ≤ 9 → i ≤ (flagF s f i a p n).1 ∧ (flagF s f i a p n).2.2.2 ≤ 9
  | 0, i, a, p, n, hn => ⟨Nat.le_refl _, hn⟩
  | f + 1, i, a, p, n, hn => by
    unfold flagF
    split
    · have := flagF_ok s f (i + 1) true p n hn; exact ⟨by omega, this.2⟩
    · split
      · have := flagF_ok s f (i + 1) a true n hn; exact ⟨by omega, this.2⟩
      · split
        · rename_i h
          have h9 : byt s i - 48 ≤ 9 := by
            have hnx := h.2
            unfold nxt at hnx
            simp only [Bool.and_eq_true, decide_eq_true_eq] at hnx
            have hin := hnx.2
            unfold inB numerals at hin
            simp at hin
            omega
          have := flagF_ok s f (i + 1) a p (byt s i - 48) h9; exact ⟨by omega, this.2⟩
        · exact ⟨Nat.le_refl _, by simp only; omega⟩
theorem putF_ok (s : ByteArray) (i : Nat) (lg : Int) (c : Cm) (h : (putF s i lg c).2.2.2 = true) (hs : s.size ≤ 400) : i ≤ (putF s i lg c).1 ∧ ((putF s i lg c).2.2.1 = -1 → lg = -1) ∧ ((putF s i lg c).2.2.1 = -1 → (putF s i lg c).2.1.pat.size ≤ 40) ∧ (∀ p ∈ (putF s i lg c).2.1.temp, PcOk (grps (putF s i lg c).2.1.pat) p) ∧ (putF s i lg c).2.1.temp.length ≤ 400 ∧ (putF s i lg c).2.1.num ≤ 9 ∧ (putF s i lg c).2.1.fst = c.fst ∧ (putF s i lg c).2.1.snd = c.snd ∧ (putF s i lg c).2.1.kind = c.kind ∧ (putF s i lg c).2.1.text = c.text ∧ (putF s i lg c).2.1.frm = c.frm ∧ (putF s i lg c).2.1.too = c.too ∧ (putF s i lg c).2.1.goal = c.goal := by
  unfold putF at *
  split
  · rename_i h0
    rw [if_pos h0] at h
    simp only at h ⊢
    have pl := patF_long s (i + 1) lg
    have pg := patF_ge s (i + 1) lg
    split
    · rename_i h1
      rw [if_pos h1] at h
      try simp only at h ⊢
      split
      · rename_i h2
        have tk := tempL_ok s (grps (patF s (i + 1) lg).2.1) (s.size + 1) (patF s (i + 1) lg).1 [] (fun p hp => by cases hp) h2
        have fk := flagF_ok s 4 (tempF s (grps (patF s (i + 1) lg).2.1) (patF s (i + 1) lg).1).1 false false 0 (by omega)
        have t1 : (patF s (i + 1) lg).1 ≤ (tempF s (grps (patF s (i + 1) lg).2.1) (patF s (i + 1) lg).1).1 := tk.1
        refine ⟨by simp only; omega, pl.1, fun e => pl.2 h1 e, tk.2.2, ?_, fk.2, rfl, rfl, rfl, rfl, rfl, rfl, rfl⟩
        have := tk.2.1
        simp at this
        show (tempF s _ _).2.1.length ≤ 400
        unfold tempF
        omega
      · rename_i h2
        rw [if_neg h2] at h
        cases h
    · rename_i h1
      rw [if_neg h1] at h
      cases h
  · rename_i h0
    rw [if_neg h0] at h
    cases h
theorem rowByteF_ge (s : ByteArray) (l : List Nat) (i : Nat) : i ≤ (rowByteF s l i).1 := by
  unfold rowByteF
  repeat' split
  all_goals simp only
  all_goals omega
theorem rowL_ok (s : ByteArray) : ∀ (f i : Nat) (l : List Nat), (rowL s f i l).2.2 = true → i ≤ (rowL s f i l).1 ∧ (rowL s f i l).2.1.length + 1 ≤ l.length + f
  | 0, i, l, h => by cases h
  | f + 1, i, l, h => by
    unfold rowL at *
    split
    · exact ⟨Nat.le_succ i, by simp only; omega⟩
    · rename_i h1
      rw [if_neg h1] at h
      split
      · rename_i h2
        rw [if_pos h2] at h
        have := rowL_ok s f (rowByteF s l i).1 (l ++ [(rowByteF s l i).2.1]) h
        have hg := rowByteF_ge s l i
        refine ⟨by omega, ?_⟩
        have h3 := this.2
        rw [List.length_append, List.length_singleton] at h3
        omega
      · rename_i h2
        rw [if_neg h2] at h
        cases h
theorem rowM_ok (s : ByteArray) : ∀ (f i : Nat) (l : List Nat), (rowM s f i l).2.2 = true → i ≤ (rowM s f i l).1 ∧ (rowM s f i l).2.1.length = l.length + f
  | 0, i, l, h => ⟨Nat.le_refl _, rfl⟩
  | f + 1, i, l, h => by
    unfold rowM at *
    split
    · rename_i h2
      rw [if_pos h2] at h
      have := rowM_ok s f (rowByteF s [] i).1 (l ++ [(rowByteF s [] i).2.1]) h
      have hg := rowByteF_ge s [] i
      refine ⟨by omega, ?_⟩
      have h3 := this.2
      rw [List.length_append, List.length_singleton] at h3
      omega
    · rename_i h2
      rw [if_neg h2] at h
      cases h
theorem ofNats_size (l : List Nat) : (ofNats l).size = l.length := by simp [ofNats, ByteArray.size]
theorem rowsF_ok (s : ByteArray) (i : Nat) (h : (rowsF s i).2.2.2 = true) (hs : s.size ≤ 400) : i ≤ (rowsF s i).1 ∧ (rowsF s i).2.1.size = (rowsF s i).2.2.1.size ∧ (rowsF s i).2.1.size ≤ 400 := by
  unfold rowsF at *
  split
  · rename_i h0
    rw [if_pos h0] at h
    simp only at h ⊢
    split
    · rename_i h1
      rw [if_pos h1] at h
      try simp only at h ⊢
      have k1 := rowL_ok s (s.size + 1) (i + 1) [] h1
      split
      · rename_i h2
        rw [if_pos h2] at h
        have k2 := rowM_ok s (rowL s (s.size + 1) (i + 1) []).2.1.length (rowL s (s.size + 1) (i + 1) []).1 [] h2
        split
        · refine ⟨by simp only; omega, ?_, ?_⟩
          · simp only [ofNats_size]; rw [k2.2]; simp
          · simp only [ofNats_size]; have := k1.2; simp at this; omega
        · rename_i h3
          rw [if_neg h3] at h
          cases h
      · rename_i h2
        rw [if_neg h2] at h
        cases h
    · rename_i h1
      rw [if_neg h1] at h
      cases h
  · rename_i h0
    rw [if_neg h0] at h
    cases h
end Ee
end Go.Proofs.YtppjlpihaocdiaaGreatDoor

/- A part of the proof. -/
set_option linter.unusedSimpArgs false
set_option linter.unusedVariables false
namespace Go.Proofs.YtppjlpihaocdiaaGreatDoor
namespace Ee
open Rs
theorem nxt_lt {s t : ByteArray} {i : Nat} (h : nxt s t i = true) : i < s.size := by
  unfold nxt at h
  simp only [Bool.and_eq_true, decide_eq_true_eq] at h
  exact h.1
theorem ext_le (t : ByteArray) (i j : Nat) : (t.extract i j).size ≤ t.size := by
  rw [ByteArray.size_extract]; omega
theorem setGoal_cv {lg : Int} {n g k : Nat} {cs : List Cm} (h : ∀ x ∈ cs, CmB lg n x) (hg : g ≤ n) : ∀ x ∈ setGoal cs k g, CmB lg n x := by
  unfold setGoal
  cases hk : cs[k]? with
  | none => exact h
  | some c =>
    intro x hx
    rcases List.mem_or_eq_of_mem_set hx with e | e
    · exact h x e
    · have hc := h c (List.mem_of_getElem? hk)
      rw [e]
      exact ⟨hc.p1, hc.p2, hc.p3, hc.tm, hc.tl, hc.yy, hc.ys, hc.tx, hg, hc.nu⟩
structure Cb (lg : Int) (c : Cm) : Prop where
  p1 : lg = -1 → c.fst.sort = 3 → c.fst.pat.size ≤ 40
  p2 : lg = -1 → c.snd.sort = 3 → c.snd.pat.size ≤ 40
  goal : c.goal = 0
  text : c.text = noBytes
  temp : c.temp = []
  num : c.num = 0
  frm : c.frm = noBytes
  too : c.too = noBytes
theorem Cb.cmB {lg : Int} {c : Cm} (h : Cb lg c) (k n : Nat) (hk : k ≠ 19) : CmB lg n { c with kind := k } :=
  ⟨h.p1, h.p2, fun _ e => absurd e hk, fun e => absurd e hk, by show c.temp.length ≤ 400; rw [h.temp]; simp, fun _ => by show c.frm.size = c.too.size; rw [h.frm, h.too], by show c.frm.size ≤ 400; rw [h.frm]; simp [noBytes, ByteArray.size], by show c.text.size ≤ 400; rw [h.text]; simp [noBytes, ByteArray.size], by show c.goal ≤ n; rw [h.goal]; omega, by show c.num ≤ 9; rw [h.num]; omega⟩
section
variable {row : RSt → RSt × Bool} {s : ByteArray}
theorem blockF_cv (hrow : ∀ p, Cv s p → (row p).2 = true → Cv s (row p).1) {p : RSt} {c : Cm} (h : Cv s p) (hc : CmB p.long (p.cmds.length + 1) c) (hlt : p.at' < s.size) (hok : (blockF row s p c).2 = true) : Cv s (blockF row s p c).1 := by
  unfold blockF at *
  split
  · rename_i h5
    rw [if_pos h5] at hok
    cases hok
  · rename_i h5
    rw [if_neg h5] at hok
    simp only at *
    split
    · rename_i h1
      have hp : Cv s { p with at' := p.at' + 1, op := p.op + 1, cmds := p.cmds ++ [c] } := h.add hc (Nat.le_refl _) hlt (fun e => e) (fun l hl => .inl hl)
      have := hrow _ hp h1.1
      have el := setGoal_length (row { p with at' := p.at' + 1, op := p.op + 1, cmds := p.cmds ++ [c] }).1.cmds p.cmds.length (row { p with at' := p.at' + 1, op := p.op + 1, cmds := p.cmds ++ [c] }).1.cmds.length
      refine ⟨fun x hx => ?_, fun l hl => ?_, ?_, ?_⟩
      · show CmB _ (setGoal _ _ _).length x
        rw [el]
        exact setGoal_cv this.cm (Nat.le_refl _) x hx
      · show l.cmd ≤ (setGoal _ _ _).length
        rw [el]
        exact this.lb l hl
      · show (setGoal _ _ _).length ≤ _
        rw [el]
        exact Nat.le_trans this.ln (Nat.le_succ _)
      · show (setGoal _ _ _).length ≤ _
        rw [el]
        exact this.ls
    · rename_i h1
      rw [if_neg h1] at hok
      cases hok
theorem whatF_cv (hs : s.size ≤ 400) (hrow : ∀ p, Cv s p → (row p).2 = true → Cv s (row p).1) {p : RSt} {c : Cm} (h : Cv s p) (hc : Cb p.long c) (hok : (whatF row s p c).2 = true) : Cv s (whatF row s p c).1 := by
  unfold whatF at *
  split
  · rename_i h0
    rw [if_pos h0] at hok
    have hlt := nxt_lt h0
    simp only at *
    generalize kindF (byt s p.at') = k at *
    split
    · rename_i h1
      rw [if_pos h1] at hok
      exact blockF_cv hrow h (hc.cmB k _ (by omega)) hlt hok
    · rename_i h1
      rw [if_neg h1] at hok
      split
      · rename_i h2
        rw [if_pos h2] at hok
        split
        · rename_i h3
          have he := eol_ge s (p.at' + 1 + 1)
          have hb := hc.cmB k (p.cmds.length + 1) (by omega)
          refine h.add ⟨hb.p1, hb.p2, hb.p3, hb.tm, hb.tl, hb.yy, hb.ys, ?_, hb.gl, hb.nu⟩ (by omega) hlt (fun e => e) (fun l hl => .inl hl)
          have := ext_le s (p.at' + 1 + 1) (eol s (p.at' + 1 + 1))
          show (s.extract _ _).size ≤ 400
          omega
        · rename_i h3
          rw [if_neg h3] at hok
          cases hok
      · rename_i h2
        rw [if_neg h2] at hok
        split
        · rename_i h3
          have hl := labF_ge s 8 (p.at' + 1)
          refine h.add (hc.cmB k _ (by omega)) hl hlt (fun e => e) (fun l hl => ?_)
          rcases List.mem_append.1 (show l ∈ p.labs ++ [_] from hl) with e | e
          · exact .inl e
          · have e2 : l = ⟨s.extract (p.at' + 1) (labF s 8 (p.at' + 1)), p.at' + 1, p.cmds.length, true⟩ := by simpa using e
            rw [e2]
            exact .inr (Nat.le_refl _)
        · rename_i h3
          rw [if_neg h3] at hok
          split
          · rename_i h4
            rw [if_pos h4] at hok
            have pk := putF_ok s (p.at' + 1) p.long { c with kind := k } hok hs
            obtain ⟨q1, q2, q3, q4, q5, q6, q7, q8, q9, q10, q11, q12, q13⟩ := pk
            refine h.add ⟨fun e => ?_, fun e => ?_, fun e _ => q3 e, fun _ => q4, q5, fun e => ?_, ?_, ?_, ?_, q6⟩ q1 hlt q2 (fun l hl => .inl hl)
            · rw [q7]; exact hc.p1 (q2 e)
            · rw [q8]; exact hc.p2 (q2 e)
            · rw [q9] at e; exact absurd (e.symm.trans h4) (by omega)
            · rw [q11]; show c.frm.size ≤ 400; rw [hc.frm]; simp [noBytes, ByteArray.size]
            · rw [q10]; show c.text.size ≤ 400; rw [hc.text]; simp [noBytes, ByteArray.size]
            · rw [q13]; show c.goal ≤ _; rw [hc.goal]; omega
          · rename_i h4
            rw [if_neg h4] at hok
            split
            · rename_i h5
              rw [if_pos h5] at hok
              have rk := rowsF_ok s (p.at' + 1) hok hs
              have hb := hc.cmB k (p.cmds.length + 1) h4
              exact h.add ⟨hb.p1, hb.p2, hb.p3, hb.tm, hb.tl, fun _ => rk.2.1, rk.2.2, hb.tx, hb.gl, hb.nu⟩ rk.1 hlt (fun e => e) (fun l hl => .inl hl)
            · exact h.add (hc.cmB k _ h4) (Nat.le_refl _) hlt (fun e => e) (fun l hl => .inl hl)
  · rename_i h0
    exact h
theorem commandF_cv (hs : s.size ≤ 400) (hrow : ∀ p, Cv s p → (row p).2 = true → Cv s (row p).1) {p : RSt} (h : Cv s p) (hok : (commandF row s p).2 = true) : Cv s (commandF row s p).1 := by
  unfold commandF at *
  simp only at *
  split
  · rename_i h0
    rw [if_pos h0] at hok
    have al := addrF_long s p.at' p.long h0
    have ag := addrF_ge s p.at' p.long
    have hq : ∀ i, (addrF s p.at' p.long).1 ≤ i → Cv s { p with at' := i, long := (addrF s p.at' p.long).2.2.2.1 } := fun i hi => h.more (Nat.le_trans ag hi) al.1
    have hcb : ∀ b, Cb (addrF s p.at' p.long).2.2.2.1 { cm0 with fst := (addrF s p.at' p.long).2.1, snd := (addrF s p.at' p.long).2.2.1, neg := b } := fun b => ⟨al.2.1, al.2.2, rfl, rfl, rfl, rfl, rfl, rfl⟩
    split
    · rename_i h1
      rw [if_pos h1] at hok
      have sg := skip_ge s Rs.blank ((addrF s p.at' p.long).1 + 1)
      split
      · exact hq _ (by omega)
      · rename_i h2
        rw [if_neg h2] at hok
        exact whatF_cv hs hrow (hq _ (by omega)) (hcb true) hok
    · rename_i h1
      rw [if_neg h1] at hok
      split
      · split
        · have hl := labF_ge s 8 ((addrF s p.at' p.long).1 + 1)
          have hb := hq (labF s 8 ((addrF s p.at' p.long).1 + 1)) (by omega)
          refine ⟨hb.cm, fun l hl => ?_, hb.ln, hb.ls⟩
          rcases List.mem_append.1 (show l ∈ p.labs ++ [_] from hl) with e | e
          · exact h.lb l e
          · have e2 : l = ⟨s.extract ((addrF s p.at' p.long).1 + 1) (labF s 8 ((addrF s p.at' p.long).1 + 1)), (addrF s p.at' p.long).1 + 1, p.cmds.length, false⟩ := by simpa using e
            rw [e2]
            exact Nat.le_refl _
        · exact hq _ (Nat.le_refl _)
      · rename_i h2
        rw [if_neg h2] at hok
        exact whatF_cv hs hrow (hq _ (Nat.le_refl _)) (hcb false) hok
  · rename_i h0
    rw [if_neg h0] at hok
    cases hok
theorem rowL'_cv (hs : s.size ≤ 400) (hrow : ∀ p, Cv s p → (row p).2 = true → Cv s (row p).1) : ∀ (f : Nat) (p : RSt), Cv s p → (rowL' row s f p).2 = true → Cv s (rowL' row s f p).1
  | 0, p, h, hok => h
  | f + 1, p, h, hok => by
    unfold rowL' at *
    simp only at *
    have h' : Cv s { p with at' := skip s between p.at' } := h.more (skip_ge s _ _) (fun e => e)
    split
    · exact h'
    · rename_i h0
      rw [if_neg h0] at hok
      split
      · rename_i h1
        rw [if_pos h1] at hok
        have h2 := commandF_cv hs hrow h' h1
        split
        · rename_i h3
          rw [if_pos h3] at hok
          exact rowL'_cv hs hrow f _ (h2.more (skip_ge s _ _) (fun e => e)) hok
        · exact h2.more (skip_ge s _ _) (fun e => e)
      · rename_i h1
        rw [if_neg h1] at hok
        exact absurd hok h1
end
theorem rowN_cv {s : ByteArray} (hs : s.size ≤ 400) : ∀ (N : Nat) (p : RSt), Cv s p → (Rs.rowN s N p).2 = true → Cv s (Rs.rowN s N p).1
  | 0, p, h, hok => h
  | N + 1, p, h, hok => rowL'_cv hs (rowN_cv hs N) (s.size + 1) p h hok
theorem joinL_cv {lg : Int} (labs : List Lab) (n : Nat) (hl : ∀ l ∈ labs, l.cmd ≤ n) : ∀ (r : List Lab) (i : Nat) (cs cs' : List Cm), (∀ x ∈ cs, CmB lg n x) → joinL labs n r i cs = .ok cs' → (∀ x ∈ cs', CmB lg n x) ∧ cs'.length = cs.length
  | [], i, cs, cs', h, e => by
    unfold joinL at e
    cases e
    exact ⟨h, rfl⟩
  | l :: r, i, cs, cs', h, e => by
    unfold joinL at e
    split at e
    · split at e
      · have := joinL_cv labs n hl r (i + 1) _ cs' (setGoal_cv h (Nat.le_refl _)) e
        rw [setGoal_length] at this
        exact this
      · exact joinL_cv labs n hl r (i + 1) _ cs' h e
    · split at e
      · cases e
      · rename_i m hm
        split at e
        · cases e
        · split at e
          · have hg : (labs[m]?.map Lab.cmd).getD 0 ≤ n := by
              cases hx : labs[m]? with
              | none => simp
              | some y => simp; exact hl y (List.mem_of_getElem? hx)
            have := joinL_cv labs n hl r (i + 1) _ cs' (setGoal_cv h hg) e
            rw [setGoal_length] at this
            exact this
          · exact joinL_cv labs n hl r (i + 1) _ cs' h e
theorem read_ok (s : ByteArray) (h : (readR s).2.1 = 0) : (readR s).1.length ≤ 1000 ∧ ∀ (k : Nat) (x : Cm), (readR s).1[k]? = some x → CmOk (readR s).1.length x := by
  unfold readR at *
  split
  · rename_i h0; rw [if_pos h0] at h; cases h
  · rename_i h0
    rw [if_neg h0] at h
    split
    · rename_i h1; rw [if_pos h1] at h; cases h
    · rename_i h1
      rw [if_neg h1] at h
      split
      · rename_i h2; rw [if_pos h2] at h; cases h
      · rename_i h2
        rw [if_neg h2] at h
        have hcv : Cv s (rowsOf s).1 := rowN_cv (s := s) (by omega) 7 ⟨0, 0, [], [], -1⟩ ⟨(fun x hx => by cases hx), (fun l hl => by cases hl), Nat.le_refl _, Nat.zero_le _⟩ (by
          cases hr : (rowsOf s).2 with
          | true => exact hr
          | false => exact absurd hr h1)
        have hlg : (rowsOf s).1.long = -1 := by
          by_cases e : (rowsOf s).1.long = -1
          · exact e
          · exact absurd e h2
        cases hj : joinL (rowsOf s).1.labs (rowsOf s).1.cmds.length (rowsOf s).1.labs 0 (rowsOf s).1.cmds with
        | error i => rw [hj] at h; cases h
        | ok cs =>
          have := joinL_cv (lg := -1) (rowsOf s).1.labs (rowsOf s).1.cmds.length hcv.lb _ _ _ cs (fun x hx => by rw [← hlg]; exact hcv.cm x hx) hj
          have hls := hcv.ls
          refine ⟨by simp only; omega, fun k x hx => ?_⟩
          have hb := this.1 x (List.mem_of_getElem? hx)
          exact ⟨hb.p1 rfl, hb.p2 rfl, hb.p3 rfl, hb.tm, hb.tl, hb.yy, hb.ys, hb.tx, by have := hb.gl; simp only; omega, hb.nu⟩
end Ee
end Go.Proofs.YtppjlpihaocdiaaGreatDoor

