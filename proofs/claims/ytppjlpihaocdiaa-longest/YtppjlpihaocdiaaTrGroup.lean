/- Brackets and single parts: 'group' and 'one', if 'choice' does what it should on what is left of the text. -/
import Derived.Test.YtppjlpihaocdiaaTrSetOf
set_option linter.unusedSimpArgs false
set_option linter.unusedVariables false
namespace Go.Proofs.Ytppjlpihaocdiaa
namespace Tr
open Go.RowKit

def PartQ (s : ByteArray) (j : Nat) (st : St) : Prop := (st.m = 1 ∧ pk s j ≠ (42 : Nat) ∧ pk s j ≠ (43 : Nat) ∧ pk s j ≠ (63 : Nat) ∧ pk s j ≠ (123 : Nat)) ∨ st.m = 2
def WayQ (s : ByteArray) (j : Nat) (st : St) : Prop := PartQ s j st ∧ starts s j = false
def ChQ (s : ByteArray) (j : Nat) (st : St) : Prop := WayQ s j st ∧ pk s j ≠ (124 : Nat)

/-- What 'choice' does where fewer than N bytes are left. -/
def ChoiceAt (N : Nat) : Prop := ∀ (b i o g : Nat) (n : NX) (s : ByteArray) (nv : Value) (st : St) (w : World), Rd w b s i o g nv n → n.l.length ≤ 2 * i → (∀ q, n.X q → q < w.heap.size) → run s i = some st → st.m = 0 → st.o = o → st.a = g → s.size - i < N →
    Calls Try.prog 27 #[.pointer (some ⟨b, 0, none⟩)] w fun e w' => ∃ (z : Int) (ok : Bool), e = .returned (.tuple #[.int .i64 z, .bool ok]) ∧ Post b s i o n nv w (ChQ s) (choiceN s N ⟨i, g, n.l⟩) z ok w'

theorem step_low {st : St} {c : Nat} (hm : st.m ≤ 2) (hc : inB noStart c = false) : step st c = begins st c := by
  obtain ⟨m, o, a, l⟩ := st
  have hc' : ¬ (inB noStart c = true) := by rw [hc]; simp
  rw [inB_noStart] at hc'
  have hq : ¬ (inB quants c = true) := by rw [inB_quants]; omega
  unfold step
  simp only at hm ⊢
  by_cases h0 : m = 0
  · rw [if_pos h0]
  · rw [if_neg h0, if_pos (by omega)]
    unfold goesOn
    simp only
    rw [if_neg (fun h => hq h.2), if_neg (by omega), if_neg (by omega), if_neg (by omega)]

/-- Behind a whole choice nothing goes on but a bracket that closes one. -/
theorem step_stuck {s : ByteArray} {j : Nat} {st : St} (h : ChQ s j st) (hj : j < s.size) (hc : pk s j ≠ (41 : Nat) ∨ st.o = 0) : step st (byt s j) = none := by
  obtain ⟨⟨h1, h2⟩, h3⟩ := h
  have hs : inB noStart (byt s j) = true := by simpa [starts, hj] using h2
  have hs' := hs
  rw [inB_noStart] at hs'
  unfold PartQ at h1
  rw [pk_in hj] at h1 h3 hc
  obtain ⟨m, o, a, l⟩ := st
  simp only at h1 hc
  generalize byt s j = c at h1 h3 hc hs hs'
  have hb : begins ⟨m, o, a, l⟩ c = none := by
    unfold begins
    rw [if_neg (by omega), if_neg (by omega), if_neg (by omega), if_pos hs]
  have hq : ¬ (m = 1 ∧ inB quants c = true) := by rw [inB_quants]; omega
  unfold step
  simp only
  rw [if_neg (by omega), if_pos (by omega)]
  unfold goesOn
  simp only
  rw [if_neg hq, if_neg (by omega), if_neg (by omega), if_neg (by omega)]
  exact hb

theorem step_close {s : ByteArray} {st : St} (hm : st.m = 1 ∨ st.m = 2) (ho : 0 < st.o) : step st 41 = some ⟨1, st.o - 1, st.a, st.l⟩ := by
  obtain ⟨m, o, a, l⟩ := st
  simp only at hm ho ⊢
  have hq : ¬ (inB quants 41 = true) := by rw [inB_quants]; omega
  unfold step
  simp only
  rw [if_neg (by omega), if_pos (by omega)]
  unfold goesOn
  simp only
  rw [if_neg (fun h => hq h.2), if_neg (by omega), if_neg (by omega), if_pos (by simp [ho])]

theorem Only.fr {b : Nat} {w w' : World} (h : Only b w w') (nv : Value) : Fr b nv nv w w' :=
  ⟨h.os, h.tape, h.output, by rw [h.size]; exact Nat.le_refl _, fun k _ hb _ => h.block k hb, .inl rfl⟩

theorem mono_begins {st st' : St} {c : Nat} (hs : begins st c = some st') : st.a ≤ st'.a := by
  unfold begins at hs
  (repeat' split at hs) <;> first | (cases hs; simp only; omega) | cases hs

theorem mono_step {st st' : St} {c : Nat} (hs : step st c = some st') : st.a ≤ st'.a := by
  unfold step at hs
  split at hs
  · exact mono_begins hs
  · split at hs
    · unfold goesOn at hs
      (repeat' split at hs) <;> first | (cases hs; exact Nat.le_refl _) | exact mono_begins hs
    · split at hs
      · split at hs
        · cases hs; exact Nat.le_refl _
        · cases hs
      · split at hs
        · unfold braced at hs
          (repeat' split at hs) <;> first | (cases hs; exact Nat.le_refl _) | cases hs
        · unfold inSet at hs
          simp only at hs
          (repeat' split at hs) <;> first | (cases hs; exact Nat.le_refl _) | cases hs

theorem mono_run {s : ByteArray} {i : Nat} {st : St} (h : run s i = some st) : ∀ {j : Nat} {st' : St}, i ≤ j → run s j = some st' → st.a ≤ st'.a
  | 0, st', hij, h' => by
    obtain rfl : i = 0 := by omega
    rw [h] at h'; cases h'; exact Nat.le_refl _
  | j + 1, st', hij, h' => by
    by_cases e : i = j + 1
    · subst e; rw [h] at h'; cases h'; exact Nat.le_refl _
    · simp only [run, Option.bind_eq_some_iff] at h'
      obtain ⟨x, hx, h'⟩ := h'
      exact Nat.le_trans (mono_run h (by omega) hx) (mono_step h')

theorem PNd.mono {a g g' : Nat} {d : Nd} (h : PNd a g d) (hg : g ≤ g') : PNd a g' d := ⟨h.k6, h.sub, h.one, h.two, h.rep, fun e => Nat.lt_of_lt_of_le (h.num e) hg⟩

theorem Cells.set {w : World} {b k : Nat} {nv v : Value} {xs : List Value} {n : NX} (h : Cells w b nv xs n) : Cells (w.setCell ⟨b, k, none⟩ v) b nv xs n := h.of fun q _ hb _ => Below.heap_setCell _ _ _ _ hb

theorem Rd.put2 {w : World} {b i o g : Nat} {n : NX} {s : ByteArray} {nv : Value} (h : Rd w b s i o g nv n) {v : Int} (o' : Nat) (hv : v = o') : Rd (w.setCell ⟨b, 2, none⟩ (.int .i64 v)) b s i o' g nv n := by
  obtain ⟨⟨r0, r1, rf, rle, r40⟩, c2, c3, c4, f2, f3, f4, ⟨xs, hown, hce⟩, hwf⟩ := h
  subst hv
  have hx : (w.setCell ⟨b, 2, none⟩ (.int .i64 (o' : Int))).ownsRow (b + 1) 92 9 nv n.l.length xs := ownsRow_setCell_below hown (by simp) _
  exact ⟨⟨by go_simp, by go_simp, by go_simp, rle, r40⟩, by go_simp, by go_simp, by go_simp, by go_simp, by go_simp, by go_simp, ⟨xs, hx, hce.set⟩, hwf⟩

theorem Rd.put3 {w : World} {b i o g : Nat} {n : NX} {s : ByteArray} {nv : Value} (h : Rd w b s i o g nv n) {v : Int} (g' : Nat) (hv : v = g') (hg : g ≤ g') : Rd (w.setCell ⟨b, 3, none⟩ (.int .i64 v)) b s i o g' nv n := by
  obtain ⟨⟨r0, r1, rf, rle, r40⟩, c2, c3, c4, f2, f3, f4, ⟨xs, hown, hce⟩, hwf⟩ := h
  subst hv
  have hx : (w.setCell ⟨b, 3, none⟩ (.int .i64 (g' : Int))).ownsRow (b + 1) 92 9 nv n.l.length xs := ownsRow_setCell_below hown (by simp) _
  exact ⟨⟨by go_simp, by go_simp, by go_simp, rle, r40⟩, by go_simp, by go_simp, by go_simp, by go_simp, by go_simp, by go_simp, ⟨xs, hx, hce.set⟩, fun a d hd => PNd.mono (hwf a d hd) hg⟩

theorem Rd.put1 {w : World} {b i o g : Nat} {n : NX} {s : ByteArray} {nv : Value} (h : Rd w b s i o g nv n) {v : Int} (i' : Nat) (hv : v = i') (hi : i' ≤ s.size) : Rd (w.setCell ⟨b, 1, none⟩ (.int .i64 v)) b s i' o g nv n :=
  Mv.rd (h.rc.stay.set i' hv) h hi

set_option maxHeartbeats 1000000 in
theorem group_any (N : Nat) (ih : ChoiceAt N) (b i o g : Nat) (n : NX) (s : ByteArray) (nv : Value) (st : St) (w : World) (hr : Rd w b s i o g nv n) (hn : n.l.length ≤ 2 * i) (hX : ∀ q, n.X q → q < w.heap.size) (hi : i < s.size)
    (h : run s i = some st) (ho : st.o = o) (hg : st.a = g) (hs : step st (byt s i) = begins st 40) (hN : s.size - i < N + 1) :
    Calls Try.prog 121 #[.pointer (some ⟨b, 0, none⟩)] w fun e w' => ∃ (z : Int) (ok : Bool), e = .returned (.tuple #[.int .i64 z, .bool ok]) ∧ Post b s i o n nv w (fun _ st => st.m = 1) (addN (choiceN s N ⟨i + 1, g + 1, n.l⟩).1 ((choiceN s N ⟨i + 1, g + 1, n.l⟩).1.at' + 1) (grpN (choiceN s N ⟨i + 1, g + 1, n.l⟩).2 g)) z ok w' := by
  have HXX : Hid (∀ q, n.X q → q < w.heap.size) := hX
  have HR : Hid (Rd w b s i o g nv n) := hr
  have HG : Hid (run s i = some st) := h
  have HS : Hid (step st (byt s i) = begins st 40) := hs
  have hsm := small_run h
  have ho5 : o ≤ 5 := by rw [← ho]; exact hsm.2.1
  have hg9 : g ≤ 9 := by rw [← hg]; exact hsm.2.2.1
  obtain ⟨⟨r0, r1, rf, rle, r40⟩, c2, c3, c4, f2, f3, f4, own, hwf⟩ := hr
  have IH : Hid (ChoiceAt N) := ih
  clear own h hs hsm ih hwf hX
  by_cases h5 : o = 5 ∨ g = 9
  · have HF : Hid (Fails s i) := by
      refine Fails.here HG.out (by omega) (fun _ => ?_) (fun e => by omega)
      rw [HS.out, begins, if_pos rfl, if_pos (by omega)]
    by_cases h55 : o = 5
    · subst h55
      clear h5
      go_enter Try.func121, Try.ntmps121
      go_wp2_with fail
      go_ret2
      exact ⟨0, false, rfl, .fails HR.out HR.out.rc.stay HF.out⟩
    · have h5' : ((o : Int) == 5) = false := by simp; omega
      have h9 : g = 9 := by omega
      subst h9
      clear h5
      go_enter Try.func121, Try.ntmps121
      go_wp2_with fail
      go_ret2
      exact ⟨0, false, rfl, .fails HR.out HR.out.rc.stay HF.out⟩
  · have h5' : ((o : Int) == 5) = false := by simp; omega
    have h9' : ((g : Int) == 9) = false := by simp; omega
    have HG1 : Hid (run s (i + 1) = some ⟨0, o + 1, g + 1, st.l⟩) := by
      rw [Hid, run_succ HG.out, HS.out, begins, if_pos rfl, if_neg (by omega), ho, hg]
    clear h5
    have HR1 := ((HR.out.put1 (v := (i : Int) + 1) (i + 1) (by omega) (by omega)).put2 (v := (o : Int) + 1) (o + 1) (by omega)).put3 (v := (g : Int) + 1) (g + 1) (by omega) (by omega)
    have HO1 := (((Only.refl b w).setCell 1 (.int .i64 ((i : Int) + 1))).setCell 2 (.int .i64 ((o : Int) + 1))).setCell 3 (.int .i64 ((g : Int) + 1))
    have HR1' : Hid _ := HR1
    have HO1' : Hid _ := HO1
    clear HR1 HO1
    go_enter Try.func121, Try.ntmps121
    go_wp2_with fail
    refine (IH.out b (i + 1) (o + 1) (g + 1) n s nv _ _ HR1'.out (by omega) (by rw [HO1'.out.size]; exact HXX.out) HG1.out rfl rfl rfl (by omega)).mono ?_
    rintro e w2 ⟨z, ok, rfl, hP⟩
    rcases hP with ⟨rfl, j, g', n', nv', st2, zn, q1, q2, q3, q4, q5, q6, q7, q8, q9, rfl, q11, q12⟩ | ⟨rfl, j, q1, q2, q3⟩
    · have HR2 : Hid (Rd w2 b s j (o + 1) g' nv' n') := q1
      have HF2 : Hid (Fr b nv nv' w w2) := (Only.fr HO1'.out nv).trans q2
      have HG2 : Hid (run s j = some st2) := q3
      have HCN : Hid (choiceN s N ⟨i + 1, g + 1, n.l⟩ = (⟨j, g', n'.l⟩, zn)) := q12
      have HXN : Hid (n'.X = n.X) := q9
      have HGG : Hid (g < g') := by
        have := mono_run HG1.out (by omega) q3
        rw [q5] at this
        exact this
      have HQ2 : Hid (ChQ s j st2) := q8
      have hjs := q1.rc.le
      have hs2 := small_run q3
      clear q1 q2 q3 q8 q9 q12 HR1' HO1'
      go_wp2_with fail
      refine (accept_any b s j 41 _ HR2.out.rc (by omega)).mono ?_
      rintro e w3 ⟨q, j3, rfl, hm3, hq3⟩
      have HM3 : Hid (Mv b w2 w3 j3) := hm3
      clear hm3
      rcases hq3 with ⟨rfl, m1, m2⟩ | ⟨rfl, m1, m2⟩
      · obtain ⟨m3, m4⟩ := pk_is (c := 41) m1
        have hm12 : st2.m = 1 ∨ st2.m = 2 := by
          rcases HQ2.out.1.1 with x | x
          · exact .inl x.1
          · exact .inr x
        have HG3 : Hid (run s j3 = some ⟨1, o, g', st2.l⟩) := by
          rw [m2, Hid, run_succ HG2.out, m4, step_close (s := s) hm12 (by omega), q4, q5]; rfl
        have HR3 : Hid (Rd w3 b s j3 (o + 1) g' nv' n') := Mv.rd HM3.out HR2.out (by omega)
        have rr := HR3.out
        obtain ⟨⟨a0, a1, af, ale, a40⟩, b2, b3, b4, bf2, bf3, bf4, own3, hwf3⟩ := rr
        have HOB : Hid (nv'.ownBlock ≠ some w3.heap.size) := by
          obtain ⟨xs, ho, _⟩ := own3
          exact fun e => by have := (ho.lt _ e).2; omega
        clear own3 hwf3
        have HR4 : Hid (Rd (w3.setCell ⟨b, 2, none⟩ (.int .i64 (o : Int))) b s j3 o g' nv' n') := HR3.out.put2 (v := (o : Int)) o rfl
        have HO4 : Hid (Only b w3 (w3.setCell ⟨b, 2, none⟩ (.int .i64 (o : Int)))) := (Only.refl b w3).setCell 2 _
        go_wp2_with fail
        have hBb := fun ob => (Below.refl (w3.setCell ⟨b, 2, none⟩ (.int .i64 (o : Int))).heap.size (w3.setCell ⟨b, 2, none⟩ (.int .i64 (o : Int)))).alloc (Nat.le_refl _) ob
        have hbs : b < w3.heap.size := World.block_lt_of_cell? w3 _ a0
        have hz3 : (w3.setCell ⟨b, 2, none⟩ (.int .i64 (o : Int))).heap.size = w3.heap.size := size_set _ _ _
        have hXg : ¬ n'.X w3.heap.size := fun h => by
          rw [HXN.out] at h
          have h1 := HXX.out _ h
          have h2 := (HF2.out.trans (Mv.fr HM3.out nv')).size
          omega
        refine (add_any b j3 o g' n' s nv' _ (Below.rd (hBb _) HR4.out) (by omega) (grpN zn g) 3 _ 0 0 1 _ _ 0 0 0 0 rfl rfl (by unfold pnum grpN; simp) rfl rfl S4.zero (.inr ⟨w3.heap.size, rfl, by omega, HOB.out, hXg, fun k y hy => ?_⟩) (Nat.le_refl 1) ⟨by unfold grpN; simp, fun x hx => by unfold grpN at hx; simp at hx; omega, fun _ => ⟨zn, rfl⟩, fun h => by unfold grpN at h; simp at h, fun h => by unfold grpN at h; simp at h, fun _ => HGG.out⟩).mono ?_
        · have hk0 : k = 0 := by
            have := (List.getElem?_eq_some_iff.1 hy).1
            simp [grpN] at this
            exact this
          subst hk0
          have hyz : y = zn := by simpa [grpN] using hy.symm
          subst hyz
          have := cell_new_one (w3.setCell ⟨b, 2, none⟩ (.int .i64 (o : Int))) (.int .i64 (y : Int)) 3
          rw [hz3] at this
          exact this
        rintro e w8 ⟨nv8, rfl, p1, p2⟩
        go_wp2_with fail
        go_ret2
        exact ⟨_, true, rfl, .inl ⟨rfl, _, _, _, nv8, _, n'.l.length, p1, (((HF2.out.trans (Mv.fr HM3.out nv')).trans (Only.fr HO4.out nv')).trans (Below.fr (hBb _) nv')).trans p2, HG3.out, rfl, rfl, by omega, by rw [len_add]; omega, rfl, HXN.out, rfl, by rw [len_add]; omega, by rw [HCN.out, m2]; rfl⟩⟩
      · have HF : Hid (Fails s j3) := by
          rw [m2]
          refine Fails.here HG2.out hjs (fun hlt => step_stuck HQ2.out hlt (.inl m1)) (fun _ => ?_)
          have : st2.o ≠ 0 := by omega
          simp [whole, this]
        have HB : Hid (Below b w w3) := (HF2.out.trans (Mv.fr HM3.out nv')).below HR.out
        go_wp2_with fail
        go_ret2
        exact ⟨_, false, rfl, .inr ⟨rfl, j3, HF.out, HM3.out.c1, HB.out⟩⟩
    · have HF : Hid (Fails s j) := q1
      have HB : Hid (Below b w w2) := ((Only.fr HO1'.out nv).below HR.out).trans q3
      have HC : Hid (w2.cell? ⟨b, 1, none⟩ = some (.int .i64 j)) := q2
      clear q1 q2 q3 HR1' HO1'
      go_wp2_with fail
      go_ret2
      exact ⟨_, false, rfl, .inr ⟨rfl, j, HF.out, HC.out, HB.out⟩⟩
end Tr
end Go.Proofs.Ytppjlpihaocdiaa
