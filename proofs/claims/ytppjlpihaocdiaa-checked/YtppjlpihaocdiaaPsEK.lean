/- Several texts in one. -/
import Derived.Test.YtppjlpihaocdiaaPsBK
import Derived.Maps.Own
import Derived.Maps.Views
/- The program's reader of scripts: a map of names; where the labels point. -/
set_option linter.unusedSimpArgs false
set_option linter.unusedVariables false
namespace Go.Proofs.Ytppjlpihaocdiaa
namespace Rs
open Go.RowKit

/-- Each label that is wanted belongs to a command. -/
def Lb (p : RSt) : Prop := ∀ x ∈ p.labs, x.want = true → x.cmd < p.cmds.length

theorem Lb.more {p : RSt} (h : Lb p) {i : Nat} {o : Nat} {lg : Int} {cs : List Cm} (hc : p.cmds.length ≤ cs.length) : Lb ⟨i, o, cs, p.labs, lg⟩ := fun x hx hw => Nat.lt_of_lt_of_le (h x hx hw) hc

section
variable {row : RSt → RSt × Bool} {s : ByteArray}
theorem blockF_lb (hrow : ∀ p, Lb p → (row p).2 = true → Lb (row p).1) {p : RSt} {c : Cm} (h : Lb p) (hok : (blockF row s p c).2 = true) : Lb (blockF row s p c).1 := by
  unfold blockF at *
  split
  · rename_i h5
    rw [if_pos h5] at hok
    cases hok
  · rename_i h5
    rw [if_neg h5] at hok
    simp only at *
    split
    · rename_i h1
      have := hrow _ (h.more (i := p.at' + 1) (o := p.op + 1) (lg := p.long) (cs := p.cmds ++ [c]) (by simp)) h1.1
      intro x hx hw
      have h2 := this x hx hw
      show x.cmd < (setGoal _ _ _).length
      rw [setGoal_length]
      exact h2
    · rename_i h1
      rw [if_neg h1] at hok
      cases hok

theorem whatF_lb (hrow : ∀ p, Lb p → (row p).2 = true → Lb (row p).1) {p : RSt} {c : Cm} (h : Lb p) (hok : (whatF row s p c).2 = true) : Lb (whatF row s p c).1 := by
  unfold whatF at *
  split
  · rename_i h0
    rw [if_pos h0] at hok
    simp only at *
    split
    · rename_i h1
      rw [if_pos h1] at hok
      exact blockF_lb hrow h hok
    · rename_i h1
      rw [if_neg h1] at hok
      split
      · rename_i h2
        rw [if_pos h2] at hok
        split
        · exact h.more (by simp)
        · exact h.more (by simp)
      · split
        · intro x hx hw
          show x.cmd < (p.cmds ++ [_]).length
          rw [List.length_append, List.length_singleton]
          rcases List.mem_append.1 (show x ∈ p.labs ++ [_] from hx) with hx | hx
          · have := h x hx hw; omega
          · have e : x = ⟨s.extract (p.at' + 1) (labF s 8 (p.at' + 1)), p.at' + 1, p.cmds.length, true⟩ := by simpa using hx
            rw [e]
            show p.cmds.length < p.cmds.length + 1
            omega
        · split
          · exact h.more (by simp)
          · split
            · exact h.more (by simp)
            · exact h.more (by simp)
  · rename_i h0
    exact h

theorem commandF_lb (hrow : ∀ p, Lb p → (row p).2 = true → Lb (row p).1) {p : RSt} (h : Lb p) (hok : (commandF row s p).2 = true) : Lb (commandF row s p).1 := by
  unfold commandF at *
  simp only at *
  split
  · rename_i h0
    rw [if_pos h0] at hok
    split
    · rename_i h1
      rw [if_pos h1] at hok
      split
      · exact h.more (Nat.le_refl _)
      · rename_i h2
        rw [if_neg h2] at hok
        exact whatF_lb hrow (h.more (Nat.le_refl _)) hok
    · rename_i h1
      rw [if_neg h1] at hok
      split
      · split
        · intro x hx hw
          rcases List.mem_append.1 (show x ∈ p.labs ++ [_] from hx) with hx | hx
          · exact h x hx hw
          · have e : x.want = false := by
              have e : x = ⟨s.extract ((addrF s p.at' p.long).1 + 1) (labF s 8 ((addrF s p.at' p.long).1 + 1)), (addrF s p.at' p.long).1 + 1, p.cmds.length, false⟩ := by simpa using hx
              rw [e]
            rw [e] at hw
            cases hw
        · exact h.more (Nat.le_refl _)
      · rename_i h2
        rw [if_neg h2] at hok
        exact whatF_lb hrow (h.more (Nat.le_refl _)) hok
  · exact h.more (Nat.le_refl _)

theorem rowL'_lb (hrow : ∀ p, Lb p → (row p).2 = true → Lb (row p).1) : ∀ (f : Nat) (p : RSt), Lb p → (rowL' row s f p).2 = true → Lb (rowL' row s f p).1
  | 0, p, h, hok => h
  | f + 1, p, h, hok => by
    unfold rowL' at *
    simp only at *
    split
    · exact h.more (Nat.le_refl _)
    · rename_i h0
      rw [if_neg h0] at hok
      have h' : Lb { p with at' := skip s between p.at' } := h.more (Nat.le_refl _)
      split
      · rename_i h1
        rw [if_pos h1] at hok
        have h2 := commandF_lb hrow h' h1
        split
        · rename_i h3
          rw [if_pos h3] at hok
          exact rowL'_lb hrow f _ (h2.more (Nat.le_refl _)) hok
        · exact h2.more (Nat.le_refl _)
      · rename_i h1
        rw [if_neg h1] at hok
        exact absurd hok h1
end

theorem rowN_lb (s : ByteArray) : ∀ (N : Nat) (p : RSt), Lb p → (rowN s N p).2 = true → Lb (rowN s N p).1
  | 0, p, h, hok => h
  | N + 1, p, h, hok => rowL'_lb (rowN_lb s N) (s.size + 1) p h hok

/-- A map of names to numbers. -/
def MapF (w : World) (b n : Nat) (f : List UInt8 → Option Nat) : Prop := ∃ D : DataW Unit, w.ownsMap Try.prog 9 (plainElem Try.prog 3) b n D ∧ Maps.IsMap D ∧ ∀ (k : List UInt8) (zd : DataW Unit), D.atKey (.string k) zd = match f k with
  | none => zd
  | some m => .lit (.int .i64 (m : Int))

theorem MapF.made (w : World) : MapF (w.alloc (.map #[] 0)) w.heap.size 0 (fun _ => none) :=
  ⟨.map [], World.ownsMap_made w Try.prog 9 _, Maps.isMap_empty, fun k zd => rfl⟩

theorem MapF.of {w w' : World} {b n : Nat} {f : List UInt8 → Option Nat} (h : MapF w b n f) (hx : w'.heap[b]? = w.heap[b]?) : MapF w' b n f := by
  obtain ⟨D, ⟨es, clock, h1, h2, h3, h4⟩, hm, hf⟩ := h
  exact ⟨D, ⟨es, clock, hx.trans h1, h2, h3, h4⟩, hm, hf⟩

theorem MapF.lt {w : World} {b n : Nat} {f : List UInt8 → Option Nat} (h : MapF w b n f) : b < w.heap.size := by
  obtain ⟨D, ho, _⟩ := h
  exact ho.lt

theorem zero_int (w : World) : (zeroValue 3).run Try.prog w = .ok (.int .i64 0) w := by
  exact (zero_of_info (P := Try.prog) (t := 3) (v := .int .i64 0) (n := 1) (by kernel_rfl)).1 w

theorem MapF.look {w : World} {b n : Nat} {f : List UInt8 → Option Nat} (h : MapF w b n f) (x : ByteArray) (hs : x.size ≤ maxLen) :
    (Instr.lookup 119 (.map (some b)) (.string x) true).run Try.prog w = .ok (match f x.data.toList with | none => .tuple #[.int .i64 0, .bool false] | some m => .tuple #[.int .i64 (m : Int), .bool true]) w := by
  obtain ⟨D, ⟨es, clock, h1, h2, h3, rfl⟩, hm, hf⟩ := h
  have hkey : keyOf Try.prog 9 (.string x) = some (.string x.data.toList) := WideMaps.keyOf_string_mk Try.underlying9 hs
  rcases Maps.fit_look true (Maps.string_keyed Try.underlying9) Try.underlying119 (zero_int w) h1 h2 hkey with ⟨hrun, _, hat⟩ | ⟨e0, y, _, _, hrun, hRv, hat, _⟩
  · cases hfx : f x.data.toList with
    | none => exact hrun
    | some m =>
      have e := hf x.data.toList (.map [])
      rw [hat, hfx] at e
      cases e
  · obtain ⟨a, ha, hz, _⟩ := plainElem_int_inv Try.underlying3 hRv
    cases hfx : f x.data.toList with
    | none =>
      have e := hf x.data.toList (.map [])
      rw [hat, hfx, hz] at e
      cases e
    | some m =>
      have e := hf x.data.toList (.map [])
      rw [hat, hfx, hz] at e
      have e' : (DataW.lit (Lit.int .i64 a) : DataW Unit) = .lit (.int .i64 (m : Int)) := e
      have ham : a = (m : Int) := by
        generalize (m : Int) = z at e'
        cases e'
        rfl
      rw [hrun, ha, ham]
      rfl

theorem MapF.put {w : World} {b n m : Nat} {f : List UInt8 → Option Nat} (h : MapF w b n f) (x : ByteArray) (hs : x.size ≤ maxLen) (hn : n < maxLen) (hmm : m ≤ 1000000) :
    ∃ w', (Instr.mapUpdate 119 (.map (some b)) (.string x) (.int .i64 (m : Int))).run Try.prog w = .ok () w' ∧ MapF w' b (n + 1) (fun k => if k = x.data.toList then some m else f k) ∧ w.grownBy w' (some b) := by
  obtain ⟨D, ho, hm, hf⟩ := h
  have hkey : keyOf Try.prog 9 (.string x) = some (.string x.data.toList) := WideMaps.keyOf_string_mk Try.underlying9 hs
  have hwf : (Lit.int .i64 (m : Int)).wf = true := WalkArith.wf_i64 (by omega)
  obtain ⟨w', hrun, ho', hg⟩ := ho.update (Maps.string_keyed Try.underlying9) Try.underlying119 hn hkey (plainElem_int Try.underlying3 hwf)
  refine ⟨w', hrun, ⟨_, ho', ?_, fun k zd => ?_⟩, hg⟩
  · exact hm.put _ _
  · simp only
    by_cases e : k = x.data.toList
    · subst e
      rw [if_pos rfl, Maps.atKey_put_same hm (show WideAt.IsKeyLit (.string x.data.toList) from trivial)]
    · rw [if_neg e, Maps.atKey_put_other (fun e2 => e (by injection e2))]
      exact hf k zd

end Rs
end Go.Proofs.Ytppjlpihaocdiaa

/- The program's reader of scripts: the marks. -/
set_option linter.unusedSimpArgs false
set_option linter.unusedVariables false
namespace Go.Proofs.Ytppjlpihaocdiaa
namespace Rs
open Go.RowKit

theorem labL_at : ∀ (l : List Lab) (j : Nat) (x : Lab) (o : Nat) (v : Value), l[j]? = some x → [Value.string x.name, .int .i64 (x.at' : Int), .int .i64 (x.cmd : Int), .bool x.want][o]? = some v → (labL l)[j * 4 + o]? = some v
  | [], j, x, o, v, h, _ => by simp at h
  | y :: l, 0, x, o, v, h, ho => by
    have : y = x := by simpa using h
    subst this
    have ho4 : o < 4 := (List.getElem?_eq_some_iff.1 ho).1
    show ([Value.string y.name, .int .i64 (y.at' : Int), .int .i64 (y.cmd : Int), .bool y.want] ++ labL l)[0 * 4 + o]? = some v
    rw [List.getElem?_append_left (by simp; omega), Nat.zero_mul, Nat.zero_add]
    exact ho
  | y :: l, j + 1, x, o, v, h, ho => by
    show ([Value.string y.name, .int .i64 (y.at' : Int), .int .i64 (y.cmd : Int), .bool y.want] ++ labL l)[(j + 1) * 4 + o]? = some v
    rw [List.getElem?_append_right (by simp; omega)]
    have := labL_at l j x o v (by simpa using h) ho
    rw [show (j + 1) * 4 + o - [Value.string y.name, .int .i64 (y.at' : Int), .int .i64 (y.cmd : Int), .bool y.want].length = j * 4 + o by simp; omega]
    exact this

theorem markF_shift (name : ByteArray) : ∀ (l : List Lab) (k : Nat), markF name l k = (markF name l 0).map (· + k)
  | [], k => rfl
  | x :: l, k => by
    unfold markF
    split
    · simp
    · rw [markF_shift name l (k + 1), markF_shift name l (0 + 1)]
      cases markF name l 0 with
      | none => rfl
      | some m => simp; omega

theorem markF_snoc (name : ByteArray) : ∀ (l : List Lab) (x : Lab), markF name (l ++ [x]) 0 = match markF name l 0 with
    | some m => some m
    | none => if x.want = false ∧ x.name = name then some l.length else none
  | [], x => by simp [markF]
  | y :: l, x => by
    have ih := markF_snoc name l x
    unfold markF
    rw [List.cons_append]
    simp only
    by_cases h : y.want = false ∧ y.name = name
    · rw [if_pos h, if_pos h]
    · rw [if_neg h, if_neg h, markF_shift name (l ++ [x]) (0 + 1), markF_shift name l (0 + 1), ih]
      cases markF name l 0 with
      | some m => rfl
      | none =>
        by_cases h2 : x.want = false ∧ x.name = name
        · simp [h2]
        · simp [h2]

theorem markF_lt (name : ByteArray) : ∀ (l : List Lab) (k m : Nat), markF name l k = some m → m < k + l.length ∧ k ≤ m
  | [], k, m, h => by simp [markF] at h
  | x :: l, k, m, h => by
    unfold markF at h
    split at h
    · cases h; exact ⟨by simp, Nat.le_refl _⟩
    · have := markF_lt name l (k + 1) m h
      rw [List.length_cons]; omega

/-- The marks among the first j labels. -/
def marksOf (l : List Lab) (k : List UInt8) : Option Nat := markF ⟨k.toArray⟩ l 0

theorem bytes_eta (x : ByteArray) : (⟨x.data.toList.toArray⟩ : ByteArray) = x := by
  apply ByteArray.ext; simp
theorem marksOf_name (l : List Lab) (x : ByteArray) : marksOf l x.data.toList = markF x l 0 := by rw [marksOf, bytes_eta]

/-- One label more. -/
theorem marksOf_snoc (l : List Lab) (x : Lab) : marksOf (l ++ [x]) = if markF x.name l 0 = none ∧ x.want = false then (fun k => if k = x.name.data.toList then some l.length else marksOf l k) else marksOf l := by
  funext k
  rw [marksOf, markF_snoc]
  by_cases hk : k = x.name.data.toList
  · subst hk
    rw [bytes_eta]
    by_cases h : markF x.name l 0 = none ∧ x.want = false
    · rw [if_pos h, h.1]
      simp [h.2]
    · rw [if_neg h, marksOf_name]
      cases hm : markF x.name l 0 with
      | some m => rfl
      | none =>
        simp only
        rw [if_neg]
        rintro ⟨a, _⟩
        exact h ⟨hm, a⟩
  · have hne : ¬ x.name = ⟨k.toArray⟩ := fun e => hk (by rw [e])
    have e1 : (match markF ⟨k.toArray⟩ l 0 with | some m => some m | none => if x.want = false ∧ x.name = ⟨k.toArray⟩ then some l.length else none) = marksOf l k := by
      rw [marksOf]
      cases markF ⟨k.toArray⟩ l 0 with
      | some m => rfl
      | none => simp [hne]
    rw [e1]
    split
    · simp [hk]
    · rfl

/-- The labels as they are read. -/
theorem Rk.labCell {w : World} {b gl n cap : Nat} {s : ByteArray} {p : RSt} {cv : Value} (h : Rk w b s p cv (.slice (some ⟨gl, 0, none⟩) n cap)) {j : Nat} {x : Lab} (hx : p.labs[j]? = some x) (o : Nat) (v : Value) (hv : [Value.string x.name, .int .i64 (x.at' : Int), .int .i64 (x.cmd : Int), .bool x.want][o]? = some v) : w.cell? ⟨gl, j * 4 + o, none⟩ = some v := by
  have hn : n = p.labs.length := by
    rcases h.lab.2 with ⟨e, _⟩ | ⟨_, _, _, e, _⟩
    · cases e
    · cases e; rfl
  subst hn
  have hj := (List.getElem?_eq_some_iff.1 hx).1
  have ho : o < 4 := (List.getElem?_eq_some_iff.1 hv).1
  rw [h.lab.cellAt (j * 4 + o) (by omega)]
  exact labL_at p.labs j x o v hx hv

theorem Rk.lvForm {w : World} {b : Nat} {s : ByteArray} {p : RSt} {cv lv : Value} (h : Rk w b s p cv lv) : (p.labs = [] ∧ ∃ ao cap, lv = .slice ao 0 cap) ∨ ∃ gl cap, lv = .slice (some ⟨gl, 0, none⟩) p.labs.length cap ∧ b < gl ∧ gl < w.heap.size := by
  rcases h.lab.2 with ⟨e, e2⟩ | ⟨g, c, _, e, _⟩
  · exact .inl ⟨List.length_eq_zero_iff.1 e2, none, 0, e⟩
  · subst e
    have := h.lab.lt g rfl
    exact .inr ⟨g, c, rfl, by omega, this.2⟩

set_option maxRecDepth 100000 in
set_option maxHeartbeats 4000000 in
theorem marks_any (b : Nat) (s : ByteArray) (p : RSt) (cv lv : Value) (w : World) (hr : Rk w b s p cv lv) (hn : p.labs.length ≤ 400) (hsz : ∀ x ∈ p.labs, x.name.size ≤ 400) :
    Calls Try.prog 68 #[.pointer (some ⟨b, 0, none⟩)] w fun e w' => ∃ B, e = .returned (.map (some B)) ∧ w.heap.size ≤ B ∧ Below w.heap.size w w' ∧ MapF w' B p.labs.length (marksOf p.labs) := by
  have HK : Hid (Rk w b s p cv lv) := hr
  have hb := hr.lt
  have HSZ : Hid (∀ x ∈ p.labs, x.name.size ≤ 400) := hsz
  rcases hr.lvForm with ⟨he, ao, cap, rfl⟩ | ⟨gl, cap, rfl, hgl1, hgl2⟩
  · have hmk := fun w => run_makeMap (P := Try.prog) 119 w
    obtain ⟨⟨⟨r0, r1, rf, _, _⟩, r5, rf5⟩, r2, r3, r4, rf2, rf3, rf4, _, _, _⟩ := hr
    have HM : Hid (MapF (w.alloc (.map #[] 0)) w.heap.size p.labs.length (marksOf p.labs)) := by
      rw [he]
      exact MapF.made w
    clear hsz
    go_enter Try.func68, Try.ntmps68
    go_wp2_with fail
    go_loopw [14] (fun v wr => v = .int .i64 0 ∧ wr = w.alloc (.map #[] 0)) (fun _ _ => 0)
    case atStart => exact ⟨rfl, rfl⟩
    case round =>
      obtain ⟨rfl, rfl⟩ := hrel
      go_wp2_with fail
      go_ret
      exact ⟨_, rfl, Nat.le_refl _, (Below.refl _ _).alloc (Nat.le_refl _) _, HM.out⟩
  · have hmk := fun w => run_makeMap (P := Try.prog) 119 w
    obtain ⟨⟨⟨r0, r1, rf, _, _⟩, r5, rf5⟩, r2, r3, r4, rf2, rf3, rf4, _, _, _⟩ := hr
    clear hsz
    go_enter Try.func68, Try.ntmps68
    go_wp2_with fail
    go_loopw [14] (fun v wr => ∃ j : Nat, v = .int .i64 (j : Int) ∧ j ≤ p.labs.length ∧ Hid (Below w.heap.size w wr) ∧ Hid (MapF wr w.heap.size j (marksOf (p.labs.take j)))) (fun v _ => p.labs.length - (intOf v).toNat)
    case atStart => exact ⟨0, rfl, Nat.zero_le _, (Below.refl _ _).alloc (Nat.le_refl _) _, MapF.made w⟩
    case round =>
      obtain ⟨j, rfl, hj, HB, HM⟩ := hrel
      by_cases hjn : j = p.labs.length
      · subst hjn
        go_wp2_with fail
        go_ret
        refine ⟨_, rfl, Nat.le_refl _, HB.out, ?_⟩
        have := HM.out
        rw [List.take_length] at this
        exact this
      · have hjl : j < p.labs.length := by omega
        obtain ⟨x, hx⟩ : ∃ x, p.labs[j]? = some x := ⟨_, List.getElem?_eq_getElem hjl⟩
        have HX : Hid (p.labs.take (j + 1) = p.labs.take j ++ [x]) := by rw [Hid, List.take_add_one, hx]; rfl
        have hxs := HSZ.out x (List.mem_of_getElem? hx)
        have hmx : x.name.size ≤ maxLen := by unfold maxLen; omega
        have hcell : ∀ o v, [Value.string x.name, .int .i64 (x.at' : Int), .int .i64 (x.cmd : Int), .bool x.want][o]? = some v → wr.cell? ⟨gl, j * 4 + o, none⟩ = some v := fun o v hv => (HB.out.cell (p := ⟨gl, j * 4 + o, none⟩) hgl2).trans (HK.out.labCell hx o v hv)
        have m0 := hcell 0 _ rfl
        have m1 := hcell 1 _ rfl
        have m2 := hcell 2 _ rfl
        have m3 := hcell 3 _ rfl
        rw [Nat.add_zero] at m0
        have k1 : (0 : Int) ≤ (j : Int) := by omega
        have k2 : (j : Int) < (p.labs.length : Int) := by omega
        have hzr : w.heap.size < wr.heap.size := HM.out.lt
        have HMA : Hid (MapF (wr.alloc (.cells #[.string x.name, .int .i64 (x.at' : Int), .int .i64 (x.cmd : Int), .bool x.want] 122)) w.heap.size j (marksOf (p.labs.take j))) := HM.out.of (Below.heap_alloc _ _ _ hzr)
        have HBA : Hid (Below w.heap.size w (wr.alloc (.cells #[.string x.name, .int .i64 (x.at' : Int), .int .i64 (x.cmd : Int), .bool x.want] 122))) := HB.out.alloc HB.out.size _
        have hlook := HMA.out.look x.name hmx
        rw [marksOf_name] at hlook
        have HTJ : Hid ((p.labs.take j).length = j) := by rw [Hid, List.length_take]; omega
        clear hcell hx
        cases hmk2 : markF x.name (p.labs.take j) 0 with
        | some m =>
          rw [hmk2] at hlook
          simp only at hlook
          have HMJ : Hid (marksOf (p.labs.take (j + 1)) = marksOf (p.labs.take j)) := by rw [Hid, HX.out, marksOf_snoc, if_neg (fun h => by rw [hmk2] at h; cases h.1)]
          clear hmk2
          go_wp2_with fail
          go_roundw
          case rel => exact ⟨j + 1, rfl, by omega, HBA.out, by rw [Hid, HMJ.out]; obtain ⟨D, ho, h⟩ := HMA.out; exact ⟨D, ho.mono (by omega), h⟩⟩
          case measure => simp [intOf]; omega
        | none =>
          rw [hmk2] at hlook
          simp only at hlook
          cases hw : x.want with
          | true =>
            rw [hw] at m3 hlook HMA HBA
            have HMJ : Hid (marksOf (p.labs.take (j + 1)) = marksOf (p.labs.take j)) := by rw [Hid, HX.out, marksOf_snoc, if_neg (fun h => by rw [hw] at h; cases h.2)]
            clear hmk2 hw
            go_wp2_with fail
            go_roundw
            case rel => exact ⟨j + 1, rfl, by omega, HBA.out, by rw [Hid, HMJ.out]; obtain ⟨D, ho, h⟩ := HMA.out; exact ⟨D, ho.mono (by omega), h⟩⟩
            case measure => simp [intOf]; omega
          | false =>
            rw [hw] at m3 hlook HMA HBA
            have HMJ : Hid (marksOf (p.labs.take (j + 1)) = fun k => if k = x.name.data.toList then some j else marksOf (p.labs.take j) k) := by rw [Hid, HX.out, marksOf_snoc, if_pos ⟨hmk2, hw⟩, HTJ.out]
            obtain ⟨wu, hrun, hmu, hgu⟩ := HMA.out.put (m := j) x.name hmx (by unfold maxLen; omega) (by omega)
            have HMU : Hid (MapF wu w.heap.size (j + 1) (marksOf (p.labs.take (j + 1)))) := by rw [Hid, HMJ.out]; exact hmu
            have HBU : Hid (Below w.heap.size w wu) := HBA.out.trans ⟨hgu.os, hgu.tape, hgu.output, hgu.size, fun k hk => hgu.block k (by simp; omega) (fun e => by injection e with e; omega)⟩
            clear hmk2 hw hmu hgu
            go_wp2_with fail
            go_roundw
            case rel => exact ⟨j + 1, rfl, by omega, HBU.out, HMU.out⟩
            case measure => simp [intOf]; omega

end Rs
end Go.Proofs.Ytppjlpihaocdiaa

/- The program's reader of scripts: the goals. -/
set_option linter.unusedSimpArgs false
set_option linter.unusedVariables false
namespace Go.Proofs.Ytppjlpihaocdiaa
namespace Rs
open Go.RowKit

/-- What 'join' leaves. -/
def JPost (b : Nat) (s : ByteArray) (p : RSt) (cv lv : Value) (w : World) (R : Except Nat (List Cm)) : Ending → World → Prop := fun e w' => match R with
  | .error i => e = .returned (.tuple #[.int .i64 (i : Int), .bool false]) ∧ Below b w w'
  | .ok cs => e = .returned (.tuple #[.int .i64 0, .bool true]) ∧ Below b w w' ∧ Rk w' b s { p with cmds := cs } cv lv

theorem size_empty {x : ByteArray} (h : x.size = 0) : x.toList.isEmpty = true := by
  rw [ByteArray.toList_eq, List.isEmpty_iff]
  exact List.length_eq_zero_iff.1 h
theorem size_some {x : ByteArray} (h : ¬ x.size = 0) : x.toList.isEmpty = false := by
  rw [ByteArray.toList_eq, List.isEmpty_eq_false_iff]
  intro e
  exact h (by show x.data.toList.length = 0; rw [e]; rfl)

set_option maxRecDepth 100000 in
set_option maxHeartbeats 8000000 in
theorem join_any (b : Nat) (s : ByteArray) (p : RSt) (cv lv : Value) (w : World) (hr : Rk w b s p cv lv) (hlb : Lb p) (hn : p.labs.length ≤ 400) (hn2 : p.cmds.length ≤ 400) (hsz : ∀ x ∈ p.labs, x.name.size ≤ 400) :
    Calls Try.prog 37 #[.pointer (some ⟨b, 0, none⟩)] w (JPost b s p cv lv w (joinL p.labs p.cmds.length p.labs 0 p.cmds)) := by
  have HK : Hid (Rk w b s p cv lv) := hr
  have hb := hr.lt
  have HSZ : Hid (∀ x ∈ p.labs, x.name.size ≤ 400) := hsz
  have HLB : Hid (Lb p) := hlb
  have HMK : Hid (Calls Try.prog 68 #[.pointer (some ⟨b, 0, none⟩)] w fun e w' => ∃ B, e = .returned (.map (some B)) ∧ w.heap.size ≤ B ∧ Below w.heap.size w w' ∧ MapF w' B p.labs.length (marksOf p.labs)) := marks_any b s p cv lv w hr hn hsz
  generalize hR : joinL p.labs p.cmds.length p.labs 0 p.cmds = R
  have HR : Hid (joinL p.labs p.cmds.length p.labs 0 p.cmds = R) := hR
  clear hR hlb hsz
  obtain ⟨ao, cap0, hcvf⟩ : ∃ ao cap0, cv = .slice ao p.cmds.length cap0 := by
    obtain ⟨xs, own, _⟩ := hr.own
    rcases own.2 with ⟨e, e2⟩ | ⟨g, c, _, e, _⟩
    · exact ⟨none, 0, by rw [e, e2]⟩
    · exact ⟨_, _, e⟩
  rcases hr.lvForm with ⟨he, ao1, cap, rfl⟩ | ⟨gl, cap, rfl, hgl1, hgl2⟩
  · clear hr
    have HRK : Hid (R = .ok p.cmds) := by rw [Hid, ← HR.out, he]; rfl
    go_enter Try.func37, Try.ntmps37
    go_wp2_with fail
    refine HMK.out.mono ?_
    rintro e w1 ⟨B, rfl, hB, hbl, hmf⟩
    have HB1 : Hid (Below w.heap.size w w1) := hbl
    have HK1 : Hid (Rk w1 b s p cv (.slice ao1 0 cap)) := HK.out.beside hbl.size hbl.block
    obtain ⟨⟨⟨r0, r1, rf, _, _⟩, r5, rf5⟩, r2, r3, r4, rf2, rf3, rf4, _, _, _⟩ := HK1.out
    clear hbl hmf
    go_wp2_with fail
    go_loopw [17] (fun v wr => v = .int .i64 0 ∧ wr = w1) (fun _ _ => 0)
    case atStart => exact ⟨rfl, rfl⟩
    case round =>
      obtain ⟨rfl, rfl⟩ := hrel
      go_wp2_with fail
      exact bodyPost_ret (v := .tuple #[.int .i64 0, .bool true]) (by simp [results, Try.results37, go_sem]) rfl (by rw [HRK.out]; exact ⟨rfl, HB1.out.mono (by omega), HK1.out⟩)
  · clear hr
    go_enter Try.func37, Try.ntmps37
    go_wp2_with fail
    refine HMK.out.mono ?_
    rintro e w1 ⟨B, rfl, hB, hbl, hmf⟩
    have HB1 : Hid (Below w.heap.size w w1) := hbl
    have HM1 : Hid (MapF w1 B p.labs.length (marksOf p.labs)) := hmf
    have HK1 : Hid (Rk w1 b s p cv (.slice (some ⟨gl, 0, none⟩) p.labs.length cap)) := HK.out.beside hbl.size hbl.block
    obtain ⟨⟨⟨r0, r1, rf, _, _⟩, r5, rf5⟩, r2, r3, r4, rf2, rf3, rf4, _, _, _⟩ := HK1.out
    clear hbl hmf
    go_wp2_with fail
    clear r0 r1 rf r5 rf5 r2 r3 r4 rf2 rf3 rf4
    go_loopw [17] (fun v wr => ∃ (j : Nat) (cs : List Cm), v = .int .i64 (j : Int) ∧ j ≤ p.labs.length ∧ Hid (Rk wr b s { p with cmds := cs } cv (.slice (some ⟨gl, 0, none⟩) p.labs.length cap)) ∧ Hid (Fq b cv cv (.slice (some ⟨gl, 0, none⟩) p.labs.length cap) (.slice (some ⟨gl, 0, none⟩) p.labs.length cap) w wr) ∧ Hid (MapF wr B p.labs.length (marksOf p.labs)) ∧ Hid (cs.length = p.cmds.length) ∧ Hid (R = joinL p.labs p.cmds.length (p.labs.drop j) j cs)) (fun v _ => p.labs.length - (intOf v).toNat)
    case atStart => exact ⟨0, p.cmds, rfl, Nat.zero_le _, HK1, Fq.mw (Mw.below HB1.out hb), HM1, rfl, HR.out.symm⟩
    case round =>
      obtain ⟨j, cs, rfl, hj, HKr, HFr, HMr, HCL, HJ⟩ := hrel
      have hbr : b < wr.heap.size := HKr.out.lt
      by_cases hjn : j = p.labs.length
      · subst hjn
        have HRK : Hid (R = .ok cs) := by rw [Hid, HJ.out, List.drop_length]; rfl
        go_wp2_with fail
        exact bodyPost_ret (v := .tuple #[.int .i64 0, .bool true]) (by simp [results, Try.results37, go_sem]) rfl (by rw [HRK.out]; exact ⟨rfl, HFr.out.below HK.out, HKr.out⟩)
      · have hjl : j < p.labs.length := by omega
        obtain ⟨x, hx⟩ : ∃ x, p.labs[j]? = some x := ⟨_, List.getElem?_eq_getElem hjl⟩
        have hcsl : cs.length = p.cmds.length := HCL.out
        have HD : Hid (R = if x.name.size = 0 then joinL p.labs p.cmds.length (p.labs.drop (j + 1)) (j + 1) (if x.want = true then setGoal cs x.cmd p.cmds.length else cs) else match markF x.name p.labs 0 with
            | none => .error x.at'
            | some m => if x.want = false ∧ m ≠ j then .error x.at' else joinL p.labs p.cmds.length (p.labs.drop (j + 1)) (j + 1) (if x.want = true then setGoal cs x.cmd ((p.labs[m]?.map Lab.cmd).getD 0) else cs)) := by
          rw [Hid, HJ.out, List.drop_eq_getElem_cons hjl, show p.labs[j] = x from by rw [List.getElem?_eq_getElem hjl] at hx; exact Option.some.inj hx]
          rfl
        have hxs := HSZ.out x (List.mem_of_getElem? hx)
        have hmx : x.name.size ≤ maxLen := by unfold maxLen; omega
        have hwc : x.want = true → x.cmd < cs.length := fun h => by rw [hcsl]; exact HLB.out x (List.mem_of_getElem? hx) h
        have hcell : ∀ i y, p.labs[i]? = some y → ∀ o v, [Value.string y.name, .int .i64 (y.at' : Int), .int .i64 (y.cmd : Int), .bool y.want][o]? = some v → wr.cell? ⟨gl, i * 4 + o, none⟩ = some v := fun i y hy o v hv => HKr.out.labCell hy o v hv
        have HCELL : Hid (∀ i y, p.labs[i]? = some y → ∀ o v, [Value.string y.name, .int .i64 (y.at' : Int), .int .i64 (y.cmd : Int), .bool y.want][o]? = some v → wr.cell? ⟨gl, i * 4 + o, none⟩ = some v) := hcell
        have m0 := hcell j x hx 0 _ rfl
        have m1 := hcell j x hx 1 _ rfl
        have m2 := hcell j x hx 2 _ rfl
        have m3 := hcell j x hx 3 _ rfl
        rw [Nat.add_zero] at m0
        have hglr : gl < wr.heap.size := World.block_lt_of_cell? wr _ m0
        have k1 : (0 : Int) ≤ (j : Int) := by omega
        have k2 : (j : Int) < (p.labs.length : Int) := by omega
        obtain ⟨⟨⟨r0, r1, rf, _, _⟩, r5, rf5⟩, r2, r3, r4, rf2, rf3, rf4, _, _, _⟩ := HKr.out
        have r3' := r3
        rw [hcvf] at r3'
        have HXJ : Hid (p.labs[j]? = some x) := hx
        clear hcell hx HJ
        by_cases hz : x.name.size = 0
        · have hemp := size_empty hz
          have HD2 : Hid (R = joinL p.labs p.cmds.length (p.labs.drop (j + 1)) (j + 1) (if x.want = true then setGoal cs x.cmd p.cmds.length else cs)) := by rw [Hid, HD.out, if_pos hz]
          clear HD
          cases hw : x.want with
          | true =>
            have hcl := hwc hw
            rw [hw] at m3
            have HJN : Hid (R = joinL p.labs p.cmds.length (p.labs.drop (j + 1)) (j + 1) (setGoal cs x.cmd (p.cmds.length))) := by rw [Hid, HD2.out, if_pos hw]
            obtain ⟨gg, cap2, hcvf⟩ : ∃ gg cap2, cv = .slice (some ⟨gg, 0, none⟩) cs.length cap2 := by
              obtain ⟨xs, own, _⟩ := HKr.out.own
              obtain ⟨gg, cap2, e, _⟩ := own.form (show 0 < cs.length by omega)
              exact ⟨gg, cap2, e⟩
            subst hcvf
            have HKA : Hid (Rk (wr.alloc (.cells #[.string x.name, .int .i64 (x.at' : Int), .int .i64 (x.cmd : Int), .bool true] 122)) b s { p with cmds := cs } (.slice (some ⟨gg, 0, none⟩) cs.length cap2) (.slice (some ⟨gl, 0, none⟩) p.labs.length cap)) := HKr.out.beside (by simp) (fun k hk => Below.heap_alloc _ _ _ hk)
            obtain ⟨xs4, own4, _⟩ := HKA.out.own
            have hg2c : ∃ v, (wr.alloc (.cells #[.string x.name, .int .i64 (x.at' : Int), .int .i64 (x.cmd : Int), .bool true] 122)).cell? ⟨gg, x.cmd * 23 + 12, none⟩ = some v := by
              rw [own4.cellAt (x.cmd * 23 + 12) (by show x.cmd * 23 + 12 < cs.length * 23; omega)]
              exact ⟨_, List.getElem?_eq_getElem (by rw [own4.1]; show x.cmd * 23 + 12 < cs.length * 23; omega)⟩
            obtain ⟨v4, hv4⟩ := hg2c
            have hz4 := own4.frozenAt (x.cmd * 23 + 12)
            have hgg : b + 1 ≤ gg ∧ gg < w.heap.size := by obtain ⟨xs, own, _⟩ := HK.out.own; exact own.lt gg rfl
            have HKS : Hid (∀ v : Int, v = ((p.cmds.length : Nat) : Int) → Rk ((wr.alloc (.cells #[.string x.name, .int .i64 (x.at' : Int), .int .i64 (x.cmd : Int), .bool true] 122)).setCell ⟨gg, x.cmd * 23 + 12, none⟩ (.int .i64 v)) b s { p with cmds := setGoal cs x.cmd (p.cmds.length) } (.slice (some ⟨gg, 0, none⟩) cs.length cap2) (.slice (some ⟨gl, 0, none⟩) p.labs.length cap)) := fun v hv => HKA.out.goal (show x.cmd < cs.length by omega) hv
            have HMS : Hid (∀ v, MapF ((wr.alloc (.cells #[.string x.name, .int .i64 (x.at' : Int), .int .i64 (x.cmd : Int), .bool true] 122)).setCell ⟨gg, x.cmd * 23 + 12, none⟩ v) B p.labs.length (marksOf p.labs)) := fun v => HMr.out.of (by rw [Below.heap_setCell _ _ _ _ (by simp only; omega)]; exact Below.heap_alloc _ _ _ HMr.out.lt)
            have HFS : Hid (∀ v, Fq b (.slice (some ⟨gg, 0, none⟩) cs.length cap2) (.slice (some ⟨gg, 0, none⟩) cs.length cap2) (.slice (some ⟨gl, 0, none⟩) p.labs.length cap) (.slice (some ⟨gl, 0, none⟩) p.labs.length cap) w ((wr.alloc (.cells #[.string x.name, .int .i64 (x.at' : Int), .int .i64 (x.cmd : Int), .bool true] 122)).setCell ⟨gg, x.cmd * 23 + 12, none⟩ v)) := fun v => (HFr.out.trans (Fq.mw ((Mw.refl b wr).alloc hbr _))).setOwn (.inl rfl)
            have hbg : b ≠ gg := by omega
            have l1 : (0 : Int) ≤ (x.cmd : Int) := by omega
            have l2 : (x.cmd : Int) < (cs.length : Int) := by omega
            obtain ⟨⟨⟨t0, t1, tf, _, _⟩, t5, tf5⟩, t2, t3, t4, tf2, tf3, tf4, _, _, _⟩ := HKA.out
            clear own4
            go_wp2_with fail
            go_region
            all_goals go_wp2_with fail
            all_goals go_roundw
            all_goals first
              | exact ⟨j + 1, setGoal cs x.cmd (p.cmds.length), rfl, by omega, (HKS.out _ rfl).beside (Nat.le_refl _) (fun _ _ => rfl), (HFS.out _).drew, (HMS.out _).of rfl, by rw [Hid, setGoal_length]; exact HCL.out, HJN⟩
              | (simp [intOf]; omega)
          | false =>
            rw [hw] at m3
            have HJN : Hid (R = joinL p.labs p.cmds.length (p.labs.drop (j + 1)) (j + 1) cs) := by rw [Hid, HD2.out, hw]; rfl
            go_wp2_with fail
            go_roundw
            case rel => exact ⟨j + 1, cs, rfl, by omega, HKr.out.beside (by simp) (fun k hk => Below.heap_alloc _ _ _ hk), HFr.out.trans (Fq.mw ((Mw.refl b wr).alloc hbr _)), HMr.out.of (Below.heap_alloc _ _ _ HMr.out.lt), HCL, HJN⟩
            case measure => simp [intOf]; omega
        · have hemp := size_some hz
          have HD2 : Hid (R = match markF x.name p.labs 0 with
            | none => .error x.at'
            | some m => if x.want = false ∧ m ≠ j then .error x.at' else joinL p.labs p.cmds.length (p.labs.drop (j + 1)) (j + 1) (if x.want = true then setGoal cs x.cmd ((p.labs[m]?.map Lab.cmd).getD 0) else cs)) := by rw [Hid, HD.out, if_neg hz]
          clear HD
          have HMA : Hid (MapF (wr.alloc (.cells #[.string x.name, .int .i64 (x.at' : Int), .int .i64 (x.cmd : Int), .bool x.want] 122)) B p.labs.length (marksOf p.labs)) := HMr.out.of (Below.heap_alloc _ _ _ HMr.out.lt)
          have hlook := HMA.out.look x.name hmx
          rw [marksOf_name] at hlook
          cases hmk2 : markF x.name p.labs 0 with
          | none =>
            rw [hmk2] at hlook
            simp only at hlook
            have HRK : Hid (R = .error x.at') := by rw [Hid, HD2.out, hmk2]
            go_wp2_with fail
            exact bodyPost_ret (v := .tuple #[.int .i64 (x.at' : Int), .bool false]) (by simp [results, Try.results37, go_sem]) rfl (by rw [HRK.out]; exact ⟨rfl, (HFr.out.trans (Fq.mw ((Mw.refl b wr).alloc hbr _))).below HK.out⟩)
          | some m =>
            rw [hmk2] at hlook
            simp only at hlook
            have hml : m < p.labs.length := by have := markF_lt x.name p.labs 0 m hmk2; omega
            obtain ⟨y, hy⟩ : ∃ y, p.labs[m]? = some y := ⟨_, List.getElem?_eq_getElem hml⟩
            have n2 := HCELL.out m y hy 2 _ rfl
            have q1 : (0 : Int) ≤ (m : Int) := by omega
            have q2 : (m : Int) < (p.labs.length : Int) := by omega
            have HD3 : Hid (R = if x.want = false ∧ m ≠ j then .error x.at' else joinL p.labs p.cmds.length (p.labs.drop (j + 1)) (j + 1) (if x.want = true then setGoal cs x.cmd y.cmd else cs)) := by rw [Hid, HD2.out, hmk2]; simp only [hy]; rfl
            have HYM : Hid (p.labs[m]? = some y) := hy
            clear HD2 hmk2 hy
            cases hw : x.want with
            | true =>
              have hcl := hwc hw
              rw [hw] at m3 hlook
              have HJN : Hid (R = joinL p.labs p.cmds.length (p.labs.drop (j + 1)) (j + 1) (setGoal cs x.cmd (y.cmd))) := by rw [Hid, HD3.out, if_neg (fun h => by rw [hw] at h; cases h.1), if_pos hw]
              obtain ⟨gg, cap2, hcvf⟩ : ∃ gg cap2, cv = .slice (some ⟨gg, 0, none⟩) cs.length cap2 := by
                obtain ⟨xs, own, _⟩ := HKr.out.own
                obtain ⟨gg, cap2, e, _⟩ := own.form (show 0 < cs.length by omega)
                exact ⟨gg, cap2, e⟩
              subst hcvf
              have HKA : Hid (Rk (wr.alloc (.cells #[.string x.name, .int .i64 (x.at' : Int), .int .i64 (x.cmd : Int), .bool true] 122)) b s { p with cmds := cs } (.slice (some ⟨gg, 0, none⟩) cs.length cap2) (.slice (some ⟨gl, 0, none⟩) p.labs.length cap)) := HKr.out.beside (by simp) (fun k hk => Below.heap_alloc _ _ _ hk)
              obtain ⟨xs4, own4, _⟩ := HKA.out.own
              have hg2c : ∃ v, (wr.alloc (.cells #[.string x.name, .int .i64 (x.at' : Int), .int .i64 (x.cmd : Int), .bool true] 122)).cell? ⟨gg, x.cmd * 23 + 12, none⟩ = some v := by
                rw [own4.cellAt (x.cmd * 23 + 12) (by show x.cmd * 23 + 12 < cs.length * 23; omega)]
                exact ⟨_, List.getElem?_eq_getElem (by rw [own4.1]; show x.cmd * 23 + 12 < cs.length * 23; omega)⟩
              obtain ⟨v4, hv4⟩ := hg2c
              have hz4 := own4.frozenAt (x.cmd * 23 + 12)
              have hgg : b + 1 ≤ gg ∧ gg < w.heap.size := by obtain ⟨xs, own, _⟩ := HK.out.own; exact own.lt gg rfl
              have HKS : Hid (∀ v : Int, v = ((y.cmd : Nat) : Int) → Rk ((wr.alloc (.cells #[.string x.name, .int .i64 (x.at' : Int), .int .i64 (x.cmd : Int), .bool true] 122)).setCell ⟨gg, x.cmd * 23 + 12, none⟩ (.int .i64 v)) b s { p with cmds := setGoal cs x.cmd (y.cmd) } (.slice (some ⟨gg, 0, none⟩) cs.length cap2) (.slice (some ⟨gl, 0, none⟩) p.labs.length cap)) := fun v hv => HKA.out.goal (show x.cmd < cs.length by omega) hv
              have HMS : Hid (∀ v, MapF ((wr.alloc (.cells #[.string x.name, .int .i64 (x.at' : Int), .int .i64 (x.cmd : Int), .bool true] 122)).setCell ⟨gg, x.cmd * 23 + 12, none⟩ v) B p.labs.length (marksOf p.labs)) := fun v => HMr.out.of (by rw [Below.heap_setCell _ _ _ _ (by simp only; omega)]; exact Below.heap_alloc _ _ _ HMr.out.lt)
              have HFS : Hid (∀ v, Fq b (.slice (some ⟨gg, 0, none⟩) cs.length cap2) (.slice (some ⟨gg, 0, none⟩) cs.length cap2) (.slice (some ⟨gl, 0, none⟩) p.labs.length cap) (.slice (some ⟨gl, 0, none⟩) p.labs.length cap) w ((wr.alloc (.cells #[.string x.name, .int .i64 (x.at' : Int), .int .i64 (x.cmd : Int), .bool true] 122)).setCell ⟨gg, x.cmd * 23 + 12, none⟩ v)) := fun v => (HFr.out.trans (Fq.mw ((Mw.refl b wr).alloc hbr _))).setOwn (.inl rfl)
              have hbg : b ≠ gg := by omega
              have l1 : (0 : Int) ≤ (x.cmd : Int) := by omega
              have l2 : (x.cmd : Int) < (cs.length : Int) := by omega
              obtain ⟨⟨⟨t0, t1, tf, _, _⟩, t5, tf5⟩, t2, t3, t4, tf2, tf3, tf4, _, _, _⟩ := HKA.out
              clear own4
              go_wp2_with fail
              go_region
              all_goals go_wp2_with fail
              all_goals go_roundw
              all_goals first
                | exact ⟨j + 1, setGoal cs x.cmd (y.cmd), rfl, by omega, (HKS.out _ rfl).beside (Nat.le_refl _) (fun _ _ => rfl), (HFS.out _).drew, (HMS.out _).of rfl, by rw [Hid, setGoal_length]; exact HCL.out, HJN⟩
                | (simp [intOf]; omega)
            | false =>
              rw [hw] at m3 hlook
              by_cases hmj : m = j
              · subst hmj
                obtain rfl : y = x := by have h1 := HXJ.out; rw [HYM.out] at h1; exact Option.some.inj h1
                clear n2
                have hbe : ((m : Int) != (m : Int)) = false := by simp
                have HJN : Hid (R = joinL p.labs p.cmds.length (p.labs.drop (m + 1)) (m + 1) cs) := by rw [Hid, HD3.out, if_neg (fun h => h.2 rfl), hw]; rfl
                go_wp2_with fail
                go_roundw
                case rel => exact ⟨m + 1, cs, rfl, by omega, HKr.out.beside (by simp) (fun k hk => Below.heap_alloc _ _ _ hk), HFr.out.trans (Fq.mw ((Mw.refl b wr).alloc hbr _)), HMr.out.of (Below.heap_alloc _ _ _ HMr.out.lt), HCL, HJN⟩
                case measure => simp [intOf]; omega
              · have hbe : ((m : Int) != (j : Int)) = true := by simp; omega
                have HRK : Hid (R = .error x.at') := by rw [Hid, HD3.out, if_pos ⟨hw, hmj⟩]
                go_wp2_with fail
                exact bodyPost_ret (v := .tuple #[.int .i64 (x.at' : Int), .bool false]) (by simp [results, Try.results37, go_sem]) rfl (by rw [HRK.out]; exact ⟨rfl, (HFr.out.trans (Fq.mw ((Mw.refl b wr).alloc hbr _))).below HK.out⟩)

end Rs
end Go.Proofs.Ytppjlpihaocdiaa

