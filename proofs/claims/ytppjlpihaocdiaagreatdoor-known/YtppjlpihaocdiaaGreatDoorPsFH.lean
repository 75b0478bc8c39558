/- Several texts in one. -/
import Derived.Test.YtppjlpihaocdiaaGreatDoorPsBH
import Derived.Maps.Own
import Derived.Maps.Views
/- A part of the proof. -/
set_option linter.unusedSimpArgs false
set_option linter.unusedVariables false
namespace Go.Proofs.YtppjlpihaocdiaaGreatDoor
namespace Rs
open Go.RowKit
def Lb (p : RSt) : Prop := ∀ x ∈ p.labs, x.want = true → x.cmd < p.cmds.length
theorem Lb.more {p : RSt} (h : Lb p) {i : Nat} {o : Nat} {lg : Int} {cs : List Cm} (hc : p.cmds.length ≤ cs.length) : Lb ⟨i, o, cs, p.labs, lg⟩ := fun x hx hw => Nat.lt_of_lt_of_le (h x hx hw) hc
section
variable {row : RSt → RSt × Bool} {s : ByteArray}
theorem blockF_lb (hrow : ∀ p, Lb p → (row p).2 = true → Lb (row p).1) {p : RSt} {c : Cm} (h : Lb p) (hok : (blockF row s p c).2 = true) : Lb (blockF row s p c).1 := by
  unfold blockF at *
  split
  · rename_i h5
    rw [if_pos h5] at hok
    cases hok
  · rename_i h5
    rw [if_neg h5] at hok
    simp only at *
    split
    · rename_i h1
      have := hrow _ (h.more (i := p.at' + 1) (o := p.op + 1) (lg := p.long) (cs := p.cmds ++ [c]) (by simp)) h1.1
      intro x hx hw
      have h2 := this x hx hw
      show x.cmd < (setGoal _ _ _).length
      rw [setGoal_length]
      exact h2
    · rename_i h1
      rw [if_neg h1] at hok
      cases hok
theorem whatF_lb (hrow : ∀ p, Lb p → (row p).2 = true → Lb (row p).1) {p : RSt} {c : Cm} (h : Lb p) (hok : (whatF row s p c).2 = true) : Lb (whatF row s p c).1 := by
  unfold whatF at *
  split
  · rename_i h0
    rw [if_pos h0] at hok
    simp only at *
    split
    · rename_i h1
      rw [if_pos h1] at hok
      exact blockF_lb hrow h hok
    · rename_i h1
      rw [if_neg h1] at hok
      split
      · rename_i h2
        rw [if_pos h2] at hok
        split
        · exact h.more (by simp)
        · exact h.more (by simp)
      · split
        · intro x hx hw
          show x.cmd < (p.cmds ++ [_]).length
          rw [List.length_append, List.length_singleton]
          rcases List.mem_append.1 (show x ∈ p.labs ++ [_] from hx) with hx | hx
          · have := h x hx hw; omega
          · have e : x = ⟨s.extract (p.at' + 1) (labF s 8 (p.at' + 1)), p.at' + 1, p.cmds.length, true⟩ := by simpa using hx
            rw [e]
            show p.cmds.length < p.cmds.length + 1
            omega
        · split
          · exact h.more (by simp)
          · split
            · exact h.more (by simp)
            · exact h.more (by simp)
  · rename_i h0
    exact h
theorem commandF_lb (hrow : ∀ p, Lb p → (row p).2 = true → Lb (row p).1) {p : RSt} (h : Lb p) (hok : (commandF row s p).2 = true) : Lb (commandF row s p).1 := by
  unfold commandF at *
  simp only at *
  split
  · rename_i h0
    rw [if_pos h0] at hok
    split
    · rename_i h1
      rw [if_pos h1] at hok
      split
      · exact h.more (Nat.le_refl _)
      · rename_i h2
        rw [if_neg h2] at hok
        exact whatF_lb hrow (h.more (Nat.le_refl _)) hok
    · rename_i h1
      rw [if_neg h1] at hok
      split
      · split
        · intro x hx hw
          rcases List.mem_append.1 (show x ∈ p.labs ++ [_] from hx) with hx | hx
          · exact h x hx hw
          · have e : x.want = false := by
              have e : x = ⟨s.extract ((addrF s p.at' p.long).1 + 1) (labF s 8 ((addrF s p.at' p.long).1 + 1)), (addrF s p.at' p.long).1 + 1, p.cmds.length, false⟩ := by simpa using hx
              rw [e]
            rw [e] at hw
            cases hw
        · exact h.more (Nat.le_refl _)
      · rename_i h2
        rw [if_neg h2] at hok
        exact whatF_lb hrow (h.more (Nat.le_refl _)) hok
  · exact h.more (Nat.le_refl _)
theorem rowL'_lb (hrow : ∀ p, Lb p → (row p).2 = true → Lb (row p).1) : ∀ (f : Nat) (p : RSt), Lb p → (rowL' row s f p).2 = true → Lb (rowL' row s f p).1
  | 0, p, h, hok => h
  | f + 1, p, h, hok => by
    unfold rowL' at *
    simp only at *
    split
    · exact h.more (Nat.le_refl _)
    · rename_i h0
      rw [if_neg h0] at hok
      have h' : Lb { p with at' := skip s between p.at' } := h.more (Nat.le_refl _)
      split
      · rename_i h1
        rw [if_pos h1] at hok
        have h2 := commandF_lb hrow h' h1
        split
        · rename_i h3
          rw [if_pos h3] at hok
          exact rowL'_lb hrow f _ (h2.more (Nat.le_refl _)) hok
        · exact h2.more (Nat.le_refl _)
      · rename_i h1
        rw [if_neg h1] at hok
        exact absurd hok h1
end
theorem rowN_lb (s : ByteArray) : ∀ (N : Nat) (p : RSt), Lb p → (rowN s N p).2 = true → Lb (rowN s N p).1
  | 0, p, h, hok => h
  | N + 1, p, h, hok => rowL'_lb (rowN_lb s N) (s.size + 1) p h hok
def MapF (w : World) (b n : Nat) (f : List UInt8 → Option Nat) : Prop := ∃ D : DataW Unit, w.ownsMap Tryz.prog 9 (plainElem Tryz.prog 3) b n D ∧ Maps.IsMap D ∧ ∀ (k : List UInt8) (zd : DataW Unit), D.atKey (.string k) zd = match f k with
  | none => zd
  | some m => .lit (.int .i64 (m : Int))
theorem MapF.made (w : World) : MapF (w.alloc (.map #[] 0)) w.heap.size 0 (fun _ => none) :=
  ⟨.map [], World.ownsMap_made w Tryz.prog 9 _, Maps.isMap_empty, fun k zd => rfl⟩
theorem MapF.of {w w' : World} {b n : Nat} {f : List UInt8 → Option Nat} (h : MapF w b n f) (hx : w'.heap[b]? = w.heap[b]?) : MapF w' b n f := by
  obtain ⟨D, ⟨es, clock, h1, h2, h3, h4⟩, hm, hf⟩ := h
  exact ⟨D, ⟨es, clock, hx.trans h1, h2, h3, h4⟩, hm, hf⟩
theorem MapF.lt {w : World} {b n : Nat} {f : List UInt8 → Option Nat} (h : MapF w b n f) : b < w.heap.size := by
  obtain ⟨D, ho, _⟩ := h
  exact ho.lt
theorem zero_int (w : World) : (zeroValue 3).run Tryz.prog w = .ok (.int .i64 0) w := by
  exact (zero_of_info (P := Tryz.prog) (t := 3) (v := .int .i64 0) (n := 1) (by kernel_rfl)).1 w
theorem MapF.look {w : World} {b n : Nat} {f : List UInt8 → Option Nat} (h : MapF w b n f) (x : ByteArray) (hs : x.size ≤ maxLen) :
    (Instr.lookup 188 (.map (some b)) (.string x) true).run Tryz.prog w = .ok (match f x.data.toList with | none => .tuple #[.int .i64 0, .bool false] | some m => .tuple #[.int .i64 (m : Int), .bool true]) w := by
  obtain ⟨D, ⟨es, clock, h1, h2, h3, rfl⟩, hm, hf⟩ := h
  have hkey : keyOf Tryz.prog 9 (.string x) = some (.string x.data.toList) := WideMaps.keyOf_string_mk Tryz.underlying9 hs
  rcases Maps.fit_look true (Maps.string_keyed Tryz.underlying9) Tryz.underlying188 (zero_int w) h1 h2 hkey with ⟨hrun, _, hat⟩ | ⟨e0, y, _, _, hrun, hRv, hat, _⟩
  · cases hfx : f x.data.toList with
    | none => exact hrun
    | some m =>
      have e := hf x.data.toList (.map [])
      rw [hat, hfx] at e
      cases e
  · obtain ⟨a, ha, hz, _⟩ := plainElem_int_inv Tryz.underlying3 hRv
    cases hfx : f x.data.toList with
    | none =>
      have e := hf x.data.toList (.map [])
      rw [hat, hfx, hz] at e
      cases e
    | some m =>
      have e := hf x.data.toList (.map [])
      rw [hat, hfx, hz] at e
      have e' : (DataW.lit (Lit.int .i64 a) : DataW Unit) = .lit (.int .i64 (m : Int)) := e
      have ham : a = (m : Int) := by
        generalize (m : Int) = z at e'
        cases e'
        rfl
      rw [hrun, ha, ham]
      rfl
theorem MapF.put {w : World} {b n m : Nat} {f : List UInt8 → Option Nat} (h : MapF w b n f) (x : ByteArray) (hs : x.size ≤ maxLen) (hn : n < maxLen) (hmm : m ≤ 1000000) :
    ∃ w', (Instr.mapUpdate 188 (.map (some b)) (.string x) (.int .i64 (m : Int))).run Tryz.prog w = .ok () w' ∧ MapF w' b (n + 1) (fun k => if k = x.data.toList then some m else f k) ∧ w.grownBy w' (some b) := by
  obtain ⟨D, ho, hm, hf⟩ := h
  have hkey : keyOf Tryz.prog 9 (.string x) = some (.string x.data.toList) := WideMaps.keyOf_string_mk Tryz.underlying9 hs
  have hwf : (Lit.int .i64 (m : Int)).wf = true := WalkArith.wf_i64 (by omega)
  obtain ⟨w', hrun, ho', hg⟩ := ho.update (Maps.string_keyed Tryz.underlying9) Tryz.underlying188 hn hkey (plainElem_int Tryz.underlying3 hwf)
  refine ⟨w', hrun, ⟨_, ho', ?_, fun k zd => ?_⟩, hg⟩
  · exact hm.put _ _
  · simp only
    by_cases e : k = x.data.toList
    · subst e
      rw [if_pos rfl, Maps.atKey_put_same hm (show WideAt.IsKeyLit (.string x.data.toList) from trivial)]
    · rw [if_neg e, Maps.atKey_put_other (fun e2 => e (by injection e2))]
      exact hf k zd
end Rs
end Go.Proofs.YtppjlpihaocdiaaGreatDoor

/- A part of the proof. -/
set_option linter.unusedSimpArgs false
set_option linter.unusedVariables false
namespace Go.Proofs.YtppjlpihaocdiaaGreatDoor
namespace Rs
open Go.RowKit
theorem labL_at : ∀ (l : List Lab) (j : Nat) (x : Lab) (o : Nat) (v : Value), l[j]? = some x → [Value.string x.name, .int .i64 (x.at' : Int), .int .i64 (x.cmd : Int), .bool x.want][o]? = some v → (labL l)[j * 4 + o]? = some v
  | [], j, x, o, v, h, _ => by simp at h
  | y :: l, 0, x, o, v, h, ho => by
    have : y = x := by simpa using h
    subst this
    have ho4 : o < 4 := (List.getElem?_eq_some_iff.1 ho).1
    show ([Value.string y.name, .int .i64 (y.at' : Int), .int .i64 (y.cmd : Int), .bool y.want] ++ labL l)[0 * 4 + o]? = some v
    rw [List.getElem?_append_left (by simp; omega), Nat.zero_mul, Nat.zero_add]
    exact ho
  | y :: l, j + 1, x, o, v, h, ho => by
    show ([Value.string y.name, .int .i64 (y.at' : Int), .int .i64 (y.cmd : Int), .bool y.want] ++ labL l)[(j + 1) * 4 + o]? = some v
    rw [List.getElem?_append_right (by simp; omega)]
    have := labL_at l j x o v (by simpa using h) ho
    rw [show (j + 1) * 4 + o - [Value.string y.name, .int .i64 (y.at' : Int), .int .i64 (y.cmd : Int), .bool y.want].length = j * 4 + o by simp; omega]
    exact this
theorem markF_shift (name : ByteArray) : ∀ (l : List Lab) (k : Nat), markF name l k = (markF name l 0).map (· + k)
  | [], k => rfl
  | x :: l, k => by
    unfold markF
    split
    · simp
    · rw [markF_shift name l (k + 1), markF_shift name l (0 + 1)]
      cases markF name l 0 with
      | none => rfl
      | some m => simp; omega
theorem markF_snoc (name : ByteArray) : ∀ (l : List Lab) (x : Lab), markF name (l ++ [x]) 0 = match markF name l 0 with
    | some m => some m
    | none => if x.want = false ∧ x.name = name then some l.length else none
  | [], x => by simp [markF]
  | y :: l, x => by
    have ih := markF_snoc name l x
    unfold markF
    rw [List.cons_append]
    simp only
    by_cases h : y.want = false ∧ y.name = name
    · rw [if_pos h, if_pos h]
    · rw [if_neg h, if_neg h, markF_shift name (l ++ [x]) (0 + 1), markF_shift name l (0 + 1), ih]
      cases markF name l 0 with
      | some m => rfl
      | none =>
        by_cases h2 : x.want = false ∧ x.name = name
        · simp [h2]
        · simp [h2]
theorem markF_lt (name : ByteArray) : ∀ (l : List Lab) (k m : Nat), markF name l k = some m → m < k + l.length ∧ k ≤ m
  | [], k, m, h => by simp [markF] at h
  | x :: l, k, m, h => by
    unfold markF at h
    split at h
    · cases h; exact ⟨by simp, Nat.le_refl _⟩
    · have := markF_lt name l (k + 1) m h
      rw [List.length_cons]; omega
def marksOf (l : List Lab) (k : List UInt8) : Option Nat := markF ⟨k.toArray⟩ l 0
theorem bytes_eta (x : ByteArray) : (⟨x.data.toList.toArray⟩ : ByteArray) = x := by
  apply ByteArray.ext; simp
theorem marksOf_name (l : List Lab) (x : ByteArray) : marksOf l x.data.toList = markF x l 0 := by rw [marksOf, bytes_eta]
theorem marksOf_snoc (l : List Lab) (x : Lab) : marksOf (l ++ [x]) = if markF x.name l 0 = none ∧ x.want = false then (fun k => if k = x.name.data.toList then some l.length else marksOf l k) else marksOf l := by
  funext k
  rw [marksOf, markF_snoc]
  by_cases hk : k = x.name.data.toList
  · subst hk
    rw [bytes_eta]
    by_cases h : markF x.name l 0 = none ∧ x.want = false
    · rw [if_pos h, h.1]
      simp [h.2]
    · rw [if_neg h, marksOf_name]
      cases hm : markF x.name l 0 with
      | some m => rfl
      | none =>
        simp only
        rw [if_neg]
        rintro ⟨a, _⟩
        exact h ⟨hm, a⟩
  · have hne : ¬ x.name = ⟨k.toArray⟩ := fun e => hk (by rw [e])
    have e1 : (match markF ⟨k.toArray⟩ l 0 with | some m => some m | none => if x.want = false ∧ x.name = ⟨k.toArray⟩ then some l.length else none) = marksOf l k := by
      rw [marksOf]
      cases markF ⟨k.toArray⟩ l 0 with
      | some m => rfl
      | none => simp [hne]
    rw [e1]
    split
    · simp [hk]
    · rfl
theorem Rk.labCell {w : World} {b gl n cap : Nat} {s : ByteArray} {p : RSt} {cv : Value} (h : Rk w b s p cv (.slice (some ⟨gl, 0, none⟩) n cap)) {j : Nat} {x : Lab} (hx : p.labs[j]? = some x) (o : Nat) (v : Value) (hv : [Value.string x.name, .int .i64 (x.at' : Int), .int .i64 (x.cmd : Int), .bool x.want][o]? = some v) : w.cell? ⟨gl, j * 4 + o, none⟩ = some v := by
  have hn : n = p.labs.length := by
    rcases h.lab.2 with ⟨e, _⟩ | ⟨_, _, _, e, _⟩
    · cases e
    · cases e; rfl
  subst hn
  have hj := (List.getElem?_eq_some_iff.1 hx).1
  have ho : o < 4 := (List.getElem?_eq_some_iff.1 hv).1
  rw [h.lab.cellAt (j * 4 + o) (by omega)]
  exact labL_at p.labs j x o v hx hv
theorem Rk.lvForm {w : World} {b : Nat} {s : ByteArray} {p : RSt} {cv lv : Value} (h : Rk w b s p cv lv) : (p.labs = [] ∧ ∃ ao cap, lv = .slice ao 0 cap) ∨ ∃ gl cap, lv = .slice (some ⟨gl, 0, none⟩) p.labs.length cap ∧ b < gl ∧ gl < w.heap.size := by
  rcases h.lab.2 with ⟨e, e2⟩ | ⟨g, c, _, e, _⟩
  · exact .inl ⟨List.length_eq_zero_iff.1 e2, none, 0, e⟩
  · subst e
    have := h.lab.lt g rfl
    exact .inr ⟨g, c, rfl, by omega, this.2⟩
set_option maxRecDepth 100000 in
set_option maxHeartbeats 4000000 in
theorem marks_any (b : Nat) (s : ByteArray) (p : RSt) (cv lv : Value) (w : World) (hr : Rk w b s p cv lv) (hn : p.labs.length ≤ 400) (hsz : ∀ x ∈ p.labs, x.name.size ≤ 400) :
    Calls Tryz.prog 114 #[.pointer (some ⟨b, 0, none⟩)] w fun e w' => ∃ B, e = .returned (.map (some B)) ∧ w.heap.size ≤ B ∧ Below w.heap.size w w' ∧ MapF w' B p.labs.length (marksOf p.labs) := by
  have HK : Hid (Rk w b s p cv lv) := hr
  have hb := hr.lt
  have HSZ : Hid (∀ x ∈ p.labs, x.name.size ≤ 400) := hsz
  rcases hr.lvForm with ⟨he, ao, cap, rfl⟩ | ⟨gl, cap, rfl, hgl1, hgl2⟩
  · have hmk := fun w => run_makeMap (P := Tryz.prog) 188 w
    obtain ⟨⟨⟨r0, r1, rf, _, _⟩, r5, rf5⟩, r2, r3, r4, rf2, rf3, rf4, _, _, _⟩ := hr
    have HM : Hid (MapF (w.alloc (.map #[] 0)) w.heap.size p.labs.length (marksOf p.labs)) := by
      rw [he]
      exact MapF.made w
    clear hsz
    go_enter Tryz.func114, Tryz.ntmps114
    go_wp2_with fail
    go_loopw [14] (fun v wr => v = .int .i64 0 ∧ wr = w.alloc (.map #[] 0)) (fun _ _ => 0)
    case atStart => exact ⟨rfl, rfl⟩
    case round =>
      obtain ⟨rfl, rfl⟩ := hrel
      go_wp2_with fail
      go_ret
      exact ⟨_, rfl, Nat.le_refl _, (Below.refl _ _).alloc (Nat.le_refl _) _, HM.out⟩
  · have hmk := fun w => run_makeMap (P := Tryz.prog) 188 w
    obtain ⟨⟨⟨r0, r1, rf, _, _⟩, r5, rf5⟩, r2, r3, r4, rf2, rf3, rf4, _, _, _⟩ := hr
    clear hsz
    go_enter Tryz.func114, Tryz.ntmps114
    go_wp2_with fail
    go_loopw [14] (fun v wr => ∃ j : Nat, v = .int .i64 (j : Int) ∧ j ≤ p.labs.length ∧ Hid (Below w.heap.size w wr) ∧ Hid (MapF wr w.heap.size j (marksOf (p.labs.take j)))) (fun v _ => p.labs.length - (intOf v).toNat)
    case atStart => exact ⟨0, rfl, Nat.zero_le _, (Below.refl _ _).alloc (Nat.le_refl _) _, MapF.made w⟩
    case round =>
      obtain ⟨j, rfl, hj, HB, HM⟩ := hrel
      by_cases hjn : j = p.labs.length
      · subst hjn
        go_wp2_with fail
        go_ret
        refine ⟨_, rfl, Nat.le_refl _, HB.out, ?_⟩
        have := HM.out
        rw [List.take_length] at this
        exact this
      · have hjl : j < p.labs.length := by omega
        obtain ⟨x, hx⟩ : ∃ x, p.labs[j]? = some x := ⟨_, List.getElem?_eq_getElem hjl⟩
        have HX : Hid (p.labs.take (j + 1) = p.labs.take j ++ [x]) := by rw [Hid, List.take_add_one, hx]; rfl
        have hxs := HSZ.out x (List.mem_of_getElem? hx)
        have hmx : x.name.size ≤ maxLen := by unfold maxLen; omega
        have hcell : ∀ o v, [Value.string x.name, .int .i64 (x.at' : Int), .int .i64 (x.cmd : Int), .bool x.want][o]? = some v → wr.cell? ⟨gl, j * 4 + o, none⟩ = some v := fun o v hv => (HB.out.cell (p := ⟨gl, j * 4 + o, none⟩) hgl2).trans (HK.out.labCell hx o v hv)
        have m0 := hcell 0 _ rfl
        have m1 := hcell 1 _ rfl
        have m2 := hcell 2 _ rfl
        have m3 := hcell 3 _ rfl
        rw [Nat.add_zero] at m0
        have k1 : (0 : Int) ≤ (j : Int) := by omega
        have k2 : (j : Int) < (p.labs.length : Int) := by omega
        have hzr : w.heap.size < wr.heap.size := HM.out.lt
        have HMA : Hid (MapF (wr.alloc (.cells #[.string x.name, .int .i64 (x.at' : Int), .int .i64 (x.cmd : Int), .bool x.want] 191)) w.heap.size j (marksOf (p.labs.take j))) := HM.out.of (Below.heap_alloc _ _ _ hzr)
        have HBA : Hid (Below w.heap.size w (wr.alloc (.cells #[.string x.name, .int .i64 (x.at' : Int), .int .i64 (x.cmd : Int), .bool x.want] 191))) := HB.out.alloc HB.out.size _
        have hlook := HMA.out.look x.name hmx
        rw [marksOf_name] at hlook
        have HTJ : Hid ((p.labs.take j).length = j) := by rw [Hid, List.length_take]; omega
        clear hcell hx
        cases hmk2 : markF x.name (p.labs.take j) 0 with
        | some m =>
          rw [hmk2] at hlook
          simp only at hlook
          have HMJ : Hid (marksOf (p.labs.take (j + 1)) = marksOf (p.labs.take j)) := by rw [Hid, HX.out, marksOf_snoc, if_neg (fun h => by rw [hmk2] at h; cases h.1)]
          clear hmk2
          go_wp2_with fail
          go_roundw
          case rel => exact ⟨j + 1, rfl, by omega, HBA.out, by rw [Hid, HMJ.out]; obtain ⟨D, ho, h⟩ := HMA.out; exact ⟨D, ho.mono (by omega), h⟩⟩
          case measure => simp [intOf]; omega
        | none =>
          rw [hmk2] at hlook
          simp only at hlook
          cases hw : x.want with
          | true =>
            rw [hw] at m3 hlook HMA HBA
            have HMJ : Hid (marksOf (p.labs.take (j + 1)) = marksOf (p.labs.take j)) := by rw [Hid, HX.out, marksOf_snoc, if_neg (fun h => by rw [hw] at h; cases h.2)]
            clear hmk2 hw
            go_wp2_with fail
            go_roundw
            case rel => exact ⟨j + 1, rfl, by omega, HBA.out, by rw [Hid, HMJ.out]; obtain ⟨D, ho, h⟩ := HMA.out; exact ⟨D, ho.mono (by omega), h⟩⟩
            case measure => simp [intOf]; omega
          | false =>
            rw [hw] at m3 hlook HMA HBA
            have HMJ : Hid (marksOf (p.labs.take (j + 1)) = fun k => if k = x.name.data.toList then some j else marksOf (p.labs.take j) k) := by rw [Hid, HX.out, marksOf_snoc, if_pos ⟨hmk2, hw⟩, HTJ.out]
            obtain ⟨wu, hrun, hmu, hgu⟩ := HMA.out.put (m := j) x.name hmx (by unfold maxLen; omega) (by omega)
            have HMU : Hid (MapF wu w.heap.size (j + 1) (marksOf (p.labs.take (j + 1)))) := by rw [Hid, HMJ.out]; exact hmu
            have HBU : Hid (Below w.heap.size w wu) := HBA.out.trans ⟨hgu.os, hgu.tape, hgu.output, hgu.size, fun k hk => hgu.block k (by simp; omega) (fun e => by injection e with e; omega)⟩
            clear hmk2 hw hmu hgu
            go_wp2_with fail
            go_roundw
            case rel => exact ⟨j + 1, rfl, by omega, HBU.out, HMU.out⟩
            case measure => simp [intOf]; omega
end Rs
end Go.Proofs.YtppjlpihaocdiaaGreatDoor

/- A part of the proof. -/
set_option linter.unusedSimpArgs false
set_option linter.unusedVariables false
namespace Go.Proofs.YtppjlpihaocdiaaGreatDoor
namespace Rs
open Go.RowKit
def JPost (b : Nat) (s : ByteArray) (p : RSt) (cv lv : Value) (w : World) (R : Except Nat (List Cm)) : Ending → World → Prop := fun e w' => match R with
  | .error i => e = .returned (.tuple #[.int .i64 (i : Int), .bool false]) ∧ Below b w w'
  | .ok cs => e = .returned (.tuple #[.int .i64 0, .bool true]) ∧ Below b w w' ∧ Rk w' b s { p with cmds := cs } cv lv
theorem size_empty {x : ByteArray} (h : x.size = 0) : x.toList.isEmpty = true := by
  rw [ByteArray.toList_eq, List.isEmpty_iff]
  exact List.length_eq_zero_iff.1 h
theorem size_some {x : ByteArray} (h : ¬ x.size = 0) : x.toList.isEmpty = false := by
  rw [ByteArray.toList_eq, List.isEmpty_eq_false_iff]
  intro e
  exact h (by show x.data.toList.length = 0; rw [e]; rfl)
set_option maxRecDepth 100000 in
set_option maxHeartbeats 8000000 in
theorem join_any (b : Nat) (s : ByteArray) (p : RSt) (cv lv : Value) (w : World) (hr : Rk w b s p cv lv) (hlb : Lb p) (hn : p.labs.length ≤ 400) (hn2 : p.cmds.length ≤ 400) (hsz : ∀ x ∈ p.labs, x.name.size ≤ 400) :
    Calls Tryz.prog 70 #[.pointer (some ⟨b, 0, none⟩)] w (JPost b s p cv lv w (joinL p.labs p.cmds.length p.labs 0 p.cmds)) := by
  have HK : Hid (Rk w b s p cv lv) := hr
  have hb := hr.lt
  have HSZ : Hid (∀ x ∈ p.labs, x.name.size ≤ 400) := hsz
  have HLB : Hid (Lb p) := hlb
  have HMK : Hid (Calls Tryz.prog 114 #[.pointer (some ⟨b, 0, none⟩)] w fun e w' => ∃ B, e = .returned (.map (some B)) ∧ w.heap.size ≤ B ∧ Below w.heap.size w w' ∧ MapF w' B p.labs.length (marksOf p.labs)) := marks_any b s p cv lv w hr hn hsz
  generalize hR : joinL p.labs p.cmds.length p.labs 0 p.cmds = R
  have HR : Hid (joinL p.labs p.cmds.length p.labs 0 p.cmds = R) := hR
  clear hR hlb hsz
  obtain ⟨ao, cap0, hcvf⟩ : ∃ ao cap0, cv = .slice ao p.cmds.length cap0 := by
    obtain ⟨xs, own, _⟩ := hr.own
    rcases own.2 with ⟨e, e2⟩ | ⟨g, c, _, e, _⟩
    · exact ⟨none, 0, by rw [e, e2]⟩
    · exact ⟨_, _, e⟩
  rcases hr.lvForm with ⟨he, ao1, cap, rfl⟩ | ⟨gl, cap, rfl, hgl1, hgl2⟩
  · clear hr
    have HRK : Hid (R = .ok p.cmds) := by rw [Hid, ← HR.out, he]; rfl
    go_enter Tryz.func70, Tryz.ntmps70
    go_wp2_with fail
    refine HMK.out.mono ?_
    rintro e w1 ⟨B, rfl, hB, hbl, hmf⟩
    have HB1 : Hid (Below w.heap.size w w1) := hbl
    have HK1 : Hid (Rk w1 b s p cv (.slice ao1 0 cap)) := HK.out.beside hbl.size hbl.block
    obtain ⟨⟨⟨r0, r1, rf, _, _⟩, r5, rf5⟩, r2, r3, r4, rf2, rf3, rf4, _, _, _⟩ := HK1.out
    clear hbl hmf
    go_wp2_with fail
    go_loopw [17] (fun v wr => v = .int .i64 0 ∧ wr = w1) (fun _ _ => 0)
    case atStart => exact ⟨rfl, rfl⟩
    case round =>
      obtain ⟨rfl, rfl⟩ := hrel
      go_wp2_with fail
      exact bodyPost_ret (v := .tuple #[.int .i64 0, .bool true]) (by simp [results, Tryz.results70, go_sem]) rfl (by rw [HRK.out]; exact ⟨rfl, HB1.out.mono (by omega), HK1.out⟩)
  · clear hr
    go_enter Tryz.func70, Tryz.ntmps70
    go_wp2_with fail
    refine HMK.out.mono ?_
    rintro e w1 ⟨B, rfl, hB, hbl, hmf⟩
    have HB1 : Hid (Below w.heap.size w w1) := hbl
    have HM1 : Hid (MapF w1 B p.labs.length (marksOf p.labs)) := hmf
    have HK1 : Hid (Rk w1 b s p cv (.slice (some ⟨gl, 0, none⟩) p.labs.length cap)) := HK.out.beside hbl.size hbl.block
    obtain ⟨⟨⟨r0, r1, rf, _, _⟩, r5, rf5⟩, r2, r3, r4, rf2, rf3, rf4, _, _, _⟩ := HK1.out
    clear hbl hmf
    go_wp2_with fail
    clear r0 r1 rf r5 rf5 r2 r3 r4 rf2 rf3 rf4
    go_loopw [17] (fun v wr => ∃ (j : Nat) (cs : List Cm), v = .int .i64 (j : Int) ∧ j ≤ p.labs.length ∧ Hid (Rk wr b s { p with cmds := cs } cv (.slice (some ⟨gl, 0, none⟩) p.labs.length cap)) ∧ Hid (Fq b cv cv (.slice (some ⟨gl, 0, none⟩) p.labs.length cap) (.slice (some ⟨gl, 0, none⟩) p.labs.length cap) w wr) ∧ Hid (MapF wr B p.labs.length (marksOf p.labs)) ∧ Hid (cs.length = p.cmds.length) ∧ Hid (R = joinL p.labs p.cmds.length (p.labs.drop j) j cs)) (fun v _ => p.labs.length - (intOf v).toNat)
    case atStart => exact ⟨0, p.cmds, rfl, Nat.zero_le _, HK1, Fq.mw (Mw.below HB1.out hb), HM1, rfl, HR.out.symm⟩
    case round =>
      obtain ⟨j, cs, rfl, hj, HKr, HFr, HMr, HCL, HJ⟩ := hrel
      have hbr : b < wr.heap.size := HKr.out.lt
      by_cases hjn : j = p.labs.length
      · subst hjn
        have HRK : Hid (R = .ok cs) := by rw [Hid, HJ.out, List.drop_length]; rfl
        go_wp2_with fail
        exact bodyPost_ret (v := .tuple #[.int .i64 0, .bool true]) (by simp [results, Tryz.results70, go_sem]) rfl (by rw [HRK.out]; exact ⟨rfl, HFr.out.below HK.out, HKr.out⟩)
      · have hjl : j < p.labs.length := by omega
        obtain ⟨x, hx⟩ : ∃ x, p.labs[j]? = some x := ⟨_, List.getElem?_eq_getElem hjl⟩
        have hcsl : cs.length = p.cmds.length := HCL.out
        have HD : Hid (R = if x.name.size = 0 then joinL p.labs p.cmds.length (p.labs.drop (j + 1)) (j + 1) (if x.want = true then setGoal cs x.cmd p.cmds.length else cs) else match markF x.name p.labs 0 with
            | none => .error x.at'
            | some m => if x.want = false ∧ m ≠ j then .error x.at' else joinL p.labs p.cmds.length (p.labs.drop (j + 1)) (j + 1) (if x.want = true then setGoal cs x.cmd ((p.labs[m]?.map Lab.cmd).getD 0) else cs)) := by
          rw [Hid, HJ.out, List.drop_eq_getElem_cons hjl, show p.labs[j] = x from by rw [List.getElem?_eq_getElem hjl] at hx; exact Option.some.inj hx]
          rfl
        have hxs := HSZ.out x (List.mem_of_getElem? hx)
        have hmx : x.name.size ≤ maxLen := by unfold maxLen; omega
        have hwc : x.want = true → x.cmd < cs.length := fun h => by rw [hcsl]; exact HLB.out x (List.mem_of_getElem? hx) h
        have hcell : ∀ i y, p.labs[i]? = some y → ∀ o v, [Value.string y.name, .int .i64 (y.at' : Int), .int .i64 (y.cmd : Int), .bool y.want][o]? = some v → wr.cell? ⟨gl, i * 4 + o, none⟩ = some v := fun i y hy o v hv => HKr.out.labCell hy o v hv
        have HCELL : Hid (∀ i y, p.labs[i]? = some y → ∀ o v, [Value.string y.name, .int .i64 (y.at' : Int), .int .i64 (y.cmd : Int), .bool y.want][o]? = some v → wr.cell? ⟨gl, i * 4 + o, none⟩ = some v) := hcell
        have m0 := hcell j x hx 0 _ rfl
        have m1 := hcell j x hx 1 _ rfl
        have m2 := hcell j x hx 2 _ rfl
        have m3 := hcell j x hx 3 _ rfl
        rw [Nat.add_zero] at m0
        have hglr : gl < wr.heap.size := World.block_lt_of_cell? wr _ m0
        have k1 : (0 : Int) ≤ (j : Int) := by omega
        have k2 : (j : Int) < (p.labs.length : Int) := by omega
        obtain ⟨⟨⟨r0, r1, rf, _, _⟩, r5, rf5⟩, r2, r3, r4, rf2, rf3, rf4, _, _, _⟩ := HKr.out
        have r3' := r3
        rw [hcvf] at r3'
        have HXJ : Hid (p.labs[j]? = some x) := hx
        clear hcell hx HJ
        by_cases hz : x.name.size = 0
        · have hemp := size_empty hz
          have HD2 : Hid (R = joinL p.labs p.cmds.length (p.labs.drop (j + 1)) (j + 1) (if x.want = true then setGoal cs x.cmd p.cmds.length else cs)) := by rw [Hid, HD.out, if_pos hz]
          clear HD
          cases hw : x.want with
          | true =>
            have hcl := hwc hw
            rw [hw] at m3
            have HJN : Hid (R = joinL p.labs p.cmds.length (p.labs.drop (j + 1)) (j + 1) (setGoal cs x.cmd (p.cmds.length))) := by rw [Hid, HD2.out, if_pos hw]
            obtain ⟨gg, cap2, hcvf⟩ : ∃ gg cap2, cv = .slice (some ⟨gg, 0, none⟩) cs.length cap2 := by
              obtain ⟨xs, own, _⟩ := HKr.out.own
              obtain ⟨gg, cap2, e, _⟩ := own.form (show 0 < cs.length by omega)
              exact ⟨gg, cap2, e⟩
            subst hcvf
            have HKA : Hid (Rk (wr.alloc (.cells #[.string x.name, .int .i64 (x.at' : Int), .int .i64 (x.cmd : Int), .bool true] 191)) b s { p with cmds := cs } (.slice (some ⟨gg, 0, none⟩) cs.length cap2) (.slice (some ⟨gl, 0, none⟩) p.labs.length cap)) := HKr.out.beside (by simp) (fun k hk => Below.heap_alloc _ _ _ hk)
            obtain ⟨xs4, own4, _⟩ := HKA.out.own
            have hg2c : ∃ v, (wr.alloc (.cells #[.string x.name, .int .i64 (x.at' : Int), .int .i64 (x.cmd : Int), .bool true] 191)).cell? ⟨gg, x.cmd * 23 + 12, none⟩ = some v := by
              rw [own4.cellAt (x.cmd * 23 + 12) (by show x.cmd * 23 + 12 < cs.length * 23; omega)]
              exact ⟨_, List.getElem?_eq_getElem (by rw [own4.1]; show x.cmd * 23 + 12 < cs.length * 23; omega)⟩
            obtain ⟨v4, hv4⟩ := hg2c
            have hz4 := own4.frozenAt (x.cmd * 23 + 12)
            have hgg : b + 1 ≤ gg ∧ gg < w.heap.size := by obtain ⟨xs, own, _⟩ := HK.out.own; exact own.lt gg rfl
            have HKS : Hid (∀ v : Int, v = ((p.cmds.length : Nat) : Int) → Rk ((wr.alloc (.cells #[.string x.name, .int .i64 (x.at' : Int), .int .i64 (x.cmd : Int), .bool true] 191)).setCell ⟨gg, x.cmd * 23 + 12, none⟩ (.int .i64 v)) b s { p with cmds := setGoal cs x.cmd (p.cmds.length) } (.slice (some ⟨gg, 0, none⟩) cs.length cap2) (.slice (some ⟨gl, 0, none⟩) p.labs.length cap)) := fun v hv => HKA.out.goal (show x.cmd < cs.length by omega) hv
            have HMS : Hid (∀ v, MapF ((wr.alloc (.cells #[.string x.name, .int .i64 (x.at' : Int), .int .i64 (x.cmd : Int), .bool true] 191)).setCell ⟨gg, x.cmd * 23 + 12, none⟩ v) B p.labs.length (marksOf p.labs)) := fun v => HMr.out.of (by rw [Below.heap_setCell _ _ _ _ (by simp only; omega)]; exact Below.heap_alloc _ _ _ HMr.out.lt)
            have HFS : Hid (∀ v, Fq b (.slice (some ⟨gg, 0, none⟩) cs.length cap2) (.slice (some ⟨gg, 0, none⟩) cs.length cap2) (.slice (some ⟨gl, 0, none⟩) p.labs.length cap) (.slice (some ⟨gl, 0, none⟩) p.labs.length cap) w ((wr.alloc (.cells #[.string x.name, .int .i64 (x.at' : Int), .int .i64 (x.cmd : Int), .bool true] 191)).setCell ⟨gg, x.cmd * 23 + 12, none⟩ v)) := fun v => (HFr.out.trans (Fq.mw ((Mw.refl b wr).alloc hbr _))).setOwn (.inl rfl)
            have hbg : b ≠ gg := by omega
            have l1 : (0 : Int) ≤ (x.cmd : Int) := by omega
            have l2 : (x.cmd : Int) < (cs.length : Int) := by omega
            obtain ⟨⟨⟨t0, t1, tf, _, _⟩, t5, tf5⟩, t2, t3, t4, tf2, tf3, tf4, _, _, _⟩ := HKA.out
            clear own4
            go_wp2_with fail
            go_region
            all_goals go_wp2_with fail
            all_goals go_roundw
            all_goals first
              | exact ⟨j + 1, setGoal cs x.cmd (p.cmds.length), rfl, by omega, (HKS.out _ rfl).beside (Nat.le_refl _) (fun _ _ => rfl), (HFS.out _).drew, (HMS.out _).of rfl, by rw [Hid, setGoal_length]; exact HCL.out, HJN⟩
              | (simp [intOf]; omega)
          | false =>
            rw [hw] at m3
            have HJN : Hid (R = joinL p.labs p.cmds.length (p.labs.drop (j + 1)) (j + 1) cs) := by rw [Hid, HD2.out, hw]; rfl
            go_wp2_with fail
            go_roundw
            case rel => exact ⟨j + 1, cs, rfl, by omega, HKr.out.beside (by simp) (fun k hk => Below.heap_alloc _ _ _ hk), HFr.out.trans (Fq.mw ((Mw.refl b wr).alloc hbr _)), HMr.out.of (Below.heap_alloc _ _ _ HMr.out.lt), HCL, HJN⟩
            case measure => simp [intOf]; omega
        · have hemp := size_some hz
          have HD2 : Hid (R = match markF x.name p.labs 0 with
            | none => .error x.at'
            | some m => if x.want = false ∧ m ≠ j then .error x.at' else joinL p.labs p.cmds.length (p.labs.drop (j + 1)) (j + 1) (if x.want = true then setGoal cs x.cmd ((p.labs[m]?.map Lab.cmd).getD 0) else cs)) := by rw [Hid, HD.out, if_neg hz]
          clear HD
          have HMA : Hid (MapF (wr.alloc (.cells #[.string x.name, .int .i64 (x.at' : Int), .int .i64 (x.cmd : Int), .bool x.want] 191)) B p.labs.length (marksOf p.labs)) := HMr.out.of (Below.heap_alloc _ _ _ HMr.out.lt)
          have hlook := HMA.out.look x.name hmx
          rw [marksOf_name] at hlook
          cases hmk2 : markF x.name p.labs 0 with
          | none =>
            rw [hmk2] at hlook
            simp only at hlook
            have HRK : Hid (R = .error x.at') := by rw [Hid, HD2.out, hmk2]
            go_wp2_with fail
            exact bodyPost_ret (v := .tuple #[.int .i64 (x.at' : Int), .bool false]) (by simp [results, Tryz.results70, go_sem]) rfl (by rw [HRK.out]; exact ⟨rfl, (HFr.out.trans (Fq.mw ((Mw.refl b wr).alloc hbr _))).below HK.out⟩)
          | some m =>
            rw [hmk2] at hlook
            simp only at hlook
            have hml : m < p.labs.length := by have := markF_lt x.name p.labs 0 m hmk2; omega
            obtain ⟨y, hy⟩ : ∃ y, p.labs[m]? = some y := ⟨_, List.getElem?_eq_getElem hml⟩
            have n2 := HCELL.out m y hy 2 _ rfl
            have q1 : (0 : Int) ≤ (m : Int) := by omega
            have q2 : (m : Int) < (p.labs.length : Int) := by omega
            have HD3 : Hid (R = if x.want = false ∧ m ≠ j then .error x.at' else joinL p.labs p.cmds.length (p.labs.drop (j + 1)) (j + 1) (if x.want = true then setGoal cs x.cmd y.cmd else cs)) := by rw [Hid, HD2.out, hmk2]; simp only [hy]; rfl
            have HYM : Hid (p.labs[m]? = some y) := hy
            clear HD2 hmk2 hy
            cases hw : x.want with
            | true =>
              have hcl := hwc hw
              rw [hw] at m3 hlook
              have HJN : Hid (R = joinL p.labs p.cmds.length (p.labs.drop (j + 1)) (j + 1) (setGoal cs x.cmd (y.cmd))) := by rw [Hid, HD3.out, if_neg (fun h => by rw [hw] at h; cases h.1), if_pos hw]
              obtain ⟨gg, cap2, hcvf⟩ : ∃ gg cap2, cv = .slice (some ⟨gg, 0, none⟩) cs.length cap2 := by
                obtain ⟨xs, own, _⟩ := HKr.out.own
                obtain ⟨gg, cap2, e, _⟩ := own.form (show 0 < cs.length by omega)
                exact ⟨gg, cap2, e⟩
              subst hcvf
              have HKA : Hid (Rk (wr.alloc (.cells #[.string x.name, .int .i64 (x.at' : Int), .int .i64 (x.cmd : Int), .bool true] 191)) b s { p with cmds := cs } (.slice (some ⟨gg, 0, none⟩) cs.length cap2) (.slice (some ⟨gl, 0, none⟩) p.labs.length cap)) := HKr.out.beside (by simp) (fun k hk => Below.heap_alloc _ _ _ hk)
              obtain ⟨xs4, own4, _⟩ := HKA.out.own
              have hg2c : ∃ v, (wr.alloc (.cells #[.string x.name, .int .i64 (x.at' : Int), .int .i64 (x.cmd : Int), .bool true] 191)).cell? ⟨gg, x.cmd * 23 + 12, none⟩ = some v := by
                rw [own4.cellAt (x.cmd * 23 + 12) (by show x.cmd * 23 + 12 < cs.length * 23; omega)]
                exact ⟨_, List.getElem?_eq_getElem (by rw [own4.1]; show x.cmd * 23 + 12 < cs.length * 23; omega)⟩
              obtain ⟨v4, hv4⟩ := hg2c
              have hz4 := own4.frozenAt (x.cmd * 23 + 12)
              have hgg : b + 1 ≤ gg ∧ gg < w.heap.size := by obtain ⟨xs, own, _⟩ := HK.out.own; exact own.lt gg rfl
              have HKS : Hid (∀ v : Int, v = ((y.cmd : Nat) : Int) → Rk ((wr.alloc (.cells #[.string x.name, .int .i64 (x.at' : Int), .int .i64 (x.cmd : Int), .bool true] 191)).setCell ⟨gg, x.cmd * 23 + 12, none⟩ (.int .i64 v)) b s { p with cmds := setGoal cs x.cmd (y.cmd) } (.slice (some ⟨gg, 0, none⟩) cs.length cap2) (.slice (some ⟨gl, 0, none⟩) p.labs.length cap)) := fun v hv => HKA.out.goal (show x.cmd < cs.length by omega) hv
              have HMS : Hid (∀ v, MapF ((wr.alloc (.cells #[.string x.name, .int .i64 (x.at' : Int), .int .i64 (x.cmd : Int), .bool true] 191)).setCell ⟨gg, x.cmd * 23 + 12, none⟩ v) B p.labs.length (marksOf p.labs)) := fun v => HMr.out.of (by rw [Below.heap_setCell _ _ _ _ (by simp only; omega)]; exact Below.heap_alloc _ _ _ HMr.out.lt)
              have HFS : Hid (∀ v, Fq b (.slice (some ⟨gg, 0, none⟩) cs.length cap2) (.slice (some ⟨gg, 0, none⟩) cs.length cap2) (.slice (some ⟨gl, 0, none⟩) p.labs.length cap) (.slice (some ⟨gl, 0, none⟩) p.labs.length cap) w ((wr.alloc (.cells #[.string x.name, .int .i64 (x.at' : Int), .int .i64 (x.cmd : Int), .bool true] 191)).setCell ⟨gg, x.cmd * 23 + 12, none⟩ v)) := fun v => (HFr.out.trans (Fq.mw ((Mw.refl b wr).alloc hbr _))).setOwn (.inl rfl)
              have hbg : b ≠ gg := by omega
              have l1 : (0 : Int) ≤ (x.cmd : Int) := by omega
              have l2 : (x.cmd : Int) < (cs.length : Int) := by omega
              obtain ⟨⟨⟨t0, t1, tf, _, _⟩, t5, tf5⟩, t2, t3, t4, tf2, tf3, tf4, _, _, _⟩ := HKA.out
              clear own4
              go_wp2_with fail
              go_region
              all_goals go_wp2_with fail
              all_goals go_roundw
              all_goals first
                | exact ⟨j + 1, setGoal cs x.cmd (y.cmd), rfl, by omega, (HKS.out _ rfl).beside (Nat.le_refl _) (fun _ _ => rfl), (HFS.out _).drew, (HMS.out _).of rfl, by rw [Hid, setGoal_length]; exact HCL.out, HJN⟩
                | (simp [intOf]; omega)
            | false =>
              rw [hw] at m3 hlook
              by_cases hmj : m = j
              · subst hmj
                obtain rfl : y = x := by have h1 := HXJ.out; rw [HYM.out] at h1; exact Option.some.inj h1
                clear n2
                have hbe : ((m : Int) != (m : Int)) = false := by simp
                have HJN : Hid (R = joinL p.labs p.cmds.length (p.labs.drop (m + 1)) (m + 1) cs) := by rw [Hid, HD3.out, if_neg (fun h => h.2 rfl), hw]; rfl
                go_wp2_with fail
                go_roundw
                case rel => exact ⟨m + 1, cs, rfl, by omega, HKr.out.beside (by simp) (fun k hk => Below.heap_alloc _ _ _ hk), HFr.out.trans (Fq.mw ((Mw.refl b wr).alloc hbr _)), HMr.out.of (Below.heap_alloc _ _ _ HMr.out.lt), HCL, HJN⟩
                case measure => simp [intOf]; omega
              · have hbe : ((m : Int) != (j : Int)) = true := by simp; omega
                have HRK : Hid (R = .error x.at') := by rw [Hid, HD3.out, if_pos ⟨hw, hmj⟩]
                go_wp2_with fail
                exact bodyPost_ret (v := .tuple #[.int .i64 (x.at' : Int), .bool false]) (by simp [results, Tryz.results70, go_sem]) rfl (by rw [HRK.out]; exact ⟨rfl, (HFr.out.trans (Fq.mw ((Mw.refl b wr).alloc hbr _))).below HK.out⟩)
end Rs
end Go.Proofs.YtppjlpihaocdiaaGreatDoor

/- A part of the proof. -/
set_option linter.unusedSimpArgs false
set_option linter.unusedVariables false
namespace Go.Proofs.YtppjlpihaocdiaaGreatDoor
namespace Rs
open Go.RowKit
def Nm (s : ByteArray) (p : RSt) : Prop := ∀ x ∈ p.labs, x.name.size ≤ s.size
theorem Nm.label {s : ByteArray} {p : RSt} (h : Nm s p) (i : Nat) (want : Bool) : Nm s (p.label s i want) := fun x hx => by
  rcases List.mem_append.1 (show x ∈ p.labs ++ [_] from hx) with hx | hx
  · exact h x hx
  · have e : x = ⟨s.extract i (labF s 8 i), i, p.cmds.length, want⟩ := by simpa using hx
    rw [e]
    simp [ByteArray.size_extract]
    omega
section
variable {row : RSt → RSt × Bool} {s : ByteArray}
theorem blockF_nm (hrow : ∀ p, Nm s p → Nm s (row p).1) {p : RSt} {c : Cm} (h : Nm s p) : Nm s (blockF row s p c).1 := by
  unfold blockF
  split
  · exact h
  · simp only
    have h1 := hrow { p with at' := p.at' + 1, op := p.op + 1, cmds := p.cmds ++ [c] } h
    split
    · exact h1
    · exact h1
theorem whatF_nm (hrow : ∀ p, Nm s p → Nm s (row p).1) {p : RSt} {c : Cm} (h : Nm s p) : Nm s (whatF row s p c).1 := by
  unfold whatF
  split
  · simp only
    split
    · exact blockF_nm hrow h
    · split
      · split
        · exact h
        · exact h
      · split
        · exact h.label (p.at' + 1) true
        · split
          · exact h
          · split
            · exact h
            · exact h
  · exact h
theorem commandF_nm (hrow : ∀ p, Nm s p → Nm s (row p).1) {p : RSt} (h : Nm s p) : Nm s (commandF row s p).1 := by
  unfold commandF
  simp only
  split
  · split
    · split
      · exact h
      · exact whatF_nm hrow (p := { p with at' := skip s blank ((addrF s p.at' p.long).1 + 1), long := (addrF s p.at' p.long).2.2.2.1 }) h
    · split
      · split
        · exact Nm.label (p := { p with at' := (addrF s p.at' p.long).1, long := (addrF s p.at' p.long).2.2.2.1 }) h _ false
        · exact h
      · exact whatF_nm hrow (p := { p with at' := (addrF s p.at' p.long).1, long := (addrF s p.at' p.long).2.2.2.1 }) h
  · exact h
theorem rowL'_nm (hrow : ∀ p, Nm s p → Nm s (row p).1) : ∀ (f : Nat) (p : RSt), Nm s p → Nm s (rowL' row s f p).1
  | 0, p, h => h
  | f + 1, p, h => by
    unfold rowL'
    simp only
    split
    · exact h
    · have h2 := commandF_nm hrow (p := { p with at' := skip s between p.at' }) h
      split
      · split
        · exact rowL'_nm hrow f _ h2
        · exact h2
      · exact h2
end
theorem rowN_nm (s : ByteArray) : ∀ (N : Nat) (p : RSt), Nm s p → Nm s (rowN s N p).1
  | 0, p, h => h
  | N + 1, p, h => rowL'_nm (rowN_nm s N) (s.size + 1) p h
def readR (s : ByteArray) : List Cm × Nat × Int :=
  if 400 < s.size then ([], 1, 0)
  else if (rowsOf s).2 = false then ([], 3, ((rowsOf s).1.at' : Int))
  else if (rowsOf s).1.long ≠ -1 then ([], 2, (rowsOf s).1.long)
  else match joinL (rowsOf s).1.labs (rowsOf s).1.cmds.length (rowsOf s).1.labs 0 (rowsOf s).1.cmds with
    | .error i => ([], 4, (i : Int))
    | .ok cs => (cs, 0, 0)
def CmdsIn (w : World) (lo : Nat) (v : Value) (cs : List Cm) : Prop := ∃ xs, w.ownsRow lo 200 23 v cs.length xs ∧ ∀ (k : Nat) (x : Cm), cs[k]? = some x →
  ∃ l h q, lo ≤ l ∧ h ≤ w.heap.size ∧ (∀ g, v.ownBlock = some g → g ≤ l ∨ h ≤ g) ∧ CmAt w l h x q ∧ ∀ o u, (cmL x q)[o]? = some u → xs[k * 23 + o]? = some u
def ReadPost (s : ByteArray) (w : World) : Ending → World → Prop := fun e w' => ∃ v, e = .returned (.tuple #[v, .int .i64 ((readR s).2.1 : Int), .int .i64 (readR s).2.2]) ∧ Below w.heap.size w w' ∧
  ((readR s).2.1 ≠ 0 → v = .slice none 0 0) ∧ ((readR s).2.1 = 0 → CmdsIn w' w.heap.size v (readR s).1)
set_option maxRecDepth 100000 in
set_option maxHeartbeats 4000000 in
theorem read_any (s : ByteArray) (w : World) (hs : s.size ≤ maxLen) : Calls Tryz.prog 45 #[.string s] w (ReadPost s w) := by
  unfold maxLen at hs
  by_cases h400 : 400 < s.size
  · have HR : Hid (readR s = ([], 1, 0)) := by rw [Hid, readR, if_pos h400]
    have hd : decide ((s.size : Int) > 400) = true := by simp; omega
    go_enter Tryz.func45, Tryz.ntmps45
    go_wp2_with fail
    exact bodyPost_ret (v := .tuple #[.slice none 0 0, .int .i64 1, .int .i64 0]) (by simp [results, Tryz.results45, go_sem]) rfl (by unfold ReadPost; rw [HR.out]; exact ⟨_, rfl, Below.refl _ _, fun _ => rfl, fun h => absurd h (by simp)⟩)
  · have hle : s.size ≤ 400 := by omega
    have HN : Hid (Nm s (rowsOf s).1) := rowN_nm s 7 ⟨0, 0, [], [], -1⟩ (fun x hx => by simp at hx)
    have HLB : Hid ((rowsOf s).2 = true → Lb (rowsOf s).1) := rowN_lb s 7 ⟨0, 0, [], [], -1⟩ (fun x hx => by simp at hx)
    have HR : Hid (readR s = if (rowsOf s).2 = false then ([], 3, ((rowsOf s).1.at' : Int)) else if (rowsOf s).1.long ≠ -1 then ([], 2, (rowsOf s).1.long) else match joinL (rowsOf s).1.labs (rowsOf s).1.cmds.length (rowsOf s).1.labs 0 (rowsOf s).1.cmds with
      | .error i => ([], 4, (i : Int))
      | .ok cs => (cs, 0, 0)) := by rw [Hid, readR, if_neg h400]
    have HRA : Hid (∀ {b : Nat} {cv lv : Value} {u : World}, Rk u b s ⟨0, 0, [], [], -1⟩ cv lv → Calls Tryz.prog 69 #[.pointer (some ⟨b, 0, none⟩)] u (RPost 0 b s ⟨0, 0, [], [], -1⟩ cv lv u (rowsOf s))) := fun h => row_all 7 _ s ⟨0, 0, [], [], -1⟩ _ _ _ h (Nat.zero_le _) (Nat.zero_le _) (by simp) (by simp)
    have HK0 : Hid (Rk (w.alloc (.cells #[.string s, .int .i64 0, .int .i64 0, .slice none 0 0, .slice none 0 0, .int .i64 (-1)] 162)) w.heap.size s ⟨0, 0, [], [], -1⟩ (.slice none 0 0) (.slice none 0 0)) :=
      ⟨⟨⟨by go_simp, by go_simp, by go_simp, Nat.zero_le _, hle⟩, by go_simp, by go_simp⟩, by go_simp, by go_simp, by go_simp, by go_simp, by go_simp, by go_simp, ⟨[], World.ownsRow_nil _ _ _ _, fun k x hx => by simp at hx⟩, World.ownsRow_nil _ _ _ _, fun k hk => by cases hk⟩
    have HB0 : Hid (Below w.heap.size w (w.alloc (.cells #[.string s, .int .i64 0, .int .i64 0, .slice none 0 0, .slice none 0 0, .int .i64 (-1)] 162))) := (Below.refl _ _).alloc (Nat.le_refl _) _
    generalize rowsOf s = G at HN HLB HR HRA
    obtain ⟨p1, ok⟩ := G
    simp only at HN HLB HR
    generalize hRR : readR s = RR at HR
    have HRR : Hid (readR s = RR) := hRR
    clear hRR
    go_enter Tryz.func45, Tryz.ntmps45
    go_wp2_with fail
    refine (HRA.out HK0.out).mono ?_
    rintro e w1 hP
    unfold RPost at hP
    rcases hP with ⟨h1, rfl, ⟨cv, lv, hk1, hf1⟩, ho1, hb1, hb2, hb3, hb4⟩ | ⟨h1, rfl, hrc, hbl⟩
    · simp only at h1 hb1 hb2
      subst h1
      have HK1 : Hid (Rk w1 w.heap.size s p1 cv lv) := hk1
      have HB1 : Hid (Below w.heap.size w w1) := HB0.out.trans (hf1.below HK0.out)
      have hle1 : p1.at' ≤ s.size := hk1.cu.rc.le
      obtain ⟨⟨⟨r0, r1, rf, _, _⟩, r5, rf5⟩, r2, r3, r4, rf2, rf3, rf4, _, _, _⟩ := hk1
      clear hf1
      by_cases hlg : p1.long = -1
      · have hq : (p1.long != -1) = false := by rw [hlg]; rfl
        have HR2 : Hid (RR = match joinL p1.labs p1.cmds.length p1.labs 0 p1.cmds with
          | .error i => ([], 4, (i : Int))
          | .ok cs => (cs, 0, 0)) := by rw [Hid, HR.out, if_neg (by decide), if_neg (fun h => h hlg)]
        clear HR
        have HJ : Hid (Calls Tryz.prog 70 #[.pointer (some ⟨w.heap.size, 0, none⟩)] w1 (JPost w.heap.size s p1 cv lv w1 (joinL p1.labs p1.cmds.length p1.labs 0 p1.cmds))) := join_any w.heap.size s p1 cv lv w1 HK1.out (HLB.out rfl) (by omega) (by omega) (fun x hx => Nat.le_trans (HN.out x hx) hle)
        generalize joinL p1.labs p1.cmds.length p1.labs 0 p1.cmds = J at HJ HR2
        go_wp2_with fail
        refine HJ.out.mono ?_
        rintro e w2 hP
        cases J with
        | error i =>
          obtain ⟨rfl, hbl⟩ := hP
          have HB2 : Hid (Below w.heap.size w w2) := HB1.out.trans hbl
          have HR3 : Hid (RR = ([], 4, (i : Int))) := HR2.out
          clear hbl HR2
          go_wp2_with fail
          exact bodyPost_ret (v := .tuple #[.slice none 0 0, .int .i64 4, .int .i64 (i : Int)]) (by simp [results, Tryz.results45, go_sem]) rfl (by unfold ReadPost; rw [HRR.out, HR3.out]; exact ⟨_, rfl, HB2.out, fun _ => rfl, fun h => absurd h (by simp)⟩)
        | ok cs =>
          obtain ⟨rfl, hbl, hk2⟩ := hP
          have HB2 : Hid (Below w.heap.size w w2) := HB1.out.trans hbl
          have HR3 : Hid (RR = (cs, 0, 0)) := HR2.out
          have HCI : Hid (CmdsIn w2 w.heap.size cv cs) := by
            obtain ⟨xs, own, cms⟩ := hk2.own
            refine ⟨xs, World.ownsRow.mono own (by omega), fun k x hx => ?_⟩
            obtain ⟨l, h, q, a1, a2, a3, a4, a5, a6⟩ := cms k x hx
            exact ⟨l, h, q, a1, a2, a3, a5, a6⟩
          have m3 := hk2.c3
          clear hbl HR2 hk2
          go_wp2_with fail
          exact bodyPost_ret (v := .tuple #[cv, .int .i64 0, .int .i64 0]) (by simp [results, Tryz.results45, go_sem, *]) rfl (by unfold ReadPost; rw [HRR.out, HR3.out]; exact ⟨_, rfl, HB2.out, fun h => absurd rfl h, fun _ => HCI.out⟩)
      · have hq : (p1.long != -1) = true := by simpa using hlg
        have HR2 : Hid (RR = ([], 2, p1.long)) := by rw [Hid, HR.out, if_neg (by decide), if_pos hlg]
        clear HR
        go_wp2_with fail
        go_quiet (fail)
        go_wp2_with fail
        exact bodyPost_ret (v := .tuple #[.slice none 0 0, .int .i64 2, .int .i64 p1.long]) (by simp [results, Tryz.results45, go_sem]) rfl (by unfold ReadPost; rw [HRR.out, HR2.out]; exact ⟨_, rfl, ⟨HB1.out.os, HB1.out.tape, HB1.out.output, HB1.out.size, HB1.out.block⟩, fun _ => rfl, fun h => absurd h (by simp)⟩)
    · simp only at h1 hrc
      subst h1
      have HB1 : Hid (Below w.heap.size w w1) := HB0.out.trans hbl
      have HR2 : Hid (RR = ([], 3, (p1.at' : Int))) := by rw [Hid, HR.out, if_pos rfl]
      obtain ⟨r0, r1, rf, _, _⟩ := hrc
      clear hbl HR
      go_wp2_with fail
      go_quiet (fail)
      go_wp2_with fail
      exact bodyPost_ret (v := .tuple #[.slice none 0 0, .int .i64 3, .int .i64 (p1.at' : Int)]) (by simp [results, Tryz.results45, go_sem]) rfl (by unfold ReadPost; rw [HRR.out, HR2.out]; exact ⟨_, rfl, ⟨HB1.out.os, HB1.out.tape, HB1.out.output, HB1.out.size, HB1.out.block⟩, fun _ => rfl, fun h => absurd h (by simp)⟩)
end Rs
end Go.Proofs.YtppjlpihaocdiaaGreatDoor

