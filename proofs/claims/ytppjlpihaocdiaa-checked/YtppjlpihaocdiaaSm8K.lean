/- Several texts in one. -/
import Derived.Test.YtppjlpihaocdiaaPsEK
import Derived.Test.YtppjlpihaocdiaaSm7K
/- The program's reader of scripts: 'Read', whole. -/
set_option linter.unusedSimpArgs false
set_option linter.unusedVariables false
namespace Go.Proofs.Ytppjlpihaocdiaa
namespace Rs
open Go.RowKit

/-- Names are short. -/
def Nm (s : ByteArray) (p : RSt) : Prop := ∀ x ∈ p.labs, x.name.size ≤ s.size

theorem Nm.label {s : ByteArray} {p : RSt} (h : Nm s p) (i : Nat) (want : Bool) : Nm s (p.label s i want) := fun x hx => by
  rcases List.mem_append.1 (show x ∈ p.labs ++ [_] from hx) with hx | hx
  · exact h x hx
  · have e : x = ⟨s.extract i (labF s 8 i), i, p.cmds.length, want⟩ := by simpa using hx
    rw [e]
    simp [ByteArray.size_extract]
    omega

section
variable {row : RSt → RSt × Bool} {s : ByteArray}
theorem blockF_nm (hrow : ∀ p, Nm s p → Nm s (row p).1) {p : RSt} {c : Cm} (h : Nm s p) : Nm s (blockF row s p c).1 := by
  unfold blockF
  split
  · exact h
  · simp only
    have h1 := hrow { p with at' := p.at' + 1, op := p.op + 1, cmds := p.cmds ++ [c] } h
    split
    · exact h1
    · exact h1
theorem whatF_nm (hrow : ∀ p, Nm s p → Nm s (row p).1) {p : RSt} {c : Cm} (h : Nm s p) : Nm s (whatF row s p c).1 := by
  unfold whatF
  split
  · simp only
    split
    · exact blockF_nm hrow h
    · split
      · split
        · exact h
        · exact h
      · split
        · exact h.label (p.at' + 1) true
        · split
          · exact h
          · split
            · exact h
            · exact h
  · exact h
theorem commandF_nm (hrow : ∀ p, Nm s p → Nm s (row p).1) {p : RSt} (h : Nm s p) : Nm s (commandF row s p).1 := by
  unfold commandF
  simp only
  split
  · split
    · split
      · exact h
      · exact whatF_nm hrow (p := { p with at' := skip s blank ((addrF s p.at' p.long).1 + 1), long := (addrF s p.at' p.long).2.2.2.1 }) h
    · split
      · split
        · exact Nm.label (p := { p with at' := (addrF s p.at' p.long).1, long := (addrF s p.at' p.long).2.2.2.1 }) h _ false
        · exact h
      · exact whatF_nm hrow (p := { p with at' := (addrF s p.at' p.long).1, long := (addrF s p.at' p.long).2.2.2.1 }) h
  · exact h
theorem rowL'_nm (hrow : ∀ p, Nm s p → Nm s (row p).1) : ∀ (f : Nat) (p : RSt), Nm s p → Nm s (rowL' row s f p).1
  | 0, p, h => h
  | f + 1, p, h => by
    unfold rowL'
    simp only
    split
    · exact h
    · have h2 := commandF_nm hrow (p := { p with at' := skip s between p.at' }) h
      split
      · split
        · exact rowL'_nm hrow f _ h2
        · exact h2
      · exact h2
end
theorem rowN_nm (s : ByteArray) : ∀ (N : Nat) (p : RSt), Nm s p → Nm s (rowN s N p).1
  | 0, p, h => h
  | N + 1, p, h => rowL'_nm (rowN_nm s N) (s.size + 1) p h

/-- What Read gives: the commands, the error, the place. -/
def readR (s : ByteArray) : List Cm × Nat × Int :=
  if 400 < s.size then ([], 1, 0)
  else if (rowsOf s).2 = false then ([], 3, ((rowsOf s).1.at' : Int))
  else if (rowsOf s).1.long ≠ -1 then ([], 2, (rowsOf s).1.long)
  else match joinL (rowsOf s).1.labs (rowsOf s).1.cmds.length (rowsOf s).1.labs 0 (rowsOf s).1.cmds with
    | .error i => ([], 4, (i : Int))
    | .ok cs => (cs, 0, 0)

/-- Commands lie in memory, above lo. -/
def CmdsIn (w : World) (lo : Nat) (v : Value) (cs : List Cm) : Prop := ∃ xs, w.ownsRow lo 131 23 v cs.length xs ∧ ∀ (k : Nat) (x : Cm), cs[k]? = some x →
  ∃ l h q, lo ≤ l ∧ h ≤ w.heap.size ∧ (∀ g, v.ownBlock = some g → g ≤ l ∨ h ≤ g) ∧ CmAt w l h x q ∧ ∀ o u, (cmL x q)[o]? = some u → xs[k * 23 + o]? = some u

def ReadPost (s : ByteArray) (w : World) : Ending → World → Prop := fun e w' => ∃ v, e = .returned (.tuple #[v, .int .i64 ((readR s).2.1 : Int), .int .i64 (readR s).2.2]) ∧ Below w.heap.size w w' ∧
  ((readR s).2.1 ≠ 0 → v = .slice none 0 0) ∧ ((readR s).2.1 = 0 → CmdsIn w' w.heap.size v (readR s).1)

set_option maxRecDepth 100000 in
set_option maxHeartbeats 4000000 in
theorem read_any (s : ByteArray) (w : World) (hs : s.size ≤ maxLen) : Calls Try.prog 22 #[.string s] w (ReadPost s w) := by
  unfold maxLen at hs
  by_cases h400 : 400 < s.size
  · have HR : Hid (readR s = ([], 1, 0)) := by rw [Hid, readR, if_pos h400]
    have hd : decide ((s.size : Int) > 400) = true := by simp; omega
    go_enter Try.func22, Try.ntmps22
    go_wp2_with fail
    exact bodyPost_ret (v := .tuple #[.slice none 0 0, .int .i64 1, .int .i64 0]) (by simp [results, Try.results22, go_sem]) rfl (by unfold ReadPost; rw [HR.out]; exact ⟨_, rfl, Below.refl _ _, fun _ => rfl, fun h => absurd h (by simp)⟩)
  · have hle : s.size ≤ 400 := by omega
    have HN : Hid (Nm s (rowsOf s).1) := rowN_nm s 7 ⟨0, 0, [], [], -1⟩ (fun x hx => by simp at hx)
    have HLB : Hid ((rowsOf s).2 = true → Lb (rowsOf s).1) := rowN_lb s 7 ⟨0, 0, [], [], -1⟩ (fun x hx => by simp at hx)
    have HR : Hid (readR s = if (rowsOf s).2 = false then ([], 3, ((rowsOf s).1.at' : Int)) else if (rowsOf s).1.long ≠ -1 then ([], 2, (rowsOf s).1.long) else match joinL (rowsOf s).1.labs (rowsOf s).1.cmds.length (rowsOf s).1.labs 0 (rowsOf s).1.cmds with
      | .error i => ([], 4, (i : Int))
      | .ok cs => (cs, 0, 0)) := by rw [Hid, readR, if_neg h400]
    have HRA : Hid (∀ {b : Nat} {cv lv : Value} {u : World}, Rk u b s ⟨0, 0, [], [], -1⟩ cv lv → Calls Try.prog 36 #[.pointer (some ⟨b, 0, none⟩)] u (RPost 0 b s ⟨0, 0, [], [], -1⟩ cv lv u (rowsOf s))) := fun h => row_all 7 _ s ⟨0, 0, [], [], -1⟩ _ _ _ h (Nat.zero_le _) (Nat.zero_le _) (by simp) (by simp)
    have HK0 : Hid (Rk (w.alloc (.cells #[.string s, .int .i64 0, .int .i64 0, .slice none 0 0, .slice none 0 0, .int .i64 (-1)] 80)) w.heap.size s ⟨0, 0, [], [], -1⟩ (.slice none 0 0) (.slice none 0 0)) :=
      ⟨⟨⟨by go_simp, by go_simp, by go_simp, Nat.zero_le _, hle⟩, by go_simp, by go_simp⟩, by go_simp, by go_simp, by go_simp, by go_simp, by go_simp, by go_simp, ⟨[], World.ownsRow_nil _ _ _ _, fun k x hx => by simp at hx⟩, World.ownsRow_nil _ _ _ _, fun k hk => by cases hk⟩
    have HB0 : Hid (Below w.heap.size w (w.alloc (.cells #[.string s, .int .i64 0, .int .i64 0, .slice none 0 0, .slice none 0 0, .int .i64 (-1)] 80))) := (Below.refl _ _).alloc (Nat.le_refl _) _
    generalize rowsOf s = G at HN HLB HR HRA
    obtain ⟨p1, ok⟩ := G
    simp only at HN HLB HR
    generalize hRR : readR s = RR at HR
    have HRR : Hid (readR s = RR) := hRR
    clear hRR
    go_enter Try.func22, Try.ntmps22
    go_wp2_with fail
    refine (HRA.out HK0.out).mono ?_
    rintro e w1 hP
    unfold RPost at hP
    rcases hP with ⟨h1, rfl, ⟨cv, lv, hk1, hf1⟩, ho1, hb1, hb2, hb3, hb4⟩ | ⟨h1, rfl, hrc, hbl⟩
    · simp only at h1 hb1 hb2
      subst h1
      have HK1 : Hid (Rk w1 w.heap.size s p1 cv lv) := hk1
      have HB1 : Hid (Below w.heap.size w w1) := HB0.out.trans (hf1.below HK0.out)
      have hle1 : p1.at' ≤ s.size := hk1.cu.rc.le
      obtain ⟨⟨⟨r0, r1, rf, _, _⟩, r5, rf5⟩, r2, r3, r4, rf2, rf3, rf4, _, _, _⟩ := hk1
      clear hf1
      by_cases hlg : p1.long = -1
      · have hq : (p1.long != -1) = false := by rw [hlg]; rfl
        have HR2 : Hid (RR = match joinL p1.labs p1.cmds.length p1.labs 0 p1.cmds with
          | .error i => ([], 4, (i : Int))
          | .ok cs => (cs, 0, 0)) := by rw [Hid, HR.out, if_neg (by decide), if_neg (fun h => h hlg)]
        clear HR
        have HJ : Hid (Calls Try.prog 37 #[.pointer (some ⟨w.heap.size, 0, none⟩)] w1 (JPost w.heap.size s p1 cv lv w1 (joinL p1.labs p1.cmds.length p1.labs 0 p1.cmds))) := join_any w.heap.size s p1 cv lv w1 HK1.out (HLB.out rfl) (by omega) (by omega) (fun x hx => Nat.le_trans (HN.out x hx) hle)
        generalize joinL p1.labs p1.cmds.length p1.labs 0 p1.cmds = J at HJ HR2
        go_wp2_with fail
        refine HJ.out.mono ?_
        rintro e w2 hP
        cases J with
        | error i =>
          obtain ⟨rfl, hbl⟩ := hP
          have HB2 : Hid (Below w.heap.size w w2) := HB1.out.trans hbl
          have HR3 : Hid (RR = ([], 4, (i : Int))) := HR2.out
          clear hbl HR2
          go_wp2_with fail
          exact bodyPost_ret (v := .tuple #[.slice none 0 0, .int .i64 4, .int .i64 (i : Int)]) (by simp [results, Try.results22, go_sem]) rfl (by unfold ReadPost; rw [HRR.out, HR3.out]; exact ⟨_, rfl, HB2.out, fun _ => rfl, fun h => absurd h (by simp)⟩)
        | ok cs =>
          obtain ⟨rfl, hbl, hk2⟩ := hP
          have HB2 : Hid (Below w.heap.size w w2) := HB1.out.trans hbl
          have HR3 : Hid (RR = (cs, 0, 0)) := HR2.out
          have HCI : Hid (CmdsIn w2 w.heap.size cv cs) := by
            obtain ⟨xs, own, cms⟩ := hk2.own
            refine ⟨xs, World.ownsRow.mono own (by omega), fun k x hx => ?_⟩
            obtain ⟨l, h, q, a1, a2, a3, a4, a5, a6⟩ := cms k x hx
            exact ⟨l, h, q, a1, a2, a3, a5, a6⟩
          have m3 := hk2.c3
          clear hbl HR2 hk2
          go_wp2_with fail
          exact bodyPost_ret (v := .tuple #[cv, .int .i64 0, .int .i64 0]) (by simp [results, Try.results22, go_sem, *]) rfl (by unfold ReadPost; rw [HRR.out, HR3.out]; exact ⟨_, rfl, HB2.out, fun h => absurd rfl h, fun _ => HCI.out⟩)
      · have hq : (p1.long != -1) = true := by simpa using hlg
        have HR2 : Hid (RR = ([], 2, p1.long)) := by rw [Hid, HR.out, if_neg (by decide), if_pos hlg]
        clear HR
        go_wp2_with fail
        go_quiet (fail)
        go_wp2_with fail
        exact bodyPost_ret (v := .tuple #[.slice none 0 0, .int .i64 2, .int .i64 p1.long]) (by simp [results, Try.results22, go_sem]) rfl (by unfold ReadPost; rw [HRR.out, HR2.out]; exact ⟨_, rfl, ⟨HB1.out.os, HB1.out.tape, HB1.out.output, HB1.out.size, HB1.out.block⟩, fun _ => rfl, fun h => absurd h (by simp)⟩)
    · simp only at h1 hrc
      subst h1
      have HB1 : Hid (Below w.heap.size w w1) := HB0.out.trans hbl
      have HR2 : Hid (RR = ([], 3, (p1.at' : Int))) := by rw [Hid, HR.out, if_pos rfl]
      obtain ⟨r0, r1, rf, _, _⟩ := hrc
      clear hbl HR
      go_wp2_with fail
      go_quiet (fail)
      go_wp2_with fail
      exact bodyPost_ret (v := .tuple #[.slice none 0 0, .int .i64 3, .int .i64 (p1.at' : Int)]) (by simp [results, Try.results22, go_sem]) rfl (by unfold ReadPost; rw [HRR.out, HR2.out]; exact ⟨_, rfl, ⟨HB1.out.os, HB1.out.tape, HB1.out.output, HB1.out.size, HB1.out.block⟩, fun _ => rfl, fun h => absurd h (by simp)⟩)

end Rs
end Go.Proofs.Ytppjlpihaocdiaa

/- The program's reader of scripts against the document's: labels, and the answer. -/
set_option linter.unusedSimpArgs false
set_option linter.unusedVariables false
namespace Go.Proofs.Ytppjlpihaocdiaa
namespace Sm
open Sk (Sc srun sstep SFails swhole Lb BadLabel)
open Rs (RSt Lab Cm markF joinL setGoal readR rowsOf)

theorem markF_none {nm : ByteArray} : ∀ (l : List Lab) (k : Nat), markF nm l k = none → ∀ a ∈ l, ¬ (a.want = false ∧ a.name = nm)
  | [], k, h, a, ha => by simp at ha
  | b :: r, k, h, a, ha => by
    unfold markF at h
    split at h
    · cases h
    · rename_i hb
      rcases List.mem_cons.1 ha with rfl | ha
      · exact hb
      · exact markF_none r (k + 1) h a ha

theorem markF_some {nm : ByteArray} : ∀ (l : List Lab) (k m : Nat), markF nm l k = some m → ∃ j, m = k + j ∧ (∃ a, l[j]? = some a ∧ a.want = false ∧ a.name = nm) ∧ ∀ j' a', j' < j → l[j']? = some a' → ¬ (a'.want = false ∧ a'.name = nm)
  | [], k, m, h => by simp [markF] at h
  | b :: r, k, m, h => by
    unfold markF at h
    split at h
    · rename_i hb
      cases h
      exact ⟨0, rfl, ⟨b, rfl, hb⟩, fun j' a' hj => by omega⟩
    · rename_i hb
      obtain ⟨j, e, ⟨a, h1, h2⟩, h3⟩ := markF_some r (k + 1) m h
      refine ⟨j + 1, by omega, ⟨a, by simpa using h1, h2⟩, fun j' a' hj ha => ?_⟩
      cases j' with
      | zero => simp at ha; rw [← ha]; exact hb
      | succ j' => exact h3 j' a' (by omega) (by simpa using ha)

theorem map_inj {α β : Type} {f : α → β} (hf : ∀ a b, f a = f b → a = b) : ∀ (l m : List α), l.map f = m.map f → l = m
  | [], [], _ => rfl
  | [], b :: m, h => by simp at h
  | a :: l, [], h => by simp at h
  | a :: l, b :: m, h => by
    simp only [List.map_cons, List.cons.injEq] at h
    rw [hf _ _ h.1, map_inj hf l m h.2]

theorem nms_inj {a b : ByteArray} (h : nms a = nms b) : a = b := by
  have := map_inj (fun x y e => UInt8.toNat_inj.1 e) _ _ h
  apply ByteArray.ext
  exact Array.toList_inj.1 this

theorem mem_labOf {l : List Lab} {b : Lb} : b ∈ labOf l ↔ ∃ a ∈ l, a.name.size ≠ 0 ∧ b = ⟨nms a.name, a.at', !a.want⟩ := by
  unfold labOf
  simp only [List.mem_map, List.mem_filter, decide_eq_true_eq]
  constructor
  · rintro ⟨a, ⟨h1, h2⟩, h3⟩; exact ⟨a, h1, h2, h3.symm⟩
  · rintro ⟨a, h1, h2, h3⟩; exact ⟨a, ⟨h1, h2⟩, h3.symm⟩

theorem labOf_append (A B : List Lab) : labOf (A ++ B) = labOf A ++ labOf B := by
  unfold labOf; rw [List.filter_append, List.map_append]

/-- One label: it is wrong here where it is wrong there. -/
theorem bad_iff {x : Sc} {A r : List Lab} {l : Lab} (hx : x.labels = labOf (A ++ l :: r)) (hl : l.name.size ≠ 0) :
    x.labels[(labOf A).length]? = some ⟨nms l.name, l.at', !l.want⟩ ∧ (BadLabel x (labOf A).length ↔ markF l.name (A ++ l :: r) 0 = none ∨ ∃ m, markF l.name (A ++ l :: r) 0 = some m ∧ l.want = false ∧ m ≠ A.length) := by
  have e : labOf (l :: r) = ⟨nms l.name, l.at', !l.want⟩ :: labOf r := by
    have := labOf_append [l] r
    have h1 := labOf_snoc [] l
    rw [if_neg hl] at h1
    rw [show l :: r = [l] ++ r from rfl, this]
    simp only [List.nil_append] at h1
    rw [h1]
    rfl
  have hx2 : x.labels = labOf A ++ (⟨nms l.name, l.at', !l.want⟩ :: labOf r) := by rw [hx, labOf_append, e]
  have hk : x.labels[(labOf A).length]? = some ⟨nms l.name, l.at', !l.want⟩ := by rw [hx2]; simp
  refine ⟨hk, ?_⟩
  constructor
  · rintro ⟨b, hb, h⟩
    rw [hk] at hb
    cases hb
    simp only at h
    cases hm : markF l.name (A ++ l :: r) 0 with
    | none => exact .inl rfl
    | some m =>
      refine .inr ⟨m, rfl, ?_⟩
      obtain ⟨j, e1, ⟨a, h1, h2, h3⟩, h4⟩ := markF_some _ _ _ hm
      rw [Nat.zero_add] at e1
      subst e1
      rcases h with ⟨g, k', l', h5, h6, h7, h8⟩ | h
      · refine ⟨by simpa using g, fun hj => ?_⟩
        have hmem : l' ∈ labOf A := by
          rw [hx2, List.getElem?_append_left h5] at h6
          exact List.mem_of_getElem? h6
        obtain ⟨a', g1, g2, g3⟩ := mem_labOf.1 hmem
        subst g3
        simp only at h7 h8
        obtain ⟨j', g4⟩ := List.getElem?_of_mem g1
        have hlt := (List.getElem?_eq_some_iff.1 g4).1
        exact h4 j' a' (by omega) (by rw [List.getElem?_append_left hlt]; exact g4) ⟨by simpa using h7, nms_inj h8⟩
      · exfalso
        apply h
        have hmem : (⟨nms a.name, a.at', !a.want⟩ : Lb) ∈ x.labels := by
          rw [hx]
          exact mem_labOf.2 ⟨a, List.mem_of_getElem? h1, by rw [h3]; exact hl, rfl⟩
        obtain ⟨k', hk'⟩ := List.getElem?_of_mem hmem
        exact ⟨k', _, hk', by simp [h2], by simp [h3]⟩
  · rintro (h | ⟨m, hm, hw, hne⟩)
    · refine ⟨_, hk, .inr ?_⟩
      rintro ⟨k', l', h1, h2, h3⟩
      have hmem : l' ∈ labOf (A ++ l :: r) := by rw [← hx]; exact List.mem_of_getElem? h1
      obtain ⟨a', g1, g2, g3⟩ := mem_labOf.1 hmem
      subst g3
      exact markF_none _ _ h a' g1 ⟨by simpa using h2, nms_inj h3⟩
    · refine ⟨_, hk, .inl ⟨by simp [hw], ?_⟩⟩
      obtain ⟨j, e1, ⟨a, h1, h2, h3⟩, h4⟩ := markF_some _ _ _ hm
      rw [Nat.zero_add] at e1
      subst e1
      have hlt : m < A.length := by
        by_cases hh : m < A.length
        · exact hh
        · exfalso
          exact h4 A.length l (by omega) (by simp) ⟨hw, rfl⟩
      rw [List.getElem?_append_left hlt] at h1
      have hmem : (⟨nms a.name, a.at', !a.want⟩ : Lb) ∈ labOf A := mem_labOf.2 ⟨a, List.mem_of_getElem? h1, by rw [h3]; exact hl, rfl⟩
      obtain ⟨k', hk'⟩ := List.getElem?_of_mem hmem
      have hlt' := (List.getElem?_eq_some_iff.1 hk').1
      exact ⟨k', _, hlt', by rw [hx2, List.getElem?_append_left hlt']; exact hk', by simp [h2], by simp [h3]⟩

theorem join_sim {x : Sc} {labs : List Lab} (n : Nat) (hx : x.labels = labOf labs) : ∀ (r A : List Lab) (cs : List Cm), labs = A ++ r →
    (∀ e, joinL labs n r A.length cs = .error e → ∃ (k : Nat) (b : Lb), x.labels[k]? = some b ∧ e = b.at' ∧ BadLabel x k ∧ ∀ k', (labOf A).length ≤ k' → k' < k → ¬ BadLabel x k') ∧
    (∀ cs', joinL labs n r A.length cs = .ok cs' → ∀ k, (labOf A).length ≤ k → ¬ BadLabel x k)
  | [], A, cs, hl => by
    refine ⟨fun e h => by simp [joinL] at h, fun cs' h k hk hb => ?_⟩
    obtain ⟨b, hb, _⟩ := hb
    rw [hx, hl, List.append_nil] at hb
    have := (List.getElem?_eq_some_iff.1 hb).1
    omega
  | l :: r, A, cs, hl => by
    have hl' : labs = (A ++ [l]) ++ r := by rw [hl]; simp
    have hlen : (A ++ [l]).length = A.length + 1 := by simp
    by_cases hz : l.name.size = 0
    · have hla : labOf (A ++ [l]) = labOf A := by rw [labOf_snoc, if_pos hz, List.append_nil]
      have hj : joinL labs n (l :: r) A.length cs = joinL labs n r (A ++ [l]).length (if l.want = true then setGoal cs l.cmd n else cs) := by rw [joinL, if_pos hz, hlen]
      rw [hj, ← hla]
      exact join_sim n hx r (A ++ [l]) _ hl'
    · have hla : labOf (A ++ [l]) = labOf A ++ [⟨nms l.name, l.at', !l.want⟩] := by rw [labOf_snoc, if_neg hz]
      have hx' : x.labels = labOf (A ++ l :: r) := by rw [hx, hl]
      obtain ⟨hk, hbad⟩ := bad_iff hx' hz
      rw [← hl] at hbad
      have hrec : ∀ cs0, ¬ BadLabel x (labOf A).length →
          (∀ e, joinL labs n r (A ++ [l]).length cs0 = .error e → ∃ (k : Nat) (b : Lb), x.labels[k]? = some b ∧ e = b.at' ∧ BadLabel x k ∧ ∀ k', (labOf A).length ≤ k' → k' < k → ¬ BadLabel x k') ∧ (∀ cs', joinL labs n r (A ++ [l]).length cs0 = .ok cs' → ∀ k, (labOf A).length ≤ k → ¬ BadLabel x k) := fun cs0 hnb => by
        obtain ⟨r1, r2⟩ := join_sim n hx r (A ++ [l]) cs0 hl'
        rw [hla] at r1 r2
        simp only [List.length_append, List.length_singleton] at r1 r2 ⊢
        refine ⟨fun e he => ?_, fun cs' hc k hk' => ?_⟩
        · obtain ⟨k, b, a1, a2, a3, a4⟩ := r1 e he
          refine ⟨k, b, a1, a2, a3, fun k' h1 h2 => ?_⟩
          by_cases e : k' = (labOf A).length
          · rw [e]; exact hnb
          · exact a4 k' (by omega) h2
        · by_cases e : k = (labOf A).length
          · rw [e]; exact hnb
          · exact r2 cs' hc k (by omega)
      cases hm : markF l.name labs 0 with
      | none =>
        have hj : joinL labs n (l :: r) A.length cs = .error l.at' := by rw [joinL, if_neg hz, hm]
        rw [hj]
        refine ⟨fun e he => ?_, fun cs' hc => by cases hc⟩
        cases he
        exact ⟨_, _, hk, rfl, hbad.2 (.inl hm), fun k' h1 h2 => by omega⟩
      | some m =>
        have hj : joinL labs n (l :: r) A.length cs = if l.want = false ∧ m ≠ A.length then .error l.at' else joinL labs n r (A ++ [l]).length (if l.want = true then setGoal cs l.cmd ((labs[m]?.map Lab.cmd).getD 0) else cs) := by rw [joinL, if_neg hz, hm, hlen]
        rw [hj]
        by_cases hc : l.want = false ∧ m ≠ A.length
        · rw [if_pos hc]
          refine ⟨fun e he => ?_, fun cs' hc => by cases hc⟩
          cases he
          exact ⟨_, _, hk, rfl, hbad.2 (.inr ⟨m, hm, hc⟩), fun k' h1 h2 => by omega⟩
        · rw [if_neg hc]
          refine hrec _ (fun hb => ?_)
          rcases hbad.1 hb with h | ⟨m', h1, h2⟩
          · rw [hm] at h; cases h
          · rw [hm] at h1; cases h1; exact hc h2

/-- What Read answers is the document's answer. -/
theorem read_ans (s : ByteArray) : Sk.SAns s ((readR s).2.1 : Int) (readR s).2.2 := by
  unfold readR
  by_cases h400 : 400 < s.size
  · rw [if_pos h400]
    exact .inl ⟨h400, rfl, rfl⟩
  · rw [if_neg h400]
    have hle : s.size ≤ 400 := by omega
    rcases rows_all s with ⟨h1, y, h2, h3⟩ | ⟨h1, h2⟩
    · rw [if_neg (by rw [h1]; simp)]
      refine .inr (.inr ⟨hle, y, h2, ?_⟩)
      generalize rowsOf s = R at h1 h3
      obtain ⟨p, ok⟩ := R
      simp only at h1 h3 ⊢
      obtain ⟨hl, hlong⟩ := h3.long
      rcases hlong with ⟨e, hlong⟩ | ⟨k, a, n, e, g1, g2, g3, g4⟩
      · rw [if_neg (by rw [e]; simp)]
        have hj := join_sim p.cmds.length h3.labels p.labs [] p.cmds rfl
        simp only [List.length_nil] at hj
        have h0 : (labOf []).length = 0 := rfl
        rw [h0] at hj
        cases hJ : joinL p.labs p.cmds.length p.labs 0 p.cmds with
        | error i =>
          obtain ⟨k, b, a1, a2, a3, a4⟩ := hj.1 i hJ
          exact .inr (.inl ⟨hlong, rfl, k, b, a1, by rw [a2], a3, fun k' hk => a4 k' (Nat.zero_le _) hk⟩)
        | ok cs => exact .inr (.inr ⟨hlong, rfl, rfl, fun k => hj.2 cs hJ k (Nat.zero_le _)⟩)
      · rw [if_pos (by rw [e]; omega)]
        exact .inl ⟨rfl, a, e, k, g1, ⟨n, g2, g3⟩, g4⟩
    · rw [if_pos h1]
      exact .inr (.inl ⟨hle, rfl, _, rfl, h2⟩)

end Sm
end Go.Proofs.Ytppjlpihaocdiaa

