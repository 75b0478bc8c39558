/- The reader's small makers of nodes: join, repeat, sign; a counted repetition. -/
import Derived.Test.YtppjlpihaocdiaaTrSetsK
set_option linter.unusedSimpArgs false
set_option linter.unusedVariables false
namespace Go.Proofs.Ytppjlpihaocdiaa
namespace Tr
open Go.RowKit

/-- The kids that a call gathers: a row of its own, made since N, apart from the nodes. -/
structure Kd (w : World) (N : Nat) (nv kv : Value) (zs : List Nat) : Prop where
  own : w.ownsRow N 3 1 kv zs.length (zs.map fun z : Nat => Value.int .i64 (z : Int))
  ne : ∀ k, kv.ownBlock = some k → nv.ownBlock ≠ some k

theorem Kd.fr {w w' : World} {b N : Nat} {nv nv' kv : Value} {zs : List Nat} (h : Kd w N nv kv zs) (hf : Fr b nv nv' w w') (hb : b < N) : Kd w' N nv' kv zs := by
  refine ⟨ownsRow_of_block h.own fun k hk => ?_, fun k hk => ?_⟩
  · have := h.own.lt k hk
    exact hf.block k this.2 (by omega) (fun e => h.ne k hk e.symm)
  · have := h.own.lt k hk
    rcases hf.lies with e | e
    · rw [e]; exact h.ne k hk
    · intro hh
      have := e k hh
      omega

theorem Rd.drewN {w : World} {b i o g : Nat} {n : NX} {s : ByteArray} {nv : Value} (h : Rd w b s i o g nv n) (m : Nat) : Rd (w.drewN m) b s i o g nv n :=
  Mv.rd (h.rc.stay.drewN m) h h.rc.le

theorem own_cells {w : World} {N g n cap : Nat} {zs : List Nat} (h : w.ownsRow N 3 1 (.slice (some ⟨g, 0, none⟩) n cap) n (zs.map fun z : Nat => Value.int .i64 (z : Int))) : ∀ (k y : Nat), zs[k]? = some y → w.cell? ⟨g, k, none⟩ = some (.int .i64 y) := by
  intro k y hy
  rcases h.2 with ⟨e, _⟩ | ⟨g', cap', cur, hv, _, hh, _, _, _, ht⟩
  · cases e
  · cases hv
    rw [cell_of_row w g k cur 3 (0, 0) hh]
    have : cur.toList[k]? = some (.int .i64 (y : Int)) := by
      have h0 : (cur.toList.take (n * 1))[k]? = some (.int .i64 (y : Int)) := by rw [ht, List.getElem?_map, hy]; rfl
      rw [List.getElem?_take] at h0
      split at h0
      · exact h0
      · cases h0
    simpa using this

/-- Other blocks are barred to the kids. -/
theorem Rd.bar {w : World} {b i o g : Nat} {n : NX} {s : ByteArray} {nv : Value} (h : Rd w b s i o g nv n) (Y : Nat → Prop) (hY : ∀ k, k < w.heap.size → Y k → n.X k) : Rd w b s i o g nv ⟨n.l, Y⟩ := by
  obtain ⟨rc, c2, c3, c4, f2, f3, f4, ⟨xs, hown, hce⟩, hwf⟩ := h
  refine ⟨rc, c2, c3, c4, f2, f3, f4, ⟨xs, hown, fun k d hd => ?_⟩, hwf⟩
  obtain ⟨ao, c, y0, y1, y2, y3, h1, h2, h3, h4⟩ := hce k d hd
  refine ⟨ao, c, y0, y1, y2, y3, h1, ?_, h3, h4⟩
  rcases h2 with h2 | ⟨kb, e1, e2, e3, e4, e5⟩
  · exact .inl h2
  · by_cases hs : d.subs = []
    · exact .inl hs
    · obtain ⟨y, hy⟩ : ∃ y, d.subs[0]? = some y := by
        cases hd : d.subs with
        | nil => exact absurd hd hs
        | cons a l => exact ⟨a, rfl⟩
      exact .inr ⟨kb, e1, e2, e3, fun hx => e4 (hY kb (World.block_lt_of_cell? w _ (e5 0 y hy)) hx), e5⟩

set_option maxHeartbeats 400000 in
theorem join_one (b : Nat) (nv kv : Value) (N : Nat) (k : Int) (z : Nat) (w : World) (hk : Kd w N nv kv [z]) :
    Calls Try.prog 57 #[.pointer (some ⟨b, 0, none⟩), .int .i64 k, kv] w fun e w' => e = .returned (.int .i64 z) ∧ w' = w := by
  obtain ⟨g0, cap, rfl, hg, hlt⟩ := hk.own.form (by simp)
  have hc : w.cell? ⟨g0, 0, none⟩ = some (.int .i64 z) := own_cells hk.own 0 z rfl
  have hl : (([z].length : Nat) : Int) = 1 := rfl
  simp only [List.length_singleton]
  go_enter Try.func57, Try.ntmps57
  go_wp2
  go_ret
  exact ⟨rfl, rfl⟩

set_option maxHeartbeats 400000 in
theorem join_more (b i o g : Nat) (n : NX) (s : ByteArray) (nv kv : Value) (N : Nat) (k : Int) (kk : Nat) (zs : List Nat) (w : World) (hr : Rd w b s i o g nv n) (hn : n.l.length ≤ 1000) (hk : Kd w N nv kv zs) (hz : 2 ≤ zs.length) (hz2 : zs.length ≤ 1000)
    (hkk : kk = 4 ∨ kk = 5) (hk2 : k = pkind kk) (hX : ∀ q, n.X q → q < N) (hbN : b < N) (hzn : ∀ z ∈ zs, z < n.l.length) :
    Calls Try.prog 57 #[.pointer (some ⟨b, 0, none⟩), .int .i64 k, kv] w fun e w' => ∃ nv', e = .returned (.int .i64 n.l.length) ∧ Rd w' b s i o g nv' (n.add (rowN kk zs)) ∧ Fr b nv nv' w w' := by
  obtain ⟨g0, cap, rfl, hg, hlt⟩ := hk.own.form (by omega)
  have HR : Hid (Rd w b s i o g nv n) := hr
  have HKD : Hid (KidsC w b nv n.X (some ⟨g0, 0, none⟩) (rowN kk zs).subs) := .inr ⟨g0, rfl, by omega, hk.ne g0 rfl, fun h => by have := hX g0 h; omega, own_cells hk.own⟩
  have HCP : Hid (zs.length ≤ cap) := by
    rcases hk.own.2 with ⟨e, _⟩ | ⟨g', cap', cur, hv, _, _, hc, _⟩
    · cases e
    · cases hv; exact hc
  have HPN : Hid (PNd n.l.length g (rowN kk zs)) := ⟨by unfold rowN; simp only; omega, hzn, fun h => by unfold rowN at h; simp only at h; omega, fun _ => ⟨hz, hz2⟩, fun h => by unfold rowN at h; simp only at h; omega, fun h => by unfold rowN at h; simp only at h; omega⟩
  have HNUM : Hid ((0 : Int) = pnum (rowN kk zs)) := by unfold pnum rowN; rw [if_neg (by simp only; omega)]; rfl
  have HZL : Hid (zs.length = (rowN kk zs).subs.length) := rfl
  have HKK : Hid (k = pkind (rowN kk zs).kind) := hk2
  have HS4 : Hid (S4 0 0 0 0 (rowN kk zs).set) := S4.zero
  have h1 : ((zs.length : Int) == 1) = false := by simp; omega
  clear hr hk hzn hX hk2 hkk
  generalize hzl : zs.length = m at hz hz2 h1 HCP HZL ⊢
  clear hzl
  go_enter Try.func57, Try.ntmps57
  go_wp2_with fail
  refine (add_any b i o g n s nv _ HR.out hn (rowN kk zs) k 0 0 0 m (some ⟨g0, 0, none⟩) cap 0 0 0 0 HKK.out HZL.out HNUM.out rfl rfl HS4.out HKD.out (by rw [← HZL.out]; exact HCP.out) HPN.out).mono ?_
  rintro e w' ⟨nv', rfl, h⟩
  go_wp2_with fail
  go_ret
  exact ⟨nv', rfl, h⟩

theorem cell_new_one (w : World) (v : Value) (t : TypeId) : (w.alloc (.cells #[v] t)).cell? ⟨w.heap.size, 0, none⟩ = some v := by
  rw [cell_of_row _ w.heap.size 0 _ _ (0, 0) (heap_alloc_new w _)]; rfl

set_option maxHeartbeats 400000 in
theorem repeat_any (b i o g : Nat) (n : NX) (s : ByteArray) (nv : Value) (z lo : Nat) (hi : Int) (w : World) (hr : Rd w b s i o g nv n) (hn : n.l.length ≤ 1000) (hX : ∀ q, n.X q → q < w.heap.size) (hz : z < n.l.length) (hl9 : lo ≤ 9) (hh9 : hi ≤ 9) (hlh : hi = -1 ∨ (lo : Int) ≤ hi) :
    Calls Try.prog 103 #[.pointer (some ⟨b, 0, none⟩), .int .i64 z, .int .i64 lo, .int .i64 hi] w fun e w' => ∃ nv', e = .returned (.int .i64 n.l.length) ∧ Rd w' b s i o g nv' (n.add (repN z lo hi)) ∧ Fr b nv nv' w w' := by
  have HR : Hid (Rd w b s i o g nv n) := hr
  have hb : b < w.heap.size := World.block_lt_of_cell? w _ hr.rc.c0
  have HO : Hid (nv.ownBlock ≠ some w.heap.size) := by
    obtain ⟨xs, ho, _⟩ := hr.own
    exact fun e => by have := (ho.lt _ e).2; omega
  have HPN : Hid (PNd n.l.length g (repN z lo hi)) := ⟨Nat.le_refl 6, fun x hx => by unfold repN at hx; simp at hx; omega, fun _ => ⟨z, rfl⟩, fun h => by unfold repN at h; simp at h, fun _ => ⟨hl9, hh9, hlh⟩, fun h => by unfold repN at h; simp at h⟩
  have HX : Hid (∀ q, n.X q → q < w.heap.size) := hX
  clear hr hX
  go_enter Try.func103, Try.ntmps103
  go_wp2_with fail
  have hB : Below w.heap.size w (w.alloc (.cells #[.int .i64 (z : Int)] 3)) := (Below.refl _ _).alloc (Nat.le_refl _) _
  refine (add_any b i o g n s nv _ (Below.rd hB HR.out) hn (repN z lo hi) _ _ _ _ _ _ _ 0 0 0 0 rfl rfl rfl rfl rfl S4.zero (.inr ⟨w.heap.size, rfl, by omega, HO.out, fun h => by have := HX.out _ h; omega, fun k y hy => ?_⟩) (Nat.le_refl 1) HPN.out).mono ?_
  · have : k = 0 := by
      have := (List.getElem?_eq_some_iff.1 hy).1
      simp [repN] at this
      exact this
    subst this
    have : y = z := by simpa [repN] using hy.symm
    subst this
    exact cell_new_one _ _ _
  rintro e w' ⟨nv', rfl, h1, h2⟩
  go_wp2_with fail
  go_ret
  exact ⟨nv', rfl, h1, (Below.fr hB nv).trans h2⟩

theorem PNd_leaf {n g k : Nat} {S : Nat → Bool} (hk : k ≤ 2) : PNd n g (leaf k S) :=
  ⟨by unfold leaf; simp only; omega, fun x hx => by unfold leaf at hx; simp at hx, fun h => by unfold leaf at h; simp only at h; omega, fun h => by unfold leaf at h; simp only at h; omega, fun h => by unfold leaf at h; simp only at h; omega, fun h => by unfold leaf at h; simp only at h; omega⟩

set_option maxHeartbeats 400000 in
theorem sign_any (b i o g : Nat) (n : NX) (s : ByteArray) (nv : Value) (w : World) (hr : Rd w b s i o g nv n) (hn : n.l.length ≤ 1000) (hi : i < s.size)
    (k : Int) (kk : Nat) (S : Nat → Bool) (y0 y1 y2 y3 : Nat) (hkk : kk ≤ 2) (hk : k = pkind kk) (hS : S4 y0 y1 y2 y3 S) :
    Calls Try.prog 119 #[.pointer (some ⟨b, 0, none⟩), .agg #[.int .i64 k, .slice none 0 0, .int .u64 y0, .int .u64 y1, .int .u64 y2, .int .u64 y3, .int .i64 0, .int .i64 0, .int .i64 0]] w
      fun e w' => ∃ nv', e = .returned (.int .i64 n.l.length) ∧ Rd w' b s (i + 1) o g nv' (n.add (leaf kk S)) ∧ Fr b nv nv' w w' := by
  have HR : Hid (Rd w b s i o g nv n) := hr
  obtain ⟨⟨r0, r1, rf, rle, r40⟩, c2, c3, c4, f2, f3, f4, own, hwf⟩ := hr
  have hb : b < w.heap.size := World.block_lt_of_cell? w _ r0
  have HS : Hid (S4 y0 y1 y2 y3 S) := hS
  have HNUM : Hid ((0 : Int) = pnum (leaf kk S)) := by unfold pnum leaf; rw [if_neg (by simp only; omega)]; rfl
  have HKK : Hid (k = pkind kk) := hk
  clear own hwf hS hk
  go_enter Try.func119, Try.ntmps119
  go_wp2_with (go_at_call 80; refine (add_any b (i + 1) o g n s nv _ (Below.rd ((Below.refl _ _).alloc (Nat.le_refl _) _) (Mv.rd ((Mv.stay r1).set (i + 1) (by omega)) HR.out (by omega))) hn (leaf kk S) _ _ _ _ _ _ _ y0 y1 y2 y3 HKK.out rfl HNUM.out rfl rfl HS.out (.inl rfl) (Nat.zero_le _) (PNd_leaf hkk)).mono ?_; rintro e w' ⟨nv', rfl, h1, h2⟩)
  go_ret
  exact ⟨nv', rfl, h1, ((Mv.fr ((Mv.stay r1).set (i + 1) (by omega)) nv).trans (Below.fr ((Below.refl _ _).alloc (Nat.le_refl _) _) nv)).trans h2⟩

/-- What the reader's calls that can fail leave. -/
def Post (b : Nat) (s : ByteArray) (i o : Nat) (n : NX) (nv : Value) (w : World) (Q : Nat → St → Prop) (F : PSt × Nat) (z : Int) (ok : Bool) (w' : World) : Prop :=
  (ok = true ∧ ∃ (j g' : Nat) (n' : NX) (nv' : Value) (st : St) (zn : Nat), Rd w' b s j o g' nv' n' ∧ Fr b nv nv' w w' ∧ run s j = some st ∧ st.o = o ∧ st.a = g' ∧ i < j ∧ n'.l.length + 1 + 2 * i ≤ n.l.length + 2 * j ∧ Q j st ∧ n'.X = n.X ∧ z = zn ∧ zn < n'.l.length ∧ F = (⟨j, g', n'.l⟩, zn)) ∨
  (ok = false ∧ ∃ j : Nat, Fails s j ∧ w'.cell? ⟨b, 1, none⟩ = some (.int .i64 j) ∧ Below b w w')

theorem Post.fails {b i o g j : Nat} {n : NX} {s : ByteArray} {nv : Value} {w w' : World} {Q : Nat → St → Prop} {F : PSt × Nat} {z : Int} (hr : Rd w b s i o g nv n) (hm : Mv b w w' j) (hF : Fails s j) : Post b s i o n nv w Q F z false w' :=
  .inr ⟨rfl, j, hF, hm.c1, (Mv.fr hm nv).below hr⟩

theorem Post.after {b i i1 o g : Nat} {n n1 : NX} {s : ByteArray} {nv nv1 : Value} {w w1 w' : World} {Q : Nat → St → Prop} {F : PSt × Nat} {z : Int} {ok : Bool} (hr : Rd w b s i o g nv n) (hf : Fr b nv nv1 w w1) (hi : i ≤ i1) (hn : n1.l.length + 2 * i ≤ n.l.length + 2 * i1) (hX : n1.X = n.X)
    (h : Post b s i1 o n1 nv1 w1 Q F z ok w') : Post b s i o n nv w Q F z ok w' := by
  rcases h with ⟨rfl, j, g', n', nv', st, zn, h1, h2, h3, h4, h5, h6, h7, h8, h9, h10, h11, h12⟩ | ⟨rfl, j, h1, h2, h3⟩
  · exact .inl ⟨rfl, j, g', n', nv', st, zn, h1, hf.trans h2, h3, h4, h5, by omega, by omega, h8, by rw [h9, hX], h10, h11, h12⟩
  · exact .inr ⟨rfl, j, h1, h2, (hf.below hr).trans h3⟩

theorem len_add (n : NX) (d : Nd) : (n.add d).l.length = n.l.length + 1 := by simp [NX.add]

theorem acceptY (b : Nat) (s : ByteArray) (i c : Nat) (w : World) (hr : Rc w b s i) (hc : c < 256) (hi : pk s i = c) :
    Calls Try.prog 56 #[.pointer (some ⟨b, 0, none⟩), .int .u8 c] w fun e w' => e = .returned (.bool true) ∧ Mv b w w' (i + 1) := by
  refine (accept_yes b s i c w hr hc hi).mono ?_
  rintro e w' ⟨rfl, n, rfl⟩
  exact ⟨rfl, (hr.stay.set (i + 1) rfl).drewN n⟩

theorem acceptN (b : Nat) (s : ByteArray) (i c : Nat) (w : World) (hr : Rc w b s i) (hc : c < 256) (hi : pk s i ≠ c) :
    Calls Try.prog 56 #[.pointer (some ⟨b, 0, none⟩), .int .u8 c] w fun e w' => e = .returned (.bool false) ∧ Mv b w w' i := by
  refine (accept_no b s i c w hr hc hi).mono ?_
  rintro e w' ⟨rfl, n, rfl⟩
  exact ⟨rfl, hr.stay.drewN n⟩

theorem digitY (b : Nat) (s : ByteArray) (i l : Nat) (w : World) (hr : Rc w b s i) (hl : l ≤ 9) (hi : i < s.size) (h1 : 48 + l ≤ byt s i) (h2 : byt s i ≤ 57) :
    Calls Try.prog 125 #[.pointer (some ⟨b, 0, none⟩), .int .i64 l] w fun e w' => e = .returned (.tuple #[.int .i64 (byt s i - 48 : Nat), .bool true]) ∧ Mv b w w' (i + 1) := by
  refine (digit_yes b s i l w hr hl (by rw [pk_in hi]; omega) (by rw [pk_in hi]; omega)).mono ?_
  rintro e w' ⟨rfl, n, rfl⟩
  exact ⟨ret2 (by rw [pk_in hi]; omega) rfl, (hr.stay.set (i + 1) rfl).drewN n⟩

theorem digitN (b : Nat) (s : ByteArray) (i l : Nat) (w : World) (hr : Rc w b s i) (hl : l ≤ 9) (h : ¬ (i < s.size ∧ 48 + l ≤ byt s i ∧ byt s i ≤ 57)) :
    Calls Try.prog 125 #[.pointer (some ⟨b, 0, none⟩), .int .i64 l] w fun e w' => e = .returned (.tuple #[.int .i64 0, .bool false]) ∧ Mv b w w' i := by
  refine (digit_no b s i l w hr hl ?_).mono ?_
  · by_cases hi : i < s.size
    · rw [pk_in hi]; omega
    · rw [pk_out hi]; omega
  rintro e w' ⟨rfl, n, rfl⟩
  exact ⟨rfl, hr.stay.drewN n⟩

theorem pk_is {s : ByteArray} {i c : Nat} (h : pk s i = c) : i < s.size ∧ byt s i = c := by
  by_cases hi : i < s.size
  · rw [pk_in hi] at h; exact ⟨hi, by omega⟩
  · rw [pk_out hi] at h; omega

theorem brace_step {m o a l c : Nat} (hm : m = 12 ∨ m = 14) : step ⟨m, o, a, l⟩ c = if c = 125 then some ⟨2, o, a, l⟩ else if c = 44 ∧ m = 12 then some ⟨13, o, a, l⟩ else none := by
  unfold step
  simp only
  rw [if_neg (by omega), if_neg (by omega), if_neg (by omega), if_pos (by omega)]
  unfold braced
  simp only
  rw [if_neg (by omega)]

theorem digit_step {m o a l c : Nat} (hm : m = 11 ∨ m = 13) : step ⟨m, o, a, l⟩ c = if 48 ≤ c ∧ c ≤ 57 ∧ l ≤ c - 48 then some ⟨if m = 11 then 12 else 14, o, a, c - 48⟩ else none := by
  unfold step
  simp only
  rw [if_neg (by omega), if_neg (by omega), if_neg (by omega), if_pos (by omega)]
  unfold braced
  simp only
  rw [if_pos hm]

set_option maxHeartbeats 400000 in
theorem counted_any (b i o g : Nat) (n : NX) (s : ByteArray) (nv : Value) (z : Nat) (w : World) (hr : Rd w b s i o g nv n) (hn : n.l.length ≤ 1000) (hX : ∀ q, n.X q → q < w.heap.size) (hz : z < n.l.length) (h : run s i = some ⟨11, o, g, 0⟩) :
    Calls Try.prog 104 #[.pointer (some ⟨b, 0, none⟩), .int .i64 z] w fun e w' => ∃ (z2 : Int) (ok : Bool), e = .returned (.tuple #[.int .i64 z2, .bool ok]) ∧ Post b s i o n nv w (fun _ st => st.m = 2) (if pk s (i + 1) = 44 then addN ⟨i, g, n.l⟩ (i + 4) (repN z (byt s i - 48) ((byt s (i + 2) - 48 : Nat) : Int)) else addN ⟨i, g, n.l⟩ (i + 2) (repN z (byt s i - 48) ((byt s i - 48 : Nat) : Int))) z2 ok w' := by
  have HXX : Hid (∀ q, n.X q → q < w.heap.size) := hX
  generalize hFF : (if pk s (i + 1) = 44 then addN ⟨i, g, n.l⟩ (i + 4) (repN z (byt s i - 48) ((byt s (i + 2) - 48 : Nat) : Int)) else addN ⟨i, g, n.l⟩ (i + 2) (repN z (byt s i - 48) ((byt s i - 48 : Nat) : Int))) = FF
  have HFF : Hid ((if pk s (i + 1) = 44 then addN ⟨i, g, n.l⟩ (i + 4) (repN z (byt s i - 48) ((byt s (i + 2) - 48 : Nat) : Int)) else addN ⟨i, g, n.l⟩ (i + 2) (repN z (byt s i - 48) ((byt s i - 48 : Nat) : Int))) = FF) := hFF
  clear hFF
  have HR : Hid (Rd w b s i o g nv n) := hr
  have HG : Hid (run s i = some ⟨11, o, g, 0⟩) := h
  have HC : Hid (Rc w b s i) := hr.rc
  have hle := hr.rc.le
  clear hr h hX
  by_cases h1 : i < s.size ∧ 48 + 0 ≤ byt s i ∧ byt s i ≤ 57
  · obtain ⟨hi, hd1, hd2⟩ := h1
    have H1 : Hid (i < s.size ∧ 48 + 0 ≤ byt s i ∧ byt s i ≤ 57) := ⟨hi, hd1, hd2⟩
    have HG1 : Hid (run s (i + 1) = some ⟨12, o, g, byt s i - 48⟩) := by
      rw [Hid, run_succ HG.out, digit_step (.inl rfl), if_pos ⟨by omega, hd2, by omega⟩]; rfl
    obtain ⟨d, hd⟩ : ∃ d, byt s i - 48 = d := ⟨_, rfl⟩
    have HD : Hid (byt s i - 48 = d) := hd
    have hd9 : d ≤ 9 := by omega
    rw [hd] at HG1
    clear hd hd1 hd2
    go_enter Try.func104, Try.ntmps104
    go_wp2_with fail
    refine (digitY b s i 0 _ HC.out (by omega) H1.out.1 H1.out.2.1 H1.out.2.2).mono ?_
    rw [HD.out]
    rintro e w1 ⟨rfl, hm1⟩
    have HM1 : Hid (Mv b w w1 (i + 1)) := hm1
    have HC1 : Hid (Rc w1 b s (i + 1)) := hm1.rc HC.out (by omega)
    clear hm1
    by_cases h44 : pk s (i + 1) = (44 : Nat)
    · have H44 : Hid (pk s (i + 1) = (44 : Nat)) := h44
      obtain ⟨hi1, hb1⟩ := pk_is h44
      have HG2 : Hid (run s (i + 2) = some ⟨13, o, g, d⟩) := by
        rw [Hid, run_succ HG1.out, brace_step (.inl rfl), hb1]; rfl
      clear h44 hb1
      go_wp2_with fail
      refine (acceptY b s (i + 1) 44 _ HC1.out (by omega) H44.out).mono ?_
      rintro e w2 ⟨rfl, hm2⟩
      go_wp2_with fail
      have HM2 : Hid (Mv b w w2 (i + 2)) := HM1.out.trans hm2
      have HC2 : Hid (Rc w2 b s (i + 2)) := hm2.rc HC1.out (by omega)
      clear hm2
      by_cases h2 : i + 2 < s.size ∧ 48 + d ≤ byt s (i + 2) ∧ byt s (i + 2) ≤ 57
      · obtain ⟨hi2, hd1, hd2⟩ := h2
        have H2 : Hid (i + 2 < s.size ∧ 48 + d ≤ byt s (i + 2) ∧ byt s (i + 2) ≤ 57) := ⟨hi2, hd1, hd2⟩
        have HG3 : Hid (run s (i + 3) = some ⟨14, o, g, byt s (i + 2) - 48⟩) := by
          rw [Hid, run_succ HG2.out, digit_step (.inr rfl), if_pos ⟨by omega, hd2, by omega⟩]; rfl
        obtain ⟨d2, hd⟩ : ∃ d2, byt s (i + 2) - 48 = d2 := ⟨_, rfl⟩
        have HD2 : Hid (byt s (i + 2) - 48 = d2) := hd
        rw [hd] at HG3
        clear hd hd1 hd2
        refine (digitY b s (i + 2) d _ HC2.out hd9 H2.out.1 H2.out.2.1 H2.out.2.2).mono ?_
        rw [HD2.out]
        rintro e w3 ⟨rfl, hm3⟩
        have HM3 : Hid (Mv b w w3 (i + 3)) := HM2.out.trans hm3
        have HC3 : Hid (Rc w3 b s (i + 3)) := hm3.rc HC2.out (by omega)
        clear hm3
        by_cases hc : pk s (i + 3) = (125 : Nat)
        · have H3 : Hid (pk s (i + 3) = (125 : Nat)) := hc
          obtain ⟨hi3, hb3⟩ := pk_is hc
          have HG4 : Hid (run s (i + 4) = some ⟨2, o, g, d2⟩) := by
            rw [Hid, run_succ HG3.out, brace_step (.inr rfl), hb3]; rfl
          clear hc hb3
          go_wp2_with fail
          refine (acceptY b s (i + 3) 125 _ HC3.out (by omega) H3.out).mono ?_
          rintro e w4 ⟨rfl, hm4⟩
          go_wp2_with fail
          refine (repeat_any b (i + 4) o g n s nv z d d2 _ (Mv.rd (HM3.out.trans hm4) HR.out (by omega)) hn (by rw [(HM3.out.trans hm4).only.size]; exact HXX.out) hz hd9 (by have := H2.out; have := HD2.out; omega) (.inr (by have := H2.out; have := HD2.out; omega))).mono ?_
          rintro e w5 ⟨nv', rfl, h5, h6⟩
          go_wp2_with fail
          go_ret2
          exact ⟨_, true, rfl, .inl ⟨rfl, _, _, _, nv', _, n.l.length, h5, (Mv.fr (HM3.out.trans hm4) nv).trans h6, HG4.out, rfl, rfl, by omega, by rw [len_add]; omega, rfl, rfl, rfl, by rw [len_add]; omega, by rw [← HFF.out, if_pos (show pk s (i + 1) = 44 from H44.out), HD.out, HD2.out]; rfl⟩⟩
        · have H3 : Hid (pk s (i + 3) ≠ (125 : Nat)) := hc
          have HF : Hid (Fails s (i + 3)) := by
            refine Fails.here HG3.out (by omega) (fun hlt => ?_) (fun _ => not_whole (by simp) (by simp))
            rw [pk_in hlt] at hc
            rw [brace_step (.inr rfl), if_neg (by omega), if_neg (by omega)]
          clear hc
          go_wp2_with fail
          refine (acceptN b s (i + 3) 125 _ HC3.out (by omega) H3.out).mono ?_
          rintro e w4 ⟨rfl, hm4⟩
          go_wp2_with fail
          go_ret2
          exact ⟨0, false, rfl, .fails HR.out (HM3.out.trans hm4) HF.out⟩
      · have H2 : Hid (¬ (i + 2 < s.size ∧ 48 + d ≤ byt s (i + 2) ∧ byt s (i + 2) ≤ 57)) := h2
        have HF : Hid (Fails s (i + 2)) := by
          refine Fails.here HG2.out (by omega) (fun hlt => ?_) (fun _ => not_whole (by simp) (by simp))
          rw [digit_step (.inr rfl), if_neg (by omega)]
        clear h2
        refine (digitN b s (i + 2) d _ HC2.out hd9 H2.out).mono ?_
        rintro e w3 ⟨rfl, hm3⟩
        go_wp2_with fail
        go_ret2
        exact ⟨0, false, rfl, .fails HR.out (HM2.out.trans hm3) HF.out⟩
    · have H44 : Hid (pk s (i + 1) ≠ (44 : Nat)) := h44
      by_cases hc : pk s (i + 1) = (125 : Nat)
      · have H3 : Hid (pk s (i + 1) = (125 : Nat)) := hc
        obtain ⟨hi3, hb3⟩ := pk_is hc
        have HG4 : Hid (run s (i + 2) = some ⟨2, o, g, d⟩) := by
          rw [Hid, run_succ HG1.out, brace_step (.inl rfl), hb3]; rfl
        clear hc hb3 h44
        go_wp2_with fail
        refine (acceptN b s (i + 1) 44 _ HC1.out (by omega) H44.out).mono ?_
        rintro e w2 ⟨rfl, hm2⟩
        go_wp2_with fail
        refine (acceptY b s (i + 1) 125 _ (hm2.rc HC1.out (by omega)) (by omega) H3.out).mono ?_
        rintro e w4 ⟨rfl, hm4⟩
        go_wp2_with fail
        refine (repeat_any b (i + 2) o g n s nv z d d _ (Mv.rd (HM1.out.trans (hm2.trans hm4)) HR.out (by omega)) hn (by rw [(HM1.out.trans (hm2.trans hm4)).only.size]; exact HXX.out) hz hd9 (by omega) (.inr (by omega))).mono ?_
        rintro e w5 ⟨nv', rfl, h5, h6⟩
        go_wp2_with fail
        go_ret2
        exact ⟨_, true, rfl, .inl ⟨rfl, _, _, _, nv', _, n.l.length, h5, (Mv.fr (HM1.out.trans (hm2.trans hm4)) nv).trans h6, HG4.out, rfl, rfl, by omega, by rw [len_add]; omega, rfl, rfl, rfl, by rw [len_add]; omega, by rw [← HFF.out, if_neg (show ¬ pk s (i + 1) = 44 from H44.out), HD.out]; rfl⟩⟩
      · have H3 : Hid (pk s (i + 1) ≠ (125 : Nat)) := hc
        have HF : Hid (Fails s (i + 1)) := by
          refine Fails.here HG1.out (by omega) (fun hlt => ?_) (fun _ => not_whole (by simp) (by simp))
          rw [pk_in hlt] at hc h44
          rw [brace_step (.inl rfl), if_neg (by omega), if_neg (by omega)]
        clear hc h44
        go_wp2_with fail
        refine (acceptN b s (i + 1) 44 _ HC1.out (by omega) H44.out).mono ?_
        rintro e w2 ⟨rfl, hm2⟩
        go_wp2_with fail
        refine (acceptN b s (i + 1) 125 _ (hm2.rc HC1.out (by omega)) (by omega) H3.out).mono ?_
        rintro e w4 ⟨rfl, hm4⟩
        go_wp2_with fail
        go_ret2
        exact ⟨0, false, rfl, .fails HR.out (HM1.out.trans (hm2.trans hm4)) HF.out⟩
  · have H1 : Hid (¬ (i < s.size ∧ 48 + 0 ≤ byt s i ∧ byt s i ≤ 57)) := h1
    have HF : Hid (Fails s i) := by
      refine Fails.here HG.out hle (fun hlt => ?_) (fun _ => not_whole (by simp) (by simp))
      rw [digit_step (.inl rfl), if_neg (by omega)]
    clear h1
    go_enter Try.func104, Try.ntmps104
    go_wp2_with fail
    refine (digitN b s i 0 _ HC.out (by omega) H1.out).mono ?_
    rintro e w' ⟨rfl, hm⟩
    go_wp2_with fail
    go_ret2
    exact ⟨0, false, rfl, .fails HR.out hm HF.out⟩
end Tr
end Go.Proofs.Ytppjlpihaocdiaa
