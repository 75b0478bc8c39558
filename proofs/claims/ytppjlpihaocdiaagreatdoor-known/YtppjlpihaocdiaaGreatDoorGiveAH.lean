/- Several texts in one. -/
import Derived.Test.YtppjlpihaocdiaaGreatDoorTrBitsH
/- A part of the proof. -/
set_option linter.unusedSimpArgs false
set_option linter.unusedVariables false
namespace Go.Proofs.YtppjlpihaocdiaaGreatDoor
open Go.RowKit
structure PNd (n groups : Nat) (d : Nd) : Prop where
  k6 : d.kind ≤ 6
  sub : ∀ x ∈ d.subs, x < n
  one : d.kind = 3 ∨ d.kind = 6 → ∃ x, d.subs = [x]
  two : d.kind = 4 ∨ d.kind = 5 → 2 ≤ d.subs.length ∧ d.subs.length ≤ 1000
  rep : d.kind = 6 → d.lo ≤ 9 ∧ d.hi ≤ 9 ∧ (d.hi = -1 ∨ (d.lo : Int) ≤ d.hi)
  num : d.kind = 3 → d.num < groups
def Rel (s : ByteArray) (R : Nat → Nat → Nat → Prop) (d : Nd) (i j : Nat) : Prop :=
  if d.kind = 0 then i < s.size ∧ d.set (byt s i) = true ∧ j = i + 1
  else if d.kind = 1 then i = 0 ∧ j = i
  else if d.kind = 2 then i = s.size ∧ j = i
  else if d.kind = 5 then Chain (d.subs.map R) i j
  else if d.kind = 6 then Times (R (d.subs.getD 0 0)) d.lo d.hi i j
  else ∃ x ∈ d.subs, R x i j
def lastOf (d : Nd) : Nat := if d.hi < 0 then d.lo else d.hi.toNat
structure RowIs (s : ByteArray) (R : Nat → Nat → Nat → Prop) (d : Nd) (m : Nat) (U : Nat → Nat → Nat → Bool) : Prop where
  whole : Tl s.size (U 0) (Rel s R d)
  row : d.kind = 5 → m = d.subs.length + 1 ∧ ∀ q, q ≤ d.subs.length → Tl s.size (U q) (Chain ((d.subs.map R).drop q))
  rep : d.kind = 6 → m = lastOf d + 1 ∧ ∀ q, q ≤ lastOf d → Tl s.size (U q) (Zt (R (d.subs.getD 0 0)) d.lo d.hi q)
theorem Times_Zt {R : Nat → Nat → Prop} {lo : Nat} {hi : Int} (h : hi < 0 ∨ (lo : Int) ≤ hi) (i j : Nat) : Zt R lo hi 0 i j ↔ Times R lo hi i j := by
  rw [Zt_iff]
  unfold Times
  rw [Nat.sub_zero, show max 0 lo = lo by omega]
  constructor
  · rintro ⟨m, r, h1, h2, h3⟩; exact ⟨m, r, h1, by omega, h3⟩
  · rintro ⟨m, r, h1, h2, h3⟩; exact ⟨m, r, h1, .inr h2, h3⟩
set_option maxHeartbeats 4000000 in
theorem tailsOf_any (p : Pp) (k lo groups : Nat) (d : Nd) (ao : Option Addr) (c y0 y1 y2 y3 : Nat) (R : Nat → Nat → Nat → Prop) (T : Nat → Nat → Nat → Nat → Bool) (m : Nat → Nat) (w : World) (h : TbAt w p k T m) (hlo : lo ≤ w.heap.size) (hlv : lo ≤ p.vb + 1)
    (hR : ∀ x, x < k → Tl p.s.size (T x 0) (R x)) (hst : ∀ x, x < k → Stays p.s.size (R x)) (hd : PNd k groups d) (hS : S4 y0 y1 y2 y3 d.set) (hK : Kids w p.vb ao d.subs) (hc : d.subs.length ≤ c) :
    Calls Tryz.prog 65 #[.pointer (some ⟨p.tb, 0, none⟩), .agg #[.int .i64 (pkind d.kind), .slice ao d.subs.length c, .int .u64 y0, .int .u64 y1, .int .u64 y2, .int .u64 y3, .int .i64 (pnum d), .int .i64 d.lo, .int .i64 d.hi]] w
      fun e w' => ∃ r mm, e = .returned (.slice (some ⟨r, 0, none⟩) mm mm) ∧ ∃ U, Rw w' lo r mm p.s.size U ∧ RowIs p.s R d mm U ∧ Below w.heap.size w w' := by
  have HT : Hid (TbAt w p k T m) := h
  have HR : Hid (∀ x, x < k → Tl p.s.size (T x 0) (R x)) := hR
  have HST : Hid (∀ x, x < k → Stays p.s.size (R x)) := hst
  have HD : Hid (PNd k groups d) := hd
  have HS : Hid (S4 y0 y1 y2 y3 d.set) := hS
  have HK : Hid (Kids w p.vb ao d.subs) := hK
  have hs80 := h.s80
  have c3 := h.c3
  have htb : p.tb < w.heap.size := World.block_lt_of_cell? w _ c3
  have hk6 := hd.k6
  have HB0 : Hid (Below w.heap.size w (w.alloc (.cells #[.int .i64 (pkind d.kind), .slice ao d.subs.length c, .int .u64 y0, .int .u64 y1, .int .u64 y2, .int .u64 y3, .int .i64 (pnum d), .int .i64 d.lo, .int .i64 d.hi] 151))) := (Below.refl _ _).alloc (Nat.le_refl _) _
  have hsz0 : (w.alloc (.cells #[.int .i64 (pkind d.kind), .slice ao d.subs.length c, .int .u64 y0, .int .u64 y1, .int .u64 y2, .int .u64 y3, .int .i64 (pnum d), .int .i64 d.lo, .int .i64 d.hi] 151)).heap.size = w.heap.size + 1 := by simp
  clear h hR hst hd hS hK
  obtain hkd | hkd | hkd | hkd | hkd | hkd | hkd : d.kind = 0 ∨ d.kind = 1 ∨ d.kind = 2 ∨ d.kind = 3 ∨ d.kind = 4 ∨ d.kind = 5 ∨ d.kind = 6 := by omega
  · have HKD : Hid (d.kind = 0) := hkd
    rw [show pkind d.kind = 2 from by rw [hkd]; rfl] at HB0 hsz0 ⊢
    clear hkd
    go_enter Tryz.func65, Tryz.ntmps65
    go_wp2_with fail
    refine (oneByte_any p k lo y0 y1 y2 y3 d.set T m _ (HT.out.below HB0.out) HS.out (by omega)).mono ?_
    rintro e w1 ⟨r, rfl, hRw, hB⟩
    have HRw : Hid _ := hRw
    have HB : Hid (Below w.heap.size w w1) := HB0.out.trans (hB.mono (by omega))
    clear hRw hB
    go_wp2_with fail
    go_ret
    refine ⟨_, _, rfl, _, HRw.out, ⟨fun i hi j => ?_, fun e => by have := HKD.out; omega, fun e => by have := HKD.out; omega⟩, HB.out⟩
    unfold Rel
    rw [if_pos HKD.out]
    simp
  · have HKD : Hid (d.kind = 1) := hkd
    rw [show pkind d.kind = 0 from by rw [hkd]; rfl] at HB0 hsz0 ⊢
    clear hkd
    go_enter Tryz.func65, Tryz.ntmps65
    go_wp2_with fail
    refine (emptyAt_any p k 0 lo T m _ (HT.out.below HB0.out) (Nat.zero_le _) (by omega)).mono ?_
    rintro e w1 ⟨r, rfl, hRw, hB⟩
    have HRw : Hid _ := hRw
    have HB : Hid (Below w.heap.size w w1) := HB0.out.trans (hB.mono (by omega))
    clear hRw hB
    go_wp2_with fail
    go_ret
    refine ⟨_, _, rfl, _, HRw.out, ⟨fun i hi j => ?_, fun e => by have := HKD.out; omega, fun e => by have := HKD.out; omega⟩, HB.out⟩
    unfold Rel
    rw [if_neg (by rw [HKD.out]; decide), if_pos HKD.out]
    simp
    omega
  · have HKD : Hid (d.kind = 2) := hkd
    rw [show pkind d.kind = 1 from by rw [hkd]; rfl] at HB0 hsz0 ⊢
    clear hkd
    go_enter Tryz.func65, Tryz.ntmps65
    go_wp2_with fail
    refine (emptyAt_any p k p.s.size lo T m _ (HT.out.below HB0.out) (Nat.le_refl _) (by omega)).mono ?_
    rintro e w1 ⟨r, rfl, hRw, hB⟩
    have HRw : Hid _ := hRw
    have HB : Hid (Below w.heap.size w w1) := HB0.out.trans (hB.mono (by omega))
    clear hRw hB
    go_wp2_with fail
    go_ret
    refine ⟨_, _, rfl, _, HRw.out, ⟨fun i hi j => ?_, fun e => by have := HKD.out; omega, fun e => by have := HKD.out; omega⟩, HB.out⟩
    unfold Rel
    rw [if_neg (by rw [HKD.out]; decide), if_neg (by rw [HKD.out]; decide), if_pos HKD.out]
    simp
    omega
  · have HKD : Hid (d.kind = 3) := hkd
    obtain ⟨x, hsx⟩ := HD.out.one (.inl hkd)
    have HSX : Hid (d.subs = [x]) := hsx
    have hxk : x < k := HD.out.sub x (by rw [hsx]; simp)
    rcases HK.out with hk0 | ⟨kb, rfl, hkb, hkid⟩
    · rw [hk0] at hsx; cases hsx
    have k0 := hkid 0 x (by rw [hsx]; rfl)
    have hl1 : d.subs.length = 1 := by rw [hsx]; rfl
    rw [show pkind d.kind = 3 from by rw [hkd]; rfl] at HB0 hsz0 ⊢
    rw [hl1] at HB0 hsz0 hc ⊢
    have hkbl := World.block_lt_of_cell? w _ k0
    clear hkd hkid hsx hl1 HK
    go_enter Tryz.func65, Tryz.ntmps65
    go_wp2_with fail
    refine (whole_any' p k x T m _ (HT.out.below HB0.out) hxk).mono ?_
    rintro e w1 ⟨g2, c2, rfl, hg2, hS2, hw1⟩
    subst w1
    have HS2 : Hid _ := hS2
    clear hS2
    go_wp2_with fail
    go_ret
    refine ⟨_, _, rfl, _, Rw.one HS2.out (by omega) (by omega) (by omega), ⟨fun i hi j => ?_, fun e => by have := HKD.out; omega, fun e => by have := HKD.out; omega⟩, HB0.out.alloc (by omega) _⟩
    unfold Rel
    rw [if_neg (by rw [HKD.out]; decide), if_neg (by rw [HKD.out]; decide), if_neg (by rw [HKD.out]; decide), if_neg (by rw [HKD.out]; decide), if_neg (by rw [HKD.out]; decide), HSX.out]
    rw [HR.out x hxk i hi j]
    simp
  · have HKD : Hid (d.kind = 4) := hkd
    obtain ⟨hl2, hl3⟩ := HD.out.two (.inl hkd)
    rcases HK.out with hk0 | ⟨kb, rfl, hkb, hkid⟩
    · rw [hk0] at hl2; simp at hl2
    have hkid' : ∀ (q y : Nat), d.subs[q]? = some y → (w.alloc (.cells #[.int .i64 (pkind d.kind), .slice (some ⟨kb, 0, none⟩) d.subs.length c, .int .u64 y0, .int .u64 y1, .int .u64 y2, .int .u64 y3, .int .i64 (pnum d), .int .i64 d.lo, .int .i64 d.hi] 151)).cell? ⟨kb, q, none⟩ = some (.int .i64 y) := fun q y hy => (World.cell?_of_block (w := w) (a := ⟨kb, q, none⟩) (HB0.out.block kb (World.block_lt_of_cell? w _ (hkid q y hy)))).trans (hkid q y hy)
    have HKI : Hid _ := hkid'
    rw [show pkind d.kind = 6 from by rw [hkd]; rfl] at HB0 hsz0 HKI ⊢
    clear hkd hkid hkid' HK
    go_enter Tryz.func65, Tryz.ntmps65
    go_wp2_with fail
    refine (anyOf_any p k lo kb c d.subs R T m _ (HT.out.below HB0.out) (by omega) hlv HR.out hl2 hc hl3 HKI.out HD.out.sub).mono ?_
    rintro e w1 ⟨r, rfl, M, hRw, hTl, hB⟩
    have HRw : Hid (Rw w1 lo r 1 p.s.size fun _ => M) := hRw
    have HTl : Hid (Tl p.s.size M (fun i j => ∃ x ∈ d.subs, R x i j)) := hTl
    have HB : Hid (Below w.heap.size w w1) := HB0.out.trans (hB.mono (by omega))
    clear hRw hB hTl
    go_wp2_with fail
    go_ret
    refine ⟨_, _, rfl, _, HRw.out, ⟨fun i hi j => ?_, fun e => by have := HKD.out; omega, fun e => by have := HKD.out; omega⟩, HB.out⟩
    unfold Rel
    rw [if_neg (by rw [HKD.out]; decide), if_neg (by rw [HKD.out]; decide), if_neg (by rw [HKD.out]; decide), if_neg (by rw [HKD.out]; decide), if_neg (by rw [HKD.out]; decide)]
    exact HTl.out i hi j
  · have HKD : Hid (d.kind = 5) := hkd
    obtain ⟨hl2, hl3⟩ := HD.out.two (.inr hkd)
    rcases HK.out with hk0 | ⟨kb, rfl, hkb, hkid⟩
    · rw [hk0] at hl2; simp at hl2
    have hkid' : ∀ (q y : Nat), d.subs[q]? = some y → (w.alloc (.cells #[.int .i64 (pkind d.kind), .slice (some ⟨kb, 0, none⟩) d.subs.length c, .int .u64 y0, .int .u64 y1, .int .u64 y2, .int .u64 y3, .int .i64 (pnum d), .int .i64 d.lo, .int .i64 d.hi] 151)).cell? ⟨kb, q, none⟩ = some (.int .i64 y) := fun q y hy => (World.cell?_of_block (w := w) (a := ⟨kb, q, none⟩) (HB0.out.block kb (World.block_lt_of_cell? w _ (hkid q y hy)))).trans (hkid q y hy)
    have HKI : Hid _ := hkid'
    rw [show pkind d.kind = 5 from by rw [hkd]; rfl] at HB0 hsz0 HKI ⊢
    clear hkd hkid hkid' HK
    go_enter Tryz.func65, Tryz.ntmps65
    go_wp2_with fail
    refine (inOrder_any p k lo kb c d.subs R T m _ (HT.out.below HB0.out) (by omega) hlv HR.out HST.out hc hl3 HKI.out HD.out.sub).mono ?_
    rintro e w1 ⟨r, rfl, U, hRw, hTl, hB⟩
    have HRw : Hid (Rw w1 lo r (d.subs.length + 1) p.s.size U) := hRw
    have HTl : Hid (∀ q, q ≤ d.subs.length → Tl p.s.size (U q) (Chain ((d.subs.map R).drop q))) := hTl
    have HB : Hid (Below w.heap.size w w1) := HB0.out.trans (hB.mono (by omega))
    clear hRw hB hTl
    go_wp2_with fail
    go_ret
    refine ⟨_, _, rfl, _, HRw.out, ⟨fun i hi j => ?_, fun e => ⟨rfl, HTl.out⟩, fun e => by have := HKD.out; omega⟩, HB.out⟩
    unfold Rel
    rw [if_neg (by rw [HKD.out]; decide), if_neg (by rw [HKD.out]; decide), if_neg (by rw [HKD.out]; decide), if_pos HKD.out]
    exact HTl.out 0 (Nat.zero_le _) i hi j
  · have HKD : Hid (d.kind = 6) := hkd
    obtain ⟨x, hsx⟩ := HD.out.one (.inr hkd)
    obtain ⟨r1, r2, r3⟩ := HD.out.rep hkd
    have HSX : Hid (d.subs = [x]) := hsx
    have hxk : x < k := HD.out.sub x (by rw [hsx]; simp)
    rcases HK.out with hk0 | ⟨kb, rfl, hkb, hkid⟩
    · rw [hk0] at hsx; cases hsx
    have k0 := hkid 0 x (by rw [hsx]; rfl)
    have hl1 : d.subs.length = 1 := by rw [hsx]; rfl
    rw [show pkind d.kind = 4 from by rw [hkd]; rfl] at HB0 hsz0 ⊢
    rw [hl1] at HB0 hsz0 hc ⊢
    have hkbl := World.block_lt_of_cell? w _ k0
    clear hkd hkid hsx hl1 HK
    have HEnd : Hid (∀ (r : Nat) (w1 : World) (U : Nat → Nat → Nat → Bool), (∀ q, q ≤ lastOf d → Tl p.s.size (U q) (Zt (R x) d.lo d.hi q)) → RowIs p.s R d (lastOf d + 1) U) := by
      intro r w1 U hU
      refine ⟨?_, fun e => by have := HKD.out; omega, fun e => ⟨rfl, by rw [HSX.out]; exact hU⟩⟩
      intro i hi j
      unfold Rel
      rw [if_neg (by rw [HKD.out]; decide), if_neg (by rw [HKD.out]; decide), if_neg (by rw [HKD.out]; decide), if_neg (by rw [HKD.out]; decide), if_pos HKD.out, HSX.out]
      rw [hU 0 (Nat.zero_le _) i hi j]
      exact Times_Zt (by omega) i j
    by_cases hm : d.hi = -1
    · have HM : Hid (lastOf d = d.lo) := by unfold lastOf; rw [if_pos (by omega)]; rfl
      have HHI : Hid (d.hi = -1) := hm
      rw [hm] at HB0 hsz0 ⊢
      clear hm r2 r3
      go_enter Tryz.func65, Tryz.ntmps65
      go_wp2_with fail
      refine (repeated_endless p k lo kb c x d.lo y0 y1 y2 y3 _ _ R T m _ (HT.out.below HB0.out) (by omega) hlv HR.out HST.out ((World.cell?_of_block (w := w) (a := ⟨kb, 0, none⟩) (HB0.out.block kb hkbl)).trans k0) hxk (Nat.le_refl _) r1).mono ?_
      rintro e w1 ⟨r, rfl, U, hRw, hTl, hB⟩
      have HRw : Hid (Rw w1 lo r (d.lo + 1) p.s.size U) := hRw
      have HTl : Hid (∀ q, q ≤ d.lo → Tl p.s.size (U q) (Zt (R x) d.lo (-1) q)) := hTl
      have HB : Hid (Below w.heap.size w w1) := HB0.out.trans (hB.mono (by omega))
      clear hRw hB hTl
      go_wp2_with fail
      go_ret
      refine ⟨_, _, rfl, U, HRw.out, ?_, HB.out⟩
      have := HEnd.out r w1 U (by rw [HM.out, HHI.out]; exact HTl.out)
      rw [HM.out] at this
      exact this
    · obtain ⟨hh, hhe⟩ : ∃ hh : Nat, d.hi = hh := ⟨d.hi.toNat, by omega⟩
      have HM : Hid (lastOf d = hh) := by unfold lastOf; rw [if_neg (by omega), hhe]; rfl
      have HHI : Hid (d.hi = (hh : Int)) := hhe
      have q1 : d.lo ≤ hh := by omega
      have q2 : hh ≤ 9 := by omega
      rw [hhe] at HB0 hsz0 ⊢
      clear hm r2 r3 hhe
      go_enter Tryz.func65, Tryz.ntmps65
      go_wp2_with fail
      refine (repeated_upto p k lo kb c x d.lo hh y0 y1 y2 y3 _ _ R T m _ (HT.out.below HB0.out) (by omega) hlv HR.out HST.out ((World.cell?_of_block (w := w) (a := ⟨kb, 0, none⟩) (HB0.out.block kb hkbl)).trans k0) hxk q1 q2).mono ?_
      rintro e w1 ⟨r, rfl, U, hRw, hTl, hB⟩
      have HRw : Hid (Rw w1 lo r (hh + 1) p.s.size U) := hRw
      have HTl : Hid (∀ q, q ≤ hh → Tl p.s.size (U q) (Zt (R x) d.lo (hh : Int) q)) := hTl
      have HB : Hid (Below w.heap.size w w1) := HB0.out.trans (hB.mono (by omega))
      clear hRw hB hTl
      go_wp2_with fail
      go_ret
      refine ⟨_, _, rfl, U, HRw.out, ?_, HB.out⟩
      have := HEnd.out r w1 U (by rw [HM.out, HHI.out]; exact HTl.out)
      rw [HM.out] at this
      exact this
end Go.Proofs.YtppjlpihaocdiaaGreatDoor

/- A part of the proof. -/
set_option linter.unusedSimpArgs false
set_option linter.unusedVariables false
namespace Go.Proofs.YtppjlpihaocdiaaGreatDoor
open Go.RowKit
def MV (a b : Value) : Sem Value := Instr.makeSlice 143 a b
theorem MV_eq (a b : Value) : Instr.makeSlice 143 a b = MV a b := rfl
attribute [local go_sem ↓] MV_eq
theorem Tryz.info152 : (Tryz.prog.info? 152).map (fun i => (i.zero, i.size, i.bytes)) = some (some (.slice none 0 0), 1, 24) := by kernel_rfl
theorem run_MV (n : Nat) (hn : n ≤ 100000) : ∃ A : Array Value, (∀ q, q < n → A[q]? = some (.slice none 0 0)) ∧ ∀ w, (MV (.int .i64 n) (.int .i64 n)).run Tryz.prog w = .ok (.slice (some ⟨w.heap.size, 0, none⟩) n n) (w.alloc (.cells A 152)) := by
  obtain ⟨i0, hi0, hz0, hz1, hz2⟩ := info_parts Tryz.info152
  refine ⟨madeCells (Value.slice none 0 0).cells (n * 1), fun q hq => madeCells_zero _ _ ?_ ?_ _ q (by omega), fun w => ?_⟩
  · intro k hk
    have : k = 0 := by simp [Value.cells] at hk; omega
    subst this; rfl
  · simp [Value.cells]
  · have := run_make (P := Tryz.prog) w 143 152 i0 _ Tryz.underlying143 hi0 hz0 .i64 .i64 n n (by omega) (Int.le_refl _) (by rw [hz2]; omega) (by omega)
    rw [hz1] at this
    rw [← MV_eq]
    simpa using this
theorem NodeAt.far {w : World} {x x' nb k : Nat} {d : Nd} (h : NodeAt w x nb k d) (hx : w.heap.size ≤ x') : NodeAt w x' nb k d := by
  obtain ⟨ao, c, y0, y1, y2, y3, h1, h2, h4, h3⟩ := h
  refine ⟨ao, c, y0, y1, y2, y3, h1, ?_, h4, h3⟩
  rcases h2 with h2 | ⟨kb, e1, e2, e3⟩
  · exact .inl h2
  · by_cases hs : d.subs = []
    · exact .inl hs
    · obtain ⟨y, hy⟩ : ∃ y, d.subs[0]? = some y := by
        cases hd : d.subs with
        | nil => exact absurd hd hs
        | cons a l => exact ⟨a, rfl⟩
      have := World.block_lt_of_cell? w _ (e3 0 y hy)
      exact .inr ⟨kb, e1, by simp only at this; omega, e3⟩
theorem TbAt.put {w : World} {p : Pp} {k r mm : Nat} {T : Nat → Nat → Nat → Nat → Bool} {m : Nat → Nat} {U : Nat → Nat → Nat → Bool} (h : TbAt w p k T m) (hk : k < p.nodes.length) (hr : Rw w (p.vb + 1) r mm p.s.size U) :
    TbAt (w.setCell ⟨p.vb, k, none⟩ (.slice (some ⟨r, 0, none⟩) mm mm)) p (k + 1) (fun a => if a = k then U else T a) (fun a => if a = k then mm else m a) := by
  have hb : ∀ i, i ≠ p.vb → (w.setCell ⟨p.vb, k, none⟩ (.slice (some ⟨r, 0, none⟩) mm mm)).heap[i]? = w.heap[i]? := fun i hi => Below.heap_setCell _ _ _ _ hi
  have hc : ∀ b o, b ≠ p.vb → (w.setCell ⟨p.vb, k, none⟩ (.slice (some ⟨r, 0, none⟩) mm mm)).cell? ⟨b, o, none⟩ = w.cell? ⟨b, o, none⟩ := fun b o hl => World.cell?_of_block (w := w) (a := ⟨b, o, none⟩) (hb b hl)
  have hn : ∀ {a b : Nat}, a ≠ b → (⟨p.vb, a, none⟩ : Addr) ≠ ⟨p.vb, b, none⟩ := fun hab e => hab (by injection e)
  refine ⟨(hc _ _ h.vt).trans h.c0, (hc _ _ h.vt).trans h.c1, (hc _ _ h.vt).trans h.c2, (hc _ _ h.vt).trans h.c3, (hc _ _ h.vt).trans h.c4, h.vt, h.vn, fun a d hd => (h.node a d hd).of h.vn fun i _ hi => hb i hi, fun a ha => ?_, fun a ha => ?_, hk, h.s80, h.many⟩
  · obtain ⟨⟨v, hv⟩, hf⟩ := h.slot a ha
    refine ⟨?_, by rw [World.frozen?_setCell]; exact hf⟩
    by_cases e : a = k
    · subst e; exact ⟨_, World.cell?_setCell_same _ _ _ hv⟩
    · exact ⟨v, by rw [World.cell?_setCell_other (h := hn (by omega))]; exact hv⟩
  · by_cases e : a = k
    · subst e
      obtain ⟨⟨v, hv⟩, hf⟩ := h.slot a hk
      rw [if_pos rfl, if_pos rfl]
      exact ⟨r, World.cell?_setCell_same _ _ _ hv, hr.of fun i h1 h2 => hb i (by omega)⟩
    · obtain ⟨r', h1, h2⟩ := h.row a (by omega)
      rw [if_neg e, if_neg e]
      exact ⟨r', by rw [World.cell?_setCell_other (h := hn (by omega))]; exact h1, h2.of fun i h1 h2 => hb i (by omega)⟩
structure TreeIs (w : World) (nb : Nat) (nodes : List Nd) (groups : Nat) : Prop where
  node : ∀ (a : Nat) (d : Nd), nodes[a]? = some d → NodeAt w w.heap.size nb a d
  wf : ∀ (a : Nat) (d : Nd), nodes[a]? = some d → PNd a groups d
  many : nodes.length ≤ 200
  some' : 0 < nodes.length
theorem TreeIs.Wf {w : World} {nb : Nat} {nodes : List Nd} {groups : Nat} (h : TreeIs w nb nodes groups) : Wf nodes := fun n d hd => ⟨(h.wf n d hd).sub, fun e => by obtain ⟨x, hx⟩ := (h.wf n d hd).one (.inr e); rw [hx]; simp⟩
theorem Rel_Mat {s : ByteArray} {nodes : List Nd} (hw : Wf nodes) {n : Nat} {d : Nd} (hd : nodes[n]? = some d) (i j : Nat) : Rel s (Mat s nodes) d i j ↔ Mat s nodes n i j := (Mat_eq hw hd i j).symm
theorem new3 (w : World) (o1 o2 o3 : Obj) : (((w.alloc o1).alloc o2).alloc o3).drew.heap[w.heap.size + 1]? = some o2 ∧ (((w.alloc o1).alloc o2).alloc o3).drew.heap[w.heap.size + 1 + 1]? = some o3 ∧ Below w.heap.size w (((w.alloc o1).alloc o2).alloc o3).drew := by
  have e1 : (w.alloc o1).heap.size = w.heap.size + 1 := by simp
  have e2 : ((w.alloc o1).alloc o2).heap.size = w.heap.size + 1 + 1 := by simp
  refine ⟨?_, ?_, ((((Below.refl _ _).alloc (Nat.le_refl _) _).alloc (by omega) _).alloc (by omega) _).drew⟩
  · show (((w.alloc o1).alloc o2).alloc o3).heap[w.heap.size + 1]? = _
    rw [Below.heap_alloc _ _ _ (by omega), ← e1]
    exact heap_alloc_new _ o2
  · show (((w.alloc o1).alloc o2).alloc o3).heap[w.heap.size + 1 + 1]? = _
    rw [← e2]
    exact heap_alloc_new _ o3
theorem tb_new {w w' : World} {nb cap root groups tb vb : Nat} {nodes : List Nd} {s : ByteArray} {A : Array Value} {T : Nat → Nat → Nat → Nat → Bool} {m : Nat → Nat} (h : TreeIs w nb nodes groups) (hs : s.size ≤ 80) (hB : Below w.heap.size w w')
    (hA : ∀ q, q < nodes.length → A[q]? = some (.slice none 0 0)) (hv : w'.heap[vb]? = some (.cells A 152))
    (ht : w'.heap[tb]? = some (.cells #[.slice (some ⟨nb, 0, none⟩) nodes.length cap, .int .i64 root, .int .i64 groups, .string s, .slice (some ⟨vb, 0, none⟩) nodes.length nodes.length] 145))
    (n1 : w.heap.size ≤ vb) (n2 : w.heap.size ≤ tb) (n3 : tb ≠ vb) : TbAt w' ⟨nodes, s, root, groups, tb, nb, vb, cap⟩ 0 T m := by
  have hc : ∀ k, w'.cell? ⟨tb, k, none⟩ = (#[.slice (some ⟨nb, 0, none⟩) nodes.length cap, .int .i64 root, .int .i64 groups, .string s, .slice (some ⟨vb, 0, none⟩) nodes.length nodes.length] : Array Value)[k]? := fun k => cell_of_row w' tb k _ 145 (0, 0) ht
  have hnb : nb < w.heap.size := (h.node 0 _ (List.getElem?_eq_getElem h.some')).lt
  refine ⟨hc 0, hc 1, hc 2, hc 3, hc 4, n3, by show nb ≠ vb; omega, fun a d hd => ?_, fun a ha => ⟨⟨.slice none 0 0, ?_⟩, ?_⟩, fun a ha => by omega, Nat.zero_le _, hs, h.many⟩
  · exact ((h.node a d hd).far n1).of (by show nb ≠ vb; omega) fun k hk _ => hB.block k hk
  · rw [cell_of_row w' vb a A 152 (0, 0) hv]; exact hA a ha
  · simp [World.frozen?, hv]
set_option maxHeartbeats 4000000 in
theorem look_any (s : ByteArray) (nb cap root groups : Nat) (nodes : List Nd) (w : World) (h : TreeIs w nb nodes groups) (hs : s.size ≤ 80) :
    Calls Tryz.prog 43 #[.agg #[.slice (some ⟨nb, 0, none⟩) nodes.length cap, .int .i64 root, .int .i64 groups], .string s] w
      fun e w' => ∃ tb, e = .returned (.pointer (some ⟨tb, 0, none⟩)) ∧ ∃ vb T m, TbAt w' ⟨nodes, s, root, groups, tb, nb, vb, cap⟩ nodes.length T m ∧ (∀ a d, nodes[a]? = some d → RowIs s (Mat s nodes) d (m a) (T a)) ∧ Below w.heap.size w w' := by
  have HI : Hid (TreeIs w nb nodes groups) := h
  have hmany := h.many
  have hsome := h.some'
  obtain ⟨A1, hA1, m1⟩ := run_MV nodes.length (by omega)
  have HA : Hid (∀ q, q < nodes.length → A1[q]? = some (.slice none 0 0)) := hA1
  clear h hA1
  go_enter Tryz.func43, Tryz.ntmps43
  go_wp2_with fail
  go_region
  all_goals go_wp2_with fail
  obtain ⟨a1, a2, a3⟩ := new3 w (.cells #[.slice (some ⟨nb, 0, none⟩) nodes.length cap, .int .i64 root, .int .i64 groups] 88) (.cells A1 152) (.cells #[.slice (some ⟨nb, 0, none⟩) nodes.length cap, .int .i64 root, .int .i64 groups, .string s, .slice (some ⟨w.heap.size + 1, 0, none⟩) nodes.length nodes.length] 145)
  have hT0 : TbAt _ ⟨nodes, s, root, groups, w.heap.size + 1 + 1, nb, w.heap.size + 1, cap⟩ 0 (fun _ _ _ _ => false) (fun _ => 0) := tb_new HI.out hs a3 HA.out a1 a2 (by omega) (by omega) (by omega)
  have HT0 : Hid _ := hT0
  have HB0 : Hid _ := a3
  clear a1 a2 a3 hT0 m1
  go_loopw [19] (fun v wr => ∃ (k : Nat) (T : Nat → Nat → Nat → Nat → Bool) (m : Nat → Nat), k ≤ nodes.length ∧ v = .int .i64 k ∧ Hid (TbAt wr ⟨nodes, s, root, groups, w.heap.size + 1 + 1, nb, w.heap.size + 1, cap⟩ k T m) ∧ Hid (∀ a d, a < k → nodes[a]? = some d → RowIs s (Mat s nodes) d (m a) (T a)) ∧ Hid (Below w.heap.size w wr)) (fun v _ => nodes.length + 1 - (intOf v).toNat)
  case atStart => exact ⟨0, _, _, Nat.zero_le _, rfl, HT0.out, fun a d h => by omega, HB0.out⟩
  case round =>
    obtain ⟨k, T, m, hk, rfl, HT, HRI, HB⟩ := hrel
    by_cases hlt : k < nodes.length
    · obtain ⟨d, hd⟩ : ∃ d, nodes[k]? = some d := ⟨_, List.getElem?_eq_getElem hlt⟩
      have HD : Hid (nodes[k]? = some d) := hd
      obtain ⟨ao, c, y0, y1, y2, y3, n1, n2, n3, n4⟩ := HT.out.node k d hd
      have HN1 : Hid (S4 y0 y1 y2 y3 d.set) := n1
      have HN2 : Hid (Kids wr (w.heap.size + 1) ao d.subs) := n2
      have q0 := n4 0 _ rfl
      have q1 := n4 1 _ rfl
      have q2 := n4 2 _ rfl
      have q3 := n4 3 _ rfl
      have q4 := n4 4 _ rfl
      have q5 := n4 5 _ rfl
      have q6 := n4 6 _ rfl
      have q7 := n4 7 _ rfl
      have q8 := n4 8 _ rfl
      simp only [Nat.add_zero] at q0 q1 q2 q3 q4 q5 q6 q7 q8
      have c4 := HT.out.c4
      simp only at c4
      clear n1 n2 n4 hd
      go_wp2_with fail
      have hB2 : Below wr.heap.size wr (wr.alloc (.cells #[.int .i64 (pkind d.kind), .slice ao d.subs.length c, .int .u64 y0, .int .u64 y1, .int .u64 y2, .int .u64 y3, .int .i64 (pnum d), .int .i64 d.lo, .int .i64 d.hi] 151)) := (Below.refl _ _).alloc (Nat.le_refl _) _
      have hz2 : (wr.alloc (.cells #[.int .i64 (pkind d.kind), .slice ao d.subs.length c, .int .u64 y0, .int .u64 y1, .int .u64 y2, .int .u64 y3, .int .i64 (pnum d), .int .i64 d.lo, .int .i64 d.hi] 151)).heap.size = wr.heap.size + 1 := by simp
      have hh2 := heap_alloc_new wr (.cells #[.int .i64 (pkind d.kind), .slice ao d.subs.length c, .int .u64 y0, .int .u64 y1, .int .u64 y2, .int .u64 y3, .int .i64 (pnum d), .int .i64 d.lo, .int .i64 d.hi] 151)
      generalize (wr.alloc (.cells #[.int .i64 (pkind d.kind), .slice ao d.subs.length c, .int .u64 y0, .int .u64 y1, .int .u64 y2, .int .u64 y3, .int .i64 (pnum d), .int .i64 d.lo, .int .i64 d.hi] 151)) = w2 at hB2 hz2 hh2
      have hcc : ∀ o, w2.cell? ⟨wr.heap.size, o, none⟩ = _ := fun o => cell_of_row w2 wr.heap.size o _ 151 (0, 0) hh2
      have p0 := hcc 0
      have p1 := hcc 1
      have p2 := hcc 2
      have p3 := hcc 3
      have p4 := hcc 4
      have p5 := hcc 5
      have p6 := hcc 6
      have p7 := hcc 7
      have p8 := hcc 8
      simp only [List.getElem?_toArray, List.getElem?_cons_zero, List.getElem?_cons_succ] at p0 p1 p2 p3 p4 p5 p6 p7 p8
      have hT2 := HT.out.below hB2
      have HT2 : Hid (TbAt w2 ⟨nodes, s, root, groups, w.heap.size + 1 + 1, nb, w.heap.size + 1, cap⟩ k T m) := hT2
      have HTd : Hid (TbAt w2.drew ⟨nodes, s, root, groups, w.heap.size + 1 + 1, nb, w.heap.size + 1, cap⟩ k T m) := hT2.below (Below.refl w2.heap.size w2).drew
      have HKd : Hid (Kids w2.drew (w.heap.size + 1) ao d.subs) := HN2.out.of fun i hi _ => hB2.block i hi
      have d4 := hT2.c4
      simp only at d4
      have HB2 : Hid (Below w.heap.size w w2) := HB.out.trans (hB2.mono HB.out.size)
      have hvl : w.heap.size + 1 < w2.heap.size := hT2.vlt hsome
      have HPN : Hid (PNd k groups d) := HI.out.wf k d HD.out
      have HTL : Hid (∀ x, x < k → Tl s.size (T x 0) (Mat s nodes x)) := fun x hx => by
        obtain ⟨dx, hdx⟩ : ∃ d, nodes[x]? = some d := ⟨_, List.getElem?_eq_getElem (Nat.lt_trans hx hlt)⟩
        exact (HRI.out x dx hx hdx).whole.iff fun i j => Rel_Mat HI.out.Wf hdx i j
      have HST : Hid (∀ x, x < k → Stays s.size (Mat s nodes x)) := fun x hx => Mat_stays s HI.out.Wf k x hx
      clear q0 q1 q2 q3 q4 q5 q6 q7 q8 c4 hB2 hh2 hcc hT2 hz2
      go_region_with (first
        | (go_at_call 65; (refine (tailsOf_any ⟨nodes, s, root, groups, w.heap.size + 1 + 1, nb, w.heap.size + 1, cap⟩ k (w.heap.size + 1 + 1) groups d ao c y0 y1 y2 y3 (Mat s nodes) T m _ HTd.out hvl (Nat.le_refl _) HTL.out HST.out HPN.out HN1.out HKd.out n3).mono ?_; rintro e w3 ⟨r, mm, rfl, U, hRw, hRI, hB3⟩; have HRw : Hid (Rw w3 (w.heap.size + 1 + 1) r mm s.size U) := hRw; have HRI3 : Hid (RowIs s (Mat s nodes) d mm U) := hRI; have hB4 : Below w2.heap.size w2 w3 := (Below.refl w2.heap.size w2).drew.trans hB3; have hT3 := HT2.out.below hB4; have HT3 : Hid (TbAt w3 ⟨nodes, s, root, groups, w.heap.size + 1 + 1, nb, w.heap.size + 1, cap⟩ k T m) := hT3; obtain ⟨⟨vv, s5⟩, s6⟩ := hT3.slot k hlt; simp only at s5 s6; have f4 := hT3.c4; simp only at f4; have HB4 : Hid (Below w.heap.size w w3) := HB2.out.trans (hB4.mono HB2.out.size); clear hRw hRI hB3 hB4 hT3)))
      all_goals
        go_wp2_with fail
        go_roundw
        case rel =>
          refine ⟨k + 1, _, _, hlt, by go_num, HT3.out.put hlt HRw.out, fun a d' ha hd' => ?_, HB4.out.setCell (by simp only; omega) _⟩
          by_cases e : a = k
          · subst e
            have := HD.out
            rw [this] at hd'
            cases hd'
            rw [if_pos rfl, if_pos rfl]
            exact HRI3.out
          · rw [if_neg e, if_neg e]
            exact HRI.out a d' (by omega) hd'
        case measure => simp [intOf]; omega
    · have hk2 : k = nodes.length := by omega
      subst hk2
      go_wp2_with fail
      go_ret
      exact ⟨_, rfl, _, T, m, HT.out, fun a d hd => HRI.out a d (List.getElem?_eq_some_iff.1 hd).1 hd, HB.out⟩
end Go.Proofs.YtppjlpihaocdiaaGreatDoor

/- A part of the proof. -/
set_option linter.unusedVariables false
namespace Go.Proofs.YtppjlpihaocdiaaGreatDoor
section
variable (m : Nat → Nat → Nat → Prop) (g : Nat → Nat → Nat → Caps → Caps → Prop)
def repP (x lo : Nat) (hi : Int) : Nat → Nat → Nat → Nat → Caps → Caps → Prop
  | 0, _, _, _, c, c' => c' = c
  | f + 1, done, i, j, c, c' => (¬ i < j ∧ ((done < lo ∧ g x i j c c') ∨ (¬ done < lo ∧ c' = c))) ∨
      (i < j ∧ ∃ t c1, Top (fun t => m x i t ∧ Zt (m x) lo hi (done + 1) t j) i j t ∧ g x i t c c1 ∧ repP x lo hi f (done + 1) t j c1 c')
end
theorem altG.congr {m : Nat → Nat → Nat → Prop} {g g' : Nat → Nat → Nat → Caps → Caps → Prop} : ∀ {l : List Nat}, (∀ x ∈ l, g x = g' x) → altG m g l = altG m g' l
  | [], _ => by funext i j c c'; rfl
  | x :: xs, h => by
    funext i j c c'
    simp only [altG]
    rw [h x (by simp), altG.congr (l := xs) fun y hy => h y (List.mem_cons_of_mem _ hy)]
theorem rowG.congr {m : Nat → Nat → Nat → Prop} {g g' : Nat → Nat → Nat → Caps → Caps → Prop} : ∀ {l : List Nat}, (∀ x ∈ l, g x = g' x) → rowG m g l = rowG m g' l
  | [], _ => by funext i j c c'; rfl
  | x :: xs, h => by
    funext i j c c'
    simp only [rowG]
    rw [h x (by simp), rowG.congr (l := xs) fun y hy => h y (List.mem_cons_of_mem _ hy)]
theorem repP.congr {m : Nat → Nat → Nat → Prop} {g g' : Nat → Nat → Nat → Caps → Caps → Prop} {x lo : Nat} {hi : Int} (h : g x = g' x) : ∀ f, repP m g x lo hi f = repP m g' x lo hi f
  | 0 => by funext a i j c c'; rfl
  | f + 1 => by
    funext a i j c c'
    simp only [repP]
    rw [h, repP.congr h f]
def pgOf (s : ByteArray) (nodes : List Nd) : Nat → Nat → Nat → Nat → Caps → Caps → Prop
  | 0, _, _, _, _, _ => False
  | f + 1, n, i, j, c, c' => ∃ d, nodes[n]? = some d ∧
      (if d.kind = 3 then pgOf s nodes f (d.subs.getD 0 0) i j (c.set d.num ((i : Int), (j : Int))) c'
      else if d.kind = 4 then altG (Mat s nodes) (pgOf s nodes f) d.subs i j c c'
      else if d.kind = 5 then rowG (Mat s nodes) (pgOf s nodes f) d.subs i j c c'
      else if d.kind = 6 then repP (Mat s nodes) (pgOf s nodes f) (d.subs.getD 0 0) d.lo d.hi (d.lo + s.size + 1) 0 i j c c'
      else c' = c)
theorem getD_mem {l : List Nat} (h : l ≠ []) : l.getD 0 0 ∈ l := by
  cases l with
  | nil => exact absurd rfl h
  | cons a l => simp
theorem pgOf_more (s : ByteArray) (nodes : List Nd) (hw : Wf nodes) (h3 : ∀ (n : Nat) (d : Nd), nodes[n]? = some d → d.kind = 3 → d.subs ≠ []) : ∀ (f f' n : Nat), n < f → n < f' → pgOf s nodes f n = pgOf s nodes f' n
  | 0, _, _, h, _ => by omega
  | _, 0, _, _, h => by omega
  | f + 1, f' + 1, n, h, h' => by
    funext i j c c'
    simp only [pgOf]
    apply propext
    refine exists_congr fun d => and_congr_right fun hd => ?_
    obtain ⟨hs, h6⟩ := hw n d hd
    have ih : ∀ x ∈ d.subs, pgOf s nodes f x = pgOf s nodes f' x := fun x hx => pgOf_more s nodes hw h3 f f' x (by have := hs x hx; omega) (by have := hs x hx; omega)
    split
    · rename_i hk; rw [ih _ (getD_mem (h3 n d hd hk))]
    · split
      · rw [altG.congr ih]
      · split
        · rw [rowG.congr ih]
        · split
          · rename_i hk; rw [repP.congr (ih _ (getD_mem (h6 hk)))]
          · exact Iff.rfl
def PGv (s : ByteArray) (nodes : List Nd) (n : Nat) : Nat → Nat → Caps → Caps → Prop := pgOf s nodes (n + 1) n
theorem PGv_eq {s : ByteArray} {nodes : List Nd} (hw : Wf nodes) (h3 : ∀ (n : Nat) (d : Nd), nodes[n]? = some d → d.kind = 3 → d.subs ≠ []) {n : Nat} {d : Nd} (hd : nodes[n]? = some d) (i j : Nat) (c c' : Caps) : PGv s nodes n i j c c' ↔
      (if d.kind = 3 then PGv s nodes (d.subs.getD 0 0) i j (c.set d.num ((i : Int), (j : Int))) c'
      else if d.kind = 4 then altG (Mat s nodes) (PGv s nodes) d.subs i j c c'
      else if d.kind = 5 then rowG (Mat s nodes) (PGv s nodes) d.subs i j c c'
      else if d.kind = 6 then repP (Mat s nodes) (PGv s nodes) (d.subs.getD 0 0) d.lo d.hi (d.lo + s.size + 1) 0 i j c c'
      else c' = c) := by
  obtain ⟨hs, h6⟩ := hw n d hd
  have ih : ∀ x ∈ d.subs, pgOf s nodes n x = PGv s nodes x := fun x hx => pgOf_more s nodes hw h3 n (x + 1) x (hs x hx) (by omega)
  have e : PGv s nodes n i j c c' ↔ (if d.kind = 3 then pgOf s nodes n (d.subs.getD 0 0) i j (c.set d.num ((i : Int), (j : Int))) c'
      else if d.kind = 4 then altG (Mat s nodes) (pgOf s nodes n) d.subs i j c c'
      else if d.kind = 5 then rowG (Mat s nodes) (pgOf s nodes n) d.subs i j c c'
      else if d.kind = 6 then repP (Mat s nodes) (pgOf s nodes n) (d.subs.getD 0 0) d.lo d.hi (d.lo + s.size + 1) 0 i j c c'
      else c' = c) := by
    show (∃ d', nodes[n]? = some d' ∧ _) ↔ _
    constructor
    · rintro ⟨d', hd', h⟩
      rw [hd] at hd'
      cases hd'
      exact h
    · intro h; exact ⟨d, hd, h⟩
  rw [e]
  split
  · rename_i hk; rw [ih _ (getD_mem (h3 n d hd hk))]
  · split
    · rw [altG.congr ih]
    · split
      · rw [rowG.congr ih]
      · split
        · rename_i hk; rw [repP.congr (ih _ (getD_mem (h6 hk)))]
        · exact Iff.rfl
end Go.Proofs.YtppjlpihaocdiaaGreatDoor

/- A part of the proof. -/
set_option linter.unusedSimpArgs false
set_option linter.unusedVariables false
namespace Go.Proofs.YtppjlpihaocdiaaGreatDoor
open Go.RowKit
structure Fo (ob : Nat) (w w' : World) : Prop where
  os : w'.os = w.os
  tape : w'.tape = w.tape
  output : w'.output = w.output
  size : w.heap.size ≤ w'.heap.size
  block : ∀ k, k < w.heap.size → k ≠ ob → w'.heap[k]? = w.heap[k]?
theorem Fo.refl (ob : Nat) (w : World) : Fo ob w w := ⟨rfl, rfl, rfl, Nat.le_refl _, fun _ _ _ => rfl⟩
theorem Fo.trans {ob : Nat} {u v w : World} (h : Fo ob u v) (k : Fo ob v w) : Fo ob u w :=
  ⟨k.os.trans h.os, k.tape.trans h.tape, k.output.trans h.output, Nat.le_trans h.size k.size, fun i hi hn => (k.block i (Nat.lt_of_lt_of_le hi h.size) hn).trans (h.block i hi hn)⟩
theorem Fo.of_below {ob : Nat} {w w' : World} (h : Below w.heap.size w w') : Fo ob w w' := ⟨h.os, h.tape, h.output, h.size, fun i hi _ => h.block i hi⟩
theorem Fo.set {ob : Nat} {u w : World} (h : Fo ob u w) (o : Nat) (v : Value) : Fo ob u (w.setCell ⟨ob, o, none⟩ v) :=
  ⟨h.os, h.tape, h.output, by rw [size_set]; exact h.size, fun i hi hn => by rw [Below.heap_setCell _ _ _ _ hn]; exact h.block i hi hn⟩
theorem Fo.setNew {ob b : Nat} {u w : World} (h : Fo ob u w) (hb : u.heap.size ≤ b) (o : Nat) (v : Value) : Fo ob u (w.setCell ⟨b, o, none⟩ v) :=
  ⟨h.os, h.tape, h.output, by rw [size_set]; exact h.size, fun i hi hn => by rw [Below.heap_setCell _ _ _ _ (by simp only; omega)]; exact h.block i hi hn⟩
theorem Fo.below {ob n : Nat} {w w' : World} (h : Fo ob w w') (hn : n ≤ w.heap.size) (ho : n ≤ ob) : Below n w w' :=
  ⟨h.os, h.tape, h.output, h.size, fun i hi => h.block i (by omega) (by omega)⟩
theorem Fo.cell {ob : Nat} {w w' : World} (h : Fo ob w w') {b o : Nat} (hb : b < w.heap.size) (hn : b ≠ ob) : w'.cell? ⟨b, o, none⟩ = w.cell? ⟨b, o, none⟩ := World.cell?_of_block (w := w) (w' := w') (a := ⟨b, o, none⟩) (h.block b hb hn)
theorem Fo.frz {ob : Nat} {w w' : World} (h : Fo ob w w') {b o : Nat} (hb : b < w.heap.size) (hn : b ≠ ob) : w'.frozen? ⟨b, o, none⟩ = w.frozen? ⟨b, o, none⟩ := World.frozen?_of_block (w := w) (w' := w') (a := ⟨b, o, none⟩) (h.block b hb hn)
def OutAt (w : World) (ob : Nat) (l : List (Int × Int)) : Prop := ∀ (q : Nat) (x y : Int), l[q]? = some (x, y) → w.cell? ⟨ob, q * 2, none⟩ = some (.int .i64 x) ∧ w.cell? ⟨ob, q * 2 + 1, none⟩ = some (.int .i64 y) ∧ w.frozen? ⟨ob, q * 2, none⟩ = false ∧ w.frozen? ⟨ob, q * 2 + 1, none⟩ = false
theorem OutAt.of_block {w w' : World} {ob : Nat} {l : List (Int × Int)} (h : OutAt w ob l) (hb : w'.heap[ob]? = w.heap[ob]?) : OutAt w' ob l := by
  intro q x y hq
  obtain ⟨h1, h2, h3, h4⟩ := h q x y hq
  have hc : ∀ k, w'.cell? ⟨ob, k, none⟩ = w.cell? ⟨ob, k, none⟩ := fun k => World.cell?_of_block (w := w) (w' := w') (a := ⟨ob, k, none⟩) hb
  have hf : ∀ k, w'.frozen? ⟨ob, k, none⟩ = w.frozen? ⟨ob, k, none⟩ := fun k => World.frozen?_of_block (w := w) (w' := w') (a := ⟨ob, k, none⟩) hb
  exact ⟨(hc _).trans h1, (hc _).trans h2, (hf _).trans h3, (hf _).trans h4⟩
theorem OutAt.put {w : World} {ob q : Nat} {l : List (Int × Int)} (h : OutAt w ob l) (x y : Int) (hq : q < l.length) : OutAt ((w.setCell ⟨ob, q * 2, none⟩ (.int .i64 x)).setCell ⟨ob, q * 2 + 1, none⟩ (.int .i64 y)) ob (l.set q (x, y)) := by
  intro k x' y' hk
  have hne : ∀ {a b : Nat}, a ≠ b → (⟨ob, a, none⟩ : Addr) ≠ ⟨ob, b, none⟩ := fun hab e => hab (by injection e)
  by_cases e : k = q
  · subst e
    rw [List.getElem?_set_self hq] at hk
    cases hk
    obtain ⟨h1, h2, h3, h4⟩ := h k _ _ (List.getElem?_eq_getElem hq)
    refine ⟨?_, ?_, ?_, ?_⟩
    · rw [World.cell?_setCell_other (h := hne (by omega))]
      exact World.cell?_setCell_same _ _ _ h1
    · refine World.cell?_setCell_same _ _ _ (u := .int .i64 (l[k]).2) ?_
      rw [World.cell?_setCell_other (h := hne (by omega))]
      exact h2
    · rw [World.frozen?_setCell, World.frozen?_setCell]; exact h3
    · rw [World.frozen?_setCell, World.frozen?_setCell]; exact h4
  · rw [List.getElem?_set_ne (by omega)] at hk
    obtain ⟨h1, h2, h3, h4⟩ := h k _ _ hk
    refine ⟨?_, ?_, ?_, ?_⟩
    · rw [World.cell?_setCell_other (h := hne (by omega)), World.cell?_setCell_other (h := hne (by omega))]; exact h1
    · rw [World.cell?_setCell_other (h := hne (by omega)), World.cell?_setCell_other (h := hne (by omega))]; exact h2
    · rw [World.frozen?_setCell, World.frozen?_setCell]; exact h3
    · rw [World.frozen?_setCell, World.frozen?_setCell]; exact h4
structure Ctx (p : Pp) (T : Nat → Nat → Nat → Nat → Bool) (m : Nat → Nat) (w0 : World) (ob : Nat) : Prop where
  tb : TbAt w0 p p.nodes.length T m
  ri : ∀ (a : Nat) (d : Nd), p.nodes[a]? = some d → RowIs p.s (Mat p.s p.nodes) d (m a) (T a)
  pn : ∀ (a : Nat) (d : Nd), p.nodes[a]? = some d → PNd a p.groups d
  ob : w0.heap.size ≤ ob
  g9 : p.groups ≤ 9
theorem Ctx.wf {p : Pp} {T : Nat → Nat → Nat → Nat → Bool} {m : Nat → Nat} {w0 : World} {ob : Nat} (h : Ctx p T m w0 ob) : Wf p.nodes := fun n d hd => ⟨(h.pn n d hd).sub, fun e => by obtain ⟨x, hx⟩ := (h.pn n d hd).one (.inr e); rw [hx]; simp⟩
theorem Ctx.h3 {p : Pp} {T : Nat → Nat → Nat → Nat → Bool} {m : Nat → Nat} {w0 : World} {ob : Nat} (h : Ctx p T m w0 ob) : ∀ (n : Nat) (d : Nd), p.nodes[n]? = some d → d.kind = 3 → d.subs ≠ [] := fun n d hd e => by obtain ⟨x, hx⟩ := (h.pn n d hd).one (.inl e); rw [hx]; simp
theorem Ctx.tl {p : Pp} {T : Nat → Nat → Nat → Nat → Bool} {m : Nat → Nat} {w0 : World} {ob : Nat} (h : Ctx p T m w0 ob) {x : Nat} (hx : x < p.nodes.length) : Tl p.s.size (T x 0) (Mat p.s p.nodes x) :=
  (h.ri x _ (List.getElem?_eq_getElem hx)).whole.iff fun i j => Rel_Mat h.wf (List.getElem?_eq_getElem hx) i j
theorem Ctx.st {p : Pp} {T : Nat → Nat → Nat → Nat → Bool} {m : Nat → Nat} {w0 : World} {ob : Nat} (h : Ctx p T m w0 ob) (x : Nat) : Stays p.s.size (Mat p.s p.nodes x) := Mat_stays p.s h.wf (x + 1) x (by omega)
structure Now (p : Pp) (w0 : World) (ob : Nat) (mt : Int × Int) (c : Caps) (w : World) : Prop where
  b : Below w0.heap.size w0 w
  o : OutAt w ob (mt :: c)
  l : c.length = p.groups
theorem Now.lt {p : Pp} {w0 : World} {ob : Nat} {mt : Int × Int} {c : Caps} {w : World} (h : Now p w0 ob mt c w) : ob < w.heap.size := World.block_lt_of_cell? w _ (h.o 0 _ _ rfl).1
theorem Now.below {p : Pp} {w0 : World} {ob : Nat} {mt : Int × Int} {c : Caps} {w w' : World} (h : Now p w0 ob mt c w) (hb : Below w.heap.size w w') : Now p w0 ob mt c w' :=
  ⟨h.b.trans (hb.mono h.b.size), h.o.of_block (hb.block _ h.lt), h.l⟩
def GiveAt (p : Pp) (T : Nat → Nat → Nat → Nat → Bool) (m : Nat → Nat) (w0 : World) (ob N : Nat) : Prop :=
  ∀ (a i j : Nat) (mt : Int × Int) (c : Caps) (w : World), a < N → a < p.nodes.length → Now p w0 ob mt c w → Mat p.s p.nodes a i j → i ≤ j → j ≤ p.s.size →
    Calls Tryz.prog 108 #[.pointer (some ⟨p.tb, 0, none⟩), .int .i64 a, .agg #[.int .i64 i, .int .i64 j], .slice (some ⟨ob, 0, none⟩) (p.groups + 1) (p.groups + 1)] w
      fun e w' => e = .returned (.tuple #[]) ∧ ∃ c', Now p w0 ob mt c' w' ∧ PGv p.s p.nodes a i j c c' ∧ Fo ob w w'
structure WholeIs (w : World) (p : Pp) (x g c : Nat) : Prop where
  c4 : w.cell? ⟨p.tb, 4, none⟩ = some (.slice (some ⟨p.vb, 0, none⟩) p.nodes.length p.nodes.length)
  row : ∃ r mm, w.cell? ⟨p.vb, x, none⟩ = some (.slice (some ⟨r, 0, none⟩) mm mm) ∧ 1 ≤ mm ∧ w.cell? ⟨r, 0, none⟩ = some (.slice (some ⟨g, 0, none⟩) (p.s.size + 1) c)
  x : x < p.nodes.length
  many : p.nodes.length ≤ 200
theorem WholeIs.below {w w' : World} {p : Pp} {x g c : Nat} (h : WholeIs w p x g c) (hb : Below w.heap.size w w') : WholeIs w' p x g c := by
  have hc : ∀ b o v, w.cell? ⟨b, o, none⟩ = some v → w'.cell? ⟨b, o, none⟩ = some v := fun b o v hv => (World.cell?_of_block (w := w) (w' := w') (a := ⟨b, o, none⟩) (hb.block _ (World.block_lt_of_cell? w _ hv))).trans hv
  obtain ⟨r, mm, h1, h2, h3⟩ := h.row
  exact ⟨hc _ _ _ h.c4, ⟨r, mm, hc _ _ _ h1, h2, hc _ _ _ h3⟩, h.x, h.many⟩
theorem TbAt.wholeIs {w : World} {p : Pp} {T : Nat → Nat → Nat → Nat → Bool} {m : Nat → Nat} (h : TbAt w p p.nodes.length T m) {x : Nat} (hx : x < p.nodes.length) : ∃ g c, WholeIs w p x g c ∧ Sts w g p.s.size (T x 0) := by
  obtain ⟨r, r1, r2⟩ := h.row x hx
  obtain ⟨g, c, g1, g2, g3⟩ := r2.at' 0 r2.m1
  exact ⟨g, c, ⟨h.c4, ⟨r, _, r1, r2.m1, g1⟩, hx, h.many⟩, g3⟩
set_option maxHeartbeats 400000 in
theorem whole_is (p : Pp) (x g c : Nat) (w : World) (h : WholeIs w p x g c) :
    Calls Tryz.prog 66 #[.pointer (some ⟨p.tb, 0, none⟩), .int .i64 x] w fun e w' => e = .returned (.slice (some ⟨g, 0, none⟩) (p.s.size + 1) c) ∧ w' = w := by
  obtain ⟨c4, ⟨r, mm, r1, hm1, r2⟩, hx, hm⟩ := h
  go_enter Tryz.func66, Tryz.ntmps66
  go_wp2_with fail
  go_ret
  exact ⟨rfl, rfl⟩
end Go.Proofs.YtppjlpihaocdiaaGreatDoor

