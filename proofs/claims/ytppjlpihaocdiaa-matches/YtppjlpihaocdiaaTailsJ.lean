/- The program's table: the rows of a node, 'tailsOf'. -/
import Derived.Test.YtppjlpihaocdiaaTabEJ
set_option linter.unusedSimpArgs false
set_option linter.unusedVariables false
namespace Go.Proofs.Ytppjlpihaocdiaa
open Go.RowKit

/-- How a node of the program's tree is made. -/
structure PNd (n groups : Nat) (d : Nd) : Prop where
  k6 : d.kind ≤ 6
  sub : ∀ x ∈ d.subs, x < n
  one : d.kind = 3 ∨ d.kind = 6 → ∃ x, d.subs = [x]
  two : d.kind = 4 ∨ d.kind = 5 → 2 ≤ d.subs.length ∧ d.subs.length ≤ 1000
  rep : d.kind = 6 → d.lo ≤ 9 ∧ d.hi ≤ 9 ∧ (d.hi = -1 ∨ (d.lo : Int) ≤ d.hi)
  num : d.kind = 3 → d.num < groups

/-- What a node matches, by what its parts match. -/
def Rel (s : ByteArray) (R : Nat → Nat → Nat → Prop) (d : Nd) (i j : Nat) : Prop :=
  if d.kind = 0 then i < s.size ∧ d.set (byt s i) = true ∧ j = i + 1
  else if d.kind = 1 then i = 0 ∧ j = i
  else if d.kind = 2 then i = s.size ∧ j = i
  else if d.kind = 5 then Chain (d.subs.map R) i j
  else if d.kind = 6 then Times (R (d.subs.getD 0 0)) d.lo d.hi i j
  else ∃ x ∈ d.subs, R x i j

/-- The last of a repetition's rows. -/
def lastOf (d : Nd) : Nat := if d.hi < 0 then d.lo else d.hi.toNat

/-- The rows of a node. -/
structure RowIs (s : ByteArray) (R : Nat → Nat → Nat → Prop) (d : Nd) (m : Nat) (U : Nat → Nat → Nat → Bool) : Prop where
  whole : Tl s.size (U 0) (Rel s R d)
  row : d.kind = 5 → m = d.subs.length + 1 ∧ ∀ q, q ≤ d.subs.length → Tl s.size (U q) (Chain ((d.subs.map R).drop q))
  rep : d.kind = 6 → m = lastOf d + 1 ∧ ∀ q, q ≤ lastOf d → Tl s.size (U q) (Zt (R (d.subs.getD 0 0)) d.lo d.hi q)

theorem Times_Zt {R : Nat → Nat → Prop} {lo : Nat} {hi : Int} (h : hi < 0 ∨ (lo : Int) ≤ hi) (i j : Nat) : Zt R lo hi 0 i j ↔ Times R lo hi i j := by
  rw [Zt_iff]
  unfold Times
  rw [Nat.sub_zero, show max 0 lo = lo by omega]
  constructor
  · rintro ⟨m, r, h1, h2, h3⟩; exact ⟨m, r, h1, by omega, h3⟩
  · rintro ⟨m, r, h1, h2, h3⟩; exact ⟨m, r, h1, .inr h2, h3⟩

set_option maxHeartbeats 4000000 in
theorem tailsOf_any (p : Pp) (k lo groups : Nat) (d : Nd) (ao : Option Addr) (c y0 y1 y2 y3 : Nat) (R : Nat → Nat → Nat → Prop) (T : Nat → Nat → Nat → Nat → Bool) (m : Nat → Nat) (w : World) (h : TbAt w p k T m) (hlo : lo ≤ w.heap.size) (hlv : lo ≤ p.vb + 1)
    (hR : ∀ x, x < k → Tl p.s.size (T x 0) (R x)) (hst : ∀ x, x < k → Stays p.s.size (R x)) (hd : PNd k groups d) (hS : S4 y0 y1 y2 y3 d.set) (hK : Kids w p.vb ao d.subs) (hc : d.subs.length ≤ c) :
    Calls Try.prog 51 #[.pointer (some ⟨p.tb, 0, none⟩), .agg #[.int .i64 (pkind d.kind), .slice ao d.subs.length c, .int .u64 y0, .int .u64 y1, .int .u64 y2, .int .u64 y3, .int .i64 (pnum d), .int .i64 d.lo, .int .i64 d.hi]] w
      fun e w' => ∃ r mm, e = .returned (.slice (some ⟨r, 0, none⟩) mm mm) ∧ ∃ U, Rw w' lo r mm p.s.size U ∧ RowIs p.s R d mm U ∧ Below w.heap.size w w' := by
  have HT : Hid (TbAt w p k T m) := h
  have HR : Hid (∀ x, x < k → Tl p.s.size (T x 0) (R x)) := hR
  have HST : Hid (∀ x, x < k → Stays p.s.size (R x)) := hst
  have HD : Hid (PNd k groups d) := hd
  have HS : Hid (S4 y0 y1 y2 y3 d.set) := hS
  have HK : Hid (Kids w p.vb ao d.subs) := hK
  have hs80 := h.s80
  have c3 := h.c3
  have htb : p.tb < w.heap.size := World.block_lt_of_cell? w _ c3
  have hk6 := hd.k6
  have HB0 : Hid (Below w.heap.size w (w.alloc (.cells #[.int .i64 (pkind d.kind), .slice ao d.subs.length c, .int .u64 y0, .int .u64 y1, .int .u64 y2, .int .u64 y3, .int .i64 (pnum d), .int .i64 d.lo, .int .i64 d.hi] 92))) := (Below.refl _ _).alloc (Nat.le_refl _) _
  have hsz0 : (w.alloc (.cells #[.int .i64 (pkind d.kind), .slice ao d.subs.length c, .int .u64 y0, .int .u64 y1, .int .u64 y2, .int .u64 y3, .int .i64 (pnum d), .int .i64 d.lo, .int .i64 d.hi] 92)).heap.size = w.heap.size + 1 := by simp
  clear h hR hst hd hS hK
  obtain hkd | hkd | hkd | hkd | hkd | hkd | hkd : d.kind = 0 ∨ d.kind = 1 ∨ d.kind = 2 ∨ d.kind = 3 ∨ d.kind = 4 ∨ d.kind = 5 ∨ d.kind = 6 := by omega
  · have HKD : Hid (d.kind = 0) := hkd
    rw [show pkind d.kind = 2 from by rw [hkd]; rfl] at HB0 hsz0 ⊢
    clear hkd
    go_enter Try.func51, Try.ntmps51
    go_wp2_with fail
    refine (oneByte_any p k lo y0 y1 y2 y3 d.set T m _ (HT.out.below HB0.out) HS.out (by omega)).mono ?_
    rintro e w1 ⟨r, rfl, hRw, hB⟩
    have HRw : Hid _ := hRw
    have HB : Hid (Below w.heap.size w w1) := HB0.out.trans (hB.mono (by omega))
    clear hRw hB
    go_wp2_with fail
    go_ret
    refine ⟨_, _, rfl, _, HRw.out, ⟨fun i hi j => ?_, fun e => by have := HKD.out; omega, fun e => by have := HKD.out; omega⟩, HB.out⟩
    unfold Rel
    rw [if_pos HKD.out]
    simp
  · have HKD : Hid (d.kind = 1) := hkd
    rw [show pkind d.kind = 0 from by rw [hkd]; rfl] at HB0 hsz0 ⊢
    clear hkd
    go_enter Try.func51, Try.ntmps51
    go_wp2_with fail
    refine (emptyAt_any p k 0 lo T m _ (HT.out.below HB0.out) (Nat.zero_le _) (by omega)).mono ?_
    rintro e w1 ⟨r, rfl, hRw, hB⟩
    have HRw : Hid _ := hRw
    have HB : Hid (Below w.heap.size w w1) := HB0.out.trans (hB.mono (by omega))
    clear hRw hB
    go_wp2_with fail
    go_ret
    refine ⟨_, _, rfl, _, HRw.out, ⟨fun i hi j => ?_, fun e => by have := HKD.out; omega, fun e => by have := HKD.out; omega⟩, HB.out⟩
    unfold Rel
    rw [if_neg (by rw [HKD.out]; decide), if_pos HKD.out]
    simp
    omega
  · have HKD : Hid (d.kind = 2) := hkd
    rw [show pkind d.kind = 1 from by rw [hkd]; rfl] at HB0 hsz0 ⊢
    clear hkd
    go_enter Try.func51, Try.ntmps51
    go_wp2_with fail
    refine (emptyAt_any p k p.s.size lo T m _ (HT.out.below HB0.out) (Nat.le_refl _) (by omega)).mono ?_
    rintro e w1 ⟨r, rfl, hRw, hB⟩
    have HRw : Hid _ := hRw
    have HB : Hid (Below w.heap.size w w1) := HB0.out.trans (hB.mono (by omega))
    clear hRw hB
    go_wp2_with fail
    go_ret
    refine ⟨_, _, rfl, _, HRw.out, ⟨fun i hi j => ?_, fun e => by have := HKD.out; omega, fun e => by have := HKD.out; omega⟩, HB.out⟩
    unfold Rel
    rw [if_neg (by rw [HKD.out]; decide), if_neg (by rw [HKD.out]; decide), if_pos HKD.out]
    simp
    omega
  · have HKD : Hid (d.kind = 3) := hkd
    obtain ⟨x, hsx⟩ := HD.out.one (.inl hkd)
    have HSX : Hid (d.subs = [x]) := hsx
    have hxk : x < k := HD.out.sub x (by rw [hsx]; simp)
    rcases HK.out with hk0 | ⟨kb, rfl, hkb, hkid⟩
    · rw [hk0] at hsx; cases hsx
    have k0 := hkid 0 x (by rw [hsx]; rfl)
    have hl1 : d.subs.length = 1 := by rw [hsx]; rfl
    rw [show pkind d.kind = 3 from by rw [hkd]; rfl] at HB0 hsz0 ⊢
    rw [hl1] at HB0 hsz0 hc ⊢
    have hkbl := World.block_lt_of_cell? w _ k0
    clear hkd hkid hsx hl1 HK
    go_enter Try.func51, Try.ntmps51
    go_wp2_with fail
    refine (whole_any' p k x T m _ (HT.out.below HB0.out) hxk).mono ?_
    rintro e w1 ⟨g2, c2, rfl, hg2, hS2, hw1⟩
    subst w1
    have HS2 : Hid _ := hS2
    clear hS2
    go_wp2_with fail
    go_ret
    refine ⟨_, _, rfl, _, Rw.one HS2.out (by omega) (by omega) (by omega), ⟨fun i hi j => ?_, fun e => by have := HKD.out; omega, fun e => by have := HKD.out; omega⟩, HB0.out.alloc (by omega) _⟩
    unfold Rel
    rw [if_neg (by rw [HKD.out]; decide), if_neg (by rw [HKD.out]; decide), if_neg (by rw [HKD.out]; decide), if_neg (by rw [HKD.out]; decide), if_neg (by rw [HKD.out]; decide), HSX.out]
    rw [HR.out x hxk i hi j]
    simp
  · have HKD : Hid (d.kind = 4) := hkd
    obtain ⟨hl2, hl3⟩ := HD.out.two (.inl hkd)
    rcases HK.out with hk0 | ⟨kb, rfl, hkb, hkid⟩
    · rw [hk0] at hl2; simp at hl2
    have hkid' : ∀ (q y : Nat), d.subs[q]? = some y → (w.alloc (.cells #[.int .i64 (pkind d.kind), .slice (some ⟨kb, 0, none⟩) d.subs.length c, .int .u64 y0, .int .u64 y1, .int .u64 y2, .int .u64 y3, .int .i64 (pnum d), .int .i64 d.lo, .int .i64 d.hi] 92)).cell? ⟨kb, q, none⟩ = some (.int .i64 y) := fun q y hy => (World.cell?_of_block (w := w) (a := ⟨kb, q, none⟩) (HB0.out.block kb (World.block_lt_of_cell? w _ (hkid q y hy)))).trans (hkid q y hy)
    have HKI : Hid _ := hkid'
    rw [show pkind d.kind = 6 from by rw [hkd]; rfl] at HB0 hsz0 HKI ⊢
    clear hkd hkid hkid' HK
    go_enter Try.func51, Try.ntmps51
    go_wp2_with fail
    refine (anyOf_any p k lo kb c d.subs R T m _ (HT.out.below HB0.out) (by omega) hlv HR.out hl2 hc hl3 HKI.out HD.out.sub).mono ?_
    rintro e w1 ⟨r, rfl, M, hRw, hTl, hB⟩
    have HRw : Hid (Rw w1 lo r 1 p.s.size fun _ => M) := hRw
    have HTl : Hid (Tl p.s.size M (fun i j => ∃ x ∈ d.subs, R x i j)) := hTl
    have HB : Hid (Below w.heap.size w w1) := HB0.out.trans (hB.mono (by omega))
    clear hRw hB hTl
    go_wp2_with fail
    go_ret
    refine ⟨_, _, rfl, _, HRw.out, ⟨fun i hi j => ?_, fun e => by have := HKD.out; omega, fun e => by have := HKD.out; omega⟩, HB.out⟩
    unfold Rel
    rw [if_neg (by rw [HKD.out]; decide), if_neg (by rw [HKD.out]; decide), if_neg (by rw [HKD.out]; decide), if_neg (by rw [HKD.out]; decide), if_neg (by rw [HKD.out]; decide)]
    exact HTl.out i hi j
  · have HKD : Hid (d.kind = 5) := hkd
    obtain ⟨hl2, hl3⟩ := HD.out.two (.inr hkd)
    rcases HK.out with hk0 | ⟨kb, rfl, hkb, hkid⟩
    · rw [hk0] at hl2; simp at hl2
    have hkid' : ∀ (q y : Nat), d.subs[q]? = some y → (w.alloc (.cells #[.int .i64 (pkind d.kind), .slice (some ⟨kb, 0, none⟩) d.subs.length c, .int .u64 y0, .int .u64 y1, .int .u64 y2, .int .u64 y3, .int .i64 (pnum d), .int .i64 d.lo, .int .i64 d.hi] 92)).cell? ⟨kb, q, none⟩ = some (.int .i64 y) := fun q y hy => (World.cell?_of_block (w := w) (a := ⟨kb, q, none⟩) (HB0.out.block kb (World.block_lt_of_cell? w _ (hkid q y hy)))).trans (hkid q y hy)
    have HKI : Hid _ := hkid'
    rw [show pkind d.kind = 5 from by rw [hkd]; rfl] at HB0 hsz0 HKI ⊢
    clear hkd hkid hkid' HK
    go_enter Try.func51, Try.ntmps51
    go_wp2_with fail
    refine (inOrder_any p k lo kb c d.subs R T m _ (HT.out.below HB0.out) (by omega) hlv HR.out HST.out hc hl3 HKI.out HD.out.sub).mono ?_
    rintro e w1 ⟨r, rfl, U, hRw, hTl, hB⟩
    have HRw : Hid (Rw w1 lo r (d.subs.length + 1) p.s.size U) := hRw
    have HTl : Hid (∀ q, q ≤ d.subs.length → Tl p.s.size (U q) (Chain ((d.subs.map R).drop q))) := hTl
    have HB : Hid (Below w.heap.size w w1) := HB0.out.trans (hB.mono (by omega))
    clear hRw hB hTl
    go_wp2_with fail
    go_ret
    refine ⟨_, _, rfl, _, HRw.out, ⟨fun i hi j => ?_, fun e => ⟨rfl, HTl.out⟩, fun e => by have := HKD.out; omega⟩, HB.out⟩
    unfold Rel
    rw [if_neg (by rw [HKD.out]; decide), if_neg (by rw [HKD.out]; decide), if_neg (by rw [HKD.out]; decide), if_pos HKD.out]
    exact HTl.out 0 (Nat.zero_le _) i hi j
  · have HKD : Hid (d.kind = 6) := hkd
    obtain ⟨x, hsx⟩ := HD.out.one (.inr hkd)
    obtain ⟨r1, r2, r3⟩ := HD.out.rep hkd
    have HSX : Hid (d.subs = [x]) := hsx
    have hxk : x < k := HD.out.sub x (by rw [hsx]; simp)
    rcases HK.out with hk0 | ⟨kb, rfl, hkb, hkid⟩
    · rw [hk0] at hsx; cases hsx
    have k0 := hkid 0 x (by rw [hsx]; rfl)
    have hl1 : d.subs.length = 1 := by rw [hsx]; rfl
    rw [show pkind d.kind = 4 from by rw [hkd]; rfl] at HB0 hsz0 ⊢
    rw [hl1] at HB0 hsz0 hc ⊢
    have hkbl := World.block_lt_of_cell? w _ k0
    clear hkd hkid hsx hl1 HK
    have HEnd : Hid (∀ (r : Nat) (w1 : World) (U : Nat → Nat → Nat → Bool), (∀ q, q ≤ lastOf d → Tl p.s.size (U q) (Zt (R x) d.lo d.hi q)) → RowIs p.s R d (lastOf d + 1) U) := by
      intro r w1 U hU
      refine ⟨?_, fun e => by have := HKD.out; omega, fun e => ⟨rfl, by rw [HSX.out]; exact hU⟩⟩
      intro i hi j
      unfold Rel
      rw [if_neg (by rw [HKD.out]; decide), if_neg (by rw [HKD.out]; decide), if_neg (by rw [HKD.out]; decide), if_neg (by rw [HKD.out]; decide), if_pos HKD.out, HSX.out]
      rw [hU 0 (Nat.zero_le _) i hi j]
      exact Times_Zt (by omega) i j
    by_cases hm : d.hi = -1
    · have HM : Hid (lastOf d = d.lo) := by unfold lastOf; rw [if_pos (by omega)]; rfl
      have HHI : Hid (d.hi = -1) := hm
      rw [hm] at HB0 hsz0 ⊢
      clear hm r2 r3
      go_enter Try.func51, Try.ntmps51
      go_wp2_with fail
      refine (repeated_endless p k lo kb c x d.lo y0 y1 y2 y3 _ _ R T m _ (HT.out.below HB0.out) (by omega) hlv HR.out HST.out ((World.cell?_of_block (w := w) (a := ⟨kb, 0, none⟩) (HB0.out.block kb hkbl)).trans k0) hxk (Nat.le_refl _) r1).mono ?_
      rintro e w1 ⟨r, rfl, U, hRw, hTl, hB⟩
      have HRw : Hid (Rw w1 lo r (d.lo + 1) p.s.size U) := hRw
      have HTl : Hid (∀ q, q ≤ d.lo → Tl p.s.size (U q) (Zt (R x) d.lo (-1) q)) := hTl
      have HB : Hid (Below w.heap.size w w1) := HB0.out.trans (hB.mono (by omega))
      clear hRw hB hTl
      go_wp2_with fail
      go_ret
      refine ⟨_, _, rfl, U, HRw.out, ?_, HB.out⟩
      have := HEnd.out r w1 U (by rw [HM.out, HHI.out]; exact HTl.out)
      rw [HM.out] at this
      exact this
    · obtain ⟨hh, hhe⟩ : ∃ hh : Nat, d.hi = hh := ⟨d.hi.toNat, by omega⟩
      have HM : Hid (lastOf d = hh) := by unfold lastOf; rw [if_neg (by omega), hhe]; rfl
      have HHI : Hid (d.hi = (hh : Int)) := hhe
      have q1 : d.lo ≤ hh := by omega
      have q2 : hh ≤ 9 := by omega
      rw [hhe] at HB0 hsz0 ⊢
      clear hm r2 r3 hhe
      go_enter Try.func51, Try.ntmps51
      go_wp2_with fail
      refine (repeated_upto p k lo kb c x d.lo hh y0 y1 y2 y3 _ _ R T m _ (HT.out.below HB0.out) (by omega) hlv HR.out HST.out ((World.cell?_of_block (w := w) (a := ⟨kb, 0, none⟩) (HB0.out.block kb hkbl)).trans k0) hxk q1 q2).mono ?_
      rintro e w1 ⟨r, rfl, U, hRw, hTl, hB⟩
      have HRw : Hid (Rw w1 lo r (hh + 1) p.s.size U) := hRw
      have HTl : Hid (∀ q, q ≤ hh → Tl p.s.size (U q) (Zt (R x) d.lo (hh : Int) q)) := hTl
      have HB : Hid (Below w.heap.size w w1) := HB0.out.trans (hB.mono (by omega))
      clear hRw hB hTl
      go_wp2_with fail
      go_ret
      refine ⟨_, _, rfl, U, HRw.out, ?_, HB.out⟩
      have := HEnd.out r w1 U (by rw [HM.out, HHI.out]; exact HTl.out)
      rw [HM.out] at this
      exact this
end Go.Proofs.Ytppjlpihaocdiaa
