/- Several texts in one. -/
import Derived.Test.YtppjlpihaocdiaaInnerJ
/- Sets: an end of a range, a range, told by the walk. -/
set_option linter.unusedSimpArgs false
set_option linter.unusedVariables false
namespace Go.Proofs.Ytppjlpihaocdiaa
open Go.RowKit

theorem step_set {m o a l c : Nat} (h1 : 4 ≤ m) (h2 : m ≤ 10) : step ⟨m, o, a, l⟩ c = inSet ⟨m, o, a, l⟩ c := by
  unfold step
  simp only
  rw [if_neg (by omega), if_neg (by omega), if_neg (by omega), if_neg (by omega)]

theorem not_whole {st : St} (h : st.m ≠ 1) (h' : st.m ≠ 2) : whole st = false := by
  simp [whole, h, h']

/-- The walk stops here. -/
theorem Fails.here {s : ByteArray} {i : Nat} {st : St} (h : run s i = some st) (hle : i ≤ s.size) (h1 : i < s.size → step st (byt s i) = none) (h2 : i = s.size → whole st = false) : Fails s i := ⟨st, h, hle, h1, h2⟩

/-- Ahead of an end of a range: the state, and the least that may come. -/
def InPre (s : ByteArray) (i L : Nat) (st : St) : Prop :=
  (st.m = 8 ∧ L = st.l) ∨ (L = 0 ∧ ((st.m = 4 ∧ pk s i ≠ 94) ∨ st.m = 5 ∨ (st.m = 6 ∧ pk s i ≠ 93 ∧ pk s i ≠ 45) ∨ (st.m = 7 ∧ pk s i ≠ 93)))

theorem in_no {s : ByteArray} {i L : Nat} {st : St} (hm : InPre s i L st) (hi : i < s.size) (hq : inB noInner (byt s i) = true) : step st (byt s i) = none := by
  obtain ⟨m, o, a, l⟩ := st
  rw [inB_noInner] at hq
  unfold InPre at hm
  rw [pk_in hi] at hm
  simp only at hm
  generalize byt s i = c at hm hq
  rcases hm with ⟨rfl, rfl⟩ | ⟨rfl, ⟨rfl, h⟩ | rfl | ⟨rfl, h, h'⟩ | ⟨rfl, h⟩⟩
  all_goals rw [step_set (by omega) (by omega)]
  · rw [inSet8]; (repeat' split) <;> first | rfl | omega
  · rw [inSet4]; (repeat' split) <;> first | rfl | omega
  · rw [inSet5]; (repeat' split) <;> first | rfl | omega
  · rw [inSet6]; (repeat' split) <;> first | rfl | omega
  · rw [inSet7]; (repeat' split) <;> first | rfl | omega

theorem in_bsl {s : ByteArray} {i L : Nat} {st : St} (hm : InPre s i L st) (hi : i < s.size) (hq : byt s i = 92) : step st (byt s i) = if L ≤ 125 then some ⟨if st.m = 8 then 10 else 9, st.o, st.a, st.l⟩ else none := by
  obtain ⟨m, o, a, l⟩ := st
  unfold InPre at hm
  rw [pk_in hi] at hm
  simp only at hm
  rw [hq] at hm ⊢
  rcases hm with ⟨rfl, rfl⟩ | ⟨rfl, ⟨rfl, h⟩ | rfl | ⟨rfl, h, h'⟩ | ⟨rfl, h⟩⟩
  all_goals rw [step_set (by omega) (by omega)]
  · rw [inSet8]; rfl
  · rw [inSet4]; rfl
  · rw [inSet5]; rfl
  · rw [inSet6]; rfl
  · rw [inSet7]; rfl

theorem in_byte {s : ByteArray} {i L : Nat} {st : St} (hm : InPre s i L st) (hi : i < s.size) (hq : inB noInner (byt s i) = false) (h92 : byt s i ≠ 92) : step st (byt s i) = if L ≤ byt s i then some ⟨if st.m = 8 then 7 else 6, st.o, st.a, byt s i⟩ else none := by
  obtain ⟨m, o, a, l⟩ := st
  have hq' : ¬ (inB noInner (byt s i) = true) := by rw [hq]; simp
  rw [inB_noInner] at hq'
  unfold InPre at hm
  rw [pk_in hi] at hm
  simp only at hm
  generalize byt s i = c at hm hq' h92
  rcases hm with ⟨rfl, rfl⟩ | ⟨rfl, ⟨rfl, h⟩ | rfl | ⟨rfl, h, h'⟩ | ⟨rfl, h⟩⟩
  all_goals rw [step_set (by omega) (by omega)]
  · rw [inSet8, if_neg (by omega : ¬ c = 93), if_neg (by omega : ¬ c = 45), if_neg h92]
    by_cases hL : L ≤ c
    · rw [if_neg (by omega), if_pos hL]; rfl
    · rw [if_pos (by omega), if_neg hL]
  · rw [inSet4, if_neg (by omega : ¬ c = 94), if_neg (by omega : ¬ c = 93), if_neg (by omega : ¬ c = 45), if_neg h92, if_neg (by omega : ¬ c = 10), if_pos (Nat.zero_le _)]; rfl
  · rw [inSet5, if_neg (by omega : ¬ c = 93), if_neg (by omega : ¬ c = 45), if_neg h92, if_neg (by omega : ¬ c = 10), if_pos (Nat.zero_le _)]; rfl
  · rw [inSet6, if_neg (by omega : ¬ c = 93), if_neg (by omega : ¬ c = 45), if_neg h92, if_neg (by omega : ¬ c = 10), if_pos (Nat.zero_le _)]; rfl
  · rw [inSet7, if_neg (by omega : ¬ c = 93), if_neg (by omega : ¬ c = 45), if_neg h92, if_neg (by omega : ¬ c = 10), if_pos (Nat.zero_le _)]; rfl

theorem InPre.modes {s : ByteArray} {i L : Nat} {st : St} (hm : InPre s i L st) : 4 ≤ st.m ∧ st.m ≤ 8 := by
  unfold InPre at hm; omega

theorem in_esc {st : St} {L c : Nat} {s : ByteArray} {i : Nat} (hm : InPre s i L st) : step ⟨if st.m = 8 then 10 else 9, st.o, st.a, st.l⟩ c = if inB escs c = true ∧ L ≤ val c then some ⟨if st.m = 8 then 7 else 6, st.o, st.a, val c⟩ else none := by
  unfold InPre at hm
  by_cases h8 : st.m = 8
  · have hL : L = st.l := by omega
    simp only [h8, if_true]
    rw [step_set (by omega) (by omega), inSet10, hL]
  · have hL : L = 0 := by omega
    simp only [h8, if_false]
    rw [step_set (by omega) (by omega), inSet9, hL]
    simp

/-- An end of a range, told by the walk. -/
theorem inner_walk {s : ByteArray} {i L v j : Nat} {ok : Bool} {st : St} (h : run s i = some st) (hle : i ≤ s.size) (hm : InPre s i L st) (hI : InnR s i L v ok j) :
    (ok = true ∧ i < j ∧ j ≤ s.size ∧ v ≤ 255 ∧ run s j = some ⟨if st.m = 8 then 7 else 6, st.o, st.a, v⟩) ∨ (ok = false ∧ Fails s j) := by
  have hc := byt_lt s i
  have hc1 := byt_lt s (i + 1)
  have hmm := hm.modes
  rcases hI with ⟨h1, rfl, hj⟩ | ⟨h1, h2, hE⟩ | ⟨h1, h2, h3, hR⟩
  · subst hj
    refine .inr ⟨rfl, .here h hle (fun hlt => ?_) (fun _ => not_whole (by omega) (by omega))⟩
    rcases h1 with h1 | h1
    · exact absurd hlt h1
    · exact in_no hm hlt h1
  · have hb := in_bsl hm h1 h2
    rcases hE with ⟨g1, rfl, hj, rfl⟩ | ⟨g1, rfl, hj, rfl, g2⟩ | ⟨g1, rfl, hj, g2, g3, g4, rfl⟩
    · subst hj
      refine .inr ⟨rfl, .here h hle (fun _ => ?_) (fun _ => not_whole (by omega) (by omega))⟩
      rw [hb, if_neg (by omega)]
    · subst hj
      have hr : run s (i + 1) = some ⟨if st.m = 8 then 10 else 9, st.o, st.a, st.l⟩ := by rw [run_succ h, hb, if_pos g1]
      refine .inr ⟨rfl, .here hr (by omega) (fun hlt => ?_) (fun _ => not_whole (by simp only; split <;> omega) (by simp only; split <;> omega))⟩
      rw [in_esc hm, if_neg (fun hh => g2 ⟨hlt, hh⟩)]
    · subst hj
      have hr : run s (i + 1) = some ⟨if st.m = 8 then 10 else 9, st.o, st.a, st.l⟩ := by rw [run_succ h, hb, if_pos g1]
      refine .inl ⟨rfl, by omega, by omega, val_le hc1, ?_⟩
      rw [run_succ hr, in_esc hm, if_pos ⟨g3, g4⟩]
  · have hb := in_byte hm h1 h2 h3
    rcases hR with ⟨g1, rfl, hj⟩ | ⟨g1, rfl, hj, rfl⟩
    · subst hj
      refine .inr ⟨rfl, .here h hle (fun _ => ?_) (fun _ => not_whole (by omega) (by omega))⟩
      rw [hb, if_neg (by omega)]
    · subst hj
      refine .inl ⟨rfl, by omega, by omega, by omega, ?_⟩
      rw [run_succ h, hb, if_pos g1]


theorem ret3 {a b c d : Int} {p q : Bool} (h : a = b) (h' : c = d) (h'' : p = q) : Ending.returned (.tuple #[.int .u8 a, .int .u8 c, .bool p]) = .returned (.tuple #[.int .u8 b, .int .u8 d, .bool q]) := by rw [h, h', h'']

/-- What 'between' leaves. -/
def BetR (s : ByteArray) (i : Nat) (st : St) (ok : Bool) (j : Nat) : Prop :=
  (ok = true ∧ i < j ∧ j ≤ s.size ∧ ∃ l', ((run s j = some ⟨6, st.o, st.a, l'⟩ ∧ pk s j ≠ 45) ∨ run s j = some ⟨7, st.o, st.a, l'⟩)) ∨ (ok = false ∧ Fails s j)

theorem Fails.le {s : ByteArray} {j : Nat} (h : Fails s j) : j ≤ s.size := by
  obtain ⟨_, _, h, _⟩ := h; exact h

set_option maxHeartbeats 400000 in
theorem between_any (b : Nat) (s : ByteArray) (i : Nat) (st : St) (w : World) (hr : Rc w b s i) (h : run s i = some st) (hm : InPre s i 0 st) (h8 : st.m ≠ 8) :
    Calls Try.prog 135 #[.pointer (some ⟨b, 0, none⟩)] w fun e w' => ∃ (lo hi : Nat) (ok : Bool) (j : Nat), e = .returned (.tuple #[.int .u8 lo, .int .u8 hi, .bool ok]) ∧ Mv b w w' j ∧ (ok = true → lo ≤ 255 ∧ hi ≤ 255) ∧ BetR s i st ok j := by
  have HR : Hid (Rc w b s i) := hr
  have HG : Hid (run s i = some st) := h
  have HM : Hid (InPre s i 0 st) := hm
  have hle := hr.le
  clear hr h hm
  go_enter Try.func135, Try.ntmps135
  go_wp2_with fail
  refine (inner_any b s i 0 _ HR.out (by omega)).mono ?_
  rintro e w1 ⟨v, ok, j, rfl, hmv, hE⟩
  have HV : Hid (Mv b w w1 j) := hmv
  rcases inner_walk HG.out hle HM.out hE with ⟨rfl, hij, hjs, hv, hrun⟩ | ⟨rfl, hF⟩
  · rw [if_neg h8] at hrun
    have HJ : Hid (run s j = some ⟨6, st.o, st.a, v⟩) := hrun
    have HR1 : Hid (Rc w1 b s j) := hmv.rc HR.out hjs
    clear hE hmv hrun
    by_cases hd : pk s j = 45
    · have HD : Hid (pk s j = 45) := hd
      have hlt : j < s.size := by
        by_cases hx : j < s.size
        · exact hx
        · rw [pk_out hx] at hd; omega
      have HK : Hid (run s (j + 1) = some ⟨8, st.o, st.a, v⟩) := by
        have e : byt s j = 45 := by rw [pk_in hlt] at hd; omega
        rw [Hid, run_succ HJ.out, step_set (by omega) (by omega), inSet6, e]; rfl
      have HR2 : Hid (Rc (w1.setCell ⟨b, 1, none⟩ (.int .i64 ((j : Int) + 1))) b s (j + 1)) := HR1.out.put (j + 1) (by omega) (by omega)
      clear hd
      go_wp2_with (first | (go_at_call 56; refine (accept_yes b s j 45 _ HR1.out (by omega) HD.out).mono ?_; rintro e w2 ⟨rfl, n, rfl⟩))
      refine (inner_any b s (j + 1) v _ (HR2.out.drewN _) hv).mono ?_
      rintro e w2 ⟨v2, ok2, j2, rfl, hmv2, hE2⟩
      have hm2 : Mv b w w2 j2 := HV.out.trans (((HR1.out.stay.set (j + 1) (by omega)).drewN _).trans hmv2)
      have hB : (ok2 = true → v ≤ 255 ∧ v2 ≤ 255) ∧ BetR s i st ok2 j2 := by
        rcases inner_walk HK.out (by omega) (.inl ⟨rfl, rfl⟩) hE2 with ⟨rfl, g1, g2, g3, g4⟩ | ⟨rfl, hF⟩
        · exact ⟨fun _ => ⟨hv, g3⟩, .inl ⟨rfl, by omega, g2, v2, .inr g4⟩⟩
        · exact ⟨(fun h => absurd h (by simp)), .inr ⟨rfl, hF⟩⟩
      clear hmv2 hE2
      go_wp2_with fail
      go_ret3
      exact ⟨v, v2, ok2, j2, rfl, hm2, hB⟩
    · have HD : Hid (pk s j ≠ 45) := hd
      clear hd
      go_wp2_with (first | (go_at_call 56; refine (accept_no b s j 45 _ HR1.out (by omega) HD.out).mono ?_; rintro e w2 ⟨rfl, n, rfl⟩))
      go_ret3
      exact ⟨v, v, true, j, rfl, HV.out.drewN _, fun _ => ⟨hv, hv⟩, .inl ⟨rfl, hij, hjs, v, .inl ⟨HJ.out, HD.out⟩⟩⟩
  · have HF : Hid (Fails s j) := hF
    clear hF hE hmv
    go_wp2_with fail
    go_ret3
    exact ⟨v, v, false, j, rfl, HV.out, (fun h => absurd h (by simp)), .inr ⟨rfl, HF.out⟩⟩
end Go.Proofs.Ytppjlpihaocdiaa

/- The sets of bytes themselves: 'with', 'others': they make memory of their own and turn nothing old. -/
set_option linter.unusedSimpArgs false
set_option linter.unusedVariables false
namespace Go.Proofs.Ytppjlpihaocdiaa
open Go.RowKit

set_option maxHeartbeats 400000 in
theorem others_any (x0 x1 x2 x3 : Int) (w : World) :
    Calls Try.prog 120 #[.agg #[.int .u64 x0, .int .u64 x1, .int .u64 x2, .int .u64 x3]] w fun e w' => (∃ y0 y1 y2 y3 : Int, e = .returned (.agg #[.int .u64 y0, .int .u64 y1, .int .u64 y2, .int .u64 y3])) ∧ Below w.heap.size w w' := by
  go_enter Try.func120, Try.ntmps120
  go_wp2
  exact bodyPost_ret (v := .agg #[.int .u64 (bits BinOp.xor IntKind.u64 IntKind.u64.max x0), .int .u64 (bits BinOp.xor IntKind.u64 IntKind.u64.max x1), .int .u64 (bits BinOp.xor IntKind.u64 IntKind.u64.max x2), .int .u64 (bits BinOp.xor IntKind.u64 IntKind.u64.max x3)]) (by simp [results, Try.results120, go_sem]) rfl ⟨⟨_, _, _, _, rfl⟩, ((Below.refl _ _).alloc (Nat.le_refl _) _).alloc (by simp) _⟩


/-- Four numbers lie in a block, to be read and written. -/
structure Four (w : World) (b : Nat) (y0 y1 y2 y3 : Int) : Prop where
  c0 : w.cell? ⟨b, 0, none⟩ = some (.int .u64 y0)
  c1 : w.cell? ⟨b, 1, none⟩ = some (.int .u64 y1)
  c2 : w.cell? ⟨b, 2, none⟩ = some (.int .u64 y2)
  c3 : w.cell? ⟨b, 3, none⟩ = some (.int .u64 y3)
  f0 : w.frozen? ⟨b, 0, none⟩ = false
  f1 : w.frozen? ⟨b, 1, none⟩ = false
  f2 : w.frozen? ⟨b, 2, none⟩ = false
  f3 : w.frozen? ⟨b, 3, none⟩ = false

theorem Four.put0 {w : World} {b : Nat} {y0 y1 y2 y3 : Int} (h : Four w b y0 y1 y2 y3) (y : Int) : Four (w.setCell ⟨b, 0, none⟩ (.int .u64 y)).drew b y y1 y2 y3 := by
  obtain ⟨c0, c1, c2, c3, f0, f1, f2, f3⟩ := h
  constructor <;> go_simp
theorem Four.put1 {w : World} {b : Nat} {y0 y1 y2 y3 : Int} (h : Four w b y0 y1 y2 y3) (y : Int) : Four (w.setCell ⟨b, 1, none⟩ (.int .u64 y)).drew b y0 y y2 y3 := by
  obtain ⟨c0, c1, c2, c3, f0, f1, f2, f3⟩ := h
  constructor <;> go_simp
theorem Four.put2 {w : World} {b : Nat} {y0 y1 y2 y3 : Int} (h : Four w b y0 y1 y2 y3) (y : Int) : Four (w.setCell ⟨b, 2, none⟩ (.int .u64 y)).drew b y0 y1 y y3 := by
  obtain ⟨c0, c1, c2, c3, f0, f1, f2, f3⟩ := h
  constructor <;> go_simp
theorem Four.put3 {w : World} {b : Nat} {y0 y1 y2 y3 : Int} (h : Four w b y0 y1 y2 y3) (y : Int) : Four (w.setCell ⟨b, 3, none⟩ (.int .u64 y)).drew b y0 y1 y2 y := by
  obtain ⟨c0, c1, c2, c3, f0, f1, f2, f3⟩ := h
  constructor <;> go_simp
theorem Four.far {w : World} {b a : Nat} {y0 y1 y2 y3 : Int} (h : Four w b y0 y1 y2 y3) (hne : a ≠ b) (o : Nat) (v : Value) : Four (w.setCell ⟨a, o, none⟩ v).drew b y0 y1 y2 y3 := by
  obtain ⟨c0, c1, c2, c3, f0, f1, f2, f3⟩ := h
  have hh : ∀ k, (w.setCell ⟨a, o, none⟩ v).cell? ⟨b, k, none⟩ = w.cell? ⟨b, k, none⟩ := fun k => World.cell?_setCell_other (h := fun e => hne (by injection e)) ..
  refine ⟨?_, ?_, ?_, ?_, ?_, ?_, ?_, ?_⟩
  · exact (hh 0).trans c0
  · exact (hh 1).trans c1
  · exact (hh 2).trans c2
  · exact (hh 3).trans c3
  all_goals go_simp

set_option maxHeartbeats 400000 in
theorem with_any (x0 x1 x2 x3 : Int) (lo hi : Nat) (w : World) (hlo : lo ≤ 255) (hhi : hi ≤ 255) :
    Calls Try.prog 124 #[.agg #[.int .u64 x0, .int .u64 x1, .int .u64 x2, .int .u64 x3], .int .u8 lo, .int .u8 hi] w fun e w' => (∃ y0 y1 y2 y3 : Int, e = .returned (.agg #[.int .u64 y0, .int .u64 y1, .int .u64 y2, .int .u64 y3])) ∧ Below w.heap.size w w' := by
  go_enter Try.func124, Try.ntmps124
  go_wp2
  go_loopw [7] (fun v wr => ∃ (k : Nat) (y0 y1 y2 y3 z0 z1 z2 z3 : Int), k ≤ 256 ∧ v = .int .i64 k ∧ Four wr w.heap.size y0 y1 y2 y3 ∧ Four wr (w.heap.size + 1) z0 z1 z2 z3 ∧ Below w.heap.size w wr) (fun v _ => 256 - (intOf v).toNat)
  case atStart => exact ⟨lo, x0, x1, x2, x3, 0, 0, 0, 0, by omega, rfl, by constructor <;> go_simp, by constructor <;> go_simp, ((Below.refl _ _).alloc (Nat.le_refl _) _).alloc (by simp) _⟩
  case round =>
    obtain ⟨k, y0, y1, y2, y3, z0, z1, z2, z3, hk, rfl, hF, hG, hB⟩ := hrel
    have HB : Hid (Below w.heap.size w wr) := hB
    have HF : Hid (Four wr w.heap.size y0 y1 y2 y3) := hF
    have HG : Hid (Four wr (w.heap.size + 1) z0 z1 z2 z3) := hG
    clear hB
    obtain ⟨c0, c1, c2, c3, f0, f1, f2, f3⟩ := hF
    by_cases hlt : k ≤ hi
    · clear hG
      obtain hq | hq | hq | hq : (k : Int) / 64 = 0 ∨ (k : Int) / 64 = 1 ∨ (k : Int) / 64 = 2 ∨ (k : Int) / 64 = 3 := by omega
      all_goals
        have hr : 0 ≤ (k : Int) % 64 := by omega
        have hr2 : (k : Int) % 64 < 64 := by omega
        go_wp2
        go_region
        go_wp2
        go_roundw
        case rel => exact ⟨k + 1, _, _, _, _, _, _, _, _, by omega, by go_num, by first | exact HF.out.put0 _ | exact HF.out.put1 _ | exact HF.out.put2 _ | exact HF.out.put3 _, HG.out.far (by omega) _ _, (HB.out.setCell (Nat.le_refl _) _).drew⟩
        case measure => simp [intOf]; omega
    · obtain ⟨d0, d1, d2, d3, e0, e1, e2, e3⟩ := hG
      go_wp2
      exact bodyPost_ret (v := .agg #[.int .u64 y0, .int .u64 y1, .int .u64 y2, .int .u64 y3]) (by simp [results, Try.results124, go_sem, *]) rfl ⟨⟨_, _, _, _, rfl⟩, (((HB.out.setCell (by simp) _).setCell (by simp) _).setCell (by simp) _).setCell (by simp) _⟩
end Go.Proofs.Ytppjlpihaocdiaa

