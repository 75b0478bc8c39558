/- Several texts in one. -/
import Derived.Test.YtppjlpihaocdiaaSm3K
/- The program's reader of scripts against the document's walk: numbers and addresses. -/
set_option linter.unusedSimpArgs false
set_option linter.unusedVariables false
namespace Go.Proofs.Ytppjlpihaocdiaa
namespace Sm
open Sk (Sc srun sstep SFails swhole Lb escaping bump)
open Rs (RSt Lab nxt skip digits starters numF patF whereF addrF Wh wh0 noBytes)

theorem in_digits (c : Nat) : inB digits c = true ↔ 48 ≤ c ∧ c ≤ 57 := by simp [inB, digits]; omega
theorem in_starters (c : Nat) : inB starters c = true ↔ (48 ≤ c ∧ c ≤ 57) ∨ c = 36 ∨ c = 47 := by simp [inB, starters]; omega

/-- Nothing has turned but the place in an address. -/
structure Like (x y : Sc) : Prop where
  op : y.op = x.op
  part : y.part = x.part
  labels : y.labels = x.labels
  patAt : y.patAt = x.patAt
  patLen : y.patLen = x.patLen

/-- Behind a part of an address. -/
structure Spotted (s : ByteArray) (j : Nat) (y : Sc) : Prop where
  mode : y.mode = 1 ∨ y.mode = 2
  sep : j < s.size → sstep y (byt s j) j = Sk.afterSpot y (byt s j)

theorem sstep1 (x : Sc) (h : x.mode = 1) (c i : Nat) : sstep x c i = Sk.digit x c := by unfold sstep; simp [h]
theorem sstep2 (x : Sc) (h : x.mode = 2) (c i : Nat) : sstep x c i = Sk.afterSpot x c := by unfold sstep; simp [h]
theorem sstep3 (x : Sc) (h : x.mode = 3) (c i : Nat) : sstep x c i = Sk.spot x c i := by unfold sstep; simp [h]
theorem sstep45 (x : Sc) (h : x.mode = 4 ∨ x.mode = 5) (c i : Nat) : sstep x c i = Sk.addressed x c := by unfold sstep; rcases h with h | h <;> simp [h]
theorem swhole_mid {x : Sc} (h : x.mode = 1 ∨ x.mode = 2 ∨ x.mode = 3 ∨ x.mode = 4 ∨ x.mode = 5) : swhole x = false := by
  rcases h with h | h | h | h | h <;> simp [swhole, h]

theorem num_sim {s : ByteArray} {x : Sc} : ∀ (l i n cnt : Nat), srun s i = some { x with mode := 1, count := cnt, zero := if n = 0 then 0 else 1 } → cnt + l = 4 → i ≤ s.size → (l = 0 → 0 < n) →
    ((numF s l i n).2.2 = true ∧ i ≤ (numF s l i n).1 ∧ (numF s l i n).1 ≤ s.size ∧ ∃ y, srun s (numF s l i n).1 = some y ∧ Spotted s (numF s l i n).1 y ∧ Like x y) ∨ ((numF s l i n).2.2 = false ∧ SFails s (numF s l i n).1)
  | 0, i, n, cnt, h, hc, hi, hn => by
    have hn := hn rfl
    have h0 : ¬ n = 0 := by omega
    refine .inl ⟨by simpa [numF] using hn, Nat.le_refl _, hi, _, h, ⟨.inl rfl, fun hj => ?_⟩, ⟨rfl, rfl, rfl, rfl, rfl⟩⟩
    rw [sstep1 _ rfl]
    unfold Sk.digit
    simp only
    rw [if_neg (by omega), if_neg (by rw [if_neg h0]; omega)]
  | l + 1, i, n, cnt, h, hc, hi, hn => by
    unfold numF
    by_cases hd : nxt s digits i = true
    · rw [if_pos hd]
      obtain ⟨hlt, hb1, hb2⟩ := Rs.dig_nxt hd
      by_cases hz : l = 0 ∧ 10 * n + (byt s i - 48) = 0
      · rw [if_pos hz]
        refine .inr ⟨rfl, fails h hlt ?_⟩
        rw [sstep1 _ rfl]
        unfold Sk.digit
        simp only
        rw [if_pos (by omega), if_neg (by rw [if_pos (by omega), if_pos (by omega)]; omega)]
      · rw [if_neg hz]
        have hst : srun s (i + 1) = some { x with mode := 1, count := cnt + 1, zero := if 10 * n + (byt s i - 48) = 0 then 0 else 1 } := by
          refine next h ?_
          rw [sstep1 _ rfl]
          unfold Sk.digit
          simp only
          have e : (if byt s i = 48 then (if n = 0 then 0 else 1) else 1) = (if 10 * n + (byt s i - 48) = 0 then 0 else 1 : Nat) := by
            by_cases a : byt s i = 48
            · by_cases b : n = 0
              · rw [if_pos a, if_pos b, if_pos (by omega)]
              · rw [if_pos a, if_neg b, if_neg (by omega)]
            · rw [if_neg a, if_neg (by omega)]
          rw [e, if_pos (by omega), if_pos (by
            by_cases a : 10 * n + (byt s i - 48) = 0
            · left; omega
            · right; rw [if_neg a])]
        rcases num_sim l (i + 1) (10 * n + (byt s i - 48)) (cnt + 1) hst (by omega) (by omega) (fun e => by omega) with ⟨a, b, c⟩ | a
        · exact .inl ⟨a, by omega, c⟩
        · exact .inr a
    · rw [if_neg hd]
      have hnd : i < s.size → ¬ (48 ≤ byt s i ∧ byt s i ≤ 57) := fun hlt hh => hd (by simp [nxt, hlt]; exact (in_digits _).2 hh)
      by_cases h0 : n = 0
      · refine .inr ⟨by simp [h0], ?_⟩
        by_cases hlt : i < s.size
        · refine fails h hlt ?_
          rw [sstep1 _ rfl]
          unfold Sk.digit
          simp only
          rw [if_neg (fun hh => hnd hlt ⟨hh.1, hh.2.1⟩), if_pos (by rw [if_pos h0])]
        · exact ends h (by simp only; omega) (swhole_mid (.inl rfl))
      · refine .inl ⟨by simp; omega, Nat.le_refl _, hi, _, h, ⟨.inl rfl, fun hj => ?_⟩, ⟨rfl, rfl, rfl, rfl, rfl⟩⟩
        rw [sstep1 _ rfl]
        unfold Sk.digit
        simp only
        rw [if_neg (fun hh => hnd hj ⟨hh.1, hh.2.1⟩), if_neg (by rw [if_neg h0]; omega)]

/-- A half of an address. -/
theorem where_sim {s : ByteArray} {i : Nat} {x z : Sc} {lg : Int} {labs : List Lab} (h : srun s i = some x) (hi : i ≤ s.size) (hs : i < s.size → sstep x (byt s i) i = Sk.spot z (byt s i) i) (hw : i = s.size → swhole x = false) (hn : Nt z lg labs) :
    ((whereF s i lg).2.2.2 = true ∧ i < (whereF s i lg).1 ∧ (whereF s i lg).1 ≤ s.size ∧ ∃ y, srun s (whereF s i lg).1 = some y ∧ Spotted s (whereF s i lg).1 y ∧ y.op = z.op ∧ y.part = z.part ∧ Nt y (whereF s i lg).2.2.1 labs) ∨ ((whereF s i lg).2.2.2 = false ∧ SFails s (whereF s i lg).1) := by
  unfold whereF
  by_cases h36 : pk s i = 36
  · rw [if_pos h36]
    obtain ⟨hlt, hb⟩ := pk_is (c := 36) h36
    refine .inl ⟨rfl, Nat.lt_succ_self _, hlt, { z with mode := 2 }, ?_, ⟨.inr rfl, fun _ => sstep2 _ rfl _ _⟩, rfl, rfl, hn.of rfl rfl rfl⟩
    refine next h ?_
    rw [hs hlt, hb]
    rfl
  · rw [if_neg h36]
    by_cases h47 : pk s i = 47
    · rw [if_pos h47]
      obtain ⟨hlt, hb⟩ := pk_is (c := 47) h47
      have h1 : srun s (i + 1) = some (Sk.pattern { z with mode := 6 } (i + 1)) := by
        refine next h ?_
        rw [hs hlt, hb]
        rfl
      simp only
      rcases pat_sim lg h1 (.inl rfl) rfl rfl hlt with ⟨a1, a2, a3, a4, st, a5, a6⟩ | ⟨a1, a2⟩
      · refine .inl ⟨a1, by omega, a3, _, a6, ⟨.inr rfl, fun _ => sstep2 _ rfl _ _⟩, rfl, rfl, ?_⟩
        refine ⟨hn.labels, ?_⟩
        rw [a4]
        exact hn.long.more (i + 1) _
      · exact .inr ⟨a1, a2⟩
    · rw [if_neg h47]
      simp only
      by_cases hd : nxt s digits i = true
      · obtain ⟨hlt, hb1, hb2⟩ := Rs.dig_nxt hd
        have e : numF s 4 i 0 = numF s 3 (i + 1) (byt s i - 48) := by
          rw [numF, if_pos hd, if_neg (by omega)]
          simp
        rw [e]
        have h1 : srun s (i + 1) = some { z with mode := 1, count := 1, zero := if byt s i - 48 = 0 then 0 else 1 } := by
          refine next h ?_
          rw [hs hlt]
          unfold Sk.spot
          rw [if_pos ⟨hb1, hb2⟩]
          have e : (if byt s i = 48 then 0 else 1 : Nat) = if byt s i - 48 = 0 then 0 else 1 := by
            by_cases a : byt s i = 48
            · rw [if_pos a, if_pos (by omega)]
            · rw [if_neg a, if_neg (by omega)]
          rw [e]
        rcases num_sim 3 (i + 1) _ 1 h1 rfl hlt (fun e => by omega) with ⟨a, b, c, y, d, e, f⟩ | a
        · exact .inl ⟨a, by omega, c, y, d, e, f.op, f.part, hn.of f.labels f.patAt f.patLen⟩
        · exact .inr a
      · have e : numF s 4 i 0 = (i, 0, false) := by
          rw [numF, if_neg hd]
          rfl
        rw [e]
        refine .inr ⟨rfl, ?_⟩
        by_cases hlt : i < s.size
        · refine fails h hlt ?_
          rw [hs hlt]
          unfold Sk.spot
          rw [pk_in hlt] at h36 h47
          have hnd : ¬ (48 ≤ byt s i ∧ byt s i ≤ 57) := fun hh => hd (by simp [nxt, hlt]; exact (in_digits _).2 hh)
          rw [if_neg hnd, if_neg (by omega), if_neg (by omega)]
        · exact ends h (by simp only; omega) (hw (by omega))

/-- Behind an address. -/
structure Addressed (s : ByteArray) (j : Nat) (y : Sc) : Prop where
  mode : y.mode = 1 ∨ y.mode = 2 ∨ y.mode = 4
  sep : j < s.size → byt s j ≠ 32 ∧ sstep y (byt s j) j = Sk.addressed y (byt s j)

theorem to_addressed {s : ByteArray} {j : Nat} {y : Sc} {lg : Int} {labs : List Lab} (h : srun s j = some y) (hj : j ≤ s.size) (hp : Spotted s j y) (hc : y.part = 1 → pk s j ≠ 44) (hn : Nt y lg labs) :
    ∃ u, srun s (skip s Rs.blank j) = some u ∧ Addressed s (skip s Rs.blank j) u ∧ u.op = y.op ∧ Nt u lg labs := by
  have hns : j < s.size → sstep y (byt s j) j = Sk.addressed y (byt s j) := fun hlt => by
    rw [hp.sep hlt]
    unfold Sk.afterSpot
    rw [if_neg (fun hh => hc hh.2 (by rw [pk_in hlt, hh.1]; rfl))]
  cases hb : nxt s Rs.blank j with
  | false =>
    rw [skip_at hb]
    refine ⟨y, h, ⟨?_, fun hlt => ⟨fun e => ?_, hns hlt⟩⟩, rfl, hn⟩
    · rcases hp.mode with e | e
      · exact .inl e
      · exact .inr (.inl e)
    · have := (in_blank _).2 e
      simp [nxt, hlt, this] at hb
  | true =>
    have hlt := Rs.nxt_lt hb
    have h32 : byt s j = 32 := by simp [nxt] at hb; exact (in_blank _).1 hb.2
    have h1 : srun s (j + 1) = some { y with mode := 4 } := by
      refine next h ?_
      rw [hns hlt, h32]
      unfold Sk.addressed
      have := hp.mode
      rw [if_pos (by omega), if_neg (by omega)]
    have h2 : srun s (skip s Rs.blank j) = some { y with mode := 4 } := by
      rw [skip_step hb]
      refine skip_sim (fun c i hc => ?_) h1
      rw [sstep45 _ (.inl rfl), (in_blank c).1 hc]
      unfold Sk.addressed
      simp
    have hnt := skip_not s Rs.blank j
    generalize skip s Rs.blank j = J at h2 hnt
    refine ⟨_, h2, ⟨.inr (.inr rfl), fun hlt => ⟨fun e => ?_, sstep45 _ (.inl rfl) _ _⟩⟩, rfl, hn.of rfl rfl rfl⟩
    have := (in_blank _).2 e
    simp [nxt, hlt, this] at hnt

/-- An address. -/
theorem addr_sim {s : ByteArray} {i : Nat} {x : Sc} {lg : Int} {labs : List Lab} (h : srun s i = some x) (h0 : x.mode = 0) (hst : nxt s starters i = true) (hn : Nt x lg labs) :
    ((addrF s i lg).2.2.2.2 = true ∧ i < (addrF s i lg).1 ∧ (addrF s i lg).1 ≤ s.size ∧ ∃ y, srun s (addrF s i lg).1 = some y ∧ Addressed s (addrF s i lg).1 y ∧ y.op = x.op ∧ Nt y (addrF s i lg).2.2.2.1 labs) ∨ ((addrF s i lg).2.2.2.2 = false ∧ SFails s (addrF s i lg).1) := by
  unfold addrF
  rw [if_pos hst]
  have hlt := Rs.nxt_lt hst
  have hs : i < s.size → sstep x (byt s i) i = Sk.spot { x with part := 1 } (byt s i) i := fun _ => by
    rw [sstep0 x h0]
    have hb : inB starters (byt s i) = true := by simp [nxt] at hst; exact hst.2
    rw [in_starters] at hb
    unfold Sk.begin'
    rw [if_neg (by omega), if_neg (by omega), if_neg (by omega)]
    cases hsp : Sk.spot { x with part := 1 } (byt s i) i with
    | some y => rfl
    | none =>
      unfold Sk.spot at hsp
      split at hsp
      · cases hsp
      · split at hsp
        · cases hsp
        · split at hsp
          · cases hsp
          · omega
  have hw := where_sim (z := { x with part := 1 }) h (Nat.le_of_lt hlt) hs (fun e => by omega) (hn.of rfl rfl rfl)
  simp only
  generalize whereF s i lg = R at hw
  obtain ⟨j, w1, lg1, ok⟩ := R
  simp only at hw
  rcases hw with ⟨a1, a2, a3, y, a4, a5, a6, a7, a8⟩ | ⟨a1, a2⟩
  · subst a1
    simp only [if_true]
    by_cases h44 : pk s j = 44
    · rw [if_pos h44]
      obtain ⟨hjl, hjb⟩ := pk_is (c := 44) h44
      have h1 : srun s (j + 1) = some { y with mode := 3, part := 2 } := by
        refine next a4 ?_
        rw [a5.sep hjl, hjb]
        unfold Sk.afterSpot
        rw [if_pos ⟨rfl, a7⟩]
      have hw2 := where_sim (z := { y with mode := 3, part := 2 }) h1 hjl (fun _ => sstep3 _ rfl _ _) (fun _ => swhole_mid (.inr (.inr (.inl rfl)))) (a8.of rfl rfl rfl)
      generalize whereF s (j + 1) lg1 = R at hw2
      obtain ⟨j2, w2, lg2, ok2⟩ := R
      simp only at hw2
      rcases hw2 with ⟨b1, b2, b3, y2, b4, b5, b6, b7, b8⟩ | ⟨b1, b2⟩
      · subst b1
        simp only [if_true]
        obtain ⟨u, c1, c2, c3, c4⟩ := to_addressed b4 b3 b5 (fun e => by rw [b7] at e; simp at e) b8
        have := Rs.le_skip s Rs.blank j2 b3
        refine .inl ⟨trivial, by omega, Rs.skip_le s Rs.blank j2 b3, u, c1, c2, by rw [c3, b6]; exact a6, c4⟩
      · subst b1
        simp only [Bool.false_eq_true, if_false]
        exact .inr ⟨trivial, b2⟩
    · rw [if_neg h44]
      simp only
      obtain ⟨u, c1, c2, c3, c4⟩ := to_addressed a4 a3 a5 (fun _ => h44) a8
      have := Rs.le_skip s Rs.blank j a3
      exact .inl ⟨trivial, by omega, Rs.skip_le s Rs.blank j a3, u, c1, c2, by rw [c3, a6], c4⟩
  · subst a1
    simp only [Bool.false_eq_true, if_false]
    exact .inr ⟨trivial, a2⟩

end Sm
end Go.Proofs.Ytppjlpihaocdiaa

/- The program's reader of scripts against the document's walk: templates, flags, texts, labels. -/
set_option linter.unusedSimpArgs false
set_option linter.unusedVariables false
namespace Go.Proofs.Ytppjlpihaocdiaa
namespace Sm
open Sk (Sc srun sstep SFails swhole Lb)
open Rs (RSt Lab Pc nxt pieceF escPieceF plainF tempL tempF flagF eol eolF labF numerals pieceEscs grps)

theorem in_numerals (c : Nat) : inB numerals c = true ↔ 49 ≤ c ∧ c ≤ 57 := by simp [inB, numerals]; omega
theorem in_pieceEscs (c : Nat) : inB pieceEscs c = true ↔ c = 92 ∨ c = 47 ∨ c = 38 := by simp [inB, pieceEscs]; omega
theorem in_tempEscs (c : Nat) : inB Sk.tempEscs c = true ↔ c = 110 ∨ c = 92 ∨ c = 47 ∨ c = 38 := by simp [inB, Sk.tempEscs]; omega

theorem sstep1314 (x : Sc) (h : x.mode = 13 ∨ x.mode = 14) (c i : Nat) : sstep x c i = Sk.inTemplate x c := by unfold sstep; rcases h with h | h <;> simp [h]
theorem sstep15 (x : Sc) (h : x.mode = 15) (c i : Nat) : sstep x c i = Sk.flag x c := by unfold sstep; simp [h]
theorem sstep8 (x : Sc) (h : x.mode = 8) (c i : Nat) : sstep x c i = if c = 32 then some { x with mode := 9 } else none := by unfold sstep; simp [h]
theorem sstep9 (x : Sc) (h : x.mode = 9) (c i : Nat) : sstep x c i = some (if c = 10 then { x with mode := 0 } else x) := by unfold sstep; simp [h]
theorem sstep10 (x : Sc) (h : x.mode = 10) (c i : Nat) : sstep x c i = Sk.named x c i := by unfold sstep; simp [h]

theorem grps_le (t : ByteArray) : grps t ≤ 9 := by
  unfold grps
  split
  · rename_i st h; exact (small_run h).2.2.1
  · omega

/-- A piece of a template. -/
theorem piece_sim {s : ByteArray} {g i : Nat} {x : Sc} (h : srun s i = some x) (hm : x.mode = 13) (hg : x.pat.a = g) (h9 : g ≤ 9) (hi : i ≤ s.size) (h47 : pk s i ≠ 47) :
    ((pieceF s g i).2.2 = true ∧ srun s (pieceF s g i).1 = some x) ∨ ((pieceF s g i).2.2 = false ∧ SFails s (pieceF s g i).1) := by
  have hw : swhole x = false := by simp [swhole, hm]
  by_cases hlt : i < s.size
  · rw [pk_in hlt] at h47
    have hc : ∀ c, c = byt s i → sstep x c i = if c = 92 then some { x with mode := 14 } else if c = 10 then none else some x := fun c e => by
      rw [sstep1314 x (.inl hm)]
      unfold Sk.inTemplate
      rw [if_neg (by omega), if_neg (by omega)]
    have hc := hc _ rfl
    unfold pieceF
    rw [pk_in hlt]
    by_cases h38 : ((byt s i : Nat) : Int) = 38
    · rw [if_pos h38]
      refine .inl ⟨rfl, next h ?_⟩
      rw [hc, if_neg (by omega), if_neg (by omega)]
    · rw [if_neg h38]
      by_cases h92 : ((byt s i : Nat) : Int) = 92
      · rw [if_pos h92]
        have h1 : srun s (i + 1) = some { x with mode := 14 } := next h (by rw [hc, if_pos (by omega)])
        have hw1 : swhole { x with mode := 14 } = false := by simp [swhole]
        have hx : ({ { x with mode := 14 } with mode := 13 } : Sc) = x := by cases x; simp at hm; subst hm; rfl
        unfold escPieceF
        by_cases hl1 : i + 1 < s.size
        · have hc1 : sstep { x with mode := 14 } (byt s (i + 1)) (i + 1) = if inB Sk.tempEscs (byt s (i + 1)) = true ∨ (49 ≤ byt s (i + 1) ∧ byt s (i + 1) ≤ 57 ∧ byt s (i + 1) - 48 ≤ g) then some x else none := by
            rw [sstep1314 _ (.inr rfl)]
            unfold Sk.inTemplate
            simp only
            rw [if_pos trivial, hg, hx]
          simp only [pk_in hl1]
          simp only [in_tempEscs] at hc1
          by_cases a : 49 ≤ ((byt s (i + 1) : Nat) : Int) ∧ ((byt s (i + 1) : Nat) : Int) ≤ 48 + (g : Int)
          · rw [if_pos a]
            exact .inl ⟨rfl, next h1 (by rw [hc1, if_pos (by omega)])⟩
          · rw [if_neg a]
            by_cases b : ((byt s (i + 1) : Nat) : Int) = 110
            · rw [if_pos b]
              exact .inl ⟨rfl, next h1 (by rw [hc1, if_pos (by omega)])⟩
            · rw [if_neg b]
              by_cases d : nxt s pieceEscs (i + 1) = true
              · rw [if_pos d]
                have : inB pieceEscs (byt s (i + 1)) = true := by simp [nxt] at d; exact d.2
                rw [in_pieceEscs] at this
                exact .inl ⟨rfl, next h1 (by rw [hc1, if_pos (by omega)])⟩
              · rw [if_neg d]
                have : ¬ (byt s (i + 1) = 92 ∨ byt s (i + 1) = 47 ∨ byt s (i + 1) = 38) := fun e => d (by simp [nxt, hl1]; exact (in_pieceEscs _).2 e)
                exact .inr ⟨rfl, fails h1 hl1 (by rw [hc1, if_neg (by omega)])⟩
        · have hn : nxt s pieceEscs (i + 1) = false := by simp [nxt, hl1]
          rw [pk_out hl1, if_neg (by omega), if_neg (by omega), hn, if_neg (by simp)]
          exact .inr ⟨rfl, ends h1 (by simp only; omega) hw1⟩
      · rw [if_neg h92]
        unfold plainF
        rw [pk_in hlt]
        by_cases e : ((byt s i : Nat) : Int) = -1 ∨ ((byt s i : Nat) : Int) = 10
        · rw [if_pos e]
          exact .inr ⟨rfl, fails h hlt (by rw [hc, if_neg (by omega), if_pos (by omega)])⟩
        · rw [if_neg e]
          exact .inl ⟨rfl, next h (by rw [hc, if_neg (by omega), if_neg (by omega)])⟩
  · unfold pieceF plainF
    rw [pk_out hlt, if_neg (by omega), if_neg (by omega), if_pos (.inl rfl)]
    exact .inr ⟨rfl, ends h (by simp only; omega) hw⟩

/-- A template and the slash behind it. -/
theorem temp_sim {s : ByteArray} {g : Nat} {x : Sc} (hm : x.mode = 13) (hg : x.pat.a = g) (h9 : g ≤ 9) : ∀ (f i : Nat) (ps : List Pc), srun s i = some x → i ≤ s.size → s.size < f + i →
    ((tempL s g f i ps).2.2 = true ∧ srun s (tempL s g f i ps).1 = some { x with mode := 15, all := false, print := false, numbers := false }) ∨ ((tempL s g f i ps).2.2 = false ∧ SFails s (tempL s g f i ps).1)
  | 0, i, ps, h, hi, hf => by omega
  | f + 1, i, ps, h, hi, hf => by
    unfold tempL
    by_cases h47 : pk s i = 47
    · rw [if_pos h47]
      obtain ⟨hlt, hb⟩ := pk_is (c := 47) h47
      refine .inl ⟨rfl, next h ?_⟩
      rw [hb, sstep1314 x (.inl hm)]
      unfold Sk.inTemplate
      rw [if_neg (by omega), if_pos rfl]
    · rw [if_neg h47]
      have hp := piece_sim h hm hg h9 hi h47
      have hle := Rs.pieceF_le s g i hi
      have hlt := Rs.pieceF_lt s g i hi
      rcases hp with ⟨a, b⟩ | ⟨a, b⟩
      · rw [if_pos a]
        have := hlt a
        exact temp_sim hm hg h9 f _ _ b hle.1 (by omega)
      · rw [if_neg (by rw [a]; simp)]
        exact .inr ⟨rfl, b⟩

/-- Flags. -/
theorem flag_sim {s : ByteArray} {x : Sc} (hm : x.mode = 15) : ∀ (f i : Nat) (a p : Bool) (n : Nat), srun s i = some { x with all := a, print := p, numbers := decide (n ≠ 0) } → i ≤ s.size → (if a = true then 0 else 1) + (if p = true then 0 else 1) + (if n = 0 then 1 else 0) < f →
    (flagF s f i a p n).1 ≤ s.size ∧ ∃ y, srun s (flagF s f i a p n).1 = some y ∧ Aft s (flagF s f i a p n).1 y ∧ Like x y
  | 0, i, a, p, n, h, hi, hf => by omega
  | f + 1, i, a, p, n, h, hi, hf => by
    have hs : ∀ c, sstep { x with all := a, print := p, numbers := decide (n ≠ 0) } c i = Sk.flag { x with all := a, print := p, numbers := decide (n ≠ 0) } c := fun c => sstep15 { x with all := a, print := p, numbers := decide (n ≠ 0) } hm c i
    unfold flagF
    by_cases h1 : a = false ∧ pk s i = 103
    · rw [if_pos h1]
      obtain ⟨rfl, h1⟩ := h1
      obtain ⟨hlt, hb⟩ := pk_is (c := 103) h1
      refine flag_sim hm f (i + 1) true p n (next h ?_) hlt (by simp at hf ⊢; omega)
      rw [hs, hb]
      unfold Sk.flag
      rw [if_pos ⟨rfl, rfl⟩]
    · rw [if_neg h1]
      by_cases h2 : p = false ∧ pk s i = 112
      · rw [if_pos h2]
        obtain ⟨rfl, h2⟩ := h2
        obtain ⟨hlt, hb⟩ := pk_is (c := 112) h2
        refine flag_sim hm f (i + 1) a true n (next h ?_) hlt (by simp at hf ⊢; omega)
        rw [hs, hb]
        unfold Sk.flag
        rw [if_neg (by omega), if_pos ⟨rfl, rfl⟩]
      · rw [if_neg h2]
        by_cases h3 : n = 0 ∧ nxt s numerals i = true
        · rw [if_pos h3]
          obtain ⟨rfl, h3⟩ := h3
          have hlt := Rs.nxt_lt h3
          have hb : inB numerals (byt s i) = true := by simp [nxt] at h3; exact h3.2
          rw [in_numerals] at hb
          have hne : byt s i - 48 ≠ 0 := by omega
          refine flag_sim hm f (i + 1) a p (byt s i - 48) (next h ?_) hlt (by rw [if_neg hne]; simp at hf ⊢; omega)
          rw [hs]
          unfold Sk.flag
          rw [if_neg (by omega), if_neg (by omega), if_pos ⟨hb.1, hb.2, by simp⟩]
          simp [hne]
        · rw [if_neg h3]
          refine ⟨hi, _, h, ⟨fun hlt => ?_, ?_⟩, ⟨rfl, rfl, rfl, rfl, rfl⟩⟩
          · simp only at hlt ⊢
            rw [hs]
            rw [pk_in hlt] at h1 h2
            unfold Sk.flag
            rw [if_neg (fun e => h1 ⟨e.2, by omega⟩), if_neg (fun e => h2 ⟨e.2, by omega⟩), if_neg (fun e => h3 ⟨by have := e.2.2; simp at this; exact this, by simp [nxt, hlt]; exact (in_numerals _).2 ⟨e.1, e.2.1⟩⟩)]
          · simp [swhole, hm]

/-- A text to the end of its line. -/
theorem eol_sim {s : ByteArray} {x : Sc} (hm : x.mode = 9) : ∀ (f i : Nat), srun s i = some x → i ≤ s.size → s.size ≤ f + i → srun s (eolF s f i) = some x ∧ i ≤ eolF s f i ∧ eolF s f i ≤ s.size ∧ (eolF s f i < s.size → byt s (eolF s f i) = 10)
  | 0, i, h, hi, hf => ⟨h, Nat.le_refl _, hi, fun e => by simp only [eolF] at e; omega⟩
  | f + 1, i, h, hi, hf => by
    unfold eolF
    by_cases hc : i < s.size ∧ byt s i ≠ 10
    · rw [if_pos hc]
      have h1 : srun s (i + 1) = some x := next h (by rw [sstep9 x hm, if_neg hc.2])
      obtain ⟨a, b, c⟩ := eol_sim hm f (i + 1) h1 hc.1 (by omega)
      exact ⟨a, by omega, c⟩
    · rw [if_neg hc]
      exact ⟨h, Nat.le_refl _, hi, fun e => by
        by_cases h10 : byt s i = 10
        · exact h10
        · exact absurd ⟨e, h10⟩ hc⟩

theorem aft9 {s : ByteArray} {j : Nat} {x : Sc} (h : x.mode = 9) (h10 : j < s.size → byt s j = 10) : Aft s j x := ⟨fun hj => by
  rw [sstep9 x h, h10 hj, if_pos rfl]
  rfl, by simp [swhole, h]⟩

theorem nms_succ (s : ByteArray) (i0 i : Nat) (h0 : i0 ≤ i) (h : i < s.size) : nms (s.extract i0 (i + 1)) = nms (s.extract i0 i) ++ [byt s i] := by
  have hd : i < s.data.size := h
  unfold nms
  rw [ByteArray.data_extract, ByteArray.data_extract, Array.extract_succ_right (by omega) hd]
  have hb : byt s i = (s.data[i]).toNat := by
    unfold byt
    rw [List.getD_eq_getElem?_getD, Array.getElem?_toList, Array.getElem?_eq_getElem hd]
    rfl
  rw [hb, Array.toList_push, List.map_append]
  rfl

theorem nms_nil (s : ByteArray) (i : Nat) : nms (s.extract i i) = [] := by
  unfold nms
  rw [ByteArray.data_extract]
  simp

theorem lab_loop {s : ByteArray} {x : Sc} {i0 : Nat} (hm : x.mode = 10) : ∀ (f i : Nat), i0 ≤ i → i ≤ s.size → (i - i0) + f = 8 →
    srun s i = some { x with count := i - i0, labels := x.labels ++ (if i = i0 then [] else [⟨nms (s.extract i0 i), i0, x.goal⟩]) } →
    srun s (labF s f i) = some { x with count := labF s f i - i0, labels := x.labels ++ (if labF s f i = i0 then [] else [⟨nms (s.extract i0 (labF s f i)), i0, x.goal⟩]) } ∧ (labF s f i < s.size → ¬ (97 ≤ byt s (labF s f i) ∧ byt s (labF s f i) ≤ 122) ∨ labF s f i - i0 = 8)
  | 0, i, h0, hi, hf, h => ⟨h, fun _ => .inr (by simp only [labF]; omega)⟩
  | f + 1, i, h0, hi, hf, h => by
    unfold labF
    by_cases hc : 97 ≤ pk s i ∧ pk s i ≤ 122
    · rw [if_pos hc]
      obtain ⟨hlt, hb⟩ := Rs.pk_byte (s := s) (i := i) (by omega)
      rw [hb] at hc
      refine lab_loop hm f (i + 1) (by omega) hlt (by omega) (next h ?_)
      rw [sstep10]
      rotate_left
      · exact hm
      unfold Sk.named
      simp only
      rw [if_pos (by omega), if_neg (by omega : ¬ i + 1 = i0), nms_succ s i0 i h0 hlt, show i + 1 - i0 = i - i0 + 1 by omega]
      by_cases e : i = i0
      · subst e
        rw [if_pos (Nat.sub_self _), if_pos rfl, nms_nil, List.append_nil]
        unfold Sk.addLetter
        simp
      · rw [if_neg (by omega : ¬ i - i0 = 0), if_neg e]
        unfold Sk.addLetter
        simp
    · rw [if_neg hc]
      refine ⟨h, fun hlt => .inl ?_⟩
      rw [pk_in hlt] at hc
      omega

theorem labOf_snoc (l : List Lab) (x : Lab) : labOf (l ++ [x]) = labOf l ++ (if x.name.size = 0 then [] else [⟨nms x.name, x.at', !x.want⟩]) := by
  unfold labOf
  rw [List.filter_append, List.map_append]
  congr 1
  by_cases h : x.name.size = 0
  · rw [if_pos h, List.filter_cons_of_neg (by simp only [decide_eq_true_eq]; exact fun hh => hh h)]
    rfl
  · rw [if_neg h, List.filter_cons_of_pos (by simp only [decide_eq_true_eq]; exact h)]
    rfl

/-- A label. -/
theorem label_sim {s : ByteArray} {x : Sc} {i : Nat} {lg : Int} {labs : List Lab} (k : Nat) (want : Bool) (h : srun s i = some x) (hm : x.mode = 10) (hc : x.count = 0) (hg : x.goal = !want) (hi : i ≤ s.size) (hn : Nt x lg labs) :
    ∃ y, srun s (labF s 8 i) = some y ∧ y.op = x.op ∧ Nt y lg (labs ++ [⟨s.extract i (labF s 8 i), i, k, want⟩]) ∧ (x.least ≤ labF s 8 i - i → Aft s (labF s 8 i) y) ∧ (labF s 8 i - i < x.least → SFails s (labF s 8 i)) := by
  obtain ⟨hle, hge⟩ := Rs.labF_le s 8 i hi
  obtain ⟨h1, h2⟩ := lab_loop (i0 := i) hm 8 i (Nat.le_refl _) hi (by omega) (by
    rw [if_pos rfl, List.append_nil, Nat.sub_self, h]
    cases x; simp at hc; subst hc; rfl)
  have hsz : (s.extract i (labF s 8 i)).size = labF s 8 i - i := by rw [ByteArray.size_extract]; omega
  generalize labF s 8 i = e at h1 h2 hle hge hsz
  have hst : e < s.size → sstep { x with count := e - i, labels := x.labels ++ (if e = i then [] else [⟨nms (s.extract i e), i, x.goal⟩]) } (byt s e) e = if e - i < x.least then none else Sk.separates { x with count := e - i, labels := x.labels ++ (if e = i then [] else [⟨nms (s.extract i e), i, x.goal⟩]) } (byt s e) := fun hlt => by
    rw [sstep10]
    rotate_left
    · exact hm
    unfold Sk.named
    simp only
    rw [if_neg (by have := h2 hlt; omega)]
  refine ⟨_, h1, rfl, ⟨?_, hn.long⟩, fun hl => ⟨fun hlt => ?_, ?_⟩, fun hl => ?_⟩
  · rw [labOf_snoc]
    simp only
    rw [hsz, hn.labels, hg]
    congr 1
    by_cases ee : e = i
    · rw [if_pos ee, if_pos (by omega)]
    · rw [if_neg ee, if_neg (by omega)]
  · rw [hst hlt, if_neg (by omega)]
  · simp [swhole, hm]
    intro _
    omega
  · by_cases hlt : e < s.size
    · exact fails h1 hlt (by rw [hst hlt, if_pos hl])
    · refine ends h1 (by omega) ?_
      simp [swhole, hm]
      intro _
      omega

end Sm
end Go.Proofs.Ytppjlpihaocdiaa

