/- The program's reader of scripts: the rows of y. -/
import Derived.Test.YtppjlpihaocdiaaPrKK
import Derived.Laws.IdiomStrings
set_option linter.unusedSimpArgs false
set_option linter.unusedVariables false
namespace Go.Proofs.Ytppjlpihaocdiaa
namespace Rs
open Go.RowKit

set_option maxHeartbeats 1600000 in
theorem rowByte_any (b : Nat) (s : ByteArray) (i base : Nat) (v : Value) (l : List Nat) (w : World) (hr : Rc w b s i) (hbb : b < base) (hown : w.ownsRow base 5 1 v l.length (u8L l)) (hl : ∀ x ∈ l, x < 256) :
    Calls Try.prog 134 #[.pointer (some ⟨b, 0, none⟩), v] w fun e w' => e = .returned (.tuple #[.int .u8 ((rowByteF s l i).2.1 : Int), .bool (rowByteF s l i).2.2]) ∧ Mk b w w' (rowByteF s l i).1 := by
  have HR : Hid (Rc w b s i) := hr
  have hb : b < w.heap.size := Rc.lt hr
  have hle := hr.le
  have hs := hr.s40
  have HO : Hid (w.ownsRow base 5 1 v l.length (u8L l)) := hown
  have HL : Hid (∀ x ∈ l, x < 256) := hl
  clear hr hown hl
  by_cases h92 : pk s i = 92
  · have HI : Hid (pk s i = 92) := h92
    clear h92
    generalize hG : rowByteF s l i = G
    have HG : Hid (rowByteF s l i = G) := hG
    clear hG
    obtain ⟨j, c, ok⟩ := G
    go_enter Try.func134, Try.ntmps134
    go_wp2_with fail
    refine (peek_any b s i _ HR.out).mono ?_
    rw [HI.out]
    rintro e w1 ⟨rfl, n1, rfl⟩
    go_wp2_with fail
    refine (escRow_any b s i base v l _ (HR.out.drewN n1) HI.out hbb HO.out HL.out).mono ?_
    rw [HG.out]
    rintro e w2 ⟨rfl, hm⟩
    have HM : Hid (Mk b w w2 j) := ((Mk.stay HR.out).drewN n1).trans hm
    clear hm
    simp only
    go_wp2_with fail
    go_ret2
    exact ⟨rfl, HM.out⟩
  · have HF : Hid (rowByteF s l i = if pk s i = -1 ∨ nxt s rowEnds i = true ∨ l.contains (byt s i) = true then (i, 0, false) else (i + 1, byt s i, true)) := by rw [Hid, rowByteF, if_neg h92]
    generalize hG : rowByteF s l i = G at HF
    clear hG
    by_cases h1 : pk s i = -1
    · have HI : Hid (pk s i = -1) := h1
      have HG : Hid (G = (i, 0, false)) := by rw [Hid, HF.out, if_pos (.inl h1)]
      clear h1 h92 HF
      go_enter Try.func134, Try.ntmps134
      go_wp2_with fail
      refine (peek_any b s i _ HR.out).mono ?_
      rw [HI.out]
      rintro e w1 ⟨rfl, n1, rfl⟩
      go_wp2_with fail
      go_ret2
      rw [HG.out]
      exact ⟨rfl, (Mk.stay HR.out).drewN n1⟩
    · obtain ⟨hlt, hp⟩ := pk_byte h1
      have hy := byt_lt s i
      generalize byt s i = y at hp hy HF
      have HI : Hid (pk s i = (y : Int)) := hp
      have q1 : ((y : Int) == -1) = false := beq_false_of_ne (by omega)
      have q2 : ((y : Int) == 92) = false := beq_false_of_ne (by rw [← hp]; exact h92)
      have k255 : (y : Int) ≤ 255 := by omega
      obtain ⟨r0, r1, rf, _, _⟩ := HR.out
      rcases bool_or (nxt s rowEnds i) with hn | hn
      · have HN : Hid (nxt s rowEnds i = true) := hn
        have HG : Hid (G = (i, 0, false)) := by rw [Hid, HF.out, if_pos (.inr (.inl hn))]
        clear h1 h92 HF hn hp
        go_enter Try.func134, Try.ntmps134
        go_wp2_with fail
        refine (peek_any b s i _ HR.out).mono ?_
        rw [HI.out]
        rintro e w1 ⟨rfl, n1, rfl⟩
        go_wp2_with fail
        refine (nextIsIn_any b s rowEnds i _ (HR.out.drewN n1)).mono ?_
        rw [HN.out]
        rintro e w2 ⟨rfl, n2, rfl⟩
        go_wp2_with fail
        go_ret2
        rw [HG.out]
        exact ⟨rfl, (Mk.stay HR.out).drewN _⟩
      · have HN : Hid (nxt s rowEnds i = false) := hn
        go_enter Try.func134, Try.ntmps134
        go_wp2_with fail
        refine (peek_any b s i _ HR.out).mono ?_
        rw [HI.out]
        rintro e w1 ⟨rfl, n1, rfl⟩
        go_wp2_with fail
        refine (nextIsIn_any b s rowEnds i _ (HR.out.drewN n1)).mono ?_
        rw [HN.out]
        rintro e w2 ⟨rfl, n2, rfl⟩
        go_wp2_with fail
        refine (bIndex_any base v l y (w.drewN (n1 + n2)) HO.out HL.out hy).mono ?_
        rintro e w4 ⟨x, rfl, hx, hw4⟩
        subst hw4
        rcases hx with ⟨hx1, hx2⟩ | ⟨hx1, hx2⟩
        · have HG : Hid (G = (i, 0, false)) := by rw [Hid, HF.out, if_pos (.inr (.inr hx1))]
          clear HF
          go_wp2_with fail
          go_ret2
          rw [HG.out]
          exact ⟨rfl, (Mk.stay HR.out).drewN _⟩
        · have HG : Hid (G = (i + 1, y, true)) := by rw [Hid, HF.out, if_neg (by rw [hn, hx1]; simp; exact h1)]
          clear HF
          go_wp2_with fail
          go_ret2
          rw [HG.out]
          exact ⟨rfl, ((Mk.stay HR.out).drewN _).set (i + 1) (by omega)⟩

theorem rowByteF_le (s : ByteArray) (l : List Nat) (i : Nat) (h : i ≤ s.size) : (rowByteF s l i).1 ≤ s.size ∧ i ≤ (rowByteF s l i).1 ∧ (rowByteF s l i).2.1 < 256 ∧ ((rowByteF s l i).2.2 = true → i < (rowByteF s l i).1) := by
  unfold rowByteF
  split
  · rename_i h1
    obtain ⟨h2, _⟩ := pk_byte (s := s) (i := i) (by rw [h1]; decide)
    split
    · simp; omega
    · split
      · rename_i h3
        obtain ⟨h4, h5⟩ := resc_nxt h3
        split
        · simp; omega
        · have : val (byt s (i + 1)) < 256 := by unfold val; split <;> omega
          simp; omega
      · simp; omega
  · split
    · simp; omega
    · rename_i h1
      obtain ⟨h2, _⟩ := pk_byte (s := s) (i := i) (fun e => h1 (.inl e))
      have := byt_lt s i
      simp; omega

end Rs
end Go.Proofs.Ytppjlpihaocdiaa
