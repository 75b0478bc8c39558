/- Several texts in one. -/
import Derived.Test.YtppjlpihaocdiaaPrBK
import Derived.Test.YtppjlpihaocdiaaTabCK
import Derived.Test.YtppjlpihaocdiaaTrAddK
/- The program's reader of scripts: pieces of a template. -/
set_option linter.unusedSimpArgs false
set_option linter.unusedVariables false
namespace Go.Proofs.Ytppjlpihaocdiaa
namespace Rs
open Go.RowKit

/-- Nothing old has turned but the reader's place. -/
structure Mk (b : Nat) (w w' : World) (j : Nat) : Prop where
  os : w'.os = w.os
  tape : w'.tape = w.tape
  output : w'.output = w.output
  size : w.heap.size ≤ w'.heap.size
  block : ∀ k, k < w.heap.size → k ≠ b → w'.heap[k]? = w.heap[k]?
  c1 : w'.cell? ⟨b, 1, none⟩ = some (.int .i64 j)
  cell : ∀ k, k ≠ 1 → w'.cell? ⟨b, k, none⟩ = w.cell? ⟨b, k, none⟩
  frz : ∀ k, w'.frozen? ⟨b, k, none⟩ = w.frozen? ⟨b, k, none⟩

theorem Mk.mv {b j : Nat} {w w' : World} (h : Mv b w w' j) : Mk b w w' j :=
  ⟨h.only.os, h.only.tape, h.only.output, by rw [h.only.size]; exact Nat.le_refl _, fun k _ hb => h.only.block k hb, h.c1, h.cell, h.frz⟩
theorem Mk.trans {b i j : Nat} {u v w : World} (h : Mk b u v i) (k : Mk b v w j) : Mk b u w j :=
  ⟨k.os.trans h.os, k.tape.trans h.tape, k.output.trans h.output, Nat.le_trans h.size k.size, fun i hi hb => (k.block i (Nat.lt_of_lt_of_le hi h.size) hb).trans (h.block i hi hb), k.c1, fun i h1 => (k.cell i h1).trans (h.cell i h1), fun i => (k.frz i).trans (h.frz i)⟩
theorem Mk.below {b i : Nat} {u w w' : World} (h : Mk b u w i) (hB : Below w.heap.size w w') : Mk b u w' i := by
  have hb : b < w.heap.size := World.block_lt_of_cell? w _ h.c1
  exact ⟨hB.os.trans h.os, hB.tape.trans h.tape, hB.output.trans h.output, Nat.le_trans h.size hB.size, fun k hk hne => (hB.block k (Nat.lt_of_lt_of_le hk h.size)).trans (h.block k hk hne), (hB.cell (p := ⟨b, 1, none⟩) hb).trans h.c1, fun k hk => (hB.cell (p := ⟨b, k, none⟩) hb).trans (h.cell k hk), fun k => (hB.frozen (p := ⟨b, k, none⟩) hb).trans (h.frz k)⟩
theorem Mk.alloc {b i : Nat} {u w : World} (h : Mk b u w i) (o : Obj) : Mk b u (w.alloc o) i := h.below ((Below.refl _ _).alloc (Nat.le_refl _) o)
theorem Mk.drewN {b j : Nat} {u w : World} (h : Mk b u w j) (n : Nat) : Mk b u (w.drewN n) j := ⟨h.os, h.tape, h.output, h.size, h.block, h.c1, h.cell, h.frz⟩
theorem Mk.setNew {b j B k : Nat} {u w : World} (h : Mk b u w j) (hB : u.heap.size ≤ B) (hb : b < u.heap.size) (v : Value) : Mk b u (w.setCell ⟨B, k, none⟩ v) j := by
  have hne : b ≠ B := by omega
  have hc : ∀ o, (w.setCell ⟨B, k, none⟩ v).cell? ⟨b, o, none⟩ = w.cell? ⟨b, o, none⟩ := fun o => World.cell?_setCell_other (h := fun e => hne (by injection e with e _ _; exact e.symm)) ..
  exact ⟨h.os, h.tape, h.output, by rw [size_set]; exact h.size, fun i hi hb' => by rw [Below.heap_setCell _ _ _ _ (by simp only; omega)]; exact h.block i hi hb', (hc 1).trans h.c1, fun i h1 => (hc i).trans (h.cell i h1), fun i => by rw [World.frozen?_setCell]; exact h.frz i⟩
theorem Mk.stay {b i : Nat} {w : World} {s : ByteArray} (h : Rc w b s i) : Mk b w w i := .mv h.stay
theorem Mk.set {b i : Nat} {u w : World} (h : Mk b u w i) {v : Int} (j : Nat) (hv : v = j) : Mk b u (w.setCell ⟨b, 1, none⟩ (.int .i64 v)) j := h.trans (.mv (.put h.c1 j hv))
theorem Mk.rc {w w' : World} {b : Nat} {s : ByteArray} {i j : Nat} (h : Mk b w w' j) (hr : Rc w b s i) (hj : j ≤ s.size) : Rc w' b s j :=
  ⟨by rw [h.cell 0 (by omega)]; exact hr.c0, h.c1, by rw [h.frz]; exact hr.f1, hj, hr.s40⟩
theorem Rc.lt {w : World} {b : Nat} {s : ByteArray} {i : Nat} (h : Rc w b s i) : b < w.heap.size := World.block_lt_of_cell? w _ h.c0
theorem Rc.below {w w' : World} {b : Nat} {s : ByteArray} {i : Nat} (h : Rc w b s i) (hB : Below w.heap.size w w') : Rc w' b s i := ((Mk.stay h).below hB).rc h h.le
theorem Rc.alloc {w : World} {b : Nat} {s : ByteArray} {i : Nat} (h : Rc w b s i) (o : Obj) : Rc (w.alloc o) b s i := Rc.below h ((Below.refl _ _).alloc (Nat.le_refl _) o)

theorem pk_byte {s : ByteArray} {i : Nat} (h : pk s i ≠ -1) : i < s.size ∧ pk s i = (byt s i : Int) := by
  by_cases hi : i < s.size
  · exact ⟨hi, pk_in hi⟩
  · exact absurd (pk_out hi) h

set_option maxHeartbeats 400000 in
theorem plain_any (b : Nat) (s : ByteArray) (i : Nat) (w : World) (hr : Rc w b s i) :
    Calls Try.prog 148 #[.pointer (some ⟨b, 0, none⟩)] w fun e w' => e = .returned (.tuple #[.agg #[.int .i64 (plainF s i).2.1.grp, .int .u8 ((plainF s i).2.1.byte : Nat)], .bool (plainF s i).2.2]) ∧ Mk b w w' (plainF s i).1 := by
  have HR : Hid (Rc w b s i) := hr
  have hb : b < w.heap.size := Rc.lt hr
  clear hr
  have HRA : Hid (∀ o, Rc (w.alloc o) b s i) := fun o => Rc.alloc HR.out o
  by_cases h1 : pk s i = -1
  · have HP : Hid (plainF s i = (i, ⟨0, 0⟩, false)) := by simp [Hid, plainF, h1]
    have HI : Hid (pk s i = -1) := h1
    clear h1
    go_enter Try.func148, Try.ntmps148
    go_wp2_with (go_at_call 64; refine (peek_any b s i _ (HRA.out _)).mono ?_; rw [HI.out]; rintro e w' ⟨rfl, n, rfl⟩)
    rw [HP.out]
    exact bodyPost_ret (v := .tuple #[.agg #[.int .i64 0, .int .u8 0], .bool false]) (by simp [results, Try.results148, go_sem, *]) rfl ⟨rfl, by first | exact ((((Mk.stay HR.out).alloc _).drewN _).setNew (Nat.le_refl _) hb _).setNew (Nat.le_refl _) hb _ | exact (((Mk.stay HR.out).alloc _).drewN _)⟩
  · obtain ⟨hlt, hp⟩ := pk_byte h1
    have hy := byt_lt s i
    generalize hye : byt s i = y at hp hy
    by_cases h10 : y = 10
    · subst h10
      have HP : Hid (plainF s i = (i, ⟨0, 0⟩, false)) := by simp [Hid, plainF, hp]
      have HI : Hid (pk s i = 10) := hp
      clear h1 hp hye
      go_enter Try.func148, Try.ntmps148
      go_wp2_with (go_at_call 64; refine (peek_any b s i _ (HRA.out _)).mono ?_; rw [HI.out]; rintro e w' ⟨rfl, n, rfl⟩)
      rw [HP.out]
      exact bodyPost_ret (v := .tuple #[.agg #[.int .i64 0, .int .u8 0], .bool false]) (by simp [results, Try.results148, go_sem, *]) rfl ⟨rfl, by first | exact ((((Mk.stay HR.out).alloc _).drewN _).setNew (Nat.le_refl _) hb _).setNew (Nat.le_refl _) hb _ | exact (((Mk.stay HR.out).alloc _).drewN _)⟩
    · have HP : Hid (plainF s i = (i + 1, ⟨-1, y⟩, true)) := by
        have : ¬ ((y : Int) = 10) := by omega
        have h3 : ¬ ((y : Int) = -1) := by omega
        simp [Hid, plainF, hp, hye, this, h3]
      have HI : Hid (pk s i = (y : Int)) := hp
      have q1 : ((y : Int) == -1) = false := beq_false_of_ne (by omega)
      have q2 : ((y : Int) == 10) = false := beq_false_of_ne (by omega)
      have k255 : (y : Int) ≤ 255 := by omega
      obtain ⟨ht, ha, hf, hle, hs⟩ := HR.out
      clear h1 hp hye
      go_enter Try.func148, Try.ntmps148
      go_wp2_with (go_at_call 64; refine (peek_any b s i _ (HRA.out _)).mono ?_; rw [HI.out]; rintro e w' ⟨rfl, n, rfl⟩)
      rw [HP.out]
      exact bodyPost_ret (v := .tuple #[.agg #[.int .i64 (-1), .int .u8 (y : Int)], .bool true]) (by simp [results, Try.results148, go_sem, *]) rfl ⟨rfl, (((((Mk.stay HR.out).alloc _).drewN _).set (i + 1) (by omega)).setNew (Nat.le_refl _) hb _).setNew (Nat.le_refl _) hb _⟩

end Rs
end Go.Proofs.Ytppjlpihaocdiaa

/- The program's reader of scripts: escaped pieces, pieces. -/
set_option linter.unusedSimpArgs false
set_option linter.unusedVariables false
namespace Go.Proofs.Ytppjlpihaocdiaa
namespace Rs
open Go.RowKit

def pcV (p : Pc) : Value := .agg #[.int .i64 p.grp, .int .u8 (p.byte : Nat)]

set_option maxHeartbeats 1000000 in
theorem escPiece_any (b : Nat) (s : ByteArray) (g i : Nat) (w : World) (hr : Rc w b s i) (hg : g ≤ 9) :
    Calls Try.prog 147 #[.pointer (some ⟨b, 0, none⟩), .int .i64 (g : Int)] w fun e w' => e = .returned (.tuple #[.agg #[.int .i64 (escPieceF s g i).2.1.grp, .int .u8 ((escPieceF s g i).2.1.byte : Nat)], .bool (escPieceF s g i).2.2]) ∧ Mk b w w' (escPieceF s g i).1 := by
  have HR : Hid (Rc w b s i) := hr
  have hb : b < w.heap.size := Rc.lt hr
  have hle := hr.le
  have hs := hr.s40
  clear hr
  have HRA : Hid (∀ o, Rc (w.alloc o) b s i) := fun o => Rc.alloc HR.out o
  have HRN : Hid (∀ {u : World}, Mk b w u i → Rc u b s i) := fun h => h.rc HR.out HR.out.le
  by_cases h1 : pk s i = -1
  · have hn : nxt s pieceEscs i = false := by
      have : ¬ i < s.size := fun h => by rw [pk_in h] at h1; omega
      simp [nxt, this]
    have HP : Hid (escPieceF s g i = (i, ⟨0, 0⟩, false)) := by
      rw [Hid, escPieceF, h1, hn]; rfl
    have HI : Hid (pk s i = -1) := h1
    have HN : Hid (nxt s pieceEscs i = false) := hn
    clear h1 hn
    go_enter Try.func147, Try.ntmps147
    go_wp2_with (first | (go_at_call 64; refine (peek_any b s i _ (HRA.out _)).mono ?_; rw [HI.out]; rintro e w' ⟨rfl, n, rfl⟩) | (go_at_call 88; refine (nextIsIn_any b s pieceEscs i _ (HRN.out (((((Mk.stay HR.out).alloc _).drewN _).alloc _)))).mono ?_; rw [HN.out]; rintro e w' ⟨rfl, n2, rfl⟩))
    rw [HP.out]
    refine bodyPost_ret (v := .tuple #[.agg #[.int .i64 0, .int .u8 0], .bool false]) (by simp [results, Try.results147, go_sem, *]) rfl ⟨rfl, ?_⟩
    (repeat first | exact Mk.stay HR.out | refine Mk.set (i := i) ?_ (i + 1) (by omega) | refine Mk.setNew ?_ (by omega) hb _ | refine Mk.drewN ?_ _ | refine Mk.alloc ?_ _)
  · obtain ⟨hlt, hp⟩ := pk_byte h1
    have hy := byt_lt s i
    generalize hye : byt s i = y at hp hy
    have HI : Hid (pk s i = (y : Int)) := hp
    obtain ⟨ht, ha, hf, hle, hs⟩ := HR.out
    have k255 : (y : Int) ≤ 255 := by omega
    by_cases hd : 49 ≤ y ∧ y ≤ 48 + g
    · have HP : Hid (escPieceF s g i = (i + 1, ⟨(y : Int) - 48, 0⟩, true)) := by
        rw [Hid, escPieceF, hp, if_pos ⟨by omega, by omega⟩]
      obtain ⟨hd1, hd2⟩ := hd
      clear h1 hp hye
      go_enter Try.func147, Try.ntmps147
      go_wp2_with (first | (go_at_call 64; refine (peek_any b s i _ (HRA.out _)).mono ?_; rw [HI.out]; rintro e w' ⟨rfl, n, rfl⟩))
      rw [HP.out]
      refine bodyPost_ret (v := .tuple #[.agg #[.int .i64 ((y : Int) - 48), .int .u8 0], .bool true]) (by simp [results, Try.results147, go_sem, *]) rfl ⟨rfl, ?_⟩
      (repeat first | exact Mk.stay HR.out | refine Mk.set (i := i) ?_ (i + 1) (by omega) | refine Mk.setNew ?_ (by omega) hb _ | refine Mk.drewN ?_ _ | refine Mk.alloc ?_ _)
    · have HD : Hid (¬ (49 ≤ pk s i ∧ pk s i ≤ 48 + (g : Int))) := by rw [Hid, hp]; omega
      by_cases h110 : y = 110
      · subst h110
        have HP : Hid (escPieceF s g i = (i + 1, ⟨-1, 10⟩, true)) := by
          rw [Hid, escPieceF, if_neg HD.out, if_pos (by rw [hp]; rfl)]
        have q1 : decide ((110 : Int) ≤ 48 + (g : Int)) = false := by simp; omega
        clear h1 hp hye hd
        go_enter Try.func147, Try.ntmps147
        go_wp2_with (first | (go_at_call 64; refine (peek_any b s i _ (HRA.out _)).mono ?_; rw [HI.out]; rintro e w' ⟨rfl, n, rfl⟩))
        rw [HP.out]
        refine bodyPost_ret (v := .tuple #[.agg #[.int .i64 (-1), .int .u8 10], .bool true]) (by simp [results, Try.results147, go_sem, *]) rfl ⟨rfl, ?_⟩
        (repeat first | exact Mk.stay HR.out | refine Mk.set (i := i) ?_ (i + 1) (by omega) | refine Mk.setNew ?_ (by omega) hb _ | refine Mk.drewN ?_ _ | refine Mk.alloc ?_ _)
      · have q2 : ((y : Int) == 110) = false := beq_false_of_ne (by omega)
        rcases bool_or (nxt s pieceEscs i) with hn | hn
        · have HN : Hid (nxt s pieceEscs i = true) := hn
          have HP : Hid (escPieceF s g i = (i + 1, ⟨-1, y⟩, true)) := by
            rw [Hid, escPieceF, if_neg HD.out, if_neg (by rw [hp]; omega), if_pos hn, hye]
          clear h1 hp hye hn
          by_cases h49 : 49 ≤ y
          · have h49' : (49 : Int) ≤ (y : Int) := by omega
            have hgy : 48 + (g : Int) < (y : Int) := by omega
            go_enter Try.func147, Try.ntmps147
            go_wp2_with (first | (go_at_call 64; refine (peek_any b s i _ (HRA.out _)).mono ?_; rw [HI.out]; rintro e w' ⟨rfl, n, rfl⟩) | (go_at_call 88; refine (nextIsIn_any b s pieceEscs i _ (HRN.out (((((Mk.stay HR.out).alloc _).drewN _).alloc _)))).mono ?_; rw [HN.out]; rintro e w' ⟨rfl, n2, rfl⟩))
            rw [HP.out]
            refine bodyPost_ret (v := .tuple #[.agg #[.int .i64 (-1), .int .u8 (y : Int)], .bool true]) (by simp [results, Try.results147, go_sem, *]) rfl ⟨rfl, ?_⟩
            (repeat first | exact Mk.stay HR.out | refine Mk.set (i := i) ?_ (i + 1) (by omega) | refine Mk.setNew ?_ (by omega) hb _ | refine Mk.drewN ?_ _ | refine Mk.alloc ?_ _)
          · have h49' : (y : Int) < 49 := by omega
            go_enter Try.func147, Try.ntmps147
            go_wp2_with (first | (go_at_call 64; refine (peek_any b s i _ (HRA.out _)).mono ?_; rw [HI.out]; rintro e w' ⟨rfl, n, rfl⟩) | (go_at_call 88; refine (nextIsIn_any b s pieceEscs i _ (HRN.out (((((Mk.stay HR.out).alloc _).drewN _).alloc _)))).mono ?_; rw [HN.out]; rintro e w' ⟨rfl, n2, rfl⟩))
            rw [HP.out]
            refine bodyPost_ret (v := .tuple #[.agg #[.int .i64 (-1), .int .u8 (y : Int)], .bool true]) (by simp [results, Try.results147, go_sem, *]) rfl ⟨rfl, ?_⟩
            (repeat first | exact Mk.stay HR.out | refine Mk.set (i := i) ?_ (i + 1) (by omega) | refine Mk.setNew ?_ (by omega) hb _ | refine Mk.drewN ?_ _ | refine Mk.alloc ?_ _)
        · have HN : Hid (nxt s pieceEscs i = false) := hn
          have HP : Hid (escPieceF s g i = (i, ⟨0, 0⟩, false)) := by
            rw [Hid, escPieceF, if_neg HD.out, if_neg (by rw [hp]; omega), hn]; rfl
          clear h1 hp hye hn
          by_cases h49 : 49 ≤ y
          · have h49' : (49 : Int) ≤ (y : Int) := by omega
            have hgy : 48 + (g : Int) < (y : Int) := by omega
            go_enter Try.func147, Try.ntmps147
            go_wp2_with (first | (go_at_call 64; refine (peek_any b s i _ (HRA.out _)).mono ?_; rw [HI.out]; rintro e w' ⟨rfl, n, rfl⟩) | (go_at_call 88; refine (nextIsIn_any b s pieceEscs i _ (HRN.out (((((Mk.stay HR.out).alloc _).drewN _).alloc _)))).mono ?_; rw [HN.out]; rintro e w' ⟨rfl, n2, rfl⟩))
            rw [HP.out]
            refine bodyPost_ret (v := .tuple #[.agg #[.int .i64 0, .int .u8 0], .bool false]) (by simp [results, Try.results147, go_sem, *]) rfl ⟨rfl, ?_⟩
            (repeat first | exact Mk.stay HR.out | refine Mk.set (i := i) ?_ (i + 1) (by omega) | refine Mk.setNew ?_ (by omega) hb _ | refine Mk.drewN ?_ _ | refine Mk.alloc ?_ _)
          · have h49' : (y : Int) < 49 := by omega
            go_enter Try.func147, Try.ntmps147
            go_wp2_with (first | (go_at_call 64; refine (peek_any b s i _ (HRA.out _)).mono ?_; rw [HI.out]; rintro e w' ⟨rfl, n, rfl⟩) | (go_at_call 88; refine (nextIsIn_any b s pieceEscs i _ (HRN.out (((((Mk.stay HR.out).alloc _).drewN _).alloc _)))).mono ?_; rw [HN.out]; rintro e w' ⟨rfl, n2, rfl⟩))
            rw [HP.out]
            refine bodyPost_ret (v := .tuple #[.agg #[.int .i64 0, .int .u8 0], .bool false]) (by simp [results, Try.results147, go_sem, *]) rfl ⟨rfl, ?_⟩
            (repeat first | exact Mk.stay HR.out | refine Mk.set (i := i) ?_ (i + 1) (by omega) | refine Mk.setNew ?_ (by omega) hb _ | refine Mk.drewN ?_ _ | refine Mk.alloc ?_ _)

theorem escPieceF_le (s : ByteArray) (g i : Nat) (h : i ≤ s.size) : (escPieceF s g i).1 ≤ s.size ∧ i ≤ (escPieceF s g i).1 := by
  unfold escPieceF
  split
  · rename_i h1
    obtain ⟨h2, _⟩ := pk_byte (s := s) (i := i) (by omega)
    omega
  · split
    · rename_i h1
      obtain ⟨h2, _⟩ := pk_byte (s := s) (i := i) (by omega)
      omega
    · split
      · rename_i h1
        have := nxt_lt h1
        omega
      · omega
theorem pieceF_le (s : ByteArray) (g i : Nat) (h : i ≤ s.size) : (pieceF s g i).1 ≤ s.size ∧ i ≤ (pieceF s g i).1 := by
  unfold pieceF
  split
  · rename_i h1
    obtain ⟨h2, _⟩ := pk_byte (s := s) (i := i) (by omega)
    omega
  · split
    · rename_i h1
      obtain ⟨h2, _⟩ := pk_byte (s := s) (i := i) (by omega)
      have := escPieceF_le s g (i + 1) (by omega)
      omega
    · unfold plainF
      split
      · omega
      · rename_i h1
        obtain ⟨h2, _⟩ := pk_byte (s := s) (i := i) (fun e => h1 (.inl e))
        simp only
        omega
theorem pieceF_lt (s : ByteArray) (g i : Nat) (h : i ≤ s.size) (ok : (pieceF s g i).2.2 = true) : i < (pieceF s g i).1 := by
  unfold pieceF at *
  split
  · omega
  · rename_i h0
    rw [if_neg h0] at ok
    split
    · rename_i h1
      obtain ⟨h2, _⟩ := pk_byte (s := s) (i := i) (by omega)
      have := escPieceF_le s g (i + 1) (by omega)
      omega
    · rename_i h1
      rw [if_neg h1] at ok
      unfold plainF at *
      split
      · rename_i h2
        rw [if_pos h2] at ok
        cases ok
      · simp only; omega

/-- The cells of a new block of two. -/
theorem new_two {w w1 : World} {x y : Value} {T : TypeId} (h : w1.heap[w.heap.size]? = (w.alloc (.cells #[x, y] T)).heap[w.heap.size]?) :
    w1.cell? ⟨w.heap.size, 0, none⟩ = some x ∧ w1.cell? ⟨w.heap.size, 1, none⟩ = some y ∧ w1.frozen? ⟨w.heap.size, 0, none⟩ = false ∧ w1.frozen? ⟨w.heap.size, 1, none⟩ = false := by
  have hh : w1.heap[w.heap.size]? = some (.cells #[x, y] T) := h.trans (heap_alloc_new w _)
  exact ⟨cell_of_row w1 _ 0 _ T (0, 0) hh, cell_of_row w1 _ 1 _ T (0, 0) hh, by simp [World.frozen?, hh], by simp [World.frozen?, hh]⟩

set_option maxHeartbeats 1000000 in
theorem piece_any (b : Nat) (s : ByteArray) (g i : Nat) (w : World) (hr : Rc w b s i) (hg : g ≤ 9) :
    Calls Try.prog 141 #[.pointer (some ⟨b, 0, none⟩), .int .i64 (g : Int)] w fun e w' => e = .returned (.tuple #[.agg #[.int .i64 (pieceF s g i).2.1.grp, .int .u8 ((pieceF s g i).2.1.byte : Nat)], .bool (pieceF s g i).2.2]) ∧ Mk b w w' (pieceF s g i).1 := by
  have HR : Hid (Rc w b s i) := hr
  have hb : b < w.heap.size := Rc.lt hr
  have hle := hr.le
  have hs := hr.s40
  clear hr
  have HRA : Hid (∀ o, Rc (w.alloc o) b s i) := fun o => Rc.alloc HR.out o
  by_cases h38 : pk s i = ((38 : Nat) : Int)
  · have HP : Hid (pieceF s g i = (i + 1, ⟨0, 0⟩, true)) := by rw [Hid, pieceF, if_pos (by rw [h38]; rfl)]
    have HI : Hid (pk s i = ((38 : Nat) : Int)) := h38
    clear h38
    go_enter Try.func141, Try.ntmps141
    go_wp2_with (go_at_call 56; refine (acceptY b s i 38 _ (HRA.out _) (by omega) HI.out).mono ?_; rintro e w1 ⟨rfl, hm⟩; have HM : Hid (Mk b w w1 (i + 1)) := ((Mk.stay HR.out).alloc _).trans (.mv hm); obtain ⟨t0, t1, t2, t3⟩ := new_two (hm.only.block w.heap.size (by omega)); clear hm)
    rw [HP.out]
    exact bodyPost_ret (v := .tuple #[.agg #[.int .i64 0, .int .u8 0], .bool true]) (by simp [results, Try.results141, go_sem, *]) rfl ⟨rfl, (HM.out.setNew (Nat.le_refl _) hb _).setNew (Nat.le_refl _) hb _⟩
  · by_cases h92 : pk s i = ((92 : Nat) : Int)
    · have HP : Hid (pieceF s g i = escPieceF s g (i + 1)) := by rw [Hid, pieceF, if_neg (by rw [h92]; decide), if_pos (by rw [h92]; rfl)]
      have HI : Hid (pk s i ≠ ((38 : Nat) : Int)) := h38
      have HJ : Hid (pk s i = ((92 : Nat) : Int)) := h92
      obtain ⟨hlt, _⟩ := pk_byte (s := s) (i := i) (by rw [h92]; decide)
      clear h38 h92
      rw [HP.out]
      generalize hF : escPieceF s g (i + 1) = F
      have HF : Hid (escPieceF s g (i + 1) = F) := hF
      clear hF
      obtain ⟨j, ⟨p0, p1⟩, ok⟩ := F
      go_enter Try.func141, Try.ntmps141
      go_wp2_with fail
      refine (acceptN b s i 38 _ (HRA.out _) (by omega) HI.out).mono ?_
      rintro e w1 ⟨rfl, hm⟩
      have HM : Hid (Mk b w w1 i) := ((Mk.stay HR.out).alloc _).trans (.mv hm)
      have HX1 : Hid (w1.heap[w.heap.size]? = (w.alloc _).heap[w.heap.size]?) := hm.only.block w.heap.size (by omega)
      obtain ⟨t0, t1, t2, t3⟩ := new_two HX1.out
      clear hm
      have hsz : w.heap.size < w1.heap.size := World.block_lt_of_cell? w1 _ t0
      go_wp2_with fail
      refine (acceptY b s i 92 _ (HM.out.rc HR.out hle) (by omega) HJ.out).mono ?_
      rintro e w2 ⟨rfl, hm⟩
      have HM2 : Hid (Mk b w w2 (i + 1)) := HM.out.trans (.mv hm)
      have HX2 : Hid (w2.heap[w.heap.size]? = w1.heap[w.heap.size]?) := hm.only.block _ (by omega)
      have hs2 : w2.heap.size = w1.heap.size := hm.only.size
      clear hm
      go_wp2_with fail
      refine (escPiece_any b s g (i + 1) _ (HM2.out.rc HR.out (by omega)) hg).mono ?_
      rw [HF.out]
      rintro e w3 ⟨rfl, hm⟩
      have HM3 : Hid (Mk b w w3 j) := HM2.out.trans hm
      have HX3 : Hid (w3.heap[w.heap.size]? = w1.heap[w.heap.size]?) := (hm.block _ (by omega) (by omega)).trans HX2.out
      clear hm t0 t1 t2 t3
      obtain ⟨t0, t1, t2, t3⟩ := new_two (HX3.out.trans HX1.out)
      go_wp2_with fail
      exact bodyPost_ret (v := .tuple #[.agg #[.int .i64 p0, .int .u8 (p1 : Int)], .bool ok]) (by simp [results, Try.results141, go_sem, *]) rfl ⟨rfl, (HM3.out.setNew (Nat.le_refl _) hb _).setNew (Nat.le_refl _) hb _⟩
    · have HP : Hid (pieceF s g i = plainF s i) := by rw [Hid, pieceF, if_neg (fun e => h38 (by rw [e]; rfl)), if_neg (fun e => h92 (by rw [e]; rfl))]
      have HI : Hid (pk s i ≠ ((38 : Nat) : Int)) := h38
      have HJ : Hid (pk s i ≠ ((92 : Nat) : Int)) := h92
      clear h38 h92
      rw [HP.out]
      generalize hF : plainF s i = F
      have HF : Hid (plainF s i = F) := hF
      clear hF
      obtain ⟨j, ⟨p0, p1⟩, ok⟩ := F
      go_enter Try.func141, Try.ntmps141
      go_wp2_with fail
      refine (acceptN b s i 38 _ (HRA.out _) (by omega) HI.out).mono ?_
      rintro e w1 ⟨rfl, hm⟩
      have HM : Hid (Mk b w w1 i) := ((Mk.stay HR.out).alloc _).trans (.mv hm)
      have HX1 : Hid (w1.heap[w.heap.size]? = (w.alloc _).heap[w.heap.size]?) := hm.only.block w.heap.size (by omega)
      obtain ⟨t0, t1, t2, t3⟩ := new_two HX1.out
      clear hm
      have hsz : w.heap.size < w1.heap.size := World.block_lt_of_cell? w1 _ t0
      go_wp2_with fail
      refine (acceptN b s i 92 _ (HM.out.rc HR.out hle) (by omega) HJ.out).mono ?_
      rintro e w2 ⟨rfl, hm⟩
      have HM2 : Hid (Mk b w w2 i) := HM.out.trans (.mv hm)
      have HX2 : Hid (w2.heap[w.heap.size]? = w1.heap[w.heap.size]?) := hm.only.block _ (by omega)
      have hs2 : w2.heap.size = w1.heap.size := hm.only.size
      clear hm
      go_wp2_with fail
      refine (plain_any b s i _ (HM2.out.rc HR.out hle)).mono ?_
      rw [HF.out]
      rintro e w3 ⟨rfl, hm⟩
      have HM3 : Hid (Mk b w w3 j) := HM2.out.trans hm
      have HX3 : Hid (w3.heap[w.heap.size]? = w1.heap[w.heap.size]?) := (hm.block _ (by omega) (by omega)).trans HX2.out
      clear hm t0 t1 t2 t3
      obtain ⟨t0, t1, t2, t3⟩ := new_two (HX3.out.trans HX1.out)
      go_wp2_with fail
      exact bodyPost_ret (v := .tuple #[.agg #[.int .i64 p0, .int .u8 (p1 : Int)], .bool ok]) (by simp [results, Try.results141, go_sem, *]) rfl ⟨rfl, (HM3.out.setNew (Nat.le_refl _) hb _).setNew (Nat.le_refl _) hb _⟩

end Rs
end Go.Proofs.Ytppjlpihaocdiaa

/- A range within a set, with its ends. -/
set_option linter.unusedSimpArgs false
set_option linter.unusedVariables false
namespace Go.Proofs.Ytppjlpihaocdiaa
namespace Tr
open Go.RowKit

theorem inn_val {s : ByteArray} {i L v j : Nat} (h : InnR s i L v true j) : innV s i = (v, j) := by
  unfold innV
  rcases h with ⟨_, h, _⟩ | ⟨_, h1, h2⟩ | ⟨_, _, h1, h2⟩
  · cases h
  · rw [if_pos h1]
    rcases h2 with ⟨_, h, _⟩ | ⟨_, h, _⟩ | ⟨_, _, h3, _, _, _, h4⟩
    · cases h
    · cases h
    · rw [h3, h4]
  · rw [if_neg h1]
    rcases h2 with ⟨_, h, _⟩ | ⟨_, _, h3, h4⟩
    · cases h
    · rw [h3, h4]

set_option maxHeartbeats 400000 in
theorem between_any (b : Nat) (s : ByteArray) (i : Nat) (st : St) (w : World) (hr : Rc w b s i) (h : run s i = some st) (hm : InPre s i 0 st) (h8 : st.m ≠ 8) :
    Calls Try.prog 135 #[.pointer (some ⟨b, 0, none⟩)] w fun e w' => ∃ (lo hi : Nat) (ok : Bool) (j : Nat), e = .returned (.tuple #[.int .u8 lo, .int .u8 hi, .bool ok]) ∧ Mv b w w' j ∧ (ok = true → lo ≤ 255 ∧ hi ≤ 255 ∧ betV s i = (lo, hi, j)) ∧ BetR s i st ok j := by
  have HR : Hid (Rc w b s i) := hr
  have HG : Hid (run s i = some st) := h
  have HM : Hid (InPre s i 0 st) := hm
  have hle := hr.le
  clear hr h hm
  go_enter Try.func135, Try.ntmps135
  go_wp2_with fail
  refine (inner_any b s i 0 _ HR.out (by omega)).mono ?_
  rintro e w1 ⟨v, ok, j, rfl, hmv, hE⟩
  have HV1 : Hid (ok = true → innV s i = (v, j)) := fun e => by subst e; exact inn_val hE
  have HV : Hid (Mv b w w1 j) := hmv
  rcases inner_walk HG.out hle HM.out hE with ⟨rfl, hij, hjs, hv, hrun⟩ | ⟨rfl, hF⟩
  · rw [if_neg h8] at hrun
    have HJ : Hid (run s j = some ⟨6, st.o, st.a, v⟩) := hrun
    have HR1 : Hid (Rc w1 b s j) := hmv.rc HR.out hjs
    clear hE hmv hrun
    by_cases hd : pk s j = 45
    · have HD : Hid (pk s j = 45) := hd
      have hlt : j < s.size := by
        by_cases hx : j < s.size
        · exact hx
        · rw [pk_out hx] at hd; omega
      have HK : Hid (run s (j + 1) = some ⟨8, st.o, st.a, v⟩) := by
        have e : byt s j = 45 := by rw [pk_in hlt] at hd; omega
        rw [Hid, run_succ HJ.out, step_set (by omega) (by omega), inSet6, e]; rfl
      have HR2 : Hid (Rc (w1.setCell ⟨b, 1, none⟩ (.int .i64 ((j : Int) + 1))) b s (j + 1)) := HR1.out.put (j + 1) (by omega) (by omega)
      clear hd
      go_wp2_with (first | (go_at_call 56; refine (accept_yes b s j 45 _ HR1.out (by omega) HD.out).mono ?_; rintro e w2 ⟨rfl, n, rfl⟩))
      refine (inner_any b s (j + 1) v _ (HR2.out.drewN _) hv).mono ?_
      rintro e w2 ⟨v2, ok2, j2, rfl, hmv2, hE2⟩
      have hm2 : Mv b w w2 j2 := HV.out.trans (((HR1.out.stay.set (j + 1) (by omega)).drewN _).trans hmv2)
      have hB : (ok2 = true → v ≤ 255 ∧ v2 ≤ 255 ∧ betV s i = (v, v2, j2)) ∧ BetR s i st ok2 j2 := by
        rcases inner_walk HK.out (by omega) (.inl ⟨rfl, rfl⟩) hE2 with ⟨rfl, g1, g2, g3, g4⟩ | ⟨rfl, hF⟩
        · exact ⟨fun _ => ⟨hv, g3, by unfold betV; rw [HV1.out (by simp), if_pos HD.out, inn_val hE2]⟩, .inl ⟨rfl, by omega, g2, v2, .inr g4⟩⟩
        · exact ⟨(fun h => absurd h (by simp)), .inr ⟨rfl, hF⟩⟩
      clear hmv2 hE2
      go_wp2_with fail
      go_ret3
      exact ⟨v, v2, ok2, j2, rfl, hm2, hB⟩
    · have HD : Hid (pk s j ≠ 45) := hd
      clear hd
      go_wp2_with (first | (go_at_call 56; refine (accept_no b s j 45 _ HR1.out (by omega) HD.out).mono ?_; rintro e w2 ⟨rfl, n, rfl⟩))
      go_ret3
      exact ⟨v, v, true, j, rfl, HV.out.drewN _, fun _ => ⟨hv, hv, by unfold betV; rw [HV1.out (by simp), if_neg HD.out]⟩, .inl ⟨rfl, hij, hjs, v, .inl ⟨HJ.out, HD.out⟩⟩⟩
  · have HF : Hid (Fails s j) := hF
    clear hF hE hmv
    go_wp2_with fail
    go_ret3
    exact ⟨v, v, false, j, rfl, HV.out, (fun h => absurd h (by simp)), .inr ⟨rfl, HF.out⟩⟩
end Tr
end Go.Proofs.Ytppjlpihaocdiaa

