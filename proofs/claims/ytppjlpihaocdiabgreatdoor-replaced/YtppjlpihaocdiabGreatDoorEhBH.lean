/- A part of the proof. -/
import Derived.Test.YtppjlpihaocdiabGreatDoorEgGH
set_option linter.unusedSimpArgs false
set_option linter.unusedVariables false
namespace Go.Proofs.YtppjlpihaocdiabGreatDoor
namespace Ee
open Go.RowKit
open Rs (Cm Wh Pc own_of CmdsIn readR)
structure Strs (w : World) (ao : Option Addr) (n : Nat) : Prop where
  cell : 0 < n → ∃ b o, ao = some ⟨b, o, none⟩ ∧ b < w.heap.size ∧ ∀ i, i < n → ∃ x : ByteArray, x.size ≤ maxLen ∧ w.cell? ⟨b, o + i, none⟩ = some (.string x)
  le : n ≤ maxLen
def joinN (ls : List (List UInt8)) : List UInt8 := ls.flatMap fun l => l ++ [10]
theorem joinN_snoc (ls : List (List UInt8)) (l : List UInt8) : joinN (ls ++ [l]) = joinN ls ++ (l ++ [10]) := by simp [joinN]
theorem txt_append (a b : List UInt8) : txt a ++ txt b = txt (a ++ b) := by
  apply ByteArray.ext
  simp [txt]
theorem joinN_len (m : Nat) : ∀ (ls : List (List UInt8)), (∀ l ∈ ls, l.length ≤ m) → (joinN ls).length ≤ ls.length * (m + 1)
  | [], _ => by simp [joinN]
  | a :: ls, h => by
    have h1 := h a (by simp)
    have h2 := joinN_len m ls fun l hl => h l (by simp [hl])
    have e : joinN (a :: ls) = (a ++ [10]) ++ joinN ls := by simp [joinN]
    have e2 : (a :: ls).length * (m + 1) = ls.length * (m + 1) + (m + 1) := by rw [List.length_cons, Nat.add_mul, Nat.one_mul]
    rw [e, List.length_append, List.length_append, e2]
    simp only [List.length_singleton]
    omega
def Lins (m : Nat) (ls : List (List UInt8)) : Prop := ∀ l ∈ ls, l.length ≤ m ∧ ∀ b ∈ l, b ≠ 10
structure Li (w wr : World) (m i : Nat) (lv : Value) (ls : List (List UInt8)) : Prop where
  below : Below w.heap.size w wr
  own : wr.ownsRow w.heap.size 9 1 lv ls.length (sv (ls.map txt))
  len : ls.length = i
  lins : Lins m ls
theorem Li.step {w wr w2 w7 : World} {o : Obj} {m i gg cap : Nat} {lv : Value} {ls : List (List UInt8)} {s : ByteArray} (h : Li w wr m i lv ls) (hb2 : Below wr.heap.size wr w2)
    (hown : w7.ownsRow w.heap.size 9 1 (.slice (some ⟨gg, 0, none⟩) (ls.length + 1) cap) (ls.length + 1) (sv (ls.map txt) ++ [.string (txt (lineF m (row s)))])) (hg : (w2.alloc o).grownBy w7 lv.ownBlock) : Li w w7 m (i + 1) (.slice (some ⟨gg, 0, none⟩) (ls.length + 1) cap) (ls ++ [lineF m (row s)]) := by
  have e : (ls ++ [lineF m (row s)]).length = ls.length + 1 := by simp
  have hb3 : Below w.heap.size w w2 := h.below.trans (hb2.mono h.below.size)
  refine ⟨hb3.trans ⟨hg.os, hg.tape, hg.output, Nat.le_trans (by simp) hg.size, fun j hj => ?_⟩, by rw [e, List.map_append, List.map_cons, List.map_nil, sv_snoc]; exact hown, by rw [e, h.len], fun l hl => ?_⟩
  · have hj2 := Nat.lt_of_lt_of_le hj hb3.size
    rw [hg.block j (by simp; omega) (fun e => by have := (h.own.lt j e.symm).1; omega), Below.heap_alloc _ _ _ hj2]
  · rcases List.mem_append.1 hl with hl | hl
    · exact h.lins l hl
    · have : l = lineF m (row s) := by simpa using hl
      subst this
      exact ⟨lineF_len _ _, fun b hb => lineF_mem hb⟩
def LiQ (k m n : Nat) (w : World) : Ending → World → Prop := fun e w' => ∃ lv ls, e = .returned (.tuple #[lv, .string (txt (joinN ls))]) ∧ Below w.heap.size w w' ∧ w'.ownsRow w.heap.size 9 1 lv ls.length (sv (ls.map txt)) ∧ ls.length ≤ k ∧ Lins m ls
set_option maxRecDepth 100000 in
set_option maxHeartbeats 4000000 in
theorem lines_any (ao : Option Addr) (n cap k m : Nat) (w : World) (hI : Strs w ao n) (hk : k ≤ 20) (hm : m ≤ 80) :
    Calls Tryz.prog 6 #[.slice ao n cap, .int .i64 k, .int .i64 m] w (LiQ k m n w) := by
  obtain ⟨i0, hi0, hz0, hz1, hz2⟩ := info_parts Tryz.infoStr
  have HI : Hid (Strs w ao n) := hI
  have hn := hI.le
  unfold maxLen at hn
  have HC0 : Hid (Li w w m 0 (.slice none 0 0) []) := ⟨Below.refl _ _, World.ownsRow_nil w _ _ 1, rfl, fun l hl => by simp at hl⟩
  clear hI
  go_enter Tryz.func6, Tryz.ntmps6
  go_wp2_with fail
  go_loopw [8, 9, 10] (fun x8 x9 x10 wr => ∃ (i : Nat) (ls : List (List UInt8)), i ≤ n ∧ i ≤ k ∧ x9 = .string (txt (joinN ls)) ∧ x10 = .int .i64 i ∧ Hid (Li w wr m i x8 ls)) (fun _ _ x10 _ => n + 1 - (intOf x10).toNat)
  case atStart => exact ⟨0, [], by omega, by omega, rfl, rfl, HC0.out⟩
  case round =>
    obtain ⟨i, ls, hi, hik, rfl, rfl, HL⟩ := hrel
    have hll : ls.length = i := HL.out.len
    have HX : Hid (LiQ k m n w (.returned (.tuple #[u8, .string (txt (joinN ls))])) wr) := ⟨_, ls, rfl, HL.out.below, HL.out.own, by omega, HL.out.lins⟩
    by_cases hlt : i < n
    · by_cases hlt2 : i < k
      · obtain ⟨gb, go, hao, hgl, hcs⟩ := HI.out.cell (by omega)
        obtain ⟨x, x1, x3⟩ := hcs i hlt
        subst hao
        have xr : wr.cell? ⟨gb, go + i, none⟩ = some (.string x) := (World.cell?_of_block (w := w) (w' := wr) (a := ⟨gb, go + i, none⟩) (HL.out.below.block gb hgl)).trans x3
        clear hcs x3
        have hL := line_any x m wr x1 hm
        have hjl : (joinN ls).length ≤ 2000 := by
          have h1 := joinN_len m ls fun l hl => (HL.out.lins l hl).1
          have h2 : ls.length * (m + 1) ≤ 20 * 81 := Nat.mul_le_mul (by omega) (by omega)
          omega
        have hzl : (txt (lineF m (row x))).size ≤ 80 := by rw [txt_size]; exact Nat.le_trans (lineF_len _ _) hm
        have htl : (txt (joinN ls)).size ≤ 2000 := by rw [txt_size]; exact hjl
        have HJ : Hid (txt (joinN (ls ++ [lineF m (row x)])) = txt (joinN ls) ++ txt (lineF m (row x)) ++ ⟨#[10]⟩) := by
          show _ = _
          rw [joinN_snoc, ← txt_append, ← txt_append, ByteArray.append_assoc]
          rfl
        clear hjl
        have hadd : ∀ W : World, (Op.stringOp .add (txt (joinN ls)) (txt (lineF m (row x)))).run Tryz.prog W = .ok (.string (txt (joinN ls) ++ txt (lineF m (row x)))) W := fun W => run_string_add_sum (P := Tryz.prog) (w := W) _ _ (by omega)
        have hadd2 : ∀ W : World, (Op.stringOp .add (txt (joinN ls) ++ txt (lineF m (row x))) ⟨#[10]⟩).run Tryz.prog W = .ok (.string (txt (joinN ls) ++ txt (lineF m (row x)) ++ ⟨#[10]⟩)) W := fun W => run_string_add_sum (P := Tryz.prog) (w := W) _ _ (by
          have e1 : (txt (joinN ls) ++ txt (lineF m (row x))).size = (txt (joinN ls)).size + (txt (lineF m (row x))).size := ByteArray.size_append
          have e2 : (⟨#[10]⟩ : ByteArray).size = 1 := rfl
          omega)
        clear htl hzl
        go_wp2_with fail
        refine hL.mono ?_
        rintro e w2 ⟨rfl, hb2⟩
        have HB2 : Hid (Below wr.heap.size wr w2) := hb2
        have HO2 : Hid (w2.ownsRow w.heap.size 9 1 u8 ls.length (sv (ls.map txt))) := own_of HL.out.own fun j hj => hb2.block j (HL.out.own.lt j hj).2
        have hsz2 : w.heap.size ≤ w2.heap.size := Nat.le_trans HL.out.below.size hb2.size
        clear hL hb2
        generalize hT1 : txt (lineF m (row x)) = T1 at *
        generalize hT0 : txt (joinN ls) = T0 at *
        go_wp2_with (at_builtin; (refine wpList_append_lies _ rfl _ _ 22 rfl w.heap.size 9 i0 (.string ⟨#[]⟩) 1 16 Tryz.underlying22 hi0 hz0 hz1 hz2 rfl (by omega) u8 ls.length (sv (ls.map txt)) rfl (HO2.out.alloc _) ⟨w2.heap.size, 0, none⟩ 1 1 [.string T1] rfl rfl (cell_one_new w2 _ _) (fun x hx => by simp at hx; subst hx; rfl) (by omega) (by unfold maxLen; omega) (by omega) (by simp; omega) (w2.heap.size + 1) (by simp) ?_; intro gg cp w7 hown7 hgrow7 hat7 hlt7; clear hlt7 hat7; have HF : Hid (Li w w7 m (i + 1) (.slice (some ⟨gg, 0, none⟩) (ls.length + 1) cp) (ls ++ [lineF m (row x)])) := HL.out.step HB2.out (by rw [hT1]; exact hown7) hgrow7; clear hown7 hgrow7))
        go_roundw
        case rel => exact ⟨i + 1, _, by omega, by omega, by rw [HJ.out], by go_num, by have h9 := HF.out; rw [hll] at h9; exact h9⟩
        case measure => simp [intOf]; omega
      · have hd : decide ((i : Int) < (k : Int)) = false := by simp; omega
        go_wp2_with fail
        exact bodyPost_ret (v := .tuple #[u8, .string (txt (joinN ls))]) (by simp [results, Tryz.results6, go_sem]) rfl HX.out
    · have hd : decide ((i : Int) < (n : Int)) = false := by simp; omega
      go_wp2_with fail
      exact bodyPost_ret (v := .tuple #[u8, .string (txt (joinN ls))]) (by simp [results, Tryz.results6, go_sem]) rfl HX.out
end Ee
end Go.Proofs.YtppjlpihaocdiabGreatDoor
