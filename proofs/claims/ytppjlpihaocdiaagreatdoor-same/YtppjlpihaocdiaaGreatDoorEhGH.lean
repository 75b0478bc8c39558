/- Several texts in one. -/
import Derived.Test.YtppjlpihaocdiaaGreatDoorEgGH
import Derived.Test.YtppjlpihaocdiaaGreatDoorOwnLaidH
import Derived.SliceStrings
set_option linter.unusedSimpArgs false
set_option linter.unusedVariables false
namespace Go.Proofs.YtppjlpihaocdiaaGreatDoor
namespace Ee
open Go.RowKit
open Rs (Cm Wh Pc own_of CmdsIn readR)

def noNl (l : List UInt8) : List UInt8 := l.filter fun b => b != 10
def lineF (n : Nat) (l : List UInt8) : List UInt8 := (noNl l).take n

theorem noNl_take_le (l : List UInt8) (i : Nat) : ∃ m, noNl l = noNl (l.take i) ++ m := ⟨noNl (l.drop i), by
  unfold noNl
  rw [← List.filter_append, List.take_append_drop]⟩
theorem lineF_full {l : List UInt8} {n i : Nat} (h : (noNl (l.take i)).length = n) : lineF n l = noNl (l.take i) := by
  obtain ⟨m, hm⟩ := noNl_take_le l i
  unfold lineF
  rw [hm, ← h, List.take_left]
theorem lineF_all {l : List UInt8} {n : Nat} (h : (noNl l).length ≤ n) : lineF n l = noNl l := List.take_of_length_le h
theorem noNl_step (s : ByteArray) (i : Nat) (h : i < s.size) : noNl ((row s).take (i + 1)) = noNl ((row s).take i) ++ (if s[i] = 10 then [] else [s[i]]) := by
  have e : (row s).take (i + 1) = (row s).take i ++ [s[i]] := by
    rw [List.take_add_one]
    have : (row s)[i]? = some s[i] := by
      unfold row
      rw [List.getElem?_eq_getElem (by simpa using h)]
      rfl
    rw [this, Option.toList_some]
  rw [e]
  unfold noNl
  rw [List.filter_append]
  congr 1
  by_cases hb : s[i] = 10
  · simp [hb]
  · simp [hb]
theorem lineF_mem {n : Nat} {l : List UInt8} {b : UInt8} (h : b ∈ lineF n l) : b ≠ 10 := by
  have := List.mem_of_mem_take h
  unfold noNl at this
  rw [List.mem_filter] at this
  simpa using this.2
theorem lineF_len (n : Nat) (l : List UInt8) : (lineF n l).length ≤ n := by unfold lineF; rw [List.length_take]; omega

structure Ln (w wr : World) (s : ByteArray) (n i : Nat) (lv : Value) (zs : List UInt8) : Prop where
  below : Below w.heap.size w wr
  own : wr.ownsRow w.heap.size 5 1 lv zs.length (bv zs)
  eq : zs = noNl ((row s).take i)

theorem Ln.more {w wr w7 : World} {o : Obj} {s : ByteArray} {n i gg cap : Nat} {lv : Value} {zs : List UInt8} (h : Ln w wr s n i lv zs) (hi : i < s.size) (hb : s[i] ≠ 10)
    (hown : w7.ownsRow w.heap.size 5 1 (.slice (some ⟨gg, 0, none⟩) (zs.length + 1) cap) (zs.length + 1) (bv zs ++ [.int .u8 (s[i].toNat : Int)])) (hg : (wr.alloc o).grownBy w7 lv.ownBlock) : Ln w w7 s n (i + 1) (.slice (some ⟨gg, 0, none⟩) (zs.length + 1) cap) (zs ++ [s[i]]) := by
  have e : (zs ++ [s[i]]).length = zs.length + 1 := by simp
  refine ⟨h.below.trans ⟨hg.os, hg.tape, hg.output, Nat.le_trans (by simp) hg.size, fun j hj => ?_⟩, by rw [e, bv_snoc]; exact hown, ?_⟩
  · have hj2 := Nat.lt_of_lt_of_le hj h.below.size
    rw [hg.block j (by simp; omega) (fun e => by have := (h.own.lt j e.symm).1; omega), Below.heap_alloc _ _ _ hj2]
  · rw [noNl_step s i hi, if_neg hb, h.eq]
theorem Ln.skip {w wr : World} {s : ByteArray} {n i : Nat} {lv : Value} {zs : List UInt8} (h : Ln w wr s n i lv zs) (hi : i < s.size) (hb : s[i] = 10) : Ln w wr s n (i + 1) lv zs :=
  ⟨h.below, h.own, by rw [noNl_step s i hi, if_pos hb, List.append_nil]; exact h.eq⟩

set_option maxRecDepth 100000 in
set_option maxHeartbeats 4000000 in
theorem line_any (s : ByteArray) (n : Nat) (w : World) (hs : s.size ≤ maxLen) (hn : n ≤ 80) :
    Calls Tryz.prog 36 #[.string s, .int .i64 n] w fun e w' => e = .returned (.string (txt (lineF n (row s)))) ∧ Below w.heap.size w w' := by
  unfold maxLen at hs
  obtain ⟨i0, hi0, hz0, hz1, hz2⟩ := info_parts Rs.Tryz.info5
  have HC0 : Hid (Ln w w s n 0 (.slice none 0 0) []) := ⟨Below.refl _ _, World.ownsRow_nil w _ _ 1, by simp [noNl]⟩
  go_enter Tryz.func36, Tryz.ntmps36
  go_wp2_with fail
  go_loopw [5, 6] (fun x5 x6 wr => ∃ (i : Nat) (zs : List UInt8), i ≤ s.size ∧ zs.length ≤ n ∧ x6 = .int .i64 i ∧ Hid (Ln w wr s n i x5 zs)) (fun _ x6 _ => s.size + 1 - (intOf x6).toNat)
  case atStart => exact ⟨0, [], by omega, by simp, rfl, HC0.out⟩
  case round =>
    obtain ⟨i, zs, hi, hzn, rfl, HL⟩ := hrel
    have hform : ∃ ao cap, u5 = .slice ao zs.length cap := by
      rcases own_form2 HL.out.own with ⟨e, e0⟩ | ⟨g, cap, e, hcap⟩
      · exact ⟨none, 0, by rw [e, e0]⟩
      · exact ⟨_, _, e⟩
    obtain ⟨ao, cap0, rfl⟩ := hform
    have hconv := bytes_txt w.heap.size _ zs wr HL.out.own
    by_cases hlt : i < s.size
    · by_cases hlt2 : zs.length < n
      · have hbb : (s[i]'hlt).toNat < 256 := UInt8.toNat_lt _
        by_cases hb : s[i]'hlt = 10
        · have HF : Hid (Ln w wr s n (i + 1) (.slice ao zs.length cap0) zs) := HL.out.skip hlt hb
          have hq : (((s[i]'hlt).toNat : Int) != 10) = false := by rw [hb]; rfl
          clear hconv
          go_wp2_with fail
          go_roundw
          case rel => exact ⟨i + 1, zs, by omega, by omega, by go_num, HF.out⟩
          case measure => simp [intOf]; omega
        · have hq : (((s[i]'hlt).toNat : Int) != 10) = true := by
            simp only [bne_iff_ne, ne_eq]
            intro h
            exact hb (UInt8.toNat_inj.1 (by show (s[i]'hlt).toNat = 10; omega))
          have HB : Hid (s[i]'hlt ≠ 10) := hb
          clear hconv hb
          go_wp2_with (at_builtin; (refine wpList_append_lies _ rfl _ _ 99 rfl w.heap.size 5 i0 (.int .u8 0) 1 1 Tryz.underlying99 hi0 hz0 hz1 hz2 rfl (by omega) (.slice ao zs.length cap0) zs.length (bv zs) rfl (HL.out.own.alloc _) ⟨wr.heap.size, 0, none⟩ 1 1 [.int .u8 ((s[i]'hlt).toNat : Int)] rfl rfl (cell_one_new wr _ _) (fun x hx => by simp at hx; subst hx; rfl) (by omega) (by unfold maxLen; omega) (by omega) (by have := HL.out.below.size; simp; omega) (wr.heap.size + 1) (by simp) ?_; intro gg cp w7 hown7 hgrow7 hat7 hlt7; clear hlt7 hat7; have HF : Hid (Ln w w7 s n (i + 1) (.slice (some ⟨gg, 0, none⟩) (zs.length + 1) cp) (zs ++ [s[i]'hlt])) := HL.out.more hlt HB.out hown7 hgrow7; clear hown7 hgrow7))
          go_roundw
          case rel => exact ⟨i + 1, _, by omega, by simp; omega, by go_num, HF.out⟩
          case measure => simp [intOf]; omega
      · have hd : decide ((zs.length : Int) < (n : Int)) = false := by simp; omega
        have HE : Hid (txt (lineF n (row s)) = txt zs) := by
          show _ = _
          have e := HL.out.eq
          rw [lineF_full (i := i) (by rw [← e]; omega), ← e]
        go_wp2_with fail
        go_ret
        exact ⟨by rw [HE.out]; rfl, HL.out.below⟩
    · have hd : decide ((i : Int) < (s.size : Int)) = false := by simp; omega
      have HE : Hid (txt (lineF n (row s)) = txt zs) := by
        show _ = _
        have e := HL.out.eq
        have hi2 : (row s).take i = row s := List.take_of_length_le (by rw [row_length]; omega)
        rw [hi2] at e
        rw [lineF_all (by rw [← e]; omega), ← e]
      go_wp2_with fail
      go_ret
      exact ⟨by rw [HE.out]; rfl, HL.out.below⟩
end Ee
end Go.Proofs.YtppjlpihaocdiaaGreatDoor

set_option linter.unusedSimpArgs false
set_option linter.unusedVariables false
namespace Go.Proofs.YtppjlpihaocdiaaGreatDoor
namespace Ee
open Go.RowKit
open Rs (Cm Wh Pc own_of CmdsIn readR)

structure Strs (w : World) (ao : Option Addr) (n : Nat) : Prop where
  cell : 0 < n → ∃ b o, ao = some ⟨b, o, none⟩ ∧ b < w.heap.size ∧ ∀ i, i < n → ∃ x : ByteArray, x.size ≤ maxLen ∧ w.cell? ⟨b, o + i, none⟩ = some (.string x)
  le : n ≤ maxLen

def joinN (ls : List (List UInt8)) : List UInt8 := ls.flatMap fun l => l ++ [10]
theorem joinN_snoc (ls : List (List UInt8)) (l : List UInt8) : joinN (ls ++ [l]) = joinN ls ++ (l ++ [10]) := by simp [joinN]
theorem txt_append (a b : List UInt8) : txt a ++ txt b = txt (a ++ b) := by
  apply ByteArray.ext
  simp [txt]
theorem joinN_len (m : Nat) : ∀ (ls : List (List UInt8)), (∀ l ∈ ls, l.length ≤ m) → (joinN ls).length ≤ ls.length * (m + 1)
  | [], _ => by simp [joinN]
  | a :: ls, h => by
    have h1 := h a (by simp)
    have h2 := joinN_len m ls fun l hl => h l (by simp [hl])
    have e : joinN (a :: ls) = (a ++ [10]) ++ joinN ls := by simp [joinN]
    have e2 : (a :: ls).length * (m + 1) = ls.length * (m + 1) + (m + 1) := by rw [List.length_cons, Nat.add_mul, Nat.one_mul]
    rw [e, List.length_append, List.length_append, e2]
    simp only [List.length_singleton]
    omega

def Lins (m : Nat) (ls : List (List UInt8)) : Prop := ∀ l ∈ ls, l.length ≤ m ∧ ∀ b ∈ l, b ≠ 10

structure Li (w wr : World) (m i : Nat) (lv : Value) (ls : List (List UInt8)) : Prop where
  below : Below w.heap.size w wr
  own : wr.ownsRow w.heap.size 9 1 lv ls.length (sv (ls.map txt))
  len : ls.length = i
  lins : Lins m ls

theorem Li.step {w wr w2 w7 : World} {o : Obj} {m i gg cap : Nat} {lv : Value} {ls : List (List UInt8)} {s : ByteArray} (h : Li w wr m i lv ls) (hb2 : Below wr.heap.size wr w2)
    (hown : w7.ownsRow w.heap.size 9 1 (.slice (some ⟨gg, 0, none⟩) (ls.length + 1) cap) (ls.length + 1) (sv (ls.map txt) ++ [.string (txt (lineF m (row s)))])) (hg : (w2.alloc o).grownBy w7 lv.ownBlock) : Li w w7 m (i + 1) (.slice (some ⟨gg, 0, none⟩) (ls.length + 1) cap) (ls ++ [lineF m (row s)]) := by
  have e : (ls ++ [lineF m (row s)]).length = ls.length + 1 := by simp
  have hb3 : Below w.heap.size w w2 := h.below.trans (hb2.mono h.below.size)
  refine ⟨hb3.trans ⟨hg.os, hg.tape, hg.output, Nat.le_trans (by simp) hg.size, fun j hj => ?_⟩, by rw [e, List.map_append, List.map_cons, List.map_nil, sv_snoc]; exact hown, by rw [e, h.len], fun l hl => ?_⟩
  · have hj2 := Nat.lt_of_lt_of_le hj hb3.size
    rw [hg.block j (by simp; omega) (fun e => by have := (h.own.lt j e.symm).1; omega), Below.heap_alloc _ _ _ hj2]
  · rcases List.mem_append.1 hl with hl | hl
    · exact h.lins l hl
    · have : l = lineF m (row s) := by simpa using hl
      subst this
      exact ⟨lineF_len _ _, fun b hb => lineF_mem hb⟩

def LiQ (k m n : Nat) (w : World) : Ending → World → Prop := fun e w' => ∃ lv ls, e = .returned (.tuple #[lv, .string (txt (joinN ls))]) ∧ Below w.heap.size w w' ∧ w'.ownsRow w.heap.size 9 1 lv ls.length (sv (ls.map txt)) ∧ ls.length ≤ k ∧ Lins m ls

set_option maxRecDepth 100000 in
set_option maxHeartbeats 4000000 in
theorem lines_any (ao : Option Addr) (n cap k m : Nat) (w : World) (hI : Strs w ao n) (hk : k ≤ 20) (hm : m ≤ 80) :
    Calls Tryz.prog 34 #[.slice ao n cap, .int .i64 k, .int .i64 m] w (LiQ k m n w) := by
  obtain ⟨i0, hi0, hz0, hz1, hz2⟩ := info_parts Tryz.infoStr
  have HI : Hid (Strs w ao n) := hI
  have hn := hI.le
  unfold maxLen at hn
  have HC0 : Hid (Li w w m 0 (.slice none 0 0) []) := ⟨Below.refl _ _, World.ownsRow_nil w _ _ 1, rfl, fun l hl => by simp at hl⟩
  clear hI
  go_enter Tryz.func34, Tryz.ntmps34
  go_wp2_with fail
  go_loopw [8, 9, 10] (fun x8 x9 x10 wr => ∃ (i : Nat) (ls : List (List UInt8)), i ≤ n ∧ i ≤ k ∧ x9 = .string (txt (joinN ls)) ∧ x10 = .int .i64 i ∧ Hid (Li w wr m i x8 ls)) (fun _ _ x10 _ => n + 1 - (intOf x10).toNat)
  case atStart => exact ⟨0, [], by omega, by omega, rfl, rfl, HC0.out⟩
  case round =>
    obtain ⟨i, ls, hi, hik, rfl, rfl, HL⟩ := hrel
    have hll : ls.length = i := HL.out.len
    have HX : Hid (LiQ k m n w (.returned (.tuple #[u8, .string (txt (joinN ls))])) wr) := ⟨_, ls, rfl, HL.out.below, HL.out.own, by omega, HL.out.lins⟩
    by_cases hlt : i < n
    · by_cases hlt2 : i < k
      · obtain ⟨gb, go, hao, hgl, hcs⟩ := HI.out.cell (by omega)
        obtain ⟨x, x1, x3⟩ := hcs i hlt
        subst hao
        have xr : wr.cell? ⟨gb, go + i, none⟩ = some (.string x) := (World.cell?_of_block (w := w) (w' := wr) (a := ⟨gb, go + i, none⟩) (HL.out.below.block gb hgl)).trans x3
        clear hcs x3
        have hL := line_any x m wr x1 hm
        have hjl : (joinN ls).length ≤ 2000 := by
          have h1 := joinN_len m ls fun l hl => (HL.out.lins l hl).1
          have h2 : ls.length * (m + 1) ≤ 20 * 81 := Nat.mul_le_mul (by omega) (by omega)
          omega
        have hzl : (txt (lineF m (row x))).size ≤ 80 := by rw [txt_size]; exact Nat.le_trans (lineF_len _ _) hm
        have htl : (txt (joinN ls)).size ≤ 2000 := by rw [txt_size]; exact hjl
        have HJ : Hid (txt (joinN (ls ++ [lineF m (row x)])) = txt (joinN ls) ++ txt (lineF m (row x)) ++ ⟨#[10]⟩) := by
          show _ = _
          rw [joinN_snoc, ← txt_append, ← txt_append, ByteArray.append_assoc]
          rfl
        clear hjl
        have hadd : ∀ W : World, (Op.stringOp .add (txt (joinN ls)) (txt (lineF m (row x)))).run Tryz.prog W = .ok (.string (txt (joinN ls) ++ txt (lineF m (row x)))) W := fun W => run_string_add_sum (P := Tryz.prog) (w := W) _ _ (by omega)
        have hadd2 : ∀ W : World, (Op.stringOp .add (txt (joinN ls) ++ txt (lineF m (row x))) ⟨#[10]⟩).run Tryz.prog W = .ok (.string (txt (joinN ls) ++ txt (lineF m (row x)) ++ ⟨#[10]⟩)) W := fun W => run_string_add_sum (P := Tryz.prog) (w := W) _ _ (by
          have e1 : (txt (joinN ls) ++ txt (lineF m (row x))).size = (txt (joinN ls)).size + (txt (lineF m (row x))).size := ByteArray.size_append
          have e2 : (⟨#[10]⟩ : ByteArray).size = 1 := rfl
          omega)
        clear htl hzl
        go_wp2_with fail
        refine hL.mono ?_
        rintro e w2 ⟨rfl, hb2⟩
        have HB2 : Hid (Below wr.heap.size wr w2) := hb2
        have HO2 : Hid (w2.ownsRow w.heap.size 9 1 u8 ls.length (sv (ls.map txt))) := own_of HL.out.own fun j hj => hb2.block j (HL.out.own.lt j hj).2
        have hsz2 : w.heap.size ≤ w2.heap.size := Nat.le_trans HL.out.below.size hb2.size
        clear hL hb2
        generalize hT1 : txt (lineF m (row x)) = T1 at *
        generalize hT0 : txt (joinN ls) = T0 at *
        go_wp2_with (at_builtin; (refine wpList_append_lies _ rfl _ _ 62 rfl w.heap.size 9 i0 (.string ⟨#[]⟩) 1 16 Tryz.underlying62 hi0 hz0 hz1 hz2 rfl (by omega) u8 ls.length (sv (ls.map txt)) rfl (HO2.out.alloc _) ⟨w2.heap.size, 0, none⟩ 1 1 [.string T1] rfl rfl (cell_one_new w2 _ _) (fun x hx => by simp at hx; subst hx; rfl) (by omega) (by unfold maxLen; omega) (by omega) (by simp; omega) (w2.heap.size + 1) (by simp) ?_; intro gg cp w7 hown7 hgrow7 hat7 hlt7; clear hlt7 hat7; have HF : Hid (Li w w7 m (i + 1) (.slice (some ⟨gg, 0, none⟩) (ls.length + 1) cp) (ls ++ [lineF m (row x)])) := HL.out.step HB2.out (by rw [hT1]; exact hown7) hgrow7; clear hown7 hgrow7))
        go_roundw
        case rel => exact ⟨i + 1, _, by omega, by omega, by rw [HJ.out], by go_num, by have h9 := HF.out; rw [hll] at h9; exact h9⟩
        case measure => simp [intOf]; omega
      · have hd : decide ((i : Int) < (k : Int)) = false := by simp; omega
        go_wp2_with fail
        exact bodyPost_ret (v := .tuple #[u8, .string (txt (joinN ls))]) (by simp [results, Tryz.results34, go_sem]) rfl HX.out
    · have hd : decide ((i : Int) < (n : Int)) = false := by simp; omega
      go_wp2_with fail
      exact bodyPost_ret (v := .tuple #[u8, .string (txt (joinN ls))]) (by simp [results, Tryz.results34, go_sem]) rfl HX.out
end Ee
end Go.Proofs.YtppjlpihaocdiaaGreatDoor

set_option linter.unusedSimpArgs false
set_option linter.unusedVariables false
set_option maxRecDepth 100000
namespace Go.Proofs.YtppjlpihaocdiaaGreatDoor
namespace Ee
open Go.ChangeShapes Go.WideShapes Go.ChangeAt Go.RowKit

theorem cells_str : Tryz.prog.cellsOf 9 = 1 := by kernel_rfl

theorem open_texts {H : Type} {enc : TypeId × Value → H} {W : World} {base : Nat} {v : Value} {d : DataW H} {p : List MemPlace} (hv : Value.okWide Tryz.prog W .any base 62 v) (h : DataW.Trod enc Tryz.prog W 0 (fun _ => true) true 62 v d p) : ∃ ao n cp, v = .slice ao n cp ∧ Strs W ao n := by
  obtain ⟨a1, len, cap, rfl⟩ := okWide_slice Tryz.underlying62 hv
  refine ⟨a1, len, cap, rfl, ?_⟩
  obtain ⟨fuel, hf⟩ := h
  rcases open_strings Tryz.underlying62 Tryz.underlying9 cells_str hf with ⟨hcs, hx⟩ | ⟨a, len', cap', ss, hcs, _, hl, hm, hz, hx, hcell, hws⟩
  · simp [Value.cells] at hcs
    obtain ⟨rfl, rfl, rfl⟩ := hcs
    exact ⟨fun h => absurd h (by omega), by omega⟩
  · simp [Value.cells] at hcs
    obtain ⟨rfl, rfl, rfl⟩ := hcs
    simp only [if_true] at hz
    refine ⟨fun h0 => ?_, by omega⟩
    obtain ⟨b, off, spot⟩ := a
    have hspot : spot = none := by simpa [Addr.add] using World.cell?_spot (hcell 0 (by omega))
    subst hspot
    refine ⟨b, off, rfl, cell_in (hcell 0 (by omega)), fun i hi => ⟨ss.getD i ByteArray.empty, ?_, ?_⟩⟩
    · have hi' : i < ss.length := by omega
      rw [List.getD_eq_getElem?_getD, List.getElem?_eq_getElem hi']
      exact hws _ (List.getElem_mem hi')
    · have hc := hcell i (by omega)
      rw [add_plain] at hc
      exact hc
end Ee
end Go.Proofs.YtppjlpihaocdiaaGreatDoor

set_option linter.unusedSimpArgs false
set_option linter.unusedVariables false
namespace Go.Proofs.YtppjlpihaocdiaaGreatDoor
namespace Ee
open Go.RowKit
open Rs (Cm Wh Pc own_of CmdsIn readR)

set_option maxHeartbeats 1000000 in
theorem wide_any (q : Bool) (w : World) :
    Calls Tryz.prog 35 #[.bool q] w fun e w' => e = .returned (.agg #[.int .i64 80, .int .i64 80, .int .i64 1000, .bool q]) ∧ Below w.heap.size w w' := by
  go_enter Tryz.func35, Tryz.ntmps35
  go_wp2_with fail
  refine bodyPost_ret (v := .agg #[.int .i64 80, .int .i64 80, .int .i64 1000, .bool q]) (by simp [results, Tryz.results35, go_sem]) rfl ?_
  exact ⟨rfl, below_alloc w _⟩

def made (mf : Mf) (s : ByteArray) (q : Bool) (l : List UInt8) : Ed := fin mf (cfO s 80 80 1000 q) l
def Makes (mf : Mf) (s : ByteArray) (q : Bool) (l : List UInt8) (want : List UInt8) : Prop := opens s 80 80 1000 = true ∧ (made mf s q l).state = 1 ∧ (made mf s q l).out = want

set_option maxRecDepth 100000 in
set_option maxHeartbeats 4000000 in
theorem makes_true (mf : Mf) (hm : MfOk mf) (s inp want : ByteArray) (q : Bool) (w : World) (hs : s.size ≤ maxLen) (hi : inp.size ≤ 1048576) (ht : Tab w) (hk : Makes mf s q (row inp) (row want)) :
    Calls Tryz.prog 25 #[.string s, .bool q, .string inp, .string want] w fun e w' => e = .returned (.bool true) ∧ Below w.heap.size w w' := by
  have HED : Hid (∀ W, Tab W → Calls Tryz.prog 26 #[.string s, .agg #[.int .i64 80, .int .i64 80, .int .i64 1000, .bool q], .string inp] W fun e w' => e = .returned (.tuple #[.string want, .int .i64 1, .bool true]) ∧ Below W.heap.size W w') := fun W hW => by
    refine (edited_any mf hm s inp 80 80 1000 q W hs hi hW).mono ?_
    rintro e w' ⟨hb, h⟩
    rcases h with ⟨h1, _⟩ | ⟨h1, h2⟩
    · rw [hk.1] at h1
      cases h1
    · refine ⟨?_, hb⟩
      have e1 : txt (fin mf (cfO s 80 80 1000 q) (row inp)).out = want := by
        have := hk.2.2
        unfold made at this
        rw [this]
        rfl
      have e2 : (fin mf (cfO s 80 80 1000 q) (row inp)).state = 1 := hk.2.1
      rw [h2, e1, e2]
      rfl
  have HT : Hid (Tab w) := ht
  have hW := wide_any q w
  clear hk ht hs hi hm
  go_enter Tryz.func25, Tryz.ntmps25
  go_wp2_with fail
  refine hW.mono ?_
  rintro e w1 ⟨rfl, hb1⟩
  have HB1 : Hid (Below w.heap.size w w1) := hb1
  have hE := HED.out w1 (HT.out.below hb1)
  clear hW hb1
  go_wp2_with fail
  refine hE.mono ?_
  rintro e w2 ⟨rfl, hb2⟩
  have HB2 : Hid (Below w.heap.size w w2) := HB1.out.trans (hb2.mono HB1.out.size)
  clear hE hb2
  go_wp2_with fail
  go_ret
  exact ⟨rfl, HB2.out⟩
end Ee
end Go.Proofs.YtppjlpihaocdiaaGreatDoor

set_option linter.unusedSimpArgs false
set_option linter.unusedVariables false
namespace Go.Proofs.YtppjlpihaocdiaaGreatDoor
namespace Ee
open Rs (Cm Wh Pc)

section
variable {mf : Mf} {cf : Cf}

theorem feed_nil (E : Ed) : E.feed mf cf [] = E := rfl
theorem feed_cons (E : Ed) (b : UInt8) (l : List UInt8) : E.feed mf cf (b :: l) = (E.feed1 mf cf b).feed mf cf l := rfl
theorem feed_app (E : Ed) (l m : List UInt8) : E.feed mf cf (l ++ m) = (E.feed mf cf l).feed mf cf m := by simp [Ed.feed]

theorem w0_wait (f : Nat) (E : Ed) (h : E.atHand cf = false) : E.workF mf cf (f + 1) 0 = { E with stage := 0 } := by
  have h' : Ed.atHand cf { E with stage := 0 } = false := h
  simp [Ed.workF, Ed.begin, h']
theorem w0_end (f : Nat) (E : Ed) (h : E.atHand cf = true) (hm : E.more = false) : E.workF mf cf (f + 1) 0 = { E with stage := 0, state := 1 } := by
  have h' : Ed.atHand cf { E with stage := 0 } = true := h
  have hm' : Ed.more { E with stage := 0 } = false := hm
  simp [Ed.workF, Ed.begin, h', hm']

def rd (E : Ed) (l : List UInt8) : Ed := { E with next := [], whole := false, number := E.number + 1, pat := txt l, looked := 0, put := false, at' := 0, stage := 0 }

theorem w0_line (f : Nat) (E : Ed) (h : E.atHand cf = true) (hm : E.more = true) (hl : E.next.length ≤ cf.line) (hs : E.next.length ≤ cf.space) : E.workF mf cf (f + 1) 0 = (rd E E.next).workF mf cf f 1 := by
  have h' : Ed.atHand cf { E with stage := 0 } = true := h
  have hm' : Ed.more { E with stage := 0 } = true := hm
  have ht : Ed.tooLong cf { E with stage := 0 } = false := by simp [Ed.tooLong]; omega
  have hsp : ¬ cf.space < (txt E.next).size := by rw [txt_size]; omega
  simp [Ed.workF, Ed.begin, h', hm', Ed.readBy, ht, Ed.read, Ed.way, Ed.become, hsp, rd]

theorem w1_end (f : Nat) (E : Ed) (h : E.at' = cf.cmds.length) : E.workF mf cf (f + 1) 1 = E.workF mf cf f 3 := by simp [Ed.workF, h]
theorem w1_cmd (f : Nat) (E : Ed) (h : E.at' ≠ cf.cmds.length) : E.workF mf cf (f + 1) 1 = { E with stage := 1 }.workF mf cf f 2 := by simp [Ed.workF, h]
theorem w2_0 (f : Nat) (E E' : Ed) (h : E.command mf cf = (E', 0)) : E.workF mf cf (f + 1) 2 = E' := by simp [Ed.workF, h]
theorem w2_1 (f : Nat) (E E' : Ed) (h : E.command mf cf = (E', 1)) : E.workF mf cf (f + 1) 2 = E'.workF mf cf f 1 := by simp [Ed.workF, h]
theorem w2_2 (f : Nat) (E E' : Ed) (h : E.command mf cf = (E', 2)) : E.workF mf cf (f + 1) 2 = { E' with at' := 0 }.workF mf cf f 1 := by simp [Ed.workF, h]
theorem w2_3 (f : Nat) (E E' : Ed) (h : E.command mf cf = (E', 3)) : E.workF mf cf (f + 1) 2 = E'.workF mf cf f 4 := by simp [Ed.workF, h]
theorem w2_4 (f : Nat) (E E' : Ed) (h : E.command mf cf = (E', 4)) : E.workF mf cf (f + 1) 2 = E'.workF mf cf f 3 := by simp [Ed.workF, h]
theorem w3 (f : Nat) (E : Ed) : E.workF mf cf (f + 1) 3 = (E.printSpace cf).workF mf cf f 4 := by simp [Ed.workF]
theorem w4 (f : Nat) (E : Ed) (h : E.printComing.state = 0) : E.workF mf cf (f + 1) 4 = E.printComing.workF mf cf f 0 := by simp [Ed.workF, h]
theorem w4_stop (f : Nat) (E : Ed) (h : E.printComing.state ≠ 0) : E.workF mf cf (f + 1) 4 = E.printComing := by simp [Ed.workF, h]

theorem feed_bytes : ∀ (l : List UInt8) (E : Ed), E.stage = 0 → E.state = 0 → E.ended = false → E.whole = false → (∀ b ∈ l, b ≠ 10) → E.next.length + l.length ≤ cf.line → E.feed mf cf l = { E with next := E.next ++ l }
  | [], E, _, _, _, _, _, _ => by rw [feed_nil, List.append_nil]
  | b :: l, E, h1, h2, h3, h4, hb, hl => by
    have hb0 := hb b (by simp)
    have e : E.feed1 mf cf b = { E with next := E.next ++ [b] } := by
      have ht : E.takes = true := by simp [Ed.takes, h2, h3]
      have ea : E.add b = { E with next := E.next ++ [b] } := by simp [Ed.add, hb0]
      have hh : Ed.atHand cf { E with next := E.next ++ [b] } = false := by
        simp only [List.length_cons] at hl
        simp [Ed.atHand, Ed.tooLong, h3, h4]
        omega
      unfold Ed.feed1
      rw [if_pos ht, ea]
      unfold Ed.work
      rw [if_pos h1]
      rw [show (10000 : Nat) = 9999 + 1 from rfl, w0_wait _ _ hh]
      cases E
      simp_all
    rw [feed_cons, e, feed_bytes l { E with next := E.next ++ [b] } h1 h2 h3 h4 (fun c hc => hb c (by simp [hc])) (by simp at hl ⊢; omega)]
    simp

structure Rz (E : Ed) : Prop where
  next : E.next = []
  whole : E.whole = false
  ended : E.ended = false
  stage : E.stage = 0
  state : E.state = 0

structure Lk (cf : Cf) (l : List UInt8) : Prop where
  nl : ∀ b ∈ l, b ≠ 10
  line : l.length ≤ cf.line
  space : l.length ≤ cf.space

theorem line_fed (E : Ed) (h : Rz E) (l : List UInt8) (hl : Lk cf l) : E.feed mf cf (l ++ [10]) = (rd E l).workF mf cf 9999 1 := by
  have e0 := feed_bytes (mf := mf) (cf := cf) l E h.stage h.state h.ended h.whole hl.nl (by rw [h.next]; simpa using hl.line)
  rw [feed_app, e0, h.next, List.nil_append]
  have ht : Ed.takes { E with next := l } = true := by simp [Ed.takes, h.state, h.ended]
  have ea : Ed.add { E with next := l } 10 = { E with next := l, whole := true } := by simp [Ed.add]
  rw [feed_cons, feed_nil]
  unfold Ed.feed1
  rw [if_pos ht, ea]
  unfold Ed.work
  rw [if_pos h.stage, show (10000 : Nat) = 9999 + 1 from rfl, w0_line _ _ (by simp [Ed.atHand]) (by simp [Ed.more]) hl.line hl.space]
  rfl

theorem end_none (E : Ed) (h : Rz E) : E.endIt mf cf = { E with ended := true, state := 1 } := by
  have ht : E.takes = true := by simp [Ed.takes, h.state, h.ended]
  unfold Ed.endIt
  rw [if_pos ht]
  unfold Ed.work
  rw [if_pos h.stage, show (10000 : Nat) = 9999 + 1 from rfl, w0_end _ _ (by simp [Ed.atHand]) (by simp [Ed.more, h.next, h.whole])]
  have := h.stage
  cases E
  simp_all

theorem end_tail (E : Ed) (h : Rz E) (l : List UInt8) (hl : Lk cf l) (h0 : l ≠ []) : (E.feed mf cf l).endIt mf cf = (rd { E with ended := true } l).workF mf cf 9999 1 := by
  have e0 := feed_bytes (mf := mf) (cf := cf) l E h.stage h.state h.ended h.whole hl.nl (by rw [h.next]; simpa using hl.line)
  rw [e0, h.next, List.nil_append]
  have ht : Ed.takes { E with next := l } = true := by simp [Ed.takes, h.state, h.ended]
  unfold Ed.endIt
  rw [if_pos ht]
  unfold Ed.work
  rw [if_pos h.stage, show (10000 : Nat) = 9999 + 1 from rfl, w0_line _ _ (by simp [Ed.atHand]) (by simp [Ed.more, h0]) hl.line hl.space]
  rfl

structure Prompt (mf : Mf) (cf : Cf) (G : Ed → Ed) (J : Ed → Prop) (ok : List UInt8 → Prop) : Prop where
  run : ∀ (E : Ed) (l : List UInt8), J E → ok l → E.next = [] → E.whole = false → E.state = 0 → ∃ k, k ≤ 5000 ∧ ∀ f, (rd E l).workF mf cf (f + k) 1 = (G (rd E l)).workF mf cf f 0
  next : ∀ (E : Ed) (l : List UInt8), J E → ok l → (G (rd E l)).next = [] ∧ (G (rd E l)).whole = false ∧ (G (rd E l)).ended = E.ended ∧ (E.state = 0 → (G (rd E l)).state = 0)
  keep : ∀ (E : Ed) (l : List UInt8), J E → ok l → J { G (rd E l) with stage := 0 }
  free : ∀ (E : Ed) (b : Bool), J E → J { E with ended := b }
  lk : ∀ l, ok l → Lk cf l

def cyc (G : Ed → Ed) (E : Ed) (l : List UInt8) : Ed := { G (rd E l) with stage := 0 }

theorem Prompt.line {G : Ed → Ed} {J : Ed → Prop} {ok : List UInt8 → Prop} (P : Prompt mf cf G J ok) (E : Ed) (h : Rz E) (hJ : J E) (l : List UInt8) (hl : ok l) : E.feed mf cf (l ++ [10]) = cyc G E l ∧ Rz (cyc G E l) ∧ J (cyc G E l) := by
  obtain ⟨k, hk, hr⟩ := P.run E l hJ hl h.next h.whole h.state
  obtain ⟨n1, n2, n3, n4⟩ := P.next E l hJ hl
  refine ⟨?_, ⟨n1, n2, n3.trans h.ended, rfl, n4 h.state⟩, P.keep E l hJ hl⟩
  rw [line_fed E h l (P.lk l hl)]
  have e : 9999 = (9999 - k - 1 + 1) + k := by omega
  rw [e, hr, w0_wait _ _ (by simp [Ed.atHand, Ed.tooLong, n1, n2, n3, h.ended])]
  rfl

theorem Prompt.lines {G : Ed → Ed} {J : Ed → Prop} {ok : List UInt8 → Prop} (P : Prompt mf cf G J ok) : ∀ (ls : List (List UInt8)) (E : Ed), Rz E → J E → (∀ l ∈ ls, ok l) → E.feed mf cf (joinN ls) = ls.foldl (cyc G) E ∧ Rz (ls.foldl (cyc G) E) ∧ J (ls.foldl (cyc G) E)
  | [], E, h, hJ, _ => ⟨rfl, h, hJ⟩
  | l :: ls, E, h, hJ, hl => by
    obtain ⟨e1, e2, e3⟩ := P.line E h hJ l (hl l (by simp))
    obtain ⟨d1, d2, d3⟩ := P.lines ls (cyc G E l) e2 e3 fun m hm => hl m (by simp [hm])
    have e : joinN (l :: ls) = (l ++ [10]) ++ joinN ls := by simp [joinN]
    refine ⟨?_, d2, d3⟩
    rw [e, feed_app, e1, d1]
    rfl

theorem Prompt.tail {G : Ed → Ed} {J : Ed → Prop} {ok : List UInt8 → Prop} (P : Prompt mf cf G J ok) (E : Ed) (h : Rz E) (hJ : J E) (l : List UInt8) (hl : ok l) (h0 : l ≠ []) : (E.feed mf cf l).endIt mf cf = { cyc G { E with ended := true } l with state := 1 } := by
  have hJ' := P.free E true hJ
  obtain ⟨k, hk, hr⟩ := P.run { E with ended := true } l hJ' hl h.next h.whole h.state
  obtain ⟨n1, n2, n3, n4⟩ := P.next { E with ended := true } l hJ' hl
  rw [end_tail E h l (P.lk l hl) h0]
  have e : 9999 = (9999 - k - 1 + 1) + k := by omega
  rw [e, hr, w0_end _ _ (by simp [Ed.atHand, n3]) (by simp [Ed.more, n1, n2])]
  rfl

theorem ed0_rz (cf : Cf) : Rz (ed0 cf) := ⟨rfl, rfl, rfl, rfl, rfl⟩

theorem Prompt.all {G : Ed → Ed} {J : Ed → Prop} {ok : List UInt8 → Prop} (P : Prompt mf cf G J ok) (h0 : J (ed0 cf)) (ls : List (List UInt8)) (hl : ∀ l ∈ ls, ok l) : fin mf cf (joinN ls) = { ls.foldl (cyc G) (ed0 cf) with ended := true, state := 1 } := by
  obtain ⟨d1, d2, d3⟩ := P.lines ls (ed0 cf) (ed0_rz cf) h0 hl
  unfold fin
  rw [d1, end_none _ d2]
theorem Prompt.allT {G : Ed → Ed} {J : Ed → Prop} {ok : List UInt8 → Prop} (P : Prompt mf cf G J ok) (h0 : J (ed0 cf)) (ls : List (List UInt8)) (hl : ∀ l ∈ ls, ok l) (t : List UInt8) (ht : ok t) (ht0 : t ≠ []) : fin mf cf (joinN ls ++ t) = { cyc G { ls.foldl (cyc G) (ed0 cf) with ended := true } t with state := 1 } := by
  obtain ⟨d1, d2, d3⟩ := P.lines ls (ed0 cf) (ed0_rz cf) h0 hl
  unfold fin
  rw [feed_app, d1, P.tail _ d2 d3 t ht ht0]
end

end Ee
end Go.Proofs.YtppjlpihaocdiaaGreatDoor

set_option linter.unusedSimpArgs false
set_option linter.unusedVariables false
namespace Go.Proofs.YtppjlpihaocdiaaGreatDoor
namespace Ee
open Rs (Cm Wh Pc readR)

def cmK (k : Nat) : Cm := ⟨k, ⟨0, 0, emp⟩, ⟨0, 0, emp⟩, false, 0, emp, emp, [], 0, false, false, emp, emp⟩

def scE : ByteArray := ⟨#[]⟩
def scP : ByteArray := ⟨#[112]⟩
theorem read_scE : readR scE = ([], 0, 0) := by rfl
theorem read_scP : readR scP = ([cmK 5], 0, 0) := by rfl

theorem cf_of {s : ByteArray} {cs : List Cm} {e : Nat} {p : Int} (h : readR s = (cs, e, p)) (a b c : Int) (q : Bool) : cfO s a b c q = ⟨a.toNat, b.toNat, c.toNat, q, cs⟩ := by unfold cfO; rw [h]
theorem opens_of {s : ByteArray} {cs : List Cm} {p : Int} (h : readR s = (cs, 0, p)) (a b c : Int) (hl : alw a b c = true) : opens s a b c = true := by unfold opens; rw [h]; simpa using hl
theorem alw_wide : alw 80 80 1000 = true := by decide

def okL (m : Nat) (l : List UInt8) : Prop := (∀ b ∈ l, b ≠ 10) ∧ l.length ≤ m
theorem lins_ok {m : Nat} {ls : List (List UInt8)} (h : Lins m ls) : ∀ l ∈ ls, okL m l := fun l hl => ⟨(h l hl).2, (h l hl).1⟩

section
variable {mf : Mf}

def gE (q : Bool) (E : Ed) : Ed := { E with out := if q = true then E.out else E.out ++ row E.pat ++ [10], coming := [] }
theorem prompt_E (a b c : Nat) (q : Bool) (m : Nat) (ha : m ≤ a) (hb : m ≤ b) : Prompt mf ⟨a, b, c, q, []⟩ (gE q) (fun E => E.coming = []) (okL m) where
  run := fun E l hJ _ _ _ hs => ⟨3, by omega, fun f => by
    rw [show f + 3 = (f + 2) + 1 from rfl, w1_end _ _ rfl, w3]
    have e : (Ed.printSpace ⟨a, b, c, q, []⟩ (rd E l)).printComing = gE q (rd E l) := by
      cases q <;> simp [Ed.printSpace, Ed.printComing, gE, rd, hJ, Ed.print, Ed.printAll]
    rw [w4 _ _ (by rw [e]; exact hs), e]⟩
  next := fun E l _ _ => ⟨rfl, rfl, rfl, fun h => h⟩
  keep := fun E l _ _ => rfl
  free := fun E b h => h
  lk := fun l h => ⟨h.1, Nat.le_trans h.2 ha, Nat.le_trans h.2 hb⟩

theorem fold_E (q : Bool) : ∀ (ls : List (List UInt8)) (E : Ed), (ls.foldl (cyc (gE q)) E).out = if q = true then E.out else E.out ++ joinN ls
  | [], E => by cases q <;> simp [joinN]
  | l :: ls, E => by
    rw [List.foldl_cons, fold_E q ls]
    cases q <;> simp [cyc, gE, rd, joinN, row_txt]

def gP (E : Ed) : Ed := { E with looked := 1, stage := 3, at' := 1, out := E.out ++ row E.pat ++ [10], coming := [] }
theorem prompt_P (a b c : Nat) (m : Nat) (ha : m ≤ a) (hb : m ≤ b) (hc : 0 < c) : Prompt mf ⟨a, b, c, true, [cmK 5]⟩ gP (fun E => E.coming = []) (okL m) where
  run := fun E l hJ _ _ _ hs => ⟨5, by omega, fun f => by
    have hc0 : 0 ≠ c := by omega
    rw [show f + 5 = (f + 4) + 1 from rfl, w1_cmd _ _ (by simp [rd])]
    rw [show f + 4 = (f + 3) + 1 from rfl, w2_1 _ _ { rd E l with looked := 1, stage := 3, at' := 1, out := E.out ++ l ++ [10] } (by
      simp [Ed.command, Ed.choose, Ed.selects, Ed.meets, Ed.doIt, Ed.edit, Ed.jump, Ed.print, cmK, rd, hc0, row_txt])]
    rw [show f + 3 = (f + 2) + 1 from rfl, w1_end _ _ rfl, w3]
    have e : (Ed.printSpace ⟨a, b, c, true, [cmK 5]⟩ { rd E l with looked := 1, stage := 3, at' := 1, out := E.out ++ l ++ [10] }).printComing = gP (rd E l) := by
      simp [Ed.printSpace, Ed.printComing, gP, rd, hJ, Ed.print, Ed.printAll, row_txt]
    rw [w4 _ _ (by rw [e]; exact hs), e]⟩
  next := fun E l _ _ => ⟨rfl, rfl, rfl, fun h => h⟩
  keep := fun E l _ _ => rfl
  free := fun E b h => h
  lk := fun l h => ⟨h.1, Nat.le_trans h.2 ha, Nat.le_trans h.2 hb⟩
theorem fold_P : ∀ (ls : List (List UInt8)) (E : Ed), (ls.foldl (cyc gP) E).out = E.out ++ joinN ls
  | [], E => by simp [joinN]
  | l :: ls, E => by
    rw [List.foldl_cons, fold_P ls]
    simp [cyc, gP, rd, joinN, row_txt]

def inOf (ls : List (List UInt8)) (t : List UInt8) : List UInt8 := joinN ls ++ t
def wantOf (ls : List (List UInt8)) (t : List UInt8) : List UInt8 := if t = [] then joinN ls else joinN ls ++ t ++ [10]

theorem makes_E (q : Bool) (ls : List (List UInt8)) (t : List UInt8) (hl : ∀ l ∈ ls, okL 80 l) (ht : okL 80 t) : Makes mf scE q (inOf ls t) (if q = true then [] else wantOf ls t) := by
  have P := prompt_E (mf := mf) 80 80 1000 q 80 (Nat.le_refl _) (Nat.le_refl _)
  refine ⟨opens_of read_scE _ _ _ alw_wide, ?_⟩
  have ec : cfO scE 80 80 1000 q = ⟨80, 80, 1000, q, []⟩ := cf_of read_scE 80 80 1000 q
  unfold made inOf wantOf
  rw [ec]
  by_cases h0 : t = []
  · subst h0
    rw [List.append_nil, P.all rfl ls hl]
    refine ⟨rfl, ?_⟩
    show (ls.foldl (cyc (gE q)) (ed0 _)).out = _
    rw [fold_E]
    cases q <;> simp [ed0]
  · rw [P.allT rfl ls hl t ht h0]
    refine ⟨rfl, ?_⟩
    have e := fold_E q ls (ed0 ⟨80, 80, 1000, q, []⟩)
    cases q
    · simp [cyc, gE, rd, row_txt, h0] at e ⊢
      rw [e]
      simp [ed0]
    · simp [cyc, gE, rd, row_txt, h0] at e ⊢
      rw [e]
      simp [ed0]

theorem makes_P (ls : List (List UInt8)) (t : List UInt8) (hl : ∀ l ∈ ls, okL 80 l) (ht : okL 80 t) : Makes mf scP true (inOf ls t) (wantOf ls t) := by
  have P := prompt_P (mf := mf) 80 80 1000 80 (Nat.le_refl _) (Nat.le_refl _) (by omega)
  refine ⟨opens_of read_scP _ _ _ alw_wide, ?_⟩
  have ec : cfO scP 80 80 1000 true = ⟨80, 80, 1000, true, [cmK 5]⟩ := cf_of read_scP 80 80 1000 true
  unfold made inOf wantOf
  rw [ec]
  by_cases h0 : t = []
  · subst h0
    rw [List.append_nil, P.all rfl ls hl]
    refine ⟨rfl, ?_⟩
    show (ls.foldl (cyc gP) (ed0 _)).out = _
    rw [fold_P]
    simp [ed0]
  · rw [P.allT rfl ls hl t ht h0]
    refine ⟨rfl, ?_⟩
    have e := fold_P ls (ed0 ⟨80, 80, 1000, true, [cmK 5]⟩)
    simp [cyc, gP, rd, row_txt, h0] at e ⊢
    rw [e]
    simp [ed0]
end
end Ee
end Go.Proofs.YtppjlpihaocdiaaGreatDoor

set_option linter.unusedSimpArgs false
set_option linter.unusedVariables false
namespace Go.Proofs.YtppjlpihaocdiaaGreatDoor
namespace Ee
open Rs (Cm Wh Pc readR)

theorem byt_txt (l : List UInt8) (q : Nat) : byt (txt l) q = (l.getD q 0).toNat := by simp [byt, txt]
theorem byte10 {b : UInt8} (h : b ≠ 10) : b.toNat ≠ 10 := fun e => h (UInt8.toNat_inj.1 e)
theorem eol_line (p : List UInt8) (hp : ∀ b ∈ p, b ≠ 10) : Rs.eol (txt p) 0 = p.length := by
  unfold Rs.eol
  rw [txt_size]
  refine Rs.eolF_is (txt p) _ 0 p.length (Nat.zero_le _) (by rw [txt_size]; omega) (by omega) (fun q _ hq => ?_) (fun h => by rw [txt_size] at h; omega) (.inr (by rw [txt_size]))
  rw [byt_txt, List.getD_eq_getElem?_getD, List.getElem?_eq_getElem hq]
  exact byte10 (hp _ (List.getElem_mem hq))
theorem eol_two (p l : List UInt8) (hp : ∀ b ∈ p, b ≠ 10) : Rs.eol (txt (p ++ 10 :: l)) 0 = p.length := by
  unfold Rs.eol
  have hs : (txt (p ++ 10 :: l)).size = p.length + (l.length + 1) := by rw [txt_size, List.length_append, List.length_cons]
  refine Rs.eolF_is (txt (p ++ 10 :: l)) _ 0 p.length (Nat.zero_le _) (by omega) (by omega) (fun q _ hq => ?_) (fun h => ?_) (.inl (by omega))
  · rw [byt_txt, List.getD_eq_getElem?_getD, List.getElem?_append_left hq, List.getElem?_eq_getElem hq]
    exact byte10 (hp _ (List.getElem_mem hq))
  · rw [byt_txt, List.getD_eq_getElem?_getD, List.getElem?_append_right (Nat.le_refl _)]
    simp
theorem row_extract (l : List UInt8) (a b : Nat) : (txt l).extract a b = txt ((l.take b).drop a) := by
  apply ByteArray.ext
  apply Array.ext'
  simp [txt, ByteArray.data_extract, Array.toList_extract, List.extract_eq_take_drop, List.drop_take]
theorem first_line (p : List UInt8) (hp : ∀ b ∈ p, b ≠ 10) : firstLine (txt p) = txt p := by
  unfold firstLine
  rw [eol_line p hp, row_extract]
  simp
theorem drop_line (p : List UInt8) (hp : ∀ b ∈ p, b ≠ 10) : dropLine (txt p) = none := by
  unfold dropLine
  rw [eol_line p hp, txt_size, if_neg (by omega)]
theorem first_two (p l : List UInt8) (hp : ∀ b ∈ p, b ≠ 10) : firstLine (txt (p ++ 10 :: l)) = txt p := by
  unfold firstLine
  rw [eol_two p l hp, row_extract]
  simp
theorem drop_two (p l : List UInt8) (hp : ∀ b ∈ p, b ≠ 10) : dropLine (txt (p ++ 10 :: l)) = some (txt l) := by
  unfold dropLine
  rw [eol_two p l hp, txt_size, if_pos (by simp), row_extract, List.take_of_length_le (by simp)]
  have e : p ++ 10 :: l = (p ++ [10]) ++ l := by simp
  rw [e, show p.length + 1 = (p ++ [10]).length by simp, List.drop_left]
theorem join_two (p l : List UInt8) : txt p ++ newline ++ txt l = txt (p ++ 10 :: l) := by
  have e : newline = txt [10] := rfl
  rw [e, txt_append, txt_append]
  simp

def cmN : Cm := { cmK 4 with fst := ⟨2, 0, emp⟩, neg := true }
def scD : ByteArray := ⟨#[36, 33, 78, 59, 80, 59, 68]⟩
theorem read_scD : readR scD = ([cmN, cmK 6, cmK 2], 0, 0) := by rfl
def cD : Cf := ⟨80, 80, 1000, false, [cmN, cmK 6, cmK 2]⟩

def dA (p o : List UInt8) (n lk : Nat) : Ed := ⟨[], false, false, n, txt p, emp, o, 0, [], [false, false, false], 0, 2, lk, false, 0⟩
def dB (nx p o : List UInt8) (n lk : Nat) : Ed := ⟨nx, false, false, n, txt p, emp, o, 0, [], [false, false, false], 0, 4, lk, false, 0⟩
def dC (en : Bool) (p o : List UInt8) (n sg lk : Nat) : Ed := ⟨[], false, en, n, txt p, emp, o, 0, [], [false, false, false], 0, sg, lk, false, 0⟩

section
variable {mf : Mf}

theorem d_joined (en : Bool) (p l o : List UInt8) (n f sg : Nat) (hp : ∀ b ∈ p, b ≠ 10) :
    Ed.workF mf cD (f + 4) 1 ⟨[], false, en, n, txt (p ++ 10 :: l), emp, o, 0, [], [false, false, false], 1, sg, 0, false, 0⟩ = (dC en l (o ++ p ++ [10]) n 3 2).workF mf cD f 1 := by
  rw [show f + 4 = (f + 3) + 1 from rfl, w1_cmd _ _ (by simp [cD])]
  rw [show f + 3 = (f + 2) + 1 from rfl, w2_1 _ _ ⟨[], false, en, n, txt (p ++ 10 :: l), emp, o ++ p ++ [10], 0, [], [false, false, false], 2, 3, 1, false, 0⟩ (by
    simp [Ed.command, Ed.choose, Ed.selects, Ed.meets, Ed.doIt, Ed.edit, Ed.jump, Ed.print, cmK, cD, first_two p l hp, row_txt])]
  rw [show f + 2 = (f + 1) + 1 from rfl, w1_cmd _ _ (by simp [cD])]
  rw [w2_2 _ _ ⟨[], false, en, n, txt l, emp, o ++ p ++ [10], 0, [], [false, false, false], 2, 3, 2, false, 0⟩ (by
    simp [Ed.command, Ed.choose, Ed.selects, Ed.meets, Ed.doIt, Ed.edit, Ed.jump, Ed.print, cmK, cD, drop_two p l hp, row_txt, Ed.printComing, Ed.printAll])]
  rfl

theorem d_wait (p o : List UInt8) (n f sg lk : Nat) (hl : lk ≤ 900) : (dC false p o n sg lk).workF mf cD (f + 2) 1 = dA p o n (lk + 1) := by
  have h0 : lk ≠ 1000 := by omega
  rw [show f + 2 = (f + 1) + 1 from rfl, w1_cmd _ _ (by simp [dC, cD])]
  rw [w2_0 _ _ (dA p o n (lk + 1)) (by
    simp [Ed.command, Ed.choose, Ed.selects, Ed.meets, cmK, cmN, cD, dC, dA, h0, Ed.known, Ed.more])]

theorem d_last (p o : List UInt8) (n f sg lk : Nat) (hl : lk ≤ 900) (hp : ∀ b ∈ p, b ≠ 10) : ((dC true p o n sg lk).workF mf cD (f + 8) 1).state = 1 ∧ ((dC true p o n sg lk).workF mf cD (f + 8) 1).out = o ++ p ++ [10] := by
  have h0 : lk ≠ 1000 := by omega
  have h1 : lk + 1 ≠ 1000 := by omega
  have h2 : lk + 1 + 1 ≠ 1000 := by omega
  rw [show f + 8 = (f + 7) + 1 from rfl, w1_cmd _ _ (by simp [dC, cD])]
  rw [show f + 7 = (f + 6) + 1 from rfl, w2_1 _ _ ⟨[], false, true, n, txt p, emp, o, 0, [], [false, false, false], 1, 2, lk + 1, false, 0⟩ (by
    simp [Ed.command, Ed.choose, Ed.selects, Ed.meets, cmK, cmN, cD, dC, h0, Ed.known, Ed.more, Ed.jump])]
  rw [show f + 6 = (f + 5) + 1 from rfl, w1_cmd _ _ (by simp [cD])]
  rw [show f + 5 = (f + 4) + 1 from rfl, w2_1 _ _ ⟨[], false, true, n, txt p, emp, o ++ p ++ [10], 0, [], [false, false, false], 2, 3, lk + 1 + 1, false, 0⟩ (by
    simp [Ed.command, Ed.choose, Ed.selects, Ed.meets, cmK, cmN, cD, h1, Ed.jump, Ed.doIt, Ed.edit, Ed.print, first_line p hp, row_txt])]
  rw [show f + 4 = (f + 3) + 1 from rfl, w1_cmd _ _ (by simp [cD])]
  rw [show f + 3 = (f + 2) + 1 from rfl, w2_3 _ _ ⟨[], false, true, n, txt p, emp, o ++ p ++ [10], 0, [], [false, false, false], 2, 3, lk + 1 + 1 + 1, false, 0⟩ (by
    simp [Ed.command, Ed.choose, Ed.selects, Ed.meets, cmK, cmN, cD, h2, Ed.jump, Ed.doIt, drop_line p hp])]
  rw [show f + 2 = (f + 1) + 1 from rfl, w4 _ _ (by simp [Ed.printComing, Ed.printAll]), w0_end _ _ (by simp [Ed.printComing, Ed.printAll, Ed.atHand]) (by simp [Ed.printComing, Ed.printAll, Ed.more])]
  exact ⟨rfl, rfl⟩

theorem d_reads (wh en : Bool) (nx p o : List UInt8) (n lk f : Nat) (hp : ∀ b ∈ p, b ≠ 10) (hl : p.length ≤ 39) (hn : nx.length ≤ 39) (h : wh = true ∨ en = true) :
    Ed.workF mf cD (f + 5) 2 ⟨nx, wh, en, n, txt p, emp, o, 0, [], [false, false, false], 0, 4, lk, false, 0⟩ = (dC en nx (o ++ p ++ [10]) (n + 1) 3 2).workF mf cD f 1 := by
  have hsz : ¬ 80 < (txt (p ++ 10 :: nx)).size := by rw [txt_size, List.length_append, List.length_cons]; omega
  have hnx : ¬ 80 < nx.length := by omega
  rw [show f + 5 = (f + 4) + 1 from rfl, w2_1 _ _ ⟨[], false, en, n + 1, txt (p ++ 10 :: nx), emp, o, 0, [], [false, false, false], 1, 4, 0, false, 0⟩ (by
    rcases h with rfl | rfl <;> simp [Ed.command, Ed.choose, Ed.doIt, Ed.doNext, Ed.atHand, Ed.readBy, Ed.tooLong, Ed.read, Ed.way, Ed.grow, Ed.become, join_two, hsz, hnx, cmN, cmK, cD, Ed.jump])]
  exact d_joined en p nx o (n + 1) f 4 hp

theorem d_bytes : ∀ (l nx p o : List UInt8) (n lk : Nat), (∀ b ∈ l, b ≠ 10) → nx.length + l.length ≤ 80 → (dB nx p o n lk).feed mf cD l = dB (nx ++ l) p o n lk
  | [], nx, p, o, n, lk, _, _ => by rw [feed_nil, List.append_nil]
  | b :: l, nx, p, o, n, lk, hb, hl => by
    have hb0 := hb b (by simp)
    simp only [List.length_cons] at hl
    have e : (dB nx p o n lk).feed1 mf cD b = dB (nx ++ [b]) p o n lk := by
      have hnx : ¬ 80 < nx.length + 1 := by omega
      unfold Ed.feed1
      rw [if_pos (by simp [Ed.takes, dB])]
      unfold Ed.work
      have ea : (dB nx p o n lk).add b = dB (nx ++ [b]) p o n lk := by simp [Ed.add, hb0, dB]
      rw [ea, if_neg (by simp [dB]), show (10000 : Nat) = 9999 + 1 from rfl, w2_0 _ _ (dB (nx ++ [b]) p o n lk) (by
        simp [Ed.command, Ed.choose, Ed.doIt, Ed.doNext, Ed.atHand, Ed.tooLong, cmN, cmK, cD, dB, hnx])]
    rw [feed_cons, e, d_bytes l (nx ++ [b]) p o n lk (fun c hc => hb c (by simp [hc])) (by simp; omega)]
    simp

theorem d_more (b : UInt8) (p o : List UInt8) (n lk : Nat) (hb : b ≠ 10) : (dA p o n lk).feed1 mf cD b = dB [b] p o n lk := by
  unfold Ed.feed1
  rw [if_pos (by simp [Ed.takes, dA])]
  unfold Ed.work
  have ea : (dA p o n lk).add b = ⟨[b], false, false, n, txt p, emp, o, 0, [], [false, false, false], 0, 2, lk, false, 0⟩ := by simp [Ed.add, hb, dA]
  rw [ea, if_neg (by simp), show (10000 : Nat) = 9999 + 1 from rfl, w2_0 _ _ (dB [b] p o n lk) (by
    simp [Ed.command, Ed.choose, Ed.selects, Ed.meets, Ed.known, Ed.more, Ed.doIt, Ed.doNext, Ed.atHand, Ed.tooLong, cmN, cmK, cD, dB])]
theorem d_empty (p o : List UInt8) (n lk f : Nat) : Ed.workF mf cD (f + 1) 2 ⟨[], true, false, n, txt p, emp, o, 0, [], [false, false, false], 0, 2, lk, false, 0⟩ = Ed.workF mf cD (f + 1) 2 ⟨[], true, false, n, txt p, emp, o, 0, [], [false, false, false], 0, 4, lk, false, 0⟩ := by
  have e : Ed.command mf cD ⟨[], true, false, n, txt p, emp, o, 0, [], [false, false, false], 0, 2, lk, false, 0⟩ = Ed.command mf cD ⟨[], true, false, n, txt p, emp, o, 0, [], [false, false, false], 0, 4, lk, false, 0⟩ := by
    simp [Ed.command, Ed.choose, Ed.selects, Ed.meets, Ed.known, Ed.more, Ed.doIt, Ed.doNext, cmN, cmK, cD]
  simp only [Ed.workF, e]

theorem d_line (l p o : List UInt8) (n lk : Nat) (hp : okL 39 p) (hl : okL 39 l) : (dA p o n lk).feed mf cD (l ++ [10]) = dA l (o ++ p ++ [10]) (n + 1) 3 := by
  have key : ∀ (nx : List UInt8) (hn : nx.length ≤ 39), Ed.workF mf cD 10000 2 ⟨nx, true, false, n, txt p, emp, o, 0, [], [false, false, false], 0, 4, lk, false, 0⟩ = dA nx (o ++ p ++ [10]) (n + 1) 3 := fun nx hn => by
    rw [show (10000 : Nat) = 9995 + 5 from rfl, d_reads true false nx p o n lk _ hp.1 hp.2 hn (.inl rfl), show (9995 : Nat) = 9993 + 2 from rfl, d_wait _ _ _ _ _ _ (by omega)]
  cases l with
  | nil =>
    rw [List.nil_append, feed_cons, feed_nil]
    unfold Ed.feed1
    rw [if_pos (by simp [Ed.takes, dA])]
    unfold Ed.work
    have ea : (dA p o n lk).add 10 = ⟨[], true, false, n, txt p, emp, o, 0, [], [false, false, false], 0, 2, lk, false, 0⟩ := by simp [Ed.add, dA]
    rw [ea, if_neg (by simp), show (10000 : Nat) = 9999 + 1 from rfl, d_empty]
    exact key [] (by simp)
  | cons b l =>
    have hb0 := hl.1 b (by simp)
    have hl2 := hl.2
    simp only [List.length_cons] at hl2
    rw [List.cons_append, feed_cons, d_more b p o n lk hb0, feed_app, d_bytes l [b] p o n lk (fun c hc => hl.1 c (by simp [hc])) (by simp; omega), feed_cons, feed_nil]
    unfold Ed.feed1
    rw [if_pos (by simp [Ed.takes, dB])]
    unfold Ed.work
    have ea : (dB ([b] ++ l) p o n lk).add 10 = ⟨b :: l, true, false, n, txt p, emp, o, 0, [], [false, false, false], 0, 4, lk, false, 0⟩ := by simp [Ed.add, dB]
    rw [ea, if_neg (by simp)]
    exact key (b :: l) (by simp; omega)

theorem d_lines : ∀ (ls : List (List UInt8)) (p o : List UInt8) (n lk : Nat), okL 39 p → (∀ l ∈ ls, okL 39 l) → lk ≤ 3 → ∃ p' o' n' lk', (dA p o n lk).feed mf cD (joinN ls) = dA p' o' n' lk' ∧ okL 39 p' ∧ lk' ≤ 3 ∧ o' ++ p' ++ [10] = o ++ p ++ [10] ++ joinN ls
  | [], p, o, n, lk, hp, _, hk => ⟨p, o, n, lk, rfl, hp, hk, by simp [joinN]⟩
  | l :: ls, p, o, n, lk, hp, hl, hk => by
    have h1 := hl l (by simp)
    obtain ⟨p', o', n', lk', e1, e2, e3, e4⟩ := d_lines ls l (o ++ p ++ [10]) (n + 1) 3 h1 (fun m hm => hl m (by simp [hm])) (Nat.le_refl _)
    have e : joinN (l :: ls) = (l ++ [10]) ++ joinN ls := by simp [joinN]
    refine ⟨p', o', n', lk', ?_, e2, e3, ?_⟩
    · rw [e, feed_app, d_line l p o n lk hp h1, e1]
    · rw [e4, e]
      simp

theorem d_end (p o : List UInt8) (n lk : Nat) (hp : okL 39 p) (hk : lk ≤ 3) : ((dA p o n lk).endIt mf cD).state = 1 ∧ ((dA p o n lk).endIt mf cD).out = o ++ p ++ [10] := by
  have h : (dA p o n lk).endIt mf cD = Ed.workF mf cD (9999 + 1) 2 ⟨[], false, true, n, txt p, emp, o, 0, [], [false, false, false], 0, 2, lk, false, 0⟩ := by
    unfold Ed.endIt
    rw [if_pos (by simp [Ed.takes, dA])]
    unfold Ed.work
    rw [if_neg (by simp [dA])]
    rfl
  have h1 : lk ≠ 1000 := by omega
  have h2 : lk + 1 ≠ 1000 := by omega
  rw [h, w2_1 _ _ ⟨[], false, true, n, txt p, emp, o, 0, [], [false, false, false], 1, 2, lk, false, 0⟩ (by
    simp [Ed.command, Ed.choose, Ed.selects, Ed.meets, cmK, cmN, cD, Ed.known, Ed.more, Ed.jump])]
  rw [show (9999 : Nat) = 9998 + 1 from rfl, w1_cmd _ _ (by simp [cD])]
  rw [show (9998 : Nat) = 9997 + 1 from rfl, w2_1 _ _ ⟨[], false, true, n, txt p, emp, o ++ p ++ [10], 0, [], [false, false, false], 2, 3, lk + 1, false, 0⟩ (by
    simp [Ed.command, Ed.choose, Ed.selects, Ed.meets, cmK, cmN, cD, h1, Ed.jump, Ed.doIt, Ed.edit, Ed.print, first_line p hp.1, row_txt])]
  rw [show (9997 : Nat) = 9996 + 1 from rfl, w1_cmd _ _ (by simp [cD])]
  rw [show (9996 : Nat) = 9995 + 1 from rfl, w2_3 _ _ ⟨[], false, true, n, txt p, emp, o ++ p ++ [10], 0, [], [false, false, false], 2, 3, lk + 1 + 1, false, 0⟩ (by
    simp [Ed.command, Ed.choose, Ed.selects, Ed.meets, cmK, cmN, cD, h2, Ed.jump, Ed.doIt, drop_line p hp.1])]
  rw [show (9995 : Nat) = 9994 + 1 from rfl, w4 _ _ (by simp [Ed.printComing, Ed.printAll]), show (9994 : Nat) = 9993 + 1 from rfl, w0_end _ _ (by simp [Ed.printComing, Ed.printAll, Ed.atHand]) (by simp [Ed.printComing, Ed.printAll, Ed.more])]
  exact ⟨rfl, rfl⟩
theorem d_endT (t p o : List UInt8) (n lk : Nat) (hp : okL 39 p) (ht : okL 39 t) (h0 : t ≠ []) : (((dA p o n lk).feed mf cD t).endIt mf cD).state = 1 ∧ (((dA p o n lk).feed mf cD t).endIt mf cD).out = o ++ p ++ [10] ++ t ++ [10] := by
  cases t with
  | nil => exact absurd rfl h0
  | cons b l =>
    have hb0 := ht.1 b (by simp)
    have hl2 := ht.2
    simp only [List.length_cons] at hl2
    rw [feed_cons, d_more b p o n lk hb0, d_bytes l [b] p o n lk (fun c hc => ht.1 c (by simp [hc])) (by simp; omega)]
    have h : (dB ([b] ++ l) p o n lk).endIt mf cD = Ed.workF mf cD (9995 + 5) 2 ⟨b :: l, false, true, n, txt p, emp, o, 0, [], [false, false, false], 0, 4, lk, false, 0⟩ := by
      unfold Ed.endIt
      rw [if_pos (by simp [Ed.takes, dB])]
      unfold Ed.work
      rw [if_neg (by simp [dB])]
      rfl
    rw [h, d_reads false true (b :: l) p o n lk _ hp.1 hp.2 (by simp; omega) (.inr rfl), show (9995 : Nat) = 9987 + 8 from rfl]
    exact d_last _ _ _ _ _ _ (by omega) ht.1

theorem d_first (l : List UInt8) (hl : okL 39 l) : (ed0 cD).feed mf cD (l ++ [10]) = dA l [] 1 1 := by
  rw [line_fed (ed0 cD) (ed0_rz cD) l ⟨hl.1, Nat.le_trans hl.2 (by decide), Nat.le_trans hl.2 (by decide)⟩]
  exact d_wait l [] 1 9997 0 0 (by omega)
theorem d_firstT (l : List UInt8) (hl : okL 39 l) (h0 : l ≠ []) : (((ed0 cD).feed mf cD l).endIt mf cD).state = 1 ∧ (((ed0 cD).feed mf cD l).endIt mf cD).out = l ++ [10] := by
  rw [end_tail (ed0 cD) (ed0_rz cD) l ⟨hl.1, Nat.le_trans hl.2 (by decide), Nat.le_trans hl.2 (by decide)⟩ h0]
  exact d_last l [] 1 9991 0 0 (by omega) hl.1

theorem makes_D (ls : List (List UInt8)) (t : List UInt8) (hl : ∀ l ∈ ls, okL 39 l) (ht : okL 39 t) : Makes mf scD false (inOf ls t) (wantOf ls t) := by
  refine ⟨opens_of read_scD _ _ _ alw_wide, ?_⟩
  have ec : cfO scD 80 80 1000 false = cD := cf_of read_scD 80 80 1000 false
  unfold made inOf wantOf
  rw [ec]
  unfold fin
  cases ls with
  | nil =>
    by_cases h0 : t = []
    · subst h0
      exact ⟨rfl, rfl⟩
    · have := d_firstT (mf := mf) t ht h0
      simpa [joinN, h0] using this
  | cons l ls =>
    have h1 := hl l (by simp)
    obtain ⟨p', o', n', lk', e1, e2, e3, e4⟩ := d_lines (mf := mf) ls l [] 1 1 h1 (fun m hm => hl m (by simp [hm])) (by omega)
    have e : joinN (l :: ls) = (l ++ [10]) ++ joinN ls := by simp [joinN]
    rw [feed_app, e, feed_app, d_first l h1, e1]
    by_cases h0 : t = []
    · subst h0
      rw [feed_nil, if_pos rfl]
      obtain ⟨k1, k2⟩ := d_end (mf := mf) p' o' n' lk' e2 e3
      refine ⟨k1, ?_⟩
      rw [k2, e4]
      simp
    · rw [if_neg h0]
      obtain ⟨k1, k2⟩ := d_endT (mf := mf) t p' o' n' lk' e2 ht h0
      refine ⟨k1, ?_⟩
      rw [k2, e4]
      simp
end
end Ee
end Go.Proofs.YtppjlpihaocdiaaGreatDoor

set_option linter.unusedSimpArgs false
set_option linter.unusedVariables false
namespace Go.Proofs.YtppjlpihaocdiaaGreatDoor
namespace Ee
open Go.RowKit
open Rs (Cm Wh Pc own_of CmdsIn readR)

theorem okL_mono {m k : Nat} {l : List UInt8} (h : okL m l) (hk : m ≤ k) : okL k l := ⟨h.1, Nat.le_trans h.2 hk⟩
theorem okL_line (m : Nat) (l : List UInt8) : okL m (lineF m l) := ⟨fun b hb => lineF_mem hb, lineF_len _ _⟩

theorem in_small {m k : Nat} {ls : List (List UInt8)} (h : Lins m ls) (hl : ls.length ≤ k) (hk : k ≤ 20) (hm : m ≤ 80) : (joinN ls).length ≤ 2000 := by
  have h1 := joinN_len m ls fun l hl => (h l hl).1
  have h2 : ls.length * (m + 1) ≤ 20 * 81 := Nat.mul_le_mul (by omega) (by omega)
  omega

set_option maxRecDepth 100000 in
set_option maxHeartbeats 4000000 in
theorem same_any (mf : Mf) (hm : MfOk mf) (ao : Option Addr) (n cap : Nat) (tl : ByteArray) (w : World) (hI : Strs w ao n) (hs : tl.size ≤ maxLen) (ht : Tab w) :
    Calls Tryz.prog 9 #[.slice ao n cap, .string tl] w fun e w' => e = .returned (.bool true) ∧ Below w.heap.size w w' := by
  have HT : Hid (Tab w) := ht
  have HMK : Hid (∀ (s : ByteArray) (q : Bool) (inp want : ByteArray) (W : World), s.size ≤ maxLen → inp.size ≤ 1048576 → Tab W → Makes mf s q (row inp) (row want) → Calls Tryz.prog 25 #[.string s, .bool q, .string inp, .string want] W fun e w' => e = .returned (.bool true) ∧ Below W.heap.size W w') := fun s q inp want W h1 h2 h3 h4 => makes_true mf hm s inp want q W h1 h2 h3 h4
  have hL := lines_any ao n cap 12 39 w hI (by omega) (by omega)
  have HLn : Hid (∀ W : World, Calls Tryz.prog 36 #[.string tl, .int .i64 39] W fun e w' => e = .returned (.string (txt (lineF 39 (row tl)))) ∧ Below W.heap.size W w') := fun W => line_any tl 39 W hs (by omega)
  clear ht hm hI hs
  go_enter Tryz.func9, Tryz.ntmps9
  go_wp2_with fail
  refine hL.mono ?_
  rintro e w1 ⟨lv, ls, rfl, hb1, hown, hlen, hlins⟩
  have HB1 : Hid (Below w.heap.size w w1) := hb1
  have HLs : Hid (∀ l ∈ ls, okL 39 l) := lins_ok hlins
  have hjl : (joinN ls).length ≤ 2000 := in_small hlins hlen (by omega) (by omega)
  have hL2 := HLn.out w1
  clear hL hb1 hown hlins
  go_wp2_with fail
  refine hL2.mono ?_
  rintro e w2 ⟨rfl, hb2⟩
  have HB2 : Hid (Below w.heap.size w w2) := HB1.out.trans (hb2.mono HB1.out.size)
  clear hL2 hb2
  have HTl : Hid (okL 39 (lineF 39 (row tl))) := okL_line _ _
  have htl : (lineF 39 (row tl)).length ≤ 39 := lineF_len _ _
  generalize lineF 39 (row tl) = t at *
  have htj : (txt (joinN ls)).size ≤ 2000 := by rw [txt_size]; exact hjl
  have htt : (txt t).size ≤ 39 := by rw [txt_size]; exact htl
  have hadd : ∀ W : World, (Op.stringOp .add (txt (joinN ls)) (txt t)).run Tryz.prog W = .ok (.string (txt (inOf ls t))) W := fun W => by
    rw [run_string_add_sum (P := Tryz.prog) (w := W) _ _ (by omega), txt_append]
    rfl
  have hadd2 : ∀ W : World, (Op.stringOp .add (txt (inOf ls t)) ⟨#[10]⟩).run Tryz.prog W = .ok (.string (txt (inOf ls t ++ [10]))) W := fun W => by
    have e : (⟨#[10]⟩ : ByteArray) = txt [10] := rfl
    rw [run_string_add_sum (P := Tryz.prog) (w := W) _ _ (by
      have e2 : (⟨#[10]⟩ : ByteArray).size = 1 := rfl
      rw [txt_size, e2]
      unfold inOf
      rw [List.length_append]
      omega), e, txt_append]
  have hin : (txt (inOf ls t)).size ≤ 1048576 := by
    rw [txt_size]
    unfold inOf
    rw [List.length_append]
    omega
  have H1 : Hid (∀ W, Tab W → Calls Tryz.prog 25 #[.string ⟨#[]⟩, .bool false, .string (txt (inOf ls t)), .string (txt (wantOf ls t))] W fun e w' => e = .returned (.bool true) ∧ Below W.heap.size W w') := fun W hW => HMK.out scE false _ _ W (by decide) hin hW (by
    rw [row_txt, row_txt]
    exact makes_E false ls t (fun l hl => okL_mono (HLs.out l hl) (by omega)) (okL_mono HTl.out (by omega)))
  have H2 : Hid (∀ W, Tab W → Calls Tryz.prog 25 #[.string ⟨#[36, 33, 78, 59, 80, 59, 68]⟩, .bool false, .string (txt (inOf ls t)), .string (txt (wantOf ls t))] W fun e w' => e = .returned (.bool true) ∧ Below W.heap.size W w') := fun W hW => HMK.out scD false _ _ W (by decide) hin hW (by
    rw [row_txt, row_txt]
    exact makes_D ls t HLs.out HTl.out)
  have H3 : Hid (∀ W, Tab W → Calls Tryz.prog 25 #[.string ⟨#[112]⟩, .bool true, .string (txt (inOf ls t)), .string (txt (wantOf ls t))] W fun e w' => e = .returned (.bool true) ∧ Below W.heap.size W w') := fun W hW => HMK.out scP true _ _ W (by decide) hin hW (by
    rw [row_txt, row_txt]
    exact makes_P ls t (fun l hl => okL_mono (HLs.out l hl) (by omega)) (okL_mono HTl.out (by omega)))
  have H4 : Hid (∀ W, Tab W → Calls Tryz.prog 25 #[.string ⟨#[]⟩, .bool true, .string (txt (inOf ls t)), .string ⟨#[]⟩] W fun e w' => e = .returned (.bool true) ∧ Below W.heap.size W w') := fun W hW => HMK.out scE true _ ⟨#[]⟩ W (by decide) hin hW (by
    rw [row_txt]
    exact makes_E true ls t (fun l hl => okL_mono (HLs.out l hl) (by omega)) (okL_mono HTl.out (by omega)))
  have HW : Hid ((t = [] ∧ txt t = ⟨#[]⟩ ∧ txt (wantOf ls t) = txt (joinN ls)) ∨ ((txt t).toList.isEmpty = false ∧ txt (wantOf ls t) = txt (inOf ls t ++ [10]))) := by
    show _ ∨ _
    by_cases h0 : t = []
    · refine .inl ⟨h0, by rw [h0]; rfl, ?_⟩
      unfold wantOf
      rw [if_pos h0]
    · refine .inr ⟨?_, ?_⟩
      · cases t with
        | nil => exact absurd rfl h0
        | cons b l =>
          have e : (txt (b :: l)).toList = b :: l := by
            rw [ByteArray.toList_eq]
            simp [txt]
          rw [e]
          rfl
      · unfold wantOf inOf
        rw [if_neg h0]
  clear HLs HTl hjl htl htj htt hin HMK HLn hlen
  rcases HW.out with ⟨h0, e1, e2⟩ | ⟨h0, e1⟩
  · clear HW
    have e3 : inOf ls t = joinN ls := by rw [h0]; simp [inOf]
    rw [e3] at hadd hadd2 H1 H2 H3 H4
    rw [e2] at H1 H2 H3
    rw [e1] at hadd
    rw [e1]
    clear h0 e1 e2 e3 hadd2
    generalize txt (joinN ls) = J at *
    go_wp2_with fail
    refine (H1.out w2 (HT.out.below HB2.out)).mono ?_
    rintro e w3 ⟨rfl, hb3⟩
    have HB3 : Hid (Below w.heap.size w w3) := HB2.out.trans (hb3.mono HB2.out.size)
    clear hb3
    go_wp2_with fail
    refine (H2.out w3 (HT.out.below HB3.out)).mono ?_
    rintro e w4 ⟨rfl, hb4⟩
    have HB4 : Hid (Below w.heap.size w w4) := HB3.out.trans (hb4.mono HB3.out.size)
    clear hb4
    go_wp2_with fail
    refine (H3.out w4 (HT.out.below HB4.out)).mono ?_
    rintro e w5 ⟨rfl, hb5⟩
    have HB5 : Hid (Below w.heap.size w w5) := HB4.out.trans (hb5.mono HB4.out.size)
    clear hb5
    go_wp2_with fail
    refine (H4.out w5 (HT.out.below HB5.out)).mono ?_
    rintro e w6 ⟨rfl, hb6⟩
    have HB6 : Hid (Below w.heap.size w w6) := HB5.out.trans (hb6.mono HB5.out.size)
    clear hb6
    go_wp2_with fail
    go_ret
    exact ⟨rfl, HB6.out⟩
  · clear HW
    rw [e1] at H1 H2 H3
    clear e1
    generalize txt (inOf ls t ++ [10]) = J at *
    generalize txt (inOf ls t) = I at *
    generalize txt (joinN ls) = I0 at *
    generalize txt t = T at *
    go_wp2_with fail
    refine (H1.out w2 (HT.out.below HB2.out)).mono ?_
    rintro e w3 ⟨rfl, hb3⟩
    have HB3 : Hid (Below w.heap.size w w3) := HB2.out.trans (hb3.mono HB2.out.size)
    clear hb3
    go_wp2_with fail
    refine (H2.out w3 (HT.out.below HB3.out)).mono ?_
    rintro e w4 ⟨rfl, hb4⟩
    have HB4 : Hid (Below w.heap.size w w4) := HB3.out.trans (hb4.mono HB3.out.size)
    clear hb4
    go_wp2_with fail
    refine (H3.out w4 (HT.out.below HB4.out)).mono ?_
    rintro e w5 ⟨rfl, hb5⟩
    have HB5 : Hid (Below w.heap.size w w5) := HB4.out.trans (hb5.mono HB4.out.size)
    clear hb5
    go_wp2_with fail
    refine (H4.out w5 (HT.out.below HB5.out)).mono ?_
    rintro e w6 ⟨rfl, hb6⟩
    have HB6 : Hid (Below w.heap.size w w6) := HB5.out.trans (hb6.mono HB5.out.size)
    clear hb6
    go_wp2_with fail
    go_ret
    exact ⟨rfl, HB6.out⟩
end Ee
end Go.Proofs.YtppjlpihaocdiaaGreatDoor
