/- Several texts in one. -/
import Derived.Test.YtppjlpihaocdiaaGreatDoorEgGH
import Derived.Test.YtppjlpihaocdiaaGreatDoorOwnLaidH
import Derived.SliceStrings
import Derived.KernelRfl
import Derived.Deep.RegionHeldLaw
set_option linter.unusedSimpArgs false
set_option linter.unusedVariables false
namespace Go.Proofs.YtppjlpihaocdiaaGreatDoor
namespace Ee
open Go.RowKit
open Rs (Cm Wh Pc own_of CmdsIn readR)
def noNl (l : List UInt8) : List UInt8 := l.filter fun b => b != 10
def lineF (n : Nat) (l : List UInt8) : List UInt8 := (noNl l).take n
theorem noNl_take_le (l : List UInt8) (i : Nat) : ∃ m, noNl l = noNl (l.take i) ++ m := ⟨noNl (l.drop i), by
  unfold noNl
  rw [← List.filter_append, List.take_append_drop]⟩
theorem lineF_full {l : List UInt8} {n i : Nat} (h : (noNl (l.take i)).length = n) : lineF n l = noNl (l.take i) := by
  obtain ⟨m, hm⟩ := noNl_take_le l i
  unfold lineF
  rw [hm, ← h, List.take_left]
theorem lineF_all {l : List UInt8} {n : Nat} (h : (noNl l).length ≤ n) : lineF n l = noNl l := List.take_of_length_le h
theorem noNl_step (s : ByteArray) (i : Nat) (h : i < s.size) : noNl ((row s).take (i + 1)) = noNl ((row s).take i) ++ (if s[i] = 10 then [] else [s[i]]) := by
  have e : (row s).take (i + 1) = (row s).take i ++ [s[i]] := by
    rw [List.take_add_one]
    have : (row s)[i]? = some s[i] := by
      unfold row
      rw [List.getElem?_eq_getElem (by simpa using h)]
      rfl
    rw [this, Option.toList_some]
  rw [e]
  unfold noNl
  rw [List.filter_append]
  congr 1
  by_cases hb : s[i] = 10
  · simp [hb]
  · simp [hb]
theorem lineF_mem {n : Nat} {l : List UInt8} {b : UInt8} (h : b ∈ lineF n l) : b ≠ 10 := by
  have := List.mem_of_mem_take h
  unfold noNl at this
  rw [List.mem_filter] at this
  simpa using this.2
theorem lineF_len (n : Nat) (l : List UInt8) : (lineF n l).length ≤ n := by unfold lineF; rw [List.length_take]; omega
structure Ln (w wr : World) (s : ByteArray) (n i : Nat) (lv : Value) (zs : List UInt8) : Prop where
  below : Below w.heap.size w wr
  own : wr.ownsRow w.heap.size 5 1 lv zs.length (bv zs)
  eq : zs = noNl ((row s).take i)
theorem Ln.more {w wr w7 : World} {o : Obj} {s : ByteArray} {n i gg cap : Nat} {lv : Value} {zs : List UInt8} (h : Ln w wr s n i lv zs) (hi : i < s.size) (hb : s[i] ≠ 10)
    (hown : w7.ownsRow w.heap.size 5 1 (.slice (some ⟨gg, 0, none⟩) (zs.length + 1) cap) (zs.length + 1) (bv zs ++ [.int .u8 (s[i].toNat : Int)])) (hg : (wr.alloc o).grownBy w7 lv.ownBlock) : Ln w w7 s n (i + 1) (.slice (some ⟨gg, 0, none⟩) (zs.length + 1) cap) (zs ++ [s[i]]) := by
  have e : (zs ++ [s[i]]).length = zs.length + 1 := by simp
  refine ⟨h.below.trans ⟨hg.os, hg.tape, hg.output, Nat.le_trans (by simp) hg.size, fun j hj => ?_⟩, by rw [e, bv_snoc]; exact hown, ?_⟩
  · have hj2 := Nat.lt_of_lt_of_le hj h.below.size
    rw [hg.block j (by simp; omega) (fun e => by have := (h.own.lt j e.symm).1; omega), Below.heap_alloc _ _ _ hj2]
  · rw [noNl_step s i hi, if_neg hb, h.eq]
theorem Ln.skip {w wr : World} {s : ByteArray} {n i : Nat} {lv : Value} {zs : List UInt8} (h : Ln w wr s n i lv zs) (hi : i < s.size) (hb : s[i] = 10) : Ln w wr s n (i + 1) lv zs :=
  ⟨h.below, h.own, by rw [noNl_step s i hi, if_pos hb, List.append_nil]; exact h.eq⟩
set_option maxRecDepth 100000 in
set_option maxHeartbeats 4000000 in
theorem line_any (s : ByteArray) (n : Nat) (w : World) (hs : s.size ≤ maxLen) (hn : n ≤ 80) :
    Calls Tryz.prog 36 #[.string s, .int .i64 n] w fun e w' => e = .returned (.string (txt (lineF n (row s)))) ∧ Below w.heap.size w w' := by
  unfold maxLen at hs
  obtain ⟨i0, hi0, hz0, hz1, hz2⟩ := info_parts Rs.Tryz.info5
  have HC0 : Hid (Ln w w s n 0 (.slice none 0 0) []) := ⟨Below.refl _ _, World.ownsRow_nil w _ _ 1, by simp [noNl]⟩
  go_enter Tryz.func36, Tryz.ntmps36
  go_wp2_with fail
  go_loopw [5, 6] (fun x5 x6 wr => ∃ (i : Nat) (zs : List UInt8), i ≤ s.size ∧ zs.length ≤ n ∧ x6 = .int .i64 i ∧ Hid (Ln w wr s n i x5 zs)) (fun _ x6 _ => s.size + 1 - (intOf x6).toNat)
  case atStart => exact ⟨0, [], by omega, by simp, rfl, HC0.out⟩
  case round =>
    obtain ⟨i, zs, hi, hzn, rfl, HL⟩ := hrel
    have hform : ∃ ao cap, u5 = .slice ao zs.length cap := by
      rcases own_form2 HL.out.own with ⟨e, e0⟩ | ⟨g, cap, e, hcap⟩
      · exact ⟨none, 0, by rw [e, e0]⟩
      · exact ⟨_, _, e⟩
    obtain ⟨ao, cap0, rfl⟩ := hform
    have hconv := bytes_txt w.heap.size _ zs wr HL.out.own
    by_cases hlt : i < s.size
    · by_cases hlt2 : zs.length < n
      · have hbb : (s[i]'hlt).toNat < 256 := UInt8.toNat_lt _
        by_cases hb : s[i]'hlt = 10
        · have HF : Hid (Ln w wr s n (i + 1) (.slice ao zs.length cap0) zs) := HL.out.skip hlt hb
          have hq : (((s[i]'hlt).toNat : Int) != 10) = false := by rw [hb]; rfl
          clear hconv
          go_wp2_with fail
          go_roundw
          case rel => exact ⟨i + 1, zs, by omega, by omega, by go_num, HF.out⟩
          case measure => simp [intOf]; omega
        · have hq : (((s[i]'hlt).toNat : Int) != 10) = true := by
            simp only [bne_iff_ne, ne_eq]
            intro h
            exact hb (UInt8.toNat_inj.1 (by show (s[i]'hlt).toNat = 10; omega))
          have HB : Hid (s[i]'hlt ≠ 10) := hb
          clear hconv hb
          go_wp2_with (at_builtin; (refine wpList_append_lies _ rfl _ _ 99 rfl w.heap.size 5 i0 (.int .u8 0) 1 1 Tryz.underlying99 hi0 hz0 hz1 hz2 rfl (by omega) (.slice ao zs.length cap0) zs.length (bv zs) rfl (HL.out.own.alloc _) ⟨wr.heap.size, 0, none⟩ 1 1 [.int .u8 ((s[i]'hlt).toNat : Int)] rfl rfl (cell_one_new wr _ _) (fun x hx => by simp at hx; subst hx; rfl) (by omega) (by unfold maxLen; omega) (by omega) (by have := HL.out.below.size; simp; omega) (wr.heap.size + 1) (by simp) ?_; intro gg cp w7 hown7 hgrow7 hat7 hlt7; clear hlt7 hat7; have HF : Hid (Ln w w7 s n (i + 1) (.slice (some ⟨gg, 0, none⟩) (zs.length + 1) cp) (zs ++ [s[i]'hlt])) := HL.out.more hlt HB.out hown7 hgrow7; clear hown7 hgrow7))
          go_roundw
          case rel => exact ⟨i + 1, _, by omega, by simp; omega, by go_num, HF.out⟩
          case measure => simp [intOf]; omega
      · have hd : decide ((zs.length : Int) < (n : Int)) = false := by simp; omega
        have HE : Hid (txt (lineF n (row s)) = txt zs) := by
          show _ = _
          have e := HL.out.eq
          rw [lineF_full (i := i) (by rw [← e]; omega), ← e]
        go_wp2_with fail
        go_ret
        exact ⟨by rw [HE.out]; rfl, HL.out.below⟩
    · have hd : decide ((i : Int) < (s.size : Int)) = false := by simp; omega
      have HE : Hid (txt (lineF n (row s)) = txt zs) := by
        show _ = _
        have e := HL.out.eq
        have hi2 : (row s).take i = row s := List.take_of_length_le (by rw [row_length]; omega)
        rw [hi2] at e
        rw [lineF_all (by rw [← e]; omega), ← e]
      go_wp2_with fail
      go_ret
      exact ⟨by rw [HE.out]; rfl, HL.out.below⟩
end Ee
end Go.Proofs.YtppjlpihaocdiaaGreatDoor

set_option linter.unusedSimpArgs false
set_option linter.unusedVariables false
namespace Go.Proofs.YtppjlpihaocdiaaGreatDoor
namespace Ee
open Go.RowKit
open Rs (Cm Wh Pc own_of CmdsIn readR)
structure Strs (w : World) (ao : Option Addr) (n : Nat) : Prop where
  cell : 0 < n → ∃ b o, ao = some ⟨b, o, none⟩ ∧ b < w.heap.size ∧ ∀ i, i < n → ∃ x : ByteArray, x.size ≤ maxLen ∧ w.cell? ⟨b, o + i, none⟩ = some (.string x)
  le : n ≤ maxLen
def joinN (ls : List (List UInt8)) : List UInt8 := ls.flatMap fun l => l ++ [10]
theorem joinN_snoc (ls : List (List UInt8)) (l : List UInt8) : joinN (ls ++ [l]) = joinN ls ++ (l ++ [10]) := by simp [joinN]
theorem txt_append (a b : List UInt8) : txt a ++ txt b = txt (a ++ b) := by
  apply ByteArray.ext
  simp [txt]
theorem joinN_len (m : Nat) : ∀ (ls : List (List UInt8)), (∀ l ∈ ls, l.length ≤ m) → (joinN ls).length ≤ ls.length * (m + 1)
  | [], _ => by simp [joinN]
  | a :: ls, h => by
    have h1 := h a (by simp)
    have h2 := joinN_len m ls fun l hl => h l (by simp [hl])
    have e : joinN (a :: ls) = (a ++ [10]) ++ joinN ls := by simp [joinN]
    have e2 : (a :: ls).length * (m + 1) = ls.length * (m + 1) + (m + 1) := by rw [List.length_cons, Nat.add_mul, Nat.one_mul]
    rw [e, List.length_append, List.length_append, e2]
    simp only [List.length_singleton]
    omega
def Lins (m : Nat) (ls : List (List UInt8)) : Prop := ∀ l ∈ ls, l.length ≤ m ∧ ∀ b ∈ l, b ≠ 10
structure Li (w wr : World) (m i : Nat) (lv : Value) (ls : List (List UInt8)) : Prop where
  below : Below w.heap.size w wr
  own : wr.ownsRow w.heap.size 9 1 lv ls.length (sv (ls.map txt))
  len : ls.length = i
  lins : Lins m ls
theorem Li.step {w wr w2 w7 : World} {o : Obj} {m i gg cap : Nat} {lv : Value} {ls : List (List UInt8)} {s : ByteArray} (h : Li w wr m i lv ls) (hb2 : Below wr.heap.size wr w2)
    (hown : w7.ownsRow w.heap.size 9 1 (.slice (some ⟨gg, 0, none⟩) (ls.length + 1) cap) (ls.length + 1) (sv (ls.map txt) ++ [.string (txt (lineF m (row s)))])) (hg : (w2.alloc o).grownBy w7 lv.ownBlock) : Li w w7 m (i + 1) (.slice (some ⟨gg, 0, none⟩) (ls.length + 1) cap) (ls ++ [lineF m (row s)]) := by
  have e : (ls ++ [lineF m (row s)]).length = ls.length + 1 := by simp
  have hb3 : Below w.heap.size w w2 := h.below.trans (hb2.mono h.below.size)
  refine ⟨hb3.trans ⟨hg.os, hg.tape, hg.output, Nat.le_trans (by simp) hg.size, fun j hj => ?_⟩, by rw [e, List.map_append, List.map_cons, List.map_nil, sv_snoc]; exact hown, by rw [e, h.len], fun l hl => ?_⟩
  · have hj2 := Nat.lt_of_lt_of_le hj hb3.size
    rw [hg.block j (by simp; omega) (fun e => by have := (h.own.lt j e.symm).1; omega), Below.heap_alloc _ _ _ hj2]
  · rcases List.mem_append.1 hl with hl | hl
    · exact h.lins l hl
    · have : l = lineF m (row s) := by simpa using hl
      subst this
      exact ⟨lineF_len _ _, fun b hb => lineF_mem hb⟩
def LiQ (k m n : Nat) (w : World) : Ending → World → Prop := fun e w' => ∃ lv ls, e = .returned (.tuple #[lv, .string (txt (joinN ls))]) ∧ Below w.heap.size w w' ∧ w'.ownsRow w.heap.size 9 1 lv ls.length (sv (ls.map txt)) ∧ ls.length ≤ k ∧ Lins m ls
set_option maxRecDepth 100000 in
set_option maxHeartbeats 4000000 in
theorem lines_any (ao : Option Addr) (n cap k m : Nat) (w : World) (hI : Strs w ao n) (hk : k ≤ 20) (hm : m ≤ 80) :
    Calls Tryz.prog 34 #[.slice ao n cap, .int .i64 k, .int .i64 m] w (LiQ k m n w) := by
  obtain ⟨i0, hi0, hz0, hz1, hz2⟩ := info_parts Tryz.infoStr
  have HI : Hid (Strs w ao n) := hI
  have hn := hI.le
  unfold maxLen at hn
  have HC0 : Hid (Li w w m 0 (.slice none 0 0) []) := ⟨Below.refl _ _, World.ownsRow_nil w _ _ 1, rfl, fun l hl => by simp at hl⟩
  clear hI
  go_enter Tryz.func34, Tryz.ntmps34
  go_wp2_with fail
  go_loopw [8, 9, 10] (fun x8 x9 x10 wr => ∃ (i : Nat) (ls : List (List UInt8)), i ≤ n ∧ i ≤ k ∧ x9 = .string (txt (joinN ls)) ∧ x10 = .int .i64 i ∧ Hid (Li w wr m i x8 ls)) (fun _ _ x10 _ => n + 1 - (intOf x10).toNat)
  case atStart => exact ⟨0, [], by omega, by omega, rfl, rfl, HC0.out⟩
  case round =>
    obtain ⟨i, ls, hi, hik, rfl, rfl, HL⟩ := hrel
    have hll : ls.length = i := HL.out.len
    have HX : Hid (LiQ k m n w (.returned (.tuple #[u8, .string (txt (joinN ls))])) wr) := ⟨_, ls, rfl, HL.out.below, HL.out.own, by omega, HL.out.lins⟩
    by_cases hlt : i < n
    · by_cases hlt2 : i < k
      · obtain ⟨gb, go, hao, hgl, hcs⟩ := HI.out.cell (by omega)
        obtain ⟨x, x1, x3⟩ := hcs i hlt
        subst hao
        have xr : wr.cell? ⟨gb, go + i, none⟩ = some (.string x) := (World.cell?_of_block (w := w) (w' := wr) (a := ⟨gb, go + i, none⟩) (HL.out.below.block gb hgl)).trans x3
        clear hcs x3
        have hL := line_any x m wr x1 hm
        have hjl : (joinN ls).length ≤ 2000 := by
          have h1 := joinN_len m ls fun l hl => (HL.out.lins l hl).1
          have h2 : ls.length * (m + 1) ≤ 20 * 81 := Nat.mul_le_mul (by omega) (by omega)
          omega
        have hzl : (txt (lineF m (row x))).size ≤ 80 := by rw [txt_size]; exact Nat.le_trans (lineF_len _ _) hm
        have htl : (txt (joinN ls)).size ≤ 2000 := by rw [txt_size]; exact hjl
        have HJ : Hid (txt (joinN (ls ++ [lineF m (row x)])) = txt (joinN ls) ++ txt (lineF m (row x)) ++ ⟨#[10]⟩) := by
          show _ = _
          rw [joinN_snoc, ← txt_append, ← txt_append, ByteArray.append_assoc]
          rfl
        clear hjl
        have hadd : ∀ W : World, (Op.stringOp .add (txt (joinN ls)) (txt (lineF m (row x)))).run Tryz.prog W = .ok (.string (txt (joinN ls) ++ txt (lineF m (row x)))) W := fun W => run_string_add_sum (P := Tryz.prog) (w := W) _ _ (by omega)
        have hadd2 : ∀ W : World, (Op.stringOp .add (txt (joinN ls) ++ txt (lineF m (row x))) ⟨#[10]⟩).run Tryz.prog W = .ok (.string (txt (joinN ls) ++ txt (lineF m (row x)) ++ ⟨#[10]⟩)) W := fun W => run_string_add_sum (P := Tryz.prog) (w := W) _ _ (by
          have e1 : (txt (joinN ls) ++ txt (lineF m (row x))).size = (txt (joinN ls)).size + (txt (lineF m (row x))).size := ByteArray.size_append
          have e2 : (⟨#[10]⟩ : ByteArray).size = 1 := rfl
          omega)
        clear htl hzl
        go_wp2_with fail
        refine hL.mono ?_
        rintro e w2 ⟨rfl, hb2⟩
        have HB2 : Hid (Below wr.heap.size wr w2) := hb2
        have HO2 : Hid (w2.ownsRow w.heap.size 9 1 u8 ls.length (sv (ls.map txt))) := own_of HL.out.own fun j hj => hb2.block j (HL.out.own.lt j hj).2
        have hsz2 : w.heap.size ≤ w2.heap.size := Nat.le_trans HL.out.below.size hb2.size
        clear hL hb2
        generalize hT1 : txt (lineF m (row x)) = T1 at *
        generalize hT0 : txt (joinN ls) = T0 at *
        go_wp2_with (at_builtin; (refine wpList_append_lies _ rfl _ _ 62 rfl w.heap.size 9 i0 (.string ⟨#[]⟩) 1 16 Tryz.underlying62 hi0 hz0 hz1 hz2 rfl (by omega) u8 ls.length (sv (ls.map txt)) rfl (HO2.out.alloc _) ⟨w2.heap.size, 0, none⟩ 1 1 [.string T1] rfl rfl (cell_one_new w2 _ _) (fun x hx => by simp at hx; subst hx; rfl) (by omega) (by unfold maxLen; omega) (by omega) (by simp; omega) (w2.heap.size + 1) (by simp) ?_; intro gg cp w7 hown7 hgrow7 hat7 hlt7; clear hlt7 hat7; have HF : Hid (Li w w7 m (i + 1) (.slice (some ⟨gg, 0, none⟩) (ls.length + 1) cp) (ls ++ [lineF m (row x)])) := HL.out.step HB2.out (by rw [hT1]; exact hown7) hgrow7; clear hown7 hgrow7))
        go_roundw
        case rel => exact ⟨i + 1, _, by omega, by omega, by rw [HJ.out], by go_num, by have h9 := HF.out; rw [hll] at h9; exact h9⟩
        case measure => simp [intOf]; omega
      · have hd : decide ((i : Int) < (k : Int)) = false := by simp; omega
        go_wp2_with fail
        exact bodyPost_ret (v := .tuple #[u8, .string (txt (joinN ls))]) (by simp [results, Tryz.results34, go_sem]) rfl HX.out
    · have hd : decide ((i : Int) < (n : Int)) = false := by simp; omega
      go_wp2_with fail
      exact bodyPost_ret (v := .tuple #[u8, .string (txt (joinN ls))]) (by simp [results, Tryz.results34, go_sem]) rfl HX.out
end Ee
end Go.Proofs.YtppjlpihaocdiaaGreatDoor

set_option linter.unusedSimpArgs false
set_option linter.unusedVariables false
set_option maxRecDepth 100000
namespace Go.Proofs.YtppjlpihaocdiaaGreatDoor
namespace Ee
open Go.ChangeShapes Go.WideShapes Go.ChangeAt Go.RowKit
theorem cells_str : Tryz.prog.cellsOf 9 = 1 := by kernel_rfl
theorem open_texts {H : Type} {enc : TypeId × Value → H} {W : World} {base : Nat} {v : Value} {d : DataW H} {p : List MemPlace} (hv : Value.okWide Tryz.prog W .any base 62 v) (h : DataW.Trod enc Tryz.prog W 0 (fun _ => true) true 62 v d p) : ∃ ao n cp, v = .slice ao n cp ∧ Strs W ao n := by
  obtain ⟨a1, len, cap, rfl⟩ := okWide_slice Tryz.underlying62 hv
  refine ⟨a1, len, cap, rfl, ?_⟩
  obtain ⟨fuel, hf⟩ := h
  rcases open_strings Tryz.underlying62 Tryz.underlying9 cells_str hf with ⟨hcs, hx⟩ | ⟨a, len', cap', ss, hcs, _, hl, hm, hz, hx, hcell, hws⟩
  · simp [Value.cells] at hcs
    obtain ⟨rfl, rfl, rfl⟩ := hcs
    exact ⟨fun h => absurd h (by omega), by omega⟩
  · simp [Value.cells] at hcs
    obtain ⟨rfl, rfl, rfl⟩ := hcs
    simp only [if_true] at hz
    refine ⟨fun h0 => ?_, by omega⟩
    obtain ⟨b, off, spot⟩ := a
    have hspot : spot = none := by simpa [Addr.add] using World.cell?_spot (hcell 0 (by omega))
    subst hspot
    refine ⟨b, off, rfl, cell_in (hcell 0 (by omega)), fun i hi => ⟨ss.getD i ByteArray.empty, ?_, ?_⟩⟩
    · have hi' : i < ss.length := by omega
      rw [List.getD_eq_getElem?_getD, List.getElem?_eq_getElem hi']
      exact hws _ (List.getElem_mem hi')
    · have hc := hcell i (by omega)
      rw [add_plain] at hc
      exact hc
end Ee
end Go.Proofs.YtppjlpihaocdiaaGreatDoor

set_option linter.unusedSimpArgs false
set_option linter.unusedVariables false
namespace Go.Proofs.YtppjlpihaocdiaaGreatDoor
namespace Ee
open Go.RowKit
open Rs (Cm Wh Pc own_of CmdsIn readR)
set_option maxHeartbeats 1000000 in
theorem wide_any (q : Bool) (w : World) :
    Calls Tryz.prog 35 #[.bool q] w fun e w' => e = .returned (.agg #[.int .i64 80, .int .i64 80, .int .i64 1000, .bool q]) ∧ Below w.heap.size w w' := by
  go_enter Tryz.func35, Tryz.ntmps35
  go_wp2_with fail
  refine bodyPost_ret (v := .agg #[.int .i64 80, .int .i64 80, .int .i64 1000, .bool q]) (by simp [results, Tryz.results35, go_sem]) rfl ?_
  exact ⟨rfl, below_alloc w _⟩
def made (mf : Mf) (s : ByteArray) (q : Bool) (l : List UInt8) : Ed := fin mf (cfO s 80 80 1000 q) l
end Ee
end Go.Proofs.YtppjlpihaocdiaaGreatDoor

set_option linter.unusedSimpArgs false
set_option linter.unusedVariables false
namespace Go.Proofs.YtppjlpihaocdiaaGreatDoor
namespace Ee
open Rs (Cm Wh Pc)
section
variable {mf : Mf} {cf : Cf}
theorem feed_nil (E : Ed) : E.feed mf cf [] = E := rfl
theorem feed_cons (E : Ed) (b : UInt8) (l : List UInt8) : E.feed mf cf (b :: l) = (E.feed1 mf cf b).feed mf cf l := rfl
theorem feed_app (E : Ed) (l m : List UInt8) : E.feed mf cf (l ++ m) = (E.feed mf cf l).feed mf cf m := by simp [Ed.feed]
theorem w0_wait (f : Nat) (E : Ed) (h : E.atHand cf = false) : E.workF mf cf (f + 1) 0 = { E with stage := 0 } := by
  have h' : Ed.atHand cf { E with stage := 0 } = false := h
  simp [Ed.workF, Ed.begin, h']
theorem w0_end (f : Nat) (E : Ed) (h : E.atHand cf = true) (hm : E.more = false) : E.workF mf cf (f + 1) 0 = { E with stage := 0, state := 1 } := by
  have h' : Ed.atHand cf { E with stage := 0 } = true := h
  have hm' : Ed.more { E with stage := 0 } = false := hm
  simp [Ed.workF, Ed.begin, h', hm']
def rd (E : Ed) (l : List UInt8) : Ed := { E with next := [], whole := false, number := E.number + 1, pat := txt l, looked := 0, put := false, at' := 0, stage := 0 }
theorem w0_line (f : Nat) (E : Ed) (h : E.atHand cf = true) (hm : E.more = true) (hl : E.next.length ≤ cf.line) (hs : E.next.length ≤ cf.space) : E.workF mf cf (f + 1) 0 = (rd E E.next).workF mf cf f 1 := by
  have h' : Ed.atHand cf { E with stage := 0 } = true := h
  have hm' : Ed.more { E with stage := 0 } = true := hm
  have ht : Ed.tooLong cf { E with stage := 0 } = false := by simp [Ed.tooLong]; omega
  have hsp : ¬ cf.space < (txt E.next).size := by rw [txt_size]; omega
  simp [Ed.workF, Ed.begin, h', hm', Ed.readBy, ht, Ed.read, Ed.way, Ed.become, hsp, rd]
theorem w1_end (f : Nat) (E : Ed) (h : E.at' = cf.cmds.length) : E.workF mf cf (f + 1) 1 = E.workF mf cf f 3 := by simp [Ed.workF, h]
theorem w1_cmd (f : Nat) (E : Ed) (h : E.at' ≠ cf.cmds.length) : E.workF mf cf (f + 1) 1 = { E with stage := 1 }.workF mf cf f 2 := by simp [Ed.workF, h]
theorem w2_1 (f : Nat) (E E' : Ed) (h : E.command mf cf = (E', 1)) : E.workF mf cf (f + 1) 2 = E'.workF mf cf f 1 := by simp [Ed.workF, h]
theorem w2_3 (f : Nat) (E E' : Ed) (h : E.command mf cf = (E', 3)) : E.workF mf cf (f + 1) 2 = E'.workF mf cf f 4 := by simp [Ed.workF, h]
theorem w3 (f : Nat) (E : Ed) : E.workF mf cf (f + 1) 3 = (E.printSpace cf).workF mf cf f 4 := by simp [Ed.workF]
theorem w4 (f : Nat) (E : Ed) (h : E.printComing.state = 0) : E.workF mf cf (f + 1) 4 = E.printComing.workF mf cf f 0 := by simp [Ed.workF, h]
theorem feed_bytes : ∀ (l : List UInt8) (E : Ed), E.stage = 0 → E.state = 0 → E.ended = false → E.whole = false → (∀ b ∈ l, b ≠ 10) → E.next.length + l.length ≤ cf.line → E.feed mf cf l = { E with next := E.next ++ l }
  | [], E, _, _, _, _, _, _ => by rw [feed_nil, List.append_nil]
  | b :: l, E, h1, h2, h3, h4, hb, hl => by
    have hb0 := hb b (by simp)
    have e : E.feed1 mf cf b = { E with next := E.next ++ [b] } := by
      have ht : E.takes = true := by simp [Ed.takes, h2, h3]
      have ea : E.add b = { E with next := E.next ++ [b] } := by simp [Ed.add, hb0]
      have hh : Ed.atHand cf { E with next := E.next ++ [b] } = false := by
        simp only [List.length_cons] at hl
        simp [Ed.atHand, Ed.tooLong, h3, h4]
        omega
      unfold Ed.feed1
      rw [if_pos ht, ea]
      unfold Ed.work
      rw [if_pos h1]
      rw [show (10000 : Nat) = 9999 + 1 from rfl, w0_wait _ _ hh]
      cases E
      simp_all
    rw [feed_cons, e, feed_bytes l { E with next := E.next ++ [b] } h1 h2 h3 h4 (fun c hc => hb c (by simp [hc])) (by simp at hl ⊢; omega)]
    simp
structure Rz (E : Ed) : Prop where
  next : E.next = []
  whole : E.whole = false
  ended : E.ended = false
  stage : E.stage = 0
  state : E.state = 0
structure Lk (cf : Cf) (l : List UInt8) : Prop where
  nl : ∀ b ∈ l, b ≠ 10
  line : l.length ≤ cf.line
  space : l.length ≤ cf.space
theorem line_fed (E : Ed) (h : Rz E) (l : List UInt8) (hl : Lk cf l) : E.feed mf cf (l ++ [10]) = (rd E l).workF mf cf 9999 1 := by
  have e0 := feed_bytes (mf := mf) (cf := cf) l E h.stage h.state h.ended h.whole hl.nl (by rw [h.next]; simpa using hl.line)
  rw [feed_app, e0, h.next, List.nil_append]
  have ht : Ed.takes { E with next := l } = true := by simp [Ed.takes, h.state, h.ended]
  have ea : Ed.add { E with next := l } 10 = { E with next := l, whole := true } := by simp [Ed.add]
  rw [feed_cons, feed_nil]
  unfold Ed.feed1
  rw [if_pos ht, ea]
  unfold Ed.work
  rw [if_pos h.stage, show (10000 : Nat) = 9999 + 1 from rfl, w0_line _ _ (by simp [Ed.atHand]) (by simp [Ed.more]) hl.line hl.space]
  rfl
theorem end_none (E : Ed) (h : Rz E) : E.endIt mf cf = { E with ended := true, state := 1 } := by
  have ht : E.takes = true := by simp [Ed.takes, h.state, h.ended]
  unfold Ed.endIt
  rw [if_pos ht]
  unfold Ed.work
  rw [if_pos h.stage, show (10000 : Nat) = 9999 + 1 from rfl, w0_end _ _ (by simp [Ed.atHand]) (by simp [Ed.more, h.next, h.whole])]
  have := h.stage
  cases E
  simp_all
theorem end_tail (E : Ed) (h : Rz E) (l : List UInt8) (hl : Lk cf l) (h0 : l ≠ []) : (E.feed mf cf l).endIt mf cf = (rd { E with ended := true } l).workF mf cf 9999 1 := by
  have e0 := feed_bytes (mf := mf) (cf := cf) l E h.stage h.state h.ended h.whole hl.nl (by rw [h.next]; simpa using hl.line)
  rw [e0, h.next, List.nil_append]
  have ht : Ed.takes { E with next := l } = true := by simp [Ed.takes, h.state, h.ended]
  unfold Ed.endIt
  rw [if_pos ht]
  unfold Ed.work
  rw [if_pos h.stage, show (10000 : Nat) = 9999 + 1 from rfl, w0_line _ _ (by simp [Ed.atHand]) (by simp [Ed.more, h0]) hl.line hl.space]
  rfl
structure Prompt (mf : Mf) (cf : Cf) (G : Ed → Ed) (J : Ed → Prop) (ok : List UInt8 → Prop) : Prop where
  run : ∀ (E : Ed) (l : List UInt8), J E → ok l → E.next = [] → E.whole = false → E.state = 0 → ∃ k, k ≤ 5000 ∧ ∀ f, (rd E l).workF mf cf (f + k) 1 = (G (rd E l)).workF mf cf f 0
  next : ∀ (E : Ed) (l : List UInt8), J E → ok l → (G (rd E l)).next = [] ∧ (G (rd E l)).whole = false ∧ (G (rd E l)).ended = E.ended ∧ (E.state = 0 → (G (rd E l)).state = 0)
  keep : ∀ (E : Ed) (l : List UInt8), J E → ok l → J { G (rd E l) with stage := 0 }
  free : ∀ (E : Ed) (b : Bool), J E → J { E with ended := b }
  lk : ∀ l, ok l → Lk cf l
def cyc (G : Ed → Ed) (E : Ed) (l : List UInt8) : Ed := { G (rd E l) with stage := 0 }
theorem Prompt.line {G : Ed → Ed} {J : Ed → Prop} {ok : List UInt8 → Prop} (P : Prompt mf cf G J ok) (E : Ed) (h : Rz E) (hJ : J E) (l : List UInt8) (hl : ok l) : E.feed mf cf (l ++ [10]) = cyc G E l ∧ Rz (cyc G E l) ∧ J (cyc G E l) := by
  obtain ⟨k, hk, hr⟩ := P.run E l hJ hl h.next h.whole h.state
  obtain ⟨n1, n2, n3, n4⟩ := P.next E l hJ hl
  refine ⟨?_, ⟨n1, n2, n3.trans h.ended, rfl, n4 h.state⟩, P.keep E l hJ hl⟩
  rw [line_fed E h l (P.lk l hl)]
  have e : 9999 = (9999 - k - 1 + 1) + k := by omega
  rw [e, hr, w0_wait _ _ (by simp [Ed.atHand, Ed.tooLong, n1, n2, n3, h.ended])]
  rfl
theorem Prompt.lines {G : Ed → Ed} {J : Ed → Prop} {ok : List UInt8 → Prop} (P : Prompt mf cf G J ok) : ∀ (ls : List (List UInt8)) (E : Ed), Rz E → J E → (∀ l ∈ ls, ok l) → E.feed mf cf (joinN ls) = ls.foldl (cyc G) E ∧ Rz (ls.foldl (cyc G) E) ∧ J (ls.foldl (cyc G) E)
  | [], E, h, hJ, _ => ⟨rfl, h, hJ⟩
  | l :: ls, E, h, hJ, hl => by
    obtain ⟨e1, e2, e3⟩ := P.line E h hJ l (hl l (by simp))
    obtain ⟨d1, d2, d3⟩ := P.lines ls (cyc G E l) e2 e3 fun m hm => hl m (by simp [hm])
    have e : joinN (l :: ls) = (l ++ [10]) ++ joinN ls := by simp [joinN]
    refine ⟨?_, d2, d3⟩
    rw [e, feed_app, e1, d1]
    rfl
theorem Prompt.tail {G : Ed → Ed} {J : Ed → Prop} {ok : List UInt8 → Prop} (P : Prompt mf cf G J ok) (E : Ed) (h : Rz E) (hJ : J E) (l : List UInt8) (hl : ok l) (h0 : l ≠ []) : (E.feed mf cf l).endIt mf cf = { cyc G { E with ended := true } l with state := 1 } := by
  have hJ' := P.free E true hJ
  obtain ⟨k, hk, hr⟩ := P.run { E with ended := true } l hJ' hl h.next h.whole h.state
  obtain ⟨n1, n2, n3, n4⟩ := P.next { E with ended := true } l hJ' hl
  rw [end_tail E h l (P.lk l hl) h0]
  have e : 9999 = (9999 - k - 1 + 1) + k := by omega
  rw [e, hr, w0_end _ _ (by simp [Ed.atHand, n3]) (by simp [Ed.more, n1, n2])]
  rfl
theorem ed0_rz (cf : Cf) : Rz (ed0 cf) := ⟨rfl, rfl, rfl, rfl, rfl⟩
theorem Prompt.all {G : Ed → Ed} {J : Ed → Prop} {ok : List UInt8 → Prop} (P : Prompt mf cf G J ok) (h0 : J (ed0 cf)) (ls : List (List UInt8)) (hl : ∀ l ∈ ls, ok l) : fin mf cf (joinN ls) = { ls.foldl (cyc G) (ed0 cf) with ended := true, state := 1 } := by
  obtain ⟨d1, d2, d3⟩ := P.lines ls (ed0 cf) (ed0_rz cf) h0 hl
  unfold fin
  rw [d1, end_none _ d2]
end
end Ee
end Go.Proofs.YtppjlpihaocdiaaGreatDoor

set_option linter.unusedSimpArgs false
set_option linter.unusedVariables false
namespace Go.Proofs.YtppjlpihaocdiaaGreatDoor
namespace Ee
open Rs (Cm Wh Pc readR)
def cmK (k : Nat) : Cm := ⟨k, ⟨0, 0, emp⟩, ⟨0, 0, emp⟩, false, 0, emp, emp, [], 0, false, false, emp, emp⟩
theorem cf_of {s : ByteArray} {cs : List Cm} {e : Nat} {p : Int} (h : readR s = (cs, e, p)) (a b c : Int) (q : Bool) : cfO s a b c q = ⟨a.toNat, b.toNat, c.toNat, q, cs⟩ := by unfold cfO; rw [h]
theorem opens_of {s : ByteArray} {cs : List Cm} {p : Int} (h : readR s = (cs, 0, p)) (a b c : Int) (hl : alw a b c = true) : opens s a b c = true := by unfold opens; rw [h]; simpa using hl
def okL (m : Nat) (l : List UInt8) : Prop := (∀ b ∈ l, b ≠ 10) ∧ l.length ≤ m
section
variable {mf : Mf}
end
end Ee
end Go.Proofs.YtppjlpihaocdiaaGreatDoor

set_option linter.unusedSimpArgs false
set_option linter.unusedVariables false
namespace Go.Proofs.YtppjlpihaocdiaaGreatDoor
namespace Ee
open Rs (Cm Wh Pc readR)
theorem byt_txt (l : List UInt8) (q : Nat) : byt (txt l) q = (l.getD q 0).toNat := by simp [byt, txt]
theorem row_extract (l : List UInt8) (a b : Nat) : (txt l).extract a b = txt ((l.take b).drop a) := by
  apply ByteArray.ext
  apply Array.ext'
  simp [txt, ByteArray.data_extract, Array.toList_extract, List.extract_eq_take_drop, List.drop_take]
section
variable {mf : Mf}
end
end Ee
end Go.Proofs.YtppjlpihaocdiaaGreatDoor

set_option linter.unusedSimpArgs false
set_option linter.unusedVariables false
namespace Go.Proofs.YtppjlpihaocdiaaGreatDoor
namespace Ee
open Rs (Cm Wh Pc readR)
def lastOf : List (List UInt8) → List UInt8
  | [] => []
  | [l] => l ++ [10]
  | _ :: m :: r => lastOf (m :: r)
def numF : Nat → List (List UInt8) → List UInt8
  | _, [] => []
  | i, _ :: r => [UInt8.ofNat (49 + i), 10] ++ numF (i + 1) r
section
variable {mf : Mf}
/- Numbers. -/
def scN : ByteArray := ⟨#[61]⟩
/- The first two. -/
def cmQ : Cm := { cmK 13 with fst := ⟨1, 2, emp⟩ }
/- Each first of two. -/
def scO : ByteArray := ⟨#[110, 59, 100]⟩
/- The last one. -/
def cmL1 : Cm := { cmK 1 with fst := ⟨2, 0, emp⟩, neg := true }
/- The order turned. -/
def cmG1 : Cm := { cmK 8 with fst := ⟨1, 1, emp⟩, neg := true }
end
end Ee
end Go.Proofs.YtppjlpihaocdiaaGreatDoor

set_option linter.unusedSimpArgs false
set_option linter.unusedVariables false
namespace Go.Proofs.YtppjlpihaocdiaaGreatDoor
namespace Ee
open Rs (Cm Wh Pc readR)
section
variable {mf : Mf}
/- A substitution, then the end of the script. -/
def cmS (p : ByteArray) (t : List Pc) (n : Nat) (a : Bool) : Cm := ⟨19, ⟨0, 0, emp⟩, ⟨0, 0, emp⟩, false, 0, emp, p, t, n, a, false, emp, emp⟩
end
end Ee
end Go.Proofs.YtppjlpihaocdiaaGreatDoor

set_option linter.unusedSimpArgs false
set_option linter.unusedVariables false
namespace Go.Proofs.YtppjlpihaocdiaaGreatDoor
namespace Ee
open Rs (Cm Wh Pc readR grps failAt)
def Lt (w : List UInt8) : Prop := ∀ b ∈ w, b = 97 ∨ b = 98 ∨ b = 99 ∨ b = 100
structure Wd (w : List UInt8) : Prop where
  lt : Lt w
  pos : w ≠ []
  le : w.length ≤ 3
def letB (b : UInt8) : Nd := leaf 0 (addR noSet b.toNat b.toNat)
def nodesW (w : List UInt8) : List Nd := if w.length = 1 then w.map letB else w.map letB ++ [rowN 5 (List.range w.length)]
def rootW (w : List UInt8) : Nat := if w.length = 1 then 0 else w.length
theorem tree_w (w : List UInt8) (h : Wd w) : treeOf (txt w) = (⟨w.length, 0, nodesW w⟩, rootW w) ∧ grps (txt w) = 0 ∧ failAt (txt w) = none := by
  match w, h with
  | [], h => exact absurd rfl h.pos
  | [a], h =>
    rcases h.lt a (by simp) with rfl | rfl | rfl | rfl <;> exact ⟨by kernel_rfl, by kernel_rfl, by kernel_rfl⟩
  | [a, b], h =>
    rcases h.lt a (by simp) with rfl | rfl | rfl | rfl <;> rcases h.lt b (by simp) with rfl | rfl | rfl | rfl <;> exact ⟨by kernel_rfl, by kernel_rfl, by kernel_rfl⟩
  | [a, b, c], h =>
    rcases h.lt a (by simp) with rfl | rfl | rfl | rfl <;> rcases h.lt b (by simp) with rfl | rfl | rfl | rfl <;> rcases h.lt c (by simp) with rfl | rfl | rfl | rfl <;> exact ⟨by kernel_rfl, by kernel_rfl, by kernel_rfl⟩
  | a :: b :: c :: d :: r, h => exact absurd h.le (by simp)
theorem addR_one (c x : Nat) : addR noSet c c x = true ↔ x = c := by
  simp only [addR, noSet, Bool.false_or, Bool.and_eq_true, decide_eq_true_eq]
  omega
theorem byt_get (s : List UInt8) (i : Nat) (b : UInt8) (hi : i < s.length) : byt (txt s) i = b.toNat ↔ s[i]? = some b := by
  rw [byt_txt, List.getD_eq_getElem?_getD, List.getElem?_eq_getElem hi, Option.getD_some, Option.some.injEq]
  exact UInt8.toNat_inj
theorem let_at (s : List UInt8) (i : Nat) (b : UInt8) : (i < (txt s).size ∧ (addR noSet b.toNat b.toNat (byt (txt s) i)) = true) ↔ s[i]? = some b := by
  rw [txt_size, addR_one]
  constructor
  · rintro ⟨h1, h2⟩
    exact (byt_get s i b h1).1 h2
  · intro h
    have h1 := (List.getElem?_eq_some_iff.1 h).1
    exact ⟨h1, (byt_get s i b h1).2 h⟩
def hit (s w : List UInt8) (i : Nat) : Bool := w.isPrefixOf (s.drop i)
theorem pre_cons (l w : List UInt8) (a : UInt8) : (a :: w).isPrefixOf l = true ↔ l[0]? = some a ∧ w.isPrefixOf (l.drop 1) = true := by
  cases l with
  | nil => simp
  | cons x l =>
    rw [List.isPrefixOf, List.getElem?_cons_zero, List.drop_one, List.tail_cons, Bool.and_eq_true, beq_iff_eq, Option.some.injEq]
    constructor
    · rintro ⟨h1, h2⟩; exact ⟨h1.symm, h2⟩
    · rintro ⟨h1, h2⟩; exact ⟨h1.symm, h2⟩
theorem hit_nil (s : List UInt8) (i : Nat) : hit s [] i = true := by simp [hit]
theorem hit_cons (s w : List UInt8) (a : UInt8) (i : Nat) : hit s (a :: w) i = true ↔ s[i]? = some a ∧ hit s w (i + 1) = true := by
  unfold hit
  rw [pre_cons, List.getElem?_drop, List.drop_drop, Nat.add_zero]
theorem mat_w (s w : List UInt8) (h : Wd w) (i j : Nat) : Mat (txt s) (nodesW w) (rootW w) i j ↔ (hit s w i = true ∧ j = i + w.length) := by
  match w, h with
  | [], h => exact absurd rfl h.pos
  | [a], h =>
    rw [hit_cons, ← let_at]
    simp [nodesW, rootW, Mat, mOf, letB, leaf, hit_nil, and_assoc]
  | [a, b], h =>
    rw [hit_cons, hit_cons, ← let_at, ← let_at]
    simp [nodesW, rootW, Mat, mOf, letB, leaf, hit_nil, rowN, List.range_succ, Chain]
    constructor
    · rintro ⟨m, ⟨h1, h2, rfl⟩, h3, h4, rfl⟩
      exact ⟨⟨⟨h1, h2⟩, h3, h4⟩, rfl⟩
    · rintro ⟨⟨⟨h1, h2⟩, h3, h4⟩, rfl⟩
      exact ⟨i + 1, ⟨h1, h2, rfl⟩, h3, h4, rfl⟩
  | [a, b, c], h =>
    rw [hit_cons, hit_cons, hit_cons, ← let_at, ← let_at, ← let_at]
    simp [nodesW, rootW, Mat, mOf, letB, leaf, hit_nil, rowN, List.range_succ, Chain]
    constructor
    · rintro ⟨m, ⟨h1, h2, rfl⟩, m2, ⟨h3, h4, rfl⟩, h5, h6, rfl⟩
      exact ⟨⟨⟨h1, h2⟩, ⟨h3, h4⟩, h5, h6⟩, rfl⟩
    · rintro ⟨⟨⟨h1, h2⟩, ⟨h3, h4⟩, h5, h6⟩, rfl⟩
      exact ⟨i + 1, ⟨h1, h2, rfl⟩, i + 1 + 1, ⟨h3, h4, rfl⟩, h5, h6, rfl⟩
  | a :: b :: c :: d :: r, h => exact absurd h.le (by simp)
theorem mat_let (s w : List UInt8) (q : Nat) (b : UInt8) (hq : (nodesW w)[q]? = some (letB b)) (i j : Nat) : Mat (txt s) (nodesW w) q i j ↔ (s[i]? = some b ∧ j = i + 1) := by
  rw [← let_at]
  simp [Mat, mOf, hq, letB, leaf, and_assoc]
theorem pg_let (s w : List UInt8) (q f : Nat) (b : UInt8) (hq : (nodesW w)[q]? = some (letB b)) (i j : Nat) (c : Caps) : pgOf (txt s) (nodesW w) (f + 1) q i j c c := ⟨letB b, hq, by simp [letB, leaf]⟩
theorem row_let (s w : List UInt8) (f : Nat) : ∀ (v : List UInt8) (n i : Nat), (∀ (q : Nat) (b : UInt8), v[q]? = some b → (nodesW w)[n + q]? = some (letB b)) → hit s v i = true → ∀ c, Chain ((List.range' n v.length).map (Mat (txt s) (nodesW w))) i (i + v.length) ∧ rowG (Mat (txt s) (nodesW w)) (pgOf (txt s) (nodesW w) (f + 1)) (List.range' n v.length) i (i + v.length) c c
  | [], n, i, _, _, c => ⟨rfl, rfl⟩
  | b :: v, n, i, hq, hh, c => by
    obtain ⟨h1, h2⟩ := (hit_cons s v b i).1 hh
    have h0 : (nodesW w)[n]? = some (letB b) := hq 0 b rfl
    obtain ⟨k1, k2⟩ := row_let s w f v (n + 1) (i + 1) (fun q x hx => by
      have := hq (q + 1) x (by simpa using hx)
      rwa [show n + (q + 1) = n + 1 + q by omega] at this) h2 c
    have e : i + (b :: v).length = i + 1 + v.length := by rw [List.length_cons]; omega
    have e2 : List.range' n (b :: v).length = n :: List.range' (n + 1) v.length := by rw [List.length_cons, List.range'_succ]
    rw [e, e2]
    have hm := (mat_let s w n b h0 i (i + 1)).2 ⟨h1, rfl⟩
    refine ⟨⟨i + 1, hm, k1⟩, i + 1, c, ⟨by omega, by omega, fun u hu _ hx => ?_, .inr ⟨hm, k1⟩⟩, pg_let s w n f b h0 i (i + 1) c, k2⟩
    have := ((mat_let s w n b h0 i u).1 hx.1).2
    omega
theorem give_w (s w : List UInt8) (h : Wd w) (i : Nat) (hh : hit s w i = true) : PGv (txt s) (nodesW w) (rootW w) i (i + w.length) [] [] := by
  by_cases h1 : w.length = 1
  · match w, h1 with
    | [a], _ => exact pg_let s [a] 0 0 a rfl i (i + 1) []
  · have e : rootW w = w.length := by simp [rootW, h1]
    have en : nodesW w = w.map letB ++ [rowN 5 (List.range w.length)] := by simp [nodesW, h1]
    have hp : 0 < w.length := List.length_pos_iff.2 h.pos
    obtain ⟨r, hr⟩ : ∃ r, w.length = r + 1 := ⟨w.length - 1, by omega⟩
    rw [e]
    unfold PGv
    refine ⟨rowN 5 (List.range w.length), by rw [en, List.getElem?_append_right (by simp)]; simp, ?_⟩
    have := (row_let s w r w 0 i (fun q b hq => by
      rw [Nat.zero_add, en, List.getElem?_append_left (by simp; exact (List.getElem?_eq_some_iff.1 hq).1), List.getElem?_map, hq]
      rfl) hh []).2
    simp only [rowN]
    rw [if_neg (by omega), if_neg (by omega), if_pos trivial, List.range_eq_range']
    rw [hr] at this ⊢
    exact this
def fh (w : List UInt8) : List UInt8 → Nat → Option Nat
  | [], _ => none
  | b :: r, i => if w.isPrefixOf (b :: r) = true then some i else fh w r (i + 1)
theorem hit_le {s w : List UInt8} {i : Nat} (h : hit s w i = true) (hw : w ≠ []) : i + w.length ≤ s.length := by
  unfold hit at h
  have := (List.isPrefixOf_iff_prefix.1 h).length_le
  have hp : 0 < w.length := List.length_pos_iff.2 hw
  rw [List.length_drop] at this
  omega
theorem fh_is (s w : List UInt8) (hw : w ≠ []) : ∀ (l : List UInt8) (i : Nat), s.drop i = l → (∃ k, fh w l i = some k ∧ i ≤ k ∧ hit s w k = true ∧ ∀ q, i ≤ q → q < k → hit s w q = false) ∨ (fh w l i = none ∧ ∀ q, i ≤ q → hit s w q = false)
  | [], i, hd => by
    refine .inr ⟨rfl, fun q hq => ?_⟩
    by_cases hh : hit s w q = true
    · have h1 := hit_le hh hw
      have h2 : s.length ≤ i := by
        have := congrArg List.length hd
        simp at this
        omega
      have hp : 0 < w.length := List.length_pos_iff.2 hw
      omega
    · simpa using hh
  | b :: r, i, hd => by
    have e : hit s w i = w.isPrefixOf (b :: r) := by unfold hit; rw [hd]
    have hd2 : s.drop (i + 1) = r := by rw [← List.drop_drop, hd]; rfl
    rw [fh]
    by_cases hp : w.isPrefixOf (b :: r) = true
    · rw [if_pos hp]
      exact .inl ⟨i, rfl, Nat.le_refl _, by rw [e]; exact hp, fun q a b => by omega⟩
    · rw [if_neg hp]
      have h0 : hit s w i = false := by rw [e]; exact Bool.eq_false_iff.2 hp
      rcases fh_is s w hw r (i + 1) hd2 with ⟨k, h1, h2, h3, h4⟩ | ⟨h1, h2⟩
      · refine .inl ⟨k, h1, by omega, h3, fun q a b => ?_⟩
        by_cases hq : q = i
        · rw [hq]; exact h0
        · exact h4 q (by omega) b
      · refine .inr ⟨h1, fun q a => ?_⟩
        by_cases hq : q = i
        · rw [hq]; exact h0
        · exact h2 q (by omega)
theorem mf_w {mf : Mf} (hm : MfOk mf) (s w : List UInt8) (h : Wd w) (pl : Nat) : mf (txt w) (txt s) pl = (fh w (s.drop pl) pl).map fun (i : Nat) => [((i : Int), ((i + w.length : Nat) : Int))] := by
  obtain ⟨t1, t2, t3⟩ := tree_w w h
  have e1 : (treeOf (txt w)).1.l = nodesW w := by rw [t1]
  have e2 : (treeOf (txt w)).2 = rootW w := by rw [t1]
  rcases fh_is s w h.pos (s.drop pl) pl rfl with ⟨k, h1, h2, h3, h4⟩ | ⟨h1, h2⟩
  · rw [h1]
    refine (hm (txt w) (txt s) pl).1 _ ⟨k, k + w.length, [], rfl, ?_, by rw [t2]; rfl, ?_⟩
    · rw [e1, e2]
      refine ⟨h2, by omega, by rw [txt_size]; exact hit_le h3 h.pos, (mat_w s w h k _).2 ⟨h3, rfl⟩, fun i' j' a b hx => ?_, fun j' a hx => ?_⟩
      · have := ((mat_w s w h i' j').1 hx).1
        rw [h4 i' a b] at this
        cases this
      · have := ((mat_w s w h k j').1 hx).2
        omega
    · rw [e1, e2, t2]
      exact give_w s w h k h3
  · rw [h1]
    refine (hm (txt w) (txt s) pl).2 fun sp hx => ?_
    obtain ⟨i, j, c, _, hb, _⟩ := hx
    rw [e1, e2] at hb
    have := ((mat_w s w h i j).1 hb.2.2.2.1).1
    rw [h2 i hb.1] at this
    cases this
end Ee
end Go.Proofs.YtppjlpihaocdiaaGreatDoor

set_option linter.unusedSimpArgs false
set_option linter.unusedVariables false
namespace Go.Proofs.YtppjlpihaocdiaaGreatDoor
namespace Ee
open Rs (Cm Wh Pc readR grps failAt)
def sc (w o : List UInt8) (f : Nat → Bool) : Nat → Nat → List UInt8 → List UInt8
  | 0, _, _ => []
  | k + 1, n, [] => []
  | k + 1, n, b :: r => if w.isPrefixOf (b :: r) = true then (if f (n + 1) = true then o else w) ++ sc w o f k (n + 1) ((b :: r).drop w.length) else b :: sc w o f k n r
theorem sc_more (w o : List UInt8) (f : Nat → Bool) (hw : w ≠ []) : ∀ (k k' n : Nat) (l : List UInt8), l.length ≤ k → l.length ≤ k' → sc w o f k n l = sc w o f k' n l
  | 0, 0, n, l, _, _ => rfl
  | 0, k' + 1, n, [], _, _ => rfl
  | 0, k' + 1, n, b :: r, h, _ => by simp at h
  | k + 1, 0, n, [], _, _ => rfl
  | k + 1, 0, n, b :: r, _, h => by simp at h
  | k + 1, k' + 1, n, [], _, _ => rfl
  | k + 1, k' + 1, n, b :: r, h, h' => by
    have hp : 0 < w.length := List.length_pos_iff.2 hw
    simp only [List.length_cons] at h h'
    have hd : ((b :: r).drop w.length).length ≤ r.length := by rw [List.length_drop, List.length_cons]; omega
    rw [sc, sc, sc_more w o f hw k k' (n + 1) _ (by omega) (by omega), sc_more w o f hw k k' n r (by omega) (by omega)]
theorem sc_id (w o : List UInt8) (f : Nat → Bool) (hw : w ≠ []) : ∀ (k n : Nat) (l : List UInt8), l.length ≤ k → (∀ m, n < m → f m = false) → sc w o f k n l = l
  | 0, n, [], _, _ => rfl
  | 0, n, b :: r, h, _ => by simp at h
  | k + 1, n, [], _, _ => rfl
  | k + 1, n, b :: r, h, hf => by
    have hp : 0 < w.length := List.length_pos_iff.2 hw
    simp only [List.length_cons] at h
    have hd : ((b :: r).drop w.length).length ≤ r.length := by rw [List.length_drop, List.length_cons]; omega
    rw [sc, sc_id w o f hw k n r (by omega) hf, sc_id w o f hw k (n + 1) _ (by omega) (fun m hm => hf m (by omega))]
    by_cases hq : w.isPrefixOf (b :: r) = true
    · rw [if_pos hq, hf (n + 1) (by omega)]
      obtain ⟨t, ht⟩ := List.isPrefixOf_iff_prefix.1 hq
      rw [← ht, List.drop_left]
      simp
    · rw [if_neg hq]
theorem sc_none (w o : List UInt8) (f : Nat → Bool) (hw : w ≠ []) : ∀ (k n i : Nat) (l : List UInt8), l.length ≤ k → fh w l i = none → sc w o f k n l = l
  | 0, n, i, [], _, _ => rfl
  | 0, n, i, b :: r, h, _ => by simp at h
  | k + 1, n, i, [], _, _ => rfl
  | k + 1, n, i, b :: r, h, hf => by
    simp only [List.length_cons] at h
    rw [fh] at hf
    by_cases hq : w.isPrefixOf (b :: r) = true
    · rw [if_pos hq] at hf
      cases hf
    · rw [if_neg hq] at hf
      rw [sc, if_neg hq, sc_none w o f hw k n (i + 1) r (by omega) hf]
theorem sc_some (w o : List UInt8) (f : Nat → Bool) (hw : w ≠ []) : ∀ (k n i j : Nat) (l : List UInt8), l.length ≤ k → fh w l i = some j → i ≤ j ∧ j - i + w.length ≤ l.length ∧ sc w o f k n l = l.take (j - i) ++ (if f (n + 1) = true then o else w) ++ sc w o f k (n + 1) (l.drop (j - i + w.length))
  | 0, n, i, j, [], _, hf => by cases hf
  | 0, n, i, j, b :: r, h, _ => by simp at h
  | k + 1, n, i, j, [], _, hf => by cases hf
  | k + 1, n, i, j, b :: r, h, hf => by
    have hp : 0 < w.length := List.length_pos_iff.2 hw
    simp only [List.length_cons] at h
    rw [fh] at hf
    by_cases hq : w.isPrefixOf (b :: r) = true
    · rw [if_pos hq] at hf
      cases hf
      have h3 := (List.isPrefixOf_iff_prefix.1 hq).length_le
      refine ⟨Nat.le_refl _, by omega, ?_⟩
      rw [sc, if_pos hq, Nat.sub_self, List.take_zero, List.nil_append, Nat.zero_add, sc_more w o f hw k (k + 1) (n + 1) _ (by rw [List.length_drop, List.length_cons]; omega) (by rw [List.length_drop, List.length_cons]; omega)]
    · rw [if_neg hq] at hf
      obtain ⟨h1, h2, h3⟩ := sc_some w o f hw k n (i + 1) j r (by omega) hf
      refine ⟨by omega, by rw [List.length_cons]; omega, ?_⟩
      obtain ⟨d, hd⟩ : ∃ d, j - i = d + 1 := ⟨j - i - 1, by omega⟩
      have hd2 : j - (i + 1) = d := by omega
      rw [hd2] at h2 h3
      rw [sc, if_neg hq, h3, hd, List.take_succ_cons, show d + 1 + w.length = (d + w.length) + 1 by omega, List.drop_succ_cons, sc_more w o f hw k (k + 1) (n + 1) _ (by rw [List.length_drop]; omega) (by rw [List.length_drop]; omega)]
      simp
def pcs (o : List UInt8) : List Pc := o.map fun b => ⟨-1, b.toNat⟩
theorem fill_w (t : ByteArray) (sp : List (Int × Int)) : ∀ (o out : List UInt8), fillT t sp (pcs o) out = out ++ o
  | [], out => by simp [pcs, fillT]
  | b :: o, out => by
    have := fill_w t sp o (out ++ [b])
    unfold pcs at this ⊢
    rw [List.map_cons, fillT, if_pos rfl]
    have e : b.toNat.toUInt8 = b := by simp
    rw [e, this]
    simp
section
variable {mf : Mf}
theorem next_w (hm : MfOk mf) (s w : List UInt8) (h : Wd w) (tp : Nat) : nextM mf (txt w) (txt s) tp = mf (txt w) (txt s) tp := by
  have hp : 0 < w.length := List.length_pos_iff.2 h.pos
  have e := mf_w hm s w h tp
  unfold nextM
  rcases fh_is s w h.pos (s.drop tp) tp rfl with ⟨k, h1, h2, h3, h4⟩ | ⟨h1, h2⟩
  · rw [h1] at e
    rw [e]
    simp only [Option.map_some, List.getD_cons_zero]
    rw [if_neg (by omega)]
  · rw [h1] at e
    rw [e]
    rfl
def pick9 (num : Nat) (all : Bool) (n : Nat) : Bool := if all = true then decide (num ≤ n) else decide (n = num)
theorem cut_mid (s : List UInt8) (a b : Nat) (h1 : a ≤ b) : row ((txt s).extract a b) = (s.drop a).take (b - a) := by
  rw [row_extract, row_txt, List.drop_take]
theorem cut_end (s : List UInt8) (a : Nat) : row ((txt s).extract a (txt s).size) = s.drop a := by
  rw [row_extract, row_txt, txt_size, List.take_length]
theorem repl_w (hm : MfOk mf) (s w o : List UInt8) (h : Wd w) (num : Nat) (all : Bool) (hn1 : 1 ≤ num) : ∀ (f n tp done : Nat) (out : List UInt8), s.length - tp + 1 ≤ f → done ≤ tp → tp ≤ s.length → (n < num → True) → (num ≤ n → all = true) →
    ∃ n', replL mf (cmS (txt w) (pcs o) num all) (txt s) f (mf (txt w) (txt s) tp) n done out = (out ++ (s.drop done).take (tp - done) ++ sc w o (pick9 num all) (s.length - tp) n (s.drop tp), n') ∧ n ≤ n' ∧ (n' < num → sc w o (pick9 num all) (s.length - tp) n (s.drop tp) = s.drop tp)
  | 0, n, tp, done, out, hf, hd, ht, _, _ => by omega
  | f + 1, n, tp, done, out, hf, hd, ht, _, ha => by
    have hp : 0 < w.length := List.length_pos_iff.2 h.pos
    have hjoin : s.drop done = (s.drop done).take (tp - done) ++ s.drop tp := by
      have := List.take_append_drop (tp - done) (s.drop done)
      rw [List.drop_drop, show done + (tp - done) = tp by omega] at this
      exact this.symm
    rw [mf_w hm s w h tp]
    rcases hfh : fh w (s.drop tp) tp with _ | k
    · refine ⟨n, ?_, Nat.le_refl _, fun _ => sc_none w o _ h.pos _ n tp _ (by rw [List.length_drop]; omega) hfh⟩
      rw [Option.map_none, replL, cut_end, sc_none w o _ h.pos _ n tp _ (by rw [List.length_drop]; omega) hfh]
      conv => lhs; rw [hjoin]
      simp
    · obtain ⟨k1, k2, k3⟩ := sc_some w o (pick9 num all) h.pos (s.length - tp) n tp k (s.drop tp) (by rw [List.length_drop]; omega) hfh
      rw [List.length_drop] at k2
      have hdr : (s.drop tp).drop (k - tp + w.length) = s.drop (k + w.length) := by rw [List.drop_drop]; congr 1; omega
      have hsc : sc w o (pick9 num all) (s.length - tp) (n + 1) (s.drop (k + w.length)) = sc w o (pick9 num all) (s.length - (k + w.length)) (n + 1) (s.drop (k + w.length)) := sc_more w o _ h.pos _ _ _ _ (by rw [List.length_drop]; omega) (by rw [List.length_drop]; omega)
      have hto : ((k + w.length : Nat) : Int).toNat = k + w.length := Int.toNat_natCast _
      have hhit : (s.drop k).take w.length = w := by
        rcases fh_is s w h.pos (s.drop tp) tp rfl with ⟨k', e1, e2, e3, e4⟩ | ⟨e1, _⟩
        · rw [hfh] at e1
          cases e1
          unfold hit at e3
          obtain ⟨t, ht'⟩ := List.isPrefixOf_iff_prefix.1 e3
          rw [← ht', List.take_left]
        · rw [hfh] at e1
          cases e1
      have hpre : (s.drop done).take (k - done) = (s.drop done).take (tp - done) ++ (s.drop tp).take (k - tp) := by
        have e : k - done = (tp - done) + (k - tp) := by omega
        rw [e, List.take_add, List.drop_drop, show done + (tp - done) = tp by omega]
      have hpre2 : (s.drop done).take (k + w.length - done) = (s.drop done).take (tp - done) ++ (s.drop tp).take (k - tp) ++ w := by
        have e : k + w.length - done = (k - done) + w.length := by omega
        rw [e, List.take_add, List.drop_drop, show done + (k - done) = k by omega, hhit, hpre]
      have hnx := next_w hm s w h (k + w.length)
      rw [Option.map_some, replL]
      simp only [List.getD_cons_zero, cmS]
      rw [hto, hnx, Int.toNat_natCast]
      by_cases hlt : n + 1 < num
      · rw [if_pos hlt]
        obtain ⟨n', e1, e2, e3⟩ := repl_w hm s w o h num all hn1 f (n + 1) (k + w.length) done out (by omega) (by omega) (by omega) (fun _ => trivial) (fun hx => by omega)
        have hpk : pick9 num all (n + 1) = false := by
          unfold pick9
          cases all <;> simp <;> omega
        refine ⟨n', ?_, by omega, fun hx => ?_⟩
        · show replL mf (cmS (txt w) (pcs o) num all) _ _ _ _ _ _ = _
          rw [e1, k3, hpk, hdr, hsc, hpre2]
          simp
        · rw [k3, hpk, hdr, hsc, e3 hx, ← hdr]
          have e4 : (s.drop tp).take (k - tp) ++ w = (s.drop tp).take (k - tp + w.length) := by
            rw [List.take_add, List.drop_drop, show tp + (k - tp) = k by omega, hhit]
          rw [if_neg (by simp), e4, List.take_append_drop]
      · rw [if_neg hlt]
        have hpk : pick9 num all (n + 1) = true := by
          unfold pick9
          cases all
          · have : ¬ num ≤ n := fun hx => by have := ha hx; cases this
            simp
            omega
          · simp
            omega
        rw [fill_w, cut_mid s done k (by omega), hpre]
        by_cases hall : all = true
        · rw [if_pos hall]
          obtain ⟨n', e1, e2, e3⟩ := repl_w hm s w o h num all hn1 f (n + 1) (k + w.length) (k + w.length) (out ++ ((s.drop done).take (tp - done) ++ (s.drop tp).take (k - tp)) ++ o) (by omega) (by omega) (by omega) (fun _ => trivial) (fun hx => hall)
          refine ⟨n', ?_, by omega, fun hx => by omega⟩
          show replL mf (cmS (txt w) (pcs o) num all) _ _ _ _ _ _ = _
          rw [e1, k3, hpk, hdr, hsc]
          simp
        · rw [if_neg hall, cut_end]
          refine ⟨n + 1, ?_, by omega, fun hx => by omega⟩
          have hid : sc w o (pick9 num all) (s.length - (k + w.length)) (n + 1) (s.drop (k + w.length)) = s.drop (k + w.length) := sc_id w o _ h.pos _ _ _ (by rw [List.length_drop]; omega) fun m hm' => by
            unfold pick9
            rw [if_neg hall]
            simp
            omega
          rw [k3, hpk, hdr, hsc, hid]
          simp
end
end Ee
end Go.Proofs.YtppjlpihaocdiaaGreatDoor

set_option linter.unusedSimpArgs false
set_option linter.unusedVariables false
namespace Go.Proofs.YtppjlpihaocdiaaGreatDoor
namespace Ee
open Rs (Cm Wh Pc readR grps failAt)
structure Swift (mf : Mf) (cf : Cf) (hd m : Nat) : Prop where
  run : ∀ (E : Ed) (l : List UInt8), E.hold.size ≤ hd → okL m l → E.next = [] → E.whole = false → E.state = 0 → ∃ (E' : Ed) (k : Nat), k ≤ 5000 ∧ (∀ f, (rd E l).workF mf cf (f + k) 1 = E'.workF mf cf f 0) ∧ E'.next = [] ∧ E'.whole = false ∧ E'.ended = E.ended ∧ E'.state = 0 ∧ E'.hold.size ≤ hd ∧ E'.taken = E.taken
  line : m ≤ cf.line
  space : m ≤ cf.space
section
variable {mf : Mf} {cf : Cf} {hd m : Nat}
theorem Swift.lk (P : Swift mf cf hd m) {l : List UInt8} (h : okL m l) : Lk cf l := ⟨h.1, Nat.le_trans h.2 P.line, Nat.le_trans h.2 P.space⟩
theorem Swift.one (P : Swift mf cf hd m) (E : Ed) (h : Rz E) (hj : E.hold.size ≤ hd) (l : List UInt8) (hl : okL m l) : ∃ E', E.feed mf cf (l ++ [10]) = E' ∧ Rz E' ∧ E'.hold.size ≤ hd ∧ E'.taken = E.taken := by
  obtain ⟨E', k, hk, hr, n1, n2, n3, n4, n5, n6⟩ := P.run E l hj hl h.next h.whole h.state
  refine ⟨{ E' with stage := 0 }, ?_, ⟨n1, n2, n3.trans h.ended, rfl, n4⟩, n5, n6⟩
  rw [line_fed E h l (P.lk hl)]
  have e : 9999 = (9999 - k - 1 + 1) + k := by omega
  rw [e, hr, w0_wait _ _ (by simp [Ed.atHand, Ed.tooLong, n1, n2, n3, h.ended])]
theorem Swift.lines (P : Swift mf cf hd m) : ∀ (ls : List (List UInt8)) (E : Ed), Rz E → E.hold.size ≤ hd → (∀ l ∈ ls, okL m l) → Rz (E.feed mf cf (joinN ls)) ∧ (E.feed mf cf (joinN ls)).hold.size ≤ hd ∧ (E.feed mf cf (joinN ls)).taken = E.taken
  | [], E, h, hj, _ => ⟨h, hj, rfl⟩
  | l :: ls, E, h, hj, hl => by
    obtain ⟨E', e1, e2, e3, e4⟩ := P.one E h hj l (hl l (by simp))
    obtain ⟨d1, d2, d3⟩ := P.lines ls E' e2 e3 fun x hx => hl x (List.mem_cons_of_mem _ hx)
    have e : joinN (l :: ls) = (l ++ [10]) ++ joinN ls := by simp [joinN]
    rw [e, feed_app, e1]
    exact ⟨d1, d2, d3.trans e4⟩
theorem Swift.tail (P : Swift mf cf hd m) (E : Ed) (h : Rz E) (hj : E.hold.size ≤ hd) (l : List UInt8) (hl : okL m l) (h0 : l ≠ []) : ((E.feed mf cf l).endIt mf cf).state = 1 := by
  obtain ⟨E', k, hk, hr, n1, n2, n3, n4, n5, n6⟩ := P.run { E with ended := true } l hj hl h.next h.whole h.state
  rw [end_tail E h l (P.lk hl) h0]
  have e : 9999 = (9999 - k - 1 + 1) + k := by omega
  rw [e, hr, w0_end _ _ (by simp [Ed.atHand, n3]) (by simp [Ed.more, n1, n2])]
structure Earl (mf : Mf) (cf : Cf) (ls : List (List UInt8)) (t : List UInt8) : Prop where
  s1 : (fin mf cf (joinN ls)).state = 1
  s2 : (fin mf cf (joinN ls ++ 120 :: t)).state = 1
  same : ((ed0 cf).feed mf cf (joinN ls ++ [120])).out = (fin mf cf (joinN ls)).out
  taken : ((ed0 cf).feed mf cf (joinN ls ++ [120])).taken = 0
  none : ls = [] → ((ed0 cf).feed mf cf (joinN ls ++ [120])).out = []
theorem Swift.early (P : Swift mf cf hd m) (ls : List (List UInt8)) (t : List UInt8) (hl : ∀ l ∈ ls, okL m l) (ht : okL m (120 :: t)) : Earl mf cf ls t := by
  obtain ⟨d1, d2, d3⟩ := P.lines ls (ed0 cf) (ed0_rz cf) (Nat.zero_le _) hl
  have hx : ((ed0 cf).feed mf cf (joinN ls)).feed mf cf [120] = { (ed0 cf).feed mf cf (joinN ls) with next := [120] } := by
    have := feed_bytes (mf := mf) (cf := cf) [120] _ d1.stage d1.state d1.ended d1.whole (by simp) (by rw [d1.next]; have := ht.2; have := P.line; simp at *; omega)
    rw [this, d1.next]
    rfl
  refine ⟨?_, ?_, ?_, ?_, ?_⟩
  · unfold fin
    rw [end_none _ d1]
  · unfold fin
    rw [feed_app]
    exact P.tail _ d1 d2 (120 :: t) ht (by simp)
  · unfold fin
    rw [feed_app, hx, end_none _ d1]
  · rw [feed_app, hx]
    exact d3
  · intro e
    subst e
    rw [feed_app, hx]
    rfl
theorem all_fields : ∀ (l : List ByteArray) (E : Ed), (E.printAll l).next = E.next ∧ (E.printAll l).whole = E.whole ∧ (E.printAll l).ended = E.ended ∧ (E.printAll l).state = E.state ∧ (E.printAll l).hold = E.hold ∧ (E.printAll l).taken = E.taken
  | [], E => ⟨rfl, rfl, rfl, rfl, rfl, rfl⟩
  | t :: r, E => all_fields r (E.print t)
theorem come_fields (E : Ed) : E.printComing.next = E.next ∧ E.printComing.whole = E.whole ∧ E.printComing.ended = E.ended ∧ E.printComing.state = E.state ∧ E.printComing.hold = E.hold ∧ E.printComing.taken = E.taken := all_fields E.coming E
theorem space_fields (E : Ed) : (E.printSpace cf).next = E.next ∧ (E.printSpace cf).whole = E.whole ∧ (E.printSpace cf).ended = E.ended ∧ (E.printSpace cf).state = E.state ∧ (E.printSpace cf).hold = E.hold ∧ (E.printSpace cf).taken = E.taken := by
  unfold Ed.printSpace
  split
  · exact ⟨rfl, rfl, rfl, rfl, rfl, rfl⟩
  · exact ⟨rfl, rfl, rfl, rfl, rfl, rfl⟩
structure Kpt (hd : Nat) (E E1 : Ed) : Prop where
  next : E1.next = []
  whole : E1.whole = false
  ended : E1.ended = E.ended
  state : E1.state = 0
  hold : E1.hold.size ≤ hd
  taken : E1.taken = E.taken
theorem over_end (E E1 : Ed) (k : Nat) (hk : k ≤ 4000) (X : Ed) (sg : Nat) (hr : ∀ f, X.workF mf cf (f + k) sg = E1.workF mf cf f 1) (h1 : E1.at' = cf.cmds.length) (h : Kpt hd E E1) : ∃ (E' : Ed) (k : Nat), k ≤ 5000 ∧ (∀ f, X.workF mf cf (f + k) sg = E'.workF mf cf f 0) ∧ E'.next = [] ∧ E'.whole = false ∧ E'.ended = E.ended ∧ E'.state = 0 ∧ E'.hold.size ≤ hd ∧ E'.taken = E.taken := by
  obtain ⟨a1, a2, a3, a4, a5, a6⟩ := space_fields (cf := cf) E1
  obtain ⟨b1, b2, b3, b4, b5, b6⟩ := come_fields (E1.printSpace cf)
  refine ⟨(E1.printSpace cf).printComing, k + 3, by omega, fun f => ?_, by rw [b1, a1]; exact h.next, by rw [b2, a2]; exact h.whole, by rw [b3, a3]; exact h.ended, by rw [b4, a4]; exact h.state, by rw [b5, a5]; exact h.hold, by rw [b6, a6]; exact h.taken⟩
  rw [show f + (k + 3) = (f + 3) + k by omega, hr, show f + 3 = (f + 2) + 1 from rfl, w1_end _ _ h1, w3, w4 _ _ (by rw [b4, a4]; exact h.state)]
theorem over_cut (E E1 : Ed) (k : Nat) (hk : k ≤ 4000) (X : Ed) (sg : Nat) (hr : ∀ f, X.workF mf cf (f + k) sg = E1.workF mf cf f 4) (h : Kpt hd E E1) : ∃ (E' : Ed) (k : Nat), k ≤ 5000 ∧ (∀ f, X.workF mf cf (f + k) sg = E'.workF mf cf f 0) ∧ E'.next = [] ∧ E'.whole = false ∧ E'.ended = E.ended ∧ E'.state = 0 ∧ E'.hold.size ≤ hd ∧ E'.taken = E.taken := by
  obtain ⟨b1, b2, b3, b4, b5, b6⟩ := come_fields E1
  refine ⟨E1.printComing, k + 1, by omega, fun f => ?_, by rw [b1]; exact h.next, by rw [b2]; exact h.whole, by rw [b3]; exact h.ended, by rw [b4]; exact h.state, by rw [b5]; exact h.hold, by rw [b6]; exact h.taken⟩
  rw [show f + (k + 1) = (f + 1) + k by omega, hr, w4 _ _ (by rw [b4]; exact h.state)]
theorem swift_one (c : Cm) (a b n : Nat) (ha : m ≤ a) (hb : m ≤ b) (h : ∀ (E : Ed) (l : List UInt8), E.hold.size ≤ hd → okL m l → E.state = 0 → (∃ E1, Ed.command mf ⟨a, b, n, false, [c]⟩ { rd E l with stage := 1 } = (E1, 1) ∧ E1.at' = 1 ∧ Kpt hd E E1) ∨ (∃ E1, Ed.command mf ⟨a, b, n, false, [c]⟩ { rd E l with stage := 1 } = (E1, 3) ∧ Kpt hd E E1)) : Swift mf ⟨a, b, n, false, [c]⟩ hd m where
  run := fun E l hj hl h1 h2 h3 => by
    rcases h E l hj hl h3 with ⟨E1, k1, k2, k3⟩ | ⟨E1, k1, k3⟩
    · refine over_end E E1 2 (by omega) _ 1 (fun f => ?_) k2 k3
      rw [show f + 2 = (f + 1) + 1 from rfl, w1_cmd _ _ (by simp [rd]), w2_1 _ _ _ k1]
    · refine over_cut E E1 2 (by omega) _ 1 (fun f => ?_) k3
      rw [show f + 2 = (f + 1) + 1 from rfl, w1_cmd _ _ (by simp [rd]), w2_3 _ _ _ k1]
  line := ha
  space := hb
theorem swift_E (a b n : Nat) (ha : m ≤ a) (hb : m ≤ b) : Swift mf ⟨a, b, n, false, []⟩ hd m where
  run := fun E l hj hl h1 h2 h3 => over_end E (rd E l) 0 (by omega) _ 1 (fun f => rfl) rfl ⟨rfl, rfl, rfl, h3, hj, rfl⟩
  line := ha
  space := hb
theorem swift_p : Swift mf ⟨80, 80, 1000, false, [cmK 5]⟩ 30 30 := swift_one _ _ _ _ (by omega) (by omega) fun E l hj hl h3 => .inl ⟨{ rd E l with looked := 1, stage := 3, at' := 1, out := E.out ++ l ++ [10] }, by
  simp [Ed.command, Ed.choose, Ed.selects, Ed.meets, Ed.doIt, Ed.edit, Ed.jump, Ed.print, cmK, rd, row_txt], rfl, ⟨rfl, rfl, rfl, h3, hj, rfl⟩⟩
theorem swift_eq : Swift mf ⟨80, 80, 1000, false, [cmK 12]⟩ 30 30 := swift_one _ _ _ _ (by omega) (by omega) fun E l hj hl h3 => .inl ⟨{ rd E l with looked := 1, stage := 3, at' := 1, out := E.out ++ row (itoa (E.number + 1)) ++ [10] }, by
  simp [Ed.command, Ed.choose, Ed.selects, Ed.meets, Ed.doIt, Ed.edit, Ed.jump, Ed.print, cmK, rd, row_txt], rfl, ⟨rfl, rfl, rfl, h3, hj, rfl⟩⟩
def cmY2 : Cm := { cmK 20 with frm := ⟨#[97, 98]⟩, too := ⟨#[98, 97]⟩ }
theorem swift_y : Swift mf ⟨80, 80, 1000, false, [cmY2]⟩ 30 30 := swift_one _ _ _ _ (by omega) (by omega) fun E l hj hl h3 => .inl ⟨{ rd E l with looked := 1, stage := 3, at' := 1, pat := trans ⟨#[97, 98]⟩ ⟨#[98, 97]⟩ (txt l) }, by
  simp [Ed.command, Ed.choose, Ed.selects, Ed.meets, Ed.doIt, Ed.edit, Ed.jump, cmY2, cmK, rd], rfl, ⟨rfl, rfl, rfl, h3, hj, rfl⟩⟩
def cmA : Cm := { cmK 14 with text := ⟨#[120]⟩ }
theorem swift_a : Swift mf ⟨80, 80, 1000, false, [cmA]⟩ 30 30 := swift_one _ _ _ _ (by omega) (by omega) fun E l hj hl h3 => .inl ⟨{ rd E l with looked := 1, stage := 3, at' := 1, coming := E.coming ++ [⟨#[120]⟩] }, by
  simp [Ed.command, Ed.choose, Ed.selects, Ed.meets, Ed.doIt, Ed.edit, Ed.jump, cmA, cmK, rd], rfl, ⟨rfl, rfl, rfl, h3, hj, rfl⟩⟩
theorem swift_G : Swift mf ⟨80, 80, 1000, false, [cmK 8]⟩ 30 30 := swift_one _ _ _ _ (by omega) (by omega) fun E l hj hl h3 => .inl ⟨{ rd E l with looked := 1, stage := 3, at' := 1, pat := txt l ++ newline ++ E.hold }, by
  have hz : ¬ 80 < (txt l ++ newline ++ E.hold).size := by
    have e1 : newline.size = 1 := rfl
    have := hl.2
    rw [ByteArray.size_append, ByteArray.size_append, txt_size, e1]
    omega
  have hg : ({ rd E l with looked := 1, stage := 3 } : Ed).grow ⟨80, 80, 1000, false, [cmK 8]⟩ E.hold = some { rd E l with looked := 1, stage := 3, pat := txt l ++ newline ++ E.hold } := by
    unfold Ed.grow Ed.become
    exact if_neg hz
  have e0 : Ed.command mf ⟨80, 80, 1000, false, [cmK 8]⟩ { rd E l with stage := 1 } = match ({ rd E l with looked := 1, stage := 3 } : Ed).grow ⟨80, 80, 1000, false, [cmK 8]⟩ E.hold with
      | none => ({ rd E l with looked := 1, stage := 3, state := 4 }, 0)
      | some E1 => ({ E1 with at' := E1.at' + 1 }, 1) := by
    simp only [Ed.command, Ed.choose, Ed.selects, Ed.meets, Ed.doIt, Ed.edit, Ed.jump, Ed.stop, rd, cmK]
    simp
    generalize Ed.grow _ _ _ = q
    cases q <;> rfl
  rw [e0, hg]
  rfl, rfl, ⟨rfl, rfl, rfl, h3, hj, rfl⟩⟩
def cm2d : Cm := { cmK 1 with fst := ⟨1, 2, emp⟩ }
theorem swift_2d : Swift mf ⟨80, 80, 1000, false, [cm2d]⟩ 30 30 := swift_one _ _ _ _ (by omega) (by omega) fun E l hj hl h3 => by
  by_cases h2 : E.number = 1
  · exact .inr ⟨{ rd E l with looked := 1, stage := 3 }, by
      simp [Ed.command, Ed.choose, Ed.selects, Ed.meets, Ed.doIt, Ed.edit, Ed.jump, cm2d, cmK, rd, h2], ⟨rfl, rfl, rfl, h3, hj, rfl⟩⟩
  · have h4 : ¬ 2 = E.number + 1 := by omega
    exact .inl ⟨{ rd E l with looked := 1, stage := 2, at' := 1 }, by
      simp [Ed.command, Ed.choose, Ed.selects, Ed.meets, Ed.doIt, Ed.edit, Ed.jump, cm2d, cmK, rd, h2, h4], rfl, ⟨rfl, rfl, rfl, h3, hj, rfl⟩⟩
/- Substitutions. -/
theorem sub_ok (cf : Cf) (E : Ed) (c : Cm) (hp : c.prt = false) (hz : (repl mf c E.pat).1.size ≤ cf.space) : ∃ (p : ByteArray) (b : Bool), E.subst mf cf c = some { E with pat := p, put := b } := by
  by_cases hr : (repl mf c E.pat).2 = true
  · refine ⟨(repl mf c E.pat).1, true, ?_⟩
    simp [Ed.subst, hr, Ed.become, hp, Nat.not_lt.2 hz]
  · exact ⟨E.pat, E.put, by simp [Ed.subst, hr]⟩
theorem sel_ok (E : Ed) (c : Cm) (h : (c.fst.sort = 0 ∧ c.snd.sort = 0) ∨ (c.fst.sort = 3 ∧ c.snd.sort = 3)) : ∃ (o : List Bool) (s : Bool), E.selects mf c = ({ E with opn := o }, s, true) := by
  rcases h with ⟨h1, h2⟩ | ⟨h1, h2⟩
  · exact ⟨E.opn, true, by simp [Ed.selects, Ed.meets, h1, h2]⟩
  · by_cases ho : E.opn.getD E.at' false = false ∧ ((E.meets mf c.fst).1 = false ∨ (E.meets mf c.fst).2 = false)
    · refine ⟨E.opn, false, ?_⟩
      unfold Ed.selects
      rw [if_neg (by rw [h2]; decide)]
      simp only
      rw [if_pos ho]
      simp [Ed.meets, h1]
    · refine ⟨E.opn.set E.at' (!(E.opn.getD E.at' false && hits mf c.snd.pat E.pat)), true, ?_⟩
      unfold Ed.selects
      rw [if_neg (by rw [h2]; decide)]
      simp only
      rw [if_neg ho]
      simp [Ed.closes, h2]
theorem swift_sub (c : Cm) (hk : c.kind = 19) (hp : c.prt = false) (hn : c.neg = false) (ha : (c.fst.sort = 0 ∧ c.snd.sort = 0) ∨ (c.fst.sort = 3 ∧ c.snd.sort = 3)) (hz : ∀ l : List UInt8, l.length ≤ 30 → (repl mf c (txt l)).1.size ≤ 80) : Swift mf ⟨80, 80, 1000, false, [c]⟩ 30 30 := swift_one _ _ _ _ (by omega) (by omega) fun E l hj hl h3 => by
  left
  obtain ⟨o, s, hs⟩ := sel_ok (mf := mf) { rd E l with looked := 1, stage := 2 } c ha
  cases s with
  | false =>
    refine ⟨{ rd E l with looked := 1, stage := 2, opn := o, at' := 1 }, ?_, rfl, ⟨rfl, rfl, rfl, h3, hj, rfl⟩⟩
    have hc : Ed.command mf ⟨80, 80, 1000, false, [c]⟩ { rd E l with stage := 1 } = Ed.choose mf ⟨80, 80, 1000, false, [c]⟩ { rd E l with looked := 1, stage := 2 } c := by
      simp [Ed.command, rd]
    rw [hc]
    unfold Ed.choose
    rw [if_pos rfl, hs]
    simp only [hn, hk]
    rfl
  | true =>
    obtain ⟨p, b, hb⟩ := sub_ok (mf := mf) ⟨80, 80, 1000, false, [c]⟩ { rd E l with looked := 1, stage := 3, opn := o } c hp (hz l hl.2)
    refine ⟨{ rd E l with looked := 1, stage := 3, opn := o, pat := p, put := b, at' := 1 }, ?_, rfl, ⟨rfl, rfl, rfl, h3, hj, rfl⟩⟩
    have hc : Ed.command mf ⟨80, 80, 1000, false, [c]⟩ { rd E l with stage := 1 } = Ed.choose mf ⟨80, 80, 1000, false, [c]⟩ { rd E l with looked := 1, stage := 2 } c := by
      simp [Ed.command, rd]
    have hd : Ed.doIt mf ⟨80, 80, 1000, false, [c]⟩ { rd E l with looked := 1, stage := 3, opn := o } c = match Ed.subst mf ⟨80, 80, 1000, false, [c]⟩ { rd E l with looked := 1, stage := 3, opn := o } c with
        | none => Ed.stop { rd E l with looked := 1, stage := 3, opn := o } 4
        | some E1 => E1.jump (E1.at' + 1) := by
      simp only [Ed.doIt, Ed.edit, hk]
      simp
      generalize Ed.subst mf _ _ _ = q
      cases q <;> rfl
    rw [hc]
    unfold Ed.choose
    rw [if_pos rfl, hs]
    simp only [hn]
    have hd2 := hd
    rw [hb] at hd2
    exact hd2
theorem sc_len2 (w o : List UInt8) (f : Nat → Bool) (hw : w ≠ []) (ho : o.length ≤ 2) : ∀ (k n : Nat) (l : List UInt8), (sc w o f k n l).length ≤ 2 * l.length
  | 0, n, l => by simp [sc]
  | k + 1, n, [] => by simp [sc]
  | k + 1, n, b :: r => by
    have hp : 0 < w.length := List.length_pos_iff.2 hw
    have h1 := sc_len2 w o f hw ho k n r
    have h2 := sc_len2 w o f hw ho k (n + 1) ((b :: r).drop w.length)
    rw [sc]
    by_cases hq : w.isPrefixOf (b :: r) = true
    · rw [if_pos hq, List.length_append]
      have h3 := (List.isPrefixOf_iff_prefix.1 hq).length_le
      rw [List.length_drop] at h2
      by_cases hf : f (n + 1) = true
      · rw [if_pos hf]
        omega
      · rw [if_neg hf]
        omega
    · rw [if_neg hq, List.length_cons, List.length_cons]
      omega
def cmSa : Cm := cmS ⟨#[97]⟩ [⟨-1, 98⟩, ⟨-1, 98⟩] 1 true
theorem swift_s (hm : MfOk mf) : Swift mf ⟨80, 80, 1000, false, [cmSa]⟩ 30 30 := swift_sub cmSa rfl rfl rfl (.inl ⟨rfl, rfl⟩) fun l hl => by
  have hw : Wd [97] := ⟨fun b hb => by simp at hb; exact .inl hb, by simp, by simp⟩
  obtain ⟨n', e1, _, _⟩ := repl_w hm l [97] [98, 98] hw 1 true (by omega) ((txt l).size + 3) 0 0 0 [] (by rw [txt_size]; omega) (Nat.le_refl _) (Nat.zero_le _) (fun _ => trivial) (fun hx => by omega)
  simp only [Nat.sub_zero, List.drop_zero, List.take_zero, List.append_nil, List.nil_append, Nat.sub_self] at e1
  have e2 : repl mf cmSa (txt l) = (txt (sc [97] [98, 98] (pick9 1 true) l.length 0 l), decide (1 ≤ n')) := by
    unfold repl
    have e1' : replL mf cmSa (txt l) ((txt l).size + 3) (mf cmSa.pat (txt l) 0) 0 0 [] = (sc [97] [98, 98] (pick9 1 true) l.length 0 l, n') := e1
    rw [e1']
    rfl
  rw [e2]
  show (txt _).size ≤ 80
  rw [txt_size]
  have := sc_len2 [97] [98, 98] (pick9 1 true) (by simp) (by simp) l.length 0 l
  omega
def cmSd : Cm := ⟨19, ⟨3, 0, ⟨#[97]⟩⟩, ⟨3, 0, ⟨#[98]⟩⟩, false, 0, emp, ⟨#[46]⟩, [⟨-1, 60⟩, ⟨0, 0⟩, ⟨-1, 62⟩], 1, false, false, emp, emp⟩
theorem swift_d (hm : MfOk mf) : Swift mf ⟨80, 80, 1000, false, [cmSd]⟩ 30 30 := swift_sub cmSd rfl rfl rfl (.inr ⟨rfl, rfl⟩) fun l hl => by
  have key : (replL mf cmSd (txt l) ((txt l).size + 3) (mf cmSd.pat (txt l) 0) 0 0 []).1.length ≤ 80 := by
    cases hx : mf cmSd.pat (txt l) 0 with
    | none =>
      rw [show (txt l).size + 3 = ((txt l).size + 2) + 1 from rfl, replL, cut_end]
      simp
      omega
    | some sp =>
      obtain ⟨i, j, c, rfl, hb, _, _⟩ := hm.some' hx
      obtain ⟨_, b2, b3, _⟩ := hb
      rw [txt_size] at b3
      have e : replL mf cmSd (txt l) ((txt l).size + 3) (some (((i : Int), (j : Int)) :: c)) 0 0 [] = (row ((txt l).extract 0 i) ++ [60] ++ row ((txt l).extract i j) ++ [62] ++ row ((txt l).extract j (txt l).size), 1) := by
        rw [show (txt l).size + 3 = ((txt l).size + 2) + 1 from rfl, replL]
        simp [cmSd, fillT]
      rw [e, cut_mid l 0 i (by omega), cut_mid l i j b2, cut_end]
      simp only [List.length_append, List.length_take, List.length_drop, List.length_singleton, List.drop_zero]
      omega
  unfold repl
  show (txt _).size ≤ 80
  rw [txt_size]
  exact key
/- A block. -/
def cmBl : Cm := ⟨0, ⟨1, 1, emp⟩, ⟨1, 2, emp⟩, false, 4, emp, emp, [], 0, false, false, emp, emp⟩
def cBl : Cf := ⟨80, 80, 1000, false, [cmBl, cmK 9, cmK 11, cmK 8]⟩
theorem swift_b : Swift mf cBl 30 30 where
  run := fun E l hj hl h1 h2 h3 => by
    have hl2 := hl.2
    have hsel : (∃ o : List Bool, Ed.command mf cBl { rd E l with stage := 1 } = ({ rd E l with looked := 1, stage := 3, at' := 1, opn := o }, 1)) ∨ Ed.command mf cBl { rd E l with stage := 1 } = ({ rd E l with looked := 1, stage := 2, at' := 4 }, 1) := by
      by_cases ho : E.opn.getD 0 false = false ∧ ¬ (1 = E.number + 1)
      · right
        have ho1 := ho.1
        have ho2 := ho.2
        have ho3 : E.number ≠ 0 := by omega
        simp only [Ed.command, Ed.choose, Ed.selects, Ed.meets, Ed.closes, Ed.jump, cmBl, cBl, rd]
        simp [ho1, ho2, ho3]
        simp_all
      · left
        refine ⟨E.opn.set 0 (!decide (2 ≤ E.number + 1)), ?_⟩
        simp only [Ed.command, Ed.choose, Ed.selects, Ed.meets, Ed.closes, Ed.jump, Ed.doIt, Ed.edit, cmBl, cBl, rd]
        have ho' : ¬ (E.opn.getD 0 false = false ∧ decide (1 = E.number + 1) = false) := by simpa using ho
        simp at ho' ⊢
        have hn : ¬ (E.opn[0]?.getD false = false ∧ ¬ E.number = 0) := fun hx => hx.2 (ho' hx.1)
        simp only [if_neg hn]
        simp
    rcases hsel with ⟨o, hs⟩ | hs
    · have hz1 : ¬ 80 < (txt l).size := by rw [txt_size]; omega
      have hz2 : ¬ 80 < (txt l ++ newline ++ txt l).size := by
        have e1 : newline.size = 1 := rfl
        rw [ByteArray.size_append, ByteArray.size_append, txt_size, e1]
        omega
      have hg : ∀ X : Ed, X.pat = txt l → X.hold = txt l → X.grow cBl X.hold = some { X with pat := txt l ++ newline ++ txt l } := fun X e1 e2 => by
        unfold Ed.grow Ed.become
        rw [e1, e2]
        exact if_neg hz2
      refine over_end E { rd E l with looked := 4, stage := 3, at' := 4, opn := o, hold := txt l, pat := txt l ++ newline ++ txt l } 8 (by omega) _ 1 (fun f => ?_) rfl ⟨rfl, rfl, rfl, h3, by show (txt l).size ≤ 30; rw [txt_size]; omega, rfl⟩
      rw [show f + 8 = (f + 7) + 1 from rfl, w1_cmd _ _ (by simp [rd, cBl])]
      rw [show f + 7 = (f + 6) + 1 from rfl, w2_1 _ _ _ hs]
      rw [show f + 6 = (f + 5) + 1 from rfl, w1_cmd _ _ (by simp [cBl])]
      rw [show f + 5 = (f + 4) + 1 from rfl, w2_1 _ _ { rd E l with looked := 2, stage := 3, at' := 2, opn := o, hold := txt l } (by
        simp [Ed.command, Ed.choose, Ed.selects, Ed.meets, Ed.doIt, Ed.edit, Ed.jump, Ed.holds, cBl, cmK, rd, hz1])]
      rw [show f + 4 = (f + 3) + 1 from rfl, w1_cmd _ _ (by simp [cBl])]
      rw [show f + 3 = (f + 2) + 1 from rfl, w2_1 _ _ { rd E l with looked := 3, stage := 3, at' := 3, opn := o, hold := txt l } (by
        simp [Ed.command, Ed.choose, Ed.selects, Ed.meets, Ed.doIt, Ed.edit, Ed.jump, cBl, cmK, rd])]
      rw [show f + 2 = (f + 1) + 1 from rfl, w1_cmd _ _ (by simp [cBl])]
      have hc : Ed.command mf cBl { rd E l with looked := 3, stage := 1, at' := 3, opn := o, hold := txt l } = match ({ rd E l with looked := 4, stage := 3, at' := 3, opn := o, hold := txt l } : Ed).grow cBl (txt l) with
          | none => ({ rd E l with looked := 4, stage := 3, at' := 3, opn := o, hold := txt l, state := 4 }, 0)
          | some E1 => ({ E1 with at' := E1.at' + 1 }, 1) := by
        simp only [Ed.command, Ed.choose, Ed.selects, Ed.meets, Ed.doIt, Ed.edit, Ed.jump, Ed.stop, rd, cmK, cBl]
        simp
        generalize Ed.grow _ _ _ = q
        cases q <;> rfl
      have hg2 := hg { rd E l with looked := 4, stage := 3, at' := 3, opn := o, hold := txt l } rfl rfl
      have hc2 : Ed.command mf cBl { rd E l with looked := 3, stage := 1, at' := 3, opn := o, hold := txt l } = ({ rd E l with looked := 4, stage := 3, at' := 4, opn := o, hold := txt l, pat := txt l ++ newline ++ txt l }, 1) := by
        rw [hc]
        have hg3 : ({ rd E l with looked := 4, stage := 3, at' := 3, opn := o, hold := txt l } : Ed).grow cBl (txt l) = some { rd E l with looked := 4, stage := 3, at' := 3, opn := o, hold := txt l, pat := txt l ++ newline ++ txt l } := hg2
        rw [hg3]
      exact w2_1 _ _ _ hc2
    · refine over_end E { rd E l with looked := 1, stage := 2, at' := 4 } 2 (by omega) _ 1 (fun f => ?_) rfl ⟨rfl, rfl, rfl, h3, hj, rfl⟩
      rw [show f + 2 = (f + 1) + 1 from rfl, w1_cmd _ _ (by simp [rd, cBl]), w2_1 _ _ _ hs]
  line := by decide
  space := by decide
end
end Ee
end Go.Proofs.YtppjlpihaocdiaaGreatDoor

set_option linter.unusedSimpArgs false
set_option linter.unusedVariables false
namespace Go.Proofs.YtppjlpihaocdiaaGreatDoor
namespace Ee
open Go.RowKit
open Rs (Cm Wh Pc own_of CmdsIn readR)
def scrs : List ByteArray := [⟨#[]⟩, ⟨#[112]⟩, ⟨#[61]⟩, ⟨#[115, 47, 97, 47, 98, 98, 47, 103]⟩, ⟨#[50, 100]⟩, ⟨#[121, 47, 97, 98, 47, 98, 97, 47]⟩, ⟨#[71]⟩, ⟨#[97, 32, 120]⟩, ⟨#[47, 97, 47, 44, 47, 98, 47, 115, 47, 46, 47, 60, 38, 62, 47]⟩, ⟨#[49, 44, 50, 123, 104, 59, 120, 59, 71, 125]⟩]
def scr (k : Nat) : ByteArray := scrs.getD k ⟨#[]⟩
def cmsOf : List (List Cm) := [[], [cmK 5], [cmK 12], [cmSa], [cm2d], [cmY2], [cmK 8], [cmA], [cmSd], [cmBl, cmK 9, cmK 11, cmK 8]]
theorem scr_read (k : Nat) (h : k < 10) : readR (scr k) = (cmsOf.getD k [], 0, 0) := by
  match k with
  | 0 => rfl
  | 1 => rfl
  | 2 => rfl
  | 3 => rfl
  | 4 => rfl
  | 5 => rfl
  | 6 => rfl
  | 7 => rfl
  | 8 => rfl
  | 9 => rfl
  | k + 10 => omega
theorem scr_swift {mf : Mf} (hm : MfOk mf) (k : Nat) (h : k < 10) : Swift mf ⟨80, 80, 1000, false, cmsOf.getD k []⟩ 30 30 := by
  match k with
  | 0 => exact swift_E 80 80 1000 (by omega) (by omega)
  | 1 => exact swift_p
  | 2 => exact swift_eq
  | 3 => exact swift_s hm
  | 4 => exact swift_2d
  | 5 => exact swift_y
  | 6 => exact swift_G
  | 7 => exact swift_a
  | 8 => exact swift_d hm
  | 9 => exact swift_b
  | k + 10 => omega
theorem scr_small (k : Nat) : (scr k).size ≤ maxLen := by
  match k with
  | 0 => decide
  | 1 => decide
  | 2 => decide
  | 3 => decide
  | 4 => decide
  | 5 => decide
  | 6 => decide
  | 7 => decide
  | 8 => decide
  | 9 => decide
  | k + 10 => exact Nat.zero_le _
theorem scr_early {mf : Mf} (hm : MfOk mf) (k : Nat) (h : k < 10) (ls : List (List UInt8)) (t : List UInt8) (hl : ∀ l ∈ ls, okL 30 l) (ht : okL 20 t) : opens (scr k) 80 80 1000 = true ∧ Earl mf (cfO (scr k) 80 80 1000 false) ls t := by
  refine ⟨opens_of (scr_read k h) _ _ _ (by decide), ?_⟩
  rw [cf_of (scr_read k h)]
  refine (scr_swift hm k h).early ls t hl ⟨fun b hb => ?_, ?_⟩
  · rcases List.mem_cons.1 hb with rfl | hb
    · decide
    · exact ht.1 b hb
  · have := ht.2
    rw [List.length_cons]
    omega
theorem scr_cell (k : Nat) (h : k < 10) : (#[Value.string ⟨#[]⟩, .string ⟨#[112]⟩, .string ⟨#[61]⟩, .string ⟨#[115, 47, 97, 47, 98, 98, 47, 103]⟩, .string ⟨#[50, 100]⟩, .string ⟨#[121, 47, 97, 98, 47, 98, 97, 47]⟩, .string ⟨#[71]⟩, .string ⟨#[97, 32, 120]⟩, .string ⟨#[47, 97, 47, 44, 47, 98, 47, 115, 47, 46, 47, 60, 38, 62, 47]⟩, .string ⟨#[49, 44, 50, 123, 104, 59, 120, 59, 71, 125]⟩] : Array Value)[k]? = some (.string (scr k)) := by
  match k with
  | 0 => rfl
  | 1 => rfl
  | 2 => rfl
  | 3 => rfl
  | 4 => rfl
  | 5 => rfl
  | 6 => rfl
  | 7 => rfl
  | 8 => rfl
  | 9 => rfl
  | k + 10 => omega
theorem Strs.belowE {w w' : World} {ao : Option Addr} {n : Nat} (h : Strs w ao n) (hb : Below w.heap.size w w') : Strs w' ao n :=
  ⟨fun hn => by
    obtain ⟨b, o, h1, h2, h3⟩ := h.cell hn
    refine ⟨b, o, h1, Nat.lt_of_lt_of_le h2 hb.size, fun i hi => ?_⟩
    obtain ⟨x, x1, x3⟩ := h3 i hi
    exact ⟨x, x1, (World.cell?_of_block (w := w) (w' := w') (a := ⟨b, o + i, none⟩) (hb.block b h2)).trans x3⟩, h.le⟩
theorem row_in2 (a b : List UInt8) : row (txt a ++ ⟨#[120]⟩ ++ txt b) = a ++ 120 :: b := by
  rw [row_append, row_append, row_txt, row_txt]
  show a ++ [120] ++ b = _
  simp
structure Epl (mf : Mf) (cf : Cf) (ls : List (List UInt8)) (t : List UInt8) (E1 E2 E3 E4 E5 : Ed) (got RS : ByteArray) : Prop where
  feed : (ed0 cf).feed mf cf (joinN ls ++ [120]) = E1
  take : E1.take 1099511627776 = (E2, got)
  feed2 : E2.feed mf cf t = E3
  ends : E3.endIt mf cf = E4
  take2 : E4.take 1099511627776 = (E5, RS)
  r1 : Rest cf (0 + (joinN ls ++ [120]).length) E1
  r2 : Rest cf (0 + (joinN ls ++ [120]).length) E2
  r3 : Rest cf (0 + (joinN ls ++ [120]).length + t.length) E3
  r4 : Rest cf (0 + (joinN ls ++ [120]).length + t.length) E4
  all : txt (fin mf cf (joinN ls)).out = got
  whole : txt (fin mf cf (joinN ls ++ 120 :: t)).out = got ++ RS
  none : ls = [] → got = ⟨#[]⟩
theorem early_plain {mf : Mf} {cf : Cf} (hc : Cok cf) (ls : List (List UInt8)) (t : List UInt8) (hE : Earl mf cf ls t) (hl : (joinN ls).length ≤ 2000) (ht : t.length ≤ 20) : ∃ E1 E2 E3 E4 E5 got RS, Epl mf cf ls t E1 E2 E3 E4 E5 got RS := by
  have hlen : (joinN ls ++ [120]).length ≤ 2001 := by rw [List.length_append]; simp; omega
  have h1 : Rest cf (0 + (joinN ls ++ [120]).length) ((ed0 cf).feed mf cf (joinN ls ++ [120])) := feed_rest hc (joinN ls ++ [120]) 0 (ed0 cf) (by omega) (ed0_rest hc)
  have tw1 : Tw2 [] ((ed0 cf).feed mf cf (joinN ls ++ [120])) ((ed0 cf).feed mf cf (joinN ls ++ [120])) := (tw_start cf).pu (pu_feed mf cf (joinN ls ++ [120]))
  obtain ⟨t1, t2, t3⟩ := tw_end tw1 (iv_out h1.1 (by omega))
  have h2 := take_rest h1 1099511627776
  have tw2 := tw1.take 1099511627776
  have hs := hE.same
  have hn := hE.none
  generalize hE1 : (ed0 cf).feed mf cf (joinN ls ++ [120]) = E1 at *
  obtain ⟨E2, got, htk⟩ : ∃ E2 got, E1.take 1099511627776 = (E2, got) := ⟨_, _, rfl⟩
  rw [htk] at h2 tw2 t1 t2 t3
  simp only [List.nil_append] at h2 tw2 t1
  have h3 : Rest cf (0 + (joinN ls ++ [120]).length + t.length) (E2.feed mf cf t) := feed_rest hc t _ E2 (by omega) h2
  have h4 := end_rest (mf := mf) hc (by omega) h3
  have tw3 := (tw2.pu (pu_feed mf cf t)).pu (pu_end mf cf)
  have hf : ((E1.feed mf cf t).endIt mf cf) = fin mf cf (joinN ls ++ 120 :: t) := by
    unfold fin
    rw [show joinN ls ++ 120 :: t = (joinN ls ++ [120]) ++ t by simp, feed_append, hE1]
  simp only [hf] at tw3
  obtain ⟨u1, u2, u3⟩ := tw_end tw3 (iv_out h4.1 (by omega))
  have hall : txt (fin mf cf (joinN ls)).out = got := row_ext (by rw [t1, hs, row_txt])
  obtain ⟨E5, RS, htk2⟩ : ∃ E5 RS, ((E2.feed mf cf t).endIt mf cf).take 1099511627776 = (E5, RS) := ⟨_, _, rfl⟩
  rw [htk2] at u1
  refine ⟨E1, E2, _, _, E5, got, RS, hE1, htk, rfl, rfl, htk2, h1, h2, h3, h4, hall, row_ext (by rw [row_append, row_txt]; exact u1.symm), fun e => ?_⟩
  apply row_ext
  rw [t1, hn e]
  rfl
end Ee
end Go.Proofs.YtppjlpihaocdiaaGreatDoor

set_option linter.unusedSimpArgs false
set_option linter.unusedVariables false
namespace Go.Proofs.YtppjlpihaocdiaaGreatDoor
namespace Ee
open Go.RowKit
open Rs (Cm Wh Pc own_of CmdsIn readR)
set_option maxRecDepth 100000 in
set_option maxHeartbeats 8000000 in
theorem early_any (mf : Mf) (hm : MfOk mf) (ao : Option Addr) (n cap : Nat) (mo : ByteArray) (c : Int) (w : World) (hI : Strs w ao n) (hmo : mo.size ≤ maxLen) (hc : -9223372036854775808 ≤ c ∧ c ≤ 9223372036854775807) (ht : Tab w) :
    Calls Tryz.prog 8 #[.slice ao n cap, .string mo, .int .i64 c] w fun e w' => e = .returned (.bool true) ∧ Below w.heap.size w w' := by
  have HT : Hid (Tab w) := ht
  have HM : Hid (MfOk mf) := hm
  have HI : Hid (Strs w ao n) := hI
  have HPk : Hid (∀ W : World, Calls Tryz.prog 21 #[.int .i64 c, .int .i64 10] W fun e w' => ∃ j : Nat, j < 10 ∧ e = .returned (.int .i64 (j : Int)) ∧ w' = W) := fun W => pick_any c 10 W hc.1 hc.2 (by omega) (by omega)
  have HLn : Hid (∀ W : World, Calls Tryz.prog 36 #[.string mo, .int .i64 20] W fun e w' => e = .returned (.string (txt (lineF 20 (row mo)))) ∧ Below W.heap.size W w') := fun W => line_any mo 20 W hmo (by omega)
  have HLi : Hid (∀ W : World, Strs W ao n → Calls Tryz.prog 34 #[.slice ao n cap, .int .i64 8, .int .i64 30] W (LiQ 8 30 n W)) := fun W hW => lines_any ao n cap 8 30 W hW (by omega) (by omega)
  have HWD : Hid (∀ W, Calls Tryz.prog 35 #[.bool false] W fun e w' => e = .returned (.agg #[.int .i64 80, .int .i64 80, .int .i64 1000, .bool false]) ∧ Below W.heap.size W w') := fun W => wide_any false W
  clear ht hm hI hc hmo
  go_enter Tryz.func8, Tryz.ntmps8
  go_wp2_with fail
  refine (HPk.out _).mono ?_
  rintro e w1 ⟨k, hk, rfl, hw1⟩
  have hw2 := hw1.symm
  subst hw2
  clear hw1 HPk
  have hcell := cell_of_row _ w.heap.size k _ 9 (0, 0) (heap_alloc_last w (.cells #[.string ⟨#[]⟩, .string ⟨#[112]⟩, .string ⟨#[61]⟩, .string ⟨#[115, 47, 97, 47, 98, 98, 47, 103]⟩, .string ⟨#[50, 100]⟩, .string ⟨#[121, 47, 97, 98, 47, 98, 97, 47]⟩, .string ⟨#[71]⟩, .string ⟨#[97, 32, 120]⟩, .string ⟨#[47, 97, 47, 44, 47, 98, 47, 115, 47, 46, 47, 60, 38, 62, 47]⟩, .string ⟨#[49, 44, 50, 123, 104, 59, 120, 59, 71, 125]⟩] 9))
  rw [scr_cell k hk] at hcell
  have HB0 : Hid (Below w.heap.size w _) := below_alloc w (.cells #[.string ⟨#[]⟩, .string ⟨#[112]⟩, .string ⟨#[61]⟩, .string ⟨#[115, 47, 97, 47, 98, 98, 47, 103]⟩, .string ⟨#[50, 100]⟩, .string ⟨#[121, 47, 97, 98, 47, 98, 97, 47]⟩, .string ⟨#[71]⟩, .string ⟨#[97, 32, 120]⟩, .string ⟨#[47, 97, 47, 44, 47, 98, 47, 115, 47, 46, 47, 60, 38, 62, 47]⟩, .string ⟨#[49, 44, 50, 123, 104, 59, 120, 59, 71, 125]⟩] 9)
  have hblk : w.heap.size < (w.alloc (.cells #[.string ⟨#[]⟩, .string ⟨#[112]⟩, .string ⟨#[61]⟩, .string ⟨#[115, 47, 97, 47, 98, 98, 47, 103]⟩, .string ⟨#[50, 100]⟩, .string ⟨#[121, 47, 97, 98, 47, 98, 97, 47]⟩, .string ⟨#[71]⟩, .string ⟨#[97, 32, 120]⟩, .string ⟨#[47, 97, 47, 44, 47, 98, 47, 115, 47, 46, 47, 60, 38, 62, 47]⟩, .string ⟨#[49, 44, 50, 123, 104, 59, 120, 59, 71, 125]⟩] 9)).heap.size := by simp
  generalize (w.alloc (.cells #[.string ⟨#[]⟩, .string ⟨#[112]⟩, .string ⟨#[61]⟩, .string ⟨#[115, 47, 97, 47, 98, 98, 47, 103]⟩, .string ⟨#[50, 100]⟩, .string ⟨#[121, 47, 97, 98, 47, 98, 97, 47]⟩, .string ⟨#[71]⟩, .string ⟨#[97, 32, 120]⟩, .string ⟨#[47, 97, 47, 44, 47, 98, 47, 115, 47, 46, 47, 60, 38, 62, 47]⟩, .string ⟨#[49, 44, 50, 123, 104, 59, 120, 59, 71, 125]⟩] 9)) = W0 at *
  have hLi := HLi.out W0 (HI.out.belowE HB0.out)
  go_wp2_with fail
  refine hLi.mono ?_
  rintro e w2 ⟨lv, ls, rfl, hb2, hown, hlen, hlins⟩
  have hform : ∃ ao2 cp2, lv = .slice ao2 ls.length cp2 := by
    rcases own_form2 hown with ⟨e, e0⟩ | ⟨g, cp, e, hcap⟩
    · exact ⟨none, 0, by rw [e, e0]⟩
    · exact ⟨_, _, e⟩
  obtain ⟨ao2, cp2, rfl⟩ := hform
  have hc2 : w2.cell? ⟨w.heap.size, k, none⟩ = some (.string (scr k)) := (World.cell?_of_block (w := W0) (w' := w2) (a := ⟨w.heap.size, k, none⟩) (hb2.block w.heap.size hblk)).trans hcell
  have HB2 : Hid (Below w.heap.size w w2) := HB0.out.trans (hb2.mono HB0.out.size)
  have hblk2 : w.heap.size < w2.heap.size := Nat.lt_of_lt_of_le hblk hb2.size
  have HLs : Hid (∀ l ∈ ls, okL 30 l) := fun l hl => ⟨(hlins l hl).2, (hlins l hl).1⟩
  have hjl : (joinN ls).length ≤ 2000 := by
    have h1 := joinN_len 30 ls fun l hl => (hlins l hl).1
    have h2 : ls.length * (30 + 1) ≤ 20 * 81 := Nat.mul_le_mul (by omega) (by omega)
    omega
  have hk0 : (0 : Int) ≤ (k : Int) := by omega
  have hk1 : (k : Int) < 10 := by omega
  clear hLi hb2 hown hlins hblk hcell HLi HB0 HI
  have HOk : Hid (okL 20 (lineF 20 (row mo))) := ⟨fun b hb => lineF_mem hb, lineF_len _ _⟩
  obtain ⟨hop, hearl⟩ := scr_early HM.out k hk ls (lineF 20 (row mo)) HLs.out HOk.out
  have hcok : Cok (cfO (scr k) 80 80 1000 false) := opens_ok hop
  obtain ⟨E1, E2, E3, E4, E5, got, RS, hepl⟩ := early_plain hcok ls (lineF 20 (row mo)) hearl hjl HOk.out.2
  have HC : Hid (Cok (cfO (scr k) 80 80 1000 false)) := hcok
  have HP : Hid (Epl mf (cfO (scr k) 80 80 1000 false) ls (lineF 20 (row mo)) E1 E2 E3 E4 E5 got RS) := hepl
  have hLz : (txt (lineF 20 (row mo))).size ≤ 20 := by rw [txt_size]; exact HOk.out.2
  have hJz : (txt (joinN ls)).size ≤ 2000 := by rw [txt_size]; exact hjl
  have hxz : (⟨#[120]⟩ : ByteArray).size = 1 := rfl
  have HOP : Hid (∀ W, Tab W → Calls Tryz.prog 27 #[.string (scr k), .agg #[.int .i64 80, .int .i64 80, .int .i64 1000, .bool false]] W fun e w' => Below W.heap.size W w' ∧ ∃ bl, e = .returned (.tuple #[.pointer (some ⟨bl, 0, none⟩), .int .i64 0]) ∧ Liv W.heap.size w' bl (cfO (scr k) 80 80 1000 false) (ed0 (cfO (scr k) 80 80 1000 false))) := fun W hW => by
    refine (open_lv (scr k) 80 80 1000 false W (scr_small k) hW).mono ?_
    rintro e w' ⟨hb, h⟩
    rcases h with ⟨h1, _⟩ | ⟨_, bl, h1, h2⟩
    · rw [hop] at h1
      cases h1
    · exact ⟨hb, bl, h1, h2⟩
  have HD1 : Hid (∀ W, Tab W → Calls Tryz.prog 26 #[.string (scr k), .agg #[.int .i64 80, .int .i64 80, .int .i64 1000, .bool false], .string (txt (joinN ls))] W fun e w' => e = .returned (.tuple #[.string got, .int .i64 1, .bool true]) ∧ Below W.heap.size W w') := fun W hW => by
    refine (edited_any mf HM.out (scr k) (txt (joinN ls)) 80 80 1000 false W (scr_small k) (by omega) hW).mono ?_
    rintro e w' ⟨hb, h⟩
    refine ⟨?_, hb⟩
    rcases h with ⟨h1, _⟩ | ⟨_, h2⟩
    · rw [hop] at h1
      cases h1
    · rw [h2, row_txt, hearl.s1, HP.out.all]
      rfl
  have hz2 : (txt (joinN ls) ++ ⟨#[120]⟩ ++ txt (lineF 20 (row mo))).size ≤ 1048576 := by
    rw [ByteArray.size_append, ByteArray.size_append, hxz]
    omega
  obtain ⟨I2, hI2⟩ : ∃ I2, I2 = txt (joinN ls) ++ ⟨#[120]⟩ ++ txt (lineF 20 (row mo)) := ⟨_, rfl⟩
  have er : row I2 = joinN ls ++ 120 :: lineF 20 (row mo) := by rw [hI2]; exact row_in2 (joinN ls) (lineF 20 (row mo))
  rw [← hI2] at hz2
  have HD2 : Hid (∀ W, Tab W → Calls Tryz.prog 26 #[.string (scr k), .agg #[.int .i64 80, .int .i64 80, .int .i64 1000, .bool false], .string I2] W fun e w' => e = .returned (.tuple #[.string (got ++ RS), .int .i64 1, .bool true]) ∧ Below W.heap.size W w') := fun W hW => by
    refine (edited_any mf HM.out (scr k) I2 80 80 1000 false W (scr_small k) hz2 hW).mono ?_
    rintro e w' ⟨hb, h⟩
    refine ⟨?_, hb⟩
    rcases h with ⟨h1, _⟩ | ⟨_, h2⟩
    · rw [hop] at h1
      cases h1
    · rw [h2, er, hearl.s2, HP.out.whole]
      rfl
  rw [hI2] at HD2
  clear hI2 er hz2
  have hKl : (joinN ls ++ [120]).length ≤ 2001 := by rw [List.length_append]; simp; omega
  have HK : Hid ((joinN ls ++ [120]).length ≤ 2001) := hKl
  have hI1 : row (txt (joinN ls) ++ ⟨#[120]⟩) = joinN ls ++ [120] := by rw [row_append, row_txt]; rfl
  have HI1 : Hid (row (txt (joinN ls) ++ ⟨#[120]⟩) = joinN ls ++ [120]) := hI1
  clear hop hearl hcok hepl hKl hI1
  generalize hcf : cfO (scr k) 80 80 1000 false = cf at *
  have HF1 : Hid (∀ (lo bl : Nat) (W : World), Liv lo W bl cf (ed0 cf) → Calls Tryz.prog 29 #[.pointer (some ⟨bl, 0, none⟩), .string (txt (joinN ls) ++ ⟨#[120]⟩)] W fun e w' => e = .returned (.tuple #[]) ∧ LQ lo W bl cf E1 w') := fun lo bl W hW => by
    have h := feed_lv mf HM.out lo bl cf 0 (ed0 cf) (txt (joinN ls) ++ ⟨#[120]⟩) W hW HC.out (by rw [ByteArray.size_append]; omega) (ed0_rest HC.out)
    rw [HI1.out, HP.out.feed] at h
    exact h
  have HT1 : Hid (∀ (lo bl : Nat) (W : World), Liv lo W bl cf E1 → Calls Tryz.prog 31 #[.pointer (some ⟨bl, 0, none⟩), .int .i64 1099511627776] W fun e w' => e = .returned (.string got) ∧ LQ lo W bl cf E2 w') := fun lo bl W hW => by
    have h := take_lv lo bl cf _ E1 1099511627776 W hW (by have := HK.out; omega) HP.out.r1
    rw [HP.out.take] at h
    exact h
  have HF2 : Hid (∀ (lo bl : Nat) (W : World), Liv lo W bl cf E2 → Calls Tryz.prog 29 #[.pointer (some ⟨bl, 0, none⟩), .string (txt (lineF 20 (row mo)))] W fun e w' => e = .returned (.tuple #[]) ∧ LQ lo W bl cf E3 w') := fun lo bl W hW => by
    have h := feed_lv mf HM.out lo bl cf _ E2 (txt (lineF 20 (row mo))) W hW HC.out (by have := HK.out; omega) HP.out.r2
    rw [row_txt, HP.out.feed2] at h
    exact h
  have HE3 : Hid (∀ (lo bl : Nat) (W : World), Liv lo W bl cf E3 → Calls Tryz.prog 32 #[.pointer (some ⟨bl, 0, none⟩)] W fun e w' => e = .returned (.tuple #[]) ∧ LQ lo W bl cf E4 w') := fun lo bl W hW => by
    have h := end_lv mf HM.out lo bl cf _ E3 W hW HC.out (by have := HK.out; have := HOk.out.2; omega) HP.out.r3
    rw [HP.out.ends] at h
    exact h
  have HT4 : Hid (∀ (lo bl : Nat) (W : World), Liv lo W bl cf E4 → Calls Tryz.prog 31 #[.pointer (some ⟨bl, 0, none⟩), .int .i64 1099511627776] W fun e w' => e = .returned (.string RS) ∧ LQ lo W bl cf E5 w') := fun lo bl W hW => by
    have h := take_lv lo bl cf _ E4 1099511627776 W hW (by have := HK.out; have := HOk.out.2; omega) HP.out.r4
    rw [HP.out.take2] at h
    exact h
  have HN : Hid (ls.length = 0 → got = ⟨#[]⟩) := fun e => HP.out.none (List.length_eq_zero_iff.1 e)
  have hgz : got.size ≤ 1099511000000 := by
    have e := HP.out.all
    rw [← e, txt_size]
    have := fin_rest (mf := mf) HC.out (joinN ls) (by omega)
    exact iv_out this.1 (by omega)
  have HWz : Hid ((got ++ RS).size ≤ 1099511000000) := by
    rw [Hid, ← HP.out.whole, txt_size]
    have := fin_rest (mf := mf) HC.out (joinN ls ++ 120 :: lineF 20 (row mo)) (by rw [List.length_append, List.length_cons]; have := HOk.out.2; omega)
    exact iv_out this.1 (by rw [List.length_append, List.length_cons]; have := HOk.out.2; omega)
  clear HI1 HK HC HP HOk hcf HLs
  generalize txt (lineF 20 (row mo)) = LN at *
  generalize txt (joinN ls) = J at *
  have z1 : (J ++ (⟨#[120]⟩ : ByteArray)).size = J.size + 1 := by rw [ByteArray.size_append, hxz]
  have z2 : (got ++ RS).size = got.size + RS.size := ByteArray.size_append
  have z3 := HWz.out
  have a1 : ∀ W : World, (Op.stringOp .add J ⟨#[120]⟩).run Tryz.prog W = .ok (.string (J ++ ⟨#[120]⟩)) W := fun W => run_string_add_sum (P := Tryz.prog) (w := W) _ _ (by omega)
  have a2 : ∀ W : World, (Op.stringOp .add (J ++ ⟨#[120]⟩) LN).run Tryz.prog W = .ok (.string (J ++ ⟨#[120]⟩ ++ LN)) W := fun W => run_string_add_sum (P := Tryz.prog) (w := W) _ _ (by omega)
  have a3 : ∀ W : World, (Op.stringOp .add got RS).run Tryz.prog W = .ok (.string (got ++ RS)) W := fun W => run_string_add_sum (P := Tryz.prog) (w := W) _ _ (by omega)
  clear z1 z2 z3 hLz hJz hxz hgz HWz hjl
  have hS2 : w2.drew.cell? ⟨w.heap.size, k, none⟩ = some (.string (scr k)) := hc2
  have HB2d : Hid (Below w.heap.size w w2.drew) := ⟨HB2.out.os, HB2.out.tape, HB2.out.output, HB2.out.size, HB2.out.block⟩
  have hblk2d : w.heap.size < w2.drew.heap.size := hblk2
  go_upto_region 4 with fail
  go_region_held_law (fun W => W.cell? ⟨w.heap.size, k, none⟩ = some (.string (scr k))) (first | exact hS2 | exact hS3 | exact hS4)
    (first
    | (go_at_call 35; (refine (HWD.out w2.drew).mono ?_; rintro e w3 ⟨rfl, hb3⟩; have HB3 : Hid (Below w.heap.size w w3) := HB2d.out.trans (hb3.mono HB2d.out.size); have hS3 : w3.cell? ⟨w.heap.size, k, none⟩ = some (.string (scr k)) := (World.cell?_of_block (w := w2.drew) (w' := w3) (a := ⟨w.heap.size, k, none⟩) (hb3.block w.heap.size hblk2d)).trans hS2; have hblk3 : w.heap.size < w3.heap.size := Nat.lt_of_lt_of_le hblk2d hb3.size; clear hb3))
    | (go_at_call 27; (refine (HOP.out w3 (HT.out.below HB3.out)).mono ?_; rintro e w4 ⟨hb4, bl, rfl, hlv4⟩; have HB4 : Hid (Below w.heap.size w w4) := HB3.out.trans (hb4.mono HB3.out.size); have HL4 : Hid (Liv w3.heap.size w4 bl cf (ed0 cf)) := hlv4; have hS4 : w4.cell? ⟨w.heap.size, k, none⟩ = some (.string (scr k)) := (World.cell?_of_block (w := w3) (w' := w4) (a := ⟨w.heap.size, k, none⟩) (hb4.block w.heap.size hblk3)).trans hS3; clear hb4 hlv4)))
  have hlo : w.heap.size ≤ w3.heap.size := Nat.le_of_lt hblk3
  clear HOP hS2 hS3 HB2 HB2d HB3 hc2 hblk2 hblk2d
  go_wp2_with fail
  refine (HF1.out _ bl w4 HL4.out).mono ?_
  rintro e w5 ⟨rfl, hq5⟩
  have HB5 : Hid (Below w.heap.size w w5) := HB4.out.trans (hq5.2.mono hlo)
  have hS5 : w5.cell? ⟨w.heap.size, k, none⟩ = some (.string (scr k)) := (World.cell?_of_block (w := w4) (w' := w5) (a := ⟨w.heap.size, k, none⟩) (hq5.2.block w.heap.size hblk3)).trans hS4
  have HL5 : Hid (Liv w3.heap.size w5 bl cf E1) := hq5.1
  clear hq5 HL4 HB4 hS4 HF1
  go_wp2_with fail
  refine (HT1.out _ bl w5 HL5.out).mono ?_
  rintro e w6 ⟨rfl, hq6⟩
  have HB6 : Hid (Below w.heap.size w w6) := HB5.out.trans (hq6.2.mono hlo)
  have hS6 : w6.cell? ⟨w.heap.size, k, none⟩ = some (.string (scr k)) := (World.cell?_of_block (w := w5) (w' := w6) (a := ⟨w.heap.size, k, none⟩) (hq6.2.block w.heap.size hblk3)).trans hS5
  have HL6 : Hid (Liv w3.heap.size w6 bl cf E2) := hq6.1
  clear hq6 HL5 HB5 hS5 HT1
  have hS6d : w6.drew.cell? ⟨w.heap.size, k, none⟩ = some (.string (scr k)) := hS6
  have HB6d : Hid (Below w.heap.size w w6.drew) := ⟨HB6.out.os, HB6.out.tape, HB6.out.output, HB6.out.size, HB6.out.block⟩
  have hblk6 : w.heap.size < w6.drew.heap.size := Nat.lt_of_lt_of_le hblk3 HL6.out.1
  go_wp2_with fail
  go_region_held_law (fun W => W.cell? ⟨w.heap.size, k, none⟩ = some (.string (scr k))) (first | exact hS6d | exact hS7 | exact hS8)
    (first
    | (go_at_call 35; (refine (HWD.out w6.drew).mono ?_; rintro e w7 ⟨rfl, hb7⟩; have HB7 : Hid (Below w.heap.size w w7) := HB6d.out.trans (hb7.mono HB6d.out.size); have hS7 : w7.cell? ⟨w.heap.size, k, none⟩ = some (.string (scr k)) := (World.cell?_of_block (w := w6.drew) (w' := w7) (a := ⟨w.heap.size, k, none⟩) (hb7.block w.heap.size hblk6)).trans hS6d; have hblk7 : w.heap.size < w7.heap.size := Nat.lt_of_lt_of_le hblk6 hb7.size; have HL7 : Hid (Liv w3.heap.size w7 bl cf E2) := HL6.out.below ⟨hb7.os, hb7.tape, hb7.output, hb7.size, hb7.block⟩; clear hb7))
    | (go_at_call 26; (refine (HD1.out w7 (HT.out.below HB7.out)).mono ?_; rintro e w8 ⟨rfl, hb8⟩; have HB8 : Hid (Below w.heap.size w w8) := HB7.out.trans (hb8.mono HB7.out.size); have HL8 : Hid (Liv w3.heap.size w8 bl cf E2) := HL7.out.below hb8; have hS8 : w8.cell? ⟨w.heap.size, k, none⟩ = some (.string (scr k)) := (World.cell?_of_block (w := w7) (w' := w8) (a := ⟨w.heap.size, k, none⟩) (hb8.block w.heap.size hblk7)).trans hS7; have hblk8 : w.heap.size < w8.heap.size := Nat.lt_of_lt_of_le hblk7 hb8.size; clear hb8)))
  clear HD1 hS6 hS6d hS7 HB6 HB6d HB7 HL6 HL7 hblk6 hblk7
  go_wp2_with fail
  refine (HLn.out w8).mono ?_
  rintro e w9 ⟨rfl, hb9⟩
  have HB9 : Hid (Below w.heap.size w w9) := HB8.out.trans (hb9.mono HB8.out.size)
  have HL9 : Hid (Liv w3.heap.size w9 bl cf E2) := HL8.out.below hb9
  have hS9 : w9.cell? ⟨w.heap.size, k, none⟩ = some (.string (scr k)) := (World.cell?_of_block (w := w8) (w' := w9) (a := ⟨w.heap.size, k, none⟩) (hb9.block w.heap.size hblk8)).trans hS8
  clear hb9 HB8 HL8 hS8 hblk8
  go_wp2_with fail
  refine (HF2.out _ bl w9 HL9.out).mono ?_
  rintro e v1 ⟨rfl, hq⟩
  have HV1 : Hid (Below w.heap.size w v1) := HB9.out.trans (hq.2.mono hlo)
  have hs1 : v1.cell? ⟨w.heap.size, k, none⟩ = some (.string (scr k)) := (World.cell?_of_block (w := w9) (w' := v1) (a := ⟨w.heap.size, k, none⟩) (hq.2.block w.heap.size hblk3)).trans hS9
  have HA1 : Hid (Liv w3.heap.size v1 bl cf E3) := hq.1
  clear hq HL9 HB9 hS9 HF2
  go_wp2_with fail
  refine (HE3.out _ bl v1 HA1.out).mono ?_
  rintro e v2 ⟨rfl, hq⟩
  have HV2 : Hid (Below w.heap.size w v2) := HV1.out.trans (hq.2.mono hlo)
  have hs2 : v2.cell? ⟨w.heap.size, k, none⟩ = some (.string (scr k)) := (World.cell?_of_block (w := v1) (w' := v2) (a := ⟨w.heap.size, k, none⟩) (hq.2.block w.heap.size hblk3)).trans hs1
  have HA2 : Hid (Liv w3.heap.size v2 bl cf E4) := hq.1
  clear hq HA1 HV1 hs1 HE3
  go_wp2_with fail
  refine (HT4.out _ bl v2 HA2.out).mono ?_
  rintro e v3 ⟨rfl, hq⟩
  have HV3 : Hid (Below w.heap.size w v3) := HV2.out.trans (hq.2.mono hlo)
  have hs3 : v3.drew.cell? ⟨w.heap.size, k, none⟩ = some (.string (scr k)) := (World.cell?_of_block (w := v2) (w' := v3) (a := ⟨w.heap.size, k, none⟩) (hq.2.block w.heap.size hblk3)).trans hs2
  have hblv : w.heap.size < v3.drew.heap.size := Nat.lt_of_lt_of_le hblk3 hq.1.1
  have HV3d : Hid (Below w.heap.size w v3.drew) := ⟨HV3.out.os, HV3.out.tape, HV3.out.output, HV3.out.size, HV3.out.block⟩
  clear hq HA2 HV2 hs2 HT4
  go_wp2_with fail
  go_region_held_law (fun W => W.cell? ⟨w.heap.size, k, none⟩ = some (.string (scr k))) (first | exact hs3 | exact hs4 | exact hs5 | exact hs6)
    (first
    | (go_at_call 35; (refine (HWD.out v3.drew).mono ?_; rintro e v4 ⟨rfl, hb⟩; have HV4 : Hid (Below w.heap.size w v4) := HV3d.out.trans (hb.mono HV3d.out.size); have hs4 : v4.cell? ⟨w.heap.size, k, none⟩ = some (.string (scr k)) := (World.cell?_of_block (w := v3.drew) (w' := v4) (a := ⟨w.heap.size, k, none⟩) (hb.block w.heap.size hblv)).trans hs3; have hbl4 : w.heap.size < v4.heap.size := Nat.lt_of_lt_of_le hblv hb.size; clear hb))
    | (go_at_call 36; (refine (HLn.out v4).mono ?_; rintro e v5 ⟨rfl, hb⟩; have HV5 : Hid (Below w.heap.size w v5) := HV4.out.trans (hb.mono HV4.out.size); have hs5 : v5.cell? ⟨w.heap.size, k, none⟩ = some (.string (scr k)) := (World.cell?_of_block (w := v4) (w' := v5) (a := ⟨w.heap.size, k, none⟩) (hb.block w.heap.size hbl4)).trans hs4; have hbl5 : w.heap.size < v5.heap.size := Nat.lt_of_lt_of_le hbl4 hb.size; clear hb))
    | (go_at_call 26; (refine (HD2.out v5 (HT.out.below HV5.out)).mono ?_; rintro e v6 ⟨rfl, hb⟩; have HV6 : Hid (Below w.heap.size w v6) := HV5.out.trans (hb.mono HV5.out.size); have hs6 : v6.cell? ⟨w.heap.size, k, none⟩ = some (.string (scr k)) := (World.cell?_of_block (w := v5) (w' := v6) (a := ⟨w.heap.size, k, none⟩) (hb.block w.heap.size hbl5)).trans hs5; clear hb)))
  clear HD2 hs3 hs4 hs5 hs6 HV3 HV3d HV4 HV5 hblv hbl4 hbl5 HWD HLn
  have q1 : (got.toList == got.toList) = true := by simp
  have q2 : ((got ++ RS).toList == (got ++ RS).toList) = true := by simp
  by_cases h0 : ls.length = 0
  · have hg := HN.out h0
    subst hg
    have q0 : decide ((0 : Int) < (ls.length : Int)) = false := by rw [h0]; decide
    go_wp2_with fail
    go_ret
    exact ⟨rfl, HV6.out⟩
  · have q0 : decide ((0 : Int) < (ls.length : Int)) = true := decide_eq_true (by omega)
    go_wp2_with fail
    go_ret
    exact ⟨rfl, HV6.out⟩
end Ee
end Go.Proofs.YtppjlpihaocdiaaGreatDoor
