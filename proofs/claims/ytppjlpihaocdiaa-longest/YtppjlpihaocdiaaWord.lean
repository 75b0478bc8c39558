/- The words that the law 'Longest' makes, and where one stands. -/
import Derived.Test.YtppjlpihaocdiaaLeaf
import Derived.Deep.RegionLaw
import Derived.BigRegion
import Derived.Deep.AppendLies
import Derived.Deep.DrawnRows
import Derived.Laws.BytesArg
import Derived.Laws.Strings
import Derived.Lib.Strings
set_option linter.unusedSimpArgs false
set_option linter.unusedVariables false
namespace Go.Proofs.Ytppjlpihaocdiaa
open Go.RowKit

theorem Try.info5 : (Try.prog.info? 5).map (fun i => (i.zero, i.size, i.bytes)) = some (some (.int .u8 0), 1, 1) := by kernel_rfl

/-- A text of letters. -/
def Lets (t : ByteArray) (n : Nat) : Prop := 1 ≤ t.size ∧ t.size ≤ n ∧ ∀ q, q < t.size → 97 ≤ byt t q ∧ byt t q ≤ 100

set_option maxHeartbeats 1000000 in
theorem word_any (s : ByteArray) (n : Nat) (w : World) (hs : s.size ≤ maxLen) (hn : 1 ≤ n) (hn2 : n ≤ 40) :
    Calls Try.prog 13 #[.string s, .int .i64 n] w fun e w' => ∃ t, e = .returned (.string t) ∧ Lets t n ∧ Below w.heap.size w w' := by
  unfold maxLen at hs
  obtain ⟨i0, hi0, hz0, hz1, hz2⟩ := info_parts Try.info5
  go_enter Try.func13, Try.ntmps13
  go_wp2_with fail
  go_loopw [5, 6] (fun bv iv wr => ∃ (i : Nat) (zs : List Nat), i ≤ s.size ∧ zs.length ≤ n ∧ iv = .int .i64 i ∧ Hid (wr.ownsRow w.heap.size 5 1 bv zs.length (zs.map fun z : Nat => Value.int .u8 (z : Int))) ∧ Hid (∀ z ∈ zs, 97 ≤ z ∧ z ≤ 100) ∧ Hid (Below w.heap.size w wr)) (fun _ iv _ => s.size + 1 - (intOf iv).toNat)
  case atStart => exact ⟨0, [], Nat.zero_le _, Nat.zero_le _, rfl, World.ownsRow_nil _ _ _ _, (fun z h => absurd h (by simp)), Below.refl _ _⟩
  case round =>
    obtain ⟨i, zs, hi, hzn, rfl, HO, HL, HB⟩ := hrel
    have hlenv : ∃ ao cap, u5 = .slice ao zs.length cap := by
      rcases HO.out.2 with ⟨e, e2⟩ | ⟨g', cap', cur, hv, _⟩
      · exact ⟨none, 0, by rw [e, e2]⟩
      · exact ⟨_, _, hv⟩
    obtain ⟨ao, cap0, rfl⟩ := hlenv
    have hszB := HB.out.size
    have HEnd : Hid (zs = [] ∨ ∃ t, (∀ W, W = wr → Sem.run Try.prog (convert 39 9 (.slice ao zs.length cap0)) W = .ok (.string t) W) ∧ Lets t n) := by
      by_cases hz : zs = []
      · exact .inl hz
      · right
        have hz1 : 1 ≤ zs.length := by cases zs with | nil => exact absurd rfl hz | cons a l => simp
        rcases HO.out.2 with ⟨e, e2⟩ | ⟨g', cap', cur, hv, hg, hh, _, _, _, ht⟩
        · omega
        · cases hv
          refine ⟨strOfNums (zs.map fun z : Nat => (z : Int)), fun W hW => ?_, ?_⟩
          · subst hW
            refine run_convert_bytes_arg (P := Try.prog) _ 39 5 Try.underlying39 Try.underlying5 g' 0 zs.length cap0 (zs.map fun z : Nat => (z : Int)) (by simp) (fun q hq => ?_) 9 Try.underlying9
            rw [cell_of_row _ g' (0 + q) cur 5 (0, 0) hh]
            have : cur.toList[q]? = some (.int .u8 ((zs[q] : Nat) : Int)) := by
              have h0 : (cur.toList.take (zs.length * 1))[q]? = some (.int .u8 ((zs[q] : Nat) : Int)) := by rw [ht, List.getElem?_map, List.getElem?_eq_getElem hq]; rfl
              rw [List.getElem?_take] at h0
              split at h0
              · exact h0
              · cases h0
            rw [Nat.zero_add]
            simp only [List.getD_eq_getElem?_getD, List.getElem?_map, List.getElem?_eq_getElem hq]
            simpa using this
          · have hsz : (strOfNums (zs.map fun z : Nat => (z : Int))).size = zs.length := by rw [strOfNums_size]; simp
            refine ⟨by omega, by omega, fun q hq => ?_⟩
            rw [hsz] at hq
            have hb : byt (strOfNums (zs.map fun z : Nat => (z : Int))) q = zs[q] := by
              unfold byt
              rw [strOfNums_data, List.getD_eq_getElem?_getD]
              simp only [List.getElem?_map, List.getElem?_eq_getElem hq, Option.map_some, Option.getD_some]
              have := HL.out zs[q] (List.getElem_mem hq)
              simp
              omega
            rw [hb]
            exact HL.out _ (List.getElem_mem hq)
    by_cases hlt : i < s.size
    · by_cases hlt2 : zs.length < n
      · have hy := byt_lt s i
        have hyi : ((s[i]'hlt).toNat : Int) = (byt s i : Int) := byt_int s i hlt
        have hbb : (s[i]'hlt).toNat < 256 := UInt8.toNat_lt _
        go_wp2_with (at_builtin; (refine wpList_append_lies _ rfl _ _ 39 rfl w.heap.size 5 i0 (.int .u8 0) 1 1 Try.underlying39 hi0 hz0 hz1 hz2 rfl (by omega) (.slice ao zs.length cap0) zs.length (zs.map fun z : Nat => Value.int .u8 (z : Int)) rfl (HO.out.alloc _) ⟨wr.heap.size, 0, none⟩ 1 1 [.int .u8 (97 + (byt s i : Int) % 4)] rfl rfl (cell_one_new _ _ _) (fun x hx => by simp at hx; subst hx; rfl) (by omega) (by unfold maxLen; omega) (by omega) (by simp; omega) (wr.heap.size + 1) (by simp) ?_; intro gg cap w2 hown2 hgrow hat hlt9))
        have HO2 : Hid (w2.ownsRow w.heap.size 5 1 (.slice (some ⟨gg, 0, none⟩) (zs.length + 1) cap) (zs ++ [97 + byt s i % 4]).length ((zs ++ [97 + byt s i % 4]).map fun z : Nat => Value.int .u8 (z : Int))) := by
          rw [List.map_append, List.length_append]
          have e : ((97 + byt s i % 4 : Nat) : Int) = 97 + (byt s i : Int) % 4 := by omega
          simp only [List.map_cons, List.map_nil, e, List.length_singleton]
          exact hown2
        have HB2 : Hid (Below w.heap.size w w2) := by
          have hsz2 := hgrow.size
          have ha : (wr.alloc (.cells #[.int .u8 (97 + (byt s i : Int) % 4)] 5)).heap.size = wr.heap.size + 1 := by simp
          refine ⟨hgrow.os.trans HB.out.os, hgrow.tape.trans HB.out.tape, hgrow.output.trans HB.out.output, by omega, fun k hk => ?_⟩
          rw [hgrow.block k (by omega) (fun e => by have := (HO.out.lt k e.symm).1; omega), Below.heap_alloc _ _ _ (by omega)]
          exact HB.out.block k hk
        have HL2 : Hid (∀ z ∈ zs ++ [97 + byt s i % 4], 97 ≤ z ∧ z ≤ 100) := fun z hz => by
          rcases List.mem_append.1 hz with hz | hz
          · exact HL.out z hz
          · have : z = 97 + byt s i % 4 := by simpa using hz
            omega
        clear hown2 hgrow hat hlt9
        go_wp2_with fail
        go_roundw
        case rel => exact ⟨i + 1, zs ++ [97 + byt s i % 4], hlt, by simp; omega, by go_num, HO2.out, HL2.out, HB2.out⟩
        case measure => simp [intOf]; omega
      · have hd : decide ((zs.length : Int) < (n : Int)) = false := by simp; omega
        have hz1 : ((zs.length : Int) == 0) = false := by rw [beq_eq_false_iff_ne]; omega
        rcases HEnd.out with h | ⟨t, hcv, hlets⟩
        · rw [h] at hlt2; simp at hlt2; omega
        · have hcv' := hcv wr rfl
          have HLt : Hid (Lets t n) := hlets
          clear hcv hlets HEnd
          go_wp2_with fail
          go_ret
          exact ⟨t, rfl, HLt.out, HB.out⟩
    · have hd : decide ((i : Int) < (s.size : Int)) = false := by simp; omega
      rcases HEnd.out with h | ⟨t, hcv, hlets⟩
      · subst h
        clear HEnd
        go_wp2_with fail
        go_ret
        exact ⟨_, rfl, ⟨by decide, by show 1 ≤ n; omega, fun q hq => by
          have : q = 0 := by
            have : q < 1 := hq
            omega
          subst this
          exact ⟨by decide, by decide⟩⟩, HB.out⟩
      · by_cases hze : zs.length = 0
        · have hz0' : ((zs.length : Int) == 0) = true := by rw [beq_iff_eq]; omega
          clear HEnd hcv
          go_wp2_with fail
          go_ret
          exact ⟨_, rfl, ⟨by decide, by show 1 ≤ n; omega, fun q hq => by
            have : q = 0 := by
              have : q < 1 := hq
              omega
            subst this
            exact ⟨by decide, by decide⟩⟩, HB.out⟩
        · have hz1 : ((zs.length : Int) == 0) = false := by rw [beq_eq_false_iff_ne]; omega
          have hcv' := hcv wr rfl
          have HLt : Hid (Lets t n) := hlets
          clear hcv hlets HEnd
          go_wp2_with fail
          go_ret
          exact ⟨t, rfl, HLt.out, HB.out⟩

/-- A text stands in another at a place. -/
def InAt (s t : ByteArray) (i : Nat) : Prop := i + t.size ≤ s.size ∧ ∀ q, q < t.size → byt s (i + q) = byt t q

theorem in_at_beq (s t : ByteArray) (i : Nat) (h : i + t.size ≤ s.size) : ((s.extract i (i + t.size)).toList == t.toList) = true ↔ InAt s t i := by
  have hss : s.data.toList.length = s.size := rfl
  have hts : t.data.toList.length = t.size := rfl
  rw [beq_iff_eq, ByteArray.toList_eq, ByteArray.toList_eq, Lib.extract_data, show i + t.size - i = t.size by omega]
  constructor
  · intro he
    refine ⟨h, fun q hq => ?_⟩
    unfold byt
    have h0 : ((s.data.toList.drop i).take t.size)[q]? = t.data.toList[q]? := by rw [he]
    rw [List.getElem?_take, if_pos hq, List.getElem?_drop] at h0
    rw [List.getD_eq_getElem?_getD, List.getD_eq_getElem?_getD, h0]
  · rintro ⟨_, hb⟩
    apply List.ext_getElem?
    intro q
    rw [List.getElem?_take]
    by_cases hq : q < t.size
    · rw [if_pos hq, List.getElem?_drop]
      have h1 := hb q hq
      unfold byt at h1
      rw [List.getD_eq_getElem?_getD, List.getD_eq_getElem?_getD, List.getElem?_eq_getElem (by omega), List.getElem?_eq_getElem (by omega)] at h1
      rw [List.getElem?_eq_getElem (by omega), List.getElem?_eq_getElem (by omega)]
      simp only [Option.getD_some] at h1
      rw [UInt8.toNat_inj.1 h1]
    · rw [if_neg hq, List.getElem?_eq_none (by omega)]

set_option maxHeartbeats 1000000 in
theorem at_any (s t : ByteArray) (i : Nat) (w : World) (hs : s.size ≤ 1000) (ht : t.size ≤ 1000) (hi : i ≤ 1000) :
    Calls Try.prog 15 #[.string s, .string t, .int .i64 i] w fun e w' => ∃ q : Bool, e = .returned (.bool q) ∧ (q = true ↔ InAt s t i) ∧ w' = w := by
  by_cases h : i + t.size ≤ s.size
  · have h1 : decide ((i : Int) + (t.size : Int) ≤ (s.size : Int)) = true := by simp; omega
    go_enter Try.func15, Try.ntmps15
    go_wp2_with fail
    go_ret
    exact ⟨_, rfl, in_at_beq s t i h, rfl⟩
  · have h1 : decide ((i : Int) + (t.size : Int) ≤ (s.size : Int)) = false := by simp; omega
    go_enter Try.func15, Try.ntmps15
    go_wp2_with fail
    go_ret
    exact ⟨false, rfl, ⟨(fun h => by cases h), (fun hh => absurd hh.1 h)⟩, rfl⟩
end Go.Proofs.Ytppjlpihaocdiaa
