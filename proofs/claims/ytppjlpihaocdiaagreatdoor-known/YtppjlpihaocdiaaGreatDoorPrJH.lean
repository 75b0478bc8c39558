/- A part of the proof. -/
import Derived.Test.YtppjlpihaocdiaaGreatDoorPrGH
import Derived.Lib.BytesEntry
set_option linter.unusedSimpArgs false
set_option linter.unusedVariables false
namespace Go.Proofs.YtppjlpihaocdiaaGreatDoor
namespace Rs
open Go.RowKit
def u8L (l : List Nat) : List Value := l.map fun c : Nat => Value.int .u8 (c : Int)
theorem contains_any (l : List Nat) (c : Nat) (hl : ∀ x ∈ l, x < 256) (hc : c < 256) : (Lib.bytesOf (l.map fun x : Nat => (x : Int))).any (fun x => x == (c : Int).toNat.toUInt8) = l.contains c := by
  induction l with
  | nil => rfl
  | cons a l ih =>
    have ha := hl a (by simp)
    have ih' := ih (fun x hx => hl x (by simp [hx]))
    have e : ((a : Int).toNat.toUInt8 == (c : Int).toNat.toUInt8) = (c == a) := by
      rw [Bool.eq_iff_iff]
      simp only [beq_iff_eq, Int.toNat_natCast]
      constructor
      · intro h
        have := congrArg UInt8.toNat h
        simp [Nat.mod_eq_of_lt, ha, hc] at this
        omega
      · rintro rfl; rfl
    simp only [List.map_cons, Lib.bytesOf] at *
    rw [List.any_cons, ih', List.contains_cons, e]
set_option maxHeartbeats 400000 in
theorem bIndex_any (base : Nat) (v : Value) (l : List Nat) (c : Nat) (w : World) (hown : w.ownsRow base 5 1 v l.length (u8L l)) (hl : ∀ x ∈ l, x < 256) (hc : c < 256) :
    Calls Tryz.prog 245 #[v, .int .u8 (c : Int)] w fun e w' => ∃ x : Int, e = .returned (.int .i64 x) ∧ (l.contains c = true ∧ 0 ≤ x ∨ l.contains c = false ∧ x < 0) ∧ w' = w := by
  have hd : ∃ x : Int, Sem.run Tryz.prog (callFunc 255 #[v, .int .u8 (c : Int)]) w = .ok (.value (.int .i64 x)) w ∧ (l.contains c = true ∧ 0 ≤ x ∨ l.contains c = false ∧ x < 0) := by
    obtain ⟨h1, h2⟩ := hown
    rcases h2 with ⟨rfl, h0⟩ | ⟨g, cap, cur, rfl, _, hh, hcap, _, hcs, htk⟩
    · have : l = [] := List.length_eq_zero_iff.1 h0
      subst this
      refine ⟨-1, ?_, .inr ⟨rfl, by omega⟩⟩
      rw [run_callFunc_extern Tryz.func255 (by kernel_rfl) (by kernel_rfl) (by kernel_rfl) (e := Extern.BytealgIndexByte.indexByte) (by kernel_rfl), Lib.run_indexByteNil w 0 0 _]
      rfl
    · refine ⟨Lib.indexByte (Lib.bytesOf (l.map fun x : Nat => (x : Int))) (c : Int).toNat.toUInt8, ?_, ?_⟩
      · rw [run_callFunc_extern Tryz.func255 (by kernel_rfl) (by kernel_rfl) (by kernel_rfl) (e := Extern.BytealgIndexByte.indexByte) (by kernel_rfl), Lib.run_indexByteSlice w g 0 l.length cap (l.map fun x : Nat => (x : Int)) (by simp) ?_ _]
        · rfl
        · intro i hi
          rw [Nat.zero_add, cell_of_row w g i cur 5 (0, 0) hh]
          have hx : (u8L l)[i]? = some (.int .u8 ((l.map fun x : Nat => (x : Int)).getD i 0)) := by
            simp [u8L, List.getD_eq_getElem?_getD, List.getElem?_eq_getElem hi]
          rw [← htk, List.getElem?_take] at hx
          split at hx
          · simpa using hx
          · cases hx
      · have h := indexByte_in (Lib.bytesOf (l.map fun x : Nat => (x : Int))) (c : Int).toNat.toUInt8
        rw [contains_any l c hl hc] at h
        rcases bool_or (l.contains c) with hb | hb
        · exact .inl ⟨hb, h.2 hb⟩
        · refine .inr ⟨hb, ?_⟩
          by_cases h0 : 0 ≤ Lib.indexByte (Lib.bytesOf (l.map fun x : Nat => (x : Int))) (c : Int).toNat.toUInt8
          · rw [h.1 h0] at hb; cases hb
          · omega
  obtain ⟨x, hd, hx⟩ := hd
  have HX : Hid (l.contains c = true ∧ 0 ≤ x ∨ l.contains c = false ∧ x < 0) := hx
  clear hown hx
  go_enter Tryz.func245, Tryz.ntmps245
  go_wp2
  go_ret
  exact ⟨x, rfl, HX.out, rfl⟩
end Rs
end Go.Proofs.YtppjlpihaocdiaaGreatDoor
