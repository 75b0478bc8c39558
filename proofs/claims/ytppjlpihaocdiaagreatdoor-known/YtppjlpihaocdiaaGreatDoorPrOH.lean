/- Several texts in one. -/
import Derived.Test.YtppjlpihaocdiaaGreatDoorPrMH
import Derived.Lib.BufferWrite
import Derived.Lib.UnsafeStr
import Derived.Test.YtppjlpihaocdiaaGreatDoorPrCH
/- A part of the proof. -/
set_option linter.unusedSimpArgs false
set_option linter.unusedVariables false
namespace Go.Proofs.YtppjlpihaocdiaaGreatDoor
namespace Rs
open Go.RowKit
theorem index_cases (c : UInt8) : ∀ l : List UInt8, (Lib.indexByte l c = -1 ∧ ∀ x ∈ l, x ≠ c) ∨ ∃ k, k < l.length ∧ Lib.indexByte l c = (k : Int) ∧ l[k]? = some c ∧ ∀ q x, q < k → l[q]? = some x → x ≠ c
  | [] => .inl ⟨rfl, fun x hx => by simp at hx⟩
  | b :: l => by
    rw [Lib.indexByte]
    by_cases hb : (b == c) = true
    · refine .inr ⟨0, by simp, by simp [hb], by simp at hb; simp [hb], fun q x hq => by omega⟩
    · have hne : b ≠ c := by simpa using hb
      rcases index_cases c l with ⟨h1, h2⟩ | ⟨k, h1, h2, h3, h4⟩
      · refine .inl ⟨by simp [hb, h1], fun x hx => ?_⟩
        rcases List.mem_cons.1 hx with rfl | hx
        · exact hne
        · exact h2 x hx
      · refine .inr ⟨k + 1, by simp; omega, ?_, by simpa using h3, fun q x hq hx => ?_⟩
        · rw [h2]
          have : ¬ ((k : Int) < 0) := by omega
          simp [hb, this]
        · cases q with
          | zero => simp at hx; rw [← hx]; exact hne
          | succ q => exact h4 q x (by omega) (by simpa using hx)
theorem eolF_is (s : ByteArray) : ∀ (f i k : Nat), i ≤ k → k ≤ s.size → k - i ≤ f → (∀ q, i ≤ q → q < k → byt s q ≠ 10) → (k < s.size → byt s k = 10) → (k - i < f ∨ k = s.size) → eolF s f i = k
  | 0, i, k, h1, h2, h3, h4, h5, h6 => by simp [eolF]; omega
  | f + 1, i, k, h1, h2, h3, h4, h5, h6 => by
    unfold eolF
    by_cases e : i = k
    · subst e
      rw [if_neg]
      rintro ⟨a, b⟩
      exact b (h5 a)
    · rw [if_pos ⟨by omega, h4 i (Nat.le_refl _) (by omega)⟩]
      exact eolF_is s f (i + 1) k (by omega) h2 (by omega) (fun q a b => h4 q (by omega) b) h5 (by omega)
theorem eol_index (s : ByteArray) : (Lib.indexByte s.data.toList 10 = -1 ∧ eol s 0 = s.size) ∨ (eol s 0 < s.size ∧ Lib.indexByte s.data.toList 10 = (eol s 0 : Int)) := by
  have hlen : s.data.toList.length = s.size := rfl
  rcases index_cases 10 s.data.toList with ⟨h1, h2⟩ | ⟨k, h1, h2, h3, h4⟩
  · refine .inl ⟨h1, eolF_is s _ 0 s.size (by omega) (Nat.le_refl _) (by omega) (fun q _ hq => ?_) (fun h => by omega) (.inr rfl)⟩
    intro e
    have hq' : q < s.data.toList.length := by omega
    have := h2 s.data.toList[q] (List.getElem_mem hq')
    apply this
    unfold byt at e
    rw [List.getD_eq_getElem?_getD, List.getElem?_eq_getElem hq'] at e
    exact UInt8.toNat_inj.1 e
  · have hk : eol s 0 = k := eolF_is s _ 0 k (by omega) (by omega) (by omega) (fun q _ hq e => by
      have hq' : q < s.data.toList.length := by omega
      apply h4 q s.data.toList[q] hq (List.getElem?_eq_getElem hq')
      unfold byt at e
      rw [List.getD_eq_getElem?_getD, List.getElem?_eq_getElem hq'] at e
      exact UInt8.toNat_inj.1 e) (fun _ => by
      unfold byt
      rw [List.getD_eq_getElem?_getD, h3]; rfl) (.inl (by omega))
    exact .inr ⟨by omega, by rw [hk]; exact h2⟩
def nl : ByteArray := ⟨#[10]⟩
set_option maxHeartbeats 1000000 in
theorem lIndexByte_any (t : ByteArray) (c : Nat) (w : World) (hc : c < 256) :
    Calls Tryz.prog 225 #[.string t, .int .u8 (c : Int)] w fun e w' => e = .returned (.int .i64 (Lib.indexByte t.data.toList (c : Int).toNat.toUInt8)) ∧ w' = w := by
  have hd : Sem.run Tryz.prog (callFunc 239 #[.string t, .int .u8 c]) w = .ok (.value (.int .i64 (Lib.indexByte t.data.toList (c : Int).toNat.toUInt8))) w := by
    rw [run_callFunc_extern Tryz.func239 (by kernel_rfl) (by kernel_rfl) (by kernel_rfl) (e := Extern.BytealgIndexByte.indexByte) (by kernel_rfl), Lib.run_indexByteString]
    rfl
  generalize Lib.indexByte t.data.toList (c : Int).toNat.toUInt8 = x at hd
  go_enter Tryz.func225, Tryz.ntmps225
  go_wp2
  go_ret
  exact ⟨rfl, rfl⟩
set_option maxRecDepth 100000 in
set_option maxHeartbeats 4000000 in
theorem index10_any (s : ByteArray) (w : World) :
    Calls Tryz.prog 251 #[.string s, .string ⟨#[10]⟩] w fun e w' => e = .returned (.int .i64 (Lib.indexByte s.data.toList 10)) ∧ w' = w := by
  generalize hx : Lib.indexByte s.data.toList 10 = x
  have HX : Hid (Lib.indexByte s.data.toList ((10 : Nat) : Int).toNat.toUInt8 = x) := hx
  by_cases hs : s = ⟨#[10]⟩
  · subst hs
    have hx0 : x = 0 := by rw [← hx]; rfl
    subst hx0
    clear hx HX
    go_enter Tryz.func251, Tryz.ntmps251
    go_wp2_with fail
    go_ret
    exact ⟨rfl, rfl⟩
  · have hne : (([10] : List UInt8) == s.toList) = false := by
      rw [beq_eq_false_iff_ne]
      intro e
      apply hs
      rw [ByteArray.toList_eq] at e
      apply ByteArray.ext
      exact (Array.toList_inj.1 (show ([10] : List UInt8) = s.data.toList from e)).symm
    clear hx
    go_enter Tryz.func251, Tryz.ntmps251
    go_wp2_with fail
    refine (lIndexByte_any s 10 w (by omega)).mono ?_
    rw [HX.out]
    rintro e w1 ⟨rfl, hw1⟩
    subst hw1
    go_wp2_with fail
    go_ret
    exact ⟨rfl, rfl⟩
theorem extract_end (s : ByteArray) (k : Nat) (h : k = s.size) : s.extract 0 k = s := by subst h; exact extract_all s
set_option maxHeartbeats 1000000 in
theorem lCut_any (s : ByteArray) (w : World) (hs : s.size ≤ 1000000) :
    Calls Tryz.prog 241 #[.string s, .string ⟨#[10]⟩] w fun e w' => e = .returned (.tuple #[.string (s.extract 0 (eol s 0)), .string (s.extract (eol s 0 + 1) s.size), .bool (decide (eol s 0 < s.size))]) ∧ ∃ n, w' = w.drewN n := by
  rcases eol_index s with ⟨h1, h2⟩ | ⟨h1, h2⟩
  · have HI : Hid (Lib.indexByte s.data.toList 10 = -1) := h1
    have HE : Hid (s.extract 0 (eol s 0) = s ∧ s.extract (eol s 0 + 1) s.size = ⟨#[]⟩ ∧ decide (eol s 0 < s.size) = false) := by
      refine ⟨extract_end s _ h2, ?_, by simp [h2]⟩
      apply ByteArray.ext
      apply Array.toList_inj.1
      rw [Lib.extract_data, h2]
      simp
    clear h1 h2
    go_enter Tryz.func241, Tryz.ntmps241
    go_wp2_with fail
    refine (index10_any s _).mono ?_
    rw [HI.out]
    rintro e w1 ⟨rfl, hw1⟩
    subst hw1
    go_wp2_with fail
    obtain ⟨a1, a2, a3⟩ := HE.out
    rw [a1, a2, a3]
    exact bodyPost_ret (v := .tuple #[.string s, .string ⟨#[]⟩, .bool false]) (by simp [results, Tryz.results241, go_sem]) rfl ⟨rfl, 0, rfl⟩
  · have HI : Hid (Lib.indexByte s.data.toList 10 = (eol s 0 : Int)) := h2
    have HD : Hid (decide (eol s 0 < s.size) = true) := by simpa [Hid] using h1
    clear h2
    generalize eol s 0 = k at HI HD h1
    have k1 : (0 : Int) ≤ (k : Int) := by omega
    have k2 : (k : Int) ≤ (s.size : Int) := by omega
    have k3 : (0 : Int) ≤ (k : Int) + 1 := by omega
    have k4 : (k : Int) + 1 ≤ (s.size : Int) := by omega
    go_enter Tryz.func241, Tryz.ntmps241
    go_wp2_with fail
    refine (index10_any s _).mono ?_
    rw [HI.out]
    rintro e w1 ⟨rfl, hw1⟩
    subst hw1
    go_wp2_with fail
    go_quiet (fail)
    go_wp2_with fail
    rw [HD.out]
    exact bodyPost_ret (v := .tuple #[.string (s.extract 0 k), .string (s.extract (k + 1) s.size), .bool true]) (by simp [results, Tryz.results241, go_sem]) rfl ⟨rfl, _, rfl⟩
set_option maxHeartbeats 400000 in
theorem sCut_any (s : ByteArray) (w : World) (hs : s.size ≤ 1000000) :
    Calls Tryz.prog 228 #[.string s, .string ⟨#[10]⟩] w fun e w' => e = .returned (.tuple #[.string (s.extract 0 (eol s 0)), .string (s.extract (eol s 0 + 1) s.size), .bool (decide (eol s 0 < s.size))]) ∧ ∃ n, w' = w.drewN n := by
  generalize hx : s.extract 0 (eol s 0) = x
  generalize hy : s.extract (eol s 0 + 1) s.size = y
  generalize hz : decide (eol s 0 < s.size) = z
  have HX : Hid (s.extract 0 (eol s 0) = x ∧ s.extract (eol s 0 + 1) s.size = y ∧ decide (eol s 0 < s.size) = z) := ⟨hx, hy, hz⟩
  clear hx hy hz
  go_enter Tryz.func228, Tryz.ntmps228
  go_wp2_with fail
  refine (lCut_any s _ hs).mono ?_
  rw [HX.out.1, HX.out.2.1, HX.out.2.2]
  rintro e w1 ⟨rfl, n, rfl⟩
  go_wp2_with fail
  exact bodyPost_ret (v := .tuple #[.string x, .string y, .bool z]) (by simp [results, Tryz.results228, go_sem]) rfl ⟨rfl, n, rfl⟩
end Rs
end Go.Proofs.YtppjlpihaocdiaaGreatDoor

/- A part of the proof. -/
set_option linter.unusedSimpArgs false
set_option linter.unusedVariables false
namespace Go.Proofs.YtppjlpihaocdiaaGreatDoor
namespace Rs
open Go.RowKit
theorem Tryz.cells5 : Tryz.prog.cellsOf 5 = 1 := by kernel_rfl
theorem make_bytes (n : Nat) (hn : n ≤ 1000000) : ∃ A : Array Value, A.size = n ∧ ∀ W : World, (Instr.makeSlice 99 (.int .i64 (n : Int)) (.int .i64 (n : Int))).run Tryz.prog W = .ok (.slice (some ⟨W.heap.size, 0, none⟩) n n) (W.alloc (.cells A 5)) := by
  obtain ⟨i0, hi0, hz0, hz1, hz2⟩ := info_parts Tryz.info5
  refine ⟨madeCells (Value.int .u8 0).cells (n * 1), by simp [size_madeCells], fun W => ?_⟩
  have := run_make (P := Tryz.prog) W 99 5 i0 _ Tryz.underlying99 hi0 hz0 .i64 .i64 n n (by omega) (Int.le_refl _) (by rw [hz2]; omega) (by omega)
  rw [hz1] at this
  simpa using this
theorem copied (s : ByteArray) (A : Array Value) (hA : A.size = s.size) : (A.toList.take 0 ++ Lib.byteCells s.data.toList ++ A.toList.drop (0 + s.size)).toArray = (Lib.byteCells s.data.toList).toArray := by
  rw [List.take_zero, List.nil_append, List.drop_of_length_le (by rw [Array.length_toList]; omega), List.append_nil]
set_option maxRecDepth 100000 in
set_option maxHeartbeats 4000000 in
theorem lClone_any (s : ByteArray) (w : World) (hs : s.size ≤ 1000000) :
    Calls Tryz.prog 242 #[.string s] w fun e w' => e = .returned (.string s) ∧ Below w.heap.size w w' := by
  by_cases h0 : s.size = 0
  · obtain rfl : s = ⟨#[]⟩ := by
      apply ByteArray.ext
      exact Array.eq_empty_of_size_eq_zero h0
    go_enter Tryz.func242, Tryz.ntmps242
    go_wp2
    go_ret
    exact ⟨rfl, Below.refl _ _⟩
  · obtain ⟨A, hA, mk⟩ := make_bytes s.size hs
    have hn0 : ((s.size : Int) == 0) = false := beq_false_of_ne (by omega)
    have hone : (Tryz.prog.info? 5).map (·.size) = some 1 := by kernel_rfl
    have hY : (Lib.byteCells s.data.toList).length = s.size := by rw [Lib.byteCells_length, ← Lib.size_eq]
    have cp := Lib.run_copy_row_string (P := Tryz.prog) (w.alloc (.cells A 5)) 99 9 3 5 w.heap.size 0 s.size s.size s A 5 Tryz.underlying99 hone (heap_alloc_new w _) (Nat.le_refl _) (by omega)
    rw [copied s A hA] at cp
    have hg : ((w.alloc (.cells A 5)).setRow w.heap.size (Lib.byteCells s.data.toList).toArray).heap[w.heap.size]? = some (.cells (Lib.byteCells s.data.toList).toArray 5 (0, 0)) := setRow_heap _ _ A _ 5 (0, 0) (heap_alloc_new w _)
    have us := Lib.run_unsafeString_row (P := Tryz.prog) ((w.alloc (.cells A 5)).setRow w.heap.size (Lib.byteCells s.data.toList).toArray) 301 3 9 5 Tryz.underlying301 Tryz.cells5 w.heap.size (Lib.byteCells s.data.toList).toArray.size (by unfold World.shape?; rw [hg]) s.data.toList (fun e => h0 (by rw [Lib.size_eq, e]; rfl)) (by rw [List.size_toArray, hY, Lib.size_eq]; exact Nat.le_refl _) (by rw [← Lib.size_eq]; omega)
      (fun j x hx => Lib.cells_of_row hg (Lib.byteCells s.data.toList).toArray.size j _ (by rw [List.take_of_length_le (by rw [Array.length_toList]; exact Nat.le_refl _)]; simp [Lib.byteCells, hx]))
    rw [← Lib.size_eq] at us
    have HB : Hid (Below w.heap.size w (((w.alloc (.cells A 5)).setRow w.heap.size (Lib.byteCells s.data.toList).toArray).freeze ⟨w.heap.size, 0, none⟩ s.size)) := by
      have b1 : Below w.heap.size w (w.alloc (.cells A 5)) := (Below.refl _ w).alloc (Nat.le_refl _) _
      have b2 : Below w.heap.size (w.alloc (.cells A 5)) ((w.alloc (.cells A 5)).setRow w.heap.size (Lib.byteCells s.data.toList).toArray) := ⟨rfl, rfl, rfl, by simp, fun k hk => setRow_other _ _ _ _ (by omega)⟩
      exact Lib.below_freeze (b1.trans b2) (p := ⟨w.heap.size, 0, none⟩) (Nat.le_refl _) _
    clear hg
    go_enter Tryz.func242, Tryz.ntmps242
    go_wp2
    go_ret
    exact ⟨rfl, HB.out⟩
set_option maxHeartbeats 400000 in
theorem sClone_any (s : ByteArray) (w : World) (hs : s.size ≤ 1000000) :
    Calls Tryz.prog 229 #[.string s] w fun e w' => e = .returned (.string s) ∧ Below w.heap.size w w' := by
  go_enter Tryz.func229, Tryz.ntmps229
  go_wp2_with fail
  refine (lClone_any s _ hs).mono ?_
  rintro e w1 ⟨rfl, hB⟩
  have HB : Hid (Below w.heap.size w w1) := hB
  clear hB
  go_wp2_with fail
  go_ret
  exact ⟨rfl, HB.out⟩
theorem eol_shift (s : ByteArray) (i : Nat) (hi : i ≤ s.size) : ∀ (f k : Nat), eolF (s.extract i s.size) f k + i = eolF s f (i + k)
  | 0, k => by simp [eolF]; omega
  | f + 1, k => by
    unfold eolF
    have hsz : (s.extract i s.size).size = s.size - i := by simp [ByteArray.size_extract]
    by_cases h : k < s.size - i
    · rw [byt_extract s i s.size k (by omega)]
      by_cases h1 : byt s (i + k) ≠ 10
      · rw [if_pos ⟨by rw [hsz]; exact h, h1⟩, if_pos ⟨by omega, h1⟩, eol_shift s i hi f (k + 1)]; rfl
      · rw [if_neg (fun hh => h1 hh.2), if_neg (fun hh => h1 hh.2)]; omega
    · rw [if_neg (fun hh => h (by rw [hsz] at hh; exact hh.1)), if_neg (fun hh => h (by omega))]; omega
theorem eol_text (s : ByteArray) (i : Nat) (hi : i ≤ s.size) : (s.extract i s.size).extract 0 (eol (s.extract i s.size) 0) = s.extract i (eol s i) ∧ (s.extract i (eol s i)).size = eol s i - i ∧ i ≤ eol s i ∧ eol s i ≤ s.size := by
  have hsz : (s.extract i s.size).size = s.size - i := by simp [ByteArray.size_extract]
  have h1 : eol (s.extract i s.size) 0 + i = eol s i := by
    unfold eol
    rw [eol_shift s i hi _ 0, hsz, Nat.sub_zero, Nat.add_zero]
  have h2 : ∀ (f k : Nat), k ≤ s.size → k ≤ eolF s f k ∧ eolF s f k ≤ s.size := by
    intro f
    induction f with
    | zero => intro k hk; simp [eolF]; omega
    | succ f ih =>
      intro k hk
      unfold eolF
      split
      · rename_i h
        have := ih (k + 1) (by omega)
        omega
      · omega
  obtain ⟨h3, h4⟩ := h2 (s.size - i) i hi
  have h3' : i ≤ eol s i := h3
  have h4' : eol s i ≤ s.size := h4
  refine ⟨?_, by simp [ByteArray.size_extract]; omega, h3', h4'⟩
  rw [show eol (s.extract i s.size) 0 = eol s i - i by omega]
  apply ByteArray.ext
  apply Array.toList_inj.1
  rw [Lib.extract_data, Lib.extract_data, Lib.extract_data]
  rw [Nat.sub_zero, List.drop_zero, List.take_take]
  congr 1
  omega
set_option maxHeartbeats 2000000 in
theorem line_any (b : Nat) (s : ByteArray) (i : Nat) (w : World) (hr : Rc w b s i) :
    Calls Tryz.prog 198 #[.pointer (some ⟨b, 0, none⟩)] w fun e w' =>
      (pk s i = 32 ∧ e = .returned (.tuple #[.string (s.extract (i + 1) (eol s (i + 1))), .bool true]) ∧ Mk b w w' (eol s (i + 1)) ∧ eol s (i + 1) ≤ s.size) ∨ (pk s i ≠ 32 ∧ e = .returned (.tuple #[.string noBytes, .bool false]) ∧ Mk b w w' i) := by
  have HR : Hid (Rc w b s i) := hr
  have hb : b < w.heap.size := Rc.lt hr
  have hle := hr.le
  have hs := hr.s40
  clear hr
  by_cases h32 : pk s i = ((32 : Nat) : Int)
  · have HI : Hid (pk s i = ((32 : Nat) : Int)) := h32
    obtain ⟨hlt, _⟩ := pk_byte (s := s) (i := i) (by rw [h32]; decide)
    obtain ⟨h1, h2, h3, h4⟩ := eol_text s (i + 1) (by omega)
    have HT : Hid ((s.extract (i + 1) s.size).extract 0 (eol (s.extract (i + 1) s.size) 0) = s.extract (i + 1) (eol s (i + 1))) := h1
    obtain ⟨t, htt⟩ : ∃ t, s.extract (i + 1) (eol s (i + 1)) = t := ⟨_, rfl⟩
    have HTS : Hid (i + 1 + t.size = eol s (i + 1)) := by rw [Hid, ← htt, h2]; omega
    have HTT : Hid (s.extract (i + 1) (eol s (i + 1)) = t) := htt
    have htl : i + 1 + t.size ≤ s.size := by rw [HTS.out]; exact h4
    have k1 : (0 : Int) ≤ (i : Int) + 1 := by omega
    have k2 : (i : Int) + 1 ≤ (s.size : Int) := by omega
    have HCUT : Hid (∀ W, Calls Tryz.prog 228 #[.string (s.extract (i + 1) s.size), .string ⟨#[10]⟩] W fun e w' => e = .returned (.tuple #[.string t, .string ((s.extract (i + 1) s.size).extract (eol (s.extract (i + 1) s.size) 0 + 1) (s.extract (i + 1) s.size).size), .bool (decide (eol (s.extract (i + 1) s.size) 0 < (s.extract (i + 1) s.size).size))]) ∧ ∃ n, w' = W.drewN n) := fun W => by
      have := sCut_any (s.extract (i + 1) s.size) W (by simp [ByteArray.size_extract]; omega)
      rw [HT.out, HTT.out] at this
      exact this
    generalize (s.extract (i + 1) s.size).extract (eol (s.extract (i + 1) s.size) 0 + 1) (s.extract (i + 1) s.size).size = tl at HCUT
    generalize decide (eol (s.extract (i + 1) s.size) 0 < (s.extract (i + 1) s.size).size) = fnd at HCUT
    clear h32 h1 h2 h3 h4 htt
    go_enter Tryz.func198, Tryz.ntmps198
    go_wp2_with fail
    refine (acceptY b s i 32 _ HR.out (by omega) HI.out).mono ?_
    rintro e w1 ⟨rfl, hm⟩
    have HM1 : Hid (Mk b w w1 (i + 1)) := .mv hm
    have HR1 : Hid (Rc w1 b s (i + 1)) := hm.rc HR.out (by omega)
    clear hm
    obtain ⟨r0, r1, rf, _, _⟩ := HR1.out
    go_wp2_with fail
    go_quiet ((go_at_call 228; exact Calls.quiet_of (HCUT.out _)))
    go_wp2_with fail
    refine (sClone_any t _ (by omega)).mono ?_
    rintro e w2 ⟨rfl, hB⟩
    have HM2 : Hid (Mk b w w2 (i + 1 + t.size)) := ((HM1.out.drewN nq).set (i + 1 + t.size) (by omega)).below hB
    clear hB
    go_wp2_with fail
    exact bodyPost_ret (v := .tuple #[.string t, .bool true]) (by simp [results, Tryz.results198, go_sem]) rfl (.inl ⟨HI.out, by rw [HTT.out], by rw [← HTS.out]; exact HM2.out, by rw [← HTS.out]; exact htl⟩)
  · have HI : Hid (pk s i ≠ ((32 : Nat) : Int)) := h32
    go_enter Tryz.func198, Tryz.ntmps198
    go_wp2_with fail
    refine (acceptN b s i 32 _ HR.out (by omega) HI.out).mono ?_
    rintro e w1 ⟨rfl, hm⟩
    have HM1 : Hid (Mk b w w1 i) := .mv hm
    clear hm
    go_wp2_with fail
    exact bodyPost_ret (v := .tuple #[.string noBytes, .bool false]) (by simp [results, Tryz.results198, go_sem]; rfl) rfl (.inr ⟨h32, rfl, HM1.out⟩)
end Rs
end Go.Proofs.YtppjlpihaocdiaaGreatDoor

