/- The document's walk over a script: one more letter of a label. -/
import Derived.Test.YtppjlpihaocdiaaSBegK
import Derived.Laws.IdiomStrings
import Derived.Laws.Concat
set_option linter.unusedSimpArgs false
set_option linter.unusedVariables false
namespace Go.Proofs.Ytppjlpihaocdiaa
namespace Sk
open Go.RowKit

set_option maxHeartbeats 400000 in
theorem named_more (b : Nat) (x : Sc) (c i : Nat) (w : World) (hx : ScAt w b x) (hm : Sm x) (hc1 : 97 ≤ c) (hc2 : c ≤ 122) (h8 : x.count < 8) (h0 : x.count ≠ 0) (hl : x.labels ≠ []) (hll : x.labels.length ≤ 1000) (hi : i ≤ 900) (hna : ∀ q ∈ x.labels, (str q.name).size ≤ 1000) :
    Calls Try.prog 45 #[.pointer (some ⟨b, 0, none⟩), .int .u8 c, .int .i64 i] w (Sd b w (named x c i)) := by
  have HX : Hid (ScAt w b x) := hx
  have HM : Hid (Sm x) := hm
  obtain ⟨pv, lv, bv, hR, hN⟩ := hx
  have HR : Hid (Row w b (scL x pv lv bv)) := hR
  have HN : Hid (Notes w b x pv lv bv) := hN
  have m7 := hR.cell (k := 7) rfl
  have f7 := hR.frozen (k := 7) (by rw [scL_length]; omega)
  obtain ⟨l0, q, hla⟩ : ∃ l0 a, x.labels = l0 ++ [a] := ⟨x.labels.dropLast, x.labels.getLast hl, (List.dropLast_concat_getLast hl).symm⟩
  have hlen : x.labels.length = l0.length + 1 := by rw [hla]; simp
  have hl0 : l0.length ≤ 1000 := by omega
  obtain ⟨g, cap, hbv, hg1, hg2⟩ := hN.o3.form (by omega)
  rw [hlen] at hbv
  subst hbv
  have m273 := hR.cell (scL_bv x _ _ _)
  have f273 := hR.frozen (k := 273) (by rw [scL_length]; omega)
  have hgc : w.cell? ⟨g, l0.length * 3, none⟩ = some (.string (str q.name)) := by
    have o3 := hN.o3
    rw [hlen] at o3
    rw [o3.cellAt (l0.length * 3) (by omega), hla, lbL_snoc, List.getElem?_append_right (by rw [lbL_length]; omega), lbL_length]
    simp
  have hgf : w.frozen? ⟨g, l0.length * 3, none⟩ = false := by
    have o3 := hN.o3
    rw [hlen] at o3
    exact o3.frozenAt _
  have i1 : (97 : Int) ≤ (c : Int) := by omega
  have i2 : (c : Int) ≤ 122 := by omega
  have i3 : (x.count : Int) < 8 := by omega
  have i4 : ((x.count : Int) + 1 == 1) = false := by simp; omega
  have hbl : b < w.heap.size := hR.lt (by rw [scL_length]; omega)
  have hcv : (convert 39 9 (.slice (some ⟨w.heap.size, 0, none⟩) 1 1)).run Try.prog (((w.setCell ⟨b, 7, none⟩ (.int .i64 ((x.count : Int) + 1))).alloc (Obj.cells #[.int .u8 (c : Int)] 5)).drew) = .ok (.string ⟨#[UInt8.ofNat c]⟩) (((w.setCell ⟨b, 7, none⟩ (.int .i64 ((x.count : Int) + 1))).alloc (Obj.cells #[.int .u8 (c : Int)] 5)).drew) := by
    have := run_convert_bytes_back (P := Try.prog) (((w.setCell ⟨b, 7, none⟩ (.int .i64 ((x.count : Int) + 1))).alloc (Obj.cells #[.int .u8 (c : Int)] 5)).drew) 39 9 5 ⟨w.heap.size, 0, none⟩ 1 [UInt8.ofNat c] Try.underlying39 Try.underlying5 Try.underlying9 (fun j hj => by
      have hj0 : j = 0 := by simpa using hj
      subst hj0
      have h := new_at (u := w.setCell ⟨b, 7, none⟩ (.int .i64 ((x.count : Int) + 1))) (H := w.heap.size) (by simp) (.int .u8 (c : Int)) 5 0 (.int .u8 (c : Int)) rfl
      have e : ((UInt8.ofNat c).toNat : Int) = (c : Int) := by
        have : (UInt8.ofNat c).toNat = c := by simp; omega
        rw [this]
      simp only [List.getElem_cons_zero, e]
      exact h)
    exact this
  have hna' : (str q.name).size ≤ 1000 := hna q (by rw [hla]; simp)
  have hadd : ∀ W : World, (Op.stringOp .add (str q.name) ⟨#[UInt8.ofNat c]⟩).run Try.prog W = .ok (.string (str q.name ++ ⟨#[UInt8.ofNat c]⟩)) W := fun W => run_string_add (P := Try.prog) (w := W) _ _ (by omega) (by simp [ByteArray.size])
  have HS : Hid (named x c i = some { x with count := x.count + 1, labels := l0 ++ [⟨q.name ++ [c], q.at', q.goal⟩] }) := by
    unfold named
    rw [Hid, if_pos ⟨hc1, hc2, h8⟩, if_neg h0, hla, addLetter_snoc]
  have HF : Hid (ScAt ((((w.setCell ⟨b, 7, none⟩ (.int .i64 ((x.count : Int) + 1))).setCell ⟨g, l0.length * 3, none⟩ (.string (str q.name ++ ⟨#[UInt8.ofNat c]⟩))).alloc (Obj.cells #[.int .u8 (c : Int)] 5)).drew) b { x with count := x.count + 1, labels := l0 ++ [⟨q.name ++ [c], q.at', q.goal⟩] } ∧ Below b w ((((w.setCell ⟨b, 7, none⟩ (.int .i64 ((x.count : Int) + 1))).setCell ⟨g, l0.length * 3, none⟩ (.string (str q.name ++ ⟨#[UInt8.ofNat c]⟩))).alloc (Obj.cells #[.int .u8 (c : Int)] 5)).drew)) := by
    have hE : ((x.count : Int) + 1) = ((x.count + 1 : Nat) : Int) := by omega
    rw [Hid, ← str_snoc, hE]
    have r1 := Row.head (x' := { x with count := x.count + 1 }) hR 7 (.int .i64 ((x.count + 1 : Nat) : Int)) (by omega) rfl
    have s1 : Sole b w (w.setCell ⟨b, 7, none⟩ (.int .i64 ((x.count + 1 : Nat) : Int))) := (Sole.refl _ _).setCell _ _
    have n1 : Notes (w.setCell ⟨b, 7, none⟩ (.int .i64 ((x.count + 1 : Nat) : Int))) b { x with count := x.count + 1 } pv lv (.slice (some ⟨g, 0, none⟩) (l0.length + 1) cap) := by
      obtain ⟨o1, o2, o3, d1, d2, d3⟩ := hN.sole s1
      exact ⟨o1, o2, o3, d1, d2, d3⟩
    have n2 := Notes.lettered (c := c) (q := q) (l0 := l0) (x := { x with count := x.count + 1 }) hla n1
    have z1 : (w.setCell ⟨b, 7, none⟩ (.int .i64 ((x.count + 1 : Nat) : Int))).heap.size = w.heap.size := s1.size
    generalize w.setCell ⟨b, 7, none⟩ (.int .i64 ((x.count + 1 : Nat) : Int)) = w1 at r1 s1 n1 n2 z1 ⊢
    have r2 : Row (w1.setCell ⟨g, l0.length * 3, none⟩ (.string (str (q.name ++ [c])))) b (scL { x with count := x.count + 1 } pv lv (.slice (some ⟨g, 0, none⟩) (l0.length + 1) cap)) := r1.of_block (Below.heap_setCell _ _ _ _ (by simp only; omega))
    have b2 : Below b w1 (w1.setCell ⟨g, l0.length * 3, none⟩ (.string (str (q.name ++ [c])))) := ⟨rfl, rfl, rfl, by simp [World.setCell], fun k hk => Below.heap_setCell w1 ⟨g, l0.length * 3, none⟩ _ k (by simp only; omega)⟩
    have z2 : (w1.setCell ⟨g, l0.length * 3, none⟩ (.string (str (q.name ++ [c])))).heap.size = w1.heap.size := by simp
    generalize w1.setCell ⟨g, l0.length * 3, none⟩ (.string (str (q.name ++ [c]))) = w2 at r2 n2 b2 z2 ⊢
    have hst : ∀ k, k < w2.heap.size → ((w2.alloc (Obj.cells #[.int .u8 (c : Int)] 5)).drew).heap[k]? = w2.heap[k]? := fun k hk => Below.heap_alloc w2 _ k hk
    refine ⟨⟨pv, lv, _, r2.of_block (hst b (by omega)), ?_⟩, ((Sole.below s1).trans b2).trans ⟨rfl, rfl, rfl, by simp, fun k hk => hst k (by omega)⟩⟩
    obtain ⟨o1, o2, o3, d1, d2, d3⟩ := n2
    exact ⟨own_of o1 fun k hk => hst k (o1.lt k hk).2, own_of o2 fun k hk => hst k (o2.lt k hk).2, own_of o3 fun k hk => hst k (o3.lt k hk).2, d1, d2, d3⟩
  clear hR hN hm hna
  go_enter Try.func45, Try.ntmps45
  go_wp2_with fail
  go_region
  go_wp2_with fail
  go_ret
  rw [HS.out]
  exact ⟨true, rfl, HF.out.2, .inl ⟨_, rfl, rfl, HF.out.1⟩⟩
end Sk
end Go.Proofs.Ytppjlpihaocdiaa
