/- Several texts in one. -/
import Derived.Test.YtppjlpihaocdiaaSNaMK
import Derived.Test.YtppjlpihaocdiaaPrSK
/- The document's walk over a script: the first letter of a label. -/
set_option linter.unusedSimpArgs false
set_option linter.unusedVariables false
namespace Go.Proofs.Ytppjlpihaocdiaa
namespace Sk
open Go.RowKit

theorem Try.info63 : (Try.prog.info? 63).map (fun i => (i.zero, i.size, i.bytes)) = some (some (.agg #[.string ⟨#[]⟩, .int .i64 0, .bool false]), 3, 32) := by kernel_rfl

theorem lettered_end {u : World} {b g cap c : Nat} {x : Sc} {l0 : List Lb} {q : Lb} {pv lv : Value} (hR : Row u b (scL x pv lv (.slice (some ⟨g, 0, none⟩) (l0.length + 1) cap))) (hN : Notes u b x pv lv (.slice (some ⟨g, 0, none⟩) (l0.length + 1) cap)) (hla : x.labels = l0 ++ [q]) (hg1 : b + 1 ≤ g) (o : Obj) :
    ScAt ((u.setCell ⟨g, l0.length * 3, none⟩ (.string (str q.name ++ ⟨#[UInt8.ofNat c]⟩))).alloc o).drew b { x with labels := l0 ++ [⟨q.name ++ [c], q.at', q.goal⟩] } ∧ Below b u ((u.setCell ⟨g, l0.length * 3, none⟩ (.string (str q.name ++ ⟨#[UInt8.ofNat c]⟩))).alloc o).drew := by
  rw [← str_snoc]
  have n2 := Notes.lettered (c := c) hla hN
  have hbl : b < u.heap.size := hR.lt (by rw [scL_length]; omega)
  have r2 : Row (u.setCell ⟨g, l0.length * 3, none⟩ (.string (str (q.name ++ [c])))) b (scL x pv lv (.slice (some ⟨g, 0, none⟩) (l0.length + 1) cap)) := hR.of_block (Below.heap_setCell _ _ _ _ (by simp only; omega))
  have b2 : Below b u (u.setCell ⟨g, l0.length * 3, none⟩ (.string (str (q.name ++ [c])))) := ⟨rfl, rfl, rfl, by simp [World.setCell], fun k hk => Below.heap_setCell u ⟨g, l0.length * 3, none⟩ _ k (by simp only; omega)⟩
  have z2 : (u.setCell ⟨g, l0.length * 3, none⟩ (.string (str (q.name ++ [c])))).heap.size = u.heap.size := by simp
  generalize u.setCell ⟨g, l0.length * 3, none⟩ (.string (str (q.name ++ [c]))) = w2 at r2 n2 b2 z2 ⊢
  have hst : ∀ k, k < w2.heap.size → ((w2.alloc o).drew).heap[k]? = w2.heap[k]? := fun k hk => Below.heap_alloc w2 _ k hk
  refine ⟨⟨pv, lv, _, r2.of_block (hst b (by omega)), ?_⟩, b2.trans ⟨rfl, rfl, rfl, by simp, fun k hk => hst k (by omega)⟩⟩
  obtain ⟨o1, o2, o3, d1, d2, d3⟩ := n2
  exact ⟨own_of o1 fun k hk => hst k (o1.lt k hk).2, own_of o2 fun k hk => hst k (o2.lt k hk).2, own_of o3 fun k hk => hst k (o3.lt k hk).2, d1, d2, d3⟩

theorem conv_byte (u : World) (c : Nat) (hc : c < 256) : (convert 39 9 (.slice (some ⟨u.heap.size, 0, none⟩) 1 1)).run Try.prog ((u.alloc (Obj.cells #[.int .u8 (c : Int)] 5)).drew) = .ok (.string ⟨#[UInt8.ofNat c]⟩) ((u.alloc (Obj.cells #[.int .u8 (c : Int)] 5)).drew) := by
  have := run_convert_bytes_back (P := Try.prog) ((u.alloc (Obj.cells #[.int .u8 (c : Int)] 5)).drew) 39 9 5 ⟨u.heap.size, 0, none⟩ 1 [UInt8.ofNat c] Try.underlying39 Try.underlying5 Try.underlying9 (fun j hj => by
    have hj0 : j = 0 := by simpa using hj
    subst hj0
    have h := new_at (u := u) (H := u.heap.size) rfl (.int .u8 (c : Int)) 5 0 (.int .u8 (c : Int)) rfl
    have e : ((UInt8.ofNat c).toNat : Int) = (c : Int) := by
      have : (UInt8.ofNat c).toNat = c := by simp; omega
      rw [this]
    simp only [List.getElem_cons_zero, e]
    exact h)
  exact this

/-- A label has been begun. -/
theorem Gr.three {w u w1 : World} {o : Obj} {b i gg cap : Nat} {x : Sc} {pv lv bv : Value} (h : Gr w u b x pv lv bv) (hown : w1.ownsRow (b + 1) 63 3 (.slice (some ⟨gg, 0, none⟩) (x.labels.length + 1) cap) (x.labels.length + 1) (lbL x.labels ++ [.string ⟨#[]⟩, .int .i64 (i : Int), .bool x.goal]))
    (hg : (u.alloc o).drew.grownBy w1 bv.ownBlock) (hat : bv.ownBlock = some gg ∨ gg = u.heap.size + 1) :
    Row w1 b (scL x pv lv bv) ∧ Gr w (w1.setCell ⟨b, 273, none⟩ (.slice (some ⟨gg, 0, none⟩) (x.labels.length + 1) cap)) b { x with labels := x.labels ++ [⟨[], i, x.goal⟩] } pv lv (.slice (some ⟨gg, 0, none⟩) (x.labels.length + 1) cap) := by
  have hg' : (u.alloc o).grownBy w1 bv.ownBlock := ⟨hg.os, hg.tape, hg.output, hg.size, hg.block⟩
  have hr : Row w1 b (scL x pv lv bv) := Row.grown h.row (by rw [scL_length]; omega) h.notes.o3 hg'
  have hs : Sole b w1 (w1.setCell ⟨b, 273, none⟩ (.slice (some ⟨gg, 0, none⟩) (x.labels.length + 1) cap)) := (Sole.refl _ _).setCell _ _
  refine ⟨hr, ?_, (h.notes.more3 (q := ⟨[], i, x.goal⟩) hown hg' hat).sole hs, (h.below.trans (Below.grown h.notes.o3 (h.row.lt (by rw [scL_length]; omega)) hg')).trans (Sole.below hs)⟩
  have := hr.put 273 (by rw [scL_length]; omega) (.slice (some ⟨gg, 0, none⟩) (x.labels.length + 1) cap)
  rw [scL_put_bv] at this
  exact this

set_option maxHeartbeats 400000 in
theorem named_first (b : Nat) (x : Sc) (c i : Nat) (w : World) (hx : ScAt w b x) (hm : Sm x) (hc1 : 97 ≤ c) (hc2 : c ≤ 122) (h0 : x.count = 0) (hll : x.labels.length ≤ 1000) (hi : i ≤ 900) :
    Calls Try.prog 45 #[.pointer (some ⟨b, 0, none⟩), .int .u8 c, .int .i64 i] w (Sd b w (named x c i)) := by
  obtain ⟨i0, hi0, hz0, hz1, hz2⟩ := info_parts Try.info63
  obtain ⟨pv, lv, bv, hR, hN⟩ := hx
  have HG : Hid (Gr w (w.setCell ⟨b, 7, none⟩ (.int .i64 1)) b { x with count := 1 } pv lv bv) := by
    have r1 := Row.head (x' := { x with count := 1 }) hR 7 (.int .i64 1) (by omega) rfl
    have s1 : Sole b w (w.setCell ⟨b, 7, none⟩ (.int .i64 1)) := (Sole.refl _ _).setCell _ _
    obtain ⟨o1, o2, o3, d1, d2, d3⟩ := hN.sole s1
    exact ⟨r1, ⟨o1, o2, o3, d1, d2, d3⟩, Sole.below s1⟩
  have hbl : b < w.heap.size := hR.lt (by rw [scL_length]; omega)
  have m7 := hR.cell (k := 7) rfl
  rw [h0] at m7
  have f7 := hR.frozen (k := 7) (by rw [scL_length]; omega)
  have m10 := hR.cell (k := 10) rfl
  have f10 := hR.frozen (k := 10) (by rw [scL_length]; omega)
  have m273 := hR.cell (scL_bv x pv lv bv)
  have f273 := hR.frozen (k := 273) (by rw [scL_length]; omega)
  have i1 : (97 : Int) ≤ (c : Int) := by omega
  have i2 : (c : Int) ≤ 122 := by omega
  have HS : Hid (named x c i = some { x with count := 1, labels := x.labels ++ [⟨[c], i, x.goal⟩] }) := by
    unfold named
    rw [Hid, if_pos ⟨hc1, hc2, by omega⟩, if_pos h0, addLetter_snoc, h0]
    rfl
  clear hR hN hm h0
  go_enter Try.func45, Try.ntmps45
  go_wp2_with fail
  go_region_law
    ((refine step_append_lies _ (by rfl) _ _ _ (by rfl) (b + 1) 63 i0 _ 3 32 Try.underlying58 hi0 hz0 hz1 hz2 rfl (by omega) bv x.labels.length (lbL x.labels) (by rfl) ((HG.out.notes.o3.alloc _).drew)
          ⟨w.heap.size, 0, none⟩ 1 1 [.string ⟨#[]⟩, .int .i64 (i : Int), .bool x.goal] (by rfl) (by rfl) (World.news_of_block (cs := #[.string ⟨#[]⟩, .int .i64 (i : Int), .bool x.goal]) (t := 63) (fr := (0, 0)) (by have := heap_alloc_new (w.setCell ⟨b, 7, none⟩ (.int .i64 1)) (Obj.cells #[.string ⟨#[]⟩, .int .i64 (i : Int), .bool x.goal] 63); rw [show (w.setCell ⟨b, 7, none⟩ (.int .i64 1)).heap.size = w.heap.size by simp] at this; exact this)) (by simp [Value.oneCell'])
          (by omega) (by unfold maxLen; omega) (by omega) (by simp; omega) (w.heap.size + 1) (by simp) ?_; intro gg cap w1 hown1 hgrow hat hlt; have HGX : Hid _ := Gr.three (i := i) HG.out hown1 hgrow (by simpa using hat); have kc := HGX.out.1.cell (scL_bv _ pv lv bv); have kf := HGX.out.1.frozen (k := 273) (by rw [scL_length]; omega); have HO1 : Hid _ := hown1; clear hown1 hgrow hat hlt))
  all_goals go_wp2_with fail
  all_goals (
    have hgu : (w1.setCell ⟨b, 273, none⟩ (.slice (some ⟨gg, 0, none⟩) (x.labels.length + 1) cap)).ownsRow (b + 1) 63 3 (.slice (some ⟨gg, 0, none⟩) (x.labels.length + 1) cap) (x.labels.length + 1) (lbL (x.labels ++ [⟨[], i, x.goal⟩])) := by
      have := HGX.out.2.notes.o3
      simp only [List.length_append, List.length_singleton] at this
      exact this
    have HG2 : Hid _ := HGX.out.2
    clear HGX HO1 kc kf m7 f7 m10 f10 m273 f273
    generalize w1.setCell ⟨b, 273, none⟩ (.slice (some ⟨gg, 0, none⟩) (x.labels.length + 1) cap) = u at HG2 hgu ⊢
    have hbu : b < u.heap.size := HG2.out.row.lt (by rw [scL_length]; omega)
    have hg1 := (hgu.lt gg rfl).1
    have hg2 := (hgu.lt gg rfl).2
    have m273 := HG2.out.row.cell (scL_bv _ _ _ _)
    have f273 := HG2.out.row.frozen (k := 273) (by rw [scL_length]; omega)
    have hgc : u.cell? ⟨gg, x.labels.length * 3, none⟩ = some (.string (str [])) := by
      rw [hgu.cellAt (x.labels.length * 3) (by omega), lbL_snoc, List.getElem?_append_right (by rw [lbL_length]; omega), lbL_length]
      simp
    have hgf : u.frozen? ⟨gg, x.labels.length * 3, none⟩ = false := hgu.frozenAt _
    clear hgu
    have hcv := conv_byte u c (by omega)
    have hadd : ∀ W : World, (Op.stringOp .add (str []) ⟨#[UInt8.ofNat c]⟩).run Try.prog W = .ok (.string (str [] ++ ⟨#[UInt8.ofNat c]⟩)) W := fun W => run_string_add (P := Try.prog) (w := W) _ _ (by decide) (by simp [ByteArray.size])
    go_region
    go_wp2_with fail
    go_ret
    rw [HS.out]
    have hfin := lettered_end (c := c) (l0 := x.labels) (q := ⟨[], i, x.goal⟩) HG2.out.row HG2.out.notes rfl hg1 (Obj.cells #[.int .u8 (c : Int)] 5)
    exact ⟨true, rfl, HG2.out.below.trans hfin.2, .inl ⟨_, rfl, rfl, hfin.1⟩⟩)
end Sk
end Go.Proofs.Ytppjlpihaocdiaa

/- The document's walk over a script: a byte in a label. -/
set_option linter.unusedSimpArgs false
set_option linter.unusedVariables false
namespace Go.Proofs.Ytppjlpihaocdiaa
namespace Sk
open Go.RowKit

theorem ScAt.drew {w : World} {b : Nat} {x : Sc} (h : ScAt w b x) : ScAt w.drew b x := by
  obtain ⟨pv, lv, bv, hR, o1, o2, o3, d1, d2, d3⟩ := h
  exact ⟨pv, lv, bv, hR.of_block rfl, own_of o1 fun _ _ => rfl, own_of o2 fun _ _ => rfl, own_of o3 fun _ _ => rfl, d1, d2, d3⟩

set_option maxHeartbeats 1000000 in
theorem named_over (b : Nat) (x : Sc) (c i : Nat) (w : World) (hx : ScAt w b x) (hm : Sm x) (hc : c < 256) (hn : ¬ (97 ≤ c ∧ c ≤ 122 ∧ x.count < 8)) :
    Calls Try.prog 45 #[.pointer (some ⟨b, 0, none⟩), .int .u8 c, .int .i64 i] w (Sd b w (named x c i)) := by
  have HX : Hid (ScAt w b x) := hx
  have HM : Hid (Sm x) := hm
  obtain ⟨pv, lv, bv, hR, hN⟩ := hx
  have m7 := hR.cell (k := 7) rfl
  have f7 := hR.frozen (k := 7) (by rw [scL_length]; omega)
  have m9 := hR.cell (k := 9) rfl
  have f9 := hR.frozen (k := 9) (by rw [scL_length]; omega)
  clear hR hN hm
  have main : ∀ (P : Prop), P → Hid (named x c i = if x.count < x.least then none else separates x c) := fun _ _ => by rw [Hid, named, if_neg hn]
  have HS := main True trivial
  by_cases hlt : x.count < x.least
  · have HS2 : Hid (named x c i = none) := by rw [Hid, HS.out, if_pos hlt]
    have k1 : decide ((x.count : Int) < (x.least : Int)) = true := by simp; omega
    have k2 : decide (x.count < x.least) = true := by simp; omega
    clear HS hlt
    by_cases h1 : 97 ≤ c
    · by_cases h2 : c ≤ 122
      · have h3 : ¬ x.count < 8 := fun h => hn ⟨h1, h2, h⟩
        have i1 : decide ((c : Int) ≥ 97) = true := by simp; omega
        have i2 : decide ((c : Int) ≤ 122) = true := by simp; omega
        have i3 : decide ((x.count : Int) < 8) = false := by simp; omega
        clear hn h1 h2 h3
        go_enter Try.func45, Try.ntmps45
        go_wp2_with fail
        go_region
        go_wp2_with fail
        go_ret
        rw [HS2.out]
        exact Sd.no ⟨rfl, rfl, rfl, Nat.le_refl _, fun _ _ => rfl⟩ rfl
      · have i1 : decide ((c : Int) ≥ 97) = true := by simp; omega
        have i2 : decide ((c : Int) ≤ 122) = false := by simp; omega
        clear hn h1 h2
        go_enter Try.func45, Try.ntmps45
        go_wp2_with fail
        go_region
        go_wp2_with fail
        go_ret
        rw [HS2.out]
        exact Sd.no ⟨rfl, rfl, rfl, Nat.le_refl _, fun _ _ => rfl⟩ rfl
    · have i1 : decide ((c : Int) ≥ 97) = false := by simp; omega
      clear hn h1
      go_enter Try.func45, Try.ntmps45
      go_wp2_with fail
      go_region
      go_wp2_with fail
      go_ret
      rw [HS2.out]
      exact Sd.no ⟨rfl, rfl, rfl, Nat.le_refl _, fun _ _ => rfl⟩ rfl
  · have HS2 : Hid (named x c i = separates x c) := by rw [Hid, HS.out, if_neg hlt]
    have k1 : decide ((x.count : Int) < (x.least : Int)) = false := by simp; omega
    have k2 : decide (x.count < x.least) = false := by simp; omega
    clear HS hlt
    by_cases h1 : 97 ≤ c
    · by_cases h2 : c ≤ 122
      · have h3 : ¬ x.count < 8 := fun h => hn ⟨h1, h2, h⟩
        have i1 : decide ((c : Int) ≥ 97) = true := by simp; omega
        have i2 : decide ((c : Int) ≤ 122) = true := by simp; omega
        have i3 : decide ((x.count : Int) < 8) = false := by simp; omega
        clear hn h1 h2 h3
        go_enter Try.func45, Try.ntmps45
        go_wp2_with fail
        go_region
        go_wp2_with fail
        refine (separates_any b x c w.drew HX.out.drew HM.out hc).mono ?_
        rintro e w1 ⟨q, rfl, hb, ho⟩
        have HO : Hid (Sd b w (separates x c) (.returned (.bool q)) w1) := ⟨q, rfl, Below.trans (b := w.drew) ⟨rfl, rfl, rfl, Nat.le_refl _, fun _ _ => rfl⟩ hb, ho⟩
        clear hb ho
        go_wp2_with fail
        go_ret
        rw [HS2.out]
        exact HO.out
      · have i1 : decide ((c : Int) ≥ 97) = true := by simp; omega
        have i2 : decide ((c : Int) ≤ 122) = false := by simp; omega
        clear hn h1 h2
        go_enter Try.func45, Try.ntmps45
        go_wp2_with fail
        go_region
        go_wp2_with fail
        refine (separates_any b x c w.drew HX.out.drew HM.out hc).mono ?_
        rintro e w1 ⟨q, rfl, hb, ho⟩
        have HO : Hid (Sd b w (separates x c) (.returned (.bool q)) w1) := ⟨q, rfl, Below.trans (b := w.drew) ⟨rfl, rfl, rfl, Nat.le_refl _, fun _ _ => rfl⟩ hb, ho⟩
        clear hb ho
        go_wp2_with fail
        go_ret
        rw [HS2.out]
        exact HO.out
    · have i1 : decide ((c : Int) ≥ 97) = false := by simp; omega
      clear hn h1
      go_enter Try.func45, Try.ntmps45
      go_wp2_with fail
      go_region
      go_wp2_with fail
      refine (separates_any b x c w.drew HX.out.drew HM.out hc).mono ?_
      rintro e w1 ⟨q, rfl, hb, ho⟩
      have HO : Hid (Sd b w (separates x c) (.returned (.bool q)) w1) := ⟨q, rfl, Below.trans (b := w.drew) ⟨rfl, rfl, rfl, Nat.le_refl _, fun _ _ => rfl⟩ hb, ho⟩
      clear hb ho
      go_wp2_with fail
      go_ret
      rw [HS2.out]
      exact HO.out

theorem named_any (b : Nat) (x : Sc) (c i : Nat) (w : World) (hx : ScAt w b x) (hm : Sm x) (hc : c < 256) (hl : x.count ≠ 0 → x.labels ≠ []) (hll : x.labels.length ≤ 1000) (hi : i ≤ 900) (hna : ∀ q ∈ x.labels, (str q.name).size ≤ 1000) :
    Calls Try.prog 45 #[.pointer (some ⟨b, 0, none⟩), .int .u8 c, .int .i64 i] w (Sd b w (named x c i)) := by
  by_cases hn : 97 ≤ c ∧ c ≤ 122 ∧ x.count < 8
  · by_cases h0 : x.count = 0
    · exact named_first b x c i w hx hm hn.1 hn.2.1 h0 hll hi
    · exact named_more b x c i w hx hm hn.1 hn.2.1 hn.2.2 h0 (hl h0) hll hi hna
  · exact named_over b x c i w hx hm hc hn
end Sk
end Go.Proofs.Ytppjlpihaocdiaa

