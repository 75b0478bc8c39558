/- The law 'Longest', walked. -/
import Derived.Test.YtppjlpihaocdiaaWord
import Derived.Test.YtppjlpihaocdiaaWords
import Derived.Test.YtppjlpihaocdiaaStarred
import Derived.Deep.CutBlock
set_option linter.unusedSimpArgs false
set_option linter.unusedVariables false
namespace Go.Proofs.Ytppjlpihaocdiaa
open Go.RowKit

/-- The bytes of a text, as numbers. -/
def nats (s : ByteArray) : List Nat := s.data.toList.map (·.toNat)

theorem nats_append (a b : ByteArray) : nats (a ++ b) = nats a ++ nats b := by unfold nats; simp

theorem nats_length (s : ByteArray) : (nats s).length = s.size := by unfold nats; rw [List.length_map]; rfl

theorem nats_get {s : ByteArray} {q : Nat} (h : q < s.size) : (nats s)[q]? = some (byt s q) := by
  have h' : q < s.data.toList.length := h
  unfold nats byt
  rw [List.getElem?_map, List.getD_eq_getElem?_getD, List.getElem?_eq_getElem h']
  rfl

theorem From_nats {s : ByteArray} {l : List Nat} (h : nats s = l) : From s 0 l := by
  subst h
  refine ⟨by rw [nats_length]; omega, fun q c hq => ?_⟩
  have hl : q < s.size := by rw [← nats_length]; exact (List.getElem?_eq_some_iff.1 hq).1
  rw [nats_get hl] at hq
  cases hq
  rw [Nat.zero_add]

theorem Stands_nats {s t : ByteArray} {i : Nat} : Stands s (nats t) i ↔ InAt s t i := by
  unfold Stands InAt
  rw [nats_length]
  constructor
  · rintro ⟨h1, h2⟩
    exact ⟨h1, fun q hq => h2 q _ (nats_get hq)⟩
  · rintro ⟨h1, h2⟩
    refine ⟨h1, fun q c hq => ?_⟩
    have hl : q < t.size := by rw [← nats_length]; exact (List.getElem?_eq_some_iff.1 hq).1
    rw [nats_get hl] at hq
    cases hq
    exact h2 q hl

theorem Lets.nats {t : ByteArray} {n : Nat} (h : Lets t n) : nats t ≠ [] ∧ Letters (nats t) := by
  obtain ⟨h1, h2, h3⟩ := h
  constructor
  · intro e
    have := nats_length t
    rw [e] at this
    simp at this
    omega
  · intro c hc
    obtain ⟨q, hq⟩ := List.mem_iff_getElem?.1 hc
    have hl : q < t.size := by rw [← nats_length]; exact (List.getElem?_eq_some_iff.1 hq).1
    rw [nats_get hl] at hq
    cases hq
    exact h3 q hl

theorem body_snoc : ∀ (ws : List (List Nat)) (w : List Nat), ws ≠ [] → body (ws ++ [w]) = body ws ++ 124 :: w
  | [], _, h => absurd rfl h
  | [a], w, _ => rfl
  | a :: b :: ws, w, _ => by
    have := body_snoc (b :: ws) w (by simp)
    have e1 : body (a :: b :: ws ++ [w]) = a ++ 124 :: body (b :: ws ++ [w]) := rfl
    have e2 : body (a :: b :: ws) = a ++ 124 :: body (b :: ws) := rfl
    rw [e1, e2, this]
    simp

theorem body_short : ∀ (ws : List (List Nat)), (∀ w ∈ ws, w.length ≤ 4) → (body ws).length ≤ 5 * ws.length
  | [], _ => by simp [body]
  | [a], h => by
    have := h a (by simp)
    simp [body]
    omega
  | a :: b :: ws, h => by
    have h1 := h a (by simp)
    have h2 := body_short (b :: ws) (fun w hw => h w (List.mem_cons_of_mem _ hw))
    have e2 : body (a :: b :: ws) = a ++ 124 :: body (b :: ws) := rfl
    rw [e2, List.length_append, List.length_cons]
    simp only [List.length_cons] at h2 ⊢
    omega

/-- A pattern, but for its last byte, and the words in it. -/
def PatOf (p : ByteArray) (ws : List ByteArray) : Prop := nats p = 40 :: body (ws.map nats)

theorem PatOf.size {p : ByteArray} {ws : List ByteArray} (h : PatOf p ws) (hL : ∀ t ∈ ws, Lets t 4) : p.size ≤ 1 + 5 * ws.length := by
  rw [← nats_length, h, List.length_cons]
  have := body_short (ws.map nats) (fun w hw => by
    obtain ⟨t, ht, rfl⟩ := List.mem_map.1 hw
    rw [nats_length]
    exact (hL t ht).2.1)
  rw [List.length_map] at this
  omega

theorem PatOf.first {p t : ByteArray} (h : PatOf p []) : PatOf (p ++ t) [t] := by
  unfold PatOf at *
  rw [nats_append, h]
  rfl

theorem PatOf.snoc {p t : ByteArray} {ws : List ByteArray} (h : PatOf p ws) (hw : ws ≠ []) : PatOf (p ++ ⟨#[124]⟩ ++ t) (ws ++ [t]) := by
  unfold PatOf at *
  rw [nats_append, nats_append, h, List.map_append, List.map_singleton, body_snoc _ _ (by simpa using hw)]
  have : nats ⟨#[124]⟩ = [124] := rfl
  rw [this]
  simp

theorem PatOf.whole {p : ByteArray} {ws : List ByteArray} (h : PatOf p ws) : From (p ++ ⟨#[41]⟩) 0 (40 :: (body (ws.map nats) ++ [41])) := by
  refine From_nats ?_
  rw [nats_append, h]
  rfl

theorem body_long : ∀ (ws : List (List Nat)), (∀ w ∈ ws, w ≠ [] ∧ Letters w) → ws.length ≤ (body ws).length
  | [], _ => by simp
  | [a], h => by
    have := (h a (by simp)).1
    cases a with
    | nil => exact absurd rfl this
    | cons x a => simp [body]
  | a :: b :: ws, h => by
    have h2 := body_long (b :: ws) (fun w hw => h w (List.mem_cons_of_mem _ hw))
    have e2 : body (a :: b :: ws) = a ++ 124 :: body (b :: ws) := rfl
    rw [e2, List.length_append, List.length_cons]
    simp only [List.length_cons] at h2 ⊢
    omega

/-- What 'Match' answers for some words. -/
def Got (w' : World) (v : Value) (s : ByteArray) (ws : List ByteArray) : Prop :=
  (v = .slice none 0 0 ∧ ∀ i, i ≤ s.size → ∀ t ∈ ws, ¬ InAt s t i) ∨
    ∃ i n : Nat, TwoAre w' v i ((i + n : Nat) : Int) i ((i + n : Nat) : Int) ∧ (∃ t ∈ ws, InAt s t i ∧ t.size = n) ∧ (∀ i', i' < i → ∀ t ∈ ws, ¬ InAt s t i') ∧ ∀ t ∈ ws, InAt s t i → t.size ≤ n

theorem callL (p s : ByteArray) (ws : List ByteArray) (w : World) (hne : ws ≠ []) (h6 : ws.length ≤ 6) (hL : ∀ t ∈ ws, Lets t 4) (hp : PatOf p ws) (hs : s.size ≤ 40) :
    Calls Try.prog 14 #[.string (p ++ ⟨#[41]⟩), .string s] w fun e w' => ∃ v, e = .returned (.tuple #[v, .int .i64 0]) ∧ Got w' v s ws ∧ Below w.heap.size w w' := by
  have hps := hp.size hL
  have hsz : (p ++ (⟨#[41]⟩ : ByteArray)).size = p.size + 1 := bsize _ _
  have hF := hp.whole
  have hW : ∀ x ∈ ws.map nats, x ≠ [] ∧ Letters x := fun x hx => by
    obtain ⟨t, ht, rfl⟩ := List.mem_map.1 hx
    exact (hL t ht).nats
  have hlen : (ws.map nats).length ≤ (p ++ (⟨#[41]⟩ : ByteArray)).size := by
    have h1 := hF.1
    have h2 := body_long (ws.map nats) hW
    simp only [List.length_cons, List.length_append] at h1
    omega
  obtain ⟨pt, hpt⟩ : ∃ pt, pt = p ++ (⟨#[41]⟩ : ByteArray) := ⟨_, rfl⟩
  rw [← hpt] at hsz hF hlen ⊢
  have h40 : pt.size ≤ 40 := by omega
  have hm1 : pt.size ≤ maxLen := small_len (by omega)
  have hm2 : s.size ≤ maxLen := small_len (by omega)
  refine (match_any pt s w hm1 hm2).mono ?_
  rintro e w' ⟨v, ec, rfl, hM, hB, _⟩
  obtain ⟨rfl, hR⟩ := words_match (by simpa using hne) hW hF hlen h40 (by omega) hM
  refine ⟨v, rfl, ?_, hB⟩
  rcases hR with ⟨h1, h2⟩ | ⟨i, n, hT, ⟨x, hx, hS, hn⟩, hno, hmx⟩
  · exact .inl ⟨h1, fun i hi t ht hin => h2 i hi (nats t) (List.mem_map_of_mem ht) (Stands_nats.2 hin)⟩
  · obtain ⟨t, ht, rfl⟩ := List.mem_map.1 hx
    refine .inr ⟨i, n, hT, ⟨t, ht, Stands_nats.1 hS, by rw [← nats_length]; exact hn⟩, fun i' hi' t' ht' hin => hno i' hi' _ (List.mem_map_of_mem ht') (Stands_nats.2 hin), fun t' ht' hin => ?_⟩
    rw [← nats_length]
    exact hmx _ (List.mem_map_of_mem ht') (Stands_nats.2 hin)

/-- The longest of the first words that stand at a place. -/
def BestOf (s : ByteArray) (ws : List ByteArray) (i k : Nat) (best : Int) : Prop :=
  (best = -1 ∧ ∀ (q : Nat) (t : ByteArray), q < k → ws[q]? = some t → ¬ InAt s t i) ∨
    ∃ m : Nat, best = (m : Int) ∧ m ≤ 4 ∧ (∃ t ∈ ws, InAt s t i ∧ t.size = m) ∧ ∀ (q : Nat) (t : ByteArray), q < k → ws[q]? = some t → InAt s t i → t.size ≤ m

theorem BestOf.miss {s : ByteArray} {ws : List ByteArray} {i k : Nat} {best : Int} {t : ByteArray} (h : BestOf s ws i k best) (ht : ws[k]? = some t) (hn : ¬ InAt s t i) : BestOf s ws i (k + 1) best := by
  rcases h with ⟨h1, h2⟩ | ⟨m, h1, h2, h3, h4⟩
  · refine .inl ⟨h1, fun q t' hq hq' => ?_⟩
    rcases Nat.lt_or_ge q k with h | h
    · exact h2 q t' h hq'
    · obtain rfl : q = k := by omega
      rw [ht] at hq'; cases hq'; exact hn
  · refine .inr ⟨m, h1, h2, h3, fun q t' hq hq' hi => ?_⟩
    rcases Nat.lt_or_ge q k with h | h
    · exact h4 q t' h hq' hi
    · obtain rfl : q = k := by omega
      rw [ht] at hq'; cases hq'; exact absurd hi hn

theorem BestOf.less {s : ByteArray} {ws : List ByteArray} {i k : Nat} {best : Int} {t : ByteArray} (h : BestOf s ws i k best) (ht : ws[k]? = some t) (hn : (t.size : Int) ≤ best) : BestOf s ws i (k + 1) best := by
  rcases h with ⟨h1, h2⟩ | ⟨m, h1, h2, h3, h4⟩
  · omega
  · refine .inr ⟨m, h1, h2, h3, fun q t' hq hq' hi => ?_⟩
    rcases Nat.lt_or_ge q k with h | h
    · exact h4 q t' h hq' hi
    · obtain rfl : q = k := by omega
      rw [ht] at hq'; cases hq'; omega

theorem BestOf.more {s : ByteArray} {ws : List ByteArray} {i k : Nat} {best : Int} {t : ByteArray} (h : BestOf s ws i k best) (ht : ws[k]? = some t) (hi : InAt s t i) (h4 : t.size ≤ 4) (hn : best < (t.size : Int)) : BestOf s ws i (k + 1) (t.size : Int) := by
  refine .inr ⟨t.size, rfl, h4, ⟨t, List.mem_of_getElem? ht, hi, rfl⟩, fun q t' hq hq' hi' => ?_⟩
  rcases Nat.lt_or_ge q k with hk | hk
  · rcases h with ⟨h1, h2⟩ | ⟨m, h1, h2, h3, h4⟩
    · exact absurd hi' (h2 q t' hk hq')
    · have := h4 q t' hk hq' hi'
      omega
  · obtain rfl : q = k := by omega
    rw [ht] at hq'; cases hq'; exact Nat.le_refl _

theorem BestOf.range {s : ByteArray} {ws : List ByteArray} {i k : Nat} {best : Int} (h : BestOf s ws i k best) : -1 ≤ best ∧ best ≤ 4 := by
  rcases h with ⟨h1, _⟩ | ⟨m, h1, h2, _⟩ <;> omega

/-- No word at this place. -/
theorem BestOf.none {s : ByteArray} {ws : List ByteArray} {i : Nat} {best : Int} (h : BestOf s ws i ws.length best) (hb : best < 0) : ∀ t ∈ ws, ¬ InAt s t i := by
  rcases h with ⟨h1, h2⟩ | ⟨m, h1, _⟩
  · intro t ht
    obtain ⟨q, hq⟩ := List.mem_iff_getElem?.1 ht
    exact h2 q t (List.getElem?_eq_some_iff.1 hq).1 hq
  · omega

/-- The first place, and the longest there. -/
theorem BestOf.got {w' : World} {v : Value} {s : ByteArray} {ws : List ByteArray} {i : Nat} {best : Int} (h : BestOf s ws i ws.length best) (hb : 0 ≤ best) (hbef : ∀ i', i' < i → ∀ t ∈ ws, ¬ InAt s t i') (hg : Got w' v s ws) : ∃ m : Nat, best = m ∧ TwoAre w' v i ((i + m : Nat) : Int) i ((i + m : Nat) : Int) := by
  rcases h with ⟨h1, h2⟩ | ⟨m, h1, h2, ⟨t, ht, hti, htm⟩, h4⟩
  · omega
  refine ⟨m, h1, ?_⟩
  rcases hg with ⟨_, hno⟩ | ⟨i0, n, hT, ⟨t0, ht0, hi0, hn0⟩, hno, hmx⟩
  · exact absurd hti (hno i (by have := hti.1; omega) t ht)
  · have e : i0 = i := by
      rcases Nat.lt_trichotomy i0 i with h | h | h
      · exact absurd hi0 (hbef i0 h t0 ht0)
      · exact h
      · exact absurd hti (hno i h t ht)
    subst e
    have e2 : n = m := by
      have h5 := hmx t ht hti
      obtain ⟨q, hq⟩ := List.mem_iff_getElem?.1 ht0
      have h6 := h4 q t0 (List.getElem?_eq_some_iff.1 hq).1 hq hi0
      omega
    subst e2
    exact hT

/-- None at all. -/
theorem Got.nil {w' : World} {v : Value} {s : ByteArray} {ws : List ByteArray} (hg : Got w' v s ws) (hno : ∀ i', i' ≤ s.size → ∀ t ∈ ws, ¬ InAt s t i') : v = .slice none 0 0 := by
  rcases hg with ⟨h, _⟩ | ⟨i0, n, hT, ⟨t0, ht0, hi0, hn0⟩, _, hmx⟩
  · exact h
  · exact absurd hi0 (hno i0 (by have := hi0.1; omega) t0 ht0)

theorem owns_below {w w' : World} {base : Nat} {e : TypeId} {size n : Nat} {v : Value} {xs : List Value} (h : w.ownsRow base e size v n xs) (hb : Below w.heap.size w w') : w'.ownsRow base e size v n xs := by
  obtain ⟨h1, h2⟩ := h
  refine ⟨h1, h2.imp id ?_⟩
  rintro ⟨g, cap, cur, a, b, c, d⟩
  refine ⟨g, cap, cur, a, b, ?_, d⟩
  have hg : g < w.heap.size := (Array.getElem?_eq_some_iff.1 c).1
  rw [hb.block g hg, c]

theorem below_grow {w w1 w2 : World} {o : Obj} {e : TypeId} {size n : Nat} {v : Value} {xs : List Value} (hb : Below w.heap.size w w1) (ho : w1.ownsRow w.heap.size e size v n xs) (hg : (w1.alloc o).grownBy w2 v.ownBlock) : Below w.heap.size w w2 := by
  have hsz := hb.size
  have hsz2 := hg.size
  have ha : (w1.alloc o).heap.size = w1.heap.size + 1 := by simp
  refine ⟨hg.os.trans hb.os, hg.tape.trans hb.tape, hg.output.trans hb.output, by omega, fun k hk => ?_⟩
  rw [hg.block k (by omega) (fun e => by have := (ho.lt k e.symm).1; omega), Below.heap_alloc _ _ _ (by omega)]
  exact hb.block k hk

theorem Try.info9 : (Try.prog.info? 9).map (fun i => (i.zero, i.size, i.bytes)) = some (some (.string ⟨#[]⟩), 1, 16) := by kernel_rfl

set_option maxRecDepth 100000 in
set_option maxHeartbeats 4000000 in
theorem longest_any (s0 : ByteArray) (wv : Option Addr) (len cap : Nat) (Sx : Nat → ByteArray) (w : World) (hs0 : s0.size ≤ maxLen) (hlen : len ≤ maxLen) (hcap : len ≤ cap)
    (hwv : ∀ i, i < len → ∃ a, wv = some a ∧ w.cell? (a.add i) = some (.string (Sx i)) ∧ (Sx i).size ≤ maxLen) :
    Calls Try.prog 6 #[.string s0, .slice wv len cap] w fun e w' => e = .returned (.bool true) ∧ Below w.heap.size w w' := by
  have hlen' : len ≤ 9223372036854775807 := by unfold maxLen at hlen; omega
  obtain ⟨i9, hi9, hz0, hz1, hz2⟩ := info_parts Try.info9
  go_enter Try.func6, Try.ntmps6
  go_upto_if 18 with fail
  go_cut [5] (fun s5 wx => ∃ s : ByteArray, s5 = .string s ∧ s.size ≤ 40 ∧ Hid (Below w.heap.size w wx))
  case first =>
    cases he : s0.toList.isEmpty with
    | true =>
      go_wp2_with fail
      go_meet
      exact ⟨_, rfl, by decide, Below.refl _ _⟩
    | false =>
      go_wp2_with fail
      refine (word_any s0 40 _ hs0 (by omega) (by omega)).mono ?_
      rintro e w1 ⟨t, rfl, hL, hB⟩
      have HB : Hid (Below w.heap.size w w1) := hB
      have ht40 := hL.2.1
      clear hB
      go_wp2_with fail
      go_meet
      exact ⟨_, rfl, ht40, HB.out⟩
  case rest =>
  obtain ⟨s, rfl, hs40, HB0⟩ := hcut
  go_upto_block 0 with fail
  go_cut [6, 7] (fun pv lv wx => ∃ (p : ByteArray) (ws : List ByteArray), ws.length ≤ 6 ∧ pv = .string p ∧ Hid (PatOf p ws) ∧ Hid (∀ t ∈ ws, Lets t 4) ∧ Hid (wx.ownsRow w.heap.size 9 1 lv ws.length (ws.map Value.string)) ∧ Hid (Below w.heap.size w wx))
  case first =>
    go_wp2_with fail
    go_loopw [6, 7, 8] (fun pv lv iv wr => ∃ (p : ByteArray) (ws : List ByteArray), ws.length ≤ len ∧ ws.length ≤ 6 ∧ pv = .string p ∧ iv = .int .i64 (ws.length : Int) ∧ Hid (PatOf p ws) ∧ Hid (∀ t ∈ ws, Lets t 4) ∧ Hid (wr.ownsRow w.heap.size 9 1 lv ws.length (ws.map Value.string)) ∧ Hid (Below w.heap.size w wr)) (fun _ _ iv _ => 7 - (intOf iv).toNat)
    case atStart => exact ⟨_, [], Nat.zero_le _, Nat.zero_le _, rfl, rfl, rfl, (fun t h => absurd h (by simp)), World.ownsRow_nil _ _ _ _, HB0.out⟩
    case round =>
      obtain ⟨p, ws, hwl, hw6, rfl, rfl, HP, HL, HO, HB⟩ := hrel
      have hps := HP.out.size HL.out
      by_cases hlt1 : ws.length < len
      · by_cases hlt2 : ws.length < 6
        · obtain ⟨a, rfl, hcell, hsx⟩ := hwv ws.length hlt1
          have hcell2 : wr.cell? (a.add ws.length) = some (.string (Sx ws.length)) := by
            rw [← hcell]
            exact World.cell?_of_block (HB.out.block _ (World.block_lt_of_cell? w _ hcell))
          go_wp2_with fail
          have hcw := word_any (Sx ws.length) 4 wr hsx (by omega) (by omega)
          refine hcw.mono ?_
          clear hcw
          rintro e w1 ⟨t, rfl, hL, hB⟩
          have HLt : Hid (Lets t 4) := hL
          have ht4 := hL.2.1
          have HO1 : Hid (w1.ownsRow w.heap.size 9 1 u7 ws.length (ws.map Value.string)) := owns_below HO.out hB
          have HB1 : Hid (Below w.heap.size w w1) := HB.out.trans (hB.mono HB.out.size)
          have hsz1 := HB1.out.size
          clear hB hL HO
          by_cases hz : ws = []
          · subst hz
            go_wp2_with (at_builtin; (refine wpList_append_lies _ rfl _ _ 30 rfl w.heap.size 9 i9 (.string ⟨#[]⟩) 1 16 Try.underlying30 hi9 hz0 hz1 hz2 rfl (by omega) u7 _ _ rfl (HO1.out.alloc _) ⟨w1.heap.size, 0, none⟩ 1 1 [.string t] rfl rfl (cell_one_new _ _ _) (fun x hx => by simp at hx; subst hx; rfl) (by omega) (by unfold maxLen; omega) (by omega) (by simp; omega) (w1.heap.size + 1) (by simp) ?_; intro gg cap2 w2 hown2 hgrow hat hlt9))
            refine ⟨⟨p ++ t, [t], hlt1, by show 1 ≤ 6; omega, rfl, rfl, HP.out.first, fun x hx => ?_, hown2, below_grow HB1.out HO1.out hgrow⟩, by decide⟩
            obtain rfl : x = t := by simpa using hx
            exact HLt.out
          · have hpos : 0 < ws.length := by cases ws with | nil => exact absurd rfl hz | cons a b => simp
            go_wp2_with (at_builtin; (refine wpList_append_lies _ rfl _ _ 30 rfl w.heap.size 9 i9 (.string ⟨#[]⟩) 1 16 Try.underlying30 hi9 hz0 hz1 hz2 rfl (by omega) u7 _ _ rfl (HO1.out.alloc _) ⟨w1.heap.size, 0, none⟩ 1 1 [.string t] rfl rfl (cell_one_new _ _ _) (fun x hx => by simp at hx; subst hx; rfl) (by omega) (by unfold maxLen; omega) (by omega) (by simp; omega) (w1.heap.size + 1) (by simp) ?_; intro gg cap2 w2 hown2 hgrow hat hlt9))
            refine ⟨⟨p ++ ⟨#[124]⟩ ++ t, ws ++ [t], ?_, ?_, rfl, ?_, HP.out.snoc hz, fun x hx => ?_, ?_, below_grow HB1.out HO1.out hgrow⟩, ?_⟩
            · simp; omega
            · simp; omega
            · simp
            · rcases List.mem_append.1 hx with hx | hx
              · exact HL.out x hx
              · obtain rfl : x = t := by simpa using hx
                exact HLt.out
            · rw [List.length_append, List.map_append]; exact hown2
            · simp [intOf]; omega
        · have hd : decide ((ws.length : Int) < (6 : Int)) = false := by simp; omega
          go_wp2_with fail
          go_meet
          exact ⟨p, ws, hw6, rfl, HP.out, HL.out, HO.out, HB.out⟩
      · have hd : decide ((ws.length : Int) < (len : Int)) = false := by simp; omega
        go_wp2_with fail
        go_meet
        exact ⟨p, ws, hw6, rfl, HP.out, HL.out, HO.out, HB.out⟩
  case rest =>
  obtain ⟨p0, ws0, hw60, rfl, HP0, HL0, HO, HB⟩ := hcut
  have hps0 := HP0.out.size HL0.out
  have hlenv : ∃ ao cap, u7 = .slice ao ws0.length cap := by
    rcases HO.out.2 with ⟨e, e2⟩ | ⟨g', cap', cur, hv, _⟩
    · exact ⟨none, 0, by rw [e, e2]⟩
    · exact ⟨_, _, hv⟩
  obtain ⟨ao, cap0, rfl⟩ := hlenv
  go_upto_if 49 with fail
  go_cut [6, 7] (fun pv lv wx => ∃ (p : ByteArray) (ws : List ByteArray) (g cap : Nat), ws ≠ [] ∧ ws.length ≤ 6 ∧ ws.length ≤ cap ∧ pv = .string p ∧ lv = .slice (some ⟨g, 0, none⟩) ws.length cap ∧ Hid (PatOf p ws) ∧ Hid (∀ t ∈ ws, Lets t 4) ∧ Hid (∀ (q : Nat) (t : ByteArray), ws[q]? = some t → wx.cell? ⟨g, q, none⟩ = some (.string t)) ∧ Hid (Below w.heap.size w wx))
  case first =>
    by_cases hz : ws0 = []
    · subst hz
      have HB2 := HB.out
      go_wp2_with fail
      go_meet
      refine ⟨_, [⟨#[98]⟩], wc.heap.size, 1, by simp, by simp, by simp, rfl, rfl, HP0.out.first, fun t ht => ?_, fun q t hq => ?_, HB2.alloc HB2.size _⟩
      · obtain rfl : t = ⟨#[98]⟩ := by simpa using ht
        refine ⟨by decide, by decide, fun q hq => ?_⟩
        obtain rfl : q = 0 := by
          have : q < 1 := hq
          omega
        exact ⟨by decide, by decide⟩
      · cases q with
        | zero => cases hq; rw [cell_of_row _ wc.heap.size 0 _ 9 (0, 0) (heap_alloc_new wc _)]; rfl
        | succ q => cases hq
    · have hpos : 0 < ws0.length := by cases ws0 with | nil => exact absurd rfl hz | cons a b => simp
      have hz0' : ((ws0.length : Int) == 0) = false := by rw [beq_eq_false_iff_ne]; omega
      rcases HO.out.2 with ⟨e, e2⟩ | ⟨g', cap', cur, hv, hg, hh, hcc, _, _, ht⟩
      · omega
      · cases hv
        have HC : Hid (∀ (q : Nat) (t : ByteArray), ws0[q]? = some t → wc.cell? ⟨g', q, none⟩ = some (.string t)) := fun q t hq => by
          rw [cell_of_row _ g' q cur 9 (0, 0) hh]
          have h0 : (cur.toList.take (ws0.length * 1))[q]? = some (.string t) := by rw [ht, List.getElem?_map, hq]; rfl
          rw [List.getElem?_take] at h0
          split at h0
          · simpa using h0
          · cases h0
        clear ht hh
        go_wp2_with fail
        go_meet
        exact ⟨p0, ws0, g', cap0, hz, hw60, hcc, rfl, rfl, HP0.out, HL0.out, HC.out, HB.out⟩
  case rest =>
  obtain ⟨p, ws, g, capl, hne, hw6, hwcap, rfl, rfl, HP, HL, HC, HB1⟩ := hcut
  have hps := HP.out.size HL.out
  clear HP0 HL0 HO HB HB0 hps0
  go_wp2_with fail
  have hcl := callL p s ws wc hne hw6 HL.out HP.out hs40
  refine hcl.mono ?_
  clear hcl
  rintro e v1 ⟨got, rfl, hgot, hBg⟩
  have HG : Hid (Got v1 got s ws) := hgot
  have HB2 : Hid (Below w.heap.size w v1) := HB1.out.trans (hBg.mono HB1.out.size)
  have HC2 : Hid (∀ (q : Nat) (t : ByteArray), ws[q]? = some t → v1.cell? ⟨g, q, none⟩ = some (.string t)) := fun q t hq => by
    have h0 := HC.out q t hq
    rw [← h0]
    exact World.cell?_of_block (hBg.block g (World.block_lt_of_cell? wc _ h0))
  clear hgot hBg HC HB1
  go_wp2_with fail
  go_loopw [12] (fun iv wr => ∃ i : Nat, i ≤ s.size + 1 ∧ iv = .int .i64 (i : Int) ∧ Hid (∀ i', i' < i → ∀ t ∈ ws, ¬ InAt s t i') ∧ wr = v1) (fun iv _ => s.size + 2 - (intOf iv).toNat)
  case atStart => exact ⟨0, Nat.zero_le _, rfl, (fun i' h => by omega), rfl⟩
  case round =>
    obtain ⟨i, hi, rfl, HN, rfl⟩ := hrel
    by_cases hlt : i ≤ s.size
    · go_wp2_with fail
      go_loopw [13, 14] (fun bv kv wx => ∃ (k : Nat) (best : Int), k ≤ ws.length ∧ bv = .int .i64 best ∧ kv = .int .i64 (k : Int) ∧ Hid (BestOf s ws i k best) ∧ wx = wr) (fun _ kv _ => ws.length + 1 - (intOf kv).toNat)
      case atStart => exact ⟨0, -1, Nat.zero_le _, rfl, rfl, .inl ⟨rfl, fun q t h => by omega⟩, rfl⟩
      case round =>
        obtain ⟨k, best, hk, rfl, rfl, HBo, rfl⟩ := hrel
        have hbr := HBo.out.range
        by_cases hlt2 : k < ws.length
        · obtain ⟨t, ht⟩ : ∃ t, ws[k]? = some t := ⟨_, List.getElem?_eq_getElem hlt2⟩
          have hcell := HC2.out k t ht
          have HT : Hid (ws[k]? = some t) := ht
          have hLt := HL.out t (List.mem_of_getElem? ht)
          have ht4 : t.size ≤ 4 := hLt.2.1
          clear ht hLt
          go_wp2_with fail
          have hca := at_any s t i wr (by omega) (by omega) (by omega)
          refine hca.mono ?_
          clear hca
          rintro e w9 ⟨q, rfl, hq, rfl⟩
          have HQ : Hid (q = true ↔ InAt s t i) := hq
          clear hq
          cases q with
          | true =>
            have HI : Hid (InAt s t i) := HQ.out.1 rfl
            clear HQ
            by_cases hm : best < (t.size : Int)
            · go_wp2_with fail
              go_roundw
              case rel => exact ⟨k + 1, _, hlt2, rfl, by go_num, HBo.out.more HT.out HI.out ht4 hm, by simp⟩
              case measure => simp [intOf]; omega
            · go_wp2_with fail
              go_roundw
              case rel => exact ⟨k + 1, _, hlt2, rfl, by go_num, HBo.out.less HT.out (by omega), by simp⟩
              case measure => simp [intOf]; omega
          | false =>
            have HI : Hid (¬ InAt s t i) := fun h => by cases HQ.out.2 h
            clear HQ
            go_wp2_with fail
            go_roundw
            case rel => exact ⟨k + 1, _, hlt2, rfl, by go_num, HBo.out.miss HT.out HI.out, by simp⟩
            case measure => simp [intOf]; omega
        · have hkk : k = ws.length := by omega
          subst hkk
          by_cases hb0 : 0 ≤ best
          · obtain ⟨m, rfl, hT⟩ := HBo.out.got hb0 HN.out HG.out
            obtain ⟨ob, rfl, c0, c1, c2, c3, lob⟩ := hT.cells
            rw [Int.natCast_add] at c1 c3
            clear hT HG
            go_wp2_with fail
            go_quiet (fail)
            go_wp2_with fail
            go_ret
            exact ⟨ret_bool (by simp), below_drewN (HB2.out.alloc HB2.out.size _) _⟩
          · have hbn := HBo.out.none (by omega)
            go_wp2_with fail
            go_roundw
            case rel =>
              refine ⟨i + 1, by omega, by go_num, fun i' hi' => ?_, by simp⟩
              rcases Nat.lt_or_ge i' i with h | h
              · exact HN.out i' h
              · obtain rfl : i' = i := by omega
                exact hbn
            case measure => simp [intOf]; omega
    · have hv := HG.out.nil (fun i' hi' => HN.out i' (by omega))
      subst hv
      have hd : decide ((i : Int) ≤ (s.size : Int)) = false := by simp; omega
      have n26 : ∀ (W : World), (binOp .eql 26 (.slice none 0 0) (.slice none 0 0)).run Try.prog W = .ok (.bool true) W := fun W => Lib.run_eql_slice_nil W _ _ none 0 0 0 0 Try.underlying26
      go_wp2_with fail
      go_ret
      exact ⟨rfl, HB2.out⟩
end Go.Proofs.Ytppjlpihaocdiaa
