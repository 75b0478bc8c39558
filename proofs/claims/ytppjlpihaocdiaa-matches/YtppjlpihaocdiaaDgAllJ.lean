/- The document's gives at every node; the law Matches. -/
import Derived.Test.YtppjlpihaocdiaaDgDJ
import Derived.Test.YtppjlpihaocdiaaDgNJ
set_option linter.unusedSimpArgs false
set_option linter.unusedVariables false
namespace Go.Proofs.Ytppjlpihaocdiaa
namespace Dg
open Go.RowKit

theorem gives_all (p : Fp) (hG : Gd p.nodes) (hok : ∀ (n : Nat) (d : Nd), p.nodes[n]? = some d → NdOk d ∧ (d.kind = 3 → d.num < p.groups ∧ ∃ z, d.subs = [z]) ∧ d.lo ≤ 900) (hgr : p.groups ≤ 1000) : ∀ (N n : Nat), n < N → n < p.nodes.length → GivesAt p n
  | 0, n, h, _ => by omega
  | N + 1, n, h, hn => by
    have hd : p.nodes[n]? = some p.nodes[n] := List.getElem?_eq_getElem hn
    obtain ⟨hs, h6⟩ := hG.wf n _ hd
    obtain ⟨o1, o2, o3⟩ := hok n _ hd
    have hf : ∀ x, x < p.nodes.length → FromAt p x := fun x hx => from_all p hG.wf (fun n d hd => (hok n d hd).1) (x + 1) x (by omega) hx
    have hsub : ∀ x ∈ p.nodes[n].subs, x < p.nodes.length ∧ FromAt p x ∧ GivesAt p x := fun x hx => by
      have := hs x hx
      exact ⟨by omega, hf x (by omega), gives_all p hG hok hgr N x (by omega) (by omega)⟩
    have hk := o1.kind
    obtain h' | h' | h' | h' | h' | h' | h' : p.nodes[n].kind = 0 ∨ p.nodes[n].kind = 1 ∨ p.nodes[n].kind = 2 ∨ p.nodes[n].kind = 3 ∨ p.nodes[n].kind = 4 ∨ p.nodes[n].kind = 5 ∨ p.nodes[n].kind = 6 := by omega
    · exact gives_leaf p n _ hd (.inl h') hG.h3
    · exact gives_leaf p n _ hd (.inr (.inl h')) hG.h3
    · exact gives_leaf p n _ hd (.inr (.inr h')) hG.h3
    · obtain ⟨q1, z, q2⟩ := o2 h'
      exact gives_grp p n _ hd h' hG.h3 z q2 (hsub z (by rw [q2]; simp)).2.2 o1.subs q1 hgr
    · exact gives_alt p n _ hd h' hG.h3 hsub o1.subs
    · exact gives_row p n _ hd h' hG.h3 hsub o1.subs
    · have hne := h6 h'
      obtain ⟨x, hx⟩ : ∃ x, p.nodes[n].subs[0]? = some x := by
        cases hs : p.nodes[n].subs with
        | nil => exact absurd hs hne
        | cons a l => exact ⟨a, rfl⟩
      exact gives_times p n _ hd h' hG.h3 x hx (hsub x (List.mem_of_getElem? hx)) o1 o3

theorem all_give : AllGive := fun p hG hok hgr n hn => gives_all p hG hok hgr (n + 1) n (by omega) hn

theorem matches_true (pt s : ByteArray) (w : World) (hp : pt.size ≤ maxLen) (hs : s.size ≤ maxLen) :
    Calls Try.prog 4 #[.string pt, .string s] w fun e w' => e = .returned (.bool true) ∧ Below w.heap.size w w' := matches_any all_give pt s w hp hs
end Dg
end Go.Proofs.Ytppjlpihaocdiaa
