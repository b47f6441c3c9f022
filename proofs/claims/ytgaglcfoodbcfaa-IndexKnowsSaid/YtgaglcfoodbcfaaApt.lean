/- Contract of apart: the commands of a row of one's own get memory of their own; no conditions but those that it names. -/
import Derived.Test.YtgaglcfoodbcfaaOwn
namespace Go.Proofs.Ytgaglcfoodbcfaa
open Go.ChangeShapes Go.WideShapes Go.ChangeAt Go.RowKit

theorem own_puts_mid {w : World} {base t k g n c : Nat} {P Z L S : List Value} (h : w.ownsRow base t k (.slice (some ⟨g, 0, none⟩) n c) n (P ++ Z ++ S)) (hl : Z.length = L.length) : (w.setCells g P.length L).ownsRow base t k (.slice (some ⟨g, 0, none⟩) n c) n (P ++ L ++ S) := by
  obtain ⟨h1, h2⟩ := h
  rcases h2 with ⟨e, _⟩ | ⟨g', cap, cur, e, hb, hg, hn, hm, hs, ht⟩
  · cases e
  · simp only [Value.slice.injEq, Option.some.injEq, Addr.mk.injEq, and_true, true_and] at e
    obtain ⟨rfl, rfl⟩ := e
    have hr : cur.toList = P ++ Z ++ (S ++ cur.toList.drop (n * k)) := by
      rw [← List.append_assoc, ← ht]; exact (List.take_append_drop _ _).symm
    have hH : Hold w g t (P ++ Z ++ (S ++ cur.toList.drop (n * k))) := by unfold Hold; rw [← hr, Array.toArray_toList]; exact hg
    have hs' := Hold.set L P Z _ hl w hH
    have h1' : (P ++ L ++ S).length = n * k := by simp only [List.length_append] at h1 ⊢; omega
    refine ⟨h1', .inr ⟨g, c, (P ++ L ++ (S ++ cur.toList.drop (n * k))).toArray, rfl, hb, hs', hn, hm, ?_, ?_⟩⟩
    · have := congrArg List.length hr
      rw [Array.length_toList, hs] at this
      rw [List.size_toArray]
      simp only [List.length_append] at this ⊢
      omega
    · show (P ++ L ++ (S ++ cur.toList.drop (n * k))).take (n * k) = _
      rw [← List.append_assoc, ← h1', List.take_left']
      rfl
theorem flat_split {Z : List Rv} {k : Nat} {z : Rv} (h : Z[k]? = some z) : Z.flatMap Rv.cells = (Z.take k).flatMap Rv.cells ++ z.cells ++ (Z.drop (k + 1)).flatMap Rv.cells := by
  have hk := (List.getElem?_eq_some_iff.1 h).1
  have e : Z = Z.take k ++ z :: Z.drop (k + 1) := by
    have h2 : Z.drop k = z :: Z.drop (k + 1) := by
      rw [List.drop_eq_getElem_cons hk]
      congr 1
      exact (List.getElem?_eq_some_iff.1 h).2
    rw [← h2]; exact (List.take_append_drop k Z).symm
  conv => lhs; rw [e]
  rw [List.flatMap_append, List.flatMap_cons, List.append_assoc]
theorem flat_set {Z : List Rv} {k : Nat} {z : Rv} (hk : k < Z.length) : (Z.set k z).flatMap Rv.cells = (Z.take k).flatMap Rv.cells ++ z.cells ++ (Z.drop (k + 1)).flatMap Rv.cells := by
  rw [List.set_eq_take_append_cons_drop, if_pos hk, List.flatMap_append, List.flatMap_cons, List.append_assoc]
theorem flat_take_len (Z : List Rv) (k : Nat) (hk : k ≤ Z.length) : ((Z.take k).flatMap Rv.cells).length = k * 25 := by
  rw [flat_len, List.length_take, Nat.min_eq_left hk]
theorem rcs_set {Z : List Rv} {k : Nat} {z x : Rv} (h : Z[k]? = some x) (e : z.r = x.r) : rcs (Z.set k z) = rcs Z := by
  unfold rcs
  rw [List.map_set, e]
  apply List.ext_getElem?
  intro j
  by_cases hj : k = j
  · subst hj
    have hk := (List.getElem?_eq_some_iff.1 h).1
    rw [List.getElem?_set_self (by simpa using hk), List.getElem?_map, h]; rfl
  · rw [List.getElem?_set_ne hj]
end Go.Proofs.Ytgaglcfoodbcfaa
