/- Plain facts on joined lists; no conditions. -/
import Derived.Test.YtacieiddhkkahaaWalksM
namespace Go.Proofs.Ytacieiddhkkahaa
open Go.ChangeShapes Go.WideShapes Go.ChangeAt Go.RowKit

theorem in_s {w : World} {v : Value} {ss : List (List UInt8)} (s : ByteArray) (h : Words w v ss) (hl : ss.length ≤ 1000) : Calls Try.prog 40 #[v, .string s] w fun e w' => e = .returned (.bool (M.inB ss s.data.toList)) ∧ w = w' := by
  have := in_any (v := v) s.data.toList h hl
  have e : (⟨s.data.toList.toArray⟩ : ByteArray) = s := by cases s; simp
  rw [e] at this
  exact this
namespace M
theorem asc_at {l : List (List UInt8)} (h : Asc l) {j : Nat} (hj : j + 1 < l.length) : ltB (l.getD j []) (l.getD (j + 1) []) = true := by
  rw [ltB_iff, List.getD, List.getD, List.getElem?_eq_getElem (by omega), List.getElem?_eq_getElem hj]
  exact (List.pairwise_iff_getElem.1 h) j (j + 1) (by omega) hj (by omega)
theorem join_le {ss ts : List (List UInt8)} {n : Nat} (h : ∀ x ∈ ss, x.length ≤ n) (h' : ∀ x ∈ ts, x.length ≤ n) : ∀ x ∈ join ss ts, x.length ≤ n := fun x hx => by
  rcases (join_mem ss ts x).1 hx with hx | hx
  · exact h x hx
  · exact h' x hx
theorem inB_join (ss ts : List (List UInt8)) (x : List UInt8) : inB (join ss ts) x = (inB ss x || inB ts x) := by
  rw [Bool.eq_iff_iff, Bool.or_eq_true, inB_iff, inB_iff, inB_iff, join_mem]
end M
attribute [local go_sem ↓] run_geq_str

end Go.Proofs.Ytacieiddhkkahaa
