/- Whether a record is the last one of its instance, step by step; plain facts; no dump. -/
import Derived.Test.YtpknkhgkejkpkaaGreatPx
namespace Go.Proofs.YtpknkhgkejkpkaaGreat
open Go.RowKit
/-- Of the j records behind the k-th one none is of its instance. -/
def noB (X : List Rv) (k j : Nat) : Bool := (((keysOf X).drop (k + 1)).take j).all fun q => decide (q ≠ (keysOf X).getD k (0, 0))
theorem noB_zero (X : List Rv) (k : Nat) : noB X k 0 = true := by simp [noB]
theorem noB_succ {X : List Rv} {k j : Nat} {x y : Rv} (hx : X[k]? = some x) (hy : X[k + 1 + j]? = some y) : noB X k (j + 1) = (noB X k j && !M.eq2 y.r.ir y.r.is x.r.ir x.r.is) := by
  have hk : (keysOf X).getD k (0, 0) = x.key := by rw [List.getD, keysOf_at hx]; rfl
  have hj : ((keysOf X).drop (k + 1))[j]? = some y.key := by rw [List.getElem?_drop]; exact keysOf_at hy
  unfold noB
  rw [hk, List.take_add_one, hj, Option.toList_some, List.all_append, List.all_cons, List.all_nil, Bool.and_true]
  congr 1
  unfold Rv.key M.eq2
  rw [← decide_not]
  exact decide_eq_decide.2 (by simp only [ne_eq, Prod.mk.injEq])
theorem noB_end {X : List Rv} {k n : Nat} (h : X.length = k + 1 + n) : noB X k n = lastB (keysOf X) k := by
  unfold noB lastB
  rw [List.take_of_length_le]
  rw [List.length_drop]
  unfold keysOf
  rw [List.length_map]
  omega
end Go.Proofs.YtpknkhgkejkpkaaGreat
