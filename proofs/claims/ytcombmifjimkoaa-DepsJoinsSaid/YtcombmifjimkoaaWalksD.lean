/- Contracts of awake and Count; no conditions. -/
import Derived.Test.YtcombmifjimkoaaWalksC
namespace Go.Proofs.Ytcombmifjimkoaa
open Go.RowKit
attribute [local go_sem ↓] run_max_mx run_min_mn run_same7 run_idx0 run_idx1 run_idx2 run_idx3 run_idx4 run_idx5 run_idx6

def M.f7 (x0 x1 x2 x3 x4 x5 x6 : Int) (k : Nat) : Int := if k = 0 then x0 else if k = 1 then x1 else if k = 2 then x2 else if k = 3 then x3 else if k = 4 then x4 else if k = 5 then x5 else x6

theorem join_ex (w : World) :
    Calls Try.prog 13 #[.agg #[.int .i64 3, .int .i64 0, .int .i64 1, .int .i64 0, .int .i64 0, .int .i64 0, .int .i64 0], .agg #[.int .i64 1, .int .i64 2, .int .i64 0, .int .i64 0, .int .i64 0, .int .i64 0, .int .i64 0]] w fun e w' => e = .returned (.agg #[.int .i64 3, .int .i64 2, .int .i64 1, .int .i64 0, .int .i64 0, .int .i64 0, .int .i64 0]) ∧ Below w.heap.size w w' := by
  have h := join_any (M.f7 3 0 1 0 0 0 0) (M.f7 1 2 0 0 0 0 0) w
  simp [M.f7, M.join, M.mx] at h
  exact h
theorem has_ex (w : World) :
    Calls Try.prog 11 #[.agg #[.int .i64 3, .int .i64 0, .int .i64 0, .int .i64 0, .int .i64 0, .int .i64 0, .int .i64 0], .agg #[.int .i64 0, .int .i64 2]] w fun e w' => e = .returned (.bool true) ∧ Below w.heap.size w w' := by
  have h := has_any (M.f7 3 0 0 0 0 0 0) 0 2 w
  simp [M.f7, M.has] at h
  exact h
theorem right_ex (w : World) :
    Calls Try.prog 9 #[.agg #[.int .i64 0, .int .i64 0, .int .i64 0, .int .i64 0, .int .i64 0, .int .i64 0, .int .i64 0]] w fun e w' => e = .returned (.bool true) ∧ Below w.heap.size w w' := by
  have h := right_any (M.f7 0 0 0 0 0 0 0) w
  rw [M.right_iff.2 (by simp [M.f7])] at h
  simp [M.f7] at h
  exact h
set_option maxHeartbeats 1000000 in
theorem awake_any (w : World) :
    Calls Try.prog 21 #[] w fun e w' => e = .returned (.bool true) ∧ Below w.heap.size w w' := by
  have hs : M.same7 3 2 1 0 0 0 0 3 2 1 0 0 0 0 = true := by decide
  go_enter Try.func21, Try.ntmps21
  go_wp2_with (fail)
  refine (join_ex _).mono ?_
  rintro e w1 ⟨rfl, hb⟩
  have H1 := Lib.hid hb
  clear hb
  go_wp2_with (fail)
  refine (has_ex _).mono ?_
  rintro e w2 ⟨rfl, hb⟩
  have H2 := Lib.hid (below_on H1.out hb)
  clear hb
  go_wp2_with (fail)
  refine (right_ex _).mono ?_
  rintro e w3 ⟨rfl, hb⟩
  have H3 := Lib.hid (below_on H2.out hb)
  clear hb
  go_wp2
  go_ret
  exact ⟨rfl, H3.out⟩
end Go.Proofs.Ytcombmifjimkoaa
