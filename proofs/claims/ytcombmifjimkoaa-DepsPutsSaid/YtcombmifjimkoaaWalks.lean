/- Contracts of deps' functions; no conditions. -/
import Derived.Test.YtcombmifjimkoaaRows
import Derived.Test.YtcombmifjimkoaaMath
import Derived.WalkKit
import Derived.WalkSpells
import Derived.Lib.Hide
import Derived.LoopN
namespace Go.Proofs.Ytcombmifjimkoaa
open Go.RowKit

theorem ret_int {k : IntKind} {a b : Int} (h : a = b) : Ending.returned (.int k a) = .returned (.int k b) := by rw [h]
theorem ret_bool {a b : Bool} (h : a = b) : Ending.returned (.bool a) = .returned (.bool b) := by rw [h]

theorem run_max_mx (P : Program) (w : World) (ts : Array TypeId) (t : TypeId) (x y : Int) : (Builtin.max_ ts t #[.int .i64 x, .int .i64 y]).run P w = .ok (.int .i64 (M.mx x y)) w := by
  simp [Builtin.max_, Builtin.max2, M.mx]
theorem run_min_mn (P : Program) (w : World) (ts : Array TypeId) (t : TypeId) (x y : Int) : (Builtin.min_ ts t #[.int .i64 x, .int .i64 y]).run P w = .ok (.int .i64 (M.mn x y)) w := by
  simp [Builtin.min_, Builtin.min2, M.mn]
theorem run_part3 (w : World) (cs : Array Value) (i : Nat) (v : Value) (h : cs[i]? = some v) : (part 3 cs i).run Try.prog w = .ok v w := by
  simp [part, isAgg, run_underlying Try.underlying3, h]
theorem run_same7' (d : Nat) (w : World) (x0 x1 x2 x3 x4 x5 x6 y0 y1 y2 y3 y4 y5 y6 : Int) : (Op.equalIn (d + 2) 23 (.agg #[.int .i64 x0, .int .i64 x1, .int .i64 x2, .int .i64 x3, .int .i64 x4, .int .i64 x5, .int .i64 x6]) (.agg #[.int .i64 y0, .int .i64 y1, .int .i64 y2, .int .i64 y3, .int .i64 y4, .int .i64 y5, .int .i64 y6])).run Try.prog w = .ok (M.same7 x0 x1 x2 x3 x4 x5 x6 y0 y1 y2 y3 y4 y5 y6) w := by
  have h3 : ∀ (w : World) (a b : Int), (Op.equalIn (d + 1) 3 (.int .i64 a) (.int .i64 b)).run Try.prog w = .ok (a == b) w := fun w a b => run_equalIn_int w d 3 .i64 .i64 a b Try.underlying3
  rw [Op.equalIn]
  simp [run_underlying Try.underlying23]
  rw [show List.range' 0 7 = [0, 1, 2, 3, 4, 5, 6] from rfl]
  by_cases e0 : x0 = y0
  · subst e0
    by_cases e1 : x1 = y1
    · subst e1
      by_cases e2 : x2 = y2
      · subst e2
        by_cases e3 : x3 = y3
        · subst e3
          by_cases e4 : x4 = y4
          · subst e4
            by_cases e5 : x5 = y5
            · subst e5
              by_cases e6 : x6 = y6
              · subst e6
                simp [List.forIn_cons, run_part3, h3, M.same7]
              · simp [List.forIn_cons, run_part3, h3, M.same7, e6]
            · simp [List.forIn_cons, run_part3, h3, M.same7, e5]
          · simp [List.forIn_cons, run_part3, h3, M.same7, e4]
        · simp [List.forIn_cons, run_part3, h3, M.same7, e3]
      · simp [List.forIn_cons, run_part3, h3, M.same7, e2]
    · simp [List.forIn_cons, run_part3, h3, M.same7, e1]
  · simp [List.forIn_cons, run_part3, h3, M.same7, e0]
theorem run_same7 (w : World) (x0 x1 x2 x3 x4 x5 x6 y0 y1 y2 y3 y4 y5 y6 : Int) : (Op.equalIn 10000 23 (.agg #[.int .i64 x0, .int .i64 x1, .int .i64 x2, .int .i64 x3, .int .i64 x4, .int .i64 x5, .int .i64 x6]) (.agg #[.int .i64 y0, .int .i64 y1, .int .i64 y2, .int .i64 y3, .int .i64 y4, .int .i64 y5, .int .i64 y6])).run Try.prog w = .ok (M.same7 x0 x1 x2 x3 x4 x5 x6 y0 y1 y2 y3 y4 y5 y6) w := run_same7' 9998 w x0 x1 x2 x3 x4 x5 x6 y0 y1 y2 y3 y4 y5 y6
theorem run_idx0 (w : World) (x0 x1 x2 x3 x4 x5 x6 : Int) : (Instr.index 23 (.agg #[.int .i64 x0, .int .i64 x1, .int .i64 x2, .int .i64 x3, .int .i64 x4, .int .i64 x5, .int .i64 x6]) (.int .i64 0)).run Try.prog w = .ok (.int .i64 x0) w := by kernel_rfl
theorem run_idx1 (w : World) (x0 x1 x2 x3 x4 x5 x6 : Int) : (Instr.index 23 (.agg #[.int .i64 x0, .int .i64 x1, .int .i64 x2, .int .i64 x3, .int .i64 x4, .int .i64 x5, .int .i64 x6]) (.int .i64 1)).run Try.prog w = .ok (.int .i64 x1) w := by kernel_rfl
theorem run_idx2 (w : World) (x0 x1 x2 x3 x4 x5 x6 : Int) : (Instr.index 23 (.agg #[.int .i64 x0, .int .i64 x1, .int .i64 x2, .int .i64 x3, .int .i64 x4, .int .i64 x5, .int .i64 x6]) (.int .i64 2)).run Try.prog w = .ok (.int .i64 x2) w := by kernel_rfl
theorem run_idx3 (w : World) (x0 x1 x2 x3 x4 x5 x6 : Int) : (Instr.index 23 (.agg #[.int .i64 x0, .int .i64 x1, .int .i64 x2, .int .i64 x3, .int .i64 x4, .int .i64 x5, .int .i64 x6]) (.int .i64 3)).run Try.prog w = .ok (.int .i64 x3) w := by kernel_rfl
theorem run_idx4 (w : World) (x0 x1 x2 x3 x4 x5 x6 : Int) : (Instr.index 23 (.agg #[.int .i64 x0, .int .i64 x1, .int .i64 x2, .int .i64 x3, .int .i64 x4, .int .i64 x5, .int .i64 x6]) (.int .i64 4)).run Try.prog w = .ok (.int .i64 x4) w := by kernel_rfl
theorem run_idx5 (w : World) (x0 x1 x2 x3 x4 x5 x6 : Int) : (Instr.index 23 (.agg #[.int .i64 x0, .int .i64 x1, .int .i64 x2, .int .i64 x3, .int .i64 x4, .int .i64 x5, .int .i64 x6]) (.int .i64 5)).run Try.prog w = .ok (.int .i64 x5) w := by kernel_rfl
theorem run_idx6 (w : World) (x0 x1 x2 x3 x4 x5 x6 : Int) : (Instr.index 23 (.agg #[.int .i64 x0, .int .i64 x1, .int .i64 x2, .int .i64 x3, .int .i64 x4, .int .i64 x5, .int .i64 x6]) (.int .i64 6)).run Try.prog w = .ok (.int .i64 x6) w := by kernel_rfl
attribute [local go_sem ↓] run_max_mx run_min_mn run_same7 run_idx0 run_idx1 run_idx2 run_idx3 run_idx4 run_idx5 run_idx6
/-- One stretch behind another. -/
theorem below_on {a b c : World} (h : Below a.heap.size a b) (k : Below b.heap.size b c) : Below a.heap.size a c := h.trans (k.mono h.size)
/-- A new block. -/
theorem below_new {a b : World} {o : Obj} (h : Below a.heap.size a b) : Below a.heap.size a (b.alloc o) := h.alloc h.size _
set_option maxHeartbeats 400000 in
theorem isReplica_any (k : Int) (w : World) :
    Calls Try.prog 25 #[.int .i64 k] w fun e w' => e = .returned (.bool (M.repB k)) ∧ w = w' := by
  by_cases h1 : 0 ≤ k
  · by_cases h2 : k ≤ 6
    · rw [show M.repB k = true by simp [M.repB, h1, h2]]
      have h3 : k < 7 := by omega
      go_enter Try.func25, Try.ntmps25
      go_wp2
      go_ret
      exact ⟨rfl, rfl⟩
    · rw [show M.repB k = false by simp [M.repB]; omega]
      have h3 : ¬ k < 7 := by omega
      go_enter Try.func25, Try.ntmps25
      go_wp2
      go_ret
      exact ⟨rfl, rfl⟩
  · rw [show M.repB k = false by simp [M.repB]; omega]
    go_enter Try.func25, Try.ntmps25
    go_wp2
    go_ret
    exact ⟨rfl, rfl⟩

set_option maxHeartbeats 4000000 in
theorem join_any (a b : Nat → Int) (w : World) :
    Calls Try.prog 13 #[.agg #[.int .i64 (a 0), .int .i64 (a 1), .int .i64 (a 2), .int .i64 (a 3), .int .i64 (a 4), .int .i64 (a 5), .int .i64 (a 6)], .agg #[.int .i64 (b 0), .int .i64 (b 1), .int .i64 (b 2), .int .i64 (b 3), .int .i64 (b 4), .int .i64 (b 5), .int .i64 (b 6)]] w fun e w' => e = .returned (.agg #[.int .i64 (M.join a b 0), .int .i64 (M.join a b 1), .int .i64 (M.join a b 2), .int .i64 (M.join a b 3), .int .i64 (M.join a b 4), .int .i64 (M.join a b 5), .int .i64 (M.join a b 6)]) ∧ Below w.heap.size w w' := by
  go_enter Try.func13, Try.ntmps13
  go_wp2
  refine wp_loop_rounds 8 ?_
  rw [rounds_succ]
  go_wp2
  rw [rounds_succ]
  go_wp2
  rw [rounds_succ]
  go_wp2
  rw [rounds_succ]
  go_wp2
  rw [rounds_succ]
  go_wp2
  rw [rounds_succ]
  go_wp2
  rw [rounds_succ]
  go_wp2
  rw [rounds_succ]
  go_wp2
  exact bodyPost_ret (v := .agg #[.int .i64 (M.join a b 0), .int .i64 (M.join a b 1), .int .i64 (M.join a b 2), .int .i64 (M.join a b 3), .int .i64 (M.join a b 4), .int .i64 (M.join a b 5), .int .i64 (M.join a b 6)]) (by simp [results, Try.results13, go_sem]; exact ⟨rfl, rfl, rfl, rfl, rfl, rfl, rfl⟩) rfl ⟨rfl, below_new (below_new (below_new (Below.refl _ _)))⟩

set_option maxHeartbeats 4000000 in
theorem whole_any (w : World) :
    Calls Try.prog 24 #[] w fun e w' => e = .returned (.agg #[.int .i64 (M.wf 0), .int .i64 (M.wf 1), .int .i64 (M.wf 2), .int .i64 (M.wf 3), .int .i64 (M.wf 4), .int .i64 (M.wf 5), .int .i64 (M.wf 6)]) ∧ Below w.heap.size w w' := by
  go_enter Try.func24, Try.ntmps24
  go_wp2
  refine wp_loop_rounds 8 ?_
  rw [rounds_succ]
  go_wp2
  rw [rounds_succ]
  go_wp2
  rw [rounds_succ]
  go_wp2
  rw [rounds_succ]
  go_wp2
  rw [rounds_succ]
  go_wp2
  rw [rounds_succ]
  go_wp2
  rw [rounds_succ]
  go_wp2
  rw [rounds_succ]
  go_wp2
  exact bodyPost_ret (v := .agg #[.int .i64 (M.wf 0), .int .i64 (M.wf 1), .int .i64 (M.wf 2), .int .i64 (M.wf 3), .int .i64 (M.wf 4), .int .i64 (M.wf 5), .int .i64 (M.wf 6)]) (by simp [results, Try.results24, go_sem, M.wf]) rfl ⟨rfl, below_new (below_new (Below.refl _ _))⟩
end Go.Proofs.Ytcombmifjimkoaa
