/- Contract of the document's Right at any command; no conditions but the lengths that it names. -/
import Derived.Test.YtagngbdlpdilnaaCmdsW
import Derived.Test.YtagngbdlpdilnaaCmdsX
namespace Go.Proofs.Ytagngbdlpdilnaa
open Go.ChangeShapes Go.WideShapes Go.ChangeAt Go.RowKit
attribute [local go_sem ↓] run_same_rd run_same_wr run_same_txn run_same_stamp

set_option maxHeartbeats 4000000 in
set_option maxRecDepth 100000 in
theorem dright_com {w : World} (c : M.Cmd) {va vb : Value} (hk : c.k = 1) (hcm : c.cm = true) : Calls Try.prog 19 #[.agg #[.int .i64 c.k, .int .i64 c.tc, .int .i64 c.tn, .int .i64 c.tt, .int .i64 c.tk, .int .i64 c.sh, va, vb, .bool c.cm]] w fun e w' => e = .returned (.bool (M.rightC c)) ∧ Below w.heap.size w w' := by
  have B0 := Lib.hid (below_new (o := .cells #[.int .i64 c.k, .int .i64 c.tc, .int .i64 c.tn, .int .i64 c.tt, .int .i64 c.tk, .int .i64 c.sh, va, vb, .bool c.cm] 33) (Below.refl w.heap.size w))
  have HR := Lib.hid (show M.rightC c = false by unfold M.rightC; rw [if_neg (by omega), if_pos hk, hcm]; simp)
  obtain ⟨q0, q0'⟩ := neI (show ¬ c.k = 0 by omega)
  obtain ⟨q1, q1'⟩ := eqI hk
  obtain ⟨q2, q2'⟩ := neI (show ¬ c.k = 2 by omega)
  rw [hcm] at B0
  clear hk
  go_enter Try.func19, Try.ntmps19
  go_wp2
  go_ret
  exact ⟨ret_bool HR.out.symm, B0.out⟩

set_option maxHeartbeats 4000000 in
set_option maxRecDepth 100000 in
theorem dright_oth {w : World} (c : M.Cmd) {va vb : Value} (h0 : ¬ c.k = 0) (h1 : ¬ c.k = 1) (h2 : ¬ c.k = 2) : Calls Try.prog 19 #[.agg #[.int .i64 c.k, .int .i64 c.tc, .int .i64 c.tn, .int .i64 c.tt, .int .i64 c.tk, .int .i64 c.sh, va, vb, .bool c.cm]] w fun e w' => e = .returned (.bool (M.rightC c)) ∧ Below w.heap.size w w' := by
  have B0 := Lib.hid (below_new (o := .cells #[.int .i64 c.k, .int .i64 c.tc, .int .i64 c.tn, .int .i64 c.tt, .int .i64 c.tk, .int .i64 c.sh, va, vb, .bool c.cm] 33) (Below.refl w.heap.size w))
  have HR := Lib.hid (show M.rightC c = false by unfold M.rightC; rw [if_neg h0, if_neg h1, if_neg h2])
  obtain ⟨q0, q0'⟩ := neI h0
  obtain ⟨q1, q1'⟩ := neI h1
  obtain ⟨q2, q2'⟩ := neI h2
  clear h0 h1 h2
  go_enter Try.func19, Try.ntmps19
  go_wp2
  go_ret
  exact ⟨ret_bool HR.out.symm, B0.out⟩

theorem drightC {w : World} (c : M.Cmd) {va vb : Value} (h : Rds w va c.rs) (h' : Wrs w vb c.ws) (F : M.Mod c) : Calls Try.prog 19 #[.agg #[.int .i64 c.k, .int .i64 c.tc, .int .i64 c.tn, .int .i64 c.tt, .int .i64 c.tk, .int .i64 c.sh, va, vb, .bool c.cm]] w fun e w' => e = .returned (.bool (M.rightC c)) ∧ Below w.heap.size w w' := by
  by_cases h0 : c.k = 0
  · exact dright_noop c h h' h0
  · by_cases h1 : c.k = 1
    · rcases two c.cm with e | e
      · exact dright_com c h1 e
      · exact dright_one c h h' F h1 e
    · by_cases h2 : c.k = 2
      · exact dright_two c h h' F h2
      · exact dright_oth c h0 h1 h2
end Go.Proofs.Ytagngbdlpdilnaa
