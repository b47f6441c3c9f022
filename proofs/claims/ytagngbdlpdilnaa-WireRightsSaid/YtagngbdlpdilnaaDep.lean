/- Contracts of deps.Right and of the document's; no conditions. -/
import Derived.Test.YtagngbdlpdilnaaAfter
import Derived.LoopN
import Derived.LoopTactic
import Derived.Deep.LoopGhost
namespace Go.Proofs.Ytagngbdlpdilnaa
open Go.RowKit

namespace V7
/-- The greater one, the lesser one. -/
def mx (x y : Int) : Int := if y > x then y else x
def mn (x y : Int) : Int := if y < x then y else x
/-- Seven and seven are the same. -/
def same7 (x0 x1 x2 x3 x4 x5 x6 y0 y1 y2 y3 y4 y5 y6 : Int) : Bool := decide (x0 = y0 ∧ x1 = y1 ∧ x2 = y2 ∧ x3 = y3 ∧ x4 = y4 ∧ x5 = y5 ∧ x6 = y6)
theorem same7_iff {x0 x1 x2 x3 x4 x5 x6 y0 y1 y2 y3 y4 y5 y6 : Int} : same7 x0 x1 x2 x3 x4 x5 x6 y0 y1 y2 y3 y4 y5 y6 = true ↔ x0 = y0 ∧ x1 = y1 ∧ x2 = y2 ∧ x3 = y3 ∧ x4 = y4 ∧ x5 = y5 ∧ x6 = y6 := by simp [same7]
theorem same7_self (x0 x1 x2 x3 x4 x5 x6 : Int) : same7 x0 x1 x2 x3 x4 x5 x6 x0 x1 x2 x3 x4 x5 x6 = true := by simp [same7]
/-- What is joined. -/
def join (a b : Nat → Int) (k : Nat) : Int := mx (a k) (b k)
def same (a b : Nat → Int) : Bool := same7 (a 0) (a 1) (a 2) (a 3) (a 4) (a 5) (a 6) (b 0) (b 1) (b 2) (b 3) (b 4) (b 5) (b 6)
def over (a b : Nat → Int) : Bool := same (join a b) a
def repB (r : Int) : Bool := decide (0 ≤ r ∧ r ≤ 6)
def has (a : Nat → Int) (r s : Int) : Bool := decide ((0 ≤ r ∧ r ≤ 6) ∧ 1 ≤ s ∧ s ≤ a r.toNat)
def wit (a : Nat → Int) (r s : Int) (k : Nat) : Int := if r = k then mx (a k) s else a k
def out (a : Nat → Int) (r s : Int) (k : Nat) : Int := if r = k ∧ 1 ≤ s then mn (a k) (s - 1) else a k
def zf (_ : Nat) : Int := 0
def wf (_ : Nat) : Int := 1048576
def right (a : Nat → Int) : Bool := over a zf && over wf a
theorem seven {k : Nat} (h : k < 7) : k = 0 ∨ k = 1 ∨ k = 2 ∨ k = 3 ∨ k = 4 ∨ k = 5 ∨ k = 6 := by omega
theorem all7 {p : Nat → Prop} : (∀ k, k < 7 → p k) ↔ p 0 ∧ p 1 ∧ p 2 ∧ p 3 ∧ p 4 ∧ p 5 ∧ p 6 :=
  ⟨fun h => ⟨h 0 (by omega), h 1 (by omega), h 2 (by omega), h 3 (by omega), h 4 (by omega), h 5 (by omega), h 6 (by omega)⟩, fun h k hk => by
    obtain ⟨h0, h1, h2, h3, h4, h5, h6⟩ := h
    rcases seven hk with rfl | rfl | rfl | rfl | rfl | rfl | rfl <;> assumption⟩
theorem same_iff {a b : Nat → Int} : same a b = true ↔ ∀ k, k < 7 → a k = b k := by
  rw [all7 (p := fun k => a k = b k)]
  exact same7_iff
theorem over_iff {a b : Nat → Int} : over a b = true ↔ ∀ k, k < 7 → b k ≤ a k := by
  unfold over
  rw [same_iff]
  refine forall_congr' fun k => imp_congr_right fun _ => ?_
  unfold join mx
  split <;> omega
theorem right_iff {a : Nat → Int} : right a = true ↔ ∀ k, k < 7 → 0 ≤ a k ∧ a k ≤ 1048576 := by
  rw [right, Bool.and_eq_true, over_iff, over_iff]
  exact ⟨fun h k hk => ⟨h.1 k hk, h.2 k hk⟩, fun h => ⟨fun k hk => (h k hk).1, fun k hk => (h k hk).2⟩⟩
theorem has_iff {a : Nat → Int} {r s : Int} : has a r s = true ↔ (0 ≤ r ∧ r ≤ 6) ∧ 1 ≤ s ∧ s ≤ a r.toNat := by simp [has]
theorem rep_iff {r : Int} : repB r = true ↔ 0 ≤ r ∧ r ≤ 6 := by simp [repB]
theorem rep_nat {r : Int} (h : repB r = true) : ∃ k : Nat, k < 7 ∧ r = k := by
  have := rep_iff.1 h
  exact ⟨r.toNat, by omega, by omega⟩
theorem wit_none {a : Nat → Int} {r s : Int} (h : repB r = false) : ∀ k : Nat, k < 7 → wit a r s k = a k := fun k hk => by
  have h' : ¬ (0 ≤ r ∧ r ≤ 6) := fun g => by rw [rep_iff.2 g] at h; cases h
  unfold wit; rw [if_neg (by omega)]
theorem out_none {a : Nat → Int} {r s : Int} (h : repB r = false) : ∀ k : Nat, k < 7 → out a r s k = a k := fun k hk => by
  have h' : ¬ (0 ≤ r ∧ r ≤ 6) := fun g => by rw [rep_iff.2 g] at h; cases h
  unfold out; rw [if_neg (by omega)]
theorem out_low {a : Nat → Int} {r s : Int} (h : ¬ 1 ≤ s) : ∀ k : Nat, k < 7 → out a r s k = a k := fun k _ => by
  unfold out; rw [if_neg (by omega)]
theorem has_none {a : Nat → Int} {r s : Int} (h : repB r = false) : has a r s = false := by
  have h' : ¬ (0 ≤ r ∧ r ≤ 6) := fun g => by rw [rep_iff.2 g] at h; cases h
  simp [has, h']
theorem has_low {a : Nat → Int} {r s : Int} (h : ¬ 1 ≤ s) : has a r s = false := by simp [has, h]
theorem has_at {a : Nat → Int} {k : Nat} {s : Int} (hk : k < 7) (h : 1 ≤ s) : has a k s = decide (s ≤ a k) := by
  unfold has
  have : (k : Int).toNat = k := by omega
  rw [this]
  simp [h]
  omega
end V7
theorem run_max_mx (P : Program) (w : World) (ts : Array TypeId) (t : TypeId) (x y : Int) : (Builtin.max_ ts t #[.int .i64 x, .int .i64 y]).run P w = .ok (.int .i64 (V7.mx x y)) w := by
  simp [Builtin.max_, Builtin.max2, V7.mx]
theorem run_part3 (w : World) (cs : Array Value) (i : Nat) (v : Value) (h : cs[i]? = some v) : (part 3 cs i).run Try.prog w = .ok v w := by
  simp [part, isAgg, run_underlying Try.underlying3, h]
theorem run_same7' (d : Nat) (w : World) (x0 x1 x2 x3 x4 x5 x6 y0 y1 y2 y3 y4 y5 y6 : Int) : (Op.equalIn (d + 2) 35 (.agg #[.int .i64 x0, .int .i64 x1, .int .i64 x2, .int .i64 x3, .int .i64 x4, .int .i64 x5, .int .i64 x6]) (.agg #[.int .i64 y0, .int .i64 y1, .int .i64 y2, .int .i64 y3, .int .i64 y4, .int .i64 y5, .int .i64 y6])).run Try.prog w = .ok (V7.same7 x0 x1 x2 x3 x4 x5 x6 y0 y1 y2 y3 y4 y5 y6) w := by
  have h3 : ∀ (w : World) (a b : Int), (Op.equalIn (d + 1) 3 (.int .i64 a) (.int .i64 b)).run Try.prog w = .ok (a == b) w := fun w a b => run_equalIn_int w d 3 .i64 .i64 a b Try.underlying3
  rw [Op.equalIn]
  simp [run_underlying Try.underlying35]
  rw [show List.range' 0 7 = [0, 1, 2, 3, 4, 5, 6] from rfl]
  by_cases e0 : x0 = y0
  · subst e0
    by_cases e1 : x1 = y1
    · subst e1
      by_cases e2 : x2 = y2
      · subst e2
        by_cases e3 : x3 = y3
        · subst e3
          by_cases e4 : x4 = y4
          · subst e4
            by_cases e5 : x5 = y5
            · subst e5
              by_cases e6 : x6 = y6
              · subst e6
                simp [List.forIn_cons, run_part3, h3, V7.same7]
              · simp [List.forIn_cons, run_part3, h3, V7.same7, e6]
            · simp [List.forIn_cons, run_part3, h3, V7.same7, e5]
          · simp [List.forIn_cons, run_part3, h3, V7.same7, e4]
        · simp [List.forIn_cons, run_part3, h3, V7.same7, e3]
      · simp [List.forIn_cons, run_part3, h3, V7.same7, e2]
    · simp [List.forIn_cons, run_part3, h3, V7.same7, e1]
  · simp [List.forIn_cons, run_part3, h3, V7.same7, e0]
theorem run_same7 (w : World) (x0 x1 x2 x3 x4 x5 x6 y0 y1 y2 y3 y4 y5 y6 : Int) : (Op.equalIn 10000 35 (.agg #[.int .i64 x0, .int .i64 x1, .int .i64 x2, .int .i64 x3, .int .i64 x4, .int .i64 x5, .int .i64 x6]) (.agg #[.int .i64 y0, .int .i64 y1, .int .i64 y2, .int .i64 y3, .int .i64 y4, .int .i64 y5, .int .i64 y6])).run Try.prog w = .ok (V7.same7 x0 x1 x2 x3 x4 x5 x6 y0 y1 y2 y3 y4 y5 y6) w := run_same7' 9998 w x0 x1 x2 x3 x4 x5 x6 y0 y1 y2 y3 y4 y5 y6
theorem run_idx0 (w : World) (x0 x1 x2 x3 x4 x5 x6 : Int) : (Instr.index 35 (.agg #[.int .i64 x0, .int .i64 x1, .int .i64 x2, .int .i64 x3, .int .i64 x4, .int .i64 x5, .int .i64 x6]) (.int .i64 0)).run Try.prog w = .ok (.int .i64 x0) w := by kernel_rfl
theorem run_idx1 (w : World) (x0 x1 x2 x3 x4 x5 x6 : Int) : (Instr.index 35 (.agg #[.int .i64 x0, .int .i64 x1, .int .i64 x2, .int .i64 x3, .int .i64 x4, .int .i64 x5, .int .i64 x6]) (.int .i64 1)).run Try.prog w = .ok (.int .i64 x1) w := by kernel_rfl
theorem run_idx2 (w : World) (x0 x1 x2 x3 x4 x5 x6 : Int) : (Instr.index 35 (.agg #[.int .i64 x0, .int .i64 x1, .int .i64 x2, .int .i64 x3, .int .i64 x4, .int .i64 x5, .int .i64 x6]) (.int .i64 2)).run Try.prog w = .ok (.int .i64 x2) w := by kernel_rfl
theorem run_idx3 (w : World) (x0 x1 x2 x3 x4 x5 x6 : Int) : (Instr.index 35 (.agg #[.int .i64 x0, .int .i64 x1, .int .i64 x2, .int .i64 x3, .int .i64 x4, .int .i64 x5, .int .i64 x6]) (.int .i64 3)).run Try.prog w = .ok (.int .i64 x3) w := by kernel_rfl
theorem run_idx4 (w : World) (x0 x1 x2 x3 x4 x5 x6 : Int) : (Instr.index 35 (.agg #[.int .i64 x0, .int .i64 x1, .int .i64 x2, .int .i64 x3, .int .i64 x4, .int .i64 x5, .int .i64 x6]) (.int .i64 4)).run Try.prog w = .ok (.int .i64 x4) w := by kernel_rfl
theorem run_idx5 (w : World) (x0 x1 x2 x3 x4 x5 x6 : Int) : (Instr.index 35 (.agg #[.int .i64 x0, .int .i64 x1, .int .i64 x2, .int .i64 x3, .int .i64 x4, .int .i64 x5, .int .i64 x6]) (.int .i64 5)).run Try.prog w = .ok (.int .i64 x5) w := by kernel_rfl
theorem run_idx6 (w : World) (x0 x1 x2 x3 x4 x5 x6 : Int) : (Instr.index 35 (.agg #[.int .i64 x0, .int .i64 x1, .int .i64 x2, .int .i64 x3, .int .i64 x4, .int .i64 x5, .int .i64 x6]) (.int .i64 6)).run Try.prog w = .ok (.int .i64 x6) w := by kernel_rfl
attribute [local go_sem ↓] run_max_mx run_same7 run_idx0 run_idx1 run_idx2 run_idx3 run_idx4 run_idx5 run_idx6
/-- A box of seven numbers. -/
theorem cell7 (w : World) (f : Nat → Int) (k : Nat) (h : k < 7) : (w.alloc (.cells #[.int .i64 (f 0), .int .i64 (f 1), .int .i64 (f 2), .int .i64 (f 3), .int .i64 (f 4), .int .i64 (f 5), .int .i64 (f 6)] 35)).cell? ⟨w.heap.size, k, none⟩ = some (.int .i64 (f k)) := by
  rcases V7.seven h with rfl | rfl | rfl | rfl | rfl | rfl | rfl <;> simp

set_option maxRecDepth 100000 in
set_option maxHeartbeats 4000000 in
theorem djoin7_any (a b : Nat → Int) (w : World) :
    Calls Try.prog 92 #[.agg #[.int .i64 (a 0), .int .i64 (a 1), .int .i64 (a 2), .int .i64 (a 3), .int .i64 (a 4), .int .i64 (a 5), .int .i64 (a 6)], .agg #[.int .i64 (b 0), .int .i64 (b 1), .int .i64 (b 2), .int .i64 (b 3), .int .i64 (b 4), .int .i64 (b 5), .int .i64 (b 6)]] w fun e w' => e = .returned (.agg #[.int .i64 (V7.join a b 0), .int .i64 (V7.join a b 1), .int .i64 (V7.join a b 2), .int .i64 (V7.join a b 3), .int .i64 (V7.join a b 4), .int .i64 (V7.join a b 5), .int .i64 (V7.join a b 6)]) ∧ Below w.heap.size w w' := by
  go_enter Try.func92, Try.ntmps92
  go_wp2
  refine wp_loop_rounds 8 ?_
  rw [rounds_succ]
  go_wp2
  rw [rounds_succ]
  go_wp2
  rw [rounds_succ]
  go_wp2
  rw [rounds_succ]
  go_wp2
  rw [rounds_succ]
  go_wp2
  rw [rounds_succ]
  go_wp2
  rw [rounds_succ]
  go_wp2
  rw [rounds_succ]
  go_wp2
  exact bodyPost_ret (v := .agg #[.int .i64 (V7.join a b 0), .int .i64 (V7.join a b 1), .int .i64 (V7.join a b 2), .int .i64 (V7.join a b 3), .int .i64 (V7.join a b 4), .int .i64 (V7.join a b 5), .int .i64 (V7.join a b 6)]) (by simp [results, Try.results92, go_sem]; exact ⟨rfl, rfl, rfl, rfl, rfl, rfl, rfl⟩) rfl ⟨rfl, below_new (below_new (below_new (Below.refl _ _)))⟩

set_option maxRecDepth 100000 in
set_option maxHeartbeats 4000000 in
theorem whole_any (w : World) :
    Calls Try.prog 70 #[] w fun e w' => e = .returned (.agg #[.int .i64 (V7.wf 0), .int .i64 (V7.wf 1), .int .i64 (V7.wf 2), .int .i64 (V7.wf 3), .int .i64 (V7.wf 4), .int .i64 (V7.wf 5), .int .i64 (V7.wf 6)]) ∧ Below w.heap.size w w' := by
  go_enter Try.func70, Try.ntmps70
  go_wp2
  refine wp_loop_rounds 8 ?_
  rw [rounds_succ]
  go_wp2
  rw [rounds_succ]
  go_wp2
  rw [rounds_succ]
  go_wp2
  rw [rounds_succ]
  go_wp2
  rw [rounds_succ]
  go_wp2
  rw [rounds_succ]
  go_wp2
  rw [rounds_succ]
  go_wp2
  rw [rounds_succ]
  go_wp2
  exact bodyPost_ret (v := .agg #[.int .i64 (V7.wf 0), .int .i64 (V7.wf 1), .int .i64 (V7.wf 2), .int .i64 (V7.wf 3), .int .i64 (V7.wf 4), .int .i64 (V7.wf 5), .int .i64 (V7.wf 6)]) (by simp [results, Try.results70, go_sem, V7.wf]) rfl ⟨rfl, below_new (below_new (Below.refl _ _))⟩
set_option maxRecDepth 100000 in
set_option maxHeartbeats 1000000 in
theorem over_any (a b : Nat → Int) (w : World) :
    Calls Try.prog 69 #[.agg #[.int .i64 (a 0), .int .i64 (a 1), .int .i64 (a 2), .int .i64 (a 3), .int .i64 (a 4), .int .i64 (a 5), .int .i64 (a 6)], .agg #[.int .i64 (b 0), .int .i64 (b 1), .int .i64 (b 2), .int .i64 (b 3), .int .i64 (b 4), .int .i64 (b 5), .int .i64 (b 6)]] w fun e w' => e = .returned (.bool (V7.over a b)) ∧ Below w.heap.size w w' := by
  go_enter Try.func69, Try.ntmps69
  go_wp2_with (fail)
  have HB := Lib.hid (show Below w.heap.size w ((w.alloc (.cells #[.int .i64 (a 0), .int .i64 (a 1), .int .i64 (a 2), .int .i64 (a 3), .int .i64 (a 4), .int .i64 (a 5), .int .i64 (a 6)] 35)).alloc (.cells #[.int .i64 (b 0), .int .i64 (b 1), .int .i64 (b 2), .int .i64 (b 3), .int .i64 (b 4), .int .i64 (b 5), .int .i64 (b 6)] 35)) from below_new (below_new (Below.refl _ _)))
  refine wp_region_after (by kernel_rfl) (by kernel_rfl) ?_
  have hx := @After.cell ((w.alloc (.cells #[.int .i64 (a 0), .int .i64 (a 1), .int .i64 (a 2), .int .i64 (a 3), .int .i64 (a 4), .int .i64 (a 5), .int .i64 (a 6)] 35)).alloc (.cells #[.int .i64 (b 0), .int .i64 (b 1), .int .i64 (b 2), .int .i64 (b 3), .int .i64 (b 4), .int .i64 (b 5), .int .i64 (b 6)] 35))
  repeat (go_big_quiet_step (first | (go_at_call 92; exact Calls.after_of (djoin7_any _ _ _))))
  refine wpQuiet_nil ?_
  rintro _ ⟨x, rfl⟩
  go_wp2
  go_ret
  exact ⟨rfl, below_on HB.out x.below⟩



theorem over_zero (a : Nat → Int) (w : World) :
    Calls Try.prog 69 #[.agg #[.int .i64 (a 0), .int .i64 (a 1), .int .i64 (a 2), .int .i64 (a 3), .int .i64 (a 4), .int .i64 (a 5), .int .i64 (a 6)], .agg #[.int .i64 0, .int .i64 0, .int .i64 0, .int .i64 0, .int .i64 0, .int .i64 0, .int .i64 0]] w fun e w' => e = .returned (.bool (V7.over a V7.zf)) ∧ Below w.heap.size w w' := by
  have h := over_any a V7.zf w
  simp only [V7.zf] at h
  exact h
theorem over_wf (a : Nat → Int) (w : World) :
    Calls Try.prog 69 #[.agg #[.int .i64 (V7.wf 0), .int .i64 (V7.wf 1), .int .i64 (V7.wf 2), .int .i64 (V7.wf 3), .int .i64 (V7.wf 4), .int .i64 (V7.wf 5), .int .i64 (V7.wf 6)], .agg #[.int .i64 (a 0), .int .i64 (a 1), .int .i64 (a 2), .int .i64 (a 3), .int .i64 (a 4), .int .i64 (a 5), .int .i64 (a 6)]] w fun e w' => e = .returned (.bool (V7.over V7.wf a)) ∧ Below w.heap.size w w' := over_any V7.wf a w
set_option maxRecDepth 100000 in
set_option maxHeartbeats 400000 in
theorem depsR_no (a : Nat → Int) (w : World) (h : V7.over a V7.zf = false) :
    Calls Try.prog 35 #[.agg #[.int .i64 (a 0), .int .i64 (a 1), .int .i64 (a 2), .int .i64 (a 3), .int .i64 (a 4), .int .i64 (a 5), .int .i64 (a 6)]] w fun e w' => e = .returned (.bool false) ∧ Below w.heap.size w w' := by
  have K := Lib.hid (over_zero a)
  rw [h] at K
  go_enter Try.func35, Try.ntmps35
  go_wp2_with (fail)
  have HB := Lib.hid (show Below w.heap.size w (w.alloc (.cells #[.int .i64 (a 0), .int .i64 (a 1), .int .i64 (a 2), .int .i64 (a 3), .int .i64 (a 4), .int .i64 (a 5), .int .i64 (a 6)] 35)) from below_new (Below.refl _ _))
  refine wp_region_after (by kernel_rfl) (by kernel_rfl) ?_
  have hx := @After.cell (w.alloc (.cells #[.int .i64 (a 0), .int .i64 (a 1), .int .i64 (a 2), .int .i64 (a 3), .int .i64 (a 4), .int .i64 (a 5), .int .i64 (a 6)] 35))
  clear h
  repeat (go_big_quiet_step (first | (go_at_call 69; exact Calls.after_of (K.out _))))
  refine wpQuiet_nil ?_
  rintro _ ⟨x, rfl⟩
  go_wp2
  go_ret
  exact ⟨rfl, below_on HB.out x.below⟩
set_option maxRecDepth 100000 in
set_option maxHeartbeats 400000 in
theorem depsR_yes (a : Nat → Int) (w : World) (h : V7.over a V7.zf = true) :
    Calls Try.prog 35 #[.agg #[.int .i64 (a 0), .int .i64 (a 1), .int .i64 (a 2), .int .i64 (a 3), .int .i64 (a 4), .int .i64 (a 5), .int .i64 (a 6)]] w fun e w' => e = .returned (.bool (V7.over V7.wf a)) ∧ Below w.heap.size w w' := by
  have K := Lib.hid (over_zero a)
  rw [h] at K
  go_enter Try.func35, Try.ntmps35
  go_wp2_with (fail)
  have HB := Lib.hid (show Below w.heap.size w (w.alloc (.cells #[.int .i64 (a 0), .int .i64 (a 1), .int .i64 (a 2), .int .i64 (a 3), .int .i64 (a 4), .int .i64 (a 5), .int .i64 (a 6)] 35)) from below_new (Below.refl _ _))
  refine wp_region_after (by kernel_rfl) (by kernel_rfl) ?_
  have hx := @After.cell (w.alloc (.cells #[.int .i64 (a 0), .int .i64 (a 1), .int .i64 (a 2), .int .i64 (a 3), .int .i64 (a 4), .int .i64 (a 5), .int .i64 (a 6)] 35))
  clear h
  go_big_quiet_step (first | (go_at_call 69; exact Calls.after_of (K.out _)))
  go_big_quiet_step (first | (go_at_call 69; exact Calls.after_of (K.out _)))
  go_big_quiet_step (first | (go_at_call 69; exact Calls.after_of (K.out _)))
  go_big_quiet_step (first | (go_at_call 69; exact Calls.after_of (K.out _)))
  go_big_quiet_step (first | (go_at_call 70; exact Calls.after_of (whole_any _)))
  go_big_quiet_step (fail)
  repeat (go_big_quiet_step (first
    | (go_at_call 69; exact Calls.after_of (over_wf _ _))))
  refine wpQuiet_nil ?_
  rintro _ ⟨x, rfl⟩
  go_wp2
  go_ret
  exact ⟨rfl, below_on HB.out x.below⟩
theorem depsR_any (a : Nat → Int) (w : World) :
    Calls Try.prog 35 #[.agg #[.int .i64 (a 0), .int .i64 (a 1), .int .i64 (a 2), .int .i64 (a 3), .int .i64 (a 4), .int .i64 (a 5), .int .i64 (a 6)]] w fun e w' => e = .returned (.bool (V7.right a)) ∧ Below w.heap.size w w' := by
  cases h : V7.over a V7.zf
  · rw [show V7.right a = false by unfold V7.right; rw [h]; rfl]
    exact depsR_no a w h
  · rw [show V7.right a = V7.over V7.wf a by unfold V7.right; rw [h]; rfl]
    exact depsR_yes a w h

namespace V7
/-- The first k may be; the first k are no less. -/
def may (a : Nat → Int) (k : Nat) : Prop := ∀ j, j < k → 0 ≤ a j ∧ a j ≤ 1048576
theorem may_zero (a : Nat → Int) : may a 0 := fun j h => by omega
theorem may_succ {a : Nat → Int} {k : Nat} (h : may a k) (h0 : 0 ≤ a k) (h1 : a k ≤ 1048576) : may a (k + 1) := fun j hj => by
  by_cases e : j = k
  · subst e; exact ⟨h0, h1⟩
  · exact h j (by omega)
theorem right_may {a : Nat → Int} (h : may a 7) : right a = true := right_iff.2 h
theorem right_not {a : Nat → Int} {k : Nat} (hk : k < 7) (h : ¬ (0 ≤ a k ∧ a k ≤ 1048576)) : right a = false := by
  cases e : right a
  · rfl
  · exact absurd (right_iff.1 e k hk) h
end V7
set_option maxRecDepth 100000 in
set_option maxHeartbeats 1000000 in
theorem refDeps_any (a : Nat → Int) (w : World) :
    Calls Try.prog 41 #[.agg #[.int .i64 (a 0), .int .i64 (a 1), .int .i64 (a 2), .int .i64 (a 3), .int .i64 (a 4), .int .i64 (a 5), .int .i64 (a 6)]] w fun e w' => e = .returned (.bool (V7.right a)) ∧ Below w.heap.size w w' := by
  have hc := cell7 w a
  have HB := Lib.hid (show Below w.heap.size w (w.alloc (.cells #[.int .i64 (a 0), .int .i64 (a 1), .int .i64 (a 2), .int .i64 (a 3), .int .i64 (a 4), .int .i64 (a 5), .int .i64 (a 6)] 35)) from below_new (Below.refl _ _))
  have HC := Lib.hid hc
  clear hc
  go_enter Try.func41, Try.ntmps41
  go_wp2
  generalize w.alloc (.cells #[.int .i64 (a 0), .int .i64 (a 1), .int .i64 (a 2), .int .i64 (a 3), .int .i64 (a 4), .int .i64 (a 5), .int .i64 (a 6)] 35) = w0 at HC HB ⊢
  go_loop [3] (fun i => ∃ k : Nat, k ≤ 7 ∧ i = .int .i64 k ∧ V7.may a k) (fun i => 7 - (intOf i).toNat)
  case atStart => exact ⟨0, by omega, rfl, V7.may_zero a⟩
  case round =>
    obtain ⟨k, hk, rfl, hr⟩ := hrel
    have HR := Lib.hid hr
    clear hr
    by_cases hlt : k < 7
    · have hcell := HC.out k hlt
      by_cases h1 : 0 ≤ a k
      · by_cases h2 : a k ≤ 1048576
        · go_wp2
          go_round
          case rel => exact ⟨k + 1, by omega, by go_num, V7.may_succ HR.out h1 h2⟩
          case measure => simp [intOf]; omega
        · have h3 : 1048576 < a k := by omega
          go_wp2
          go_ret
          exact ⟨ret_bool (V7.right_not hlt (by omega)).symm, HB.out⟩
      · have h3 : a k < 0 := by omega
        go_wp2
        go_ret
        exact ⟨ret_bool (V7.right_not hlt (by omega)).symm, HB.out⟩
    · obtain rfl : k = 7 := by omega
      go_wp2
      go_ret
      exact ⟨ret_bool (V7.right_may HR.out).symm, HB.out⟩
end Go.Proofs.Ytagngbdlpdilnaa
