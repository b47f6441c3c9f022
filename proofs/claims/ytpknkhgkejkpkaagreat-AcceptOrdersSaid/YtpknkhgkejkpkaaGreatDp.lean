/- Deps: plain facts, contracts of the program's functions and of the document's; no conditions but those that they name. -/
import Derived.Test.YtpknkhgkejkpkaaGreatWiD
import Derived.WalkKit
import Derived.WalkSpells
import Derived.Lib.Hide
import Derived.LoopN
import Derived.Deep.QuietTactic
import Derived.BigQuiet
import Derived.WalkSmall
import Derived.RegionTactic
import Derived.ChangeAlike
import Derived.LoopTactic
import Derived.Deep.LoopGhost

namespace Go.Proofs.YtpknkhgkejkpkaaGreat.Dp
namespace M
/-- The greater one, the lesser one. -/
def mx (x y : Int) : Int := if y > x then y else x
def mn (x y : Int) : Int := if y < x then y else x
/-- Seven and seven are the same. -/
def same7 (x0 x1 x2 x3 x4 x5 x6 y0 y1 y2 y3 y4 y5 y6 : Int) : Bool := decide (x0 = y0 ∧ x1 = y1 ∧ x2 = y2 ∧ x3 = y3 ∧ x4 = y4 ∧ x5 = y5 ∧ x6 = y6)
theorem same7_iff {x0 x1 x2 x3 x4 x5 x6 y0 y1 y2 y3 y4 y5 y6 : Int} : same7 x0 x1 x2 x3 x4 x5 x6 y0 y1 y2 y3 y4 y5 y6 = true ↔ x0 = y0 ∧ x1 = y1 ∧ x2 = y2 ∧ x3 = y3 ∧ x4 = y4 ∧ x5 = y5 ∧ x6 = y6 := by simp [same7]
theorem same7_self (x0 x1 x2 x3 x4 x5 x6 : Int) : same7 x0 x1 x2 x3 x4 x5 x6 x0 x1 x2 x3 x4 x5 x6 = true := by simp [same7]
/-- What is joined. -/
def join (a b : Nat → Int) (k : Nat) : Int := mx (a k) (b k)
def same (a b : Nat → Int) : Bool := same7 (a 0) (a 1) (a 2) (a 3) (a 4) (a 5) (a 6) (b 0) (b 1) (b 2) (b 3) (b 4) (b 5) (b 6)
def over (a b : Nat → Int) : Bool := same (join a b) a
def repB (r : Int) : Bool := decide (0 ≤ r ∧ r ≤ 6)
def has (a : Nat → Int) (r s : Int) : Bool := decide ((0 ≤ r ∧ r ≤ 6) ∧ 1 ≤ s ∧ s ≤ a r.toNat)
def wit (a : Nat → Int) (r s : Int) (k : Nat) : Int := if r = k then mx (a k) s else a k
def out (a : Nat → Int) (r s : Int) (k : Nat) : Int := if r = k ∧ 1 ≤ s then mn (a k) (s - 1) else a k
def zf (_ : Nat) : Int := 0
def wf (_ : Nat) : Int := 1048576
def right (a : Nat → Int) : Bool := over a zf && over wf a
theorem seven {k : Nat} (h : k < 7) : k = 0 ∨ k = 1 ∨ k = 2 ∨ k = 3 ∨ k = 4 ∨ k = 5 ∨ k = 6 := by omega
theorem all7 {p : Nat → Prop} : (∀ k, k < 7 → p k) ↔ p 0 ∧ p 1 ∧ p 2 ∧ p 3 ∧ p 4 ∧ p 5 ∧ p 6 :=
  ⟨fun h => ⟨h 0 (by omega), h 1 (by omega), h 2 (by omega), h 3 (by omega), h 4 (by omega), h 5 (by omega), h 6 (by omega)⟩, fun h k hk => by
    obtain ⟨h0, h1, h2, h3, h4, h5, h6⟩ := h
    rcases seven hk with rfl | rfl | rfl | rfl | rfl | rfl | rfl <;> assumption⟩
theorem same_iff {a b : Nat → Int} : same a b = true ↔ ∀ k, k < 7 → a k = b k := by
  rw [all7 (p := fun k => a k = b k)]
  exact same7_iff
theorem over_iff {a b : Nat → Int} : over a b = true ↔ ∀ k, k < 7 → b k ≤ a k := by
  unfold over
  rw [same_iff]
  refine forall_congr' fun k => imp_congr_right fun _ => ?_
  unfold join mx
  split <;> omega
theorem right_iff {a : Nat → Int} : right a = true ↔ ∀ k, k < 7 → 0 ≤ a k ∧ a k ≤ 1048576 := by
  rw [right, Bool.and_eq_true, over_iff, over_iff]
  exact ⟨fun h k hk => ⟨h.1 k hk, h.2 k hk⟩, fun h => ⟨fun k hk => (h k hk).1, fun k hk => (h k hk).2⟩⟩
theorem has_iff {a : Nat → Int} {r s : Int} : has a r s = true ↔ (0 ≤ r ∧ r ≤ 6) ∧ 1 ≤ s ∧ s ≤ a r.toNat := by simp [has]
theorem rep_iff {r : Int} : repB r = true ↔ 0 ≤ r ∧ r ≤ 6 := by simp [repB]
theorem rep_nat {r : Int} (h : repB r = true) : ∃ k : Nat, k < 7 ∧ r = k := by
  have := rep_iff.1 h
  exact ⟨r.toNat, by omega, by omega⟩
theorem wit_none {a : Nat → Int} {r s : Int} (h : repB r = false) : ∀ k : Nat, k < 7 → wit a r s k = a k := fun k hk => by
  have h' : ¬ (0 ≤ r ∧ r ≤ 6) := fun g => by rw [rep_iff.2 g] at h; cases h
  unfold wit; rw [if_neg (by omega)]
theorem out_none {a : Nat → Int} {r s : Int} (h : repB r = false) : ∀ k : Nat, k < 7 → out a r s k = a k := fun k hk => by
  have h' : ¬ (0 ≤ r ∧ r ≤ 6) := fun g => by rw [rep_iff.2 g] at h; cases h
  unfold out; rw [if_neg (by omega)]
theorem out_low {a : Nat → Int} {r s : Int} (h : ¬ 1 ≤ s) : ∀ k : Nat, k < 7 → out a r s k = a k := fun k _ => by
  unfold out; rw [if_neg (by omega)]
theorem has_none {a : Nat → Int} {r s : Int} (h : repB r = false) : has a r s = false := by
  have h' : ¬ (0 ≤ r ∧ r ≤ 6) := fun g => by rw [rep_iff.2 g] at h; cases h
  simp [has, h']
theorem has_low {a : Nat → Int} {r s : Int} (h : ¬ 1 ≤ s) : has a r s = false := by simp [has, h]
theorem has_at {a : Nat → Int} {k : Nat} {s : Int} (hk : k < 7) (h : 1 ≤ s) : has a k s = decide (s ≤ a k) := by
  unfold has
  have : (k : Int).toNat = k := by omega
  rw [this]
  simp [h]
  omega
end M
end Go.Proofs.YtpknkhgkejkpkaaGreat.Dp

namespace Go.Proofs.YtpknkhgkejkpkaaGreat.Dp
open Go.RowKit

theorem ret_int {k : IntKind} {a b : Int} (h : a = b) : Ending.returned (.int k a) = .returned (.int k b) := by rw [h]
theorem ret_bool {a b : Bool} (h : a = b) : Ending.returned (.bool a) = .returned (.bool b) := by rw [h]

theorem run_max_mx (P : Program) (w : World) (ts : Array TypeId) (t : TypeId) (x y : Int) : (Builtin.max_ ts t #[.int .i64 x, .int .i64 y]).run P w = .ok (.int .i64 (M.mx x y)) w := by
  simp [Builtin.max_, Builtin.max2, M.mx]
theorem run_min_mn (P : Program) (w : World) (ts : Array TypeId) (t : TypeId) (x y : Int) : (Builtin.min_ ts t #[.int .i64 x, .int .i64 y]).run P w = .ok (.int .i64 (M.mn x y)) w := by
  simp [Builtin.min_, Builtin.min2, M.mn]
theorem run_part3 (w : World) (cs : Array Value) (i : Nat) (v : Value) (h : cs[i]? = some v) : (part 3 cs i).run Tryz.prog w = .ok v w := by
  simp [part, isAgg, run_underlying Tryz.underlying3, h]
theorem run_same7' (d : Nat) (w : World) (x0 x1 x2 x3 x4 x5 x6 y0 y1 y2 y3 y4 y5 y6 : Int) : (Op.equalIn (d + 2) 39 (.agg #[.int .i64 x0, .int .i64 x1, .int .i64 x2, .int .i64 x3, .int .i64 x4, .int .i64 x5, .int .i64 x6]) (.agg #[.int .i64 y0, .int .i64 y1, .int .i64 y2, .int .i64 y3, .int .i64 y4, .int .i64 y5, .int .i64 y6])).run Tryz.prog w = .ok (M.same7 x0 x1 x2 x3 x4 x5 x6 y0 y1 y2 y3 y4 y5 y6) w := by
  have h3 : ∀ (w : World) (a b : Int), (Op.equalIn (d + 1) 3 (.int .i64 a) (.int .i64 b)).run Tryz.prog w = .ok (a == b) w := fun w a b => run_equalIn_int w d 3 .i64 .i64 a b Tryz.underlying3
  rw [Op.equalIn]
  simp [run_underlying Tryz.underlying39]
  rw [show List.range' 0 7 = [0, 1, 2, 3, 4, 5, 6] from rfl]
  by_cases e0 : x0 = y0
  · subst e0
    by_cases e1 : x1 = y1
    · subst e1
      by_cases e2 : x2 = y2
      · subst e2
        by_cases e3 : x3 = y3
        · subst e3
          by_cases e4 : x4 = y4
          · subst e4
            by_cases e5 : x5 = y5
            · subst e5
              by_cases e6 : x6 = y6
              · subst e6
                simp [List.forIn_cons, run_part3, h3, M.same7]
              · simp [List.forIn_cons, run_part3, h3, M.same7, e6]
            · simp [List.forIn_cons, run_part3, h3, M.same7, e5]
          · simp [List.forIn_cons, run_part3, h3, M.same7, e4]
        · simp [List.forIn_cons, run_part3, h3, M.same7, e3]
      · simp [List.forIn_cons, run_part3, h3, M.same7, e2]
    · simp [List.forIn_cons, run_part3, h3, M.same7, e1]
  · simp [List.forIn_cons, run_part3, h3, M.same7, e0]
theorem run_same7 (w : World) (x0 x1 x2 x3 x4 x5 x6 y0 y1 y2 y3 y4 y5 y6 : Int) : (Op.equalIn 10000 39 (.agg #[.int .i64 x0, .int .i64 x1, .int .i64 x2, .int .i64 x3, .int .i64 x4, .int .i64 x5, .int .i64 x6]) (.agg #[.int .i64 y0, .int .i64 y1, .int .i64 y2, .int .i64 y3, .int .i64 y4, .int .i64 y5, .int .i64 y6])).run Tryz.prog w = .ok (M.same7 x0 x1 x2 x3 x4 x5 x6 y0 y1 y2 y3 y4 y5 y6) w := run_same7' 9998 w x0 x1 x2 x3 x4 x5 x6 y0 y1 y2 y3 y4 y5 y6
theorem run_idx0 (w : World) (x0 x1 x2 x3 x4 x5 x6 : Int) : (Instr.index 39 (.agg #[.int .i64 x0, .int .i64 x1, .int .i64 x2, .int .i64 x3, .int .i64 x4, .int .i64 x5, .int .i64 x6]) (.int .i64 0)).run Tryz.prog w = .ok (.int .i64 x0) w := by kernel_rfl
theorem run_idx1 (w : World) (x0 x1 x2 x3 x4 x5 x6 : Int) : (Instr.index 39 (.agg #[.int .i64 x0, .int .i64 x1, .int .i64 x2, .int .i64 x3, .int .i64 x4, .int .i64 x5, .int .i64 x6]) (.int .i64 1)).run Tryz.prog w = .ok (.int .i64 x1) w := by kernel_rfl
theorem run_idx2 (w : World) (x0 x1 x2 x3 x4 x5 x6 : Int) : (Instr.index 39 (.agg #[.int .i64 x0, .int .i64 x1, .int .i64 x2, .int .i64 x3, .int .i64 x4, .int .i64 x5, .int .i64 x6]) (.int .i64 2)).run Tryz.prog w = .ok (.int .i64 x2) w := by kernel_rfl
theorem run_idx3 (w : World) (x0 x1 x2 x3 x4 x5 x6 : Int) : (Instr.index 39 (.agg #[.int .i64 x0, .int .i64 x1, .int .i64 x2, .int .i64 x3, .int .i64 x4, .int .i64 x5, .int .i64 x6]) (.int .i64 3)).run Tryz.prog w = .ok (.int .i64 x3) w := by kernel_rfl
theorem run_idx4 (w : World) (x0 x1 x2 x3 x4 x5 x6 : Int) : (Instr.index 39 (.agg #[.int .i64 x0, .int .i64 x1, .int .i64 x2, .int .i64 x3, .int .i64 x4, .int .i64 x5, .int .i64 x6]) (.int .i64 4)).run Tryz.prog w = .ok (.int .i64 x4) w := by kernel_rfl
theorem run_idx5 (w : World) (x0 x1 x2 x3 x4 x5 x6 : Int) : (Instr.index 39 (.agg #[.int .i64 x0, .int .i64 x1, .int .i64 x2, .int .i64 x3, .int .i64 x4, .int .i64 x5, .int .i64 x6]) (.int .i64 5)).run Tryz.prog w = .ok (.int .i64 x5) w := by kernel_rfl
theorem run_idx6 (w : World) (x0 x1 x2 x3 x4 x5 x6 : Int) : (Instr.index 39 (.agg #[.int .i64 x0, .int .i64 x1, .int .i64 x2, .int .i64 x3, .int .i64 x4, .int .i64 x5, .int .i64 x6]) (.int .i64 6)).run Tryz.prog w = .ok (.int .i64 x6) w := by kernel_rfl
attribute [local go_sem ↓] run_max_mx run_min_mn run_same7 run_idx0 run_idx1 run_idx2 run_idx3 run_idx4 run_idx5 run_idx6
/-- One stretch behind another. -/
theorem below_on {a b c : World} (h : Below a.heap.size a b) (k : Below b.heap.size b c) : Below a.heap.size a c := h.trans (k.mono h.size)
/-- A new block. -/
theorem below_new {a b : World} {o : Obj} (h : Below a.heap.size a b) : Below a.heap.size a (b.alloc o) := h.alloc h.size _
set_option maxHeartbeats 400000 in
theorem isReplica_any (k : Int) (w : World) :
    Calls Tryz.prog 86 #[.int .i64 k] w fun e w' => e = .returned (.bool (M.repB k)) ∧ w = w' := by
  by_cases h1 : 0 ≤ k
  · by_cases h2 : k ≤ 6
    · rw [show M.repB k = true by simp [M.repB, h1, h2]]
      have h3 : k < 7 := by omega
      go_enter Tryz.func86, Tryz.ntmps86
      go_wp2
      go_ret
      exact ⟨rfl, rfl⟩
    · rw [show M.repB k = false by simp [M.repB]; omega]
      have h3 : ¬ k < 7 := by omega
      go_enter Tryz.func86, Tryz.ntmps86
      go_wp2
      go_ret
      exact ⟨rfl, rfl⟩
  · rw [show M.repB k = false by simp [M.repB]; omega]
    go_enter Tryz.func86, Tryz.ntmps86
    go_wp2
    go_ret
    exact ⟨rfl, rfl⟩

end Go.Proofs.YtpknkhgkejkpkaaGreat.Dp

namespace Go.Proofs.YtpknkhgkejkpkaaGreat.Dp
open Go.RowKit

/-- A world in which all that was there in w is as it was. -/
structure After (w : World) where
  out : World
  below : Below w.heap.size w out
instance (w : World) : Nonempty (After w) := ⟨⟨w, Below.refl _ _⟩⟩
theorem After.cell {w : World} (x : After w) (b o : Nat) (h : b < w.heap.size) : x.out.cell? ⟨b, o, none⟩ = w.cell? ⟨b, o, none⟩ := x.below.cell (p := ⟨b, o, none⟩) h

theorem wp_region_after {P : Program} {id : Nat} {Q : Exit → Act → World → Prop} {a : Act} {w : World} {l : List Oper} (hm : P.follows .mixedOrders = true) (hB : Region.lexB .any l.toArray = true)
    (h : wpQuiet P l.toArray (fun w' => ∃ x : After w, w' = x.out) (fun a' => ∀ w', (∃ x : After w, w' = x.out) → Q .normal a' w') l a) : (Code.region id l.toArray true).wp P Q a w :=
  wp_region_quiet (C := fun w' => ∃ x : After w, w' = x.out) hm hB ⟨⟨w.drew, (Below.refl _ _).drew⟩, rfl⟩ (by simpa using h)

/-- A callee that changes nothing that was there, met in such a world. -/
theorem Calls.after_of {P : Program} {f : FuncId} {args : Array Value} {w : World} {x : After w} {v : Value}
    (h : Calls P f args x.out fun e w' => e = .returned v ∧ Below x.out.heap.size x.out w') : Calls P f args x.out fun e w'' => e = .returned v ∧ ∃ y : After w, w'' = y.out :=
  h.mono fun _ _ ⟨he, hb⟩ => ⟨he, ⟨_, x.below.trans (hb.mono x.below.size)⟩, rfl⟩
theorem Calls.after_same {P : Program} {f : FuncId} {args : Array Value} {w : World} {x : After w} {v : Value}
    (h : Calls P f args x.out fun e w' => e = .returned v ∧ x.out = w') : Calls P f args x.out fun e w'' => e = .returned v ∧ ∃ y : After w, w'' = y.out :=
  h.mono fun _ _ ⟨he, hb⟩ => ⟨he, x, hb.symm⟩

attribute [local go_sem ↓] run_max_mx run_min_mn run_same7
set_option maxHeartbeats 1000000 in
theorem with_at0 (a : Nat → Int) (s : Int) (w : World) :
    Calls Tryz.prog 58 #[.agg #[.int .i64 (a 0), .int .i64 (a 1), .int .i64 (a 2), .int .i64 (a 3), .int .i64 (a 4), .int .i64 (a 5), .int .i64 (a 6)], .agg #[.int .i64 0, .int .i64 s]] w fun e w' => e = .returned (.agg #[.int .i64 (M.wit a 0 s 0), .int .i64 (M.wit a 0 s 1), .int .i64 (M.wit a 0 s 2), .int .i64 (M.wit a 0 s 3), .int .i64 (M.wit a 0 s 4), .int .i64 (M.wit a 0 s 5), .int .i64 (M.wit a 0 s 6)]) ∧ Below w.heap.size w w' := by
  have hr : M.repB 0 = true := by decide
  go_enter Tryz.func58, Tryz.ntmps58
  go_wp2_with (go_at_call 86; refine (isReplica_any _ _).mono ?_; rintro e w' ⟨rfl, rfl⟩)
  go_region
  go_wp2
  exact bodyPost_ret (v := .agg #[.int .i64 (M.wit a 0 s 0), .int .i64 (M.wit a 0 s 1), .int .i64 (M.wit a 0 s 2), .int .i64 (M.wit a 0 s 3), .int .i64 (M.wit a 0 s 4), .int .i64 (M.wit a 0 s 5), .int .i64 (M.wit a 0 s 6)]) (by simp [results, Tryz.results58, go_sem, M.wit]) rfl ⟨rfl, (below_new (below_new (below_new (Below.refl _ _)))).drew⟩

set_option maxHeartbeats 1000000 in
theorem with_at1 (a : Nat → Int) (s : Int) (w : World) :
    Calls Tryz.prog 58 #[.agg #[.int .i64 (a 0), .int .i64 (a 1), .int .i64 (a 2), .int .i64 (a 3), .int .i64 (a 4), .int .i64 (a 5), .int .i64 (a 6)], .agg #[.int .i64 1, .int .i64 s]] w fun e w' => e = .returned (.agg #[.int .i64 (M.wit a 1 s 0), .int .i64 (M.wit a 1 s 1), .int .i64 (M.wit a 1 s 2), .int .i64 (M.wit a 1 s 3), .int .i64 (M.wit a 1 s 4), .int .i64 (M.wit a 1 s 5), .int .i64 (M.wit a 1 s 6)]) ∧ Below w.heap.size w w' := by
  have hr : M.repB 1 = true := by decide
  go_enter Tryz.func58, Tryz.ntmps58
  go_wp2_with (go_at_call 86; refine (isReplica_any _ _).mono ?_; rintro e w' ⟨rfl, rfl⟩)
  go_region
  go_wp2
  exact bodyPost_ret (v := .agg #[.int .i64 (M.wit a 1 s 0), .int .i64 (M.wit a 1 s 1), .int .i64 (M.wit a 1 s 2), .int .i64 (M.wit a 1 s 3), .int .i64 (M.wit a 1 s 4), .int .i64 (M.wit a 1 s 5), .int .i64 (M.wit a 1 s 6)]) (by simp [results, Tryz.results58, go_sem, M.wit]) rfl ⟨rfl, (below_new (below_new (below_new (Below.refl _ _)))).drew⟩

set_option maxHeartbeats 1000000 in
theorem with_at2 (a : Nat → Int) (s : Int) (w : World) :
    Calls Tryz.prog 58 #[.agg #[.int .i64 (a 0), .int .i64 (a 1), .int .i64 (a 2), .int .i64 (a 3), .int .i64 (a 4), .int .i64 (a 5), .int .i64 (a 6)], .agg #[.int .i64 2, .int .i64 s]] w fun e w' => e = .returned (.agg #[.int .i64 (M.wit a 2 s 0), .int .i64 (M.wit a 2 s 1), .int .i64 (M.wit a 2 s 2), .int .i64 (M.wit a 2 s 3), .int .i64 (M.wit a 2 s 4), .int .i64 (M.wit a 2 s 5), .int .i64 (M.wit a 2 s 6)]) ∧ Below w.heap.size w w' := by
  have hr : M.repB 2 = true := by decide
  go_enter Tryz.func58, Tryz.ntmps58
  go_wp2_with (go_at_call 86; refine (isReplica_any _ _).mono ?_; rintro e w' ⟨rfl, rfl⟩)
  go_region
  go_wp2
  exact bodyPost_ret (v := .agg #[.int .i64 (M.wit a 2 s 0), .int .i64 (M.wit a 2 s 1), .int .i64 (M.wit a 2 s 2), .int .i64 (M.wit a 2 s 3), .int .i64 (M.wit a 2 s 4), .int .i64 (M.wit a 2 s 5), .int .i64 (M.wit a 2 s 6)]) (by simp [results, Tryz.results58, go_sem, M.wit]) rfl ⟨rfl, (below_new (below_new (below_new (Below.refl _ _)))).drew⟩

set_option maxHeartbeats 1000000 in
theorem with_at3 (a : Nat → Int) (s : Int) (w : World) :
    Calls Tryz.prog 58 #[.agg #[.int .i64 (a 0), .int .i64 (a 1), .int .i64 (a 2), .int .i64 (a 3), .int .i64 (a 4), .int .i64 (a 5), .int .i64 (a 6)], .agg #[.int .i64 3, .int .i64 s]] w fun e w' => e = .returned (.agg #[.int .i64 (M.wit a 3 s 0), .int .i64 (M.wit a 3 s 1), .int .i64 (M.wit a 3 s 2), .int .i64 (M.wit a 3 s 3), .int .i64 (M.wit a 3 s 4), .int .i64 (M.wit a 3 s 5), .int .i64 (M.wit a 3 s 6)]) ∧ Below w.heap.size w w' := by
  have hr : M.repB 3 = true := by decide
  go_enter Tryz.func58, Tryz.ntmps58
  go_wp2_with (go_at_call 86; refine (isReplica_any _ _).mono ?_; rintro e w' ⟨rfl, rfl⟩)
  go_region
  go_wp2
  exact bodyPost_ret (v := .agg #[.int .i64 (M.wit a 3 s 0), .int .i64 (M.wit a 3 s 1), .int .i64 (M.wit a 3 s 2), .int .i64 (M.wit a 3 s 3), .int .i64 (M.wit a 3 s 4), .int .i64 (M.wit a 3 s 5), .int .i64 (M.wit a 3 s 6)]) (by simp [results, Tryz.results58, go_sem, M.wit]) rfl ⟨rfl, (below_new (below_new (below_new (Below.refl _ _)))).drew⟩

set_option maxHeartbeats 1000000 in
theorem with_at4 (a : Nat → Int) (s : Int) (w : World) :
    Calls Tryz.prog 58 #[.agg #[.int .i64 (a 0), .int .i64 (a 1), .int .i64 (a 2), .int .i64 (a 3), .int .i64 (a 4), .int .i64 (a 5), .int .i64 (a 6)], .agg #[.int .i64 4, .int .i64 s]] w fun e w' => e = .returned (.agg #[.int .i64 (M.wit a 4 s 0), .int .i64 (M.wit a 4 s 1), .int .i64 (M.wit a 4 s 2), .int .i64 (M.wit a 4 s 3), .int .i64 (M.wit a 4 s 4), .int .i64 (M.wit a 4 s 5), .int .i64 (M.wit a 4 s 6)]) ∧ Below w.heap.size w w' := by
  have hr : M.repB 4 = true := by decide
  go_enter Tryz.func58, Tryz.ntmps58
  go_wp2_with (go_at_call 86; refine (isReplica_any _ _).mono ?_; rintro e w' ⟨rfl, rfl⟩)
  go_region
  go_wp2
  exact bodyPost_ret (v := .agg #[.int .i64 (M.wit a 4 s 0), .int .i64 (M.wit a 4 s 1), .int .i64 (M.wit a 4 s 2), .int .i64 (M.wit a 4 s 3), .int .i64 (M.wit a 4 s 4), .int .i64 (M.wit a 4 s 5), .int .i64 (M.wit a 4 s 6)]) (by simp [results, Tryz.results58, go_sem, M.wit]) rfl ⟨rfl, (below_new (below_new (below_new (Below.refl _ _)))).drew⟩

set_option maxHeartbeats 1000000 in
theorem with_at5 (a : Nat → Int) (s : Int) (w : World) :
    Calls Tryz.prog 58 #[.agg #[.int .i64 (a 0), .int .i64 (a 1), .int .i64 (a 2), .int .i64 (a 3), .int .i64 (a 4), .int .i64 (a 5), .int .i64 (a 6)], .agg #[.int .i64 5, .int .i64 s]] w fun e w' => e = .returned (.agg #[.int .i64 (M.wit a 5 s 0), .int .i64 (M.wit a 5 s 1), .int .i64 (M.wit a 5 s 2), .int .i64 (M.wit a 5 s 3), .int .i64 (M.wit a 5 s 4), .int .i64 (M.wit a 5 s 5), .int .i64 (M.wit a 5 s 6)]) ∧ Below w.heap.size w w' := by
  have hr : M.repB 5 = true := by decide
  go_enter Tryz.func58, Tryz.ntmps58
  go_wp2_with (go_at_call 86; refine (isReplica_any _ _).mono ?_; rintro e w' ⟨rfl, rfl⟩)
  go_region
  go_wp2
  exact bodyPost_ret (v := .agg #[.int .i64 (M.wit a 5 s 0), .int .i64 (M.wit a 5 s 1), .int .i64 (M.wit a 5 s 2), .int .i64 (M.wit a 5 s 3), .int .i64 (M.wit a 5 s 4), .int .i64 (M.wit a 5 s 5), .int .i64 (M.wit a 5 s 6)]) (by simp [results, Tryz.results58, go_sem, M.wit]) rfl ⟨rfl, (below_new (below_new (below_new (Below.refl _ _)))).drew⟩

set_option maxHeartbeats 1000000 in
theorem with_at6 (a : Nat → Int) (s : Int) (w : World) :
    Calls Tryz.prog 58 #[.agg #[.int .i64 (a 0), .int .i64 (a 1), .int .i64 (a 2), .int .i64 (a 3), .int .i64 (a 4), .int .i64 (a 5), .int .i64 (a 6)], .agg #[.int .i64 6, .int .i64 s]] w fun e w' => e = .returned (.agg #[.int .i64 (M.wit a 6 s 0), .int .i64 (M.wit a 6 s 1), .int .i64 (M.wit a 6 s 2), .int .i64 (M.wit a 6 s 3), .int .i64 (M.wit a 6 s 4), .int .i64 (M.wit a 6 s 5), .int .i64 (M.wit a 6 s 6)]) ∧ Below w.heap.size w w' := by
  have hr : M.repB 6 = true := by decide
  go_enter Tryz.func58, Tryz.ntmps58
  go_wp2_with (go_at_call 86; refine (isReplica_any _ _).mono ?_; rintro e w' ⟨rfl, rfl⟩)
  go_region
  go_wp2
  exact bodyPost_ret (v := .agg #[.int .i64 (M.wit a 6 s 0), .int .i64 (M.wit a 6 s 1), .int .i64 (M.wit a 6 s 2), .int .i64 (M.wit a 6 s 3), .int .i64 (M.wit a 6 s 4), .int .i64 (M.wit a 6 s 5), .int .i64 (M.wit a 6 s 6)]) (by simp [results, Tryz.results58, go_sem, M.wit]) rfl ⟨rfl, (below_new (below_new (below_new (Below.refl _ _)))).drew⟩

set_option maxHeartbeats 1000000 in
theorem with_none (a : Nat → Int) (r s : Int) (w : World) (hr : M.repB r = false) :
    Calls Tryz.prog 58 #[.agg #[.int .i64 (a 0), .int .i64 (a 1), .int .i64 (a 2), .int .i64 (a 3), .int .i64 (a 4), .int .i64 (a 5), .int .i64 (a 6)], .agg #[.int .i64 r, .int .i64 s]] w fun e w' => e = .returned (.agg #[.int .i64 (M.wit a r s 0), .int .i64 (M.wit a r s 1), .int .i64 (M.wit a r s 2), .int .i64 (M.wit a r s 3), .int .i64 (M.wit a r s 4), .int .i64 (M.wit a r s 5), .int .i64 (M.wit a r s 6)]) ∧ Below w.heap.size w w' := by
  have HE := Lib.hid (M.wit_none (a := a) (s := s) hr)
  go_enter Tryz.func58, Tryz.ntmps58
  go_wp2_with (go_at_call 86; refine (isReplica_any _ _).mono ?_; rintro e w' ⟨rfl, rfl⟩)
  exact bodyPost_ret (v := .agg #[.int .i64 (a 0), .int .i64 (a 1), .int .i64 (a 2), .int .i64 (a 3), .int .i64 (a 4), .int .i64 (a 5), .int .i64 (a 6)]) (by simp [results, Tryz.results58, go_sem]) rfl ⟨by rw [HE.out 0 (by decide), HE.out 1 (by decide), HE.out 2 (by decide), HE.out 3 (by decide), HE.out 4 (by decide), HE.out 5 (by decide), HE.out 6 (by decide)], below_new (below_new (below_new (Below.refl _ _)))⟩


theorem with_any (a : Nat → Int) (r s : Int) (w : World) :
    Calls Tryz.prog 58 #[.agg #[.int .i64 (a 0), .int .i64 (a 1), .int .i64 (a 2), .int .i64 (a 3), .int .i64 (a 4), .int .i64 (a 5), .int .i64 (a 6)], .agg #[.int .i64 r, .int .i64 s]] w fun e w' => e = .returned (.agg #[.int .i64 (M.wit a r s 0), .int .i64 (M.wit a r s 1), .int .i64 (M.wit a r s 2), .int .i64 (M.wit a r s 3), .int .i64 (M.wit a r s 4), .int .i64 (M.wit a r s 5), .int .i64 (M.wit a r s 6)]) ∧ Below w.heap.size w w' := by
  cases hr : M.repB r
  · exact with_none a r s w hr
  · obtain ⟨k, hk, rfl⟩ := M.rep_nat hr
    rcases M.seven hk with rfl | rfl | rfl | rfl | rfl | rfl | rfl
    · exact with_at0 a s w
    · exact with_at1 a s w
    · exact with_at2 a s w
    · exact with_at3 a s w
    · exact with_at4 a s w
    · exact with_at5 a s w
    · exact with_at6 a s w

/-- A box of seven numbers. -/
theorem cell7 (w : World) (f : Nat → Int) (k : Nat) (h : k < 7) : (w.alloc (.cells #[.int .i64 (f 0), .int .i64 (f 1), .int .i64 (f 2), .int .i64 (f 3), .int .i64 (f 4), .int .i64 (f 5), .int .i64 (f 6)] 39)).cell? ⟨w.heap.size, k, none⟩ = some (.int .i64 (f k)) := by
  rcases M.seven h with rfl | rfl | rfl | rfl | rfl | rfl | rfl <;> simp

end Go.Proofs.YtpknkhgkejkpkaaGreat.Dp

namespace Go.Proofs.YtpknkhgkejkpkaaGreat.Dp
open Go.RowKit
attribute [local go_sem ↓] run_max_mx run_min_mn run_same7
end Go.Proofs.YtpknkhgkejkpkaaGreat.Dp

namespace Go.Proofs.YtpknkhgkejkpkaaGreat.Dp
open Go.RowKit
attribute [local go_sem ↓] run_max_mx run_min_mn run_same7 run_idx0 run_idx1 run_idx2 run_idx3 run_idx4 run_idx5 run_idx6
def M.f7 (x0 x1 x2 x3 x4 x5 x6 : Int) (k : Nat) : Int := if k = 0 then x0 else if k = 1 then x1 else if k = 2 then x2 else if k = 3 then x3 else if k = 4 then x4 else if k = 5 then x5 else x6

end Go.Proofs.YtpknkhgkejkpkaaGreat.Dp

namespace Go.Proofs.YtpknkhgkejkpkaaGreat.Dp
open Go.RowKit

namespace M
/-- The first k may be; the first k are no less. -/
def may (a : Nat → Int) (k : Nat) : Prop := ∀ j, j < k → 0 ≤ a j ∧ a j ≤ 1048576
def ovr (a b : Nat → Int) (k : Nat) : Prop := ∀ j, j < k → b j ≤ a j
theorem may_zero (a : Nat → Int) : may a 0 := fun j h => by omega
theorem ovr_zero (a b : Nat → Int) : ovr a b 0 := fun j h => by omega
theorem may_succ {a : Nat → Int} {k : Nat} (h : may a k) (h0 : 0 ≤ a k) (h1 : a k ≤ 1048576) : may a (k + 1) := fun j hj => by
  by_cases e : j = k
  · subst e; exact ⟨h0, h1⟩
  · exact h j (by omega)
theorem ovr_succ {a b : Nat → Int} {k : Nat} (h : ovr a b k) (h0 : b k ≤ a k) : ovr a b (k + 1) := fun j hj => by
  by_cases e : j = k
  · subst e; exact h0
  · exact h j (by omega)
theorem right_may {a : Nat → Int} (h : may a 7) : right a = true := right_iff.2 h
theorem over_ovr {a b : Nat → Int} (h : ovr a b 7) : over a b = true := over_iff.2 h
theorem right_not {a : Nat → Int} {k : Nat} (hk : k < 7) (h : ¬ (0 ≤ a k ∧ a k ≤ 1048576)) : right a = false := by
  cases e : right a
  · rfl
  · exact absurd (right_iff.1 e k hk) h
theorem over_not {a b : Nat → Int} {k : Nat} (hk : k < 7) (h : ¬ b k ≤ a k) : over a b = false := by
  cases e : over a b
  · rfl
  · exact absurd (over_iff.1 e k hk) h
end M

end Go.Proofs.YtpknkhgkejkpkaaGreat.Dp

namespace Go.Proofs.YtpknkhgkejkpkaaGreat.Dp
open Go.RowKit

namespace M
/-- Not among the first k. -/
def nope (a : Nat → Int) (r s : Int) (k : Nat) : Prop := ∀ j : Nat, j < k → ¬ (r = j ∧ 1 ≤ s ∧ s ≤ a j)
theorem nope_zero (a : Nat → Int) (r s : Int) : nope a r s 0 := fun j h => by omega
theorem nope_succ {a : Nat → Int} {r s : Int} {k : Nat} (h : nope a r s k) (h0 : ¬ (r = k ∧ 1 ≤ s ∧ s ≤ a k)) : nope a r s (k + 1) := fun j hj => by
  by_cases e : j = k
  · subst e; exact h0
  · exact h j (by omega)
theorem has_nope {a : Nat → Int} {r s : Int} (h : nope a r s 7) : has a r s = false := by
  cases e : has a r s
  · rfl
  · have g := has_iff.1 e
    exact absurd ⟨by omega, g.2.1, g.2.2⟩ (h r.toNat (by omega))
theorem has_yes {a : Nat → Int} {k : Nat} {s : Int} (hk : k < 7) (h : 1 ≤ s) (h1 : s ≤ a k) : has a k s = true := by
  rw [has_at hk h]; simpa using h1
/-- The first k as in g, the others as in f. -/
def part (f g : Nat → Int) (k j : Nat) : Int := if j < k then g j else f j
theorem part_zero (f g : Nat → Int) : part f g 0 = f := by funext j; simp [part]
theorem part_at (f g : Nat → Int) (k : Nat) : part f g k k = f k := by simp [part]
def upd (f : Nat → Int) (k : Nat) (v : Int) (j : Nat) : Int := if j = k then v else f j
theorem part_upd (f g : Nat → Int) (k : Nat) : upd (part f g k) k (g k) = part f g (k + 1) := by
  funext j
  unfold upd part
  by_cases e : j = k
  · subst e; simp
  · rw [if_neg e]
    by_cases l : j < k
    · rw [if_pos l, if_pos (by omega)]
    · rw [if_neg l, if_neg (by omega)]
theorem part_same {f g : Nat → Int} {k : Nat} (h : g k = f k) : part f g k = part f g (k + 1) := by
  funext j
  unfold part
  by_cases e : j = k
  · subst e; simp [h]
  · by_cases l : j < k
    · rw [if_pos l, if_pos (by omega)]
    · rw [if_neg l, if_neg (by omega)]
theorem part_all (f g : Nat → Int) {j : Nat} (h : j < 7) : part f g 7 j = g j := by simp [part, h]
theorem wit_up {a : Nat → Int} {k : Nat} {s : Int} (h : a k < s) : wit a k s k = s := by simp [wit, mx, h]
theorem wit_is {a : Nat → Int} {r s : Int} {k : Nat} (h : ¬ (r = k ∧ a k < s)) : wit a r s k = a k := by
  unfold wit mx
  split
  · split <;> omega
  · rfl
theorem out_up {a : Nat → Int} {k : Nat} {s : Int} (h0 : 1 ≤ s) (h : s ≤ a k) : out a k s k = s - 1 := by
  unfold out mn
  rw [if_pos ⟨rfl, h0⟩, if_pos (by omega)]
theorem out_is {a : Nat → Int} {r s : Int} {k : Nat} (h : ¬ (r = k ∧ 1 ≤ s ∧ s ≤ a k)) : out a r s k = a k := by
  unfold out mn
  split
  · split <;> omega
  · rfl
end M

/-- Seven numbers, a pair, a place for the answer. -/
def Wl (w : World) (f : Nat → Int) (r s : Int) : World := ((w.alloc (.cells #[.int .i64 (f 0), .int .i64 (f 1), .int .i64 (f 2), .int .i64 (f 3), .int .i64 (f 4), .int .i64 (f 5), .int .i64 (f 6)] 39)).alloc (.cells #[.int .i64 r, .int .i64 s] 32)).alloc (.cells #[.int .i64 0, .int .i64 0, .int .i64 0, .int .i64 0, .int .i64 0, .int .i64 0, .int .i64 0] 39)
theorem Wl_below (w : World) (f : Nat → Int) (r s : Int) : Below w.heap.size w (Wl w f r s) := below_new (below_new (below_new (Below.refl _ _)))
theorem Wl_cell (w : World) (f : Nat → Int) (r s : Int) (k : Nat) (h : k < 7) : (Wl w f r s).cell? ⟨w.heap.size, k, none⟩ = some (.int .i64 (f k)) := by
  unfold Wl
  rw [World.cell?_alloc_lt _ _ _ (by simp; omega), World.cell?_alloc_lt _ _ _ (by simp)]
  exact cell7 w f k h
theorem Wl_frozen (w : World) (f : Nat → Int) (r s : Int) (k : Nat) (h : k < 7) : (Wl w f r s).frozen? ⟨w.heap.size, k, none⟩ = false := by
  unfold Wl
  rcases M.seven h with rfl | rfl | rfl | rfl | rfl | rfl | rfl <;> simp [go_sem]
theorem Wl_r (w : World) (f : Nat → Int) (r s : Int) : (Wl w f r s).cell? ⟨w.heap.size + 1, 0, none⟩ = some (.int .i64 r) := by
  unfold Wl; simp [go_sem]
theorem Wl_s (w : World) (f : Nat → Int) (r s : Int) : (Wl w f r s).cell? ⟨w.heap.size + 1, 1, none⟩ = some (.int .i64 s) := by
  unfold Wl; simp [go_sem]
theorem Wl_set (w : World) (f : Nat → Int) (r s v : Int) (k : Nat) (h : k < 7) : (Wl w f r s).setCell ⟨w.heap.size, k, none⟩ (.int .i64 v) = Wl w (M.upd f k v) r s := by
  unfold Wl
  rcases M.seven h with rfl | rfl | rfl | rfl | rfl | rfl | rfl <;> simp [M.upd, go_sem]
theorem Wl_drewN (w : World) (f : Nat → Int) (r s : Int) (n : Nat) : (Wl w f r s).drewN n = Wl (w.drewN n) f r s := rfl

set_option maxHeartbeats 1000000 in
theorem refWith_any (a : Nat → Int) (r s : Int) (w : World) :
    Calls Tryz.prog 64 #[.agg #[.int .i64 (a 0), .int .i64 (a 1), .int .i64 (a 2), .int .i64 (a 3), .int .i64 (a 4), .int .i64 (a 5), .int .i64 (a 6)], .agg #[.int .i64 r, .int .i64 s]] w fun e w' => e = .returned (.agg #[.int .i64 (M.wit a r s 0), .int .i64 (M.wit a r s 1), .int .i64 (M.wit a r s 2), .int .i64 (M.wit a r s 3), .int .i64 (M.wit a r s 4), .int .i64 (M.wit a r s 5), .int .i64 (M.wit a r s 6)]) ∧ Below w.heap.size w w' := by
  go_enter Tryz.func64, Tryz.ntmps64
  go_wp2
  go_loopw [5] (fun i wr => ∃ k n : Nat, k ≤ 7 ∧ i = .int .i64 k ∧ wr = (Wl w (M.part a (M.wit a r s) k) r s).drewN n) (fun i _ => 7 - (intOf i).toNat)
  case atStart => exact ⟨0, 0, by omega, rfl, by rw [M.part_zero]; rfl⟩
  case round =>
    obtain ⟨k, n, hk, rfl, rfl⟩ := hrel
    by_cases hlt : k < 7
    · have hcell := Wl_cell w (M.part a (M.wit a r s) k) r s k hlt
      have hfz := Wl_frozen w (M.part a (M.wit a r s) k) r s k hlt
      rw [M.part_at] at hcell
      have hr := Wl_r w (M.part a (M.wit a r s) k) r s
      have hs := Wl_s w (M.part a (M.wit a r s) k) r s
      by_cases h0 : r = k
      · subst h0
        by_cases h1 : a k < s
        · have HW := Lib.hid (Wl_set w (M.part a (M.wit a k s) k) k s s k hlt)
          have HU := Lib.hid (M.part_upd a (M.wit a k s) k)
          rw [M.wit_up h1] at HU
          go_wp2
          go_quiet (fail)
          go_wp2
          go_roundw
          case rel => exact ⟨k + 1, _, by omega, by go_num, by rw [← HU.out, ← HW.out]; rfl⟩
          case measure => simp [intOf]; omega
        · have h3 : decide (a k < s) = false := by simpa using h1
          have HU := Lib.hid (M.part_same (M.wit_is (a := a) (r := k) (s := s) (k := k) (by omega)))
          go_wp2
          go_quiet (fail)
          go_wp2
          go_roundw
          case rel => exact ⟨k + 1, _, by omega, by go_num, by rw [← HU.out]⟩
          case measure => simp [intOf]; omega
      · have h3 : (r == (k : Int)) = false := by simpa using h0
        have HU := Lib.hid (M.part_same (M.wit_is (a := a) (r := r) (s := s) (k := k) (by omega)))
        go_wp2
        go_quiet (fail)
        go_wp2
        go_roundw
        case rel => exact ⟨k + 1, _, by omega, by go_num, by rw [← HU.out]⟩
        case measure => simp [intOf]; omega
    · obtain rfl : k = 7 := by omega
      have HB := Lib.hid (show Below w.heap.size w (w.drewN n) from below_drewN (Below.refl _ _) n)
      rw [Wl_drewN, show w.heap.size = (w.drewN n).heap.size from rfl]
      generalize w.drewN n = w0 at HB ⊢
      unfold Wl
      simp only [M.part_all _ _ (show 0 < 7 by omega), M.part_all _ _ (show 1 < 7 by omega), M.part_all _ _ (show 2 < 7 by omega), M.part_all _ _ (show 3 < 7 by omega), M.part_all _ _ (show 4 < 7 by omega), M.part_all _ _ (show 5 < 7 by omega), M.part_all _ _ (show 6 < 7 by omega)]
      go_wp2
      exact bodyPost_ret (v := .agg #[.int .i64 (M.wit a r s 0), .int .i64 (M.wit a r s 1), .int .i64 (M.wit a r s 2), .int .i64 (M.wit a r s 3), .int .i64 (M.wit a r s 4), .int .i64 (M.wit a r s 5), .int .i64 (M.wit a r s 6)]) (by simp [results, Tryz.results64, go_sem]) rfl ⟨rfl, below_new (below_new (below_new HB.out))⟩

end Go.Proofs.YtpknkhgkejkpkaaGreat.Dp
