/- A region that draws its order, whose operations read old memory and whose calls may make new memory: one walk in the order of the text; contracts of Over, Right, Has, With, Without; no conditions. -/
import Derived.Test.YtcombmifjimkoaaWalks
import Derived.Deep.QuietTactic
import Derived.BigQuiet
import Derived.WalkSmall
import Derived.RegionTactic
import Derived.ChangeAlike
namespace Go.Proofs.Ytcombmifjimkoaa
open Go.RowKit

/-- A world in which all that was there in w is as it was. -/
structure After (w : World) where
  out : World
  below : Below w.heap.size w out
instance (w : World) : Nonempty (After w) := ⟨⟨w, Below.refl _ _⟩⟩
theorem After.cell {w : World} (x : After w) (b o : Nat) (h : b < w.heap.size) : x.out.cell? ⟨b, o, none⟩ = w.cell? ⟨b, o, none⟩ := x.below.cell (p := ⟨b, o, none⟩) h

theorem wp_region_after {P : Program} {id : Nat} {Q : Exit → Act → World → Prop} {a : Act} {w : World} {l : List Oper} (hm : P.follows .mixedOrders = true) (hB : Region.lexB .any l.toArray = true)
    (h : wpQuiet P l.toArray (fun w' => ∃ x : After w, w' = x.out) (fun a' => ∀ w', (∃ x : After w, w' = x.out) → Q .normal a' w') l a) : (Code.region id l.toArray true).wp P Q a w :=
  wp_region_quiet (C := fun w' => ∃ x : After w, w' = x.out) hm hB ⟨⟨w.drew, (Below.refl _ _).drew⟩, rfl⟩ (by simpa using h)

/-- A callee that changes nothing that was there, met in such a world. -/
theorem Calls.after_of {P : Program} {f : FuncId} {args : Array Value} {w : World} {x : After w} {v : Value}
    (h : Calls P f args x.out fun e w' => e = .returned v ∧ Below x.out.heap.size x.out w') : Calls P f args x.out fun e w'' => e = .returned v ∧ ∃ y : After w, w'' = y.out :=
  h.mono fun _ _ ⟨he, hb⟩ => ⟨he, ⟨_, x.below.trans (hb.mono x.below.size)⟩, rfl⟩
theorem Calls.after_same {P : Program} {f : FuncId} {args : Array Value} {w : World} {x : After w} {v : Value}
    (h : Calls P f args x.out fun e w' => e = .returned v ∧ x.out = w') : Calls P f args x.out fun e w'' => e = .returned v ∧ ∃ y : After w, w'' = y.out :=
  h.mono fun _ _ ⟨he, hb⟩ => ⟨he, x, hb.symm⟩

attribute [local go_sem ↓] run_max_mx run_min_mn run_same7

set_option maxHeartbeats 1000000 in
theorem over_any (a b : Nat → Int) (w : World) :
    Calls Try.prog 15 #[.agg #[.int .i64 (a 0), .int .i64 (a 1), .int .i64 (a 2), .int .i64 (a 3), .int .i64 (a 4), .int .i64 (a 5), .int .i64 (a 6)], .agg #[.int .i64 (b 0), .int .i64 (b 1), .int .i64 (b 2), .int .i64 (b 3), .int .i64 (b 4), .int .i64 (b 5), .int .i64 (b 6)]] w fun e w' => e = .returned (.bool (M.over a b)) ∧ Below w.heap.size w w' := by
  go_enter Try.func15, Try.ntmps15
  go_wp2_with (fail)
  have HB := Lib.hid (show Below w.heap.size w ((w.alloc (.cells #[.int .i64 (a 0), .int .i64 (a 1), .int .i64 (a 2), .int .i64 (a 3), .int .i64 (a 4), .int .i64 (a 5), .int .i64 (a 6)] 23)).alloc (.cells #[.int .i64 (b 0), .int .i64 (b 1), .int .i64 (b 2), .int .i64 (b 3), .int .i64 (b 4), .int .i64 (b 5), .int .i64 (b 6)] 23)) from below_new (below_new (Below.refl _ _)))
  refine wp_region_after (by kernel_rfl) (by kernel_rfl) ?_
  have hx := @After.cell ((w.alloc (.cells #[.int .i64 (a 0), .int .i64 (a 1), .int .i64 (a 2), .int .i64 (a 3), .int .i64 (a 4), .int .i64 (a 5), .int .i64 (a 6)] 23)).alloc (.cells #[.int .i64 (b 0), .int .i64 (b 1), .int .i64 (b 2), .int .i64 (b 3), .int .i64 (b 4), .int .i64 (b 5), .int .i64 (b 6)] 23))
  repeat (go_big_quiet_step (first | (go_at_call 13; exact Calls.after_of (join_any _ _ _))))
  refine wpQuiet_nil ?_
  rintro _ ⟨x, rfl⟩
  go_wp2
  go_ret
  exact ⟨rfl, below_on HB.out x.below⟩



set_option maxHeartbeats 1000000 in
theorem with_at0 (a : Nat → Int) (s : Int) (w : World) :
    Calls Try.prog 17 #[.agg #[.int .i64 (a 0), .int .i64 (a 1), .int .i64 (a 2), .int .i64 (a 3), .int .i64 (a 4), .int .i64 (a 5), .int .i64 (a 6)], .agg #[.int .i64 0, .int .i64 s]] w fun e w' => e = .returned (.agg #[.int .i64 (M.wit a 0 s 0), .int .i64 (M.wit a 0 s 1), .int .i64 (M.wit a 0 s 2), .int .i64 (M.wit a 0 s 3), .int .i64 (M.wit a 0 s 4), .int .i64 (M.wit a 0 s 5), .int .i64 (M.wit a 0 s 6)]) ∧ Below w.heap.size w w' := by
  have hr : M.repB 0 = true := by decide
  go_enter Try.func17, Try.ntmps17
  go_wp2_with (go_at_call 25; refine (isReplica_any _ _).mono ?_; rintro e w' ⟨rfl, rfl⟩)
  go_region
  go_wp2
  exact bodyPost_ret (v := .agg #[.int .i64 (M.wit a 0 s 0), .int .i64 (M.wit a 0 s 1), .int .i64 (M.wit a 0 s 2), .int .i64 (M.wit a 0 s 3), .int .i64 (M.wit a 0 s 4), .int .i64 (M.wit a 0 s 5), .int .i64 (M.wit a 0 s 6)]) (by simp [results, Try.results17, go_sem, M.wit]) rfl ⟨rfl, (below_new (below_new (below_new (Below.refl _ _)))).drew⟩

set_option maxHeartbeats 1000000 in
theorem out_at0 (a : Nat → Int) (s : Int) (w : World) (h : 1 ≤ s) (hs : s ≤ 9223372036854775807) :
    Calls Try.prog 19 #[.agg #[.int .i64 (a 0), .int .i64 (a 1), .int .i64 (a 2), .int .i64 (a 3), .int .i64 (a 4), .int .i64 (a 5), .int .i64 (a 6)], .agg #[.int .i64 0, .int .i64 s]] w fun e w' => e = .returned (.agg #[.int .i64 (M.out a 0 s 0), .int .i64 (M.out a 0 s 1), .int .i64 (M.out a 0 s 2), .int .i64 (M.out a 0 s 3), .int .i64 (M.out a 0 s 4), .int .i64 (M.out a 0 s 5), .int .i64 (M.out a 0 s 6)]) ∧ Below w.heap.size w w' := by
  have hr : M.repB 0 = true := by decide
  go_enter Try.func19, Try.ntmps19
  go_wp2_with (go_at_call 25; refine (isReplica_any _ _).mono ?_; rintro e w' ⟨rfl, rfl⟩)
  go_region
  go_wp2
  exact bodyPost_ret (v := .agg #[.int .i64 (M.out a 0 s 0), .int .i64 (M.out a 0 s 1), .int .i64 (M.out a 0 s 2), .int .i64 (M.out a 0 s 3), .int .i64 (M.out a 0 s 4), .int .i64 (M.out a 0 s 5), .int .i64 (M.out a 0 s 6)]) (by simp [results, Try.results19, go_sem, M.out, h]) rfl ⟨rfl, (below_new (below_new (below_new (Below.refl _ _)))).drew⟩


set_option maxHeartbeats 1000000 in
theorem with_at1 (a : Nat → Int) (s : Int) (w : World) :
    Calls Try.prog 17 #[.agg #[.int .i64 (a 0), .int .i64 (a 1), .int .i64 (a 2), .int .i64 (a 3), .int .i64 (a 4), .int .i64 (a 5), .int .i64 (a 6)], .agg #[.int .i64 1, .int .i64 s]] w fun e w' => e = .returned (.agg #[.int .i64 (M.wit a 1 s 0), .int .i64 (M.wit a 1 s 1), .int .i64 (M.wit a 1 s 2), .int .i64 (M.wit a 1 s 3), .int .i64 (M.wit a 1 s 4), .int .i64 (M.wit a 1 s 5), .int .i64 (M.wit a 1 s 6)]) ∧ Below w.heap.size w w' := by
  have hr : M.repB 1 = true := by decide
  go_enter Try.func17, Try.ntmps17
  go_wp2_with (go_at_call 25; refine (isReplica_any _ _).mono ?_; rintro e w' ⟨rfl, rfl⟩)
  go_region
  go_wp2
  exact bodyPost_ret (v := .agg #[.int .i64 (M.wit a 1 s 0), .int .i64 (M.wit a 1 s 1), .int .i64 (M.wit a 1 s 2), .int .i64 (M.wit a 1 s 3), .int .i64 (M.wit a 1 s 4), .int .i64 (M.wit a 1 s 5), .int .i64 (M.wit a 1 s 6)]) (by simp [results, Try.results17, go_sem, M.wit]) rfl ⟨rfl, (below_new (below_new (below_new (Below.refl _ _)))).drew⟩

set_option maxHeartbeats 1000000 in
theorem out_at1 (a : Nat → Int) (s : Int) (w : World) (h : 1 ≤ s) (hs : s ≤ 9223372036854775807) :
    Calls Try.prog 19 #[.agg #[.int .i64 (a 0), .int .i64 (a 1), .int .i64 (a 2), .int .i64 (a 3), .int .i64 (a 4), .int .i64 (a 5), .int .i64 (a 6)], .agg #[.int .i64 1, .int .i64 s]] w fun e w' => e = .returned (.agg #[.int .i64 (M.out a 1 s 0), .int .i64 (M.out a 1 s 1), .int .i64 (M.out a 1 s 2), .int .i64 (M.out a 1 s 3), .int .i64 (M.out a 1 s 4), .int .i64 (M.out a 1 s 5), .int .i64 (M.out a 1 s 6)]) ∧ Below w.heap.size w w' := by
  have hr : M.repB 1 = true := by decide
  go_enter Try.func19, Try.ntmps19
  go_wp2_with (go_at_call 25; refine (isReplica_any _ _).mono ?_; rintro e w' ⟨rfl, rfl⟩)
  go_region
  go_wp2
  exact bodyPost_ret (v := .agg #[.int .i64 (M.out a 1 s 0), .int .i64 (M.out a 1 s 1), .int .i64 (M.out a 1 s 2), .int .i64 (M.out a 1 s 3), .int .i64 (M.out a 1 s 4), .int .i64 (M.out a 1 s 5), .int .i64 (M.out a 1 s 6)]) (by simp [results, Try.results19, go_sem, M.out, h]) rfl ⟨rfl, (below_new (below_new (below_new (Below.refl _ _)))).drew⟩


set_option maxHeartbeats 1000000 in
theorem with_at2 (a : Nat → Int) (s : Int) (w : World) :
    Calls Try.prog 17 #[.agg #[.int .i64 (a 0), .int .i64 (a 1), .int .i64 (a 2), .int .i64 (a 3), .int .i64 (a 4), .int .i64 (a 5), .int .i64 (a 6)], .agg #[.int .i64 2, .int .i64 s]] w fun e w' => e = .returned (.agg #[.int .i64 (M.wit a 2 s 0), .int .i64 (M.wit a 2 s 1), .int .i64 (M.wit a 2 s 2), .int .i64 (M.wit a 2 s 3), .int .i64 (M.wit a 2 s 4), .int .i64 (M.wit a 2 s 5), .int .i64 (M.wit a 2 s 6)]) ∧ Below w.heap.size w w' := by
  have hr : M.repB 2 = true := by decide
  go_enter Try.func17, Try.ntmps17
  go_wp2_with (go_at_call 25; refine (isReplica_any _ _).mono ?_; rintro e w' ⟨rfl, rfl⟩)
  go_region
  go_wp2
  exact bodyPost_ret (v := .agg #[.int .i64 (M.wit a 2 s 0), .int .i64 (M.wit a 2 s 1), .int .i64 (M.wit a 2 s 2), .int .i64 (M.wit a 2 s 3), .int .i64 (M.wit a 2 s 4), .int .i64 (M.wit a 2 s 5), .int .i64 (M.wit a 2 s 6)]) (by simp [results, Try.results17, go_sem, M.wit]) rfl ⟨rfl, (below_new (below_new (below_new (Below.refl _ _)))).drew⟩

set_option maxHeartbeats 1000000 in
theorem out_at2 (a : Nat → Int) (s : Int) (w : World) (h : 1 ≤ s) (hs : s ≤ 9223372036854775807) :
    Calls Try.prog 19 #[.agg #[.int .i64 (a 0), .int .i64 (a 1), .int .i64 (a 2), .int .i64 (a 3), .int .i64 (a 4), .int .i64 (a 5), .int .i64 (a 6)], .agg #[.int .i64 2, .int .i64 s]] w fun e w' => e = .returned (.agg #[.int .i64 (M.out a 2 s 0), .int .i64 (M.out a 2 s 1), .int .i64 (M.out a 2 s 2), .int .i64 (M.out a 2 s 3), .int .i64 (M.out a 2 s 4), .int .i64 (M.out a 2 s 5), .int .i64 (M.out a 2 s 6)]) ∧ Below w.heap.size w w' := by
  have hr : M.repB 2 = true := by decide
  go_enter Try.func19, Try.ntmps19
  go_wp2_with (go_at_call 25; refine (isReplica_any _ _).mono ?_; rintro e w' ⟨rfl, rfl⟩)
  go_region
  go_wp2
  exact bodyPost_ret (v := .agg #[.int .i64 (M.out a 2 s 0), .int .i64 (M.out a 2 s 1), .int .i64 (M.out a 2 s 2), .int .i64 (M.out a 2 s 3), .int .i64 (M.out a 2 s 4), .int .i64 (M.out a 2 s 5), .int .i64 (M.out a 2 s 6)]) (by simp [results, Try.results19, go_sem, M.out, h]) rfl ⟨rfl, (below_new (below_new (below_new (Below.refl _ _)))).drew⟩


set_option maxHeartbeats 1000000 in
theorem with_at3 (a : Nat → Int) (s : Int) (w : World) :
    Calls Try.prog 17 #[.agg #[.int .i64 (a 0), .int .i64 (a 1), .int .i64 (a 2), .int .i64 (a 3), .int .i64 (a 4), .int .i64 (a 5), .int .i64 (a 6)], .agg #[.int .i64 3, .int .i64 s]] w fun e w' => e = .returned (.agg #[.int .i64 (M.wit a 3 s 0), .int .i64 (M.wit a 3 s 1), .int .i64 (M.wit a 3 s 2), .int .i64 (M.wit a 3 s 3), .int .i64 (M.wit a 3 s 4), .int .i64 (M.wit a 3 s 5), .int .i64 (M.wit a 3 s 6)]) ∧ Below w.heap.size w w' := by
  have hr : M.repB 3 = true := by decide
  go_enter Try.func17, Try.ntmps17
  go_wp2_with (go_at_call 25; refine (isReplica_any _ _).mono ?_; rintro e w' ⟨rfl, rfl⟩)
  go_region
  go_wp2
  exact bodyPost_ret (v := .agg #[.int .i64 (M.wit a 3 s 0), .int .i64 (M.wit a 3 s 1), .int .i64 (M.wit a 3 s 2), .int .i64 (M.wit a 3 s 3), .int .i64 (M.wit a 3 s 4), .int .i64 (M.wit a 3 s 5), .int .i64 (M.wit a 3 s 6)]) (by simp [results, Try.results17, go_sem, M.wit]) rfl ⟨rfl, (below_new (below_new (below_new (Below.refl _ _)))).drew⟩

set_option maxHeartbeats 1000000 in
theorem out_at3 (a : Nat → Int) (s : Int) (w : World) (h : 1 ≤ s) (hs : s ≤ 9223372036854775807) :
    Calls Try.prog 19 #[.agg #[.int .i64 (a 0), .int .i64 (a 1), .int .i64 (a 2), .int .i64 (a 3), .int .i64 (a 4), .int .i64 (a 5), .int .i64 (a 6)], .agg #[.int .i64 3, .int .i64 s]] w fun e w' => e = .returned (.agg #[.int .i64 (M.out a 3 s 0), .int .i64 (M.out a 3 s 1), .int .i64 (M.out a 3 s 2), .int .i64 (M.out a 3 s 3), .int .i64 (M.out a 3 s 4), .int .i64 (M.out a 3 s 5), .int .i64 (M.out a 3 s 6)]) ∧ Below w.heap.size w w' := by
  have hr : M.repB 3 = true := by decide
  go_enter Try.func19, Try.ntmps19
  go_wp2_with (go_at_call 25; refine (isReplica_any _ _).mono ?_; rintro e w' ⟨rfl, rfl⟩)
  go_region
  go_wp2
  exact bodyPost_ret (v := .agg #[.int .i64 (M.out a 3 s 0), .int .i64 (M.out a 3 s 1), .int .i64 (M.out a 3 s 2), .int .i64 (M.out a 3 s 3), .int .i64 (M.out a 3 s 4), .int .i64 (M.out a 3 s 5), .int .i64 (M.out a 3 s 6)]) (by simp [results, Try.results19, go_sem, M.out, h]) rfl ⟨rfl, (below_new (below_new (below_new (Below.refl _ _)))).drew⟩


set_option maxHeartbeats 1000000 in
theorem with_at4 (a : Nat → Int) (s : Int) (w : World) :
    Calls Try.prog 17 #[.agg #[.int .i64 (a 0), .int .i64 (a 1), .int .i64 (a 2), .int .i64 (a 3), .int .i64 (a 4), .int .i64 (a 5), .int .i64 (a 6)], .agg #[.int .i64 4, .int .i64 s]] w fun e w' => e = .returned (.agg #[.int .i64 (M.wit a 4 s 0), .int .i64 (M.wit a 4 s 1), .int .i64 (M.wit a 4 s 2), .int .i64 (M.wit a 4 s 3), .int .i64 (M.wit a 4 s 4), .int .i64 (M.wit a 4 s 5), .int .i64 (M.wit a 4 s 6)]) ∧ Below w.heap.size w w' := by
  have hr : M.repB 4 = true := by decide
  go_enter Try.func17, Try.ntmps17
  go_wp2_with (go_at_call 25; refine (isReplica_any _ _).mono ?_; rintro e w' ⟨rfl, rfl⟩)
  go_region
  go_wp2
  exact bodyPost_ret (v := .agg #[.int .i64 (M.wit a 4 s 0), .int .i64 (M.wit a 4 s 1), .int .i64 (M.wit a 4 s 2), .int .i64 (M.wit a 4 s 3), .int .i64 (M.wit a 4 s 4), .int .i64 (M.wit a 4 s 5), .int .i64 (M.wit a 4 s 6)]) (by simp [results, Try.results17, go_sem, M.wit]) rfl ⟨rfl, (below_new (below_new (below_new (Below.refl _ _)))).drew⟩

set_option maxHeartbeats 1000000 in
theorem out_at4 (a : Nat → Int) (s : Int) (w : World) (h : 1 ≤ s) (hs : s ≤ 9223372036854775807) :
    Calls Try.prog 19 #[.agg #[.int .i64 (a 0), .int .i64 (a 1), .int .i64 (a 2), .int .i64 (a 3), .int .i64 (a 4), .int .i64 (a 5), .int .i64 (a 6)], .agg #[.int .i64 4, .int .i64 s]] w fun e w' => e = .returned (.agg #[.int .i64 (M.out a 4 s 0), .int .i64 (M.out a 4 s 1), .int .i64 (M.out a 4 s 2), .int .i64 (M.out a 4 s 3), .int .i64 (M.out a 4 s 4), .int .i64 (M.out a 4 s 5), .int .i64 (M.out a 4 s 6)]) ∧ Below w.heap.size w w' := by
  have hr : M.repB 4 = true := by decide
  go_enter Try.func19, Try.ntmps19
  go_wp2_with (go_at_call 25; refine (isReplica_any _ _).mono ?_; rintro e w' ⟨rfl, rfl⟩)
  go_region
  go_wp2
  exact bodyPost_ret (v := .agg #[.int .i64 (M.out a 4 s 0), .int .i64 (M.out a 4 s 1), .int .i64 (M.out a 4 s 2), .int .i64 (M.out a 4 s 3), .int .i64 (M.out a 4 s 4), .int .i64 (M.out a 4 s 5), .int .i64 (M.out a 4 s 6)]) (by simp [results, Try.results19, go_sem, M.out, h]) rfl ⟨rfl, (below_new (below_new (below_new (Below.refl _ _)))).drew⟩


set_option maxHeartbeats 1000000 in
theorem with_at5 (a : Nat → Int) (s : Int) (w : World) :
    Calls Try.prog 17 #[.agg #[.int .i64 (a 0), .int .i64 (a 1), .int .i64 (a 2), .int .i64 (a 3), .int .i64 (a 4), .int .i64 (a 5), .int .i64 (a 6)], .agg #[.int .i64 5, .int .i64 s]] w fun e w' => e = .returned (.agg #[.int .i64 (M.wit a 5 s 0), .int .i64 (M.wit a 5 s 1), .int .i64 (M.wit a 5 s 2), .int .i64 (M.wit a 5 s 3), .int .i64 (M.wit a 5 s 4), .int .i64 (M.wit a 5 s 5), .int .i64 (M.wit a 5 s 6)]) ∧ Below w.heap.size w w' := by
  have hr : M.repB 5 = true := by decide
  go_enter Try.func17, Try.ntmps17
  go_wp2_with (go_at_call 25; refine (isReplica_any _ _).mono ?_; rintro e w' ⟨rfl, rfl⟩)
  go_region
  go_wp2
  exact bodyPost_ret (v := .agg #[.int .i64 (M.wit a 5 s 0), .int .i64 (M.wit a 5 s 1), .int .i64 (M.wit a 5 s 2), .int .i64 (M.wit a 5 s 3), .int .i64 (M.wit a 5 s 4), .int .i64 (M.wit a 5 s 5), .int .i64 (M.wit a 5 s 6)]) (by simp [results, Try.results17, go_sem, M.wit]) rfl ⟨rfl, (below_new (below_new (below_new (Below.refl _ _)))).drew⟩

set_option maxHeartbeats 1000000 in
theorem out_at5 (a : Nat → Int) (s : Int) (w : World) (h : 1 ≤ s) (hs : s ≤ 9223372036854775807) :
    Calls Try.prog 19 #[.agg #[.int .i64 (a 0), .int .i64 (a 1), .int .i64 (a 2), .int .i64 (a 3), .int .i64 (a 4), .int .i64 (a 5), .int .i64 (a 6)], .agg #[.int .i64 5, .int .i64 s]] w fun e w' => e = .returned (.agg #[.int .i64 (M.out a 5 s 0), .int .i64 (M.out a 5 s 1), .int .i64 (M.out a 5 s 2), .int .i64 (M.out a 5 s 3), .int .i64 (M.out a 5 s 4), .int .i64 (M.out a 5 s 5), .int .i64 (M.out a 5 s 6)]) ∧ Below w.heap.size w w' := by
  have hr : M.repB 5 = true := by decide
  go_enter Try.func19, Try.ntmps19
  go_wp2_with (go_at_call 25; refine (isReplica_any _ _).mono ?_; rintro e w' ⟨rfl, rfl⟩)
  go_region
  go_wp2
  exact bodyPost_ret (v := .agg #[.int .i64 (M.out a 5 s 0), .int .i64 (M.out a 5 s 1), .int .i64 (M.out a 5 s 2), .int .i64 (M.out a 5 s 3), .int .i64 (M.out a 5 s 4), .int .i64 (M.out a 5 s 5), .int .i64 (M.out a 5 s 6)]) (by simp [results, Try.results19, go_sem, M.out, h]) rfl ⟨rfl, (below_new (below_new (below_new (Below.refl _ _)))).drew⟩


set_option maxHeartbeats 1000000 in
theorem with_at6 (a : Nat → Int) (s : Int) (w : World) :
    Calls Try.prog 17 #[.agg #[.int .i64 (a 0), .int .i64 (a 1), .int .i64 (a 2), .int .i64 (a 3), .int .i64 (a 4), .int .i64 (a 5), .int .i64 (a 6)], .agg #[.int .i64 6, .int .i64 s]] w fun e w' => e = .returned (.agg #[.int .i64 (M.wit a 6 s 0), .int .i64 (M.wit a 6 s 1), .int .i64 (M.wit a 6 s 2), .int .i64 (M.wit a 6 s 3), .int .i64 (M.wit a 6 s 4), .int .i64 (M.wit a 6 s 5), .int .i64 (M.wit a 6 s 6)]) ∧ Below w.heap.size w w' := by
  have hr : M.repB 6 = true := by decide
  go_enter Try.func17, Try.ntmps17
  go_wp2_with (go_at_call 25; refine (isReplica_any _ _).mono ?_; rintro e w' ⟨rfl, rfl⟩)
  go_region
  go_wp2
  exact bodyPost_ret (v := .agg #[.int .i64 (M.wit a 6 s 0), .int .i64 (M.wit a 6 s 1), .int .i64 (M.wit a 6 s 2), .int .i64 (M.wit a 6 s 3), .int .i64 (M.wit a 6 s 4), .int .i64 (M.wit a 6 s 5), .int .i64 (M.wit a 6 s 6)]) (by simp [results, Try.results17, go_sem, M.wit]) rfl ⟨rfl, (below_new (below_new (below_new (Below.refl _ _)))).drew⟩

set_option maxHeartbeats 1000000 in
theorem out_at6 (a : Nat → Int) (s : Int) (w : World) (h : 1 ≤ s) (hs : s ≤ 9223372036854775807) :
    Calls Try.prog 19 #[.agg #[.int .i64 (a 0), .int .i64 (a 1), .int .i64 (a 2), .int .i64 (a 3), .int .i64 (a 4), .int .i64 (a 5), .int .i64 (a 6)], .agg #[.int .i64 6, .int .i64 s]] w fun e w' => e = .returned (.agg #[.int .i64 (M.out a 6 s 0), .int .i64 (M.out a 6 s 1), .int .i64 (M.out a 6 s 2), .int .i64 (M.out a 6 s 3), .int .i64 (M.out a 6 s 4), .int .i64 (M.out a 6 s 5), .int .i64 (M.out a 6 s 6)]) ∧ Below w.heap.size w w' := by
  have hr : M.repB 6 = true := by decide
  go_enter Try.func19, Try.ntmps19
  go_wp2_with (go_at_call 25; refine (isReplica_any _ _).mono ?_; rintro e w' ⟨rfl, rfl⟩)
  go_region
  go_wp2
  exact bodyPost_ret (v := .agg #[.int .i64 (M.out a 6 s 0), .int .i64 (M.out a 6 s 1), .int .i64 (M.out a 6 s 2), .int .i64 (M.out a 6 s 3), .int .i64 (M.out a 6 s 4), .int .i64 (M.out a 6 s 5), .int .i64 (M.out a 6 s 6)]) (by simp [results, Try.results19, go_sem, M.out, h]) rfl ⟨rfl, (below_new (below_new (below_new (Below.refl _ _)))).drew⟩


set_option maxHeartbeats 1000000 in
theorem with_none (a : Nat → Int) (r s : Int) (w : World) (hr : M.repB r = false) :
    Calls Try.prog 17 #[.agg #[.int .i64 (a 0), .int .i64 (a 1), .int .i64 (a 2), .int .i64 (a 3), .int .i64 (a 4), .int .i64 (a 5), .int .i64 (a 6)], .agg #[.int .i64 r, .int .i64 s]] w fun e w' => e = .returned (.agg #[.int .i64 (M.wit a r s 0), .int .i64 (M.wit a r s 1), .int .i64 (M.wit a r s 2), .int .i64 (M.wit a r s 3), .int .i64 (M.wit a r s 4), .int .i64 (M.wit a r s 5), .int .i64 (M.wit a r s 6)]) ∧ Below w.heap.size w w' := by
  have HE := Lib.hid (M.wit_none (a := a) (s := s) hr)
  go_enter Try.func17, Try.ntmps17
  go_wp2_with (go_at_call 25; refine (isReplica_any _ _).mono ?_; rintro e w' ⟨rfl, rfl⟩)
  exact bodyPost_ret (v := .agg #[.int .i64 (a 0), .int .i64 (a 1), .int .i64 (a 2), .int .i64 (a 3), .int .i64 (a 4), .int .i64 (a 5), .int .i64 (a 6)]) (by simp [results, Try.results17, go_sem]) rfl ⟨by rw [HE.out 0 (by decide), HE.out 1 (by decide), HE.out 2 (by decide), HE.out 3 (by decide), HE.out 4 (by decide), HE.out 5 (by decide), HE.out 6 (by decide)], below_new (below_new (below_new (Below.refl _ _)))⟩


set_option maxHeartbeats 1000000 in
theorem out_none (a : Nat → Int) (r s : Int) (w : World) (hr : M.repB r = false) :
    Calls Try.prog 19 #[.agg #[.int .i64 (a 0), .int .i64 (a 1), .int .i64 (a 2), .int .i64 (a 3), .int .i64 (a 4), .int .i64 (a 5), .int .i64 (a 6)], .agg #[.int .i64 r, .int .i64 s]] w fun e w' => e = .returned (.agg #[.int .i64 (M.out a r s 0), .int .i64 (M.out a r s 1), .int .i64 (M.out a r s 2), .int .i64 (M.out a r s 3), .int .i64 (M.out a r s 4), .int .i64 (M.out a r s 5), .int .i64 (M.out a r s 6)]) ∧ Below w.heap.size w w' := by
  have HE := Lib.hid (M.out_none (a := a) (s := s) hr)
  go_enter Try.func19, Try.ntmps19
  go_wp2_with (go_at_call 25; refine (isReplica_any _ _).mono ?_; rintro e w' ⟨rfl, rfl⟩)
  exact bodyPost_ret (v := .agg #[.int .i64 (a 0), .int .i64 (a 1), .int .i64 (a 2), .int .i64 (a 3), .int .i64 (a 4), .int .i64 (a 5), .int .i64 (a 6)]) (by simp [results, Try.results19, go_sem]) rfl ⟨by rw [HE.out 0 (by decide), HE.out 1 (by decide), HE.out 2 (by decide), HE.out 3 (by decide), HE.out 4 (by decide), HE.out 5 (by decide), HE.out 6 (by decide)], below_new (below_new (below_new (Below.refl _ _)))⟩


set_option maxHeartbeats 1000000 in
theorem out_low (a : Nat → Int) (r s : Int) (w : World) (hr : M.repB r = true) (h : ¬ 1 ≤ s) :
    Calls Try.prog 19 #[.agg #[.int .i64 (a 0), .int .i64 (a 1), .int .i64 (a 2), .int .i64 (a 3), .int .i64 (a 4), .int .i64 (a 5), .int .i64 (a 6)], .agg #[.int .i64 r, .int .i64 s]] w fun e w' => e = .returned (.agg #[.int .i64 (M.out a r s 0), .int .i64 (M.out a r s 1), .int .i64 (M.out a r s 2), .int .i64 (M.out a r s 3), .int .i64 (M.out a r s 4), .int .i64 (M.out a r s 5), .int .i64 (M.out a r s 6)]) ∧ Below w.heap.size w w' := by
  have HE := Lib.hid (M.out_low (a := a) (r := r) h)
  go_enter Try.func19, Try.ntmps19
  go_wp2_with (go_at_call 25; refine (isReplica_any _ _).mono ?_; rintro e w' ⟨rfl, rfl⟩)
  exact bodyPost_ret (v := .agg #[.int .i64 (a 0), .int .i64 (a 1), .int .i64 (a 2), .int .i64 (a 3), .int .i64 (a 4), .int .i64 (a 5), .int .i64 (a 6)]) (by simp [results, Try.results19, go_sem]) rfl ⟨by rw [HE.out 0 (by decide), HE.out 1 (by decide), HE.out 2 (by decide), HE.out 3 (by decide), HE.out 4 (by decide), HE.out 5 (by decide), HE.out 6 (by decide)], below_new (below_new (below_new (Below.refl _ _)))⟩


theorem with_any (a : Nat → Int) (r s : Int) (w : World) :
    Calls Try.prog 17 #[.agg #[.int .i64 (a 0), .int .i64 (a 1), .int .i64 (a 2), .int .i64 (a 3), .int .i64 (a 4), .int .i64 (a 5), .int .i64 (a 6)], .agg #[.int .i64 r, .int .i64 s]] w fun e w' => e = .returned (.agg #[.int .i64 (M.wit a r s 0), .int .i64 (M.wit a r s 1), .int .i64 (M.wit a r s 2), .int .i64 (M.wit a r s 3), .int .i64 (M.wit a r s 4), .int .i64 (M.wit a r s 5), .int .i64 (M.wit a r s 6)]) ∧ Below w.heap.size w w' := by
  cases hr : M.repB r
  · exact with_none a r s w hr
  · obtain ⟨k, hk, rfl⟩ := M.rep_nat hr
    rcases M.seven hk with rfl | rfl | rfl | rfl | rfl | rfl | rfl
    · exact with_at0 a s w
    · exact with_at1 a s w
    · exact with_at2 a s w
    · exact with_at3 a s w
    · exact with_at4 a s w
    · exact with_at5 a s w
    · exact with_at6 a s w

theorem out_any (a : Nat → Int) (r s : Int) (w : World) (hs : s ≤ 9223372036854775807) :
    Calls Try.prog 19 #[.agg #[.int .i64 (a 0), .int .i64 (a 1), .int .i64 (a 2), .int .i64 (a 3), .int .i64 (a 4), .int .i64 (a 5), .int .i64 (a 6)], .agg #[.int .i64 r, .int .i64 s]] w fun e w' => e = .returned (.agg #[.int .i64 (M.out a r s 0), .int .i64 (M.out a r s 1), .int .i64 (M.out a r s 2), .int .i64 (M.out a r s 3), .int .i64 (M.out a r s 4), .int .i64 (M.out a r s 5), .int .i64 (M.out a r s 6)]) ∧ Below w.heap.size w w' := by
  cases hr : M.repB r
  · exact out_none a r s w hr
  · by_cases h : 1 ≤ s
    · obtain ⟨k, hk, rfl⟩ := M.rep_nat hr
      rcases M.seven hk with rfl | rfl | rfl | rfl | rfl | rfl | rfl
      · exact out_at0 a s w h hs
      · exact out_at1 a s w h hs
      · exact out_at2 a s w h hs
      · exact out_at3 a s w h hs
      · exact out_at4 a s w h hs
      · exact out_at5 a s w h hs
      · exact out_at6 a s w h hs
    · exact out_low a r s w hr h

/-- A box of seven numbers. -/
theorem cell7 (w : World) (f : Nat → Int) (k : Nat) (h : k < 7) : (w.alloc (.cells #[.int .i64 (f 0), .int .i64 (f 1), .int .i64 (f 2), .int .i64 (f 3), .int .i64 (f 4), .int .i64 (f 5), .int .i64 (f 6)] 23)).cell? ⟨w.heap.size, k, none⟩ = some (.int .i64 (f k)) := by
  rcases M.seven h with rfl | rfl | rfl | rfl | rfl | rfl | rfl <;> simp

set_option maxHeartbeats 1000000 in
theorem has_none (a : Nat → Int) (r s : Int) (w : World) (hr : M.repB r = false) :
    Calls Try.prog 11 #[.agg #[.int .i64 (a 0), .int .i64 (a 1), .int .i64 (a 2), .int .i64 (a 3), .int .i64 (a 4), .int .i64 (a 5), .int .i64 (a 6)], .agg #[.int .i64 r, .int .i64 s]] w fun e w' => e = .returned (.bool false) ∧ Below w.heap.size w w' := by
  have HR := Lib.hid hr
  clear hr
  go_enter Try.func11, Try.ntmps11
  go_wp2_with (fail)
  have HB := Lib.hid (show Below w.heap.size w ((w.alloc (.cells #[.int .i64 (a 0), .int .i64 (a 1), .int .i64 (a 2), .int .i64 (a 3), .int .i64 (a 4), .int .i64 (a 5), .int .i64 (a 6)] 23)).alloc (.cells #[.int .i64 r, .int .i64 s] 25)) from below_new (below_new (Below.refl _ _)))
  refine wp_region_after (by kernel_rfl) (by kernel_rfl) ?_
  have hx := @After.cell ((w.alloc (.cells #[.int .i64 (a 0), .int .i64 (a 1), .int .i64 (a 2), .int .i64 (a 3), .int .i64 (a 4), .int .i64 (a 5), .int .i64 (a 6)] 23)).alloc (.cells #[.int .i64 r, .int .i64 s] 25))
  repeat (first
    | (go_big_quiet_step (first
      | (go_at_call 25; exact Calls.after_same (isReplica_any _ _))))
    | rw [HR.out])
  refine wpQuiet_nil ?_
  rintro _ ⟨x, rfl⟩
  go_wp2
  go_ret
  exact ⟨rfl, below_on HB.out x.below⟩

set_option maxHeartbeats 1000000 in
theorem has_low (a : Nat → Int) (r s : Int) (w : World) (hr : M.repB r = true) (h : decide (1 ≤ s) = false) :
    Calls Try.prog 11 #[.agg #[.int .i64 (a 0), .int .i64 (a 1), .int .i64 (a 2), .int .i64 (a 3), .int .i64 (a 4), .int .i64 (a 5), .int .i64 (a 6)], .agg #[.int .i64 r, .int .i64 s]] w fun e w' => e = .returned (.bool false) ∧ Below w.heap.size w w' := by
  have HR := Lib.hid hr
  clear hr
  go_enter Try.func11, Try.ntmps11
  go_wp2_with (fail)
  have HB := Lib.hid (show Below w.heap.size w ((w.alloc (.cells #[.int .i64 (a 0), .int .i64 (a 1), .int .i64 (a 2), .int .i64 (a 3), .int .i64 (a 4), .int .i64 (a 5), .int .i64 (a 6)] 23)).alloc (.cells #[.int .i64 r, .int .i64 s] 25)) from below_new (below_new (Below.refl _ _)))
  refine wp_region_after (by kernel_rfl) (by kernel_rfl) ?_
  have hx := @After.cell ((w.alloc (.cells #[.int .i64 (a 0), .int .i64 (a 1), .int .i64 (a 2), .int .i64 (a 3), .int .i64 (a 4), .int .i64 (a 5), .int .i64 (a 6)] 23)).alloc (.cells #[.int .i64 r, .int .i64 s] 25))
  repeat (first
    | (go_big_quiet_step (first
      | (go_at_call 25; exact Calls.after_same (isReplica_any _ _))))
    | rw [HR.out])
  refine wpQuiet_nil ?_
  rintro _ ⟨x, rfl⟩
  go_wp2
  go_ret
  exact ⟨rfl, below_on HB.out x.below⟩


set_option maxHeartbeats 1000000 in
theorem has_at0 (a : Nat → Int) (s : Int) (w : World) (h : decide (1 ≤ s) = true) :
    Calls Try.prog 11 #[.agg #[.int .i64 (a 0), .int .i64 (a 1), .int .i64 (a 2), .int .i64 (a 3), .int .i64 (a 4), .int .i64 (a 5), .int .i64 (a 6)], .agg #[.int .i64 0, .int .i64 s]] w fun e w' => e = .returned (.bool (decide (s ≤ a 0))) ∧ Below w.heap.size w w' := by
  have HR := Lib.hid (show M.repB 0 = true by decide)
  go_enter Try.func11, Try.ntmps11
  go_wp2_with (fail)
  have HB := Lib.hid (show Below w.heap.size w ((w.alloc (.cells #[.int .i64 (a 0), .int .i64 (a 1), .int .i64 (a 2), .int .i64 (a 3), .int .i64 (a 4), .int .i64 (a 5), .int .i64 (a 6)] 23)).alloc (.cells #[.int .i64 0, .int .i64 s] 25)) from below_new (below_new (Below.refl _ _)))
  refine wp_region_after (by kernel_rfl) (by kernel_rfl) ?_
  have hx := @After.cell ((w.alloc (.cells #[.int .i64 (a 0), .int .i64 (a 1), .int .i64 (a 2), .int .i64 (a 3), .int .i64 (a 4), .int .i64 (a 5), .int .i64 (a 6)] 23)).alloc (.cells #[.int .i64 0, .int .i64 s] 25))
  repeat (first
    | (go_big_quiet_step (first
      | (go_at_call 25; exact Calls.after_same (isReplica_any _ _))))
    | rw [HR.out])
  refine wpQuiet_nil ?_
  rintro _ ⟨x, rfl⟩
  go_wp2
  go_ret
  exact ⟨rfl, below_on HB.out x.below⟩


set_option maxHeartbeats 1000000 in
theorem has_at1 (a : Nat → Int) (s : Int) (w : World) (h : decide (1 ≤ s) = true) :
    Calls Try.prog 11 #[.agg #[.int .i64 (a 0), .int .i64 (a 1), .int .i64 (a 2), .int .i64 (a 3), .int .i64 (a 4), .int .i64 (a 5), .int .i64 (a 6)], .agg #[.int .i64 1, .int .i64 s]] w fun e w' => e = .returned (.bool (decide (s ≤ a 1))) ∧ Below w.heap.size w w' := by
  have HR := Lib.hid (show M.repB 1 = true by decide)
  go_enter Try.func11, Try.ntmps11
  go_wp2_with (fail)
  have HB := Lib.hid (show Below w.heap.size w ((w.alloc (.cells #[.int .i64 (a 0), .int .i64 (a 1), .int .i64 (a 2), .int .i64 (a 3), .int .i64 (a 4), .int .i64 (a 5), .int .i64 (a 6)] 23)).alloc (.cells #[.int .i64 1, .int .i64 s] 25)) from below_new (below_new (Below.refl _ _)))
  refine wp_region_after (by kernel_rfl) (by kernel_rfl) ?_
  have hx := @After.cell ((w.alloc (.cells #[.int .i64 (a 0), .int .i64 (a 1), .int .i64 (a 2), .int .i64 (a 3), .int .i64 (a 4), .int .i64 (a 5), .int .i64 (a 6)] 23)).alloc (.cells #[.int .i64 1, .int .i64 s] 25))
  repeat (first
    | (go_big_quiet_step (first
      | (go_at_call 25; exact Calls.after_same (isReplica_any _ _))))
    | rw [HR.out])
  refine wpQuiet_nil ?_
  rintro _ ⟨x, rfl⟩
  go_wp2
  go_ret
  exact ⟨rfl, below_on HB.out x.below⟩


set_option maxHeartbeats 1000000 in
theorem has_at2 (a : Nat → Int) (s : Int) (w : World) (h : decide (1 ≤ s) = true) :
    Calls Try.prog 11 #[.agg #[.int .i64 (a 0), .int .i64 (a 1), .int .i64 (a 2), .int .i64 (a 3), .int .i64 (a 4), .int .i64 (a 5), .int .i64 (a 6)], .agg #[.int .i64 2, .int .i64 s]] w fun e w' => e = .returned (.bool (decide (s ≤ a 2))) ∧ Below w.heap.size w w' := by
  have HR := Lib.hid (show M.repB 2 = true by decide)
  go_enter Try.func11, Try.ntmps11
  go_wp2_with (fail)
  have HB := Lib.hid (show Below w.heap.size w ((w.alloc (.cells #[.int .i64 (a 0), .int .i64 (a 1), .int .i64 (a 2), .int .i64 (a 3), .int .i64 (a 4), .int .i64 (a 5), .int .i64 (a 6)] 23)).alloc (.cells #[.int .i64 2, .int .i64 s] 25)) from below_new (below_new (Below.refl _ _)))
  refine wp_region_after (by kernel_rfl) (by kernel_rfl) ?_
  have hx := @After.cell ((w.alloc (.cells #[.int .i64 (a 0), .int .i64 (a 1), .int .i64 (a 2), .int .i64 (a 3), .int .i64 (a 4), .int .i64 (a 5), .int .i64 (a 6)] 23)).alloc (.cells #[.int .i64 2, .int .i64 s] 25))
  repeat (first
    | (go_big_quiet_step (first
      | (go_at_call 25; exact Calls.after_same (isReplica_any _ _))))
    | rw [HR.out])
  refine wpQuiet_nil ?_
  rintro _ ⟨x, rfl⟩
  go_wp2
  go_ret
  exact ⟨rfl, below_on HB.out x.below⟩


set_option maxHeartbeats 1000000 in
theorem has_at3 (a : Nat → Int) (s : Int) (w : World) (h : decide (1 ≤ s) = true) :
    Calls Try.prog 11 #[.agg #[.int .i64 (a 0), .int .i64 (a 1), .int .i64 (a 2), .int .i64 (a 3), .int .i64 (a 4), .int .i64 (a 5), .int .i64 (a 6)], .agg #[.int .i64 3, .int .i64 s]] w fun e w' => e = .returned (.bool (decide (s ≤ a 3))) ∧ Below w.heap.size w w' := by
  have HR := Lib.hid (show M.repB 3 = true by decide)
  go_enter Try.func11, Try.ntmps11
  go_wp2_with (fail)
  have HB := Lib.hid (show Below w.heap.size w ((w.alloc (.cells #[.int .i64 (a 0), .int .i64 (a 1), .int .i64 (a 2), .int .i64 (a 3), .int .i64 (a 4), .int .i64 (a 5), .int .i64 (a 6)] 23)).alloc (.cells #[.int .i64 3, .int .i64 s] 25)) from below_new (below_new (Below.refl _ _)))
  refine wp_region_after (by kernel_rfl) (by kernel_rfl) ?_
  have hx := @After.cell ((w.alloc (.cells #[.int .i64 (a 0), .int .i64 (a 1), .int .i64 (a 2), .int .i64 (a 3), .int .i64 (a 4), .int .i64 (a 5), .int .i64 (a 6)] 23)).alloc (.cells #[.int .i64 3, .int .i64 s] 25))
  repeat (first
    | (go_big_quiet_step (first
      | (go_at_call 25; exact Calls.after_same (isReplica_any _ _))))
    | rw [HR.out])
  refine wpQuiet_nil ?_
  rintro _ ⟨x, rfl⟩
  go_wp2
  go_ret
  exact ⟨rfl, below_on HB.out x.below⟩


set_option maxHeartbeats 1000000 in
theorem has_at4 (a : Nat → Int) (s : Int) (w : World) (h : decide (1 ≤ s) = true) :
    Calls Try.prog 11 #[.agg #[.int .i64 (a 0), .int .i64 (a 1), .int .i64 (a 2), .int .i64 (a 3), .int .i64 (a 4), .int .i64 (a 5), .int .i64 (a 6)], .agg #[.int .i64 4, .int .i64 s]] w fun e w' => e = .returned (.bool (decide (s ≤ a 4))) ∧ Below w.heap.size w w' := by
  have HR := Lib.hid (show M.repB 4 = true by decide)
  go_enter Try.func11, Try.ntmps11
  go_wp2_with (fail)
  have HB := Lib.hid (show Below w.heap.size w ((w.alloc (.cells #[.int .i64 (a 0), .int .i64 (a 1), .int .i64 (a 2), .int .i64 (a 3), .int .i64 (a 4), .int .i64 (a 5), .int .i64 (a 6)] 23)).alloc (.cells #[.int .i64 4, .int .i64 s] 25)) from below_new (below_new (Below.refl _ _)))
  refine wp_region_after (by kernel_rfl) (by kernel_rfl) ?_
  have hx := @After.cell ((w.alloc (.cells #[.int .i64 (a 0), .int .i64 (a 1), .int .i64 (a 2), .int .i64 (a 3), .int .i64 (a 4), .int .i64 (a 5), .int .i64 (a 6)] 23)).alloc (.cells #[.int .i64 4, .int .i64 s] 25))
  repeat (first
    | (go_big_quiet_step (first
      | (go_at_call 25; exact Calls.after_same (isReplica_any _ _))))
    | rw [HR.out])
  refine wpQuiet_nil ?_
  rintro _ ⟨x, rfl⟩
  go_wp2
  go_ret
  exact ⟨rfl, below_on HB.out x.below⟩


set_option maxHeartbeats 1000000 in
theorem has_at5 (a : Nat → Int) (s : Int) (w : World) (h : decide (1 ≤ s) = true) :
    Calls Try.prog 11 #[.agg #[.int .i64 (a 0), .int .i64 (a 1), .int .i64 (a 2), .int .i64 (a 3), .int .i64 (a 4), .int .i64 (a 5), .int .i64 (a 6)], .agg #[.int .i64 5, .int .i64 s]] w fun e w' => e = .returned (.bool (decide (s ≤ a 5))) ∧ Below w.heap.size w w' := by
  have HR := Lib.hid (show M.repB 5 = true by decide)
  go_enter Try.func11, Try.ntmps11
  go_wp2_with (fail)
  have HB := Lib.hid (show Below w.heap.size w ((w.alloc (.cells #[.int .i64 (a 0), .int .i64 (a 1), .int .i64 (a 2), .int .i64 (a 3), .int .i64 (a 4), .int .i64 (a 5), .int .i64 (a 6)] 23)).alloc (.cells #[.int .i64 5, .int .i64 s] 25)) from below_new (below_new (Below.refl _ _)))
  refine wp_region_after (by kernel_rfl) (by kernel_rfl) ?_
  have hx := @After.cell ((w.alloc (.cells #[.int .i64 (a 0), .int .i64 (a 1), .int .i64 (a 2), .int .i64 (a 3), .int .i64 (a 4), .int .i64 (a 5), .int .i64 (a 6)] 23)).alloc (.cells #[.int .i64 5, .int .i64 s] 25))
  repeat (first
    | (go_big_quiet_step (first
      | (go_at_call 25; exact Calls.after_same (isReplica_any _ _))))
    | rw [HR.out])
  refine wpQuiet_nil ?_
  rintro _ ⟨x, rfl⟩
  go_wp2
  go_ret
  exact ⟨rfl, below_on HB.out x.below⟩


set_option maxHeartbeats 1000000 in
theorem has_at6 (a : Nat → Int) (s : Int) (w : World) (h : decide (1 ≤ s) = true) :
    Calls Try.prog 11 #[.agg #[.int .i64 (a 0), .int .i64 (a 1), .int .i64 (a 2), .int .i64 (a 3), .int .i64 (a 4), .int .i64 (a 5), .int .i64 (a 6)], .agg #[.int .i64 6, .int .i64 s]] w fun e w' => e = .returned (.bool (decide (s ≤ a 6))) ∧ Below w.heap.size w w' := by
  have HR := Lib.hid (show M.repB 6 = true by decide)
  go_enter Try.func11, Try.ntmps11
  go_wp2_with (fail)
  have HB := Lib.hid (show Below w.heap.size w ((w.alloc (.cells #[.int .i64 (a 0), .int .i64 (a 1), .int .i64 (a 2), .int .i64 (a 3), .int .i64 (a 4), .int .i64 (a 5), .int .i64 (a 6)] 23)).alloc (.cells #[.int .i64 6, .int .i64 s] 25)) from below_new (below_new (Below.refl _ _)))
  refine wp_region_after (by kernel_rfl) (by kernel_rfl) ?_
  have hx := @After.cell ((w.alloc (.cells #[.int .i64 (a 0), .int .i64 (a 1), .int .i64 (a 2), .int .i64 (a 3), .int .i64 (a 4), .int .i64 (a 5), .int .i64 (a 6)] 23)).alloc (.cells #[.int .i64 6, .int .i64 s] 25))
  repeat (first
    | (go_big_quiet_step (first
      | (go_at_call 25; exact Calls.after_same (isReplica_any _ _))))
    | rw [HR.out])
  refine wpQuiet_nil ?_
  rintro _ ⟨x, rfl⟩
  go_wp2
  go_ret
  exact ⟨rfl, below_on HB.out x.below⟩


theorem has_any (a : Nat → Int) (r s : Int) (w : World) :
    Calls Try.prog 11 #[.agg #[.int .i64 (a 0), .int .i64 (a 1), .int .i64 (a 2), .int .i64 (a 3), .int .i64 (a 4), .int .i64 (a 5), .int .i64 (a 6)], .agg #[.int .i64 r, .int .i64 s]] w fun e w' => e = .returned (.bool (M.has a r s)) ∧ Below w.heap.size w w' := by
  cases hr : M.repB r
  · rw [M.has_none hr]
    exact has_none a r s w hr
  · by_cases h : 1 ≤ s
    · obtain ⟨k, hk, rfl⟩ := M.rep_nat hr
      rw [M.has_at hk h]
      rcases M.seven hk with rfl | rfl | rfl | rfl | rfl | rfl | rfl
      · exact has_at0 a s w (by simpa using h)
      · exact has_at1 a s w (by simpa using h)
      · exact has_at2 a s w (by simpa using h)
      · exact has_at3 a s w (by simpa using h)
      · exact has_at4 a s w (by simpa using h)
      · exact has_at5 a s w (by simpa using h)
      · exact has_at6 a s w (by simpa using h)
    · rw [M.has_low h]
      exact has_low a r s w hr (by simpa using h)
end Go.Proofs.Ytcombmifjimkoaa
