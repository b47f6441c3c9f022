/- Contracts: does a record stand there for the last time; the Seq of what waits; no conditions but those that they name. -/
import Derived.Test.YtgaglcfoodbcfaaMpl
import Derived.BigQuiet
import Derived.Deep.QuietTactic
namespace Go.Proofs.Ytgaglcfoodbcfaa
open Go.ChangeShapes Go.WideShapes Go.ChangeAt Go.RowKit

attribute [local go_sem ↓] run_same_inst Dp.run_max_mx Dp.run_min_mn
set_option maxHeartbeats 4000000 in
set_option maxRecDepth 100000 in
theorem last_any {w : World} {v : Value} {X : List Rv} {k : Nat} (h : Rows w v X) (hl : X.length ≤ 1000) (hk : k < X.length) : Calls Try.prog 24 #[v, .int .i64 k] w fun e w' => e = .returned (.bool (lastB (keysOf X) k)) ∧ Below w.heap.size w w' := by
  obtain ⟨A, c, rfl⟩ := rowN_sliceOf h.row
  obtain ⟨x, hx⟩ : ∃ x, X[k]? = some x := ⟨_, List.getElem?_eq_getElem hk⟩
  have HI := Lib.hid (lastB_iff (keysOf_at hx))
  have HKX := Lib.hid hx
  have HH := Lib.hid h
  clear h hx
  go_enter Try.func24, Try.ntmps24
  go_wp2
  go_loopw [5] (fun i wr => ∃ j : Nat, i = .int .i64 j ∧ k + 1 ≤ j ∧ j ≤ X.length ∧ Hid (Below w.heap.size w wr) ∧ Hid (∀ q, k < q → q < j → (keysOf X)[q]? ≠ some x.key)) (fun i _ => X.length - (intOf i).toNat)
  case atStart => exact ⟨k + 1, by go_num, Nat.le_refl _, hk, Lib.hid (Below.refl _ _), Lib.hid (fun q h1 h2 => absurd h1 (by omega))⟩
  case round =>
    obtain ⟨j, rfl, hj1, hj2, HW, HN⟩ := hrel
    by_cases hlt : j < X.length
    · obtain ⟨y, hy⟩ : ∃ y, X[j]? = some y := ⟨_, List.getElem?_eq_getElem hlt⟩
      obtain ⟨b, o, rfl, hbl, hrr⟩ := rowN_range (HH.out.below HW.out).row hy
      obtain ⟨b', o', e', hbl', hrr'⟩ := rowN_range (HH.out.below HW.out).row HKX.out
      simp only [Option.some.injEq, Addr.mk.injEq, and_true] at e'
      obtain ⟨rfl, rfl⟩ := e'
      have y0 : wr.cell? ⟨b, o + j * 25, none⟩ = some (.int .i64 y.r.ir) := by have := hrr 0 _ rfl; simpa using this
      have y1 : wr.cell? ⟨b, o + j * 25 + 1, none⟩ = some (.int .i64 y.r.is) := hrr 1 _ rfl
      have x0 : wr.cell? ⟨b, o + k * 25, none⟩ = some (.int .i64 x.r.ir) := by have := hrr' 0 _ rfl; simpa using this
      have x1 : wr.cell? ⟨b, o + k * 25 + 1, none⟩ = some (.int .i64 x.r.is) := hrr' 1 _ rfl
      have hi1 : (j : Int) < (X.length : Int) := by omega
      have hi2 : (k : Int) < (X.length : Int) := by omega
      have HYK := Lib.hid (keysOf_at hy)
      clear hrr hrr' hy
      rcases hq : M.eq2 y.r.ir y.r.is x.r.ir x.r.is with _ | _
      · have HNE := Lib.hid (show y.key ≠ x.key from fun e => by
          have : M.eq2 y.r.ir y.r.is x.r.ir x.r.is = true := by
            unfold Rv.key at e
            simp only [Prod.mk.injEq] at e
            unfold M.eq2
            exact decide_eq_true e
          rw [hq] at this; cases this)
        go_wp2
        go_quiet (fail)
        go_wp2
        go_roundw
        case rel => exact ⟨j + 1, by go_num, by omega, hlt, Lib.hid (below_drewN HW.out _), Lib.hid (fun q h1 h2 => by
          by_cases e : q = j
          · subst e; rw [HYK.out]; exact fun e => HNE.out (Option.some.inj e)
          · exact HN.out q h1 (by omega))⟩
        case measure => simp [intOf]; omega
      · have HEQ := Lib.hid (show lastB (keysOf X) k = false by
          rw [Bool.eq_false_iff]
          intro e
          refine HI.out.1 e j (by omega) ?_
          rw [HYK.out]
          unfold M.eq2 at hq
          have := of_decide_eq_true hq
          unfold Rv.key
          rw [this.1, this.2])
        go_wp2
        go_quiet (fail)
        go_wp2
        go_ret
        exact ⟨ret_bool HEQ.out.symm, below_drewN HW.out _⟩
    · have HEQ := Lib.hid (show lastB (keysOf X) k = true from HI.out.2 (fun q hq => by
        by_cases e : q < j
        · exact HN.out q hq e
        · rw [List.getElem?_eq_none (by unfold keysOf; simp; omega)]; simp))
      obtain rfl : j = X.length := by omega
      go_wp2
      go_ret
      exact ⟨ret_bool HEQ.out.symm, HW.out⟩
set_option maxHeartbeats 1000000 in
theorem following_any (n : Int) (w : World) : Calls Try.prog 35 #[.int .i64 n] w fun e w' => e = .returned (.int .i64 (fol n)) ∧ w = w' := by
  have hf : wrap64 (Dp.M.mn n 1099511627775 + 1) = fol n := rfl
  go_enter Try.func35, Try.ntmps35
  go_wp2
  go_ret
  exact ⟨rfl, rfl⟩
end Go.Proofs.Ytgaglcfoodbcfaa
