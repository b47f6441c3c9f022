/- Contracts of both Rights; no conditions but the lengths that they name. -/
import Derived.Test.YtagngbdlpdilnaaWalksG
namespace Go.Proofs.Ytagngbdlpdilnaa
open Go.RowKit

namespace M
/-- May a text stand where it stands? -/
def okAt (ss : List (List UInt8)) (k : Nat) : Bool := rightB (ss.getD k []).length && (decide (k = 0) || ltB (ss.getD (k - 1) []) (ss.getD k []))
def okTo (ss : List (List UInt8)) (k : Nat) : Prop := ∀ i, i < k → okAt ss i = true
def rightsB (ss : List (List UInt8)) : Bool := decide (ss.length ≤ 8) && (List.range ss.length).all (okAt ss)
theorem rightsB_to {ss : List (List UInt8)} : rightsB ss = true ↔ ss.length ≤ 8 ∧ okTo ss ss.length := by simp [rightsB, okTo]
theorem okTo_zero (ss : List (List UInt8)) : okTo ss 0 := fun i h => absurd h (by omega)
theorem okTo_succ {ss : List (List UInt8)} {k : Nat} (h : okTo ss k) (hk : okAt ss k = true) : okTo ss (k + 1) := fun i hi => by
  by_cases e : i = k
  · rw [e]; exact hk
  · exact h i (by omega)
theorem rights_no {ss : List (List UInt8)} {k : Nat} (hk : k < ss.length) (h : okAt ss k = false) : false = rightsB ss := by
  cases e : rightsB ss
  · rfl
  · rw [(rightsB_to.1 e).2 k hk] at h; cases h
theorem rights_long {ss : List (List UInt8)} (h : ¬ ss.length ≤ 8) : false = rightsB ss := by simp [rightsB, h]
theorem rights_end {ss : List (List UInt8)} {k : Nat} (h : okTo ss k) (hk : ¬ k < ss.length) (hl : ss.length ≤ 8) : true = rightsB ss := by
  rw [eq_comm, rightsB_to]; exact ⟨hl, fun i hi => h i (by omega)⟩
theorem rights_len {ss : List (List UInt8)} {k : Nat} (h : okTo ss k) (hk : ¬ k < ss.length) : decide ((ss.length : Int) ≤ 8) = rightsB ss := by
  rw [Bool.eq_iff_iff, decide_eq_true_eq, rightsB_to]
  constructor
  · intro hl; exact ⟨by omega, fun i hi => h i (by omega)⟩
  · rintro ⟨hl, _⟩; omega
theorem okAt_zero {ss : List (List UInt8)} {x : List UInt8} (hx : x = ss.getD 0 []) : okAt ss 0 = rightB x.length := by simp [okAt, hx]
theorem okAt_succ {ss : List (List UInt8)} {x y : List UInt8} {j : Nat} (hx : x = ss.getD (j + 1) []) (hy : y = ss.getD j []) : okAt ss (j + 1) = (rightB x.length && ltB y x) := by simp [okAt, hx, hy]
end M
theorem less_is (x y : List UInt8) : Op.bytesLess x y = M.ltB x y := bytesLess_eq x y

theorem run_geq_str (P : Program) (w : World) (t : TypeId) (x y : List UInt8) : (binOp .geq t (.string ⟨x.toArray⟩) (.string ⟨y.toArray⟩)).run P w = .ok (.bool (!M.ltB x y)) w := by
  simp [binOp, Op.stringOp, less_is]
theorem right_l (x : List UInt8) (w : World) : Calls Try.prog 115 #[.string ⟨x.toArray⟩] w fun e w' => e = .returned (.bool (M.rightB x.length)) ∧ w = w' := by
  have := right_any ⟨x.toArray⟩ w
  rw [size_mk] at this
  exact this
theorem dright_l (x : List UInt8) (w : World) : Calls Try.prog 77 #[.string ⟨x.toArray⟩] w fun e w' => e = .returned (.bool (M.rightB x.length)) ∧ w = w' := by
  have := dright_any ⟨x.toArray⟩ w
  rw [size_mk] at this
  exact this

attribute [local go_sem ↓] run_geq_str
set_option maxHeartbeats 2000000 in
theorem rights_any {w : World} {v : Value} {ss : List (List UInt8)} (h : Words w v ss) : Calls Try.prog 110 #[v] w fun e w' => e = .returned (.bool (M.rightsB ss)) ∧ w = w' := by
  obtain ⟨A, c, rfl, hc, hx⟩ := h.opened
  have HX := Lib.hid hx
  clear hx h
  by_cases hl : ss.length ≤ 8
  · go_enter Try.func110, Try.ntmps110
    go_wp2
    go_loop [10] (fun i => ∃ k : Nat, k ≤ ss.length ∧ i = .int .i64 k ∧ M.okTo ss k) (fun i => ss.length - (intOf i).toNat)
    case atStart => exact ⟨0, Nat.zero_le _, rfl, M.okTo_zero ss⟩
    case round =>
      obtain ⟨k, hk, rfl, hok⟩ := hrel
      have HS := Lib.hid hok
      clear hok
      by_cases hlt : k < ss.length
      · obtain ⟨b, o, rfl, hb, hy⟩ := HX.out (by omega)
        have hcell := hy k hlt
        obtain ⟨x, hxk⟩ : ∃ x, x = ss.getD k [] := ⟨_, rfl⟩
        rw [← hxk] at hcell
        have HXK := Lib.hid hxk
        clear hxk
        cases k with
        | zero =>
          rw [Nat.add_zero] at hcell
          clear hy
          rcases two (M.rightB x.length) with e | e
          · go_wp2_with (go_at_call 115; refine (right_l _ _).mono ?_; rintro e w' ⟨rfl, rfl⟩)
            go_round
            case rel => exact ⟨1, by omega, by go_num, M.okTo_succ HS.out (by rw [M.okAt_zero HXK.out]; exact e)⟩
            case measure => simp [intOf]; omega
          · go_wp2_with (go_at_call 115; refine (right_l _ _).mono ?_; rintro e w' ⟨rfl, rfl⟩)
            go_ret
            exact ⟨ret_bool (M.rights_no hlt (by rw [M.okAt_zero HXK.out]; exact e)), rfl⟩
        | succ j =>
          have hcell2 := hy j (by omega)
          obtain ⟨y, hyk⟩ : ∃ y, y = ss.getD j [] := ⟨_, rfl⟩
          rw [← hyk] at hcell2
          have HYK := Lib.hid hyk
          have HE := Lib.hid (M.okAt_succ HXK.out HYK.out)
          clear hy hyk
          rcases two (M.rightB x.length) with e | e
          · rcases two (M.ltB y x) with f | f
            · go_wp2_with (go_at_call 115; refine (right_l _ _).mono ?_; rintro e w' ⟨rfl, rfl⟩)
              go_round
              case rel => exact ⟨j + 1 + 1, by omega, by go_num, M.okTo_succ HS.out (by rw [HE.out, e, f]; rfl)⟩
              case measure => simp [intOf]; omega
            · go_wp2_with (go_at_call 115; refine (right_l _ _).mono ?_; rintro e w' ⟨rfl, rfl⟩)
              go_ret
              exact ⟨ret_bool (M.rights_no hlt (by rw [HE.out, f, Bool.and_false])), rfl⟩
          · go_wp2_with (go_at_call 115; refine (right_l _ _).mono ?_; rintro e w' ⟨rfl, rfl⟩)
            go_ret
            exact ⟨ret_bool (M.rights_no hlt (by rw [HE.out, e, Bool.false_and])), rfl⟩
      · go_wp2
        go_ret
        exact ⟨ret_bool (M.rights_end HS.out hlt hl), rfl⟩
  · go_enter Try.func110, Try.ntmps110
    go_wp2
    go_ret
    exact ⟨ret_bool (M.rights_long hl), rfl⟩
end Go.Proofs.Ytagngbdlpdilnaa
