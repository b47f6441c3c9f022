/- Contracts of the next slot, of the last one of an instance; no conditions but those that they name. -/
import Derived.Test.YtpknkhgkejkpkaaGreatPx
import Derived.BigQuiet
import Derived.Deep.QuietTactic

namespace Go.Proofs.YtpknkhgkejkpkaaGreat
open Go.ChangeShapes Go.WideShapes Go.ChangeAt Go.RowKit

attribute [local go_sem ↓] run_same_inst Dp.run_max_mx Dp.run_min_mn
set_option maxHeartbeats 4000000 in
set_option maxRecDepth 100000 in
theorem last_any {w : World} {v : Value} {X : List Rv} {k : Nat} (h : Rows w v X) (hl : X.length ≤ 1000) (hk : k < X.length) : Calls Tryz.prog 89 #[v, .int .i64 k] w fun e w' => e = .returned (.bool (lastB (keysOf X) k)) ∧ Below w.heap.size w w' := by
  obtain ⟨A, c, rfl⟩ := rowN_sliceOf h.row
  obtain ⟨x, hx⟩ : ∃ x, X[k]? = some x := ⟨_, List.getElem?_eq_getElem hk⟩
  have HI := Lib.hid (lastB_iff (keysOf_at hx))
  have HKX := Lib.hid hx
  have HH := Lib.hid h
  clear h hx
  go_enter Tryz.func89, Tryz.ntmps89
  go_wp2
  go_loopw [5] (fun i wr => ∃ j : Nat, i = .int .i64 j ∧ k + 1 ≤ j ∧ j ≤ X.length ∧ Hid (Below w.heap.size w wr) ∧ Hid (∀ q, k < q → q < j → (keysOf X)[q]? ≠ some x.key)) (fun i _ => X.length - (intOf i).toNat)
  case atStart => exact ⟨k + 1, by go_num, Nat.le_refl _, hk, Lib.hid (Below.refl _ _), Lib.hid (fun q h1 h2 => absurd h1 (by omega))⟩
  case round =>
    obtain ⟨j, rfl, hj1, hj2, HW, HN⟩ := hrel
    by_cases hlt : j < X.length
    · obtain ⟨y, hy⟩ : ∃ y, X[j]? = some y := ⟨_, List.getElem?_eq_getElem hlt⟩
      obtain ⟨b, o, rfl, hbl, hrr⟩ := rowN_range (HH.out.below HW.out).row hy
      obtain ⟨b', o', e', hbl', hrr'⟩ := rowN_range (HH.out.below HW.out).row HKX.out
      simp only [Option.some.injEq, Addr.mk.injEq, and_true] at e'
      obtain ⟨rfl, rfl⟩ := e'
      have y0 : wr.cell? ⟨b, o + j * 25, none⟩ = some (.int .i64 y.r.ir) := by have := hrr 0 _ rfl; simpa using this
      have y1 : wr.cell? ⟨b, o + j * 25 + 1, none⟩ = some (.int .i64 y.r.is) := hrr 1 _ rfl
      have x0 : wr.cell? ⟨b, o + k * 25, none⟩ = some (.int .i64 x.r.ir) := by have := hrr' 0 _ rfl; simpa using this
      have x1 : wr.cell? ⟨b, o + k * 25 + 1, none⟩ = some (.int .i64 x.r.is) := hrr' 1 _ rfl
      have hi1 : (j : Int) < (X.length : Int) := by omega
      have hi2 : (k : Int) < (X.length : Int) := by omega
      have HYK := Lib.hid (keysOf_at hy)
      clear hrr hrr' hy
      rcases hq : M.eq2 y.r.ir y.r.is x.r.ir x.r.is with _ | _
      · have HNE := Lib.hid (show y.key ≠ x.key from fun e => by
          have : M.eq2 y.r.ir y.r.is x.r.ir x.r.is = true := by
            unfold Rv.key at e
            simp only [Prod.mk.injEq] at e
            unfold M.eq2
            exact decide_eq_true e
          rw [hq] at this; cases this)
        go_wp2
        go_quiet (fail)
        go_wp2
        go_roundw
        case rel => exact ⟨j + 1, by go_num, by omega, hlt, Lib.hid (below_drewN HW.out _), Lib.hid (fun q h1 h2 => by
          by_cases e : q = j
          · subst e; rw [HYK.out]; exact fun e => HNE.out (Option.some.inj e)
          · exact HN.out q h1 (by omega))⟩
        case measure => simp [intOf]; omega
      · have HEQ := Lib.hid (show lastB (keysOf X) k = false by
          rw [Bool.eq_false_iff]
          intro e
          refine HI.out.1 e j (by omega) ?_
          rw [HYK.out]
          unfold M.eq2 at hq
          have := of_decide_eq_true hq
          unfold Rv.key
          rw [this.1, this.2])
        go_wp2
        go_quiet (fail)
        go_wp2
        go_ret
        exact ⟨ret_bool HEQ.out.symm, below_drewN HW.out _⟩
    · have HEQ := Lib.hid (show lastB (keysOf X) k = true from HI.out.2 (fun q hq => by
        by_cases e : q < j
        · exact HN.out q hq e
        · rw [List.getElem?_eq_none (by unfold keysOf; simp; omega)]; simp))
      obtain rfl : j = X.length := by omega
      go_wp2
      go_ret
      exact ⟨ret_bool HEQ.out.symm, HW.out⟩
set_option maxHeartbeats 1000000 in
theorem following_any (n : Int) (w : World) : Calls Tryz.prog 57 #[.int .i64 n] w fun e w' => e = .returned (.int .i64 (fol n)) ∧ w = w' := by
  have hf : wrap64 (Dp.M.mn n 1099511627775 + 1) = fol n := rfl
  go_enter Tryz.func57, Tryz.ntmps57
  go_wp2
  go_ret
  exact ⟨rfl, rfl⟩
end Go.Proofs.YtpknkhgkejkpkaaGreat

namespace Go.Proofs.YtpknkhgkejkpkaaGreat
open Go.ChangeShapes Go.WideShapes Go.ChangeAt Go.RowKit

attribute [local go_sem ↓] Dp.run_max_mx Dp.run_min_mn
theorem wrap_one {n : Int} (h : 0 ≤ n) (h' : n ≤ 1048576) : wrap64 (n + 1) = n + 1 := by
  obtain ⟨k, rfl⟩ := Int.eq_ofNat_of_zero_le h
  have := wrap_small (n := k + 1) (by omega)
  simpa using this
theorem slots_nonneg (p : Int) : ∀ (l : List M.Rec) (n : Int), 0 ≤ n → n ≤ slotsL p n l
  | [], n, _ => Int.le_refl n
  | r :: l, n, h => by
    have h1 : n ≤ slot1 p n r := by unfold slot1 Dp.M.mx; split <;> (try split) <;> omega
    exact Int.le_trans h1 (slots_nonneg p l (slot1 p n r) (by omega))
set_option maxHeartbeats 4000000 in
set_option maxRecDepth 100000 in
theorem slot_any {w : World} {v : Value} {X : List Rv} (p : Int) (h : Rows w v X) (hl : X.length ≤ 1000) : Calls Tryz.prog 27 #[v, .int .i64 p] w fun e w' => e = .returned (.int .i64 (nextSlot p (rcs X))) ∧ Below w.heap.size w w' := by
  obtain ⟨A, c, rfl⟩ := rowN_sliceOf h.row
  have HH := Lib.hid h
  clear h
  go_enter Tryz.func27, Tryz.ntmps27
  go_wp2
  go_loopw [5, 10] (fun n i wr => ∃ k : Nat, i = .int .i64 k ∧ k ≤ X.length ∧ n = .int .i64 (slotsL p 0 (rcs (X.take k))) ∧ Hid (Below w.heap.size w wr)) (fun _ i _ => X.length - (intOf i).toNat)
  case atStart => exact ⟨0, rfl, Nat.zero_le _, rfl, Lib.hid (Below.refl _ _)⟩
  case round =>
    obtain ⟨k, rfl, hk, rfl, HW⟩ := hrel
    by_cases hlt : k < X.length
    · obtain ⟨x, hx⟩ : ∃ x, X[k]? = some x := ⟨_, List.getElem?_eq_getElem hlt⟩
      have hxm : x ∈ X := List.mem_of_getElem? hx
      obtain ⟨b, o, rfl, hbl, hrr⟩ := rowN_range (HH.out.below HW.out).row hx
      have HX := Lib.hid ((HH.out.tx x hxm).below HW.out)
      have HST := Lib.hid (slots_take (p := p) (n := 0) hx)
      obtain ⟨r, va, vb⟩ := x
      obtain ⟨A3, c3, ea⟩ := rowN_sliceOf HX.out.rs
      obtain ⟨A4, c4, eb⟩ := rowN_sliceOf HX.out.ws
      dsimp only at ea eb
      subst ea eb
      have HRR := Lib.hid (show wr.rangeAt b (o + k * 25) [.int .i64 r.ir, .int .i64 r.is, .int .i64 r.st, .int .i64 r.pn, .int .i64 r.pr, .int .i64 r.bn, .int .i64 r.br, .int .i64 r.c.k, .int .i64 r.c.tc, .int .i64 r.c.tn, .int .i64 r.c.tt, .int .i64 r.c.tk, .int .i64 r.c.sh, (.slice A3 r.c.rs.length c3), (.slice A4 r.c.ws.length c4), .bool r.c.cm, .int .i64 r.sq, .int .i64 r.d0, .int .i64 r.d1, .int .i64 r.d2, .int .i64 r.d3, .int .i64 r.d4, .int .i64 r.d5, .int .i64 r.d6, .bool r.kp] from hrr)
      have hk1 : (k : Int) < (X.length : Int) := by omega
      have HW3 := Lib.hid (below_on HW.out (below_new (o := .cells #[.int .i64 r.ir, .int .i64 r.is, .int .i64 r.st, .int .i64 r.pn, .int .i64 r.pr, .int .i64 r.bn, .int .i64 r.br, .int .i64 r.c.k, .int .i64 r.c.tc, .int .i64 r.c.tn, .int .i64 r.c.tt, .int .i64 r.c.tk, .int .i64 r.c.sh, (.slice A3 r.c.rs.length c3), (.slice A4 r.c.ws.length c4), .bool r.c.cm, .int .i64 r.sq, .int .i64 r.d0, .int .i64 r.d1, .int .i64 r.d2, .int .i64 r.d3, .int .i64 r.d4, .int .i64 r.d5, .int .i64 r.d6, .bool r.kp] 41) (Below.refl wr.heap.size wr)))
      clear hx hxm hbl hrr HX
      generalize slotsL p 0 (rcs (X.take k)) = n at *
      by_cases e : r.ir = p
      · have HS := Lib.hid (show slot1 p n r = Dp.M.mx n r.is by unfold slot1; rw [if_pos e])
        have q1 : (r.ir == p) = true := by rw [e]; simp
        clear e
        go_wp2_with (first
          | (with_reducible refine wpList_load_mid rfl 41 _ rfl b (o + k * 25) rfl [.int .i64 r.ir, .int .i64 r.is, .int .i64 r.st, .int .i64 r.pn, .int .i64 r.pr, .int .i64 r.bn, .int .i64 r.br, .int .i64 r.c.k, .int .i64 r.c.tc, .int .i64 r.c.tn, .int .i64 r.c.tt, .int .i64 r.c.tk, .int .i64 r.c.sh, (.slice A3 r.c.rs.length c3), (.slice A4 r.c.ws.length c4), .bool r.c.cm, .int .i64 r.sq, .int .i64 r.d0, .int .i64 r.d1, .int .i64 r.d2, .int .i64 r.d3, .int .i64 r.d4, .int .i64 r.d5, .int .i64 r.d6, .bool r.kp] _ HRR.out Tryz.underlying41 rfl (by kernel_rfl) ?_)
          | (with_reducible refine wpList_store_fresh rfl 41 _ _ rfl wr.heap.size rfl 41 _ [.int .i64 r.ir, .int .i64 r.is, .int .i64 r.st, .int .i64 r.pn, .int .i64 r.pr, .int .i64 r.bn, .int .i64 r.br, .int .i64 r.c.k, .int .i64 r.c.tc, .int .i64 r.c.tn, .int .i64 r.c.tt, .int .i64 r.c.tk, .int .i64 r.c.sh, (.slice A3 r.c.rs.length c3), (.slice A4 r.c.ws.length c4), .bool r.c.cm, .int .i64 r.sq, .int .i64 r.d0, .int .i64 r.d1, .int .i64 r.d2, .int .i64 r.d3, .int .i64 r.d4, .int .i64 r.d5, .int .i64 r.d6, .bool r.kp] rfl rfl rfl (by kernel_rfl) rfl ?_)
          | fail)
        go_roundw
        case rel => exact ⟨k + 1, by go_num, hlt, by rw [HST.out]; dsimp only; rw [HS.out], HW3⟩
        case measure => simp [intOf]; omega
      · have HS := Lib.hid (show slot1 p n r = n by unfold slot1; rw [if_neg e])
        have q1 : (r.ir == p) = false := by rw [beq_eq_false_iff_ne]; exact e
        clear e
        go_wp2_with (first
          | (with_reducible refine wpList_load_mid rfl 41 _ rfl b (o + k * 25) rfl [.int .i64 r.ir, .int .i64 r.is, .int .i64 r.st, .int .i64 r.pn, .int .i64 r.pr, .int .i64 r.bn, .int .i64 r.br, .int .i64 r.c.k, .int .i64 r.c.tc, .int .i64 r.c.tn, .int .i64 r.c.tt, .int .i64 r.c.tk, .int .i64 r.c.sh, (.slice A3 r.c.rs.length c3), (.slice A4 r.c.ws.length c4), .bool r.c.cm, .int .i64 r.sq, .int .i64 r.d0, .int .i64 r.d1, .int .i64 r.d2, .int .i64 r.d3, .int .i64 r.d4, .int .i64 r.d5, .int .i64 r.d6, .bool r.kp] _ HRR.out Tryz.underlying41 rfl (by kernel_rfl) ?_)
          | (with_reducible refine wpList_store_fresh rfl 41 _ _ rfl wr.heap.size rfl 41 _ [.int .i64 r.ir, .int .i64 r.is, .int .i64 r.st, .int .i64 r.pn, .int .i64 r.pr, .int .i64 r.bn, .int .i64 r.br, .int .i64 r.c.k, .int .i64 r.c.tc, .int .i64 r.c.tn, .int .i64 r.c.tt, .int .i64 r.c.tk, .int .i64 r.c.sh, (.slice A3 r.c.rs.length c3), (.slice A4 r.c.ws.length c4), .bool r.c.cm, .int .i64 r.sq, .int .i64 r.d0, .int .i64 r.d1, .int .i64 r.d2, .int .i64 r.d3, .int .i64 r.d4, .int .i64 r.d5, .int .i64 r.d6, .bool r.kp] rfl rfl rfl (by kernel_rfl) rfl ?_)
          | fail)
        go_roundw
        case rel => exact ⟨k + 1, by go_num, hlt, by rw [HST.out]; dsimp only; rw [HS.out], HW3⟩
        case measure => simp [intOf]; omega
    · obtain rfl : k = X.length := by omega
      rw [List.take_length]
      have h0 := slots_nonneg p (rcs X) 0 (Int.le_refl 0)
      have HE := Lib.hid (show wrap64 (Dp.M.mn (slotsL p 0 (rcs X)) 1048576 + 1) = nextSlot p (rcs X) from wrap_one (by unfold Dp.M.mn; split <;> omega) (by unfold Dp.M.mn; split <;> omega))
      go_wp2
      go_ret
      exact ⟨by show Ending.returned (.int .i64 (wrap64 (Dp.M.mn (slotsL p 0 (rcs X)) 1048576 + 1))) = _; rw [HE.out], HW.out⟩
set_option maxHeartbeats 4000000 in
set_option maxRecDepth 100000 in
theorem dslot_any {w : World} {v : Value} {X : List Rv} (p : Int) (h : Rows w v X) (hl : X.length ≤ 1000) : Calls Tryz.prog 31 #[v, .int .i64 p] w fun e w' => e = .returned (.int .i64 (nextSlot p (rcs X))) ∧ Below w.heap.size w w' := by
  obtain ⟨A, c, rfl⟩ := rowN_sliceOf h.row
  have HH := Lib.hid h
  clear h
  go_enter Tryz.func31, Tryz.ntmps31
  go_wp2
  go_loopw [5, 6] (fun n i wr => ∃ k : Nat, i = .int .i64 k ∧ k ≤ X.length ∧ n = .int .i64 (slotsL p 0 (rcs (X.take k))) ∧ Hid (Below w.heap.size w wr)) (fun _ i _ => X.length - (intOf i).toNat)
  case atStart => exact ⟨0, rfl, Nat.zero_le _, rfl, Lib.hid (Below.refl _ _)⟩
  case round =>
    obtain ⟨k, rfl, hk, rfl, HW⟩ := hrel
    by_cases hlt : k < X.length
    · obtain ⟨x, hx⟩ : ∃ x, X[k]? = some x := ⟨_, List.getElem?_eq_getElem hlt⟩
      obtain ⟨b, o, rfl, hbl, hrr⟩ := rowN_range (HH.out.below HW.out).row hx
      have HST := Lib.hid (slots_take (p := p) (n := 0) hx)
      have y0 : wr.cell? ⟨b, o + k * 25, none⟩ = some (.int .i64 x.r.ir) := by have := hrr 0 _ rfl; simpa using this
      have y1 : wr.cell? ⟨b, o + k * 25 + 1, none⟩ = some (.int .i64 x.r.is) := hrr 1 _ rfl
      have hk1 : (k : Int) < (X.length : Int) := by omega
      clear hx hbl hrr
      generalize slotsL p 0 (rcs (X.take k)) = n at *
      by_cases e : x.r.ir = p
      · have q1 : (x.r.ir == p) = true := by rw [e]; simp
        by_cases f : n < x.r.is
        · have HS := Lib.hid (show slot1 p n x.r = x.r.is by unfold slot1 Dp.M.mx; rw [if_pos e, if_pos f])
          have q2 : decide (n < x.r.is) = true := decide_eq_true f
          clear e f
          go_wp2
          go_roundw
          case rel => exact ⟨k + 1, by go_num, hlt, by rw [HST.out, HS.out], HW⟩
          case measure => simp [intOf]; omega
        · have HS := Lib.hid (show slot1 p n x.r = n by unfold slot1 Dp.M.mx; rw [if_pos e, if_neg f])
          have q2 : decide (n < x.r.is) = false := decide_eq_false f
          clear e f
          go_wp2
          go_roundw
          case rel => exact ⟨k + 1, by go_num, hlt, by rw [HST.out, HS.out], HW⟩
          case measure => simp [intOf]; omega
      · have HS := Lib.hid (show slot1 p n x.r = n by unfold slot1; rw [if_neg e])
        have q1 : (x.r.ir == p) = false := by rw [beq_eq_false_iff_ne]; exact e
        clear e
        go_wp2
        go_roundw
        case rel => exact ⟨k + 1, by go_num, hlt, by rw [HST.out, HS.out], HW⟩
        case measure => simp [intOf]; omega
    · obtain rfl : k = X.length := by omega
      rw [List.take_length]
      have h0 := slots_nonneg p (rcs X) 0 (Int.le_refl 0)
      by_cases f : 1048576 < slotsL p 0 (rcs X)
      · have HE := Lib.hid (show (1048577 : Int) = nextSlot p (rcs X) by unfold nextSlot Dp.M.mn; rw [if_pos f]; rfl)
        go_wp2
        go_ret
        exact ⟨by rw [← HE.out]; rfl, HW.out⟩
      · have HE := Lib.hid (show slotsL p 0 (rcs X) + 1 = nextSlot p (rcs X) by unfold nextSlot Dp.M.mn; rw [if_neg f])
        go_wp2
        go_ret
        exact ⟨by show Ending.returned (.int .i64 (slotsL p 0 (rcs X) + 1)) = _; rw [HE.out], HW.out⟩
end Go.Proofs.YtpknkhgkejkpkaaGreat
