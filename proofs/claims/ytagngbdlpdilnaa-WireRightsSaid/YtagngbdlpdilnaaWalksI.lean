/- Contract of the document's Rights; no conditions but the lengths that it names. -/
import Derived.Test.YtagngbdlpdilnaaWalksH
namespace Go.Proofs.Ytagngbdlpdilnaa
open Go.RowKit

/-- Nothing but draws. -/
def Drawn (w w' : World) : Prop := ∃ n, w' = w.drewN n
theorem Drawn.refl (w : World) : Drawn w w := ⟨0, rfl⟩
theorem Drawn.on {w w' : World} (h : Drawn w w') (n : Nat) : Drawn w (w'.drewN n) := by
  obtain ⟨m, rfl⟩ := h
  exact ⟨m + n, by rw [World.drewN_drewN]⟩
theorem Drawn.cell {w w' : World} (h : Drawn w w') (a : Addr) : w'.cell? a = w.cell? a := by
  obtain ⟨m, rfl⟩ := h; rfl
theorem Drawn.below {w w' : World} (h : Drawn w w') : Below w.heap.size w w' := by
  obtain ⟨m, rfl⟩ := h; exact below_drewN (Below.refl _ _) _

theorem dright_q (x : List UInt8) (w : World) : Calls Try.prog 77 #[.string ⟨x.toArray⟩] w fun e w' => e = .returned (.bool (M.rightB x.length)) ∧ w' = w := (dright_l x w).mono fun _ _ h => ⟨h.1, h.2.symm⟩

set_option maxHeartbeats 2000000 in
theorem drights_any {w : World} {v : Value} {ss : List (List UInt8)} (h : Words w v ss) (hl : ss.length ≤ 1000) (hs : ∀ x ∈ ss, x.length ≤ 1000) : Calls Try.prog 49 #[v] w fun e w' => e = .returned (.bool (M.rightsB ss)) ∧ Below w.heap.size w w' := by
  obtain ⟨A, c, rfl, hc, hx⟩ := h.opened
  have HX := Lib.hid hx
  have HL := Lib.hid hs
  clear hx h hs
  go_enter Try.func49, Try.ntmps49
  go_wp2
  go_loopw [3] (fun i wr => ∃ k : Nat, k ≤ ss.length ∧ i = .int .i64 k ∧ M.okTo ss k ∧ Drawn w wr) (fun i _ => ss.length - (intOf i).toNat)
  case atStart => exact ⟨0, Nat.zero_le _, rfl, M.okTo_zero ss, Drawn.refl w⟩
  case round =>
    obtain ⟨k, hk, rfl, hok, hd⟩ := hrel
    have HS := Lib.hid hok
    have HD := Lib.hid hd
    clear hok hd
    by_cases hlt : k < ss.length
    · obtain ⟨b, o, rfl, hb, hy⟩ := HX.out (by omega)
      have hcell := (HD.out.cell _).trans (hy k hlt)
      obtain ⟨x, hxk⟩ : ∃ x, x = ss.getD k [] := ⟨_, rfl⟩
      rw [← hxk] at hcell
      have hx1 : x.length ≤ 1000 := by rw [hxk]; exact HL.out _ (M.getD_mem hlt)
      have HXK := Lib.hid hxk
      clear hxk
      cases k with
      | zero =>
        rw [Nat.add_zero] at hcell
        clear hy
        have hi1 : (0 : Int) < (ss.length : Int) := by omega
        rcases two (M.rightB x.length) with e | e
        · go_wp2
          go_quiet ((go_at_call 77; exact Calls.quiet_of_same (dright_q _ _)))
          go_wp2
          go_roundw
          case rel => exact ⟨1, by omega, by go_num, M.okTo_succ HS.out (by rw [M.okAt_zero HXK.out]; exact e), HD.out.on _⟩
          case measure => simp [intOf]; omega
        · go_wp2
          go_quiet ((go_at_call 77; exact Calls.quiet_of_same (dright_q _ _)))
          go_wp2
          go_ret
          exact ⟨ret_bool (M.rights_no hlt (by rw [M.okAt_zero HXK.out]; exact e)), (HD.out.on _).below⟩
      | succ j =>
        have hcell2 := (HD.out.cell _).trans (hy j (by omega))
        obtain ⟨y, hyk⟩ : ∃ y, y = ss.getD j [] := ⟨_, rfl⟩
        rw [← hyk] at hcell2
        have hy1 : y.length ≤ 1000 := by rw [hyk]; exact HL.out _ (M.getD_mem (by omega))
        have HYK := Lib.hid hyk
        have HE := Lib.hid (M.okAt_succ HXK.out HYK.out)
        clear hy hyk
        have hi1 : (j : Int) + 1 < (ss.length : Int) := by omega
        have hi2 : (j : Int) < (ss.length : Int) := by omega
        have hj1 : IntKind.i64.wrap ((j : Int) + 1 - 1) = (j : Int) := by rw [IntKind.wrap_i64]; omega
        rcases two (M.rightB x.length) with e | e
        · rcases two (M.ltB y x) with f | f
          · go_wp2
            go_quiet ((first | (go_at_call 77; exact Calls.quiet_of_same (dright_q _ _)) | (go_at_call 78; exact Calls.quiet_of (before_any _ _ _ (by omega) (by omega)))))
            go_wp2
            go_roundw
            case rel => exact ⟨j + 1 + 1, by omega, by go_num, M.okTo_succ HS.out (by rw [HE.out, e, f]; rfl), HD.out.on _⟩
            case measure => simp [intOf]; omega
          · go_wp2
            go_quiet ((first | (go_at_call 77; exact Calls.quiet_of_same (dright_q _ _)) | (go_at_call 78; exact Calls.quiet_of (before_any _ _ _ (by omega) (by omega)))))
            go_wp2
            go_ret
            exact ⟨ret_bool (M.rights_no hlt (by rw [HE.out, f, Bool.and_false])), (HD.out.on _).below⟩
        · go_wp2
          go_quiet ((first | (go_at_call 77; exact Calls.quiet_of_same (dright_q _ _)) | (go_at_call 78; exact Calls.quiet_of (before_any _ _ _ (by omega) (by omega)))))
          go_wp2
          go_ret
          exact ⟨ret_bool (M.rights_no hlt (by rw [HE.out, e, Bool.false_and])), (HD.out.on _).below⟩
    · go_wp2
      go_ret
      exact ⟨ret_bool (M.rights_len HS.out hlt), HD.out.below⟩
end Go.Proofs.Ytagngbdlpdilnaa
