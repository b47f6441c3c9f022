/- Contract of the document's Interfere; no conditions but those that they name. -/
import Derived.Test.YtpknkhgkejkpkaaGreatKeC

namespace Go.Proofs.YtpknkhgkejkpkaaGreat
open Go.ChangeShapes Go.WideShapes Go.ChangeAt Go.RowKit

attribute [local go_sem ↓] run_same_rd run_same_wr run_same_txn run_same_stamp
namespace M
theorem eq2_comm (a b c d : Int) : eq2 a b c d = eq2 c d a b := by
  unfold eq2
  exact decide_eq_decide.2 ⟨fun h => ⟨h.1.symm, h.2.symm⟩, fun h => ⟨h.1.symm, h.2.symm⟩⟩
theorem eq2_refl (a b : Int) : eq2 a b a b = true := by simp [eq2]
theorem meet_comm (l m : List (List UInt8)) : meetB l m = meetB m l := by
  rw [Bool.eq_iff_iff, meetB_iff, meetB_iff]
  exact ⟨fun ⟨x, h1, h2⟩ => ⟨x, h2, h1⟩, fun ⟨x, h1, h2⟩ => ⟨x, h2, h1⟩⟩
theorem inter_comm (a b : Cmd) : interB a b = interB b a := by
  unfold interB
  by_cases h1 : a.k = 0
  · by_cases h2 : b.k = 0
    · simp [h1, h2]
    · simp [h1, h2]
  · by_cases h2 : b.k = 0
    · simp [h1, h2]
    · simp only [h1, h2, if_false]; rw [eq2_comm, meet_comm]
end M
set_option maxHeartbeats 4000000 in
set_option maxRecDepth 100000 in
theorem dinter_any {w : World} (a b : M.Cmd) {va vb ua ub : Value} (h : Rds w va a.rs) (h' : Wrs w vb a.ws) (g : Rds w ua b.rs) (g' : Wrs w ub b.ws) (F : M.Mod a) (G : M.Mod b) : Calls Tryz.prog 24 #[.agg #[.int .i64 a.k, .int .i64 a.tc, .int .i64 a.tn, .int .i64 a.tt, .int .i64 a.tk, .int .i64 a.sh, va, vb, .bool a.cm], .agg #[.int .i64 b.k, .int .i64 b.tc, .int .i64 b.tn, .int .i64 b.tt, .int .i64 b.tk, .int .i64 b.sh, ua, ub, .bool b.cm]] w fun e w' => e = .returned (.bool (M.interB a b)) ∧ Below w.heap.size w w' := by
  have hb1 : Below w.heap.size w ((w.alloc (.cells #[.int .i64 a.k, .int .i64 a.tc, .int .i64 a.tn, .int .i64 a.tt, .int .i64 a.tk, .int .i64 a.sh, va, vb, .bool a.cm] 30)).alloc (.cells #[.int .i64 b.k, .int .i64 b.tc, .int .i64 b.tn, .int .i64 b.tt, .int .i64 b.tk, .int .i64 b.sh, ua, ub, .bool b.cm] 30)) := below_new (below_new (Below.refl _ _))
  have X0 := Lib.hid ((Box.new w a va vb).push (.cells #[.int .i64 b.k, .int .i64 b.tc, .int .i64 b.tn, .int .i64 b.tt, .int .i64 b.tk, .int .i64 b.sh, ua, ub, .bool b.cm] 30))
  have Y0 := Lib.hid (Box.new1 w (.cells #[.int .i64 a.k, .int .i64 a.tc, .int .i64 a.tn, .int .i64 a.tt, .int .i64 a.tk, .int .i64 a.sh, va, vb, .bool a.cm] 30) b ua ub)
  have R0 := Lib.hid (h.below hb1)
  have W0 := Lib.hid (h'.below hb1)
  have S0 := Lib.hid (g.below hb1)
  have V0 := Lib.hid (g'.below hb1)
  have B0 := Lib.hid hb1
  clear h h' g g' hb1
  by_cases e0 : a.k = 0
  · have HE := Lib.hid (show M.interB a b = false by unfold M.interB; rw [if_pos e0])
    obtain ⟨q1, q2⟩ := eqI e0
    clear e0
    go_enter Tryz.func24, Tryz.ntmps24
    go_wp2
    go_ret
    exact ⟨ret_bool HE.out.symm, B0.out⟩
  · by_cases e1 : b.k = 0
    · have HE := Lib.hid (show M.interB a b = false by unfold M.interB; rw [if_neg e0, if_pos e1])
      obtain ⟨q1, q2⟩ := neI e0
      obtain ⟨q3, q4⟩ := eqI e1
      clear e0 e1
      go_enter Tryz.func24, Tryz.ntmps24
      go_wp2
      go_ret
      exact ⟨ret_bool HE.out.symm, B0.out⟩
    · have HE := Lib.hid (show M.interB a b = (M.eq2 a.tc a.tn b.tc b.tn || M.meetB (M.keysL a) (M.keysL b)) by unfold M.interB; rw [if_neg e0, if_neg e1])
      obtain ⟨q1, q2⟩ := neI e0
      obtain ⟨q3, q4⟩ := neI e1
      clear e0 e1
      have hla := M.keysL_len F
      have hlb := M.keysL_len G
      rcases two (M.eq2 a.tc a.tn b.tc b.tn) with e | e
      · have HF := Lib.hid (show M.interB a b = true by rw [HE.out, e]; rfl)
        go_enter Tryz.func24, Tryz.ntmps24
        go_wp2
        go_ret
        exact ⟨ret_bool HF.out.symm, B0.out⟩
      · have HF := Lib.hid (show M.interB a b = M.meetB (M.keysL b) (M.keysL a) by rw [HE.out, e, M.meet_comm]; rfl)
        have HKA := Lib.hid (dkeys_cmd a R0.out W0.out F)
        go_enter Tryz.func24, Tryz.ntmps24
        go_wp2_with (fail)
        generalize ((w.alloc (.cells #[.int .i64 a.k, .int .i64 a.tc, .int .i64 a.tn, .int .i64 a.tt, .int .i64 a.tk, .int .i64 a.sh, va, vb, .bool a.cm] 30)).alloc (.cells #[.int .i64 b.k, .int .i64 b.tc, .int .i64 b.tn, .int .i64 b.tt, .int .i64 b.tk, .int .i64 b.sh, ua, ub, .bool b.cm] 30)) = w0 at *
        refine HKA.out.mono ?_
        rintro e9 w1 ⟨v1, rfl, o1, hb1⟩
        obtain ⟨A1, k1, rfl⟩ := ownsRow_slice o1
        have O1 := Lib.hid (Made.words o1)
        have D1 := Lib.hid (show Below w0.heap.size w0 w1 from hb1)
        have HKB := Lib.hid (dkeys_cmd b (S0.out.below hb1) (V0.out.below hb1) G)
        obtain ⟨l1, r0, r1, r2, r3, r4, r5, r6, r7, r8⟩ := Y0.out.on hb1
        clear o1 hb1 HKA
        go_wp2_with (fail)
        refine HKB.out.mono ?_
        rintro e9 w2 ⟨v2, rfl, o2, hb2⟩
        obtain ⟨A2, k2, rfl⟩ := ownsRow_slice o2
        have O2 := Lib.hid (Made.words o2)
        have B2 := Lib.hid (below_on (below_on B0.out D1.out) hb2)
        have O3 := Lib.hid (O1.out.below hb2)
        clear o2 hb2 HKB r0 r1 r2 r3 r4 r5 r6 r7 r8 l1 D1 O1
        obtain ⟨A, c, ev, hc, hx⟩ := O3.out.opened
        simp only [Value.slice.injEq, true_and] at ev
        obtain ⟨rfl, rfl⟩ := ev
        have HX := Lib.hid hx
        clear hx
        go_wp2
        go_loop [7] (fun i => ∃ k : Nat, k ≤ (M.keysL a).length ∧ i = .int .i64 k ∧ M.meetB (M.keysL b) ((M.keysL a).take k) = false) (fun i => (M.keysL a).length - (intOf i).toNat)
        case atStart => exact ⟨0, Nat.zero_le _, rfl, by simp [M.meetB]⟩
        case round =>
          obtain ⟨k, hk, rfl, hin⟩ := hrel
          have HM := Lib.hid hin
          clear hin
          by_cases hlt : k < (M.keysL a).length
          · obtain ⟨b1, o, rfl, hb, hy⟩ := HX.out (by omega)
            have hcell := hy k hlt
            obtain ⟨x, hxk⟩ : ∃ x, x = (M.keysL a).getD k [] := ⟨_, rfl⟩
            rw [← hxk] at hcell
            have HXK := Lib.hid hxk
            have HIN := Lib.hid (in_any x O2.out (by omega))
            clear hy hxk
            rcases two (M.inB (M.keysL b) x) with e | e
            · rw [e] at HIN
              go_wp2_with (fail)
              refine HIN.out.mono ?_
              rintro e9 w3 ⟨rfl, rfl⟩
              go_wp2
              go_ret
              exact ⟨ret_bool (by rw [HF.out]; exact M.meet_at hlt HXK.out e), B2.out⟩
            · rw [e] at HIN
              go_wp2_with (fail)
              refine HIN.out.mono ?_
              rintro e9 w3 ⟨rfl, rfl⟩
              go_wp2
              go_round
              case rel => exact ⟨k + 1, by omega, by go_num, M.meet_take hlt HXK.out HM.out e⟩
              case measure => simp [intOf]; omega
          · go_wp2
            go_ret
            exact ⟨ret_bool (by rw [HF.out]; exact M.meet_end hlt HM.out), B2.out⟩
end Go.Proofs.YtpknkhgkejkpkaaGreat
