/- Contract of frame.Get; no conditions but the lengths that it names. -/
import Derived.Test.YtmjkcbcenpdcnaaDoorMathB
import Derived.Deep.RegionWith
namespace Go.Proofs.YtmjkcbcenpdcnaaDoor
open Go.RowKit

/-- What Get tells. -/
def Got (w : World) (xs : List UInt8) (e : Ending) (w' : World) : Prop :=
  ∃ v, e = .returned (.tuple #[v, .int .i64 (M.gs xs : Nat), .int .i64 (M.ge xs : Nat)]) ∧ (M.ge xs = 0 → w'.ownsRow w.heap.size 5 1 v (M.gp xs).length ((M.gp xs).map enc8)) ∧ (M.ge xs ≠ 0 → v = .slice none 0 0) ∧ Below w.heap.size w w'
theorem Got.bad {w w' : World} {xs : List UInt8} {k : Nat} {z : Int} (h : M.ge xs = k) (hk : k ≠ 0) (hz : z = k) (hb : Below w.heap.size w w') : Got w xs (.returned (.tuple #[.slice none 0 0, .int .i64 0, .int .i64 z])) w' := by
  have hs : M.gs xs = 0 := by rw [M.gs, if_neg (by omega)]
  refine ⟨.slice none 0 0, by rw [hs, h, hz]; rfl, fun h0 => absurd h0 (by omega), fun _ => rfl, hb⟩

set_option maxHeartbeats 4000000 in
set_option maxRecDepth 100000 in
theorem get_any {w : World} {v : Value} {xs : List UInt8} (hT : Tab w) (h : Bts w v xs) (hl : xs.length ≤ 1000000) : Calls Tryd.prog 17 #[v] w (Got w xs) := by
  have HV := Lib.hid h
  have HT := Lib.hid hT
  obtain ⟨A, c, rfl, hc, hx⟩ := h.opened
  have HX := Lib.hid hx
  clear h hT hx
  by_cases h4 : xs.length < 4
  · have HE := Lib.hid (M.ge_short h4)
    go_enter Tryd.func17, Tryd.ntmps17
    go_wp2
    go_ret3
    exact Got.bad (k := 3) HE.out (by omega) rfl (Below.refl _ _)
  · obtain ⟨b, o, rfl, hb, hy⟩ := HX.out (by omega)
    have hc0 := hy 0 (by omega)
    have hc1 := hy 1 (by omega)
    have hg : (xs.getD 0 0).toNat + 256 * (xs.getD 1 0).toNat = M.gn xs := rfl
    have hor := or_shift (xs.getD 0 0).toNat (xs.getD 1 0).toNat (M.byte_lt _) (M.byte_lt _)
    rw [hg] at hor
    have hb0 := M.byte_lt (xs.getD 0 0)
    have hb1 := M.byte_lt (xs.getD 1 0)
    have hn := M.gn_lt xs
    generalize (xs.getD 0 0).toNat = x0 at *
    generalize (xs.getD 1 0).toNat = x1 at *
    rw [Nat.add_zero] at hc0
    clear hy hg HX
    go_enter Tryd.func17, Tryd.ntmps17
    go_wp2
    go_quiet (fail)
    have HB := Lib.hid (show Below w.heap.size w (w.drewN nq) from below_drewN (Below.refl _ _) _)
    generalize w.drewN nq = w0 at *
    have HV0 := Lib.hid (HV.out.below HB.out)
    have HT0 := Lib.hid (HT.out.below HB.out)
    clear HV HT hc0 hc1 hor
    obtain ⟨n, hnn⟩ : ∃ n, n = M.gn xs := ⟨_, rfl⟩
    rw [← hnn] at hn ⊢
    have HN := Lib.hid hnn
    clear hnn
    go_wp2_with (fail)
    refine (size_any _ _).mono ?_
    rintro e w' ⟨rfl, rfl⟩
    by_cases hr : 1 ≤ n ∧ n ≤ 4096
    · obtain ⟨hr1, hr2⟩ := hr
      have hz := M.size_yes (n := (n : Int)) (by omega)
      rw [hz]
      clear hz
      have q1 : ((n : Int) + 8 == 0) = false := by rw [beq_eq_false_iff_ne]; omega
      go_wp2_with (fail)
      refine (head_any n _ hn).mono ?_
      rintro e w1 ⟨v1, rfl, hv1, hb1⟩
      have HB1 := Lib.hid (below_on HB.out hb1)
      have HV1 := Lib.hid (HV0.out.below hb1)
      have HT1 := Lib.hid (HT0.out.below hb1)
      have HH := Lib.hid hv1
      clear hv1 hb1 HB HV0 HT0
      go_wp2_with (fail)
      refine (prefix_any HV1.out HH.out (M.head_len n) (by omega) hl).mono ?_
      rintro e w' ⟨rfl, rfl⟩
      have HD := Lib.hid (show M.hdB xs = M.sameB (xs.take 4) (M.head n) by rw [M.hdB, ← HN.out, decide_eq_true ⟨hr1, hr2⟩, Bool.true_and])
      cases hsb : M.sameB (xs.take 4) (M.head n) with
      | false =>
        rw [hsb] at HD
        clear hsb
        have HE := Lib.hid (M.ge_form h4 HD.out)
        go_wp2
        go_ret3
        exact Got.bad (k := 4) HE.out (by omega) rfl HB1.out
      | true =>
        rw [hsb] at HD
        clear hsb
        by_cases h8 : xs.length < n + 8
        · have HE := Lib.hid (M.ge_long h4 HD.out (by rw [← HN.out]; exact h8))
          go_wp2
          go_ret3
          exact Got.bad (k := 3) HE.out (by omega) rfl HB1.out
        · have hq : ¬ c = n + 4 := by omega
          have hcc : ¬ c = 4 := by omega
          have T1 := Lib.hid (HV1.out.take (n + 4) (by omega))
          have T2 := Lib.hid ((HV1.out.drop (n + 4) (by omega)).take 4 (by omega))
          go_wp2
          have TT := Lib.hid (HT1.out.below (Below.refl _ _).drew)
          have TB := Lib.hid (T1.out.below (Below.refl _ _).drew)
          have TE := Lib.hid (show (xs.take (n + 4)).length ≤ 1000000 by simp; omega)
          go_wp2
          have z1 : (4 + (n : Int)).toNat = n + 4 := by omega
          have z2 : ((n : Int) + 8).toNat = n + 8 := by omega
          have z3 : 0 ≤ 4 + (n : Int) := by omega
          have z4 : 4 + (n : Int) ≤ (n : Int) + 8 := by omega
          have z5 : (n : Int) + 8 ≤ (c : Int) := by omega
          have z6 : 4 + (n : Int) ≤ (c : Int) := by omega
          go_region_with (first
            | (go_at_call 23; refine (tail_any TT.out TB.out TE.out).mono ?_; rintro e w2 ⟨v2, rfl, hv2, hb2⟩
               have HV2 := Lib.hid hv2
               have HB2 := Lib.hid ((Below.refl _ w1).drew.trans hb2)
               clear hv2 hb2)
            | (go_at_call 25; refine (equal_any (T2.out.below HB2.out) HV2.out).mono ?_; rintro e w3 ⟨rfl, rfl⟩))
          all_goals
            clear z1 z2 z3 z4 z5 z6 hq
            have HS := Lib.hid (show M.smB xs = M.sameB ((xs.drop (n + 4)).take 4) (M.tail (M.crc (xs.take (n + 4)))) by rw [M.smB, ← HN.out])
            have HB3 := Lib.hid (below_on HB1.out (show Below w1.heap.size w1 w2 from HB2.out))
            have T3 := Lib.hid (((HV1.out.below HB2.out).drop 4 (by omega)).take n (by omega))
            clear HB2 HB1 HV2 T1 T2 TT TB TE HT1 HV1 HH
            cases hsb : M.sameB ((xs.drop (n + 4)).take 4) (M.tail (M.crc (xs.take (n + 4)))) with
            | false =>
              rw [hsb] at HS
              clear hsb
              have HE := Lib.hid (M.ge_sum h4 HD.out (by rw [← HN.out]; exact h8) HS.out)
              go_wp2
              go_ret3
              exact Got.bad (k := 6) HE.out (by omega) rfl HB3.out
            | true =>
              rw [hsb] at HS
              clear hsb
              have HE := Lib.hid (M.ge_ok h4 HD.out (by rw [← HN.out]; exact h8) HS.out)
              have HP := Lib.hid (show M.gp xs = (xs.drop 4).take n by rw [M.gp, if_pos HE.out, ← HN.out])
              have HG := Lib.hid (show M.gs xs = n + 8 by rw [M.gs, if_pos HE.out, ← HN.out])
              have z1 : (4 + (n : Int)).toNat = n + 4 := by omega
              have z3 : 4 ≤ 4 + (n : Int) := by omega
              have z6 : 4 + (n : Int) ≤ (c : Int) := by omega
              go_wp2_with (fail)
              refine (clone_any T3.out (by simp; omega) (by simp; omega)).mono ?_
              rintro e w4 ⟨v4, rfl, ho, hb4⟩
              have HB4 := Lib.hid (below_on HB3.out hb4)
              have hsz := HB3.out.size
              have HO := Lib.hid (show w4.ownsRow w.heap.size 5 1 v4 (M.gp xs).length ((M.gp xs).map enc8) from by rw [HP.out]; exact ownsRow_base ho hsz)
              clear z1 z3 z6 ho hb4 hsz T3 HB3
              go_wp2
              go_ret3
              exact ⟨v4, by rw [HG.out, HE.out]; rfl, fun _ => HO.out, fun h0 => absurd HE.out h0, HB4.out⟩
    · have hz := M.size_no (n := (n : Int)) (by omega)
      rw [hz]
      have HE := Lib.hid (M.ge_form h4 (by rw [M.hdB, ← HN.out, decide_eq_false hr, Bool.false_and]))
      clear hz hr
      go_wp2
      go_ret3
      exact Got.bad (k := 4) HE.out (by omega) rfl HB.out
end Go.Proofs.YtmjkcbcenpdcnaaDoor
