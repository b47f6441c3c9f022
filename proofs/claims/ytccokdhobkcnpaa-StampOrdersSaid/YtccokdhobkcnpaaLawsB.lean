/- The walks of StampOrders and StampNexts: they return true, and nothing that was there changes; no conditions. -/
import Derived.Test.YtccokdhobkcnpaaAfter
namespace Go.Proofs.Ytccokdhobkcnpaa
open Go.RowKit

set_option maxHeartbeats 4000000 in
theorem orders_law (a b c d : Int) (w : World) :
    Calls Try.prog 4 #[.int .i64 a, .int .i64 b, .int .i64 c, .int .i64 d] w fun e w' => e = .returned (.bool true) ∧ Below w.heap.size w w' := by
  go_enter Try.func4, Try.ntmps4
  go_wp2_with (go_at_call 19; refine (order_any _ _ _ _ _).mono ?_; rintro e w' ⟨rfl, rfl⟩)
  refine (compareBallots_any _ _ _ _ _).mono ?_
  rintro e w1 ⟨rfl, hb⟩
  have H1 := Lib.hid hb
  clear hb
  go_wp2_with (fail)
  refine (compareStamps_any _ _ _ _ _).mono ?_
  rintro e w2 ⟨rfl, hb⟩
  have H2 := Lib.hid (below_on H1.out hb)
  clear hb
  go_wp2_with (fail)
  refine (compareTxns_any _ _ _ _ _).mono ?_
  rintro e w3 ⟨rfl, hb⟩
  have H3 := Lib.hid (below_on H2.out hb)
  clear hb
  go_wp2_with (fail)
  refine (compareInsts_any _ _ _ _ _).mono ?_
  rintro e w4 ⟨rfl, hb⟩
  have H4 := Lib.hid (below_on H3.out hb)
  clear hb
  go_wp2_with (fail)
  refine (awake_any _).mono ?_
  rintro e w5 ⟨rfl, hb⟩
  have H5 := Lib.hid (below_on H4.out hb)
  clear hb
  go_wp2
  go_ret
  exact ⟨rfl, H5.out⟩

set_option maxHeartbeats 4000000 in
theorem nexts_law (n r t c k : Int) (w : World) :
    Calls Try.prog 6 #[.agg #[.int .i64 n, .int .i64 r], .agg #[.int .i64 t, .int .i64 c], .int .i64 k] w fun e w' => e = .returned (.bool true) ∧ Below w.heap.size w w' := by
  go_enter Try.func6, Try.ntmps6
  go_wp2_with (fail)
  refine (nextBallot_any _ _ _ _).mono ?_
  rintro e w1 ⟨rfl, hb⟩
  have H1 := Lib.hid (below_on (below_new (below_new (Below.refl _ _))) hb)
  have P1 := Lib.hid (((At.new w (.int .i64 n) (.int .i64 r) 23).push (.cells #[.int .i64 t, .int .i64 c] 25)).on hb)
  have S1 := Lib.hid ((At.new1 w (.cells #[.int .i64 n, .int .i64 r] 23) (.int .i64 t) (.int .i64 c) 25).on hb)
  clear hb
  obtain ⟨l1, c1, d1⟩ := P1.out
  go_wp2_with (fail)
  refine (refNextBallot_any _ _ _ _).mono ?_
  rintro e w2 ⟨rfl, hb⟩
  have H2 := Lib.hid (below_on (below_new H1.out) hb)
  have S2 := Lib.hid ((S1.out.push _).on hb)
  have X2 := Lib.hid ((At.new _ _ _ _).on hb)
  clear hb l1 c1 d1
  obtain ⟨l1, c1, d1⟩ := S2.out
  go_wp2_with (fail)
  refine (nextStamp_any _ _ _ _).mono ?_
  rintro e w3 ⟨rfl, hb⟩
  have H3 := Lib.hid (below_on (below_new H2.out) hb)
  have S3 := Lib.hid ((S2.out.push _).on hb)
  have X3 := Lib.hid ((X2.out.push _).on hb)
  have Y3 := Lib.hid ((At.new _ _ _ _).on hb)
  clear hb l1 c1 d1
  obtain ⟨l1, c1, d1⟩ := S3.out
  go_wp2_with (fail)
  refine (refNextStamp_any _ _ _ _).mono ?_
  rintro e w4 ⟨rfl, hb⟩
  have H4 := Lib.hid (below_on (below_new H3.out) hb)
  have X4 := Lib.hid ((X3.out.push _).on hb)
  have Y4 := Lib.hid ((Y3.out.push _).on hb)
  have U4 := Lib.hid ((At.new _ _ _ _).on hb)
  clear hb l1 c1 d1
  obtain ⟨l1, c1, d1⟩ := X4.out
  obtain ⟨l2, c2, d2⟩ := Y4.out
  obtain ⟨l3, c3, d3⟩ := U4.out
  go_wp2_with (fail)
  refine (awake_any _).mono ?_
  rintro e w5 ⟨rfl, hb⟩
  have H5 := Lib.hid (below_on (below_new H4.out) hb)
  clear hb
  go_wp2
  go_ret
  exact ⟨rfl, H5.out⟩
end Go.Proofs.Ytccokdhobkcnpaa
