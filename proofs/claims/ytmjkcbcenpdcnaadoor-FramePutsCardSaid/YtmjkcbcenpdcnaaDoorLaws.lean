/- The walk of FrameSums; no conditions but that the table reads as the text lays it. -/
import Derived.Test.YtmjkcbcenpdcnaaDoorWalksG
namespace Go.Proofs.YtmjkcbcenpdcnaaDoor
open Go.RowKit

/-- It returns true, and nothing that was there has changed. -/
def Yes (w : World) (e : Ending) (w' : World) : Prop := e = .returned (.bool true) ∧ Below w.heap.size w w'

set_option maxHeartbeats 1000000 in
set_option maxRecDepth 100000 in
theorem sums_law {w : World} {v : Value} {xs : List UInt8} (hT : Tab w) (h : Bts w v xs) : Calls Tryd.prog 3 #[v] w (Yes w) := by
  have HT := Lib.hid hT
  have HV := Lib.hid h
  obtain ⟨A, c, rfl, hc, hx⟩ := h.opened
  clear hx h hT
  by_cases h1 : xs.length ≤ 4500
  · go_enter Tryd.func3, Tryd.ntmps3
    go_wp2_with (fail)
    refine (own_any HV.out (by omega)).mono ?_
    rintro e w1 ⟨rfl, hk, hb⟩
    have HB := Lib.hid hb
    have HX := Lib.hid (hk.bts (o := 0) (n := xs.length) (c := xs.length + 16) (xs := xs) (by simp) (by simp) (by omega))
    have HV1 := Lib.hid (HV.out.below hb)
    have HT1 := Lib.hid (HT.out.below hb)
    clear hk hb HV HT
    go_wp2_with (fail)
    refine (sum_any HT1.out HX.out (by omega)).mono ?_
    rintro e w2 ⟨rfl, rfl⟩
    go_wp2_with (fail)
    refine (dsum_any HV1.out (by omega)).mono ?_
    rintro e w2 ⟨rfl, rfl⟩
    go_wp2_with (fail)
    refine (same_any HX.out HV1.out (by omega)).mono ?_
    rintro e w2 ⟨rfl, hb2⟩
    rw [M.sameB_refl]
    have HB2 := Lib.hid (below_on HB.out hb2)
    have HT2 := Lib.hid (HT1.out.below hb2)
    clear hb2 HB HX HV1 HT1
    go_wp2_with (fail)
    refine (awake_any HT2.out).mono ?_
    rintro e w3 ⟨rfl, hb3⟩
    have HB3 := Lib.hid (below_on HB2.out hb3)
    clear hb3
    go_wp2
    go_ret
    exact ⟨rfl, HB3.out⟩
  · go_enter Tryd.func3, Tryd.ntmps3
    go_wp2_with (fail)
    refine (awake_any HT.out).mono ?_
    rintro e w3 ⟨rfl, hb3⟩
    have HB3 := Lib.hid hb3
    clear hb3
    go_wp2
    go_ret
    exact ⟨rfl, HB3.out⟩
end Go.Proofs.YtmjkcbcenpdcnaaDoor
