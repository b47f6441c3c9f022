/- The walk of DiskNobody; no conditions. -/
import Derived.Test.YtpdknamdladgnaaAwake
namespace Go.Proofs.Ytpdknamdladgnaa
open Go.RowKit

/-- True, and all that was there is as it was. -/
def Yes (w : World) (e : Ending) (w' : World) : Prop := e = .returned (.bool true) ∧ Below w.heap.size w w'
/-- awake in any world behind w. -/
theorem awake_on {w w2 : World} (hb : Below w.heap.size w w2) : Calls Try.prog 11 #[] w2 (Yes w) := (awake_any w2).mono fun _ _ h => ⟨h.1, below_on hb h.2⟩

set_option maxHeartbeats 1000000 in
theorem nobody_law (d : M.Do) {sv : Value} {w : World} (h : Bts w sv d.b) : Calls Try.prog 7 #[.agg #[.int .i64 d.verb, .int .i64 d.n, .int .i64 d.pos, .int .u8 (d.mask.toNat : Int), sv]] w (Yes w) := by
  obtain ⟨A, c, rfl, hc, -⟩ := h.opened
  have B0 := Lib.hid (below_new (o := .cells #[.int .i64 d.verb, .int .i64 d.n, .int .i64 d.pos, .int .u8 (d.mask.toNat : Int), .slice A d.b.length c] 33) (Below.refl w.heap.size w))
  clear h
  by_cases hl : d.b.length ≤ 100
  · have hl1 : (d.b.length : Int) ≤ 100 := by omega
    go_enter Try.func7, Try.ntmps7
    go_wp2_with (fail)
    refine (sync_none _).mono ?_
    rintro e w1 ⟨rfl, rfl⟩
    go_wp2_with (fail)
    refine (crash_none _ _ _ _).mono ?_
    rintro e w1 ⟨rfl, rfl⟩
    go_wp2_with (fail)
    refine (append_none _ _).mono ?_
    rintro e w1 ⟨rfl, rfl⟩
    go_wp2_with (fail)
    refine (cut_none _ _).mono ?_
    rintro e w1 ⟨rfl, rfl⟩
    go_wp2_with (fail)
    refine (replace_none _ _).mono ?_
    rintro e w1 ⟨rfl, rfl⟩
    go_wp2_with (fail)
    refine (bytes_none _).mono ?_
    rintro e w1 ⟨rfl, rfl⟩
    go_wp2_with (fail)
    refine (safe_none _).mono ?_
    rintro e w1 ⟨rfl, rfl⟩
    go_wp2_with (fail)
    refine (room_none _).mono ?_
    rintro e w1 ⟨rfl, rfl⟩
    go_wp2_with (fail)
    refine (copy_none _).mono ?_
    rintro e w1 ⟨rfl, rfl⟩
    go_wp2_with (fail)
    refine (awake_on B0.out).mono ?_
    rintro e w1 ⟨rfl, hb⟩
    go_wp2
    go_ret
    exact ⟨rfl, hb⟩
  · have hl1 : 100 < (d.b.length : Int) := by omega
    go_enter Try.func7, Try.ntmps7
    go_wp2_with (fail)
    refine (awake_on B0.out).mono ?_
    rintro e w1 ⟨rfl, hb⟩
    go_wp2
    go_ret
    exact ⟨rfl, hb⟩
end Go.Proofs.Ytpdknamdladgnaa
