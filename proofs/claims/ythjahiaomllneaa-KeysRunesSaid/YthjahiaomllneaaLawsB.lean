/- The walk of KeysRunes; no conditions. -/
import Derived.Test.YthjahiaomllneaaLaws
namespace Go.Proofs.Ythjahiaomllneaa
open Go.RowKit

theorem runes_long (s : ByteArray) (w : World) (hs : ¬ s.size ≤ 2000) : Calls Try.prog 3 #[.string s] w (Yes w) := by
  go_enter Try.func3, Try.ntmps3
  go_wp2_with (fail)
  refine (awake_any _).mono ?_
  rintro e w3 ⟨rfl, hb⟩
  have H3 := Lib.hid hb
  clear hb
  go_wp2
  go_ret
  exact ⟨rfl, H3.out⟩

set_option maxHeartbeats 1000000 in
set_option maxRecDepth 100000 in
theorem runes_law (s : ByteArray) (w : World) : Calls Try.prog 3 #[.string s] w (Yes w) := by
  by_cases hs : s.size ≤ 2000
  · go_enter Try.func3, Try.ntmps3
    go_wp2_with (fail)
    refine (runes_any s _ hs).mono ?_
    rintro e w1 ⟨v1, rfl, hown1, hb1⟩
    have R1 := Lib.hid (Row.of_owns hown1)
    have B1 := Lib.hid hb1
    clear hown1 hb1
    go_wp2_with (fail)
    refine (drunes_any s _ hs).mono ?_
    rintro e w2 ⟨v2, rfl, hown2, hb2⟩
    have R2 := Lib.hid (Row.of_owns hown2)
    have S1 := Lib.hid (R1.out.below hb2)
    have B2 := Lib.hid (below_on B1.out hb2)
    clear hown2 hb2 R1 B1
    have hle := Lib.hid (M.runes_le s)
    have hlen : (M.runes s).length ≤ 2000 := Nat.le_trans (M.runes_len s) hs
    generalize M.runes s = l at *
    obtain ⟨A1, c1, rfl, hc1, hx1⟩ := S1.out
    obtain ⟨A2, c2, rfl, hc2, hx2⟩ := R2.out
    have X1 := Lib.hid hx1
    have X2 := Lib.hid hx2
    clear hx1 hx2 S1 R2
    rw [List.length_map] at hc1 hc2 ⊢
    rw [List.length_map]
    go_wp2
    go_loopw [21] (fun i wr => ∃ k n : Nat, k ≤ l.length ∧ i = .int .i64 k ∧ wr = w2.drewN n) (fun i _ => l.length - (intOf i).toNat)
    case atStart => exact ⟨0, 0, Nat.zero_le _, rfl, rfl⟩
    case round =>
      obtain ⟨k, n, hk, rfl, rfl⟩ := hrel
      by_cases hlt : k < l.length
      · obtain ⟨b1, o1, rfl, hb1, hy1⟩ := X1.out (by simpa using Nat.lt_of_le_of_lt (Nat.zero_le k) hlt)
        obtain ⟨b2, o2, rfl, hb2, hy2⟩ := X2.out (by simpa using Nat.lt_of_le_of_lt (Nat.zero_le k) hlt)
        have z1 : w2.cell? ⟨b1, o1 + k, none⟩ = some (.int .i32 (l.getD k 0 : Nat)) := hy1 k _ (by simp [List.getD, List.getElem?_eq_getElem hlt])
        have z2 : w2.cell? ⟨b2, o2 + k, none⟩ = some (.int .i64 (l.getD k 0 : Nat)) := hy2 k _ (by simp [List.getD, List.getElem?_eq_getElem hlt])
        have hr : l.getD k 0 ≤ 1114111 := by rw [List.getD, List.getElem?_eq_getElem hlt]; exact hle.out _ (List.getElem_mem hlt)
        clear hy1 hy2 X1 X2 hle
        generalize l.getD k 0 = r at *
        have hi1 : (k : Int) < (l.length : Int) := by omega
        go_wp2
        go_quiet (fail)
        go_wp2
        go_roundw
        case rel => exact ⟨k + 1, _, by omega, by go_num, rfl⟩
        case measure => simp [intOf]; omega
      · have B3 := Lib.hid (below_drewN B2.out n)
        clear B2
        generalize w2.drewN n = w3 at *
        go_wp2_with (fail)
        refine (weight_any _ _ (by omega)).mono ?_
        rintro e w4 ⟨rfl, hb⟩
        have H4 := Lib.hid (below_on B3.out hb)
        clear hb B3
        go_wp2_with (fail)
        refine (dweight_any _ _ (by omega)).mono ?_
        rintro e w5 ⟨rfl, hb⟩
        have H5 := Lib.hid (below_on H4.out hb)
        clear hb H4
        go_wp2_with (fail)
        refine (awake_any _).mono ?_
        rintro e w6 ⟨rfl, hb⟩
        have H6 := Lib.hid (below_on H5.out hb)
        clear hb H5
        go_wp2
        go_ret
        exact ⟨rfl, H6.out⟩
  · exact runes_long s w hs
end Go.Proofs.Ythjahiaomllneaa
