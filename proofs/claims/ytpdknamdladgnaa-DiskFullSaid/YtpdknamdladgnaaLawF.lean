/- The walk of DiskFull; no conditions. -/
import Derived.Test.YtpdknamdladgnaaArgs
import Derived.Test.YtpdknamdladgnaaRef
namespace Go.Proofs.Ytpdknamdladgnaa
open Go.RowKit

theorem app_fits {z : Nat} {bs b : List UInt8} (h : bs.length + b.length ≤ z) : M.app b ⟨z, bs, 0⟩ = ⟨z, bs ++ b, 0⟩ ∧ M.appE b ⟨z, bs, 0⟩ = 0 := by simp [M.app, M.appE, h]
theorem app_full {z : Nat} {bs b : List UInt8} (h : ¬ bs.length + b.length ≤ z) : M.app b ⟨z, bs, 0⟩ = ⟨z, bs, 0⟩ ∧ M.appE b ⟨z, bs, 0⟩ = 7 := by simp [M.app, M.appE, h]

set_option maxHeartbeats 2000000 in
theorem full_law (n : Int) {w : World} {v : Value} {l : List (List UInt8)} (h : Lots w v l) : Calls Try.prog 6 #[.int .i64 n, v] w (Yes w) := by
  obtain ⟨A, c, rfl, hc, hm, hx⟩ := h
  unfold maxLen at hm
  have HX := Lib.hid hx
  clear hx
  by_cases hn : 0 ≤ n ∧ n ≤ 1048576
  · obtain ⟨z, rfl⟩ : ∃ z : Nat, n = z := ⟨n.toNat, by omega⟩
    have hz : z ≤ 1048576 := by omega
    clear hn
    by_cases hl : l.length ≤ 100
    · have hl1 : (l.length : Int) ≤ 100 := by omega
      go_enter Try.func6, Try.ntmps6
      go_wp2_with (fail)
      refine (new_any z w hz).mono ?_
      rintro e w1 ⟨rfl, hd, hb⟩
      have L1 := Lib.hid (Live.new hd hb)
      clear hd hb
      go_wp2
      go_loopw [6, 22] (fun nn i wr => ∃ (k : Nat) (bs : List UInt8) (F : Nat → Prop), k ≤ l.length ∧ i = .int .i64 k ∧ nn = .int .i64 bs.length ∧ bs.length ≤ z ∧ Hid (Live w wr w.heap.size F ⟨z, bs, 0⟩)) (fun _ i _ => l.length - (intOf i).toNat)
      case atStart => exact ⟨0, [], _, Nat.zero_le _, rfl, rfl, Nat.zero_le _, L1⟩
      case round =>
        obtain ⟨k, bs, F, hk, rfl, rfl, hbz, L⟩ := hrel
        clear L1
        by_cases hlt : k < l.length
        · obtain ⟨b, o, rfl, hb, hy⟩ := HX.out (by omega)
          obtain ⟨sv, hcl, hbt⟩ := hy k hlt
          have hcell := (L.out.below.cell (p := ⟨b, o + k, none⟩) hb).trans hcl
          obtain ⟨A2, n2, rfl, hc2, -⟩ := hbt.opened
          have HBT := Lib.hid (hbt.below L.out.below)
          have hk1 : (k : Int) < (l.length : Int) := by omega
          have hbl := Nat.lt_of_lt_of_le hb L.out.below.size
          clear hy hcl hbt
          generalize l.getD k [] = x at *
          by_cases hx : x.length ≤ 100
          · have hx1 : (x.length : Int) ≤ 100 := by omega
            have nb := below_new (o := .cells #[] 5) (Below.refl wr.heap.size wr)
            obtain ⟨v2, w2, hr2, b2, ⟨A3, c3, rfl, hc3⟩, ho⟩ := join_one (Bare.new wr) (HBT.out.below nb) (by omega)
            have b3 := nb.trans (b2.below (B := wr.heap.size) (fun x e => by omega) (by simp))
            have L2 := Lib.hid (L.out.on b3)
            have IN := Lib.hid (show In (fun x => ¬ F x) (.slice A3 x.length c3) from ho.in_.wide fun x e f => by
              have := L.out.disk.lt x f
              simp at e
              omega)
            have HO := Lib.hid ho.bts
            clear nb b2 ho b3 L
            by_cases hf : bs.length + x.length ≤ z
            · have hf1 : (x.length : Int) ≤ (z : Int) - (bs.length : Int) := by omega
              have N1 := Lib.hid (app_fits hf)
              go_wp2_with (at_builtin; refine Lib.wpList_append_run _ rfl (.tmp 31) (.tmp 32) _ _ rfl _ _ rfl rfl _ _ hr2 ?_)
              refine (appendD_any L2.out.disk HO.out (fun _ => IN.out)).mono ?_
              rintro e w3 ⟨rfl, hs⟩
              obtain ⟨F3, hL⟩ := L2.out.step hs
              rw [N1.out.1] at hL
              rw [N1.out.2]
              have L3 := Lib.hid hL
              clear hs hL L2 HO IN hr2
              go_wp2_with (fail)
              refine (bytes_any L3.out.disk).mono ?_
              rintro e w4 ⟨rfl, hB, hb⟩
              have L4 := Lib.hid (L3.out.on hb)
              clear hB hb L3
              go_wp2
              go_roundw
              case rel => exact ⟨k + 1, bs ++ x, F3, by omega, by go_num, by rw [List.length_append]; go_num, by simpa using hf, L4⟩
              case measure => simp [intOf]; omega
            · have hf1 : (z : Int) - (bs.length : Int) < (x.length : Int) := by omega
              have N1 := Lib.hid (app_full hf)
              go_wp2_with (at_builtin; refine Lib.wpList_append_run _ rfl (.tmp 31) (.tmp 32) _ _ rfl _ _ rfl rfl _ _ hr2 ?_)
              refine (appendD_any L2.out.disk HO.out (fun _ => IN.out)).mono ?_
              rintro e w3 ⟨rfl, hs⟩
              obtain ⟨F3, hL⟩ := L2.out.step hs
              rw [N1.out.1] at hL
              rw [N1.out.2]
              have L3 := Lib.hid hL
              clear hs hL L2 HO IN hr2
              go_wp2_with (fail)
              refine (bytes_any L3.out.disk).mono ?_
              rintro e w4 ⟨rfl, hB, hb⟩
              have L4 := Lib.hid (L3.out.on hb)
              clear hB hb L3
              go_wp2
              go_roundw
              case rel => exact ⟨k + 1, bs, F3, by omega, by go_num, rfl, hbz, L4⟩
              case measure => simp [intOf]; omega
          · have hx1 : 100 < (x.length : Int) := by omega
            go_wp2_with (fail)
            refine (awake_on L.out.below).mono ?_
            rintro e w2 ⟨rfl, hb⟩
            go_wp2
            go_ret
            exact ⟨rfl, hb⟩
        · go_wp2_with (fail)
          refine (awake_on L.out.below).mono ?_
          rintro e w2 ⟨rfl, hb⟩
          go_wp2
          go_ret
          exact ⟨rfl, hb⟩
    · have hl1 : 100 < (l.length : Int) := by omega
      go_enter Try.func6, Try.ntmps6
      go_wp2_with (fail)
      refine (new_any z w hz).mono ?_
      rintro e w1 ⟨rfl, hd, hb⟩
      go_wp2_with (fail)
      refine (awake_on hb).mono ?_
      rintro e w2 ⟨rfl, hb⟩
      go_wp2
      go_ret
      exact ⟨rfl, hb⟩
  · go_enter Try.func6, Try.ntmps6
    go_wp2_with (fail)
    refine (new_bad n w hn).mono ?_
    rintro e w1 ⟨rfl, rfl⟩
    go_wp2_with (fail)
    refine (awake_any w).mono ?_
    rintro e w2 ⟨rfl, hb⟩
    go_wp2
    go_ret
    exact ⟨rfl, hb⟩
end Go.Proofs.Ytpdknamdladgnaa
