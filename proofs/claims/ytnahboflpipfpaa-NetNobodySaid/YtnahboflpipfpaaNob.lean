/- The walk of NetNobody; no conditions. -/
import Derived.Test.YtnahboflpipfpaaBld
import Derived.Test.YtnahboflpipfpaaFnd
namespace Go.Proofs.Ytnahboflpipfpaa
open Go.ChangeShapes Go.WideShapes Go.ChangeAt Go.RowKit

set_option maxHeartbeats 2000000 in
set_option maxRecDepth 100000 in
theorem send_nil (x : Mv) (w : World) : Calls Try.prog 19 #[.pointer none, .agg x.cells.toArray] w fun e w' => e = .returned (.int .i64 1) ∧ Below w.heap.size w w' := by
  have B0 := Lib.hid (below_new (o := .cells x.cells.toArray 49) (Below.refl w.heap.size w))
  go_enter Try.func19, Try.ntmps19
  go_wp2
  go_ret
  exact ⟨rfl, B0.out⟩
set_option maxHeartbeats 16000000 in
set_option maxRecDepth 100000 in
theorem nobody_law (d : Dv) (w : World) (h1 : Rds w d.x.va d.x.m.r.c.rs) (h2 : Wrs w d.x.vb d.x.m.r.c.ws) : Calls Try.prog 7 #[.agg d.cells.toArray] w (Yes w) := by
  have B0 := below_new (o := .cells d.cells.toArray 51) (Below.refl w.heap.size w)
  have HX := Lib.hid (Hold.new w d.cells 51)
  have HW := Lib.hid HX.out.cel.whole
  have HB0 := Lib.hid B0
  have b1 := below_new (o := .cells d.cells.toArray 51) (Below.refl (w.alloc (.cells d.cells.toArray 51)).heap.size (w.alloc (.cells d.cells.toArray 51)))
  have HB1 := Lib.hid (below_on B0 b1)
  have H1 := Lib.hid ((h1.below B0).below b1)
  have H2 := Lib.hid ((h2.below B0).below b1)
  have HONE := Lib.hid (dv_one ⟨h1, h2⟩)
  have HX1 := Lib.hid (HX.out.on b1)
  have HD : Hid (Dos ((w.alloc (.cells d.cells.toArray 51)).alloc (.cells d.cells.toArray 51)) (.slice (some ⟨w.heap.size + 1, 0, none⟩) 1 1) [d]) := Lib.hid (by
    refine ⟨⟨rfl, some ⟨w.heap.size + 1, 0, none⟩, 1, rfl, Nat.le_refl _, fun _ => ⟨w.heap.size + 1, 0, rfl, by simp, fun j x hj => ?_⟩⟩, fun q hq => by rw [List.mem_singleton.1 hq]; exact ⟨H1.out, H2.out⟩⟩
    rw [List.flatMap_singleton] at hj
    rw [Nat.zero_add]
    exact (Cel.new1 w _ d.cells 51).get j x hj)
  clear B0 h1 h2 b1
  rcases hq : fewB10 [d] with _ | _
  · have HQ := Lib.hid hq
    clear hq
    go_enter Try.func7, Try.ntmps7
    go_wp2_with
      (first
       | (with_reducible refine wpList_load_mid rfl 51 _ rfl w.heap.size 0 rfl _ _ HW.out Try.underlying51 rfl (dv_size _) ?_)
       | (with_reducible refine wpList_build51 rfl (.tmp 8) rfl d rfl ?_)
       | (go_at_call 9; refine (few10_any HD.out (show 1 ≤ 9223372036854775807 by omega)).mono ?_; rintro e w1 ⟨rfl, hb⟩; rw [HQ.out]; have HB2 := Lib.hid (below_on HB1.out hb); clear hb)
       | (go_at_call 10; refine (awake_any _).mono ?_; rintro e w2 ⟨rfl, hb⟩; have HB3 := Lib.hid (below_on HB2.out hb); clear hb))
    go_ret
    exact ⟨rfl, HB3.out⟩
  · have HQ := Lib.hid hq
    clear hq
    go_enter Try.func7, Try.ntmps7
    go_wp2_with
      (first
       | (with_reducible refine wpList_load_mid rfl 51 _ rfl w.heap.size 0 rfl _ _ HW.out Try.underlying51 rfl (dv_size _) ?_)
       | (with_reducible refine wpList_build51 rfl (.tmp 8) rfl d rfl ?_)
       | (go_at_call 9
          refine (few10_any HD.out (show 1 ≤ 9223372036854775807 by omega)).mono ?_
          rintro e w1 ⟨rfl, hb⟩
          rw [HQ.out]
          have HB2 := Lib.hid (below_on HB1.out hb)
          have HX2 := Lib.hid (HX1.out.on hb)
          have c2 := hold_cell HX2.out 1 rfl
          clear hb)
       | (go_at_call 22
          refine (look_nil _ _).mono ?_
          rintro e w2 ⟨x, rfl, -, ho, hb⟩
          have HO := Lib.hid ho
          have b := below_new (o := .cells x.cells.toArray 49) hb
          have HB3 := Lib.hid (below_on HB2.out b)
          have HX3 := Lib.hid (HX2.out.on b)
          have c3 := hold_cell HX3.out 1 rfl
          clear hb b ho c2)
       | (with_reducible refine wpList_store_fresh rfl 49 _ _ rfl _ rfl 49 _ x.cells rfl rfl rfl (mv_size _) HO.out.one ?_)
       | (go_at_call 20
          refine (take_nil _ _).mono ?_
          rintro e w3 ⟨y, rfl, -, ho, hb⟩
          have HO2 := Lib.hid ho
          have b := below_new (o := .cells y.cells.toArray 49) hb
          have HB4 := Lib.hid (below_on HB3.out b)
          have HX4 := Lib.hid (HX3.out.on b)
          have HM4 := Lib.hid (dv_msg HX4.out.cel.whole)
          clear hb b ho c3)
       | (with_reducible refine wpList_store_fresh rfl 49 _ _ rfl _ rfl 49 _ y.cells rfl rfl rfl (mv_size _) HO2.out.one ?_)
       | (with_reducible refine wpList_load_mid rfl 49 _ rfl w.heap.size 2 rfl _ _ HM4.out Try.underlying49 rfl (mv_size _) ?_)
       | (go_at_call 19
          refine (send_nil _ _).mono ?_
          rintro e w4 ⟨rfl, hb⟩
          have HB5 := Lib.hid (below_on HB4.out hb)
          have HX5 := Lib.hid (HX4.out.on hb)
          have c5 := hold_cell HX5.out 1 rfl
          clear hb)
       | (go_at_call 23; refine (lose_nil _ _).mono ?_; rintro e w5 ⟨rfl, rfl⟩)
       | (go_at_call 24; refine (twice_nil _ _).mono ?_; rintro e w6 ⟨rfl, rfl⟩)
       | (go_at_call 16; refine (len_nil _).mono ?_; rintro e w7 ⟨rfl, rfl⟩)
       | (go_at_call 17; refine (find_nil _ _ _).mono ?_; rintro e w8 ⟨rfl, hb⟩; have HB6 := Lib.hid (below_on HB5.out hb); clear hb)
       | (go_at_call 15; refine (tally_nil _).mono ?_; rintro e w9 ⟨rfl, hb⟩; unfold tallyV; have HB7 := Lib.hid (below_on HB6.out hb); clear hb)
       | (go_at_call 10; refine (awake_any _).mono ?_; rintro e w10 ⟨rfl, hb⟩; have HB8 := Lib.hid (below_on HB7.out hb); clear hb))
    go_ret
    exact ⟨rfl, HB8.out⟩
end Go.Proofs.Ytnahboflpipfpaa
