/- The walk of NetTwice; no conditions. -/
import Derived.Test.YtnahboflpipfpaaLw
namespace Go.Proofs.Ytnahboflpipfpaa
open Go.ChangeShapes Go.WideShapes Go.ChangeAt Go.RowKit

theorem tw_1 {m : M.Msg} (h : M.rightM m = true) : (St.new 2).send m = ⟨2, 1, 0, 0, [m]⟩ ∧ (St.new 2).sendR m = 0 := by
  unfold St.send St.sendR; rw [h]; exact ⟨rfl, rfl⟩
theorem tw_2 (m : M.Msg) : St.twice ⟨2, 1, 0, 0, [m]⟩ 0 = ⟨2, 2, 0, 0, [m, m]⟩ ∧ St.twiceR ⟨2, 1, 0, 0, [m]⟩ 0 = 0 := ⟨rfl, rfl⟩
theorem tw_3 (m : M.Msg) : St.twice ⟨2, 2, 0, 0, [m, m]⟩ 0 = ⟨2, 2, 0, 0, [m, m]⟩ ∧ St.twiceR ⟨2, 2, 0, 0, [m, m]⟩ 0 = 7 := ⟨rfl, rfl⟩
theorem tw_4 (m : M.Msg) : St.take ⟨2, 2, 0, 0, [m, m]⟩ 1 = ⟨2, 2, 1, 0, [m]⟩ ∧ St.at ⟨2, 2, 0, 0, [m, m]⟩ 1 = m ∧ St.lk ⟨2, 2, 0, 0, [m, m]⟩ 1 = 0 := ⟨rfl, rfl, rfl⟩
theorem tw_5 (m : M.Msg) : St.take ⟨2, 2, 1, 0, [m]⟩ 0 = ⟨2, 2, 2, 0, []⟩ ∧ St.at ⟨2, 2, 1, 0, [m]⟩ 0 = m ∧ St.lk ⟨2, 2, 1, 0, [m]⟩ 0 = 0 := ⟨rfl, rfl, rfl⟩
theorem tw_ok (a b : Int) (ha : 0 ≤ a ∧ a ≤ 2) (hb : 0 ≤ b ∧ b ≤ 2) {m : M.Msg} (K : M.Mod m.r.c) (l : List M.Msg) (hl : l.length ≤ 2) (h : ∀ x ∈ l, x = m) : St.Ok ⟨2, a, b, 0, l⟩ :=
  ⟨ha.1, by show a ≤ 1000000; omega, hb.1, by show b ≤ 1000000; omega, Int.le_refl _, by show (0 : Int) ≤ 1000000; omega, by show l.length ≤ 1000; omega, fun x hx => by rw [h x hx]; exact K⟩
theorem tw_mem (m : M.Msg) : ∀ x ∈ [m, m], x = m := fun x h => by
  rcases List.mem_cons.1 h with h | h
  · exact h
  · exact List.mem_singleton.1 h
set_option maxHeartbeats 16000000 in
set_option maxRecDepth 100000 in
theorem twice_law (x : Mv) (w : World) (h1 : Rds w x.va x.m.r.c.rs) (h2 : Wrs w x.vb x.m.r.c.ws) : Calls Try.prog 8 #[.agg x.cells.toArray] w (Yes w) := by
  have B0 := below_new (o := .cells x.cells.toArray 49) (Below.refl w.heap.size w)
  have b1 := below_new (o := .cells (Dv.cells ⟨0, 0, x⟩).toArray 51) (Below.refl (w.alloc (.cells x.cells.toArray 49)).heap.size (w.alloc (.cells x.cells.toArray 49)))
  have HB1 := Lib.hid (below_on B0 b1)
  have HX := Lib.hid (Hold.new w x.cells 49)
  have HW := Lib.hid HX.out.cel.whole
  have HX1 := Lib.hid (HX.out.on b1)
  have H1 := Lib.hid ((h1.below B0).below b1)
  have H2 := Lib.hid ((h2.below B0).below b1)
  have HD : Hid (Dos ((w.alloc (.cells x.cells.toArray 49)).alloc (.cells (Dv.cells ⟨0, 0, x⟩).toArray 51)) (.slice (some ⟨w.heap.size + 1, 0, none⟩) 1 1) [⟨0, 0, x⟩]) := Lib.hid (by
    refine ⟨⟨rfl, some ⟨w.heap.size + 1, 0, none⟩, 1, rfl, Nat.le_refl _, fun _ => ⟨w.heap.size + 1, 0, rfl, by simp, fun j u hj => ?_⟩⟩, fun q hq => by rw [List.mem_singleton.1 hq]; exact ⟨H1.out, H2.out⟩⟩
    rw [List.flatMap_singleton] at hj
    rw [Nat.zero_add]
    exact (Cel.new1 w _ (Dv.cells ⟨0, 0, x⟩) 51).get j u hj)
  clear B0 h1 h2 b1
  rcases hq : fewB10 [⟨0, 0, x⟩] with _ | _
  · have HQ := Lib.hid hq
    clear hq
    go_enter Try.func8, Try.ntmps8
    go_wp2_with
      (first
       | (with_reducible refine wpList_load_mid rfl 49 _ rfl w.heap.size 0 rfl _ _ HW.out Try.underlying49 rfl (mv_size _) ?_)
       | (with_reducible refine wpList_build_dv rfl (.tmp 11) rfl x rfl ?_)
       | (with_reducible refine wpList_build51 rfl (.tmp 12) rfl ⟨0, 0, x⟩ rfl ?_)
       | (go_at_call 9; refine (few10_any HD.out (show 1 ≤ 9223372036854775807 by omega)).mono ?_; rintro e w1 ⟨rfl, hb⟩; rw [HQ.out]; have HB2 := Lib.hid (below_on HB1.out hb); clear hb)
       | (go_at_call 10; refine (awake_any _).mono ?_; rintro e w2 ⟨rfl, hb⟩; have HB3 := Lib.hid (below_on HB2.out hb); clear hb))
    go_ret
    exact ⟨rfl, HB3.out⟩
  · have HQ := Lib.hid hq
    have K : M.Mod x.m.r.c := (fewB10_iff.1 hq).1 _ (List.mem_singleton_self _)
    clear hq
    rcases hr : M.rightM x.m with _ | _
    · have HR := Lib.hid hr
      clear hr
      go_enter Try.func8, Try.ntmps8
      go_wp2_with
        (first
         | (with_reducible refine wpList_load_mid rfl 49 _ rfl w.heap.size 0 rfl _ _ HW.out Try.underlying49 rfl (mv_size _) ?_)
         | (with_reducible refine wpList_build_dv rfl (.tmp 11) rfl x rfl ?_)
         | (with_reducible refine wpList_build51 rfl (.tmp 12) rfl ⟨0, 0, x⟩ rfl ?_)
         | (go_at_call 9; refine (few10_any HD.out (show 1 ≤ 9223372036854775807 by omega)).mono ?_; rintro e w1 ⟨rfl, hb⟩; rw [HQ.out]; have HB2 := Lib.hid (below_on HB1.out hb); have HW2 := Lib.hid (HX1.out.on hb).cel.whole; have R2 := Lib.hid (H1.out.below hb); have W2 := Lib.hid (H2.out.below hb); clear hb)
         | (refine wpList_load_mid_g ?_ 49 (.tmp 1) rfl w.heap.size 0 rfl _ _ HW2.out Try.underlying49 rfl (mv_size _) ?_; rfl)
         | (go_at_call 25; refine (dright_mv R2.out W2.out K).mono ?_; rintro e w2 ⟨rfl, hb⟩; rw [HR.out]; have HB3 := Lib.hid (below_on HB2.out hb); clear hb)
         | (go_at_call 10; refine (awake_any _).mono ?_; rintro e w2 ⟨rfl, hb⟩; have HB4 := Lib.hid (below_on HB3.out hb); clear hb))
      go_ret
      exact ⟨rfl, HB4.out⟩
    · have HR := Lib.hid hr
      have t1 := Lib.hid (tw_1 hr)
      have OK0 : St.Ok (St.new 2) := tw_ok 0 0 (by omega) (by omega) K [] (by decide) (fun _ h => (List.not_mem_nil h).elim)
      have OK1 : St.Ok ⟨2, 1, 0, 0, [x.m]⟩ := tw_ok 1 0 (by omega) (by omega) K [x.m] (by show 1 ≤ 2; omega) (fun _ h => List.mem_singleton.1 h)
      have OK2 : St.Ok ⟨2, 2, 0, 0, [x.m, x.m]⟩ := tw_ok 2 0 (by omega) (by omega) K [x.m, x.m] (Nat.le_refl 2) (tw_mem _)
      have OK3 : St.Ok ⟨2, 2, 1, 0, [x.m]⟩ := tw_ok 2 1 (by omega) (by omega) K [x.m] (by show 1 ≤ 2; omega) (fun _ h => List.mem_singleton.1 h)
      clear hr
      go_enter Try.func8, Try.ntmps8
      go_wp2_with
        (first
         | (with_reducible refine wpList_load_mid rfl 49 _ rfl w.heap.size 0 rfl _ _ HW.out Try.underlying49 rfl (mv_size _) ?_)
         | (with_reducible refine wpList_build_dv rfl (.tmp 11) rfl x rfl ?_)
         | (with_reducible refine wpList_build51 rfl (.tmp 12) rfl ⟨0, 0, x⟩ rfl ?_)
         | (go_at_call 9; refine (few10_any HD.out (show 1 ≤ 9223372036854775807 by omega)).mono ?_; rintro e w1 ⟨rfl, hb⟩; rw [HQ.out]; have HB2 := Lib.hid (below_on HB1.out hb); have HX2 := Lib.hid (HX1.out.on hb); have HW2 := Lib.hid HX2.out.cel.whole; have R2 := Lib.hid (H1.out.below hb); have W2 := Lib.hid (H2.out.below hb); clear hb)
         | (refine wpList_load_mid_g ?_ 49 (.tmp 1) rfl w.heap.size 0 rfl _ _ HW2.out Try.underlying49 rfl (mv_size _) ?_; rfl)
         | (go_at_call 25; refine (dright_mv R2.out W2.out K).mono ?_; rintro e w2 ⟨rfl, hb⟩; rw [HR.out]; have HB3 := Lib.hid (below_on HB2.out hb); have HX3 := Lib.hid (HX2.out.on hb); have R3 := Lib.hid (R2.out.below hb); have W3 := Lib.hid (W2.out.below hb); clear hb)
         | fail)
      refine (new_ok 2 _ rfl).mono ?_
      rintro e w3 ⟨rfl, rfl⟩
      have HN3 := Lib.hid (Nt.new (F := fun _ => False) 2 w2 (fun _ e => e.elim))
      have b3 := below_new (o := .cells #[.int .i64 0, .int .i64 0, .int .i64 0, .int .i64 2, .slice none 0 0] 74) (Below.refl w2.heap.size w2)
      have hg : w.heap.size + 1 ≤ w2.heap.size := by have := HX3.out; have := hold_lt this; omega
      have HG := Lib.hid (show w.heap.size ≤ w2.heap.size by omega)
      have HB4 := Lib.hid (below_on HB3.out b3)
      have HX4 := Lib.hid (HX3.out.on b3)
      have HW4 := Lib.hid HX4.out.cel.whole
      have HT4 : Hid (Txt (only w2.heap.size) (w2.alloc (.cells #[.int .i64 0, .int .i64 0, .int .i64 0, .int .i64 2, .slice none 0 0] 74)) x) := Lib.hid ((Txt.of (F := only w2.heap.size) R3.out W3.out (fun y e => by unfold only at e; omega)).below b3)
      have ng : ¬ only w2.heap.size w.heap.size := fun e => by unfold only at e; omega
      have NG := Lib.hid ng
      clear b3 hg ng HB3 HX3 R3 W3
      go_wp2_with
        (first
         | (with_reducible refine wpList_load_mid rfl 49 _ rfl w.heap.size 0 rfl _ _ HW4.out Try.underlying49 rfl (mv_size _) ?_)
         | fail)
      refine (send_any HN3.out OK0 HT4.out K).mono ?_
      rintro e w4 ⟨rfl, hn, hk⟩
      rw [t1.out.2]
      rw [t1.out.1] at hn
      have HN4 := Lib.hid hn
      have HB5 := Lib.hid (below_only HG.out HB4.out hk)
      have HX5 := Lib.hid (hold_keeps HX4.out hk NG.out)
      have HT5 := Lib.hid (HT4.out.step hk (fun _ e => e) (fun _ e => .inl e))
      clear hn hk HN3 HB4 HX4 HT4 HW4
      go_wp2_with (fail)
      refine (twice_any HN4.out OK1 0).mono ?_
      rintro e w5 ⟨rfl, hn, hk⟩
      rw [(tw_2 x.m).2]
      rw [(tw_2 x.m).1] at hn
      have HN5 := Lib.hid hn
      have HB6 := Lib.hid (below_only HG.out HB5.out hk)
      have HX6 := Lib.hid (hold_keeps HX5.out hk NG.out)
      have HT6 := Lib.hid (HT5.out.step hk (fun _ e => e) (fun _ e => .inl e))
      clear hn hk HN4 HB5 HX5 HT5
      go_wp2_with (fail)
      refine (twice_any HN5.out OK2 0).mono ?_
      rintro e w6 ⟨rfl, hn, hk⟩
      rw [(tw_3 x.m).2]
      rw [(tw_3 x.m).1] at hn
      have HN6 := Lib.hid hn
      have HB7 := Lib.hid (below_only HG.out HB6.out hk)
      have HX7 := Lib.hid (hold_keeps HX6.out hk NG.out)
      have HT7 := Lib.hid (HT6.out.step hk (fun _ e => e) (fun _ e => .inl e))
      clear hn hk HN5 HB6 HX6 HT6
      go_wp2_with (fail)
      refine (take_any HN6.out OK2 1).mono ?_
      rintro e w7 ⟨y, rfl, hy, ho, hn, hk⟩
      rw [(tw_4 x.m).2.2]
      rw [(tw_4 x.m).2.1] at hy
      rw [(tw_4 x.m).1] at hn
      have HY := Lib.hid hy
      have HO := Lib.hid ho
      have b := below_new (o := .cells y.cells.toArray 49) (Below.refl w7.heap.size w7)
      have HN7 := Lib.hid (hn.below b)
      have HB8 := Lib.hid (below_on (below_only HG.out HB7.out hk) b)
      have HX8 := Lib.hid ((hold_keeps HX7.out hk NG.out).on b)
      have HT8 := Lib.hid ((HT7.out.step hk (fun _ e => e) (fun _ e => .inl e)).below b)
      have HH8 := Lib.hid (Hold.new w7 y.cells 49)
      have lt6 := hn.lt
      have NG7 := Lib.hid (show ¬ only w2.heap.size w7.heap.size from fun e => by unfold only at e; omega)
      have hT := Lib.hid ((ho.txt (F := only w2.heap.size) (fun z e => by unfold only at e; rw [e]; exact HN6.out.lt)).below b)
      clear hn hk hy ho b lt6 HN6 HB7 HX7 HT7
      go_wp2_with
        (first
         | (with_reducible refine wpList_store_fresh rfl 49 _ _ rfl _ rfl 49 _ y.cells rfl rfl rfl (mv_size _) HO.out.one ?_)
         | fail)
      refine (take_any HN7.out OK3 0).mono ?_
      rintro e w8 ⟨z, rfl, hz, ho, hn, hk⟩
      rw [(tw_5 x.m).2.2]
      rw [(tw_5 x.m).2.1] at hz
      rw [(tw_5 x.m).1] at hn
      have HZ := Lib.hid hz
      have HO2 := Lib.hid ho
      have b := below_new (o := .cells z.cells.toArray 49) (Below.refl w8.heap.size w8)
      have HN8 := Lib.hid (hn.below b)
      have HB9 := Lib.hid (below_on (below_only HG.out HB8.out hk) b)
      have HX9 := Lib.hid ((hold_keeps HX8.out hk NG.out).on b)
      have HT9 := Lib.hid ((HT8.out.step hk (fun _ e => e) (fun _ e => .inl e)).below b)
      have HH9 := Lib.hid ((hold_keeps HH8.out hk NG7.out).on b)
      have HU9 := Lib.hid ((hT.out.step hk (fun _ e => e) (fun _ e => .inl e)).below b)
      have HV9 := Lib.hid ((ho.txt (F := only w2.heap.size) (fun q e => by unfold only at e; rw [e]; exact HN7.out.lt)).below b)
      have HI9 := Lib.hid (Hold.new w8 z.cells 49)
      have LX := Lib.hid HX9.out.cel.whole
      have LY := Lib.hid HH9.out.cel.whole
      have LZ := Lib.hid HI9.out.cel.whole
      clear hn hk hz ho b HN7 HB8 HX8 HT8 HH8
      have HK := Lib.hid (show M.Mod y.m.r.c by rw [HY.out]; exact K)
      have HK2 := Lib.hid (show M.Mod z.m.r.c by rw [HZ.out]; exact K)
      go_wp2_with
        (first
         | (with_reducible refine wpList_store_fresh rfl 49 _ _ rfl _ rfl 49 _ z.cells rfl rfl rfl (mv_size _) HO2.out.one ?_)
         | (refine wpList_load_mid_g ?_ 49 (.tmp 7) rfl w7.heap.size 0 rfl _ _ LY.out Try.underlying49 rfl (mv_size _) ?_; rfl)
         | (refine wpList_load_mid_g ?_ 49 (.tmp 1) rfl w.heap.size 0 rfl _ _ LX.out Try.underlying49 rfl (mv_size _) ?_; rfl)
         | (go_at_call 21
            refine (dsame_mv (x := y) (y := x) HU9.out.rs HU9.out.ws HT9.out.rs HT9.out.ws HK.out HY.out).mono ?_
            rintro e w9 ⟨rfl, hb⟩
            have HN10 := Lib.hid (HN8.out.below hb)
            have HB10 := Lib.hid (below_on HB9.out hb)
            have HT10 := Lib.hid (HT9.out.below hb)
            have HV10 := Lib.hid (HV9.out.below hb)
            have LX10 := Lib.hid (HX9.out.on hb).cel.whole
            have LZ10 := Lib.hid (HI9.out.on hb).cel.whole
            clear hb HU9 HN8)
         | (refine wpList_load_mid_g ?_ 49 (.tmp 9) rfl w8.heap.size 0 rfl _ _ LZ10.out Try.underlying49 rfl (mv_size _) ?_; rfl)
         | (refine wpList_load_mid_g ?_ 49 (.tmp 1) rfl w.heap.size 0 rfl _ _ LX10.out Try.underlying49 rfl (mv_size _) ?_; rfl)
         | (go_at_call 21
            refine (dsame_mv (x := z) (y := x) HV10.out.rs HV10.out.ws HT10.out.rs HT10.out.ws HK2.out HZ.out).mono ?_
            rintro e w10 ⟨rfl, hb⟩
            have HN11 := Lib.hid (HN10.out.below hb)
            have HB11 := Lib.hid (below_on HB10.out hb)
            clear hb)
         | (go_at_call 16; refine (len_any HN11.out).mono ?_; rintro e w11 ⟨rfl, rfl⟩; rw [show ((St.ms ⟨2, 2, 2, 0, []⟩).length : Int) = 0 from rfl])
         | (go_at_call 10; refine (awake_any _).mono ?_; rintro e w12 ⟨rfl, hb⟩; have HB12 := Lib.hid (below_on HB11.out hb); clear hb))
      go_ret
      exact ⟨rfl, HB12.out⟩
end Go.Proofs.Ytnahboflpipfpaa
