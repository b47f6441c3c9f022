/- The walk of FramePuts; no conditions but that the table reads as the text lays it. -/
import Derived.Test.YtmjkcbcenpdcnaaDoorLaws
import Derived.Test.YtmjkcbcenpdcnaaDoorAfter
namespace Go.Proofs.YtmjkcbcenpdcnaaDoor
open Go.RowKit

theorem size5 (w : World) : (sizeOf 5).run Tryd.prog w = .ok 1 w := by
  obtain ⟨i0, hi, hz0, hz1, hz2⟩ := info_parts info5
  simp [sizeOf, typeInfo, hi, hz1]
theorem elem22 : Tryd.prog.elem 22 = 5 := by kernel_rfl
theorem under22 : Tryd.prog.underlying 22 = some (.slice (Tryd.prog.elem 22)) := by rw [elem22]; exact Tryd.underlying22
theorem slice_to (w : World) (g o n c : Nat) (h : n ≤ c) (h0 : 0 < c) (m : Nat) : (Instr.sliceAt 22 (.slice (some ⟨g, o, none⟩) m c) none (some (.int .i64 (n : Int))) none).run Tryd.prog w = .ok (.slice (some ⟨g, o, none⟩) n c) w := by
  rw [run_sliceAt_slice w 22 _ _ _ _ under22, run_slice_h w 22 _ _ _ under22 .i64 (n : Int) (by omega) (by omega), elem22, size5]
  simp [Result.andThen, sliced, show ¬ c = 0 by omega, Addr.add_lit]
theorem slice_from (w : World) (g o n c l : Nat) (h : l ≤ n) (h1 : l < c) : (Instr.sliceAt 22 (.slice (some ⟨g, o, none⟩) n c) (some (.int .i64 (l : Int))) none none).run Tryd.prog w = .ok (.slice (some ⟨g, o + l, none⟩) (n - l) (c - l)) w := by
  rw [run_sliceAt_slice w 22 _ _ _ _ under22, run_slice_l w 22 _ _ _ under22 .i64 (l : Int) (by omega) (by omega), elem22, size5]
  simp [Result.andThen, sliced, show ¬ c = l by omega, Addr.add_lit]

/-- A copy, its room behind a name. -/
theorem own_any' {w : World} {v : Value} {xs : List UInt8} (h : Bts w v xs) (hl : xs.length ≤ 1000000) : Calls Tryd.prog 10 #[v] w fun e w' => ∃ N, Hid (N = xs.length + 16) ∧ e = .returned (.slice (some ⟨w.heap.size, 0, none⟩) xs.length N) ∧ Blk w' w.heap.size (xs ++ List.replicate 16 0) ∧ Below w.heap.size w w' :=
  (own_any h hl).mono fun _ _ ⟨he, hk, hb⟩ => ⟨_, Lib.hid rfl, he, hk, hb⟩

/-- What Put tells, in both ways. -/
def PutSays (bs ps : List UInt8) (w' : World) (A : Option Addr) (ln c : Nat) (ee : Int) : Prop :=
  ((1 ≤ ps.length ∧ ps.length ≤ 4096) → ee = 0 ∧ Bts w' (.slice A ln c) (bs ++ M.frm ps)) ∧ (¬ (1 ≤ ps.length ∧ ps.length ≤ 4096) → ee = 1 ∧ ln = 0)
theorem put_any {w : World} {v u : Value} {bs ps : List UInt8} (hT : Tab w) (h : Bts w v bs) (h' : Bts w u ps) (hl : bs.length ≤ 100000) (hl' : ps.length ≤ 100000) :
    Calls Tryd.prog 14 #[v, u] w fun e w' => ∃ A ln c ee, e = .returned (.tuple #[.slice A ln c, .int .i64 ee]) ∧ PutSays bs ps w' A ln c ee ∧ Below w.heap.size w w' := by
  by_cases hr : 1 ≤ ps.length ∧ ps.length ≤ 4096
  · refine (put_ok hT h h' hl hr.1 hr.2).mono fun e w' ⟨he, hk, hb⟩ => ?_
    exact ⟨_, _, _, _, he, ⟨fun _ => ⟨rfl, hk.bts (by rw [List.drop_zero, List.take_of_length_le (by simp [M.frm_len])]) (by simp [M.frm_len]) (Nat.le_refl _)⟩, fun h0 => absurd hr h0⟩, hb⟩
  · refine (put_bad h h' (by omega) hr).mono fun e w' ⟨he, hw⟩ => ?_
    subst hw
    exact ⟨_, _, _, _, he, ⟨fun h0 => absurd h0 hr, fun _ => ⟨rfl, rfl⟩⟩, Below.refl _ _⟩

theorem mk16 (w : World) : (Instr.makeSlice 22 (.int .i64 16) (.int .i64 16)).run Tryd.prog w = .ok (.slice (some ⟨w.heap.size, 0, none⟩) 16 16) (w.alloc (.cells (madeCells #[.int .u8 0] 16) 5)) := by
  obtain ⟨i0, hi, hz0, hz1, hz2⟩ := info_parts info5
  have hm := run_make (P := Tryd.prog) w 22 5 i0 (.int .u8 0) Tryd.underlying22 hi hz0 .i64 .i64 16 16 (by omega) (by omega) (by rw [hz2]; omega) (by omega)
  rw [hz1] at hm
  exact hm

theorem made16 (w : World) : Bts (w.alloc (.cells (madeCells #[.int .u8 0] 16) 5)) (.slice (some ⟨w.heap.size, 0, none⟩) 16 16) (List.replicate 16 0) := (Blk.made w 16).bts (o := 0) (n := 16) (c := 16) rfl (by simp) (by omega)

/-- An append behind a guard that lets it through, its run known. -/
theorem wpList_append_run_g {P : Program} (w : World) {ops : Array Oper} {rest : List Oper} {o : Oper} {a : Act} {Q : Exit → Act → World → Prop} (hgd : Region.wanted o (yielded ops a.tmps) = true) (s x : Operand) (t tn : TypeId)
    (ho : o.op = .call { callee := .builtin .append, args := #[s, x], argTypes := #[t, tn] }) (vs vx : Value) (hs : a.eval s = vs) (hx : a.eval x = vx)
    (v' : Value) (w' : World) (hr : (Builtin.append_ #[t, tn] o.type #[vs, vx]).run P w = .ok v' w') (h : wpList P ops Q rest (a.put o.dst v') w') : wpList P ops Q (o :: rest) a w :=
  wpList_step fun K hK => by
    rw [if_pos hgd]
    exact Lib.wp_append_run w s x t tn ho vs vx hs hx v' w' hr (hK _ _ h)

set_option maxHeartbeats 16000000 in
set_option maxRecDepth 100000 in
theorem puts_law {w : World} {v u : Value} {bs ps : List UInt8} (n : Int) (hT : Tab w) (h : Bts w v bs) (h' : Bts w u ps) : Calls Tryd.prog 4 #[v, u, .int .i64 n] w (Yes w) := by
  have HT := Lib.hid hT
  have HV := Lib.hid h
  have HU := Lib.hid h'
  obtain ⟨A, c, rfl, hc, hx⟩ := h.opened
  obtain ⟨A', c', rfl, hc', hx'⟩ := h'.opened
  have EN := Lib.hid (show ∀ (w2 : World), Below w.heap.size w w2 → Tab w2 → Calls Tryd.prog 9 #[] w2 fun e w' => e = .returned (.bool true) ∧ Below w.heap.size w w' from fun w2 hb ht => (awake_any ht).mono fun _ _ h => ⟨h.1, below_on hb h.2⟩)
  clear hx hx' h h' hT
  by_cases h1 : bs.length ≤ 4500
  · by_cases h2 : ps.length ≤ 4500
    · by_cases hn : 1 ≤ n ∧ n ≤ 4096
      · obtain ⟨hn1, hn2⟩ := hn
        have hz := M.size_yes (n := n) ⟨hn1, hn2⟩
        go_enter Tryd.func4, Tryd.ntmps4
        go_wp2_with (fail)
        refine (own_any' HV.out (by omega)).mono ?_
        rintro e w1 ⟨N, HN, rfl, hk, hb⟩
        have HB1 := Lib.hid hb
        have HK1 := Lib.hid hk
        have HU1 := Lib.hid (HU.out.below hb)
        have HV1 := Lib.hid (HV.out.below hb)
        have HT1 := Lib.hid (HT.out.below hb)
        obtain ⟨g, hg⟩ : ∃ g, g = w.heap.size := ⟨_, rfl⟩
        rw [← hg] at HK1 ⊢
        clear hk hb HV HT HU hg
        go_wp2_with (fail)
        refine (own_any' HU1.out (by omega)).mono ?_
        rintro e w2 ⟨N', HN', rfl, hk, hb⟩
        have HB2 := Lib.hid (below_on HB1.out hb)
        have HK2 := Lib.hid (HK1.out.below hb)
        have HU2 := Lib.hid (HU1.out.below hb)
        have HV2 := Lib.hid (HV1.out.below hb)
        have HT2 := Lib.hid (HT1.out.below hb)
        have HX := Lib.hid (HK2.out.bts (o := 0) (n := bs.length) (c := N) (xs := bs) (by simp) (by simp) (by have := HN.out; omega))
        have HY := Lib.hid (hk.bts (o := 0) (n := ps.length) (c := N') (xs := ps) (by simp) (by simp) (by have := HN'.out; omega))
        obtain ⟨g', hg'⟩ : ∃ g', g' = w1.heap.size := ⟨_, rfl⟩
        rw [← hg'] at HY ⊢
        clear hk hb HB1 HK1 HU1 HV1 HT1 hg'
        go_wp2_with (fail)
        refine (put_any HT2.out HX.out HY.out (by omega) (by omega)).mono ?_
        rintro e w3 ⟨P, ln, pc, ee, rfl, hs, hb⟩
        have HS := Lib.hid hs
        have HB3 := Lib.hid (below_on HB2.out hb)
        have HT3 := Lib.hid (HT2.out.below hb)
        have HX3 := Lib.hid (HX.out.below hb)
        have HY3 := Lib.hid (HY.out.below hb)
        have HV3 := Lib.hid (HV2.out.below hb)
        have HU3 := Lib.hid (HU2.out.below hb)
        have HZ3 := Lib.hid ((HK2.out.below hb).bts (o := bs.length) (n := N - bs.length) (c := N - bs.length) (xs := List.replicate 16 0) (by rw [List.drop_left, HN.out]; simp) (by have := HN.out; simp; omega) (by omega))
        clear hs hb HB2 HT2 HX HY HV2 HU2 HK2 HN'
        go_wp2
        refine wp_region_any (by kernel_rfl) ?_
        try (change wpAny _ _ _ _ _ _ _ (World.drew _))
        refine wpAny_take (i := 0) (v := ?va0) rfl (by kernel_rfl) (by kernel_rfl) (by kernel_rfl) (fun _ _ _ h => h) (Or.inl ⟨by rfl, ?ha0⟩) ?ra0
        case ha0 => intro w; go_simp; try with_reducible rfl
        go_simp
        refine wpAny_take (i := 2) (v := ?va2) rfl (by kernel_rfl) (by kernel_rfl) (by kernel_rfl) (fun _ _ _ h => h) (Or.inl ⟨by rfl, ?ha2⟩) ?ra2
        case ha2 => intro w; go_simp; try with_reducible rfl
        go_simp
        refine wpAny_ready (rs := [1]) (by kernel_rfl) (by simp) ?_
        refine AllReady.cons rfl (fun K hK => ?_) AllReady.nil
        go_simp
        go_wp2_with (fail)
        refine (size_any _ _).mono ?_
        rintro e wa ⟨rfl, rfl⟩
        rw [hz]
        clear hz
        go_wp2_with (fail)
        refine wpAny_take (i := 3) (v := ?va3) rfl (by kernel_rfl) (by kernel_rfl) (by kernel_rfl) (fun _ _ _ h => h) (Or.inl ⟨by rfl, ?ha3⟩) ?ra3
        case ha3 => intro w; go_simp; try with_reducible rfl
        go_simp
        refine wpAny_take (i := 4) (v := ?va4) rfl (by kernel_rfl) (by kernel_rfl) (by kernel_rfl) (fun _ _ _ h => h) (Or.inl ⟨by rfl, ?ha4⟩) ?ra4
        case ha4 => intro w; go_simp; try with_reducible rfl
        go_simp
        refine wpAny_take (i := 5) (v := ?va5) rfl (by kernel_rfl) (by kernel_rfl) (by kernel_rfl) (fun _ _ _ h => h) (Or.inl ⟨by rfl, ?ha5⟩) ?ra5
        case ha5 => intro w; go_simp; try with_reducible rfl
        go_simp
        refine wpAny_take (i := 6) (v := ?va6) rfl (by kernel_rfl) (by kernel_rfl) (by kernel_rfl) (fun _ _ _ h => h) (Or.inl ⟨by rfl, ?ha6⟩) ?ra6
        case ha6 => intro w; go_simp; try with_reducible rfl
        go_simp
        refine wpAny_ready (rs := [7]) (by kernel_rfl) (by simp) ?_
        refine AllReady.cons rfl (fun K hK => ?_) AllReady.nil
        go_simp
        go_wp2_with (fail)
        refine (same_any (w := w3.drew) (HX3.out.below (Below.refl _ _).drew) (HV3.out.below (Below.refl _ _).drew) (by omega)).mono ?_
        rintro e w4 ⟨rfl, hb⟩
        rw [M.sameB_refl]
        have hb' : Below w3.heap.size w3 w4 := (Below.refl _ w3).drew.trans hb
        have HB4 := Lib.hid (below_on HB3.out hb')
        have HT4 := Lib.hid (HT3.out.below hb')
        have HY4 := Lib.hid (HY3.out.below hb')
        have HV4 := Lib.hid (HV3.out.below hb')
        have HU4 := Lib.hid (HU3.out.below hb')
        have HZ4 := Lib.hid (HZ3.out.below hb')
        have HC4 := Lib.hid hb'
        clear hb hb' HB3 HT3 HX3 HY3 HV3 HU3 HZ3
        go_wp2_with (fail)
        refine wpAny_take (i := 8) (v := ?va8) rfl (by kernel_rfl) (by kernel_rfl) (by kernel_rfl) (fun _ _ _ h => h) (Or.inl ⟨by rfl, ?ha8⟩) ?ra8
        case ha8 => intro w; go_simp; try with_reducible rfl
        go_simp
        refine wpAny_take (i := 9) (v := ?va9) rfl (by kernel_rfl) (by kernel_rfl) (by kernel_rfl) (fun _ _ _ h => h) (Or.inl ⟨by rfl, ?ha9⟩) ?ra9
        case ha9 => intro w; go_simp; try with_reducible rfl
        go_simp
        refine wpAny_take (i := 10) (v := ?va10) rfl (by kernel_rfl) (by kernel_rfl) (by kernel_rfl) (fun _ _ _ h => h) (Or.inl ⟨by rfl, ?ha10⟩) ?ra10
        case ha10 => intro w; go_simp; try with_reducible rfl
        go_simp
        refine wpAny_take (i := 11) (v := ?va11) rfl (by kernel_rfl) (by kernel_rfl) (by kernel_rfl) (fun _ _ _ h => h) (Or.inl ⟨by rfl, ?ha11⟩) ?ra11
        case ha11 => intro w; go_simp; try with_reducible rfl
        go_simp
        refine wpAny_take (i := 12) (v := ?va12) rfl (by kernel_rfl) (by kernel_rfl) (by kernel_rfl) (fun _ _ _ h => h) (Or.inl ⟨by rfl, ?ha12⟩) ?ra12
        case ha12 => intro w; go_simp; try with_reducible rfl
        go_simp
        refine wpAny_ready (rs := [13]) (by kernel_rfl) (by simp) ?_
        refine AllReady.cons rfl (fun K hK => ?_) AllReady.nil
        go_simp
        go_wp2_with (fail)
        refine (same_any (w := w4) HY4.out HU4.out (by omega)).mono ?_
        rintro e w5 ⟨rfl, hb⟩
        rw [M.sameB_refl]
        have hb' := below_new (o := .cells (madeCells #[.int .u8 0] 16) 5) hb
        have HB5 := Lib.hid (below_on HB4.out hb')
        have HT5 := Lib.hid (HT4.out.below hb')
        have HV5 := Lib.hid (HV4.out.below hb')
        have HU5 := Lib.hid (HU4.out.below hb')
        have HZ5 := Lib.hid (HZ4.out.below hb')
        have HC5 := Lib.hid (below_on HC4.out hb')
        have HM5 := Lib.hid (made16 w5)
        clear hb hb' HB4 HT4 HY4 HV4 HU4 HZ4 HC4
        go_wp2_with (fail)
        refine wpAny_take (i := 14) (v := ?va14) rfl (by kernel_rfl) (by kernel_rfl) (by kernel_rfl) (fun _ _ _ h => h) (Or.inl ⟨by rfl, ?ha14⟩) ?ra14
        case ha14 => intro w; go_simp; try with_reducible rfl
        go_simp
        refine wpAny_take (i := 15) (v := ?va15) rfl (by kernel_rfl) (by kernel_rfl) (by kernel_rfl) (fun _ _ _ h => h) (Or.inl ⟨by rfl, ?ha15⟩) ?ra15
        case ha15 => intro w; go_simp; try with_reducible rfl
        go_simp
        refine wpAny_take (i := 16) (v := ?va16) rfl (by kernel_rfl) (by kernel_rfl) (by kernel_rfl) (fun _ _ _ h => h) (Or.inl ⟨by rfl, ?ha16⟩) ?ra16
        case ha16 => intro w; go_simp; try with_reducible rfl
        go_simp
        refine wpAny_take (i := 17) (v := ?va17) rfl (by kernel_rfl) (by kernel_rfl) (by kernel_rfl) (fun _ _ _ h => h) (Or.inl ⟨by rfl, ?ha17⟩) ?ra17
        case ha17 => intro w; go_simp; try with_reducible rfl
        go_simp
        refine wpAny_take (i := 18) (v := ?va18) rfl (by kernel_rfl) (by kernel_rfl) (by kernel_rfl) (fun _ _ _ h => h) (Or.inl ⟨by rfl, ?ha18⟩) ?ra18
        case ha18 => intro w; go_simp; try with_reducible rfl
        go_simp
        refine wpAny_take (i := 19) (v := ?va19) rfl (by kernel_rfl) (by kernel_rfl) (by kernel_rfl) (fun _ _ _ h => h) (Or.inl ⟨by rfl, ?ha19⟩) ?ra19
        case ha19 => intro w; go_simp; try with_reducible rfl
        go_simp
        have p1 := fun w => slice_to w g 0 N N (Nat.le_refl _) (by have := HN.out; omega) bs.length
        refine wpAny_take (i := 20) (v := ?va20) rfl (by kernel_rfl) (by kernel_rfl) (by kernel_rfl) (fun _ _ _ h => h) (Or.inl ⟨by rfl, ?ha20⟩) ?ra20
        case ha20 => intro w; go_simp; try with_reducible rfl
        go_simp
        clear p1
        refine wpAny_take (i := 21) (v := ?va21) rfl (by kernel_rfl) (by kernel_rfl) (by kernel_rfl) (fun _ _ _ h => h) (Or.inl ⟨by rfl, ?ha21⟩) ?ra21
        case ha21 => intro w; go_simp; try with_reducible rfl
        go_simp
        refine wpAny_take (i := 22) (v := ?va22) rfl (by kernel_rfl) (by kernel_rfl) (by kernel_rfl) (fun _ _ _ h => h) (Or.inl ⟨by rfl, ?ha22⟩) ?ra22
        case ha22 => intro w; go_simp; try with_reducible rfl
        go_simp
        have p2 := fun w => slice_from w g 0 N N bs.length (by have := HN.out; omega) (by have := HN.out; omega)
        refine wpAny_take (i := 23) (v := ?va23) rfl (by kernel_rfl) (by kernel_rfl) (by kernel_rfl) (fun _ _ _ h => h) (Or.inl ⟨by rfl, ?ha23⟩) ?ra23
        case ha23 => intro w; go_simp; try with_reducible rfl
        go_simp
        clear p2
        refine wpAny_take (i := 24) (v := ?va24) rfl (by kernel_rfl) (by kernel_rfl) (by kernel_rfl) (fun _ _ _ h => h) (Or.inl ⟨by rfl, ?ha24⟩) ?ra24
        case ha24 => intro w; go_simp; try with_reducible rfl
        go_simp
        refine wpAny_take (i := 25) (v := ?va25) rfl (by kernel_rfl) (by kernel_rfl) (by kernel_rfl) (fun _ _ _ h => h) (Or.inl ⟨by rfl, ?ha25⟩) ?ra25
        case ha25 => intro w; go_simp; try with_reducible rfl
        go_simp
        refine wpAny_take (i := 26) (v := ?va26) rfl (by kernel_rfl) (by kernel_rfl) (by kernel_rfl) (fun _ _ _ h => h) (Or.inl ⟨by rfl, ?ha26⟩) ?ra26
        case ha26 => intro w; go_simp; try with_reducible rfl
        go_simp
        refine wpAny_take (i := 27) (v := ?va27) rfl (by kernel_rfl) (by kernel_rfl) (by kernel_rfl) (fun _ _ _ h => h) (Or.inl ⟨by rfl, ?ha27⟩) ?ra27
        case ha27 => intro w; go_simp; try with_reducible rfl
        go_simp
        have z1 : IntKind.i64.wrap ((N : Int) - (bs.length : Int)) = 16 := by rw [IntKind.wrap_i64, HN.out]; omega
        refine wpAny_take (i := 28) (v := ?va28) rfl (by kernel_rfl) (by kernel_rfl) (by kernel_rfl) (fun _ _ _ h => h) (Or.inl ⟨by rfl, ?ha28⟩) ?ra28
        case ha28 => intro w; go_simp; try with_reducible rfl
        go_simp
        clear z1
        have hm := mk16 w5
        refine wpAny_ready (rs := [29]) (by kernel_rfl) (by simp) ?_
        refine AllReady.cons rfl (fun K hK => ?_) AllReady.nil
        go_simp
        refine hK _ _ ?_
        clear hK K hm
        refine wpAny_ready (rs := [30]) (by kernel_rfl) (by simp) ?_
        refine AllReady.cons rfl (fun K hK => ?_) AllReady.nil
        go_simp
        go_wp2_with (fail)
        refine (same_any HZ5.out HM5.out (by simp)).mono ?_
        rintro e w6 ⟨rfl, hb⟩
        rw [M.sameB_refl]
        have HB6 := Lib.hid (below_on HB5.out hb)
        have HT6 := Lib.hid (HT5.out.below hb)
        have HV6 := Lib.hid (HV5.out.below hb)
        have HU6 := Lib.hid (HU5.out.below hb)
        have HC6 := Lib.hid (below_on HC5.out hb)
        clear hb HB5 HT5 HV5 HU5 HZ5 HC5 HM5
        go_wp2_with (fail)
        refine wpAny_take (i := 31) (v := ?va31) rfl (by kernel_rfl) (by kernel_rfl) (by kernel_rfl) (fun _ _ _ h => h) (Or.inl ⟨by rfl, ?ha31⟩) ?ra31
        case ha31 => intro w; go_simp; try with_reducible rfl
        go_simp
        refine wpAny_take (i := 32) (v := ?va32) rfl (by kernel_rfl) (by kernel_rfl) (by kernel_rfl) (fun _ _ _ h => h) (Or.inl ⟨by rfl, ?ha32⟩) ?ra32
        case ha32 => intro w; go_simp; try with_reducible rfl
        go_simp
        refine wpAny_done (by kernel_rfl) ?_ _
        by_cases hr : 1 ≤ ps.length ∧ ps.length ≤ 4096
        · obtain ⟨rfl, hbt⟩ := HS.out.1 hr
          obtain ⟨hr1, hr2⟩ := hr
          have HF := Lib.hid (hbt.below HC6.out)
          clear hbt HS HC6
          go_wp2_with (fail)
          refine (own_any HV6.out (by omega)).mono ?_
          rintro e w7 ⟨rfl, hk, hb⟩
          have HB7 := Lib.hid hb
          have HK7 := Lib.hid hk
          have HU7 := Lib.hid (HU6.out.below hb)
          have hb76 := hb
          clear hk hb HV6 HU6
          go_wp2_with (fail)
          refine (frame_any HU7.out (by omega)).mono ?_
          rintro e w8 ⟨vf, rfl, hof, hb⟩
          have hb86 := below_on hb76 hb
          obtain ⟨vp, w9, hrr, ho, hg⟩ := append_own (HK7.out.below hb) (Nat.le_refl _) (show Bts w8 vf (M.frm ps) from Row.of_owns hof) (by rw [M.frm_len]; omega)
          have hb9 := hb86.grown hg hb86.size (fun k e => by cases e; exact Nat.le_refl _)
          have HB9 := Lib.hid (below_on HB6.out hb9)
          have HT9 := Lib.hid (HT6.out.below hb9)
          have HF9 := Lib.hid (HF.out.below hb9)
          have HP9 := Lib.hid (show Bts w9 vp (bs ++ M.frm ps) from Row.of_owns ho)
          clear hb76 hb86 hb hof ho hg hb9 HB7 HK7 HU7 HB6 HT6 HF
          go_wp2_with (at_builtin; refine wpList_append_run_g _ (by rfl) _ _ _ _ rfl _ _ rfl rfl _ _ hrr ?_)
          refine (same_any HF9.out HP9.out (by simp [M.frm_len]; omega)).mono ?_
          rintro e w10 ⟨rfl, hb⟩
          rw [M.sameB_refl]
          have HB10 := Lib.hid (below_on HB9.out hb)
          have HT10 := Lib.hid (HT9.out.below hb)
          clear hb HB9 HT9 HF9 HP9 hrr
          go_wp2_with (fail)
          refine (EN.out w10 HB10.out HT10.out).mono ?_
          rintro e w11 ⟨rfl, hb⟩
          have HB11 := Lib.hid hb
          clear hb
          go_wp2
          go_ret
          exact ⟨rfl, HB11.out⟩
        · obtain ⟨rfl, rfl⟩ := HS.out.2 hr
          have hr' : ps.length < 1 ∨ 4096 < ps.length := by omega
          clear hr HS HC6
          rcases hr' with hr' | hr'
          all_goals
            go_wp2_with (fail)
            refine (EN.out w6 HB6.out HT6.out).mono ?_
            rintro e w7 ⟨rfl, hb⟩
            have HB7 := Lib.hid hb
            clear hb
            go_wp2
            go_ret
            exact ⟨rfl, HB7.out⟩
      · have hz := M.size_no (n := n) hn
        have hn' : n < 1 ∨ 4096 < n := by omega
        clear hn
        rcases hn' with hn' | hn'
        · skip
          go_enter Tryd.func4, Tryd.ntmps4
          go_wp2_with (fail)
          refine (own_any' HV.out (by omega)).mono ?_
          rintro e w1 ⟨N, HN, rfl, hk, hb⟩
          have HB1 := Lib.hid hb
          have HK1 := Lib.hid hk
          have HU1 := Lib.hid (HU.out.below hb)
          have HV1 := Lib.hid (HV.out.below hb)
          have HT1 := Lib.hid (HT.out.below hb)
          obtain ⟨g, hg⟩ : ∃ g, g = w.heap.size := ⟨_, rfl⟩
          rw [← hg] at HK1 ⊢
          clear hk hb HV HT HU hg
          go_wp2_with (fail)
          refine (own_any' HU1.out (by omega)).mono ?_
          rintro e w2 ⟨N', HN', rfl, hk, hb⟩
          have HB2 := Lib.hid (below_on HB1.out hb)
          have HK2 := Lib.hid (HK1.out.below hb)
          have HU2 := Lib.hid (HU1.out.below hb)
          have HV2 := Lib.hid (HV1.out.below hb)
          have HT2 := Lib.hid (HT1.out.below hb)
          have HX := Lib.hid (HK2.out.bts (o := 0) (n := bs.length) (c := N) (xs := bs) (by simp) (by simp) (by have := HN.out; omega))
          have HY := Lib.hid (hk.bts (o := 0) (n := ps.length) (c := N') (xs := ps) (by simp) (by simp) (by have := HN'.out; omega))
          obtain ⟨g', hg'⟩ : ∃ g', g' = w1.heap.size := ⟨_, rfl⟩
          rw [← hg'] at HY ⊢
          clear hk hb HB1 HK1 HU1 HV1 HT1 hg'
          go_wp2_with (fail)
          refine (put_any HT2.out HX.out HY.out (by omega) (by omega)).mono ?_
          rintro e w3 ⟨P, ln, pc, ee, rfl, hs, hb⟩
          have HS := Lib.hid hs
          have HB3 := Lib.hid (below_on HB2.out hb)
          have HT3 := Lib.hid (HT2.out.below hb)
          have HX3 := Lib.hid (HX.out.below hb)
          have HY3 := Lib.hid (HY.out.below hb)
          have HV3 := Lib.hid (HV2.out.below hb)
          have HU3 := Lib.hid (HU2.out.below hb)
          have HZ3 := Lib.hid ((HK2.out.below hb).bts (o := bs.length) (n := N - bs.length) (c := N - bs.length) (xs := List.replicate 16 0) (by rw [List.drop_left, HN.out]; simp) (by have := HN.out; simp; omega) (by omega))
          clear hs hb HB2 HT2 HX HY HV2 HU2 HK2 HN'
          go_wp2
          refine wp_region_any (by kernel_rfl) ?_
          try (change wpAny _ _ _ _ _ _ _ (World.drew _))
          refine wpAny_take (i := 0) (v := ?vb0) rfl (by kernel_rfl) (by kernel_rfl) (by kernel_rfl) (fun _ _ _ h => h) (Or.inl ⟨by rfl, ?hb0⟩) ?rb0
          case hb0 => intro w; go_simp; try with_reducible rfl
          go_simp
          refine wpAny_take (i := 2) (v := ?vb2) rfl (by kernel_rfl) (by kernel_rfl) (by kernel_rfl) (fun _ _ _ h => h) (Or.inl ⟨by rfl, ?hb2⟩) ?rb2
          case hb2 => intro w; go_simp; try with_reducible rfl
          go_simp
          refine wpAny_ready (rs := [1]) (by kernel_rfl) (by simp) ?_
          refine AllReady.cons rfl (fun K hK => ?_) AllReady.nil
          go_simp
          go_wp2_with (fail)
          refine (size_any _ _).mono ?_
          rintro e wa ⟨rfl, rfl⟩
          rw [hz]
          clear hz
          go_wp2_with (fail)
          refine wpAny_take (i := 3) (v := ?vb3) rfl (by kernel_rfl) (by kernel_rfl) (by kernel_rfl) (fun _ _ _ h => h) (Or.inl ⟨by rfl, ?hb3⟩) ?rb3
          case hb3 => intro w; go_simp; try with_reducible rfl
          go_simp
          refine wpAny_take (i := 4) (v := ?vb4) rfl (by kernel_rfl) (by kernel_rfl) (by kernel_rfl) (fun _ _ _ h => h) (Or.inl ⟨by rfl, ?hb4⟩) ?rb4
          case hb4 => intro w; go_simp; try with_reducible rfl
          go_simp
          refine wpAny_take (i := 5) (v := ?vb5) rfl (by kernel_rfl) (by kernel_rfl) (by kernel_rfl) (fun _ _ _ h => h) (Or.inl ⟨by rfl, ?hb5⟩) ?rb5
          case hb5 => intro w; go_simp; try with_reducible rfl
          go_simp
          refine wpAny_take (i := 6) (v := ?vb6) rfl (by kernel_rfl) (by kernel_rfl) (by kernel_rfl) (fun _ _ _ h => h) (Or.inl ⟨by rfl, ?hb6⟩) ?rb6
          case hb6 => intro w; go_simp; try with_reducible rfl
          go_simp
          refine wpAny_ready (rs := [7]) (by kernel_rfl) (by simp) ?_
          refine AllReady.cons rfl (fun K hK => ?_) AllReady.nil
          go_simp
          go_wp2_with (fail)
          refine (same_any (w := w3.drew) (HX3.out.below (Below.refl _ _).drew) (HV3.out.below (Below.refl _ _).drew) (by omega)).mono ?_
          rintro e w4 ⟨rfl, hb⟩
          rw [M.sameB_refl]
          have hb' : Below w3.heap.size w3 w4 := (Below.refl _ w3).drew.trans hb
          have HB4 := Lib.hid (below_on HB3.out hb')
          have HT4 := Lib.hid (HT3.out.below hb')
          have HY4 := Lib.hid (HY3.out.below hb')
          have HV4 := Lib.hid (HV3.out.below hb')
          have HU4 := Lib.hid (HU3.out.below hb')
          have HZ4 := Lib.hid (HZ3.out.below hb')
          have HC4 := Lib.hid hb'
          clear hb hb' HB3 HT3 HX3 HY3 HV3 HU3 HZ3
          go_wp2_with (fail)
          refine wpAny_take (i := 8) (v := ?vb8) rfl (by kernel_rfl) (by kernel_rfl) (by kernel_rfl) (fun _ _ _ h => h) (Or.inl ⟨by rfl, ?hb8⟩) ?rb8
          case hb8 => intro w; go_simp; try with_reducible rfl
          go_simp
          refine wpAny_take (i := 9) (v := ?vb9) rfl (by kernel_rfl) (by kernel_rfl) (by kernel_rfl) (fun _ _ _ h => h) (Or.inl ⟨by rfl, ?hb9⟩) ?rb9
          case hb9 => intro w; go_simp; try with_reducible rfl
          go_simp
          refine wpAny_take (i := 10) (v := ?vb10) rfl (by kernel_rfl) (by kernel_rfl) (by kernel_rfl) (fun _ _ _ h => h) (Or.inl ⟨by rfl, ?hb10⟩) ?rb10
          case hb10 => intro w; go_simp; try with_reducible rfl
          go_simp
          refine wpAny_take (i := 11) (v := ?vb11) rfl (by kernel_rfl) (by kernel_rfl) (by kernel_rfl) (fun _ _ _ h => h) (Or.inl ⟨by rfl, ?hb11⟩) ?rb11
          case hb11 => intro w; go_simp; try with_reducible rfl
          go_simp
          refine wpAny_take (i := 12) (v := ?vb12) rfl (by kernel_rfl) (by kernel_rfl) (by kernel_rfl) (fun _ _ _ h => h) (Or.inl ⟨by rfl, ?hb12⟩) ?rb12
          case hb12 => intro w; go_simp; try with_reducible rfl
          go_simp
          refine wpAny_ready (rs := [13]) (by kernel_rfl) (by simp) ?_
          refine AllReady.cons rfl (fun K hK => ?_) AllReady.nil
          go_simp
          go_wp2_with (fail)
          refine (same_any (w := w4) HY4.out HU4.out (by omega)).mono ?_
          rintro e w5 ⟨rfl, hb⟩
          rw [M.sameB_refl]
          have hb' := below_new (o := .cells (madeCells #[.int .u8 0] 16) 5) hb
          have HB5 := Lib.hid (below_on HB4.out hb')
          have HT5 := Lib.hid (HT4.out.below hb')
          have HV5 := Lib.hid (HV4.out.below hb')
          have HU5 := Lib.hid (HU4.out.below hb')
          have HZ5 := Lib.hid (HZ4.out.below hb')
          have HC5 := Lib.hid (below_on HC4.out hb')
          have HM5 := Lib.hid (made16 w5)
          clear hb hb' HB4 HT4 HY4 HV4 HU4 HZ4 HC4
          go_wp2_with (fail)
          refine wpAny_take (i := 14) (v := ?vb14) rfl (by kernel_rfl) (by kernel_rfl) (by kernel_rfl) (fun _ _ _ h => h) (Or.inl ⟨by rfl, ?hb14⟩) ?rb14
          case hb14 => intro w; go_simp; try with_reducible rfl
          go_simp
          refine wpAny_take (i := 15) (v := ?vb15) rfl (by kernel_rfl) (by kernel_rfl) (by kernel_rfl) (fun _ _ _ h => h) (Or.inl ⟨by rfl, ?hb15⟩) ?rb15
          case hb15 => intro w; go_simp; try with_reducible rfl
          go_simp
          refine wpAny_take (i := 16) (v := ?vb16) rfl (by kernel_rfl) (by kernel_rfl) (by kernel_rfl) (fun _ _ _ h => h) (Or.inl ⟨by rfl, ?hb16⟩) ?rb16
          case hb16 => intro w; go_simp; try with_reducible rfl
          go_simp
          refine wpAny_take (i := 17) (v := ?vb17) rfl (by kernel_rfl) (by kernel_rfl) (by kernel_rfl) (fun _ _ _ h => h) (Or.inl ⟨by rfl, ?hb17⟩) ?rb17
          case hb17 => intro w; go_simp; try with_reducible rfl
          go_simp
          refine wpAny_take (i := 18) (v := ?vb18) rfl (by kernel_rfl) (by kernel_rfl) (by kernel_rfl) (fun _ _ _ h => h) (Or.inl ⟨by rfl, ?hb18⟩) ?rb18
          case hb18 => intro w; go_simp; try with_reducible rfl
          go_simp
          refine wpAny_take (i := 19) (v := ?vb19) rfl (by kernel_rfl) (by kernel_rfl) (by kernel_rfl) (fun _ _ _ h => h) (Or.inl ⟨by rfl, ?hb19⟩) ?rb19
          case hb19 => intro w; go_simp; try with_reducible rfl
          go_simp
          have p1 := fun w => slice_to w g 0 N N (Nat.le_refl _) (by have := HN.out; omega) bs.length
          refine wpAny_take (i := 20) (v := ?vb20) rfl (by kernel_rfl) (by kernel_rfl) (by kernel_rfl) (fun _ _ _ h => h) (Or.inl ⟨by rfl, ?hb20⟩) ?rb20
          case hb20 => intro w; go_simp; try with_reducible rfl
          go_simp
          clear p1
          refine wpAny_take (i := 21) (v := ?vb21) rfl (by kernel_rfl) (by kernel_rfl) (by kernel_rfl) (fun _ _ _ h => h) (Or.inl ⟨by rfl, ?hb21⟩) ?rb21
          case hb21 => intro w; go_simp; try with_reducible rfl
          go_simp
          refine wpAny_take (i := 22) (v := ?vb22) rfl (by kernel_rfl) (by kernel_rfl) (by kernel_rfl) (fun _ _ _ h => h) (Or.inl ⟨by rfl, ?hb22⟩) ?rb22
          case hb22 => intro w; go_simp; try with_reducible rfl
          go_simp
          have p2 := fun w => slice_from w g 0 N N bs.length (by have := HN.out; omega) (by have := HN.out; omega)
          refine wpAny_take (i := 23) (v := ?vb23) rfl (by kernel_rfl) (by kernel_rfl) (by kernel_rfl) (fun _ _ _ h => h) (Or.inl ⟨by rfl, ?hb23⟩) ?rb23
          case hb23 => intro w; go_simp; try with_reducible rfl
          go_simp
          clear p2
          refine wpAny_take (i := 24) (v := ?vb24) rfl (by kernel_rfl) (by kernel_rfl) (by kernel_rfl) (fun _ _ _ h => h) (Or.inl ⟨by rfl, ?hb24⟩) ?rb24
          case hb24 => intro w; go_simp; try with_reducible rfl
          go_simp
          refine wpAny_take (i := 25) (v := ?vb25) rfl (by kernel_rfl) (by kernel_rfl) (by kernel_rfl) (fun _ _ _ h => h) (Or.inl ⟨by rfl, ?hb25⟩) ?rb25
          case hb25 => intro w; go_simp; try with_reducible rfl
          go_simp
          refine wpAny_take (i := 26) (v := ?vb26) rfl (by kernel_rfl) (by kernel_rfl) (by kernel_rfl) (fun _ _ _ h => h) (Or.inl ⟨by rfl, ?hb26⟩) ?rb26
          case hb26 => intro w; go_simp; try with_reducible rfl
          go_simp
          refine wpAny_take (i := 27) (v := ?vb27) rfl (by kernel_rfl) (by kernel_rfl) (by kernel_rfl) (fun _ _ _ h => h) (Or.inl ⟨by rfl, ?hb27⟩) ?rb27
          case hb27 => intro w; go_simp; try with_reducible rfl
          go_simp
          have z1 : IntKind.i64.wrap ((N : Int) - (bs.length : Int)) = 16 := by rw [IntKind.wrap_i64, HN.out]; omega
          refine wpAny_take (i := 28) (v := ?vb28) rfl (by kernel_rfl) (by kernel_rfl) (by kernel_rfl) (fun _ _ _ h => h) (Or.inl ⟨by rfl, ?hb28⟩) ?rb28
          case hb28 => intro w; go_simp; try with_reducible rfl
          go_simp
          clear z1
          have hm := mk16 w5
          refine wpAny_ready (rs := [29]) (by kernel_rfl) (by simp) ?_
          refine AllReady.cons rfl (fun K hK => ?_) AllReady.nil
          go_simp
          refine hK _ _ ?_
          clear hK K hm
          refine wpAny_ready (rs := [30]) (by kernel_rfl) (by simp) ?_
          refine AllReady.cons rfl (fun K hK => ?_) AllReady.nil
          go_simp
          go_wp2_with (fail)
          refine (same_any HZ5.out HM5.out (by simp)).mono ?_
          rintro e w6 ⟨rfl, hb⟩
          rw [M.sameB_refl]
          have HB6 := Lib.hid (below_on HB5.out hb)
          have HT6 := Lib.hid (HT5.out.below hb)
          have HV6 := Lib.hid (HV5.out.below hb)
          have HU6 := Lib.hid (HU5.out.below hb)
          have HC6 := Lib.hid (below_on HC5.out hb)
          clear hb HB5 HT5 HV5 HU5 HZ5 HC5 HM5
          go_wp2_with (fail)
          refine wpAny_take (i := 31) (v := ?vb31) rfl (by kernel_rfl) (by kernel_rfl) (by kernel_rfl) (fun _ _ _ h => h) (Or.inl ⟨by rfl, ?hb31⟩) ?rb31
          case hb31 => intro w; go_simp; try with_reducible rfl
          go_simp
          refine wpAny_take (i := 32) (v := ?vb32) rfl (by kernel_rfl) (by kernel_rfl) (by kernel_rfl) (fun _ _ _ h => h) (Or.inl ⟨by rfl, ?hb32⟩) ?rb32
          case hb32 => intro w; go_simp; try with_reducible rfl
          go_simp
          refine wpAny_done (by kernel_rfl) ?_ _
          by_cases hr : 1 ≤ ps.length ∧ ps.length ≤ 4096
          · obtain ⟨rfl, hbt⟩ := HS.out.1 hr
            obtain ⟨hr1, hr2⟩ := hr
            have HF := Lib.hid (hbt.below HC6.out)
            clear hbt HS HC6
            go_wp2_with (fail)
            refine (own_any HV6.out (by omega)).mono ?_
            rintro e w7 ⟨rfl, hk, hb⟩
            have HB7 := Lib.hid hb
            have HK7 := Lib.hid hk
            have HU7 := Lib.hid (HU6.out.below hb)
            have hb76 := hb
            clear hk hb HV6 HU6
            go_wp2_with (fail)
            refine (frame_any HU7.out (by omega)).mono ?_
            rintro e w8 ⟨vf, rfl, hof, hb⟩
            have hb86 := below_on hb76 hb
            obtain ⟨vp, w9, hrr, ho, hg⟩ := append_own (HK7.out.below hb) (Nat.le_refl _) (show Bts w8 vf (M.frm ps) from Row.of_owns hof) (by rw [M.frm_len]; omega)
            have hb9 := hb86.grown hg hb86.size (fun k e => by cases e; exact Nat.le_refl _)
            have HB9 := Lib.hid (below_on HB6.out hb9)
            have HT9 := Lib.hid (HT6.out.below hb9)
            have HF9 := Lib.hid (HF.out.below hb9)
            have HP9 := Lib.hid (show Bts w9 vp (bs ++ M.frm ps) from Row.of_owns ho)
            clear hb76 hb86 hb hof ho hg hb9 HB7 HK7 HU7 HB6 HT6 HF
            go_wp2_with (at_builtin; refine wpList_append_run_g _ (by rfl) _ _ _ _ rfl _ _ rfl rfl _ _ hrr ?_)
            refine (same_any HF9.out HP9.out (by simp [M.frm_len]; omega)).mono ?_
            rintro e w10 ⟨rfl, hb⟩
            rw [M.sameB_refl]
            have HB10 := Lib.hid (below_on HB9.out hb)
            have HT10 := Lib.hid (HT9.out.below hb)
            clear hb HB9 HT9 HF9 HP9 hrr
            go_wp2_with (fail)
            refine (EN.out w10 HB10.out HT10.out).mono ?_
            rintro e w11 ⟨rfl, hb⟩
            have HB11 := Lib.hid hb
            clear hb
            go_wp2
            go_ret
            exact ⟨rfl, HB11.out⟩
          · obtain ⟨rfl, rfl⟩ := HS.out.2 hr
            have hr' : ps.length < 1 ∨ 4096 < ps.length := by omega
            clear hr HS HC6
            rcases hr' with hr' | hr'
            all_goals
              go_wp2_with (fail)
              refine (EN.out w6 HB6.out HT6.out).mono ?_
              rintro e w7 ⟨rfl, hb⟩
              have HB7 := Lib.hid hb
              clear hb
              go_wp2
              go_ret
              exact ⟨rfl, HB7.out⟩
        · skip
          go_enter Tryd.func4, Tryd.ntmps4
          go_wp2_with (fail)
          refine (own_any' HV.out (by omega)).mono ?_
          rintro e w1 ⟨N, HN, rfl, hk, hb⟩
          have HB1 := Lib.hid hb
          have HK1 := Lib.hid hk
          have HU1 := Lib.hid (HU.out.below hb)
          have HV1 := Lib.hid (HV.out.below hb)
          have HT1 := Lib.hid (HT.out.below hb)
          obtain ⟨g, hg⟩ : ∃ g, g = w.heap.size := ⟨_, rfl⟩
          rw [← hg] at HK1 ⊢
          clear hk hb HV HT HU hg
          go_wp2_with (fail)
          refine (own_any' HU1.out (by omega)).mono ?_
          rintro e w2 ⟨N', HN', rfl, hk, hb⟩
          have HB2 := Lib.hid (below_on HB1.out hb)
          have HK2 := Lib.hid (HK1.out.below hb)
          have HU2 := Lib.hid (HU1.out.below hb)
          have HV2 := Lib.hid (HV1.out.below hb)
          have HT2 := Lib.hid (HT1.out.below hb)
          have HX := Lib.hid (HK2.out.bts (o := 0) (n := bs.length) (c := N) (xs := bs) (by simp) (by simp) (by have := HN.out; omega))
          have HY := Lib.hid (hk.bts (o := 0) (n := ps.length) (c := N') (xs := ps) (by simp) (by simp) (by have := HN'.out; omega))
          obtain ⟨g', hg'⟩ : ∃ g', g' = w1.heap.size := ⟨_, rfl⟩
          rw [← hg'] at HY ⊢
          clear hk hb HB1 HK1 HU1 HV1 HT1 hg'
          go_wp2_with (fail)
          refine (put_any HT2.out HX.out HY.out (by omega) (by omega)).mono ?_
          rintro e w3 ⟨P, ln, pc, ee, rfl, hs, hb⟩
          have HS := Lib.hid hs
          have HB3 := Lib.hid (below_on HB2.out hb)
          have HT3 := Lib.hid (HT2.out.below hb)
          have HX3 := Lib.hid (HX.out.below hb)
          have HY3 := Lib.hid (HY.out.below hb)
          have HV3 := Lib.hid (HV2.out.below hb)
          have HU3 := Lib.hid (HU2.out.below hb)
          have HZ3 := Lib.hid ((HK2.out.below hb).bts (o := bs.length) (n := N - bs.length) (c := N - bs.length) (xs := List.replicate 16 0) (by rw [List.drop_left, HN.out]; simp) (by have := HN.out; simp; omega) (by omega))
          clear hs hb HB2 HT2 HX HY HV2 HU2 HK2 HN'
          go_wp2
          refine wp_region_any (by kernel_rfl) ?_
          try (change wpAny _ _ _ _ _ _ _ (World.drew _))
          refine wpAny_take (i := 0) (v := ?vc0) rfl (by kernel_rfl) (by kernel_rfl) (by kernel_rfl) (fun _ _ _ h => h) (Or.inl ⟨by rfl, ?hc0⟩) ?rc0
          case hc0 => intro w; go_simp; try with_reducible rfl
          go_simp
          refine wpAny_take (i := 2) (v := ?vc2) rfl (by kernel_rfl) (by kernel_rfl) (by kernel_rfl) (fun _ _ _ h => h) (Or.inl ⟨by rfl, ?hc2⟩) ?rc2
          case hc2 => intro w; go_simp; try with_reducible rfl
          go_simp
          refine wpAny_ready (rs := [1]) (by kernel_rfl) (by simp) ?_
          refine AllReady.cons rfl (fun K hK => ?_) AllReady.nil
          go_simp
          go_wp2_with (fail)
          refine (size_any _ _).mono ?_
          rintro e wa ⟨rfl, rfl⟩
          rw [hz]
          clear hz
          go_wp2_with (fail)
          refine wpAny_take (i := 3) (v := ?vc3) rfl (by kernel_rfl) (by kernel_rfl) (by kernel_rfl) (fun _ _ _ h => h) (Or.inl ⟨by rfl, ?hc3⟩) ?rc3
          case hc3 => intro w; go_simp; try with_reducible rfl
          go_simp
          refine wpAny_take (i := 4) (v := ?vc4) rfl (by kernel_rfl) (by kernel_rfl) (by kernel_rfl) (fun _ _ _ h => h) (Or.inl ⟨by rfl, ?hc4⟩) ?rc4
          case hc4 => intro w; go_simp; try with_reducible rfl
          go_simp
          refine wpAny_take (i := 5) (v := ?vc5) rfl (by kernel_rfl) (by kernel_rfl) (by kernel_rfl) (fun _ _ _ h => h) (Or.inl ⟨by rfl, ?hc5⟩) ?rc5
          case hc5 => intro w; go_simp; try with_reducible rfl
          go_simp
          refine wpAny_take (i := 6) (v := ?vc6) rfl (by kernel_rfl) (by kernel_rfl) (by kernel_rfl) (fun _ _ _ h => h) (Or.inl ⟨by rfl, ?hc6⟩) ?rc6
          case hc6 => intro w; go_simp; try with_reducible rfl
          go_simp
          refine wpAny_ready (rs := [7]) (by kernel_rfl) (by simp) ?_
          refine AllReady.cons rfl (fun K hK => ?_) AllReady.nil
          go_simp
          go_wp2_with (fail)
          refine (same_any (w := w3.drew) (HX3.out.below (Below.refl _ _).drew) (HV3.out.below (Below.refl _ _).drew) (by omega)).mono ?_
          rintro e w4 ⟨rfl, hb⟩
          rw [M.sameB_refl]
          have hb' : Below w3.heap.size w3 w4 := (Below.refl _ w3).drew.trans hb
          have HB4 := Lib.hid (below_on HB3.out hb')
          have HT4 := Lib.hid (HT3.out.below hb')
          have HY4 := Lib.hid (HY3.out.below hb')
          have HV4 := Lib.hid (HV3.out.below hb')
          have HU4 := Lib.hid (HU3.out.below hb')
          have HZ4 := Lib.hid (HZ3.out.below hb')
          have HC4 := Lib.hid hb'
          clear hb hb' HB3 HT3 HX3 HY3 HV3 HU3 HZ3
          go_wp2_with (fail)
          refine wpAny_take (i := 8) (v := ?vc8) rfl (by kernel_rfl) (by kernel_rfl) (by kernel_rfl) (fun _ _ _ h => h) (Or.inl ⟨by rfl, ?hc8⟩) ?rc8
          case hc8 => intro w; go_simp; try with_reducible rfl
          go_simp
          refine wpAny_take (i := 9) (v := ?vc9) rfl (by kernel_rfl) (by kernel_rfl) (by kernel_rfl) (fun _ _ _ h => h) (Or.inl ⟨by rfl, ?hc9⟩) ?rc9
          case hc9 => intro w; go_simp; try with_reducible rfl
          go_simp
          refine wpAny_take (i := 10) (v := ?vc10) rfl (by kernel_rfl) (by kernel_rfl) (by kernel_rfl) (fun _ _ _ h => h) (Or.inl ⟨by rfl, ?hc10⟩) ?rc10
          case hc10 => intro w; go_simp; try with_reducible rfl
          go_simp
          refine wpAny_take (i := 11) (v := ?vc11) rfl (by kernel_rfl) (by kernel_rfl) (by kernel_rfl) (fun _ _ _ h => h) (Or.inl ⟨by rfl, ?hc11⟩) ?rc11
          case hc11 => intro w; go_simp; try with_reducible rfl
          go_simp
          refine wpAny_take (i := 12) (v := ?vc12) rfl (by kernel_rfl) (by kernel_rfl) (by kernel_rfl) (fun _ _ _ h => h) (Or.inl ⟨by rfl, ?hc12⟩) ?rc12
          case hc12 => intro w; go_simp; try with_reducible rfl
          go_simp
          refine wpAny_ready (rs := [13]) (by kernel_rfl) (by simp) ?_
          refine AllReady.cons rfl (fun K hK => ?_) AllReady.nil
          go_simp
          go_wp2_with (fail)
          refine (same_any (w := w4) HY4.out HU4.out (by omega)).mono ?_
          rintro e w5 ⟨rfl, hb⟩
          rw [M.sameB_refl]
          have hb' := below_new (o := .cells (madeCells #[.int .u8 0] 16) 5) hb
          have HB5 := Lib.hid (below_on HB4.out hb')
          have HT5 := Lib.hid (HT4.out.below hb')
          have HV5 := Lib.hid (HV4.out.below hb')
          have HU5 := Lib.hid (HU4.out.below hb')
          have HZ5 := Lib.hid (HZ4.out.below hb')
          have HC5 := Lib.hid (below_on HC4.out hb')
          have HM5 := Lib.hid (made16 w5)
          clear hb hb' HB4 HT4 HY4 HV4 HU4 HZ4 HC4
          go_wp2_with (fail)
          refine wpAny_take (i := 14) (v := ?vc14) rfl (by kernel_rfl) (by kernel_rfl) (by kernel_rfl) (fun _ _ _ h => h) (Or.inl ⟨by rfl, ?hc14⟩) ?rc14
          case hc14 => intro w; go_simp; try with_reducible rfl
          go_simp
          refine wpAny_take (i := 15) (v := ?vc15) rfl (by kernel_rfl) (by kernel_rfl) (by kernel_rfl) (fun _ _ _ h => h) (Or.inl ⟨by rfl, ?hc15⟩) ?rc15
          case hc15 => intro w; go_simp; try with_reducible rfl
          go_simp
          refine wpAny_take (i := 16) (v := ?vc16) rfl (by kernel_rfl) (by kernel_rfl) (by kernel_rfl) (fun _ _ _ h => h) (Or.inl ⟨by rfl, ?hc16⟩) ?rc16
          case hc16 => intro w; go_simp; try with_reducible rfl
          go_simp
          refine wpAny_take (i := 17) (v := ?vc17) rfl (by kernel_rfl) (by kernel_rfl) (by kernel_rfl) (fun _ _ _ h => h) (Or.inl ⟨by rfl, ?hc17⟩) ?rc17
          case hc17 => intro w; go_simp; try with_reducible rfl
          go_simp
          refine wpAny_take (i := 18) (v := ?vc18) rfl (by kernel_rfl) (by kernel_rfl) (by kernel_rfl) (fun _ _ _ h => h) (Or.inl ⟨by rfl, ?hc18⟩) ?rc18
          case hc18 => intro w; go_simp; try with_reducible rfl
          go_simp
          refine wpAny_take (i := 19) (v := ?vc19) rfl (by kernel_rfl) (by kernel_rfl) (by kernel_rfl) (fun _ _ _ h => h) (Or.inl ⟨by rfl, ?hc19⟩) ?rc19
          case hc19 => intro w; go_simp; try with_reducible rfl
          go_simp
          have p1 := fun w => slice_to w g 0 N N (Nat.le_refl _) (by have := HN.out; omega) bs.length
          refine wpAny_take (i := 20) (v := ?vc20) rfl (by kernel_rfl) (by kernel_rfl) (by kernel_rfl) (fun _ _ _ h => h) (Or.inl ⟨by rfl, ?hc20⟩) ?rc20
          case hc20 => intro w; go_simp; try with_reducible rfl
          go_simp
          clear p1
          refine wpAny_take (i := 21) (v := ?vc21) rfl (by kernel_rfl) (by kernel_rfl) (by kernel_rfl) (fun _ _ _ h => h) (Or.inl ⟨by rfl, ?hc21⟩) ?rc21
          case hc21 => intro w; go_simp; try with_reducible rfl
          go_simp
          refine wpAny_take (i := 22) (v := ?vc22) rfl (by kernel_rfl) (by kernel_rfl) (by kernel_rfl) (fun _ _ _ h => h) (Or.inl ⟨by rfl, ?hc22⟩) ?rc22
          case hc22 => intro w; go_simp; try with_reducible rfl
          go_simp
          have p2 := fun w => slice_from w g 0 N N bs.length (by have := HN.out; omega) (by have := HN.out; omega)
          refine wpAny_take (i := 23) (v := ?vc23) rfl (by kernel_rfl) (by kernel_rfl) (by kernel_rfl) (fun _ _ _ h => h) (Or.inl ⟨by rfl, ?hc23⟩) ?rc23
          case hc23 => intro w; go_simp; try with_reducible rfl
          go_simp
          clear p2
          refine wpAny_take (i := 24) (v := ?vc24) rfl (by kernel_rfl) (by kernel_rfl) (by kernel_rfl) (fun _ _ _ h => h) (Or.inl ⟨by rfl, ?hc24⟩) ?rc24
          case hc24 => intro w; go_simp; try with_reducible rfl
          go_simp
          refine wpAny_take (i := 25) (v := ?vc25) rfl (by kernel_rfl) (by kernel_rfl) (by kernel_rfl) (fun _ _ _ h => h) (Or.inl ⟨by rfl, ?hc25⟩) ?rc25
          case hc25 => intro w; go_simp; try with_reducible rfl
          go_simp
          refine wpAny_take (i := 26) (v := ?vc26) rfl (by kernel_rfl) (by kernel_rfl) (by kernel_rfl) (fun _ _ _ h => h) (Or.inl ⟨by rfl, ?hc26⟩) ?rc26
          case hc26 => intro w; go_simp; try with_reducible rfl
          go_simp
          refine wpAny_take (i := 27) (v := ?vc27) rfl (by kernel_rfl) (by kernel_rfl) (by kernel_rfl) (fun _ _ _ h => h) (Or.inl ⟨by rfl, ?hc27⟩) ?rc27
          case hc27 => intro w; go_simp; try with_reducible rfl
          go_simp
          have z1 : IntKind.i64.wrap ((N : Int) - (bs.length : Int)) = 16 := by rw [IntKind.wrap_i64, HN.out]; omega
          refine wpAny_take (i := 28) (v := ?vc28) rfl (by kernel_rfl) (by kernel_rfl) (by kernel_rfl) (fun _ _ _ h => h) (Or.inl ⟨by rfl, ?hc28⟩) ?rc28
          case hc28 => intro w; go_simp; try with_reducible rfl
          go_simp
          clear z1
          have hm := mk16 w5
          refine wpAny_ready (rs := [29]) (by kernel_rfl) (by simp) ?_
          refine AllReady.cons rfl (fun K hK => ?_) AllReady.nil
          go_simp
          refine hK _ _ ?_
          clear hK K hm
          refine wpAny_ready (rs := [30]) (by kernel_rfl) (by simp) ?_
          refine AllReady.cons rfl (fun K hK => ?_) AllReady.nil
          go_simp
          go_wp2_with (fail)
          refine (same_any HZ5.out HM5.out (by simp)).mono ?_
          rintro e w6 ⟨rfl, hb⟩
          rw [M.sameB_refl]
          have HB6 := Lib.hid (below_on HB5.out hb)
          have HT6 := Lib.hid (HT5.out.below hb)
          have HV6 := Lib.hid (HV5.out.below hb)
          have HU6 := Lib.hid (HU5.out.below hb)
          have HC6 := Lib.hid (below_on HC5.out hb)
          clear hb HB5 HT5 HV5 HU5 HZ5 HC5 HM5
          go_wp2_with (fail)
          refine wpAny_take (i := 31) (v := ?vc31) rfl (by kernel_rfl) (by kernel_rfl) (by kernel_rfl) (fun _ _ _ h => h) (Or.inl ⟨by rfl, ?hc31⟩) ?rc31
          case hc31 => intro w; go_simp; try with_reducible rfl
          go_simp
          refine wpAny_take (i := 32) (v := ?vc32) rfl (by kernel_rfl) (by kernel_rfl) (by kernel_rfl) (fun _ _ _ h => h) (Or.inl ⟨by rfl, ?hc32⟩) ?rc32
          case hc32 => intro w; go_simp; try with_reducible rfl
          go_simp
          refine wpAny_done (by kernel_rfl) ?_ _
          by_cases hr : 1 ≤ ps.length ∧ ps.length ≤ 4096
          · obtain ⟨rfl, hbt⟩ := HS.out.1 hr
            obtain ⟨hr1, hr2⟩ := hr
            have HF := Lib.hid (hbt.below HC6.out)
            clear hbt HS HC6
            go_wp2_with (fail)
            refine (own_any HV6.out (by omega)).mono ?_
            rintro e w7 ⟨rfl, hk, hb⟩
            have HB7 := Lib.hid hb
            have HK7 := Lib.hid hk
            have HU7 := Lib.hid (HU6.out.below hb)
            have hb76 := hb
            clear hk hb HV6 HU6
            go_wp2_with (fail)
            refine (frame_any HU7.out (by omega)).mono ?_
            rintro e w8 ⟨vf, rfl, hof, hb⟩
            have hb86 := below_on hb76 hb
            obtain ⟨vp, w9, hrr, ho, hg⟩ := append_own (HK7.out.below hb) (Nat.le_refl _) (show Bts w8 vf (M.frm ps) from Row.of_owns hof) (by rw [M.frm_len]; omega)
            have hb9 := hb86.grown hg hb86.size (fun k e => by cases e; exact Nat.le_refl _)
            have HB9 := Lib.hid (below_on HB6.out hb9)
            have HT9 := Lib.hid (HT6.out.below hb9)
            have HF9 := Lib.hid (HF.out.below hb9)
            have HP9 := Lib.hid (show Bts w9 vp (bs ++ M.frm ps) from Row.of_owns ho)
            clear hb76 hb86 hb hof ho hg hb9 HB7 HK7 HU7 HB6 HT6 HF
            go_wp2_with (at_builtin; refine wpList_append_run_g _ (by rfl) _ _ _ _ rfl _ _ rfl rfl _ _ hrr ?_)
            refine (same_any HF9.out HP9.out (by simp [M.frm_len]; omega)).mono ?_
            rintro e w10 ⟨rfl, hb⟩
            rw [M.sameB_refl]
            have HB10 := Lib.hid (below_on HB9.out hb)
            have HT10 := Lib.hid (HT9.out.below hb)
            clear hb HB9 HT9 HF9 HP9 hrr
            go_wp2_with (fail)
            refine (EN.out w10 HB10.out HT10.out).mono ?_
            rintro e w11 ⟨rfl, hb⟩
            have HB11 := Lib.hid hb
            clear hb
            go_wp2
            go_ret
            exact ⟨rfl, HB11.out⟩
          · obtain ⟨rfl, rfl⟩ := HS.out.2 hr
            have hr' : ps.length < 1 ∨ 4096 < ps.length := by omega
            clear hr HS HC6
            rcases hr' with hr' | hr'
            all_goals
              go_wp2_with (fail)
              refine (EN.out w6 HB6.out HT6.out).mono ?_
              rintro e w7 ⟨rfl, hb⟩
              have HB7 := Lib.hid hb
              clear hb
              go_wp2
              go_ret
              exact ⟨rfl, HB7.out⟩
    · skip
      go_enter Tryd.func4, Tryd.ntmps4
      go_wp2_with (fail)
      refine (EN.out w (Below.refl _ _) HT.out).mono ?_
      rintro e w3 ⟨rfl, hb3⟩
      have HB3 := Lib.hid hb3
      clear hb3
      go_wp2
      go_ret
      exact ⟨rfl, HB3.out⟩
  · skip
    go_enter Tryd.func4, Tryd.ntmps4
    go_wp2_with (fail)
    refine (EN.out w (Below.refl _ _) HT.out).mono ?_
    rintro e w3 ⟨rfl, hb3⟩
    have HB3 := Lib.hid hb3
    clear hb3
    go_wp2
    go_ret
    exact ⟨rfl, HB3.out⟩
end Go.Proofs.YtmjkcbcenpdcnaaDoor
