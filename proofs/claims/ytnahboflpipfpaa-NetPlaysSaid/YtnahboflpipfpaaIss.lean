/- Is what a net shows the document's? no conditions but those that it names. -/
import Derived.Test.YtnahboflpipfpaaStd
import Derived.IntWalk
namespace Go.Proofs.Ytnahboflpipfpaa
open Go.ChangeShapes Go.WideShapes Go.ChangeAt Go.RowKit

set_option maxHeartbeats 16000000 in
set_option maxRecDepth 100000 in
theorem is_any {w : World} {g : Nat} {F : Nat → Prop} {s : St} {v : Value} {n : Int} (h : Nt w g F s) (hv : Dv0 (Or1 g F) w v s) (ok : s.OkN n) (hn : n ≤ 1000) : Calls Try.prog 14 #[ptrV g, .agg (dnL s v).toArray] w fun e w' => e = .returned (.bool true) ∧ Below w.heap.size w w' := by
  obtain ⟨A, c, rfl⟩ := hv.slice
  have b0 := below_new (o := .cells (dnL s (.slice A s.ms.length c)).toArray 29) (Below.refl w.heap.size w)
  obtain ⟨W, hW⟩ : ∃ W, W = w.alloc (.cells (dnL s (.slice A s.ms.length c)).toArray 29) := ⟨_, rfl⟩
  have hwl : w.heap.size < W.heap.size := by rw [hW]; simp
  have HN := Lib.hid (show Nt W g F s by rw [hW]; exact h.below b0)
  have HV := Lib.hid (show Dv0 (Or1 g F) W (.slice A s.ms.length c) s by rw [hW]; exact hv.below b0)
  have HB := Lib.hid (show Below w.heap.size w W by rw [hW]; exact b0)
  have HD := Lib.hid (show Hold W w.heap.size 29 (dnL s (.slice A s.ms.length c)) by rw [hW]; exact Hold.new w (dnL s (.slice A s.ms.length c)) 29)
  have hc0 := hold_cell HD.out 0 rfl
  have hc1 := hold_cell HD.out 1 rfl
  have hc2 := hold_cell HD.out 2 rfl
  have hc3 := hold_cell HD.out 3 rfl
  have hc4 := hold_cell HD.out 4 rfl
  have HOK := Lib.hid (ok.ok hn)
  have hl : s.ms.length ≤ 1000 := by have := ok.eq; have := ok.s1; have := ok.c0; have := ok.l0; omega
  have LN : Hid (∀ x : After W, Calls Try.prog 16 #[.pointer (some ⟨g, 0, none⟩)] x.out fun e w' => e = .returned (.int .i64 s.ms.length) ∧ Below x.out.heap.size x.out w') := Lib.hid (fun x => (len_any (HN.out.below x.below)).mono fun _ _ ⟨a, b⟩ => ⟨a, b ▸ Below.refl _ _⟩)
  have TL : Hid (∀ x : After W, Calls Try.prog 15 #[.pointer (some ⟨g, 0, none⟩)] x.out fun e w' => e = .returned (tallyV s.sent s.came s.lost) ∧ Below x.out.heap.size x.out w') := Lib.hid (fun x => tally_any (HN.out.below x.below))
  have d1 : ∀ x : After W, x.out.cell? ⟨w.heap.size, 1, none⟩ = some (.slice A s.ms.length c) := fun x => (x.cell _ _ hwl).trans hc1
  have d2 : ∀ x : After W, x.out.cell? ⟨w.heap.size, 2, none⟩ = some (.int .i64 s.sent) := fun x => (x.cell _ _ hwl).trans hc2
  have d3 : ∀ x : After W, x.out.cell? ⟨w.heap.size, 3, none⟩ = some (.int .i64 s.came) := fun x => (x.cell _ _ hwl).trans hc3
  have d4 : ∀ x : After W, x.out.cell? ⟨w.heap.size, 4, none⟩ = some (.int .i64 s.lost) := fun x => (x.cell _ _ hwl).trans hc4
  have HWE := Lib.hid hW
  unfold tallyV at TL
  unfold ptrV
  clear h hv ok b0 hc0 hc1 hc2 hc3 hc4 hW
  go_enter Try.func14, Try.ntmps14
  go_wp2_with (fail)
  rw [← HWE.out]
  refine wp_region_after (by kernel_rfl) (by kernel_rfl) ?_
  repeat (go_big_quiet_step (first | (go_at_call 16; exact Calls.after_of (LN.out _)) | (go_at_call 15; exact Calls.after_of (TL.out _))))
  refine wpQuiet_nil ?_
  rintro _ ⟨x, rfl⟩
  have D1 := d1 x
  have HX := Lib.hid x.below
  generalize x.out = W2 at *
  clear d1 d2 d3 d4 x
  go_wp2
  go_loopw [29] (fun i wr => ∃ j : Nat, i = .int .i64 j ∧ j ≤ s.ms.length ∧ Hid (Below W.heap.size W wr)) (fun i _ => s.ms.length - (intOf i).toNat)
  case atStart => exact ⟨0, rfl, Nat.zero_le _, HX⟩
  case round =>
    obtain ⟨j, rfl, hj, HR⟩ := hrel
    by_cases hlt : j < s.ms.length
    · have hk1 : (j : Int) < (s.ms.length : Int) := by omega
      have hnb : ¬ ((j : Int) < 0 ∨ (s.ms.length : Int) ≤ j) := by omega
      have LK := Lib.hid (look_any (HN.out.below HR.out) HOK.out.sm j)
      unfold ptrV at LK
      obtain ⟨b, o, y, rfl, hb, hr, hy, hty⟩ := HV.out.at hlt
      have D1r := (HR.out.cell (p := ⟨w.heap.size, 1, none⟩) hwl).trans (hold_cell HD.out 1 rfl)
      have HY := Lib.hid (show y.m = s.at j by rw [St.at_eq hlt]; exact hy)
      have HYR := Lib.hid hr
      have HBB := Lib.hid hb
      have HYT := Lib.hid hty
      have HLK := Lib.hid (St.lk_ok hnb)
      have HMD := Lib.hid (HOK.out.sm _ (St.at_mem hlt))
      clear hb hr hy hty D1
      go_wp2_with (fail)
      refine LK.out.mono ?_
      rintro e w1 ⟨x, rfl, hx, ho, hb1⟩
      rw [HLK.out]
      have HXE := Lib.hid hx
      have HONE := Lib.hid ho.one
      have HOW := Lib.hid (ownM_push ho (.cells x.cells.toArray 49))
      have HX2 := Lib.hid (Hold.new w1 x.cells 49)
      have HB1 := Lib.hid (below_on HR.out (below_new (o := .cells x.cells.toArray 49) hb1))
      clear hx ho hb1 LK
      go_wp2_with (first
        | (with_reducible refine wpList_store_fresh rfl 49 _ _ rfl _ rfl 49 _ x.cells rfl rfl rfl (mv_size _) HONE.out ?_)
        | fail)
      obtain ⟨X, hX⟩ : ∃ X, X = (w1.alloc (.cells x.cells.toArray 49)).drew := ⟨_, rfl⟩
      have bX : Below W.heap.size W X := by rw [hX]; exact HB1.out.drew
      have x1 : Hold X w1.heap.size 49 x.cells := by rw [hX]; exact HX2.out.on (below_drew _)
      have x2 := (bX.cell (p := ⟨w.heap.size, 1, none⟩) hwl).trans (hold_cell HD.out 1 rfl)
      have x3 := range_below HYR.out HBB.out bX
      have xt := HYT.out.below bX
      have xo : Txt (fun _ => False) X x := by rw [hX]; exact (ownM_keeps (K := fun _ => False) HOW.out (Keeps.of_below (below_drew _)) (fun _ e => e.elim)).txt (F := fun _ => False) (fun _ e => e.elim)
      have CS := Lib.hid (dsame_mv (x := x) (y := y) xo.rs xo.ws xt.rs xt.ws (by rw [HXE.out]; exact HMD.out) (HXE.out.trans HY.out.symm))
      refine wp_region_held_drew (S := fun w' => w'.rangeAt w1.heap.size 0 x.cells ∧ w'.cell? ⟨w.heap.size, 1, none⟩ = some (.slice (some ⟨b, o, none⟩) s.ms.length c) ∧ w'.rangeAt b (o + j * 30) y.cells) (by kernel_rfl) (by rw [← hX]; exact ⟨x1.cel.whole, x2, x3⟩) (fun hHeld => ?_)
      rw [← hX] at hHeld ⊢
      clear hX
      refine wpAnyH_take (i := 0) (oi := ⟨some 38, .move (.tmp 7), 62, _, _, none⟩) (v := ?_) rfl (by kernel_rfl) (by kernel_rfl) (by kernel_rfl) (fun _ _ _ h => h) (Or.inl ⟨by rfl, ?_⟩) (by assumption) ?_
      rotate_left
      · (intro w hSw; (try dsimp only at hSw); go_split_ands; go_simp; (try with_reducible rfl))
      (try simp only [Act.put]); (try simp only [List.setIfInBounds_toArray]); (try simp only [List.set_cons_succ]); (try simp only [List.set_cons_zero])
      refine wpAnyH_take (i := 1) (oi := ⟨some 39, .binOp .neq 62 (.tmp 38) (.const (.int .i64 0)) 62, 4, _, _, none⟩) (v := ?_) rfl (by kernel_rfl) (by kernel_rfl) (by kernel_rfl) (fun _ _ _ h => h) (Or.inl ⟨by rfl, ?_⟩) (by assumption) ?_
      rotate_left
      · (intro w hSw; (try dsimp only at hSw); go_split_ands; go_simp; (try with_reducible rfl))
      (try simp only [Act.put]); (try simp only [List.setIfInBounds_toArray]); (try simp only [List.set_cons_succ]); (try simp only [List.set_cons_zero])
      refine wpAnyH_take (i := 2) (oi := ⟨some 40, .move (.tmp 39), 4, _, _, none⟩) (v := ?_) rfl (by kernel_rfl) (by kernel_rfl) (by kernel_rfl) (fun _ _ _ h => h) (Or.inl ⟨by rfl, ?_⟩) (by assumption) ?_
      rotate_left
      · (intro w hSw; (try dsimp only at hSw); go_split_ands; go_simp; (try with_reducible rfl))
      (try simp only [Act.put]); (try simp only [List.setIfInBounds_toArray]); (try simp only [List.set_cons_succ]); (try simp only [List.set_cons_zero])
      refine wpAnyH_take (i := 3) (oi := ⟨some 41, .load 49 (.tmp 6), 49, _, _, some (2, false)⟩) (v := .agg (x.cells).toArray) rfl (by kernel_rfl) (by kernel_rfl) (by kernel_rfl) (fun _ _ _ h => h) (yieldsIf_load_mid (by rfl) 49 _ rfl w1.heap.size 0 rfl x.cells _ (fun w hSw => hSw.1) Try.underlying49 rfl (mv_size x)) (by assumption) ?_
      (try simp only [Act.put]); (try simp only [List.setIfInBounds_toArray]); (try simp only [List.set_cons_succ]); (try simp only [List.set_cons_zero])
      refine wpAnyH_take (i := 4) (oi := ⟨some 42, .fieldAddr 29 (.tmp 3) 1, 0, _, _, some (2, false)⟩) (v := ?_) rfl (by kernel_rfl) (by kernel_rfl) (by kernel_rfl) (fun _ _ _ h => h) (Or.inl ⟨by rfl, ?_⟩) (by assumption) ?_
      rotate_left
      · (intro w hSw; (try dsimp only at hSw); go_split_ands; go_simp; (try with_reducible rfl))
      (try simp only [Act.put]); (try simp only [List.setIfInBounds_toArray]); (try simp only [List.set_cons_succ]); (try simp only [List.set_cons_zero])
      refine wpAnyH_take (i := 5) (oi := ⟨some 43, .load 27 (.tmp 42), 27, _, _, some (2, false)⟩) (v := ?_) rfl (by kernel_rfl) (by kernel_rfl) (by kernel_rfl) (fun _ _ _ h => h) (Or.inl ⟨by rfl, ?_⟩) (by assumption) ?_
      rotate_left
      · (intro w hSw; (try dsimp only at hSw); go_split_ands; go_simp; (try with_reducible rfl))
      (try simp only [Act.put]); (try simp only [List.setIfInBounds_toArray]); (try simp only [List.set_cons_succ]); (try simp only [List.set_cons_zero])
      refine wpAnyH_take (i := 6) (oi := ⟨some 44, .move (.tmp 5), 3, _, _, some (2, false)⟩) (v := ?_) rfl (by kernel_rfl) (by kernel_rfl) (by kernel_rfl) (fun _ _ _ h => h) (Or.inl ⟨by rfl, ?_⟩) (by assumption) ?_
      rotate_left
      · (intro w hSw; (try dsimp only at hSw); go_split_ands; go_simp; (try with_reducible rfl))
      (try simp only [Act.put]); (try simp only [List.setIfInBounds_toArray]); (try simp only [List.set_cons_succ]); (try simp only [List.set_cons_zero])
      refine wpAnyH_take (i := 7) (oi := ⟨some 45, .indexAddr 27 (.tmp 43) (.tmp 44), 0, _, _, some (2, false)⟩) (v := ?_) rfl (by kernel_rfl) (by kernel_rfl) (by kernel_rfl) (fun _ _ _ h => h) (Or.inl ⟨by rfl, ?_⟩) (by assumption) ?_
      rotate_left
      · (intro w hSw; (try dsimp only at hSw); go_split_ands; go_simp; (try with_reducible rfl))
      (try simp only [Act.put]); (try simp only [List.setIfInBounds_toArray]); (try simp only [List.set_cons_succ]); (try simp only [List.set_cons_zero])
      refine wpAnyH_take (i := 8) (oi := ⟨some 46, .load 49 (.tmp 45), 49, _, _, some (2, false)⟩) (v := .agg (y.cells).toArray) rfl (by kernel_rfl) (by kernel_rfl) (by kernel_rfl) (fun _ _ _ h => h) (yieldsIf_load_mid (by rfl) 49 _ rfl b (o + j * 30) rfl y.cells _ (fun w hSw => hSw.2.2) Try.underlying49 rfl (mv_size y)) (by assumption) ?_
      (try simp only [Act.put]); (try simp only [List.setIfInBounds_toArray]); (try simp only [List.set_cons_succ]); (try simp only [List.set_cons_zero])
      refine wpAnyH_ready (rs := [9]) (by kernel_rfl) (by simp) ?_
      refine AllReadyH.cons (o := ⟨some 47, .call { callee := .value (.func 21), args := #[.tmp 41, .tmp 46], argTypes := #[49, 49] }, 4, _, _, some (2, false)⟩) rfl (fun K hK => ?_) AllReadyH.nil
      go_simp
      refine CS.out.mono ?_
      rintro e w7 ⟨rfl, hb7⟩
      have b7 := below_on bX hb7
      have y1 := x1.on hb7
      have y2 := (b7.cell (p := ⟨w.heap.size, 1, none⟩) hwl).trans (hold_cell HD.out 1 rfl)
      have y3 := range_below HYR.out HBB.out b7
      try go_simp
      refine hK.out _ _ (by exact ⟨y1.cel.whole, y2, y3⟩) (fun hHeld => ?_)
      clear hK K
      (try simp only [Act.put]); (try simp only [List.setIfInBounds_toArray]); (try simp only [List.set_cons_succ]); (try simp only [List.set_cons_zero])
      refine wpAnyH_take (i := 10) (oi := ⟨some 48, .unOp .not 4 (.tmp 47), 4, _, _, some (2, false)⟩) (v := ?_) rfl (by kernel_rfl) (by kernel_rfl) (by kernel_rfl) (fun _ _ _ h => h) (Or.inl ⟨by rfl, ?_⟩) (by assumption) ?_
      rotate_left
      · (intro w hSw; (try dsimp only at hSw); go_split_ands; go_simp; (try with_reducible rfl))
      (try simp only [Act.put]); (try simp only [List.setIfInBounds_toArray]); (try simp only [List.set_cons_succ]); (try simp only [List.set_cons_zero])
      refine wpAnyH_take (i := 11) (oi := ⟨some 49, .pick (.tmp 40) (.const (.bool true)) (.tmp 48), 4, _, _, none⟩) (v := ?_) rfl (by kernel_rfl) (by kernel_rfl) (by kernel_rfl) (fun _ _ _ h => h) (Or.inl ⟨by rfl, ?_⟩) (by assumption) ?_
      rotate_left
      · (intro w hSw; (try dsimp only at hSw); go_split_ands; go_simp; (try with_reducible rfl))
      (try simp only [Act.put]); (try simp only [List.setIfInBounds_toArray]); (try simp only [List.set_cons_succ]); (try simp only [List.set_cons_zero])
      refine wpAnyH_done (by kernel_rfl) ?_ _
      have HFIN := Lib.hid b7
      clear hHeld bX x1 x2 x3 xt xo CS hb7 b7 y1 y2 y3
      have hj2 : IntKind.i64.wrap ((j : Int) + 1) = (j : Int) + 1 := IntWalk.i64_in _ (by omega)
      go_wp2
      go_roundw
      case rel => exact ⟨j + 1, by go_num, hlt, HFIN⟩
      case measure => simp [intOf]; omega
    · go_wp2
      go_ret
      exact ⟨rfl, below_on HB.out HR.out⟩
end Go.Proofs.Ytnahboflpipfpaa
