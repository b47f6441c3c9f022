/- A step of both: Lose, Twice; no conditions but those that they name. -/
import Derived.Test.YtnahboflpipfpaaDsl
namespace Go.Proofs.Ytnahboflpipfpaa
open Go.ChangeShapes Go.WideShapes Go.ChangeAt Go.RowKit

set_option maxHeartbeats 16000000 in
set_option maxRecDepth 100000 in
theorem does_lose {w : World} {g : Nat} {F : Nat → Prop} {s : St} {v : Value} {d : Dv} {n : Int} (h : Nt w g F s) (hv : Dv0 (Or1 g F) w v s) (ht : Txt (Or1 g F) w d.x) (ok : s.OkN n) (hn : n ≤ 1000) (h0 : d.vb = 3) : Calls Try.prog 13 #[ptrV g, .agg (dnL s v).toArray, .agg d.cells.toArray] w (Dsr g F (s.lose d.k) w) := by
  have hs := ok.ok hn
  obtain ⟨A, c, rfl⟩ := hv.slice
  obtain ⟨vb, kk, dx⟩ := d
  dsimp only at h0 ht
  subst h0
  show Calls Try.prog 13 _ w (Dsr g F (s.lose kk) w)
  have HB := Lib.hid (beg_of (d := ⟨3, kk, dx⟩) h hv ht)
  have c0 : World.cell? _ ⟨w.heap.size + 1, 0, none⟩ = some (.int .i64 3) := hold_cell HB.out.hx 0 rfl
  have k1 : World.cell? _ ⟨w.heap.size + 1, 1, none⟩ = some (.int .i64 kk) := hold_cell HB.out.hx 1 rfl
  have LA := Lib.hid HB.out.hd.cel.whole
  obtain ⟨W, hW⟩ : ∃ W, W = (((w.alloc (.cells (([.int .i64 s.room, (.slice A s.ms.length c), .int .i64 s.sent, .int .i64 s.came, .int .i64 s.lost] : List Value)).toArray 29)).alloc (.cells (Dv.cells ⟨3, kk, dx⟩).toArray 51)).alloc (.cells (([.int .i64 0, .slice none 0 0, .int .i64 0, .int .i64 0, .int .i64 0] : List Value)).toArray 29)) := ⟨_, rfl⟩
  have HBW := Lib.hid (show Beg w W g F s A c ⟨3, kk, dx⟩ by rw [hW]; exact HB.out)
  have HWE := Lib.hid hW
  have LQ := Lib.hid (dlose_any HB.out.dv HB.out.nt.ltall hs kk)
  have HS := Lib.hid hs
  unfold dnL at LQ
  unfold ptrV dnL
  clear h hv ht hs ok hW HB
  go_enter Try.func13, Try.ntmps13
  go_wp2_with (first
    | (with_reducible refine wpList_load_mid rfl 29 _ rfl w.heap.size 0 rfl _ _ LA.out Try.underlying29 rfl (by kernel_rfl) ?_)
    | fail)
  refine LQ.out.mono ?_
  rintro e w1 ⟨v1, rfl, hv1, hb1⟩
  rw [← HWE.out] at hb1
  obtain ⟨A1, c1, rfl⟩ := hv1.slice
  generalize hs1 : s.lose kk = s1 at *
  generalize hlk : s.lk kk = lk at *
  generalize hn1 : s1.ms.length = n1 at *
  have HS1 := Lib.hid hs1
  have HLK := Lib.hid hlk
  have b2 := below_new (o := .cells ([.int .i64 s1.room, .slice A1 n1 c1, .int .i64 s1.sent, .int .i64 s1.came, .int .i64 s1.lost] : List Value).toArray 29) hb1
  have HB2 := Lib.hid b2
  have HV1 := Lib.hid (hv1.below (below_new (o := .cells ([.int .i64 s1.room, .slice A1 n1 c1, .int .i64 s1.sent, .int .i64 s1.came, .int .i64 s1.lost] : List Value).toArray 29) (Below.refl _ _)))
  have H2 := Lib.hid (Hold.new w1 ([.int .i64 s1.room, .slice A1 n1 c1, .int .i64 s1.sent, .int .i64 s1.came, .int .i64 s1.lost] : List Value) 29)
  have HZ := Lib.hid (show W.heap.size ≤ w1.heap.size from hb1.size)
  clear hs1 hlk hn1 hv1 hb1 b2 LQ c0 k1
  go_wp2_with (first
    | (with_reducible refine wpList_store_fresh rfl 29 _ _ rfl _ rfl 29 _ ([.int .i64 s1.room, .slice A1 n1 c1, .int .i64 s1.sent, .int .i64 s1.came, .int .i64 s1.lost] : List Value) rfl rfl rfl (by kernel_rfl) rfl ?_)
    | fail)
  obtain ⟨X, hX⟩ : ∃ X, X = (w1.alloc (.cells ([.int .i64 s1.room, .slice A1 n1 c1, .int .i64 s1.sent, .int .i64 s1.came, .int .i64 s1.lost] : List Value).toArray 29)).drew := ⟨_, rfl⟩
  have bX : Below W.heap.size W X := by rw [hX]; exact HB2.out.drew
  have hY : Hold X w1.heap.size 29 ([.int .i64 s1.room, .slice A1 n1 c1, .int .i64 s1.sent, .int .i64 s1.came, .int .i64 s1.lost] : List Value) := by rw [hX]; exact H2.out.on (below_drew _)
  have hvX : Dv0 (Or1 g (Fb F w.heap.size 3)) X (.slice A1 n1 c1) s1 := by rw [hX]; exact HV1.out.below (below_drew _)
  have hq := HBW.out.hx.on bX
  have hr6 := HBW.out.hr.on bX
  have CL := Lib.hid (lose_any (HBW.out.nt.below bX) HS.out kk)
  have hzX : w1.heap.size < X.heap.size := hold_lt hY
  have hgl := HBW.out.gl
  have hsz := HBW.out.sz
  have hzz := HZ.out
  refine wp_region_held_drew (S := fun w' => w'.rangeAt w1.heap.size 0 ([.int .i64 s1.room, .slice A1 n1 c1, .int .i64 s1.sent, .int .i64 s1.came, .int .i64 s1.lost] : List Value) ∧ w'.cell? ⟨w.heap.size + 1, 1, none⟩ = some (.int .i64 kk)) (by kernel_rfl) (by rw [← hX]; exact ⟨hY.cel.whole, hold_cell hq 1 rfl⟩) (fun hHeld => ?_)
  rw [← hX] at hHeld ⊢
  clear hX
  refine wpAnyH_take (i := 0) (oi := ⟨some 155, .load 29 (.tmp 25), 29, _, _, none⟩) (v := .agg (([.int .i64 s1.room, .slice A1 n1 c1, .int .i64 s1.sent, .int .i64 s1.came, .int .i64 s1.lost] : List Value)).toArray) rfl (by kernel_rfl) (by kernel_rfl) (by kernel_rfl) (fun _ _ _ h => h) (yieldsIf_load_mid (by rfl) 29 _ rfl w1.heap.size 0 rfl ([.int .i64 s1.room, .slice A1 n1 c1, .int .i64 s1.sent, .int .i64 s1.came, .int .i64 s1.lost] : List Value) _ (fun w hSw => hSw.1) Try.underlying29 rfl (by kernel_rfl)) (by assumption) ?_
  (try simp only [Act.put]); (try simp only [List.setIfInBounds_toArray]); (try simp only [List.set_cons_succ]); (try simp only [List.set_cons_zero])
  refine wpAnyH_take (i := 1) (oi := ⟨some 156, .move (.tmp 0), 25, _, _, none⟩) (v := ?_) rfl (by kernel_rfl) (by kernel_rfl) (by kernel_rfl) (fun _ _ _ h => h) (Or.inl ⟨by rfl, ?_⟩) (by assumption) ?_
  rotate_left
  · (intro w hSw; (try dsimp only at hSw); go_split_ands; go_simp; (try with_reducible rfl))
  (try simp only [Act.put]); (try simp only [List.setIfInBounds_toArray]); (try simp only [List.set_cons_succ]); (try simp only [List.set_cons_zero])
  refine wpAnyH_take (i := 2) (oi := ⟨some 157, .fieldAddr 51 (.tmp 5) 1, 0, _, _, none⟩) (v := ?_) rfl (by kernel_rfl) (by kernel_rfl) (by kernel_rfl) (fun _ _ _ h => h) (Or.inl ⟨by rfl, ?_⟩) (by assumption) ?_
  rotate_left
  · (intro w hSw; (try dsimp only at hSw); go_split_ands; go_simp; (try with_reducible rfl))
  (try simp only [Act.put]); (try simp only [List.setIfInBounds_toArray]); (try simp only [List.set_cons_succ]); (try simp only [List.set_cons_zero])
  refine wpAnyH_take (i := 3) (oi := ⟨some 158, .load 3 (.tmp 157), 3, _, _, none⟩) (v := ?_) rfl (by kernel_rfl) (by kernel_rfl) (by kernel_rfl) (fun _ _ _ h => h) (Or.inl ⟨by rfl, ?_⟩) (by assumption) ?_
  rotate_left
  · (intro w hSw; (try dsimp only at hSw); go_split_ands; go_simp; (try with_reducible rfl))
  (try simp only [Act.put]); (try simp only [List.setIfInBounds_toArray]); (try simp only [List.set_cons_succ]); (try simp only [List.set_cons_zero])
  refine wpAnyH_take (i := 5) (oi := ⟨some 160, .move (.tmp 26), 62, _, _, none⟩) (v := ?_) rfl (by kernel_rfl) (by kernel_rfl) (by kernel_rfl) (fun _ _ _ h => h) (Or.inl ⟨by rfl, ?_⟩) (by assumption) ?_
  rotate_left
  · (intro w hSw; (try dsimp only at hSw); go_split_ands; go_simp; (try with_reducible rfl))
  (try simp only [Act.put]); (try simp only [List.setIfInBounds_toArray]); (try simp only [List.set_cons_succ]); (try simp only [List.set_cons_zero])
  refine wpAnyH_ready (rs := [4]) (by kernel_rfl) (by simp) ?_
  refine AllReadyH.cons (o := ⟨some 159, .call { callee := .value (.func 23), args := #[.tmp 156, .tmp 158], argTypes := #[25, 3] }, 62, _, _, none⟩) rfl (fun K hK => ?_) AllReadyH.nil
  go_simp
  refine CL.out.mono ?_
  rintro e w3 ⟨rfl, hn3, hk3⟩
  rw [HS1.out] at hn3
  rw [HLK.out]
  have y3 := hold_keeps hY hk3 (fun e => by unfold only at e; omega)
  have q3 := hold_keeps hq hk3 (fun e => by unfold only at e; omega)
  have r3 := hold_keeps hr6 hk3 (fun e => by unfold only at e; omega)
  have v3 := hvX.step hk3 (fun x e => .inl e) (fun _ e => .inl e)
  try go_simp
  refine hK.out _ _ (by exact ⟨y3.cel.whole, hold_cell q3 1 rfl⟩) (fun hHeld => ?_)
  clear hK K
  (try simp only [Act.put]); (try simp only [List.setIfInBounds_toArray]); (try simp only [List.set_cons_succ]); (try simp only [List.set_cons_zero])
  refine wpAnyH_take (i := 6) (oi := ⟨some 161, .binOp .eql 62 (.tmp 159) (.tmp 160) 62, 4, _, _, none⟩) (v := ?_) rfl (by kernel_rfl) (by kernel_rfl) (by kernel_rfl) (fun _ _ _ h => h) (Or.inl ⟨by rfl, ?_⟩) (by assumption) ?_
  rotate_left
  · (intro w hSw; (try dsimp only at hSw); go_split_ands; go_simp; (try with_reducible rfl))
  (try simp only [Act.put]); (try simp only [List.setIfInBounds_toArray]); (try simp only [List.set_cons_succ]); (try simp only [List.set_cons_zero])
  have k4 := keeps_puts ([.int .i64 s1.room, .slice A1 n1 c1, .int .i64 s1.sent, .int .i64 s1.came, .int .i64 s1.lost] : List Value) 0 (b := w.heap.size + 2) (w := w3)
  have y4 := hold_keeps y3 k4 (fun e => by unfold only at e; omega)
  have q4 := hold_keeps q3 k4 (fun e => by unfold only at e; omega)
  refine wpAnyH_store (i := 7) (o := ⟨none, .store 29 (.tmp 6) (.tmp 155), 0, _, _, none⟩) (by kernel_rfl) rfl rfl 29 (.tmp 6) (.tmp 155) rfl (w.heap.size + 2) 29 ([.int .i64 0, .slice none 0 0, .int .i64 0, .int .i64 0, .int .i64 0] : List Value) ([.int .i64 s1.room, .slice A1 n1 c1, .int .i64 s1.sent, .int .i64 s1.came, .int .i64 s1.lost] : List Value) rfl rfl r3 rfl (by kernel_rfl) rfl (by exact ⟨y4.cel.whole, hold_cell q4 1 rfl⟩) ?_
  (try simp only [Act.put]); (try simp only [List.setIfInBounds_toArray]); (try simp only [List.set_cons_succ]); (try simp only [List.set_cons_zero])
  have hHeld2 := And.intro y4.cel.whole (hold_cell q4 1 rfl)
  refine wpAnyH_take (i := 8) (oi := ⟨some 7, .assign (.tmp 161), 4, _, _, none⟩) (v := ?_) rfl (by kernel_rfl) (by kernel_rfl) (by kernel_rfl) (fun _ _ _ h => h) (Or.inl ⟨by rfl, ?_⟩) (by assumption) ?_
  rotate_left
  · (intro w hSw; (try dsimp only at hSw); go_split_ands; go_simp; (try with_reducible rfl))
  (try simp only [Act.put]); (try simp only [List.setIfInBounds_toArray]); (try simp only [List.set_cons_succ]); (try simp only [List.set_cons_zero])
  refine wpAnyH_done (by kernel_rfl) ?_ _
  have RH := Lib.hid (Hold.set ([.int .i64 s1.room, .slice A1 n1 c1, .int .i64 s1.sent, .int .i64 s1.came, .int .i64 s1.lost] : List Value) [] ([.int .i64 0, .slice none 0 0, .int .i64 0, .int .i64 0, .int .i64 0] : List Value) [] rfl _ r3)
  have HFIN := Lib.hid (dsr_mk (L := ([.int .i64 s1.room, .slice A1 n1 c1, .int .i64 s1.sent, .int .i64 s1.came, .int .i64 s1.lost] : List Value)) hn3 v3 (((Keeps.of_below (F := only g) HBW.out.bel).trans (Keeps.of_below (F := only g) bX) (fun _ _ e => e)).trans hk3 (fun _ _ e => e)) rfl)
  clear hn3 v3 y3 q3 r3 k4 y4 q4 hHeld2 hHeld hk3 bX hY hvX hq hr6 CL
  go_wp2
  refine bodyPost_ret (results_cv rfl rfl rfl RH.out.cel.whole _ Try.underlying29 rfl (by kernel_rfl)) rfl ?_
  exact ⟨.slice A1 n1 c1, by first | rfl | simp [dnL], HFIN.out⟩
set_option maxHeartbeats 16000000 in
set_option maxRecDepth 100000 in
theorem does_twice {w : World} {g : Nat} {F : Nat → Prop} {s : St} {v : Value} {d : Dv} {n : Int} (h : Nt w g F s) (hv : Dv0 (Or1 g F) w v s) (ht : Txt (Or1 g F) w d.x) (ok : s.OkN n) (hn : n ≤ 1000) (h0 : d.vb = 4) : Calls Try.prog 13 #[ptrV g, .agg (dnL s v).toArray, .agg d.cells.toArray] w (Dsr g F (s.twice d.k) w) := by
  have hs := ok.ok hn
  obtain ⟨A, c, rfl⟩ := hv.slice
  obtain ⟨vb, kk, dx⟩ := d
  dsimp only at h0 ht
  subst h0
  show Calls Try.prog 13 _ w (Dsr g F (s.twice kk) w)
  have HB := Lib.hid (beg_of (d := ⟨4, kk, dx⟩) h hv ht)
  have c0 : World.cell? _ ⟨w.heap.size + 1, 0, none⟩ = some (.int .i64 4) := hold_cell HB.out.hx 0 rfl
  have k1 : World.cell? _ ⟨w.heap.size + 1, 1, none⟩ = some (.int .i64 kk) := hold_cell HB.out.hx 1 rfl
  have LA := Lib.hid HB.out.hd.cel.whole
  obtain ⟨W, hW⟩ : ∃ W, W = (((w.alloc (.cells (([.int .i64 s.room, (.slice A s.ms.length c), .int .i64 s.sent, .int .i64 s.came, .int .i64 s.lost] : List Value)).toArray 29)).alloc (.cells (Dv.cells ⟨4, kk, dx⟩).toArray 51)).alloc (.cells (([.int .i64 0, .slice none 0 0, .int .i64 0, .int .i64 0, .int .i64 0] : List Value)).toArray 29)) := ⟨_, rfl⟩
  have HBW := Lib.hid (show Beg w W g F s A c ⟨4, kk, dx⟩ by rw [hW]; exact HB.out)
  have HWE := Lib.hid hW
  have LQ := Lib.hid (dtwice_any HB.out.dv HB.out.nt.ltall ok hn kk)
  have HS := Lib.hid hs
  unfold dnL at LQ
  unfold ptrV dnL
  clear h hv ht hs ok hW HB
  go_enter Try.func13, Try.ntmps13
  go_wp2_with (first
    | (with_reducible refine wpList_load_mid rfl 29 _ rfl w.heap.size 0 rfl _ _ LA.out Try.underlying29 rfl (by kernel_rfl) ?_)
    | fail)
  refine LQ.out.mono ?_
  rintro e w1 ⟨v1, rfl, hv1, hb1⟩
  rw [← HWE.out] at hb1
  obtain ⟨A1, c1, rfl⟩ := hv1.slice
  generalize hs1 : s.twice kk = s1 at *
  generalize hlk : s.twiceR kk = lk at *
  generalize hn1 : s1.ms.length = n1 at *
  have HS1 := Lib.hid hs1
  have HLK := Lib.hid hlk
  have b2 := below_new (o := .cells ([.int .i64 s1.room, .slice A1 n1 c1, .int .i64 s1.sent, .int .i64 s1.came, .int .i64 s1.lost] : List Value).toArray 29) hb1
  have HB2 := Lib.hid b2
  have HV1 := Lib.hid (hv1.below (below_new (o := .cells ([.int .i64 s1.room, .slice A1 n1 c1, .int .i64 s1.sent, .int .i64 s1.came, .int .i64 s1.lost] : List Value).toArray 29) (Below.refl _ _)))
  have H2 := Lib.hid (Hold.new w1 ([.int .i64 s1.room, .slice A1 n1 c1, .int .i64 s1.sent, .int .i64 s1.came, .int .i64 s1.lost] : List Value) 29)
  have HZ := Lib.hid (show W.heap.size ≤ w1.heap.size from hb1.size)
  clear hs1 hlk hn1 hv1 hb1 b2 LQ c0 k1
  go_wp2_with (first
    | (with_reducible refine wpList_store_fresh rfl 29 _ _ rfl _ rfl 29 _ ([.int .i64 s1.room, .slice A1 n1 c1, .int .i64 s1.sent, .int .i64 s1.came, .int .i64 s1.lost] : List Value) rfl rfl rfl (by kernel_rfl) rfl ?_)
    | fail)
  obtain ⟨X, hX⟩ : ∃ X, X = (w1.alloc (.cells ([.int .i64 s1.room, .slice A1 n1 c1, .int .i64 s1.sent, .int .i64 s1.came, .int .i64 s1.lost] : List Value).toArray 29)).drew := ⟨_, rfl⟩
  have bX : Below W.heap.size W X := by rw [hX]; exact HB2.out.drew
  have hY : Hold X w1.heap.size 29 ([.int .i64 s1.room, .slice A1 n1 c1, .int .i64 s1.sent, .int .i64 s1.came, .int .i64 s1.lost] : List Value) := by rw [hX]; exact H2.out.on (below_drew _)
  have hvX : Dv0 (Or1 g (Fb F w.heap.size 3)) X (.slice A1 n1 c1) s1 := by rw [hX]; exact HV1.out.below (below_drew _)
  have hq := HBW.out.hx.on bX
  have hr6 := HBW.out.hr.on bX
  have CL := Lib.hid (twice_any (HBW.out.nt.below bX) HS.out kk)
  have hzX : w1.heap.size < X.heap.size := hold_lt hY
  have hgl := HBW.out.gl
  have hsz := HBW.out.sz
  have hzz := HZ.out
  refine wp_region_held_drew (S := fun w' => w'.rangeAt w1.heap.size 0 ([.int .i64 s1.room, .slice A1 n1 c1, .int .i64 s1.sent, .int .i64 s1.came, .int .i64 s1.lost] : List Value) ∧ w'.cell? ⟨w.heap.size + 1, 1, none⟩ = some (.int .i64 kk)) (by kernel_rfl) (by rw [← hX]; exact ⟨hY.cel.whole, hold_cell hq 1 rfl⟩) (fun hHeld => ?_)
  rw [← hX] at hHeld ⊢
  clear hX
  refine wpAnyH_take (i := 0) (oi := ⟨some 171, .load 29 (.tmp 27), 29, _, _, none⟩) (v := .agg (([.int .i64 s1.room, .slice A1 n1 c1, .int .i64 s1.sent, .int .i64 s1.came, .int .i64 s1.lost] : List Value)).toArray) rfl (by kernel_rfl) (by kernel_rfl) (by kernel_rfl) (fun _ _ _ h => h) (yieldsIf_load_mid (by rfl) 29 _ rfl w1.heap.size 0 rfl ([.int .i64 s1.room, .slice A1 n1 c1, .int .i64 s1.sent, .int .i64 s1.came, .int .i64 s1.lost] : List Value) _ (fun w hSw => hSw.1) Try.underlying29 rfl (by kernel_rfl)) (by assumption) ?_
  (try simp only [Act.put]); (try simp only [List.setIfInBounds_toArray]); (try simp only [List.set_cons_succ]); (try simp only [List.set_cons_zero])
  refine wpAnyH_take (i := 1) (oi := ⟨some 172, .move (.tmp 0), 25, _, _, none⟩) (v := ?_) rfl (by kernel_rfl) (by kernel_rfl) (by kernel_rfl) (fun _ _ _ h => h) (Or.inl ⟨by rfl, ?_⟩) (by assumption) ?_
  rotate_left
  · (intro w hSw; (try dsimp only at hSw); go_split_ands; go_simp; (try with_reducible rfl))
  (try simp only [Act.put]); (try simp only [List.setIfInBounds_toArray]); (try simp only [List.set_cons_succ]); (try simp only [List.set_cons_zero])
  refine wpAnyH_take (i := 2) (oi := ⟨some 173, .fieldAddr 51 (.tmp 5) 1, 0, _, _, none⟩) (v := ?_) rfl (by kernel_rfl) (by kernel_rfl) (by kernel_rfl) (fun _ _ _ h => h) (Or.inl ⟨by rfl, ?_⟩) (by assumption) ?_
  rotate_left
  · (intro w hSw; (try dsimp only at hSw); go_split_ands; go_simp; (try with_reducible rfl))
  (try simp only [Act.put]); (try simp only [List.setIfInBounds_toArray]); (try simp only [List.set_cons_succ]); (try simp only [List.set_cons_zero])
  refine wpAnyH_take (i := 3) (oi := ⟨some 174, .load 3 (.tmp 173), 3, _, _, none⟩) (v := ?_) rfl (by kernel_rfl) (by kernel_rfl) (by kernel_rfl) (fun _ _ _ h => h) (Or.inl ⟨by rfl, ?_⟩) (by assumption) ?_
  rotate_left
  · (intro w hSw; (try dsimp only at hSw); go_split_ands; go_simp; (try with_reducible rfl))
  (try simp only [Act.put]); (try simp only [List.setIfInBounds_toArray]); (try simp only [List.set_cons_succ]); (try simp only [List.set_cons_zero])
  refine wpAnyH_take (i := 5) (oi := ⟨some 176, .move (.tmp 28), 62, _, _, none⟩) (v := ?_) rfl (by kernel_rfl) (by kernel_rfl) (by kernel_rfl) (fun _ _ _ h => h) (Or.inl ⟨by rfl, ?_⟩) (by assumption) ?_
  rotate_left
  · (intro w hSw; (try dsimp only at hSw); go_split_ands; go_simp; (try with_reducible rfl))
  (try simp only [Act.put]); (try simp only [List.setIfInBounds_toArray]); (try simp only [List.set_cons_succ]); (try simp only [List.set_cons_zero])
  refine wpAnyH_ready (rs := [4]) (by kernel_rfl) (by simp) ?_
  refine AllReadyH.cons (o := ⟨some 175, .call { callee := .value (.func 24), args := #[.tmp 172, .tmp 174], argTypes := #[25, 3] }, 62, _, _, none⟩) rfl (fun K hK => ?_) AllReadyH.nil
  go_simp
  refine CL.out.mono ?_
  rintro e w3 ⟨rfl, hn3, hk3⟩
  rw [HS1.out] at hn3
  rw [HLK.out]
  have y3 := hold_keeps hY hk3 (fun e => by unfold only at e; omega)
  have q3 := hold_keeps hq hk3 (fun e => by unfold only at e; omega)
  have r3 := hold_keeps hr6 hk3 (fun e => by unfold only at e; omega)
  have v3 := hvX.step hk3 (fun x e => .inl e) (fun _ e => .inl e)
  try go_simp
  refine hK.out _ _ (by exact ⟨y3.cel.whole, hold_cell q3 1 rfl⟩) (fun hHeld => ?_)
  clear hK K
  (try simp only [Act.put]); (try simp only [List.setIfInBounds_toArray]); (try simp only [List.set_cons_succ]); (try simp only [List.set_cons_zero])
  refine wpAnyH_take (i := 6) (oi := ⟨some 177, .binOp .eql 62 (.tmp 175) (.tmp 176) 62, 4, _, _, none⟩) (v := ?_) rfl (by kernel_rfl) (by kernel_rfl) (by kernel_rfl) (fun _ _ _ h => h) (Or.inl ⟨by rfl, ?_⟩) (by assumption) ?_
  rotate_left
  · (intro w hSw; (try dsimp only at hSw); go_split_ands; go_simp; (try with_reducible rfl))
  (try simp only [Act.put]); (try simp only [List.setIfInBounds_toArray]); (try simp only [List.set_cons_succ]); (try simp only [List.set_cons_zero])
  have k4 := keeps_puts ([.int .i64 s1.room, .slice A1 n1 c1, .int .i64 s1.sent, .int .i64 s1.came, .int .i64 s1.lost] : List Value) 0 (b := w.heap.size + 2) (w := w3)
  have y4 := hold_keeps y3 k4 (fun e => by unfold only at e; omega)
  have q4 := hold_keeps q3 k4 (fun e => by unfold only at e; omega)
  refine wpAnyH_store (i := 7) (o := ⟨none, .store 29 (.tmp 6) (.tmp 171), 0, _, _, none⟩) (by kernel_rfl) rfl rfl 29 (.tmp 6) (.tmp 171) rfl (w.heap.size + 2) 29 ([.int .i64 0, .slice none 0 0, .int .i64 0, .int .i64 0, .int .i64 0] : List Value) ([.int .i64 s1.room, .slice A1 n1 c1, .int .i64 s1.sent, .int .i64 s1.came, .int .i64 s1.lost] : List Value) rfl rfl r3 rfl (by kernel_rfl) rfl (by exact ⟨y4.cel.whole, hold_cell q4 1 rfl⟩) ?_
  (try simp only [Act.put]); (try simp only [List.setIfInBounds_toArray]); (try simp only [List.set_cons_succ]); (try simp only [List.set_cons_zero])
  have hHeld2 := And.intro y4.cel.whole (hold_cell q4 1 rfl)
  refine wpAnyH_take (i := 8) (oi := ⟨some 7, .assign (.tmp 177), 4, _, _, none⟩) (v := ?_) rfl (by kernel_rfl) (by kernel_rfl) (by kernel_rfl) (fun _ _ _ h => h) (Or.inl ⟨by rfl, ?_⟩) (by assumption) ?_
  rotate_left
  · (intro w hSw; (try dsimp only at hSw); go_split_ands; go_simp; (try with_reducible rfl))
  (try simp only [Act.put]); (try simp only [List.setIfInBounds_toArray]); (try simp only [List.set_cons_succ]); (try simp only [List.set_cons_zero])
  refine wpAnyH_done (by kernel_rfl) ?_ _
  have RH := Lib.hid (Hold.set ([.int .i64 s1.room, .slice A1 n1 c1, .int .i64 s1.sent, .int .i64 s1.came, .int .i64 s1.lost] : List Value) [] ([.int .i64 0, .slice none 0 0, .int .i64 0, .int .i64 0, .int .i64 0] : List Value) [] rfl _ r3)
  have HFIN := Lib.hid (dsr_mk (L := ([.int .i64 s1.room, .slice A1 n1 c1, .int .i64 s1.sent, .int .i64 s1.came, .int .i64 s1.lost] : List Value)) hn3 v3 (((Keeps.of_below (F := only g) HBW.out.bel).trans (Keeps.of_below (F := only g) bX) (fun _ _ e => e)).trans hk3 (fun _ _ e => e)) rfl)
  clear hn3 v3 y3 q3 r3 k4 y4 q4 hHeld2 hHeld hk3 bX hY hvX hq hr6 CL
  go_wp2
  refine bodyPost_ret (results_cv rfl rfl rfl RH.out.cel.whole _ Try.underlying29 rfl (by kernel_rfl)) rfl ?_
  exact ⟨.slice A1 n1 c1, by first | rfl | simp [dnL], HFIN.out⟩
end Go.Proofs.Ytnahboflpipfpaa
