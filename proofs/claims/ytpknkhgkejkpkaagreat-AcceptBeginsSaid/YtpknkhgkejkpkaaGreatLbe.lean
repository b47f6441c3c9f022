/- The walk of AcceptBegins; no conditions. -/
import Derived.Test.YtpknkhgkejkpkaaGreatAwk
import Derived.Test.YtpknkhgkejkpkaaGreatSml
import Derived.Test.YtpknkhgkejkpkaaGreatMor
import Derived.Test.YtpknkhgkejkpkaaGreatDkw
import Derived.Test.YtpknkhgkejkpkaaGreatDbg
import Derived.Test.YtpknkhgkejkpkaaGreatPd
namespace Go.Proofs.YtpknkhgkejkpkaaGreat
open Go.ChangeShapes Go.WideShapes Go.ChangeAt Go.RowKit

theorem beg_mod {X : List Rv} {p : Int} {c : M.Cmd} (F : M.Mod c) : M.Mod (begX X p c).1.c := by
  unfold begX
  split
  · exact M.zero_mod
  · split
    · exact M.zero_mod
    · exact F
set_option maxHeartbeats 16000000 in
set_option maxRecDepth 100000 in
theorem begins_law (p : Int) (c : M.Cmd) (i1 i2 : Int) (w : World) {v va vb : Value} {X : List Rv} (h : Rows w v X) (_hq : Sqs X) (g : Rds w va c.rs) (g' : Wrs w vb c.ws) :
    Calls Tryz.prog 3 #[v, .int .i64 p, .agg #[.int .i64 c.k, .int .i64 c.tc, .int .i64 c.tn, .int .i64 c.tt, .int .i64 c.tk, .int .i64 c.sh, va, vb, .bool c.cm], .agg #[.int .i64 i1, .int .i64 i2]] w fun e w' => e = .returned (.bool true) ∧ Below w.heap.size w w' := by
  obtain ⟨A, cc, rfl⟩ := rowN_sliceOf h.row
  have H0 := Lib.hid (show Hold ((w.alloc (.cells #[.int .i64 c.k, .int .i64 c.tc, .int .i64 c.tn, .int .i64 c.tt, .int .i64 c.tk, .int .i64 c.sh, va, vb, .bool c.cm] 30)).alloc (.cells #[.int .i64 i1, .int .i64 i2] 32)) w.heap.size 30 [.int .i64 c.k, .int .i64 c.tc, .int .i64 c.tn, .int .i64 c.tt, .int .i64 c.tk, .int .i64 c.sh, va, vb, .bool c.cm] from (Hold.new w [.int .i64 c.k, .int .i64 c.tc, .int .i64 c.tn, .int .i64 c.tt, .int .i64 c.tk, .int .i64 c.sh, va, vb, .bool c.cm] 30).on (below_new (o := .cells #[.int .i64 i1, .int .i64 i2] 32) (Below.refl _ _)))
  have H1 := Lib.hid (show Hold ((w.alloc (.cells #[.int .i64 c.k, .int .i64 c.tc, .int .i64 c.tn, .int .i64 c.tt, .int .i64 c.tk, .int .i64 c.sh, va, vb, .bool c.cm] 30)).alloc (.cells #[.int .i64 i1, .int .i64 i2] 32)) (w.heap.size + 1) 32 [.int .i64 i1, .int .i64 i2] from by
    have := Hold.new (w.alloc (.cells #[.int .i64 c.k, .int .i64 c.tc, .int .i64 c.tn, .int .i64 c.tt, .int .i64 c.tk, .int .i64 c.sh, va, vb, .bool c.cm] 30)) [.int .i64 i1, .int .i64 i2] 32
    rwa [show (w.alloc (.cells #[.int .i64 c.k, .int .i64 c.tc, .int .i64 c.tn, .int .i64 c.tt, .int .i64 c.tk, .int .i64 c.sh, va, vb, .bool c.cm] 30)).heap.size = w.heap.size + 1 by simp] at this)
  have HB := Lib.hid (show Below w.heap.size w ((w.alloc (.cells #[.int .i64 c.k, .int .i64 c.tc, .int .i64 c.tn, .int .i64 c.tt, .int .i64 c.tk, .int .i64 c.sh, va, vb, .bool c.cm] 30)).alloc (.cells #[.int .i64 i1, .int .i64 i2] 32)) from below_new (below_new (Below.refl _ _)))
  have HX := Lib.hid h
  have HC := Lib.hid g
  have HC' := Lib.hid g'
  have HF := few_rows (h.below HB.out)
  clear h _hq g g'
  rcases hf : fewX X with _ | _
  · rw [hf] at HF
    have HFW := Lib.hid HF
    clear HF hf
    go_enter Tryz.func3, Tryz.ntmps3
    go_wp2_with (first
    | (go_at_call 8
       refine HFW.out.mono ?_
       rintro e w1 ⟨rfl, hb⟩
       have HB1 := Lib.hid (below_on HB.out hb)
       have KC1 := Lib.hid (H0.out.on hb)
       have KI1 := Lib.hid (H1.out.on hb)
       clear hb)
    | (go_at_call 10
       refine (awake_any _).mono ?_
       rintro e wz ⟨rfl, hb⟩
       have HBZ := Lib.hid (below_on HB1.out hb)
       clear hb)
    | fail)
    go_ret
    exact ⟨rfl, HBZ.out⟩
  rw [hf] at HF
  have HFW := Lib.hid HF
  have hX := fewX_mod hf
  have hl : X.length ≤ 1000 := Nat.le_trans (fewX_len hf) (by decide)
  clear HF hf
  rcases hg : M.modB c with _ | _
  · have HG := Lib.hid hg
    clear hg
    go_enter Tryz.func3, Tryz.ntmps3
    go_wp2_with (first
    | (go_at_call 8
       refine HFW.out.mono ?_
       rintro e w1 ⟨rfl, hb⟩
       have HB1 := Lib.hid (below_on HB.out hb)
       have KC1 := Lib.hid (H0.out.on hb)
       have KI1 := Lib.hid (H1.out.on hb)
       have F1 := few_one (w := w1) (b := w1.heap.size) rfl c (HC.out.below HB1.out) (HC'.out.below HB1.out)
       rw [HG.out] at F1
       have HF1 := Lib.hid F1
       have HBa1 := Lib.hid (below_new (o := .cells #[.int .i64 c.k, .int .i64 c.tc, .int .i64 c.tn, .int .i64 c.tt, .int .i64 c.tk, .int .i64 c.sh, va, vb, .bool c.cm] 30) (Below.refl w1.heap.size w1))
       have C1w := KC1.out.cel.whole
       clear F1
       clear hb)
    | (with_reducible refine wpList_load_mid_g ?_ 30 _ rfl w.heap.size 0 rfl [.int .i64 c.k, .int .i64 c.tc, .int .i64 c.tn, .int .i64 c.tt, .int .i64 c.tk, .int .i64 c.sh, va, vb, .bool c.cm] _ C1w Tryz.underlying30 rfl (by kernel_rfl) ?_; kernel_rfl)
    | (go_at_call 9
       refine HF1.out.mono ?_
       rintro e w2 ⟨rfl, hb⟩
       have hb2 := below_on HBa1.out hb
       have HB2 := Lib.hid (below_on HB1.out hb2)
       have KC2 := Lib.hid (KC1.out.on hb2)
       have KI2 := Lib.hid (KI1.out.on hb2)
       have C2w := KC2.out.cel.whole
       clear hb hb2 C1w)
    | (go_at_call 10
       refine (awake_any _).mono ?_
       rintro e wz ⟨rfl, hb⟩
       have HBZ := Lib.hid (below_on HB2.out hb)
       clear hb)
    | fail)
    go_ret
    exact ⟨rfl, HBZ.out⟩
  have HG := Lib.hid hg
  have F := M.modB_iff.1 hg
  clear hg
  obtain ⟨s, hs⟩ : ∃ s, s = begX X p c := ⟨_, rfl⟩
  have hrm := beg_mod (X := X) (p := p) F
  rw [← hs] at hrm
  obtain ⟨r, er⟩ := s
  have HRM := Lib.hid (show M.Mod r.c from hrm)
  have HS := Lib.hid hs
  obtain ⟨k, hk⟩ : ∃ k, k = M.knowL (rcs X) i1 i2 := ⟨_, rfl⟩
  have HK := Lib.hid hk.symm
  have HKM := Lib.hid (show M.Mod k.c by rw [hk]; exact M.know_cmd M.Mod M.zero_mod hX i1 i2)
  clear hs hrm hk
  go_enter Tryz.func3, Tryz.ntmps3
  go_wp2_with (first
  | (go_at_call 8
     refine HFW.out.mono ?_
     rintro e w1 ⟨rfl, hb⟩
     have HB1 := Lib.hid (below_on HB.out hb)
     have KC1 := Lib.hid (H0.out.on hb)
     have KI1 := Lib.hid (H1.out.on hb)
     have F1 := few_one (w := w1) (b := w1.heap.size) rfl c (HC.out.below HB1.out) (HC'.out.below HB1.out)
     rw [HG.out] at F1
     have HF1 := Lib.hid F1
     have HBa1 := Lib.hid (below_new (o := .cells #[.int .i64 c.k, .int .i64 c.tc, .int .i64 c.tn, .int .i64 c.tt, .int .i64 c.tk, .int .i64 c.sh, va, vb, .bool c.cm] 30) (Below.refl w1.heap.size w1))
     have C1w := KC1.out.cel.whole
     clear F1
     clear hb)
  | (with_reducible refine wpList_load_mid_g ?_ 30 _ rfl w.heap.size 0 rfl [.int .i64 c.k, .int .i64 c.tc, .int .i64 c.tn, .int .i64 c.tt, .int .i64 c.tk, .int .i64 c.sh, va, vb, .bool c.cm] _ C1w Tryz.underlying30 rfl (by kernel_rfl) ?_; kernel_rfl)
  | (go_at_call 9
     refine HF1.out.mono ?_
     rintro e w2 ⟨rfl, hb⟩
     have hb2 := below_on HBa1.out hb
     have HB2 := Lib.hid (below_on HB1.out hb2)
     have KC2 := Lib.hid (KC1.out.on hb2)
     have KI2 := Lib.hid (KI1.out.on hb2)
     have C2w := KC2.out.cel.whole
     clear hb hb2 C1w)
  | (with_reducible refine wpList_load_mid rfl 30 _ rfl w.heap.size 0 rfl [.int .i64 c.k, .int .i64 c.tc, .int .i64 c.tn, .int .i64 c.tt, .int .i64 c.tk, .int .i64 c.sh, va, vb, .bool c.cm] _ C2w Tryz.underlying30 rfl (by kernel_rfl) ?_)
  | (go_at_call 11
     have HA := begin_any (HX.out.below HB2.out) hl hX p c (HC.out.below HB2.out) (HC'.out.below HB2.out) F
     rw [← HS.out] at HA
     refine HA.mono ?_
     clear HA
     rintro e w3 ⟨xa, xb, rfl, t1, hb⟩
     have HB3 := Lib.hid (below_on HB2.out hb)
     have KC3 := Lib.hid (KC2.out.on hb)
     have KI3 := Lib.hid (KI2.out.on hb)
     have T3 := Lib.hid t1
     have o3 : (Rv.cells ⟨r, xa, xb⟩).all (·.oneCell') = true := rv_one (rds_one t1.rs) (wrs_one t1.ws)
     clear hb t1)
  | (with_reducible refine store_freshA rfl 41 _ _ rfl w3.heap.size rfl 41 _ (Rv.cells ⟨r, xa, xb⟩) rfl rfl rfl (rv_size _) o3 ?_
     intro w4 S4 b4
     have HB4 := Lib.hid (below_on HB3.out b4)
     have KC4 := Lib.hid (KC3.out.on b4)
     have KI4 := Lib.hid (KI3.out.on b4)
     have T4 := Lib.hid (T3.out.below b4)
     have KS4 := Lib.hid S4
     have C4w := KC4.out.cel.whole
     clear b4 S4 C2w)
  | (with_reducible refine wpList_load_mid rfl 30 _ rfl w.heap.size 0 rfl [.int .i64 c.k, .int .i64 c.tc, .int .i64 c.tn, .int .i64 c.tt, .int .i64 c.tk, .int .i64 c.sh, va, vb, .bool c.cm] _ C4w Tryz.underlying30 rfl (by kernel_rfl) ?_)
  | (go_at_call 12
     have HA := dbegin_any (HX.out.below HB4.out) hl hX p c (HC.out.below HB4.out) (HC'.out.below HB4.out) F
     rw [← HS.out] at HA
     refine HA.mono ?_
     clear HA
     rintro e w5 ⟨ya, yb, rfl, t1, hb⟩
     have HB5 := Lib.hid (below_on HB4.out hb)
     have KI5 := Lib.hid (KI4.out.on hb)
     have KS5 := Lib.hid (KS4.out.on hb)
     have T5 := Lib.hid (T4.out.below hb)
     have U5 := Lib.hid t1
     have o5 : (Rv.cells ⟨r, ya, yb⟩).all (·.oneCell') = true := rv_one (rds_one t1.rs) (wrs_one t1.ws)
     clear hb t1)
  | (with_reducible refine store_freshA rfl 41 _ _ rfl w5.heap.size rfl 41 _ (Rv.cells ⟨r, ya, yb⟩) rfl rfl rfl (rv_size _) o5 ?_
     intro w6 S6 b6
     have HBE := Lib.hid (below_on HB5.out b6)
     have KIE := Lib.hid (KI5.out.on b6)
     have KSE := Lib.hid (KS5.out.on b6)
     have KTE := Lib.hid S6
     have TE := Lib.hid (T5.out.below b6)
     have UE := Lib.hid (U5.out.below b6)
     clear b6 S6)
  | fail)
  have hbd : Below w6.heap.size w6 w6.drew := (Below.refl _ _).drew
  have HBD := Lib.hid (below_on HBE.out hbd)
  have KID := Lib.hid (KIE.out.on hbd)
  have KSD := Lib.hid (KSE.out.on hbd)
  have KTD := Lib.hid (KTE.out.on hbd)
  have TD := Lib.hid (TE.out.below hbd)
  have UD := Lib.hid (UE.out.below hbd)
  clear hbd
  refine wp_region_held_drew (S := fun w' => w'.rangeAt (w.heap.size + 1) 0 [.int .i64 i1, .int .i64 i2] ∧ w'.rangeAt w3.heap.size 0 (Rv.cells ⟨r, xa, xb⟩) ∧ w'.rangeAt w5.heap.size 0 (Rv.cells ⟨r, ya, yb⟩)) (by kernel_rfl) (by exact ⟨KID.out.cel.whole, KSD.out.cel.whole, KTD.out.cel.whole⟩) (fun hHeld => ?_)
  refine wpAnyH_take (i := 0) (oi := ⟨some 37, .load 41 (.tmp 9), 41, _, _, none⟩) (v := .agg ((Rv.cells ⟨r, xa, xb⟩) : List Value).toArray) rfl (by kernel_rfl) (by kernel_rfl) (by kernel_rfl) (fun _ _ _ h => h) (yieldsIf_load_mid (by rfl) 41 _ rfl w3.heap.size 0 rfl (Rv.cells ⟨r, xa, xb⟩) _ (fun w hSw => hSw.2.1) Tryz.underlying41 rfl (by kernel_rfl)) (by assumption) ?_
  (try simp only [Act.put]); (try simp only [List.setIfInBounds_toArray]); (try simp only [List.set_cons_succ]); (try simp only [List.set_cons_zero])
  refine wpAnyH_take (i := 1) (oi := ⟨some 38, .load 41 (.tmp 11), 41, _, _, none⟩) (v := .agg ((Rv.cells ⟨r, ya, yb⟩) : List Value).toArray) rfl (by kernel_rfl) (by kernel_rfl) (by kernel_rfl) (fun _ _ _ h => h) (yieldsIf_load_mid (by rfl) 41 _ rfl w5.heap.size 0 rfl (Rv.cells ⟨r, ya, yb⟩) _ (fun w hSw => hSw.2.2) Tryz.underlying41 rfl (by kernel_rfl)) (by assumption) ?_
  (try simp only [Act.put]); (try simp only [List.setIfInBounds_toArray]); (try simp only [List.set_cons_succ]); (try simp only [List.set_cons_zero])
  refine wpAnyH_ready (rs := [2]) (by kernel_rfl) (by simp) ?_
  refine AllReadyH.cons (o := ⟨some 39, .call { callee := .value (.func 13), args := #[.tmp 37, .tmp 38], argTypes := #[41, 41] }, 4, _, _, none⟩) rfl (fun K hK => ?_) AllReadyH.nil
  try go_simp
  have HA := dsame_rec r r TD.out.rs TD.out.ws UD.out.rs UD.out.ws HRM.out.l HRM.out.l'
  rw [M.sameRec_self] at HA
  refine HA.mono ?_
  clear HA
  rintro e wa ⟨rfl, hb⟩
  have HBA := Lib.hid (below_on HBD.out hb)
  have KIA := Lib.hid (KID.out.on hb)
  have KSA := Lib.hid (KSD.out.on hb)
  have KTA := Lib.hid (KTD.out.on hb)
  clear hb
  try go_simp
  refine hK.out _ _ (by exact ⟨KIA.out.cel.whole, KSA.out.cel.whole, KTA.out.cel.whole⟩) (fun hHeld => ?_)
  clear hK K
  (try simp only [Act.put]); (try simp only [List.setIfInBounds_toArray]); (try simp only [List.set_cons_succ]); (try simp only [List.set_cons_zero])
  refine wpAnyH_take (i := 3) (oi := ⟨some 40, .move (.tmp 39), 4, _, _, none⟩) (v := ?_) rfl (by kernel_rfl) (by kernel_rfl) (by kernel_rfl) (fun _ _ _ h => h) (Or.inl ⟨by rfl, ?_⟩) (by assumption) ?_
  rotate_left
  · (intro w hSw; (try dsimp only at hSw); go_split_ands; go_simp; (try with_reducible rfl))
  (try simp only [Act.put]); (try simp only [List.setIfInBounds_toArray]); (try simp only [List.set_cons_succ]); (try simp only [List.set_cons_zero])
  refine wpAnyH_take (i := 4) (oi := ⟨some 41, .move (.tmp 10), 42, _, _, some (3, true)⟩) (v := ?_) rfl (by kernel_rfl) (by kernel_rfl) (by kernel_rfl) (fun _ _ _ h => h) (Or.inl ⟨by rfl, ?_⟩) (by assumption) ?_
  rotate_left
  · (intro w hSw; (try dsimp only at hSw); go_split_ands; go_simp; (try with_reducible rfl))
  (try simp only [Act.put]); (try simp only [List.setIfInBounds_toArray]); (try simp only [List.set_cons_succ]); (try simp only [List.set_cons_zero])
  refine wpAnyH_take (i := 5) (oi := ⟨some 42, .move (.tmp 12), 42, _, _, some (3, true)⟩) (v := ?_) rfl (by kernel_rfl) (by kernel_rfl) (by kernel_rfl) (fun _ _ _ h => h) (Or.inl ⟨by rfl, ?_⟩) (by assumption) ?_
  rotate_left
  · (intro w hSw; (try dsimp only at hSw); go_split_ands; go_simp; (try with_reducible rfl))
  (try simp only [Act.put]); (try simp only [List.setIfInBounds_toArray]); (try simp only [List.set_cons_succ]); (try simp only [List.set_cons_zero])
  refine wpAnyH_take (i := 6) (oi := ⟨some 43, .binOp .eql 42 (.tmp 41) (.tmp 42) 42, 4, _, _, some (3, true)⟩) (v := ?_) rfl (by kernel_rfl) (by kernel_rfl) (by kernel_rfl) (fun _ _ _ h => h) (Or.inl ⟨by rfl, ?_⟩) (by assumption) ?_
  rotate_left
  · (intro w hSw; (try dsimp only at hSw); go_split_ands; go_simp; (try with_reducible rfl))
  (try simp only [Act.put]); (try simp only [List.setIfInBounds_toArray]); (try simp only [List.set_cons_succ]); (try simp only [List.set_cons_zero])
  refine wpAnyH_take (i := 7) (oi := ⟨some 44, .pick (.tmp 40) (.tmp 43) (.const (.bool false)), 4, _, _, none⟩) (v := ?_) rfl (by kernel_rfl) (by kernel_rfl) (by kernel_rfl) (fun _ _ _ h => h) (Or.inl ⟨by rfl, ?_⟩) (by assumption) ?_
  rotate_left
  · (intro w hSw; (try dsimp only at hSw); go_split_ands; go_simp; (try with_reducible rfl))
  (try simp only [Act.put]); (try simp only [List.setIfInBounds_toArray]); (try simp only [List.set_cons_succ]); (try simp only [List.set_cons_zero])
  refine wpAnyH_take (i := 8) (oi := ⟨some 45, .move (.tmp 44), 4, _, _, none⟩) (v := ?_) rfl (by kernel_rfl) (by kernel_rfl) (by kernel_rfl) (fun _ _ _ h => h) (Or.inl ⟨by rfl, ?_⟩) (by assumption) ?_
  rotate_left
  · (intro w hSw; (try dsimp only at hSw); go_split_ands; go_simp; (try with_reducible rfl))
  (try simp only [Act.put]); (try simp only [List.setIfInBounds_toArray]); (try simp only [List.set_cons_succ]); (try simp only [List.set_cons_zero])
  refine wpAnyH_take (i := 9) (oi := ⟨some 46, .move (.tmp 0), 22, _, _, some (8, true)⟩) (v := ?_) rfl (by kernel_rfl) (by kernel_rfl) (by kernel_rfl) (fun _ _ _ h => h) (Or.inl ⟨by rfl, ?_⟩) (by assumption) ?_
  rotate_left
  · (intro w hSw; (try dsimp only at hSw); go_split_ands; go_simp; (try with_reducible rfl))
  (try simp only [Act.put]); (try simp only [List.setIfInBounds_toArray]); (try simp only [List.set_cons_succ]); (try simp only [List.set_cons_zero])
  refine wpAnyH_take (i := 10) (oi := ⟨some 47, .load 32 (.tmp 7), 32, _, _, some (8, true)⟩) (v := .agg ([.int .i64 i1, .int .i64 i2] : List Value).toArray) rfl (by kernel_rfl) (by kernel_rfl) (by kernel_rfl) (fun _ _ _ h => h) (yieldsIf_load_mid (by rfl) 32 _ rfl (w.heap.size + 1) 0 rfl [.int .i64 i1, .int .i64 i2] _ (fun w hSw => hSw.1) Tryz.underlying32 rfl (by kernel_rfl)) (by assumption) ?_
  (try simp only [Act.put]); (try simp only [List.setIfInBounds_toArray]); (try simp only [List.set_cons_succ]); (try simp only [List.set_cons_zero])
  refine wpAnyH_take (i := 12) (oi := ⟨some 49, .move (.tmp 0), 22, _, _, some (8, true)⟩) (v := ?_) rfl (by kernel_rfl) (by kernel_rfl) (by kernel_rfl) (fun _ _ _ h => h) (Or.inl ⟨by rfl, ?_⟩) (by assumption) ?_
  rotate_left
  · (intro w hSw; (try dsimp only at hSw); go_split_ands; go_simp; (try with_reducible rfl))
  (try simp only [Act.put]); (try simp only [List.setIfInBounds_toArray]); (try simp only [List.set_cons_succ]); (try simp only [List.set_cons_zero])
  refine wpAnyH_take (i := 13) (oi := ⟨some 50, .load 32 (.tmp 7), 32, _, _, some (8, true)⟩) (v := .agg ([.int .i64 i1, .int .i64 i2] : List Value).toArray) rfl (by kernel_rfl) (by kernel_rfl) (by kernel_rfl) (fun _ _ _ h => h) (yieldsIf_load_mid (by rfl) 32 _ rfl (w.heap.size + 1) 0 rfl [.int .i64 i1, .int .i64 i2] _ (fun w hSw => hSw.1) Tryz.underlying32 rfl (by kernel_rfl)) (by assumption) ?_
  (try simp only [Act.put]); (try simp only [List.setIfInBounds_toArray]); (try simp only [List.set_cons_succ]); (try simp only [List.set_cons_zero])
  refine wpAnyH_ready (rs := [11]) (by kernel_rfl) (by simp) ?_
  refine AllReadyH.cons (o := ⟨some 48, .call { callee := .value (.func 14), args := #[.tmp 46, .tmp 47], argTypes := #[22, 32] }, 41, _, _, some (8, true)⟩) rfl (fun K hK => ?_) AllReadyH.nil
  try go_simp
  have HA := know_any (HX.out.below HBA.out) hl (fun x hx => ⟨(hX x hx).l, (hX x hx).l'⟩) i1 i2
  rw [HK.out] at HA
  refine HA.mono ?_
  clear HA
  rintro e wb ⟨ga, gb, rfl, tk, hb⟩
  have TA := Lib.hid tk
  have HBB := Lib.hid (below_on HBA.out hb)
  have KIB := Lib.hid (KIA.out.on hb)
  have KSB := Lib.hid (KSA.out.on hb)
  have KTB := Lib.hid (KTA.out.on hb)
  clear hb tk
  try go_simp
  refine hK.out _ _ (by exact ⟨KIB.out.cel.whole, KSB.out.cel.whole, KTB.out.cel.whole⟩) (fun hHeld => ?_)
  clear hK K
  (try simp only [Act.put]); (try simp only [List.setIfInBounds_toArray]); (try simp only [List.set_cons_succ]); (try simp only [List.set_cons_zero])
  refine wpAnyH_ready (rs := [14]) (by kernel_rfl) (by simp) ?_
  refine AllReadyH.cons (o := ⟨some 51, .call { callee := .value (.func 15), args := #[.tmp 49, .tmp 50], argTypes := #[22, 32] }, 41, _, _, some (8, true)⟩) rfl (fun K hK => ?_) AllReadyH.nil
  try go_simp
  have HA := dknow_any (HX.out.below HBB.out) hl i1 i2
  rw [HK.out] at HA
  refine HA.mono ?_
  clear HA
  rintro e wc ⟨ha, hb', rfl, tk, hb⟩
  have TB := Lib.hid tk
  have TA2 := Lib.hid (TA.out.below hb)
  have HBC := Lib.hid (below_on HBB.out hb)
  have KIC := Lib.hid (KIB.out.on hb)
  have KSC := Lib.hid (KSB.out.on hb)
  have KTC := Lib.hid (KTB.out.on hb)
  clear hb tk
  try go_simp
  refine hK.out _ _ (by exact ⟨KIC.out.cel.whole, KSC.out.cel.whole, KTC.out.cel.whole⟩) (fun hHeld => ?_)
  clear hK K
  (try simp only [Act.put]); (try simp only [List.setIfInBounds_toArray]); (try simp only [List.set_cons_succ]); (try simp only [List.set_cons_zero])
  refine wpAnyH_ready (rs := [15]) (by kernel_rfl) (by simp) ?_
  refine AllReadyH.cons (o := ⟨some 52, .call { callee := .value (.func 13), args := #[.tmp 48, .tmp 51], argTypes := #[41, 41] }, 4, _, _, some (8, true)⟩) rfl (fun K hK => ?_) AllReadyH.nil
  try go_simp
  have HA := dsame_rec k k TA2.out.rs TA2.out.ws TB.out.rs TB.out.ws HKM.out.l HKM.out.l'
  rw [M.sameRec_self] at HA
  refine HA.mono ?_
  clear HA
  rintro e wd ⟨rfl, hb⟩
  have HBG := Lib.hid (below_on HBC.out hb)
  have KIG := Lib.hid (KIC.out.on hb)
  have KSG := Lib.hid (KSC.out.on hb)
  have KTG := Lib.hid (KTC.out.on hb)
  clear hb
  try go_simp
  refine hK.out _ _ (by exact ⟨KIG.out.cel.whole, KSG.out.cel.whole, KTG.out.cel.whole⟩) (fun hHeld => ?_)
  clear hK K
  (try simp only [Act.put]); (try simp only [List.setIfInBounds_toArray]); (try simp only [List.set_cons_succ]); (try simp only [List.set_cons_zero])
  refine wpAnyH_take (i := 16) (oi := ⟨some 53, .pick (.tmp 45) (.tmp 52) (.const (.bool false)), 4, _, _, none⟩) (v := ?_) rfl (by kernel_rfl) (by kernel_rfl) (by kernel_rfl) (fun _ _ _ h => h) (Or.inl ⟨by rfl, ?_⟩) (by assumption) ?_
  rotate_left
  · (intro w hSw; (try dsimp only at hSw); go_split_ands; go_simp; (try with_reducible rfl))
  (try simp only [Act.put]); (try simp only [List.setIfInBounds_toArray]); (try simp only [List.set_cons_succ]); (try simp only [List.set_cons_zero])
  refine wpAnyH_take (i := 17) (oi := ⟨some 54, .move (.tmp 53), 4, _, _, none⟩) (v := ?_) rfl (by kernel_rfl) (by kernel_rfl) (by kernel_rfl) (fun _ _ _ h => h) (Or.inl ⟨by rfl, ?_⟩) (by assumption) ?_
  rotate_left
  · (intro w hSw; (try dsimp only at hSw); go_split_ands; go_simp; (try with_reducible rfl))
  (try simp only [Act.put]); (try simp only [List.setIfInBounds_toArray]); (try simp only [List.set_cons_succ]); (try simp only [List.set_cons_zero])
  refine wpAnyH_ready (rs := [18]) (by kernel_rfl) (by simp) ?_
  refine AllReadyH.cons (o := ⟨some 55, .call { callee := .value (.func 10), args := #[], argTypes := #[] }, 4, _, _, some (17, true)⟩) rfl (fun K hK => ?_) AllReadyH.nil
  try go_simp
  refine (awake_any _).mono ?_
  rintro e we ⟨rfl, hb⟩
  have HBJ := Lib.hid (below_on HBG.out hb)
  have KIJ := Lib.hid (KIG.out.on hb)
  have KSJ := Lib.hid (KSG.out.on hb)
  have KTJ := Lib.hid (KTG.out.on hb)
  clear hb
  try go_simp
  refine hK.out _ _ (by exact ⟨KIJ.out.cel.whole, KSJ.out.cel.whole, KTJ.out.cel.whole⟩) (fun hHeld => ?_)
  clear hK K
  (try simp only [Act.put]); (try simp only [List.setIfInBounds_toArray]); (try simp only [List.set_cons_succ]); (try simp only [List.set_cons_zero])
  refine wpAnyH_take (i := 19) (oi := ⟨some 56, .pick (.tmp 54) (.tmp 55) (.const (.bool false)), 4, _, _, none⟩) (v := ?_) rfl (by kernel_rfl) (by kernel_rfl) (by kernel_rfl) (fun _ _ _ h => h) (Or.inl ⟨by rfl, ?_⟩) (by assumption) ?_
  rotate_left
  · (intro w hSw; (try dsimp only at hSw); go_split_ands; go_simp; (try with_reducible rfl))
  (try simp only [Act.put]); (try simp only [List.setIfInBounds_toArray]); (try simp only [List.set_cons_succ]); (try simp only [List.set_cons_zero])
  refine wpAnyH_take (i := 20) (oi := ⟨some 8, .assign (.tmp 56), 4, _, _, none⟩) (v := ?_) rfl (by kernel_rfl) (by kernel_rfl) (by kernel_rfl) (fun _ _ _ h => h) (Or.inl ⟨by rfl, ?_⟩) (by assumption) ?_
  rotate_left
  · (intro w hSw; (try dsimp only at hSw); go_split_ands; go_simp; (try with_reducible rfl))
  (try simp only [Act.put]); (try simp only [List.setIfInBounds_toArray]); (try simp only [List.set_cons_succ]); (try simp only [List.set_cons_zero])
  refine wpAnyH_done (by kernel_rfl) ?_ _
  clear hHeld
  go_wp2
  go_ret
  exact ⟨rfl, HBJ.out⟩
end Go.Proofs.YtpknkhgkejkpkaaGreat
