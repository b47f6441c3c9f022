/- Contract of Begin; no conditions but those that it names. -/
import Derived.Test.YtpknkhgkejkpkaaGreatFre
import Derived.Test.YtpknkhgkejkpkaaGreatPc
import Derived.Test.YtpknkhgkejkpkaaGreatAtt
namespace Go.Proofs.YtpknkhgkejkpkaaGreat
open Go.ChangeShapes Go.WideShapes Go.ChangeAt Go.RowKit

theorem rv_ns {x : Rv} (h1 : notStr x.va = true) (h2 : notStr x.vb = true) : x.cells.all notStr = true := by
  simp only [Rv.cells, List.all_cons, List.all_nil, h1, h2]; rfl
/-- A record that is told, and an error. -/
def Begun (s : M.Rec × Int) (w : World) (e : Ending) (w' : World) : Prop := ∃ va vb, e = .returned (.tuple #[.agg (Rv.cells ⟨s.1, va, vb⟩).toArray, .int .i64 s.2]) ∧ Txt w' ⟨s.1, va, vb⟩ ∧ Below w.heap.size w w'
set_option maxHeartbeats 16000000 in
set_option maxRecDepth 100000 in
theorem begin_any {w : World} {v : Value} {X : List Rv} (h : Rows w v X) (hl : X.length ≤ 1000) (hX : ∀ x ∈ X, M.Mod x.r.c) (p : Int) (c : M.Cmd) {va vb : Value} (hc : Rds w va c.rs) (hc' : Wrs w vb c.ws) (F : M.Mod c) :
    Calls Tryz.prog 11 #[v, .int .i64 p, .agg #[.int .i64 c.k, .int .i64 c.tc, .int .i64 c.tn, .int .i64 c.tt, .int .i64 c.tk, .int .i64 c.sh, va, vb, .bool c.cm]] w (Begun (begX X p c) w) := by
  obtain ⟨A, cc, rfl⟩ := rowN_sliceOf h.row
  have O3 : va.oneCell' = true := rds_one hc
  have O4 : vb.oneCell' = true := wrs_one hc'
  have H0 := Lib.hid (show Hold ((w.alloc (.cells #[.int .i64 c.k, .int .i64 c.tc, .int .i64 c.tn, .int .i64 c.tt, .int .i64 c.tk, .int .i64 c.sh, va, vb, .bool c.cm] 30)).alloc (.cells #[.int .i64 0, .int .i64 0, .int .i64 0, .int .i64 0, .int .i64 0, .int .i64 0, .int .i64 0, .int .i64 0, .int .i64 0, .int .i64 0, .int .i64 0, .int .i64 0, .int .i64 0, .slice none 0 0, .slice none 0 0, .bool false, .int .i64 0, .int .i64 0, .int .i64 0, .int .i64 0, .int .i64 0, .int .i64 0, .int .i64 0, .int .i64 0, .bool false] 41)) w.heap.size 30 [.int .i64 c.k, .int .i64 c.tc, .int .i64 c.tn, .int .i64 c.tt, .int .i64 c.tk, .int .i64 c.sh, va, vb, .bool c.cm] from (Hold.new w [.int .i64 c.k, .int .i64 c.tc, .int .i64 c.tn, .int .i64 c.tt, .int .i64 c.tk, .int .i64 c.sh, va, vb, .bool c.cm] 30).on (below_new (o := .cells #[.int .i64 0, .int .i64 0, .int .i64 0, .int .i64 0, .int .i64 0, .int .i64 0, .int .i64 0, .int .i64 0, .int .i64 0, .int .i64 0, .int .i64 0, .int .i64 0, .int .i64 0, .slice none 0 0, .slice none 0 0, .bool false, .int .i64 0, .int .i64 0, .int .i64 0, .int .i64 0, .int .i64 0, .int .i64 0, .int .i64 0, .int .i64 0, .bool false] 41) (Below.refl _ _)))
  have H1 := Lib.hid (show Hold ((w.alloc (.cells #[.int .i64 c.k, .int .i64 c.tc, .int .i64 c.tn, .int .i64 c.tt, .int .i64 c.tk, .int .i64 c.sh, va, vb, .bool c.cm] 30)).alloc (.cells #[.int .i64 0, .int .i64 0, .int .i64 0, .int .i64 0, .int .i64 0, .int .i64 0, .int .i64 0, .int .i64 0, .int .i64 0, .int .i64 0, .int .i64 0, .int .i64 0, .int .i64 0, .slice none 0 0, .slice none 0 0, .bool false, .int .i64 0, .int .i64 0, .int .i64 0, .int .i64 0, .int .i64 0, .int .i64 0, .int .i64 0, .int .i64 0, .bool false] 41)) (w.heap.size + 1) 41 [.int .i64 0, .int .i64 0, .int .i64 0, .int .i64 0, .int .i64 0, .int .i64 0, .int .i64 0, .int .i64 0, .int .i64 0, .int .i64 0, .int .i64 0, .int .i64 0, .int .i64 0, .slice none 0 0, .slice none 0 0, .bool false, .int .i64 0, .int .i64 0, .int .i64 0, .int .i64 0, .int .i64 0, .int .i64 0, .int .i64 0, .int .i64 0, .bool false] from by
    have := Hold.new (w.alloc (.cells #[.int .i64 c.k, .int .i64 c.tc, .int .i64 c.tn, .int .i64 c.tt, .int .i64 c.tk, .int .i64 c.sh, va, vb, .bool c.cm] 30)) [.int .i64 0, .int .i64 0, .int .i64 0, .int .i64 0, .int .i64 0, .int .i64 0, .int .i64 0, .int .i64 0, .int .i64 0, .int .i64 0, .int .i64 0, .int .i64 0, .int .i64 0, .slice none 0 0, .slice none 0 0, .bool false, .int .i64 0, .int .i64 0, .int .i64 0, .int .i64 0, .int .i64 0, .int .i64 0, .int .i64 0, .int .i64 0, .bool false] 41
    rwa [show (w.alloc (.cells #[.int .i64 c.k, .int .i64 c.tc, .int .i64 c.tn, .int .i64 c.tt, .int .i64 c.tk, .int .i64 c.sh, va, vb, .bool c.cm] 30)).heap.size = w.heap.size + 1 by simp] at this)
  have HB := Lib.hid (show Below w.heap.size w ((w.alloc (.cells #[.int .i64 c.k, .int .i64 c.tc, .int .i64 c.tn, .int .i64 c.tt, .int .i64 c.tk, .int .i64 c.sh, va, vb, .bool c.cm] 30)).alloc (.cells #[.int .i64 0, .int .i64 0, .int .i64 0, .int .i64 0, .int .i64 0, .int .i64 0, .int .i64 0, .int .i64 0, .int .i64 0, .int .i64 0, .int .i64 0, .int .i64 0, .int .i64 0, .slice none 0 0, .slice none 0 0, .bool false, .int .i64 0, .int .i64 0, .int .i64 0, .int .i64 0, .int .i64 0, .int .i64 0, .int .i64 0, .int .i64 0, .bool false] 41)) from below_new (below_new (Below.refl _ _)))
  have HQ := Lib.hid (right_cmd c (hc.below HB.out) (hc'.below HB.out) F.l F.l')
  have HC := Lib.hid hc
  have HC' := Lib.hid hc'
  have HX := Lib.hid h
  have O5 : (Rv.cells ⟨M.zrec, NS, NS⟩).all (·.oneCell') = true := rv_one rfl rfl
  clear hc hc' h
  by_cases h1 : p < 0
  · have d1 : decide (p < 0) = true := decide_eq_true h1
    have HE := Lib.hid (show begX X p c = (M.zrec, 1) by unfold begX; rw [if_pos (.inl h1)])
    rw [HE.out]
    clear h1
    go_enter Tryz.func11, Tryz.ntmps11
    go_wp2_with (first
    | (with_reducible refine wpList_buildTo rfl 41 _ rfl _ rfl (Rv.cells ⟨M.zrec, NS, NS⟩).toArray (by kernel_rfl) ?_)
    | (with_reducible refine store_hold rfl 41 _ _ rfl (w.heap.size + 1) 0 rfl 41 (Rv.cells ⟨M.zrec, NS, NS⟩) [.int .i64 0, .int .i64 0, .int .i64 0, .int .i64 0, .int .i64 0, .int .i64 0, .int .i64 0, .int .i64 0, .int .i64 0, .int .i64 0, .int .i64 0, .int .i64 0, .int .i64 0, .slice none 0 0, .slice none 0 0, .bool false, .int .i64 0, .int .i64 0, .int .i64 0, .int .i64 0, .int .i64 0, .int .i64 0, .int .i64 0, .int .i64 0, .bool false] (Rv.cells ⟨M.zrec, NS, NS⟩) rfl H1.out (by kernel_rfl) (of_decide_eq_true (by kernel_rfl)) (by kernel_rfl) O5 ?_; intro w6 H6 K6; have HB6 := Lib.hid (K6.below w.heap.size w (by omega) HB.out))
    | fail)
    refine bodyPost_ret (results_cv rfl rfl rfl H6.cel.whole _ Tryz.underlying41 rfl (rv_size _)) rfl ?_
    exact ⟨NS, NS, rfl, txt_none _, HB6.out⟩
  have d1 : decide (p < 0) = false := decide_eq_false h1
  by_cases h2 : 7 ≤ p
  · have d2 : decide (7 ≤ p) = true := decide_eq_true h2
    have HE := Lib.hid (show begX X p c = (M.zrec, 1) by unfold begX; rw [if_pos (.inr (.inl h2))])
    rw [HE.out]
    clear h1 h2
    go_enter Tryz.func11, Tryz.ntmps11
    go_wp2_with (first
    | (with_reducible refine wpList_buildTo rfl 41 _ rfl _ rfl (Rv.cells ⟨M.zrec, NS, NS⟩).toArray (by kernel_rfl) ?_)
    | (with_reducible refine store_hold rfl 41 _ _ rfl (w.heap.size + 1) 0 rfl 41 (Rv.cells ⟨M.zrec, NS, NS⟩) [.int .i64 0, .int .i64 0, .int .i64 0, .int .i64 0, .int .i64 0, .int .i64 0, .int .i64 0, .int .i64 0, .int .i64 0, .int .i64 0, .int .i64 0, .int .i64 0, .int .i64 0, .slice none 0 0, .slice none 0 0, .bool false, .int .i64 0, .int .i64 0, .int .i64 0, .int .i64 0, .int .i64 0, .int .i64 0, .int .i64 0, .int .i64 0, .bool false] (Rv.cells ⟨M.zrec, NS, NS⟩) rfl H1.out (by kernel_rfl) (of_decide_eq_true (by kernel_rfl)) (by kernel_rfl) O5 ?_; intro w6 H6 K6; have HB6 := Lib.hid (K6.below w.heap.size w (by omega) HB.out))
    | fail)
    refine bodyPost_ret (results_cv rfl rfl rfl H6.cel.whole _ Tryz.underlying41 rfl (rv_size _)) rfl ?_
    exact ⟨NS, NS, rfl, txt_none _, HB6.out⟩
  have d2 : decide (7 ≤ p) = false := decide_eq_false h2
  rcases h3 : M.rightC c with _ | _
  · rw [h3] at HQ
    have HE := Lib.hid (show begX X p c = (M.zrec, 1) by unfold begX; rw [if_pos (.inr (.inr h3))])
    rw [HE.out]
    clear h1 h2
    go_enter Tryz.func11, Tryz.ntmps11
    go_wp2_with (first
    | (with_reducible refine wpList_load_mid_g ?_ 30 _ rfl w.heap.size 0 rfl [.int .i64 c.k, .int .i64 c.tc, .int .i64 c.tn, .int .i64 c.tt, .int .i64 c.tk, .int .i64 c.sh, va, vb, .bool c.cm] _ H0.out.cel.whole Tryz.underlying30 rfl (by kernel_rfl) ?_; kernel_rfl)
    | (go_at_call 26
       refine HQ.out.mono ?_
       rintro e w1 ⟨rfl, hb⟩
       have HB1 := Lib.hid (below_on HB.out hb)
       have Z1 := H1.out.on hb
       clear hb)
    | (with_reducible refine wpList_buildTo rfl 41 _ rfl _ rfl (Rv.cells ⟨M.zrec, NS, NS⟩).toArray (by kernel_rfl) ?_)
    | (with_reducible refine store_hold rfl 41 _ _ rfl (w.heap.size + 1) 0 rfl 41 (Rv.cells ⟨M.zrec, NS, NS⟩) [.int .i64 0, .int .i64 0, .int .i64 0, .int .i64 0, .int .i64 0, .int .i64 0, .int .i64 0, .int .i64 0, .int .i64 0, .int .i64 0, .int .i64 0, .int .i64 0, .int .i64 0, .slice none 0 0, .slice none 0 0, .bool false, .int .i64 0, .int .i64 0, .int .i64 0, .int .i64 0, .int .i64 0, .int .i64 0, .int .i64 0, .int .i64 0, .bool false] (Rv.cells ⟨M.zrec, NS, NS⟩) rfl Z1 (by kernel_rfl) (of_decide_eq_true (by kernel_rfl)) (by kernel_rfl) O5 ?_; intro w6 H6 K6; have HB6 := Lib.hid (K6.below w.heap.size w (by omega) HB1.out))
    | fail)
    refine bodyPost_ret (results_cv rfl rfl rfl H6.cel.whole _ Tryz.underlying41 rfl (rv_size _)) rfl ?_
    exact ⟨NS, NS, rfl, txt_none _, HB6.out⟩
  rw [h3] at HQ
  have hn3 : ¬ (p < 0 ∨ 7 ≤ p ∨ M.rightC c = false) := fun h => by
    rcases h with h | h | h
    · exact h1 h
    · exact h2 h
    · rw [h3] at h; cases h
  clear h1 h2 h3
  go_enter Tryz.func11, Tryz.ntmps11
  go_wp2_with (first
  | (with_reducible refine wpList_load_mid_g ?_ 30 _ rfl w.heap.size 0 rfl [.int .i64 c.k, .int .i64 c.tc, .int .i64 c.tn, .int .i64 c.tt, .int .i64 c.tk, .int .i64 c.sh, va, vb, .bool c.cm] _ H0.out.cel.whole Tryz.underlying30 rfl (by kernel_rfl) ?_; kernel_rfl)
  | (go_at_call 26
     refine HQ.out.mono ?_
     rintro e w1 ⟨rfl, hb⟩
     have HB1 := Lib.hid (below_on HB.out hb)
     have Z1 := Lib.hid (H1.out.on hb)
     have C1 := Lib.hid (H0.out.on hb)
     clear hb)
  | fail)
  refine (slot_any p (HX.out.below HB1.out) hl).mono ?_
  rintro e w2 ⟨rfl, hb⟩
  have HB2 := Lib.hid (below_on HB1.out hb)
  have Z2 := Lib.hid (Z1.out.on hb)
  have C2 := Lib.hid (C1.out.on hb)
  have hz2 := Lib.hid (show w.heap.size + 1 + 1 ≤ w2.heap.size by have := hold_lt Z2.out; omega)
  clear hb HQ H0 H1 Z1 C1 HB1
  obtain ⟨sl, hsl⟩ : ∃ sl, sl = nextSlot p (rcs X) := ⟨_, rfl⟩
  rw [← hsl]
  have HSL := Lib.hid hsl
  clear hsl
  by_cases h4 : 1048576 < sl
  · have d4 : decide (1048576 < sl) = true := decide_eq_true h4
    have HE := Lib.hid (show begX X p c = (M.zrec, 2) by unfold begX; rw [if_neg hn3, if_pos (by rw [← HSL.out]; exact h4)])
    clear h4 hn3
    go_wp2_with (first
    | (with_reducible refine wpList_store_fresh rfl 32 _ _ rfl w2.heap.size rfl 32 _ [.int .i64 p, .int .i64 sl] rfl rfl rfl (by kernel_rfl) rfl ?_)
    | (with_reducible refine wpList_buildTo rfl 41 _ rfl _ rfl (Rv.cells ⟨M.zrec, NS, NS⟩).toArray (by kernel_rfl) ?_
       have Z3 := Z2.out.on (below_new (o := .cells #[.int .i64 p, .int .i64 sl] 32) (Below.refl _ _))
       have HB3 := Lib.hid (below_new (o := .cells #[.int .i64 p, .int .i64 sl] 32) HB2.out))
    | (with_reducible refine store_hold rfl 41 _ _ rfl (w.heap.size + 1) 0 rfl 41 (Rv.cells ⟨M.zrec, NS, NS⟩) [.int .i64 0, .int .i64 0, .int .i64 0, .int .i64 0, .int .i64 0, .int .i64 0, .int .i64 0, .int .i64 0, .int .i64 0, .int .i64 0, .int .i64 0, .int .i64 0, .int .i64 0, .slice none 0 0, .slice none 0 0, .bool false, .int .i64 0, .int .i64 0, .int .i64 0, .int .i64 0, .int .i64 0, .int .i64 0, .int .i64 0, .int .i64 0, .bool false] (Rv.cells ⟨M.zrec, NS, NS⟩) rfl Z3 (by kernel_rfl) (of_decide_eq_true (by kernel_rfl)) (by kernel_rfl) O5 ?_; intro w6 H6 K6; have HB6 := Lib.hid (K6.below w.heap.size w (by omega) HB3.out))
    | fail)
    refine bodyPost_ret (results_cv rfl rfl rfl H6.cel.whole _ Tryz.underlying41 rfl (rv_size _)) rfl ?_
    rw [HE.out]
    exact ⟨NS, NS, rfl, txt_none _, HB6.out⟩
  have d4 : decide (1048576 < sl) = false := decide_eq_false h4
  obtain ⟨n, hn⟩ : ∃ n, n = atS X (p, sl) c 1 := ⟨_, rfl⟩
  obtain ⟨d, hd⟩ : ∃ d, d = atD X (p, sl) c (fun _ => 0) := ⟨_, rfl⟩
  obtain ⟨r0, hr0⟩ : ∃ r0, r0 = (M.Rec.mk p sl 1 0 0 0 0 c 0 0 0 0 0 0 0 0 true) := ⟨_, rfl⟩
  have HE := Lib.hid (show begX X p c = ((M.withA r0 n d r0.kp), 0) by unfold begX begR; rw [if_neg hn3, if_neg (by rw [← HSL.out]; exact h4), ← HSL.out, hn, hd, hr0])
  have HN := Lib.hid hn
  have HD := Lib.hid hd
  have HR0 := Lib.hid hr0
  clear h4 hn3 hn hd hr0
  go_wp2_with (first
  | (with_reducible refine store_freshA rfl 32 _ _ rfl w2.heap.size rfl 32 _ [.int .i64 p, .int .i64 sl] rfl rfl rfl (by kernel_rfl) rfl ?_
     intro w3 I3 b3
     have Z3 := Lib.hid (Z2.out.on b3)
     have C3 := Lib.hid (C2.out.on b3)
     have HB3 := Lib.hid (below_on HB2.out b3)
     have HI3 := Lib.hid I3
     have e1 : w3.cell? ⟨w2.heap.size, 1, none⟩ = some (.int .i64 sl) := hold_cell I3 1 rfl
     clear b3 I3)
  | fail)
  have hiI : (Tryz.prog.info? 32).map (·.size) = some ([.int .i64 p, .int .i64 sl] : List Value).length := by kernel_rfl
  have hiC : (Tryz.prog.info? 30).map (·.size) = some ([.int .i64 c.k, .int .i64 c.tc, .int .i64 c.tn, .int .i64 c.tt, .int .i64 c.tk, .int .i64 c.sh, va, vb, .bool c.cm] : List Value).length := by kernel_rfl
  have hbd : Below w3.heap.size w3 w3.drew := (Below.refl _ _).drew
  have ID := Lib.hid (HI3.out.on hbd)
  have CD := Lib.hid (C3.out.on hbd)
  have ZD := Lib.hid (Z3.out.on hbd)
  have HBD := Lib.hid (below_on HB3.out hbd)
  clear hbd e1
  refine wp_region_held_drew (S := fun w' => w'.rangeAt w2.heap.size 0 [.int .i64 p, .int .i64 sl] ∧ w'.rangeAt w.heap.size 0 [.int .i64 c.k, .int .i64 c.tc, .int .i64 c.tn, .int .i64 c.tt, .int .i64 c.tk, .int .i64 c.sh, va, vb, .bool c.cm]) (by kernel_rfl) (by exact ⟨ID.out.cel.whole, CD.out.cel.whole⟩) (fun hHeld => ?_)
  refine wpAnyH_take (i := 0) (oi := ⟨some 31, .load 32 (.tmp 8), 32, _, _, none⟩) (v := .agg ([.int .i64 p, .int .i64 sl] : List Value).toArray) rfl (by kernel_rfl) (by kernel_rfl) (by kernel_rfl) (fun _ _ _ h => h) (yieldsIf_load_mid (by rfl) 32 _ rfl w2.heap.size 0 rfl [.int .i64 p, .int .i64 sl] _ (fun w hSw => hSw.1) Tryz.underlying32 rfl hiI) (by assumption) ?_
  (try simp only [Act.put]); (try simp only [List.setIfInBounds_toArray]); (try simp only [List.set_cons_succ]); (try simp only [List.set_cons_zero])
  refine wpAnyH_take (i := 1) (oi := ⟨some 32, .load 30 (.tmp 5), 30, _, _, none⟩) (v := .agg ([.int .i64 c.k, .int .i64 c.tc, .int .i64 c.tn, .int .i64 c.tt, .int .i64 c.tk, .int .i64 c.sh, va, vb, .bool c.cm] : List Value).toArray) rfl (by kernel_rfl) (by kernel_rfl) (by kernel_rfl) (fun _ _ _ h => h) (yieldsIf_load_mid (by rfl) 30 _ rfl w.heap.size 0 rfl [.int .i64 c.k, .int .i64 c.tc, .int .i64 c.tn, .int .i64 c.tt, .int .i64 c.tk, .int .i64 c.sh, va, vb, .bool c.cm] _ (fun w hSw => hSw.2) Tryz.underlying30 rfl hiC) (by assumption) ?_
  (try simp only [Act.put]); (try simp only [List.setIfInBounds_toArray]); (try simp only [List.set_cons_succ]); (try simp only [List.set_cons_zero])
  refine wpAnyH_ready (rs := [2, 4]) (by kernel_rfl) (by simp) ?_
  refine AllReadyH.cons (o := ⟨some 33, .call { callee := .value (.func 28), args := #[.tmp 32], argTypes := #[30] }, 30, _, _, none⟩) rfl (fun K hK => ?_) (AllReadyH.cons (o := ⟨some 9, .alloc 41, 0, _, _, none⟩) rfl (fun K hK => ?_) AllReadyH.nil)
  · skip
    try go_simp
    refine (clone_any c (HC.out.below HBD.out) (HC'.out.below HBD.out) F.l F.l').mono ?_
    rintro e w5 ⟨ua, ub, rfl, ho, ho', hb⟩
    have U1 : ua.oneCell' = true := by obtain ⟨_, _, e⟩ := ownsRow_slice ho; rw [e]; rfl
    have U2 : ub.oneCell' = true := by obtain ⟨_, _, e⟩ := ownsRow_slice ho'; rw [e]; rfl
    have OR : ([.int .i64 r0.ir, .int .i64 r0.is, .int .i64 r0.st, .int .i64 r0.pn, .int .i64 r0.pr, .int .i64 r0.bn, .int .i64 r0.br, .int .i64 r0.c.k, .int .i64 r0.c.tc, .int .i64 r0.c.tn, .int .i64 r0.c.tt, .int .i64 r0.c.tk, .int .i64 r0.c.sh, ua, ub, .bool r0.c.cm, .int .i64 r0.sq, .int .i64 r0.d0, .int .i64 r0.d1, .int .i64 r0.d2, .int .i64 r0.d3, .int .i64 r0.d4, .int .i64 r0.d5, .int .i64 r0.d6, .bool r0.kp] : List Value).all (·.oneCell') = true := rv_one (x := ⟨r0, ua, ub⟩) U1 U2
    have N1 : notStr ua = true := by obtain ⟨_, _, e⟩ := ownsRow_slice ho; rw [e]; rfl
    have N2 : notStr ub = true := by obtain ⟨_, _, e⟩ := ownsRow_slice ho'; rw [e]; rfl
    have IA := Lib.hid (ID.out.on hb)
    have CA := Lib.hid (CD.out.on hb)
    have ZA := Lib.hid (ZD.out.on hb)
    have HBA := Lib.hid (below_on HBD.out hb)
    have OA := Lib.hid ho
    have OB := Lib.hid ho'
    have hlt5 := Lib.hid (show w2.heap.size < w5.heap.size from hold_lt IA.out)
    have hltd := Lib.hid (show w3.drew.heap.size ≤ w5.heap.size from hb.size)
    clear ho ho' hb
    try go_simp
    refine hK.out _ _ (by exact ⟨IA.out.cel.whole, CA.out.cel.whole⟩) (fun hHeld => ?_)
    clear hK K
    (try simp only [Act.put]); (try simp only [List.setIfInBounds_toArray]); (try simp only [List.set_cons_succ]); (try simp only [List.set_cons_zero])
    refine wpAnyH_take (i := 3) (oi := ⟨some 34, .build 41 #[(0, .tmp 31), (1, .const (.int .i64 1)), (4, .tmp 33), (7, .const (.bool true))], 41, _, _, none⟩) (v := .agg ([.int .i64 r0.ir, .int .i64 r0.is, .int .i64 r0.st, .int .i64 r0.pn, .int .i64 r0.pr, .int .i64 r0.bn, .int .i64 r0.br, .int .i64 r0.c.k, .int .i64 r0.c.tc, .int .i64 r0.c.tn, .int .i64 r0.c.tt, .int .i64 r0.c.tk, .int .i64 r0.c.sh, ua, ub, .bool r0.c.cm, .int .i64 r0.sq, .int .i64 r0.d0, .int .i64 r0.d1, .int .i64 r0.d2, .int .i64 r0.d3, .int .i64 r0.d4, .int .i64 r0.d5, .int .i64 r0.d6, .bool r0.kp] : List Value).toArray) rfl (by kernel_rfl) (by kernel_rfl) (by kernel_rfl) (fun _ _ _ h => h) (yieldsIf_build (by rfl) 41 _ rfl #[.int .i64 r0.ir, .int .i64 r0.is, .int .i64 r0.st, .int .i64 r0.pn, .int .i64 r0.pr, .int .i64 r0.bn, .int .i64 r0.br, .int .i64 r0.c.k, .int .i64 r0.c.tc, .int .i64 r0.c.tn, .int .i64 r0.c.tt, .int .i64 r0.c.tk, .int .i64 r0.c.sh, ua, ub, .bool r0.c.cm, .int .i64 r0.sq, .int .i64 r0.d0, .int .i64 r0.d1, .int .i64 r0.d2, .int .i64 r0.d3, .int .i64 r0.d4, .int .i64 r0.d5, .int .i64 r0.d6, .bool r0.kp] (by rw [HR0.out]; kernel_rfl)) (by assumption) ?_
    (try simp only [Act.put]); (try simp only [List.setIfInBounds_toArray]); (try simp only [List.set_cons_succ]); (try simp only [List.set_cons_zero])
    refine wpAnyH_ready (rs := [4]) (by kernel_rfl) (by simp) ?_
    refine AllReadyH.cons (o := ⟨some 9, .alloc 41, 0, _, _, none⟩) rfl (fun K hK => ?_) AllReadyH.nil
    try go_simp
    have b6 := below_new (o := .cells #[.int .i64 0, .int .i64 0, .int .i64 0, .int .i64 0, .int .i64 0, .int .i64 0, .int .i64 0, .int .i64 0, .int .i64 0, .int .i64 0, .int .i64 0, .int .i64 0, .int .i64 0, .slice none 0 0, .slice none 0 0, .bool false, .int .i64 0, .int .i64 0, .int .i64 0, .int .i64 0, .int .i64 0, .int .i64 0, .int .i64 0, .int .i64 0, .bool false] 41) (Below.refl w5.heap.size w5)
    have IA6 := Lib.hid (IA.out.on b6)
    have CA6 := Lib.hid (CA.out.on b6)
    have ZA6 := Lib.hid (ZA.out.on b6)
    have HB6 := Lib.hid (below_on HBA.out b6)
    have G6 := Lib.hid (Hold.new w5 [.int .i64 0, .int .i64 0, .int .i64 0, .int .i64 0, .int .i64 0, .int .i64 0, .int .i64 0, .int .i64 0, .int .i64 0, .int .i64 0, .int .i64 0, .int .i64 0, .int .i64 0, .slice none 0 0, .slice none 0 0, .bool false, .int .i64 0, .int .i64 0, .int .i64 0, .int .i64 0, .int .i64 0, .int .i64 0, .int .i64 0, .int .i64 0, .bool false] 41)
    have TX6 := Lib.hid (show Txt (w5.alloc (.cells #[.int .i64 0, .int .i64 0, .int .i64 0, .int .i64 0, .int .i64 0, .int .i64 0, .int .i64 0, .int .i64 0, .int .i64 0, .int .i64 0, .int .i64 0, .int .i64 0, .int .i64 0, .slice none 0 0, .slice none 0 0, .bool false, .int .i64 0, .int .i64 0, .int .i64 0, .int .i64 0, .int .i64 0, .int .i64 0, .int .i64 0, .int .i64 0, .bool false] 41)) ⟨r0, ua, ub⟩ from (show Txt w5 ⟨r0, ua, ub⟩ from by rw [HR0.out]; exact ⟨RowN.of_owns OA.out, RowN.of_owns OB.out⟩).below b6)
    have hgb := Lib.hid (show w2.heap.size < w5.heap.size from hlt5.out)
    clear b6
    refine hK.out _ _ (by exact ⟨IA6.out.cel.whole, CA6.out.cel.whole⟩) (fun hHeld => ?_)
    clear hK K IA CA ZA HBA OA OB
    (try simp only [Act.put]); (try simp only [List.setIfInBounds_toArray]); (try simp only [List.set_cons_succ]); (try simp only [List.set_cons_zero])
    obtain ⟨gb, hg⟩ : ∃ gb, gb = w5.heap.size := ⟨_, rfl⟩
    obtain ⟨w6, hw6⟩ : ∃ w6, w6 = w5.alloc (.cells #[.int .i64 0, .int .i64 0, .int .i64 0, .int .i64 0, .int .i64 0, .int .i64 0, .int .i64 0, .int .i64 0, .int .i64 0, .int .i64 0, .int .i64 0, .int .i64 0, .int .i64 0, .slice none 0 0, .slice none 0 0, .bool false, .int .i64 0, .int .i64 0, .int .i64 0, .int .i64 0, .int .i64 0, .int .i64 0, .int .i64 0, .int .i64 0, .bool false] 41) := ⟨_, rfl⟩
    rw [← hg] at hgb G6 ⊢
    rw [← hw6] at IA6 CA6 ZA6 HB6 G6 TX6 hHeld ⊢
    clear hg hw6
    have hiR : (Tryz.prog.info? 41).map (·.size) = some ([.int .i64 r0.ir, .int .i64 r0.is, .int .i64 r0.st, .int .i64 r0.pn, .int .i64 r0.pr, .int .i64 r0.bn, .int .i64 r0.br, .int .i64 r0.c.k, .int .i64 r0.c.tc, .int .i64 r0.c.tn, .int .i64 r0.c.tt, .int .i64 r0.c.tk, .int .i64 r0.c.sh, ua, ub, .bool r0.c.cm, .int .i64 r0.sq, .int .i64 r0.d0, .int .i64 r0.d1, .int .i64 r0.d2, .int .i64 r0.d3, .int .i64 r0.d4, .int .i64 r0.d5, .int .i64 r0.d6, .bool r0.kp] : List Value).length := by kernel_rfl
    have K7 := Wrote.cells w6 gb 0 [.int .i64 r0.ir, .int .i64 r0.is, .int .i64 r0.st, .int .i64 r0.pn, .int .i64 r0.pr, .int .i64 r0.bn, .int .i64 r0.br, .int .i64 r0.c.k, .int .i64 r0.c.tc, .int .i64 r0.c.tn, .int .i64 r0.c.tt, .int .i64 r0.c.tk, .int .i64 r0.c.sh, ua, ub, .bool r0.c.cm, .int .i64 r0.sq, .int .i64 r0.d0, .int .i64 r0.d1, .int .i64 r0.d2, .int .i64 r0.d3, .int .i64 r0.d4, .int .i64 r0.d5, .int .i64 r0.d6, .bool r0.kp]
    have I7 := Lib.hid (K7.hold IA6.out (by have := hgb.out; omega))
    have C7 := Lib.hid (K7.hold CA6.out (by have := hgb.out; have := hz2.out; omega))
    have Z7a := Lib.hid (K7.hold ZA6.out (by have := hgb.out; have := hz2.out; omega))
    have HB7 := Lib.hid (K7.below w.heap.size w (by have := hgb.out; have := hz2.out; omega) HB6.out)
    have TX7 := Lib.hid (TX6.out.wrote G6.out K7)
    have G7 := Lib.hid (show Hold (w6.setCells gb 0 [.int .i64 r0.ir, .int .i64 r0.is, .int .i64 r0.st, .int .i64 r0.pn, .int .i64 r0.pr, .int .i64 r0.bn, .int .i64 r0.br, .int .i64 r0.c.k, .int .i64 r0.c.tc, .int .i64 r0.c.tn, .int .i64 r0.c.tt, .int .i64 r0.c.tk, .int .i64 r0.c.sh, ua, ub, .bool r0.c.cm, .int .i64 r0.sq, .int .i64 r0.d0, .int .i64 r0.d1, .int .i64 r0.d2, .int .i64 r0.d3, .int .i64 r0.d4, .int .i64 r0.d5, .int .i64 r0.d6, .bool r0.kp]) gb 41 [.int .i64 r0.ir, .int .i64 r0.is, .int .i64 r0.st, .int .i64 r0.pn, .int .i64 r0.pr, .int .i64 r0.bn, .int .i64 r0.br, .int .i64 r0.c.k, .int .i64 r0.c.tc, .int .i64 r0.c.tn, .int .i64 r0.c.tt, .int .i64 r0.c.tk, .int .i64 r0.c.sh, ua, ub, .bool r0.c.cm, .int .i64 r0.sq, .int .i64 r0.d0, .int .i64 r0.d1, .int .i64 r0.d2, .int .i64 r0.d3, .int .i64 r0.d4, .int .i64 r0.d5, .int .i64 r0.d6, .bool r0.kp] from Hold.set [.int .i64 r0.ir, .int .i64 r0.is, .int .i64 r0.st, .int .i64 r0.pn, .int .i64 r0.pr, .int .i64 r0.bn, .int .i64 r0.br, .int .i64 r0.c.k, .int .i64 r0.c.tc, .int .i64 r0.c.tn, .int .i64 r0.c.tt, .int .i64 r0.c.tk, .int .i64 r0.c.sh, ua, ub, .bool r0.c.cm, .int .i64 r0.sq, .int .i64 r0.d0, .int .i64 r0.d1, .int .i64 r0.d2, .int .i64 r0.d3, .int .i64 r0.d4, .int .i64 r0.d5, .int .i64 r0.d6, .bool r0.kp] [] [.int .i64 0, .int .i64 0, .int .i64 0, .int .i64 0, .int .i64 0, .int .i64 0, .int .i64 0, .int .i64 0, .int .i64 0, .int .i64 0, .int .i64 0, .int .i64 0, .int .i64 0, .slice none 0 0, .slice none 0 0, .bool false, .int .i64 0, .int .i64 0, .int .i64 0, .int .i64 0, .int .i64 0, .int .i64 0, .int .i64 0, .int .i64 0, .bool false] [] rfl w6 G6.out)
    refine wpAnyH_store (i := 5) (o := ⟨none, .store 41 (.tmp 9) (.tmp 34), 0, _, _, none⟩) (by kernel_rfl) rfl rfl 41 (.tmp 9) (.tmp 34) rfl gb 41 [.int .i64 0, .int .i64 0, .int .i64 0, .int .i64 0, .int .i64 0, .int .i64 0, .int .i64 0, .int .i64 0, .int .i64 0, .int .i64 0, .int .i64 0, .int .i64 0, .int .i64 0, .slice none 0 0, .slice none 0 0, .bool false, .int .i64 0, .int .i64 0, .int .i64 0, .int .i64 0, .int .i64 0, .int .i64 0, .int .i64 0, .int .i64 0, .bool false] [.int .i64 r0.ir, .int .i64 r0.is, .int .i64 r0.st, .int .i64 r0.pn, .int .i64 r0.pr, .int .i64 r0.bn, .int .i64 r0.br, .int .i64 r0.c.k, .int .i64 r0.c.tc, .int .i64 r0.c.tn, .int .i64 r0.c.tt, .int .i64 r0.c.tk, .int .i64 r0.c.sh, ua, ub, .bool r0.c.cm, .int .i64 r0.sq, .int .i64 r0.d0, .int .i64 r0.d1, .int .i64 r0.d2, .int .i64 r0.d3, .int .i64 r0.d4, .int .i64 r0.d5, .int .i64 r0.d6, .bool r0.kp] rfl rfl G6.out rfl hiR OR (by exact ⟨I7.out.cel.whole, C7.out.cel.whole⟩) ?_
    (try simp only [Act.put]); (try simp only [List.setIfInBounds_toArray]); (try simp only [List.set_cons_succ]); (try simp only [List.set_cons_zero])
    refine wpAnyH_done (by kernel_rfl) ?_ _
    generalize w6.setCells gb 0 [.int .i64 r0.ir, .int .i64 r0.is, .int .i64 r0.st, .int .i64 r0.pn, .int .i64 r0.pr, .int .i64 r0.bn, .int .i64 r0.br, .int .i64 r0.c.k, .int .i64 r0.c.tc, .int .i64 r0.c.tn, .int .i64 r0.c.tt, .int .i64 r0.c.tk, .int .i64 r0.c.sh, ua, ub, .bool r0.c.cm, .int .i64 r0.sq, .int .i64 r0.d0, .int .i64 r0.d1, .int .i64 r0.d2, .int .i64 r0.d3, .int .i64 r0.d4, .int .i64 r0.d5, .int .i64 r0.d6, .bool r0.kp] = w7 at *
    clear K7 hHeld IA6 CA6 ZA6 HB6 G6 TX6
    have HA := attrs_any (HX.out.below HB7.out) hl hX p sl c (HC.out.below HB7.out) (HC'.out.below HB7.out) F 1 (fun _ => 0)
    rw [← HN.out, ← HD.out] at HA
    have HAT := Lib.hid HA
    have I7w := I7.out.cel.whole
    have C7w := C7.out.cel.whole
    clear HA
    go_wp2_with (first
    | (with_reducible refine wpList_load_mid rfl 32 _ rfl w2.heap.size 0 rfl [.int .i64 p, .int .i64 sl] _ I7w Tryz.underlying32 rfl (by kernel_rfl) ?_)
    | (with_reducible refine wpList_load_mid rfl 30 _ rfl w.heap.size 0 rfl [.int .i64 c.k, .int .i64 c.tc, .int .i64 c.tn, .int .i64 c.tt, .int .i64 c.tk, .int .i64 c.sh, va, vb, .bool c.cm] _ C7w Tryz.underlying30 rfl (by kernel_rfl) ?_)
    | (with_reducible refine wpList_buildTo rfl 39 _ rfl _ rfl #[.int .i64 0, .int .i64 0, .int .i64 0, .int .i64 0, .int .i64 0, .int .i64 0, .int .i64 0] (by kernel_rfl) ?_)
    | (go_at_call 29
       refine HAT.out.mono ?_
       rintro e w8 ⟨rfl, hb⟩
       have G8 := G7.out.on hb
       have e16 : w8.cell? ⟨gb, 16, none⟩ = some (.int .i64 r0.sq) := hold_cell G8 16 rfl
       have f16 : w8.frozen? ⟨gb, 16, none⟩ = false := hold_soft G8 16
       have G9 := Lib.hid (show Hold (w8.setCell ⟨gb, 16, none⟩ (.int .i64 n)) gb 41 [.int .i64 (M.withA r0 n (M.dep r0) r0.kp).ir, .int .i64 (M.withA r0 n (M.dep r0) r0.kp).is, .int .i64 (M.withA r0 n (M.dep r0) r0.kp).st, .int .i64 (M.withA r0 n (M.dep r0) r0.kp).pn, .int .i64 (M.withA r0 n (M.dep r0) r0.kp).pr, .int .i64 (M.withA r0 n (M.dep r0) r0.kp).bn, .int .i64 (M.withA r0 n (M.dep r0) r0.kp).br, .int .i64 (M.withA r0 n (M.dep r0) r0.kp).c.k, .int .i64 (M.withA r0 n (M.dep r0) r0.kp).c.tc, .int .i64 (M.withA r0 n (M.dep r0) r0.kp).c.tn, .int .i64 (M.withA r0 n (M.dep r0) r0.kp).c.tt, .int .i64 (M.withA r0 n (M.dep r0) r0.kp).c.tk, .int .i64 (M.withA r0 n (M.dep r0) r0.kp).c.sh, ua, ub, .bool (M.withA r0 n (M.dep r0) r0.kp).c.cm, .int .i64 (M.withA r0 n (M.dep r0) r0.kp).sq, .int .i64 (M.withA r0 n (M.dep r0) r0.kp).d0, .int .i64 (M.withA r0 n (M.dep r0) r0.kp).d1, .int .i64 (M.withA r0 n (M.dep r0) r0.kp).d2, .int .i64 (M.withA r0 n (M.dep r0) r0.kp).d3, .int .i64 (M.withA r0 n (M.dep r0) r0.kp).d4, .int .i64 (M.withA r0 n (M.dep r0) r0.kp).d5, .int .i64 (M.withA r0 n (M.dep r0) r0.kp).d6, .bool (M.withA r0 n (M.dep r0) r0.kp).kp] from hold_put G8 16 (.int .i64 n))
       have K9 := Wrote.cell w8 gb 16 (.int .i64 n)
       have Z9 := Lib.hid (K9.hold (Z7a.out.on hb) (by have := hgb.out; have := hz2.out; omega))
       have HB9 := Lib.hid (K9.below w.heap.size w (by have := hgb.out; have := hz2.out; omega) (below_on HB7.out hb))
       have TX9 := Lib.hid ((TX7.out.below hb).wrote G8 K9 (rv_ns (x := ⟨r0, ua, ub⟩) N1 N2))
       clear hb G8 K9)
    | (with_reducible refine store_hold rfl 39 _ _ rfl gb 17 rfl 41 [.int .i64 (d 0), .int .i64 (d 1), .int .i64 (d 2), .int .i64 (d 3), .int .i64 (d 4), .int .i64 (d 5), .int .i64 (d 6)] [.int .i64 (M.withA r0 n (M.dep r0) r0.kp).ir, .int .i64 (M.withA r0 n (M.dep r0) r0.kp).is, .int .i64 (M.withA r0 n (M.dep r0) r0.kp).st, .int .i64 (M.withA r0 n (M.dep r0) r0.kp).pn, .int .i64 (M.withA r0 n (M.dep r0) r0.kp).pr, .int .i64 (M.withA r0 n (M.dep r0) r0.kp).bn, .int .i64 (M.withA r0 n (M.dep r0) r0.kp).br, .int .i64 (M.withA r0 n (M.dep r0) r0.kp).c.k, .int .i64 (M.withA r0 n (M.dep r0) r0.kp).c.tc, .int .i64 (M.withA r0 n (M.dep r0) r0.kp).c.tn, .int .i64 (M.withA r0 n (M.dep r0) r0.kp).c.tt, .int .i64 (M.withA r0 n (M.dep r0) r0.kp).c.tk, .int .i64 (M.withA r0 n (M.dep r0) r0.kp).c.sh, ua, ub, .bool (M.withA r0 n (M.dep r0) r0.kp).c.cm, .int .i64 (M.withA r0 n (M.dep r0) r0.kp).sq, .int .i64 (M.withA r0 n (M.dep r0) r0.kp).d0, .int .i64 (M.withA r0 n (M.dep r0) r0.kp).d1, .int .i64 (M.withA r0 n (M.dep r0) r0.kp).d2, .int .i64 (M.withA r0 n (M.dep r0) r0.kp).d3, .int .i64 (M.withA r0 n (M.dep r0) r0.kp).d4, .int .i64 (M.withA r0 n (M.dep r0) r0.kp).d5, .int .i64 (M.withA r0 n (M.dep r0) r0.kp).d6, .bool (M.withA r0 n (M.dep r0) r0.kp).kp] [.int .i64 (M.withA r0 n d r0.kp).ir, .int .i64 (M.withA r0 n d r0.kp).is, .int .i64 (M.withA r0 n d r0.kp).st, .int .i64 (M.withA r0 n d r0.kp).pn, .int .i64 (M.withA r0 n d r0.kp).pr, .int .i64 (M.withA r0 n d r0.kp).bn, .int .i64 (M.withA r0 n d r0.kp).br, .int .i64 (M.withA r0 n d r0.kp).c.k, .int .i64 (M.withA r0 n d r0.kp).c.tc, .int .i64 (M.withA r0 n d r0.kp).c.tn, .int .i64 (M.withA r0 n d r0.kp).c.tt, .int .i64 (M.withA r0 n d r0.kp).c.tk, .int .i64 (M.withA r0 n d r0.kp).c.sh, ua, ub, .bool (M.withA r0 n d r0.kp).c.cm, .int .i64 (M.withA r0 n d r0.kp).sq, .int .i64 (M.withA r0 n d r0.kp).d0, .int .i64 (M.withA r0 n d r0.kp).d1, .int .i64 (M.withA r0 n d r0.kp).d2, .int .i64 (M.withA r0 n d r0.kp).d3, .int .i64 (M.withA r0 n d r0.kp).d4, .int .i64 (M.withA r0 n d r0.kp).d5, .int .i64 (M.withA r0 n d r0.kp).d6, .bool (M.withA r0 n d r0.kp).kp] rfl G9.out (by kernel_rfl) (of_decide_eq_true (by kernel_rfl)) (by kernel_rfl) rfl ?_
       intro w10 G10 K10
       have G10w := G10.cel.whole
       have Z10 := K10.hold Z9.out (by have := hgb.out; have := hz2.out; omega)
       have HB10 := Lib.hid (K10.below w.heap.size w (by have := hgb.out; have := hz2.out; omega) HB9.out)
       have TX10 := Lib.hid (TX9.out.wrote G9.out K10 (rv_ns (x := ⟨M.withA r0 n (M.dep r0) r0.kp, ua, ub⟩) N1 N2))
       have OF : ([.int .i64 (M.withA r0 n d r0.kp).ir, .int .i64 (M.withA r0 n d r0.kp).is, .int .i64 (M.withA r0 n d r0.kp).st, .int .i64 (M.withA r0 n d r0.kp).pn, .int .i64 (M.withA r0 n d r0.kp).pr, .int .i64 (M.withA r0 n d r0.kp).bn, .int .i64 (M.withA r0 n d r0.kp).br, .int .i64 (M.withA r0 n d r0.kp).c.k, .int .i64 (M.withA r0 n d r0.kp).c.tc, .int .i64 (M.withA r0 n d r0.kp).c.tn, .int .i64 (M.withA r0 n d r0.kp).c.tt, .int .i64 (M.withA r0 n d r0.kp).c.tk, .int .i64 (M.withA r0 n d r0.kp).c.sh, ua, ub, .bool (M.withA r0 n d r0.kp).c.cm, .int .i64 (M.withA r0 n d r0.kp).sq, .int .i64 (M.withA r0 n d r0.kp).d0, .int .i64 (M.withA r0 n d r0.kp).d1, .int .i64 (M.withA r0 n d r0.kp).d2, .int .i64 (M.withA r0 n d r0.kp).d3, .int .i64 (M.withA r0 n d r0.kp).d4, .int .i64 (M.withA r0 n d r0.kp).d5, .int .i64 (M.withA r0 n d r0.kp).d6, .bool (M.withA r0 n d r0.kp).kp] : List Value).all (·.oneCell') = true := rv_one (x := ⟨(M.withA r0 n d r0.kp), ua, ub⟩) U1 U2
       clear K10)
    | (with_reducible refine wpList_load_mid rfl 41 _ rfl gb 0 rfl [.int .i64 (M.withA r0 n d r0.kp).ir, .int .i64 (M.withA r0 n d r0.kp).is, .int .i64 (M.withA r0 n d r0.kp).st, .int .i64 (M.withA r0 n d r0.kp).pn, .int .i64 (M.withA r0 n d r0.kp).pr, .int .i64 (M.withA r0 n d r0.kp).bn, .int .i64 (M.withA r0 n d r0.kp).br, .int .i64 (M.withA r0 n d r0.kp).c.k, .int .i64 (M.withA r0 n d r0.kp).c.tc, .int .i64 (M.withA r0 n d r0.kp).c.tn, .int .i64 (M.withA r0 n d r0.kp).c.tt, .int .i64 (M.withA r0 n d r0.kp).c.tk, .int .i64 (M.withA r0 n d r0.kp).c.sh, ua, ub, .bool (M.withA r0 n d r0.kp).c.cm, .int .i64 (M.withA r0 n d r0.kp).sq, .int .i64 (M.withA r0 n d r0.kp).d0, .int .i64 (M.withA r0 n d r0.kp).d1, .int .i64 (M.withA r0 n d r0.kp).d2, .int .i64 (M.withA r0 n d r0.kp).d3, .int .i64 (M.withA r0 n d r0.kp).d4, .int .i64 (M.withA r0 n d r0.kp).d5, .int .i64 (M.withA r0 n d r0.kp).d6, .bool (M.withA r0 n d r0.kp).kp] _ G10w Tryz.underlying41 rfl (by kernel_rfl) ?_)
    | (with_reducible refine store_hold rfl 41 _ _ rfl (w.heap.size + 1) 0 rfl 41 [.int .i64 (M.withA r0 n d r0.kp).ir, .int .i64 (M.withA r0 n d r0.kp).is, .int .i64 (M.withA r0 n d r0.kp).st, .int .i64 (M.withA r0 n d r0.kp).pn, .int .i64 (M.withA r0 n d r0.kp).pr, .int .i64 (M.withA r0 n d r0.kp).bn, .int .i64 (M.withA r0 n d r0.kp).br, .int .i64 (M.withA r0 n d r0.kp).c.k, .int .i64 (M.withA r0 n d r0.kp).c.tc, .int .i64 (M.withA r0 n d r0.kp).c.tn, .int .i64 (M.withA r0 n d r0.kp).c.tt, .int .i64 (M.withA r0 n d r0.kp).c.tk, .int .i64 (M.withA r0 n d r0.kp).c.sh, ua, ub, .bool (M.withA r0 n d r0.kp).c.cm, .int .i64 (M.withA r0 n d r0.kp).sq, .int .i64 (M.withA r0 n d r0.kp).d0, .int .i64 (M.withA r0 n d r0.kp).d1, .int .i64 (M.withA r0 n d r0.kp).d2, .int .i64 (M.withA r0 n d r0.kp).d3, .int .i64 (M.withA r0 n d r0.kp).d4, .int .i64 (M.withA r0 n d r0.kp).d5, .int .i64 (M.withA r0 n d r0.kp).d6, .bool (M.withA r0 n d r0.kp).kp] [.int .i64 0, .int .i64 0, .int .i64 0, .int .i64 0, .int .i64 0, .int .i64 0, .int .i64 0, .int .i64 0, .int .i64 0, .int .i64 0, .int .i64 0, .int .i64 0, .int .i64 0, .slice none 0 0, .slice none 0 0, .bool false, .int .i64 0, .int .i64 0, .int .i64 0, .int .i64 0, .int .i64 0, .int .i64 0, .int .i64 0, .int .i64 0, .bool false] [.int .i64 (M.withA r0 n d r0.kp).ir, .int .i64 (M.withA r0 n d r0.kp).is, .int .i64 (M.withA r0 n d r0.kp).st, .int .i64 (M.withA r0 n d r0.kp).pn, .int .i64 (M.withA r0 n d r0.kp).pr, .int .i64 (M.withA r0 n d r0.kp).bn, .int .i64 (M.withA r0 n d r0.kp).br, .int .i64 (M.withA r0 n d r0.kp).c.k, .int .i64 (M.withA r0 n d r0.kp).c.tc, .int .i64 (M.withA r0 n d r0.kp).c.tn, .int .i64 (M.withA r0 n d r0.kp).c.tt, .int .i64 (M.withA r0 n d r0.kp).c.tk, .int .i64 (M.withA r0 n d r0.kp).c.sh, ua, ub, .bool (M.withA r0 n d r0.kp).c.cm, .int .i64 (M.withA r0 n d r0.kp).sq, .int .i64 (M.withA r0 n d r0.kp).d0, .int .i64 (M.withA r0 n d r0.kp).d1, .int .i64 (M.withA r0 n d r0.kp).d2, .int .i64 (M.withA r0 n d r0.kp).d3, .int .i64 (M.withA r0 n d r0.kp).d4, .int .i64 (M.withA r0 n d r0.kp).d5, .int .i64 (M.withA r0 n d r0.kp).d6, .bool (M.withA r0 n d r0.kp).kp] rfl Z10 (by kernel_rfl) (of_decide_eq_true (by kernel_rfl)) (by kernel_rfl) OF ?_; intro w11 H11 K11; have HB11 := Lib.hid (K11.below w.heap.size w (by omega) HB10.out))
    | fail)
    refine bodyPost_ret (results_cv rfl rfl rfl H11.cel.whole _ Tryz.underlying41 rfl (by kernel_rfl)) rfl ?_
    rw [HE.out]
    exact ⟨ua, ub, rfl, (TX10.out.wrote Z10 K11).same (by rw [HR0.out]; rfl), HB11.out⟩
  · skip
    try go_simp
    have b6 := below_new (o := .cells #[.int .i64 0, .int .i64 0, .int .i64 0, .int .i64 0, .int .i64 0, .int .i64 0, .int .i64 0, .int .i64 0, .int .i64 0, .int .i64 0, .int .i64 0, .int .i64 0, .int .i64 0, .slice none 0 0, .slice none 0 0, .bool false, .int .i64 0, .int .i64 0, .int .i64 0, .int .i64 0, .int .i64 0, .int .i64 0, .int .i64 0, .int .i64 0, .bool false] 41) (Below.refl w3.drew.heap.size w3.drew)
    have IA := Lib.hid (ID.out.on b6)
    have CA := Lib.hid (CD.out.on b6)
    have ZA := Lib.hid (ZD.out.on b6)
    have HBA := Lib.hid (below_on HBD.out b6)
    have GA := Lib.hid (Hold.new w3.drew [.int .i64 0, .int .i64 0, .int .i64 0, .int .i64 0, .int .i64 0, .int .i64 0, .int .i64 0, .int .i64 0, .int .i64 0, .int .i64 0, .int .i64 0, .int .i64 0, .int .i64 0, .slice none 0 0, .slice none 0 0, .bool false, .int .i64 0, .int .i64 0, .int .i64 0, .int .i64 0, .int .i64 0, .int .i64 0, .int .i64 0, .int .i64 0, .bool false] 41)
    have hgb := Lib.hid (show w2.heap.size < w3.drew.heap.size from hold_lt ID.out)
    clear b6
    refine hK.out _ _ (by exact ⟨IA.out.cel.whole, CA.out.cel.whole⟩) (fun hHeld => ?_)
    clear hK K
    (try simp only [Act.put]); (try simp only [List.setIfInBounds_toArray]); (try simp only [List.set_cons_succ]); (try simp only [List.set_cons_zero])
    obtain ⟨gb, hg⟩ : ∃ gb, gb = w3.drew.heap.size := ⟨_, rfl⟩
    have hcm : w3.drew.alloc (.cells #[.int .i64 0, .int .i64 0, .int .i64 0, .int .i64 0, .int .i64 0, .int .i64 0, .int .i64 0, .int .i64 0, .int .i64 0, .int .i64 0, .int .i64 0, .int .i64 0, .int .i64 0, .slice none 0 0, .slice none 0 0, .bool false, .int .i64 0, .int .i64 0, .int .i64 0, .int .i64 0, .int .i64 0, .int .i64 0, .int .i64 0, .int .i64 0, .bool false] 41) = (w3.alloc (.cells #[.int .i64 0, .int .i64 0, .int .i64 0, .int .i64 0, .int .i64 0, .int .i64 0, .int .i64 0, .int .i64 0, .int .i64 0, .int .i64 0, .int .i64 0, .int .i64 0, .int .i64 0, .slice none 0 0, .slice none 0 0, .bool false, .int .i64 0, .int .i64 0, .int .i64 0, .int .i64 0, .int .i64 0, .int .i64 0, .int .i64 0, .int .i64 0, .bool false] 41)).drew := rfl
    rw [hcm] at IA CA ZA HBA GA
    obtain ⟨w4, hw4⟩ : ∃ w4, w4 = (w3.alloc (.cells #[.int .i64 0, .int .i64 0, .int .i64 0, .int .i64 0, .int .i64 0, .int .i64 0, .int .i64 0, .int .i64 0, .int .i64 0, .int .i64 0, .int .i64 0, .int .i64 0, .int .i64 0, .slice none 0 0, .slice none 0 0, .bool false, .int .i64 0, .int .i64 0, .int .i64 0, .int .i64 0, .int .i64 0, .int .i64 0, .int .i64 0, .int .i64 0, .bool false] 41)).drew := ⟨_, rfl⟩
    have hg' : w3.heap.size = gb := hg.symm
    rw [← hg] at hgb GA
    try rw [hg']
    rw [← hw4] at IA CA ZA HBA GA hHeld ⊢
    clear hg hw4 hg' hcm
    refine wpAnyH_ready (rs := [2]) (by kernel_rfl) (by simp) ?_
    refine AllReadyH.cons (o := ⟨some 33, .call { callee := .value (.func 28), args := #[.tmp 32], argTypes := #[30] }, 30, _, _, none⟩) rfl (fun K hK => ?_) AllReadyH.nil
    try go_simp
    refine (clone_any c (HC.out.below HBA.out) (HC'.out.below HBA.out) F.l F.l').mono ?_
    rintro e w6 ⟨ua, ub, rfl, ho, ho', hb⟩
    have U1 : ua.oneCell' = true := by obtain ⟨_, _, e⟩ := ownsRow_slice ho; rw [e]; rfl
    have U2 : ub.oneCell' = true := by obtain ⟨_, _, e⟩ := ownsRow_slice ho'; rw [e]; rfl
    have OR : ([.int .i64 r0.ir, .int .i64 r0.is, .int .i64 r0.st, .int .i64 r0.pn, .int .i64 r0.pr, .int .i64 r0.bn, .int .i64 r0.br, .int .i64 r0.c.k, .int .i64 r0.c.tc, .int .i64 r0.c.tn, .int .i64 r0.c.tt, .int .i64 r0.c.tk, .int .i64 r0.c.sh, ua, ub, .bool r0.c.cm, .int .i64 r0.sq, .int .i64 r0.d0, .int .i64 r0.d1, .int .i64 r0.d2, .int .i64 r0.d3, .int .i64 r0.d4, .int .i64 r0.d5, .int .i64 r0.d6, .bool r0.kp] : List Value).all (·.oneCell') = true := rv_one (x := ⟨r0, ua, ub⟩) U1 U2
    have N1 : notStr ua = true := by obtain ⟨_, _, e⟩ := ownsRow_slice ho; rw [e]; rfl
    have N2 : notStr ub = true := by obtain ⟨_, _, e⟩ := ownsRow_slice ho'; rw [e]; rfl
    have IA6 := Lib.hid (IA.out.on hb)
    have CA6 := Lib.hid (CA.out.on hb)
    have ZA6 := Lib.hid (ZA.out.on hb)
    have HB6 := Lib.hid (below_on HBA.out hb)
    have G6 := Lib.hid (GA.out.on hb)
    have TX6 := Lib.hid (show Txt w6 ⟨r0, ua, ub⟩ from by rw [HR0.out]; exact ⟨RowN.of_owns ho, RowN.of_owns ho'⟩)
    clear ho ho' hb
    try go_simp
    refine hK.out _ _ (by exact ⟨IA6.out.cel.whole, CA6.out.cel.whole⟩) (fun hHeld => ?_)
    clear hK K IA CA ZA HBA GA
    (try simp only [Act.put]); (try simp only [List.setIfInBounds_toArray]); (try simp only [List.set_cons_succ]); (try simp only [List.set_cons_zero])
    refine wpAnyH_take (i := 3) (oi := ⟨some 34, .build 41 #[(0, .tmp 31), (1, .const (.int .i64 1)), (4, .tmp 33), (7, .const (.bool true))], 41, _, _, none⟩) (v := .agg ([.int .i64 r0.ir, .int .i64 r0.is, .int .i64 r0.st, .int .i64 r0.pn, .int .i64 r0.pr, .int .i64 r0.bn, .int .i64 r0.br, .int .i64 r0.c.k, .int .i64 r0.c.tc, .int .i64 r0.c.tn, .int .i64 r0.c.tt, .int .i64 r0.c.tk, .int .i64 r0.c.sh, ua, ub, .bool r0.c.cm, .int .i64 r0.sq, .int .i64 r0.d0, .int .i64 r0.d1, .int .i64 r0.d2, .int .i64 r0.d3, .int .i64 r0.d4, .int .i64 r0.d5, .int .i64 r0.d6, .bool r0.kp] : List Value).toArray) rfl (by kernel_rfl) (by kernel_rfl) (by kernel_rfl) (fun _ _ _ h => h) (yieldsIf_build (by rfl) 41 _ rfl #[.int .i64 r0.ir, .int .i64 r0.is, .int .i64 r0.st, .int .i64 r0.pn, .int .i64 r0.pr, .int .i64 r0.bn, .int .i64 r0.br, .int .i64 r0.c.k, .int .i64 r0.c.tc, .int .i64 r0.c.tn, .int .i64 r0.c.tt, .int .i64 r0.c.tk, .int .i64 r0.c.sh, ua, ub, .bool r0.c.cm, .int .i64 r0.sq, .int .i64 r0.d0, .int .i64 r0.d1, .int .i64 r0.d2, .int .i64 r0.d3, .int .i64 r0.d4, .int .i64 r0.d5, .int .i64 r0.d6, .bool r0.kp] (by rw [HR0.out]; kernel_rfl)) (by assumption) ?_
    (try simp only [Act.put]); (try simp only [List.setIfInBounds_toArray]); (try simp only [List.set_cons_succ]); (try simp only [List.set_cons_zero])
    have hiR : (Tryz.prog.info? 41).map (·.size) = some ([.int .i64 r0.ir, .int .i64 r0.is, .int .i64 r0.st, .int .i64 r0.pn, .int .i64 r0.pr, .int .i64 r0.bn, .int .i64 r0.br, .int .i64 r0.c.k, .int .i64 r0.c.tc, .int .i64 r0.c.tn, .int .i64 r0.c.tt, .int .i64 r0.c.tk, .int .i64 r0.c.sh, ua, ub, .bool r0.c.cm, .int .i64 r0.sq, .int .i64 r0.d0, .int .i64 r0.d1, .int .i64 r0.d2, .int .i64 r0.d3, .int .i64 r0.d4, .int .i64 r0.d5, .int .i64 r0.d6, .bool r0.kp] : List Value).length := by kernel_rfl
    have K7 := Wrote.cells w6 gb 0 [.int .i64 r0.ir, .int .i64 r0.is, .int .i64 r0.st, .int .i64 r0.pn, .int .i64 r0.pr, .int .i64 r0.bn, .int .i64 r0.br, .int .i64 r0.c.k, .int .i64 r0.c.tc, .int .i64 r0.c.tn, .int .i64 r0.c.tt, .int .i64 r0.c.tk, .int .i64 r0.c.sh, ua, ub, .bool r0.c.cm, .int .i64 r0.sq, .int .i64 r0.d0, .int .i64 r0.d1, .int .i64 r0.d2, .int .i64 r0.d3, .int .i64 r0.d4, .int .i64 r0.d5, .int .i64 r0.d6, .bool r0.kp]
    have I7 := Lib.hid (K7.hold IA6.out (by have := hgb.out; omega))
    have C7 := Lib.hid (K7.hold CA6.out (by have := hgb.out; have := hz2.out; omega))
    have Z7a := Lib.hid (K7.hold ZA6.out (by have := hgb.out; have := hz2.out; omega))
    have HB7 := Lib.hid (K7.below w.heap.size w (by have := hgb.out; have := hz2.out; omega) HB6.out)
    have TX7 := Lib.hid (TX6.out.wrote G6.out K7)
    have G7 := Lib.hid (show Hold (w6.setCells gb 0 [.int .i64 r0.ir, .int .i64 r0.is, .int .i64 r0.st, .int .i64 r0.pn, .int .i64 r0.pr, .int .i64 r0.bn, .int .i64 r0.br, .int .i64 r0.c.k, .int .i64 r0.c.tc, .int .i64 r0.c.tn, .int .i64 r0.c.tt, .int .i64 r0.c.tk, .int .i64 r0.c.sh, ua, ub, .bool r0.c.cm, .int .i64 r0.sq, .int .i64 r0.d0, .int .i64 r0.d1, .int .i64 r0.d2, .int .i64 r0.d3, .int .i64 r0.d4, .int .i64 r0.d5, .int .i64 r0.d6, .bool r0.kp]) gb 41 [.int .i64 r0.ir, .int .i64 r0.is, .int .i64 r0.st, .int .i64 r0.pn, .int .i64 r0.pr, .int .i64 r0.bn, .int .i64 r0.br, .int .i64 r0.c.k, .int .i64 r0.c.tc, .int .i64 r0.c.tn, .int .i64 r0.c.tt, .int .i64 r0.c.tk, .int .i64 r0.c.sh, ua, ub, .bool r0.c.cm, .int .i64 r0.sq, .int .i64 r0.d0, .int .i64 r0.d1, .int .i64 r0.d2, .int .i64 r0.d3, .int .i64 r0.d4, .int .i64 r0.d5, .int .i64 r0.d6, .bool r0.kp] from Hold.set [.int .i64 r0.ir, .int .i64 r0.is, .int .i64 r0.st, .int .i64 r0.pn, .int .i64 r0.pr, .int .i64 r0.bn, .int .i64 r0.br, .int .i64 r0.c.k, .int .i64 r0.c.tc, .int .i64 r0.c.tn, .int .i64 r0.c.tt, .int .i64 r0.c.tk, .int .i64 r0.c.sh, ua, ub, .bool r0.c.cm, .int .i64 r0.sq, .int .i64 r0.d0, .int .i64 r0.d1, .int .i64 r0.d2, .int .i64 r0.d3, .int .i64 r0.d4, .int .i64 r0.d5, .int .i64 r0.d6, .bool r0.kp] [] [.int .i64 0, .int .i64 0, .int .i64 0, .int .i64 0, .int .i64 0, .int .i64 0, .int .i64 0, .int .i64 0, .int .i64 0, .int .i64 0, .int .i64 0, .int .i64 0, .int .i64 0, .slice none 0 0, .slice none 0 0, .bool false, .int .i64 0, .int .i64 0, .int .i64 0, .int .i64 0, .int .i64 0, .int .i64 0, .int .i64 0, .int .i64 0, .bool false] [] rfl w6 G6.out)
    refine wpAnyH_store (i := 5) (o := ⟨none, .store 41 (.tmp 9) (.tmp 34), 0, _, _, none⟩) (by kernel_rfl) rfl rfl 41 (.tmp 9) (.tmp 34) rfl gb 41 [.int .i64 0, .int .i64 0, .int .i64 0, .int .i64 0, .int .i64 0, .int .i64 0, .int .i64 0, .int .i64 0, .int .i64 0, .int .i64 0, .int .i64 0, .int .i64 0, .int .i64 0, .slice none 0 0, .slice none 0 0, .bool false, .int .i64 0, .int .i64 0, .int .i64 0, .int .i64 0, .int .i64 0, .int .i64 0, .int .i64 0, .int .i64 0, .bool false] [.int .i64 r0.ir, .int .i64 r0.is, .int .i64 r0.st, .int .i64 r0.pn, .int .i64 r0.pr, .int .i64 r0.bn, .int .i64 r0.br, .int .i64 r0.c.k, .int .i64 r0.c.tc, .int .i64 r0.c.tn, .int .i64 r0.c.tt, .int .i64 r0.c.tk, .int .i64 r0.c.sh, ua, ub, .bool r0.c.cm, .int .i64 r0.sq, .int .i64 r0.d0, .int .i64 r0.d1, .int .i64 r0.d2, .int .i64 r0.d3, .int .i64 r0.d4, .int .i64 r0.d5, .int .i64 r0.d6, .bool r0.kp] rfl rfl G6.out rfl hiR OR (by exact ⟨I7.out.cel.whole, C7.out.cel.whole⟩) ?_
    (try simp only [Act.put]); (try simp only [List.setIfInBounds_toArray]); (try simp only [List.set_cons_succ]); (try simp only [List.set_cons_zero])
    refine wpAnyH_done (by kernel_rfl) ?_ _
    generalize w6.setCells gb 0 [.int .i64 r0.ir, .int .i64 r0.is, .int .i64 r0.st, .int .i64 r0.pn, .int .i64 r0.pr, .int .i64 r0.bn, .int .i64 r0.br, .int .i64 r0.c.k, .int .i64 r0.c.tc, .int .i64 r0.c.tn, .int .i64 r0.c.tt, .int .i64 r0.c.tk, .int .i64 r0.c.sh, ua, ub, .bool r0.c.cm, .int .i64 r0.sq, .int .i64 r0.d0, .int .i64 r0.d1, .int .i64 r0.d2, .int .i64 r0.d3, .int .i64 r0.d4, .int .i64 r0.d5, .int .i64 r0.d6, .bool r0.kp] = w7 at *
    clear K7 hHeld IA6 CA6 ZA6 HB6 G6 TX6
    have HA := attrs_any (HX.out.below HB7.out) hl hX p sl c (HC.out.below HB7.out) (HC'.out.below HB7.out) F 1 (fun _ => 0)
    rw [← HN.out, ← HD.out] at HA
    have HAT := Lib.hid HA
    have I7w := I7.out.cel.whole
    have C7w := C7.out.cel.whole
    clear HA
    go_wp2_with (first
    | (with_reducible refine wpList_load_mid rfl 32 _ rfl w2.heap.size 0 rfl [.int .i64 p, .int .i64 sl] _ I7w Tryz.underlying32 rfl (by kernel_rfl) ?_)
    | (with_reducible refine wpList_load_mid rfl 30 _ rfl w.heap.size 0 rfl [.int .i64 c.k, .int .i64 c.tc, .int .i64 c.tn, .int .i64 c.tt, .int .i64 c.tk, .int .i64 c.sh, va, vb, .bool c.cm] _ C7w Tryz.underlying30 rfl (by kernel_rfl) ?_)
    | (with_reducible refine wpList_buildTo rfl 39 _ rfl _ rfl #[.int .i64 0, .int .i64 0, .int .i64 0, .int .i64 0, .int .i64 0, .int .i64 0, .int .i64 0] (by kernel_rfl) ?_)
    | (go_at_call 29
       refine HAT.out.mono ?_
       rintro e w8 ⟨rfl, hb⟩
       have G8 := G7.out.on hb
       have e16 : w8.cell? ⟨gb, 16, none⟩ = some (.int .i64 r0.sq) := hold_cell G8 16 rfl
       have f16 : w8.frozen? ⟨gb, 16, none⟩ = false := hold_soft G8 16
       have G9 := Lib.hid (show Hold (w8.setCell ⟨gb, 16, none⟩ (.int .i64 n)) gb 41 [.int .i64 (M.withA r0 n (M.dep r0) r0.kp).ir, .int .i64 (M.withA r0 n (M.dep r0) r0.kp).is, .int .i64 (M.withA r0 n (M.dep r0) r0.kp).st, .int .i64 (M.withA r0 n (M.dep r0) r0.kp).pn, .int .i64 (M.withA r0 n (M.dep r0) r0.kp).pr, .int .i64 (M.withA r0 n (M.dep r0) r0.kp).bn, .int .i64 (M.withA r0 n (M.dep r0) r0.kp).br, .int .i64 (M.withA r0 n (M.dep r0) r0.kp).c.k, .int .i64 (M.withA r0 n (M.dep r0) r0.kp).c.tc, .int .i64 (M.withA r0 n (M.dep r0) r0.kp).c.tn, .int .i64 (M.withA r0 n (M.dep r0) r0.kp).c.tt, .int .i64 (M.withA r0 n (M.dep r0) r0.kp).c.tk, .int .i64 (M.withA r0 n (M.dep r0) r0.kp).c.sh, ua, ub, .bool (M.withA r0 n (M.dep r0) r0.kp).c.cm, .int .i64 (M.withA r0 n (M.dep r0) r0.kp).sq, .int .i64 (M.withA r0 n (M.dep r0) r0.kp).d0, .int .i64 (M.withA r0 n (M.dep r0) r0.kp).d1, .int .i64 (M.withA r0 n (M.dep r0) r0.kp).d2, .int .i64 (M.withA r0 n (M.dep r0) r0.kp).d3, .int .i64 (M.withA r0 n (M.dep r0) r0.kp).d4, .int .i64 (M.withA r0 n (M.dep r0) r0.kp).d5, .int .i64 (M.withA r0 n (M.dep r0) r0.kp).d6, .bool (M.withA r0 n (M.dep r0) r0.kp).kp] from hold_put G8 16 (.int .i64 n))
       have K9 := Wrote.cell w8 gb 16 (.int .i64 n)
       have Z9 := Lib.hid (K9.hold (Z7a.out.on hb) (by have := hgb.out; have := hz2.out; omega))
       have HB9 := Lib.hid (K9.below w.heap.size w (by have := hgb.out; have := hz2.out; omega) (below_on HB7.out hb))
       have TX9 := Lib.hid ((TX7.out.below hb).wrote G8 K9 (rv_ns (x := ⟨r0, ua, ub⟩) N1 N2))
       clear hb G8 K9)
    | (with_reducible refine store_hold rfl 39 _ _ rfl gb 17 rfl 41 [.int .i64 (d 0), .int .i64 (d 1), .int .i64 (d 2), .int .i64 (d 3), .int .i64 (d 4), .int .i64 (d 5), .int .i64 (d 6)] [.int .i64 (M.withA r0 n (M.dep r0) r0.kp).ir, .int .i64 (M.withA r0 n (M.dep r0) r0.kp).is, .int .i64 (M.withA r0 n (M.dep r0) r0.kp).st, .int .i64 (M.withA r0 n (M.dep r0) r0.kp).pn, .int .i64 (M.withA r0 n (M.dep r0) r0.kp).pr, .int .i64 (M.withA r0 n (M.dep r0) r0.kp).bn, .int .i64 (M.withA r0 n (M.dep r0) r0.kp).br, .int .i64 (M.withA r0 n (M.dep r0) r0.kp).c.k, .int .i64 (M.withA r0 n (M.dep r0) r0.kp).c.tc, .int .i64 (M.withA r0 n (M.dep r0) r0.kp).c.tn, .int .i64 (M.withA r0 n (M.dep r0) r0.kp).c.tt, .int .i64 (M.withA r0 n (M.dep r0) r0.kp).c.tk, .int .i64 (M.withA r0 n (M.dep r0) r0.kp).c.sh, ua, ub, .bool (M.withA r0 n (M.dep r0) r0.kp).c.cm, .int .i64 (M.withA r0 n (M.dep r0) r0.kp).sq, .int .i64 (M.withA r0 n (M.dep r0) r0.kp).d0, .int .i64 (M.withA r0 n (M.dep r0) r0.kp).d1, .int .i64 (M.withA r0 n (M.dep r0) r0.kp).d2, .int .i64 (M.withA r0 n (M.dep r0) r0.kp).d3, .int .i64 (M.withA r0 n (M.dep r0) r0.kp).d4, .int .i64 (M.withA r0 n (M.dep r0) r0.kp).d5, .int .i64 (M.withA r0 n (M.dep r0) r0.kp).d6, .bool (M.withA r0 n (M.dep r0) r0.kp).kp] [.int .i64 (M.withA r0 n d r0.kp).ir, .int .i64 (M.withA r0 n d r0.kp).is, .int .i64 (M.withA r0 n d r0.kp).st, .int .i64 (M.withA r0 n d r0.kp).pn, .int .i64 (M.withA r0 n d r0.kp).pr, .int .i64 (M.withA r0 n d r0.kp).bn, .int .i64 (M.withA r0 n d r0.kp).br, .int .i64 (M.withA r0 n d r0.kp).c.k, .int .i64 (M.withA r0 n d r0.kp).c.tc, .int .i64 (M.withA r0 n d r0.kp).c.tn, .int .i64 (M.withA r0 n d r0.kp).c.tt, .int .i64 (M.withA r0 n d r0.kp).c.tk, .int .i64 (M.withA r0 n d r0.kp).c.sh, ua, ub, .bool (M.withA r0 n d r0.kp).c.cm, .int .i64 (M.withA r0 n d r0.kp).sq, .int .i64 (M.withA r0 n d r0.kp).d0, .int .i64 (M.withA r0 n d r0.kp).d1, .int .i64 (M.withA r0 n d r0.kp).d2, .int .i64 (M.withA r0 n d r0.kp).d3, .int .i64 (M.withA r0 n d r0.kp).d4, .int .i64 (M.withA r0 n d r0.kp).d5, .int .i64 (M.withA r0 n d r0.kp).d6, .bool (M.withA r0 n d r0.kp).kp] rfl G9.out (by kernel_rfl) (of_decide_eq_true (by kernel_rfl)) (by kernel_rfl) rfl ?_
       intro w10 G10 K10
       have G10w := G10.cel.whole
       have Z10 := K10.hold Z9.out (by have := hgb.out; have := hz2.out; omega)
       have HB10 := Lib.hid (K10.below w.heap.size w (by have := hgb.out; have := hz2.out; omega) HB9.out)
       have TX10 := Lib.hid (TX9.out.wrote G9.out K10 (rv_ns (x := ⟨M.withA r0 n (M.dep r0) r0.kp, ua, ub⟩) N1 N2))
       have OF : ([.int .i64 (M.withA r0 n d r0.kp).ir, .int .i64 (M.withA r0 n d r0.kp).is, .int .i64 (M.withA r0 n d r0.kp).st, .int .i64 (M.withA r0 n d r0.kp).pn, .int .i64 (M.withA r0 n d r0.kp).pr, .int .i64 (M.withA r0 n d r0.kp).bn, .int .i64 (M.withA r0 n d r0.kp).br, .int .i64 (M.withA r0 n d r0.kp).c.k, .int .i64 (M.withA r0 n d r0.kp).c.tc, .int .i64 (M.withA r0 n d r0.kp).c.tn, .int .i64 (M.withA r0 n d r0.kp).c.tt, .int .i64 (M.withA r0 n d r0.kp).c.tk, .int .i64 (M.withA r0 n d r0.kp).c.sh, ua, ub, .bool (M.withA r0 n d r0.kp).c.cm, .int .i64 (M.withA r0 n d r0.kp).sq, .int .i64 (M.withA r0 n d r0.kp).d0, .int .i64 (M.withA r0 n d r0.kp).d1, .int .i64 (M.withA r0 n d r0.kp).d2, .int .i64 (M.withA r0 n d r0.kp).d3, .int .i64 (M.withA r0 n d r0.kp).d4, .int .i64 (M.withA r0 n d r0.kp).d5, .int .i64 (M.withA r0 n d r0.kp).d6, .bool (M.withA r0 n d r0.kp).kp] : List Value).all (·.oneCell') = true := rv_one (x := ⟨(M.withA r0 n d r0.kp), ua, ub⟩) U1 U2
       clear K10)
    | (with_reducible refine wpList_load_mid rfl 41 _ rfl gb 0 rfl [.int .i64 (M.withA r0 n d r0.kp).ir, .int .i64 (M.withA r0 n d r0.kp).is, .int .i64 (M.withA r0 n d r0.kp).st, .int .i64 (M.withA r0 n d r0.kp).pn, .int .i64 (M.withA r0 n d r0.kp).pr, .int .i64 (M.withA r0 n d r0.kp).bn, .int .i64 (M.withA r0 n d r0.kp).br, .int .i64 (M.withA r0 n d r0.kp).c.k, .int .i64 (M.withA r0 n d r0.kp).c.tc, .int .i64 (M.withA r0 n d r0.kp).c.tn, .int .i64 (M.withA r0 n d r0.kp).c.tt, .int .i64 (M.withA r0 n d r0.kp).c.tk, .int .i64 (M.withA r0 n d r0.kp).c.sh, ua, ub, .bool (M.withA r0 n d r0.kp).c.cm, .int .i64 (M.withA r0 n d r0.kp).sq, .int .i64 (M.withA r0 n d r0.kp).d0, .int .i64 (M.withA r0 n d r0.kp).d1, .int .i64 (M.withA r0 n d r0.kp).d2, .int .i64 (M.withA r0 n d r0.kp).d3, .int .i64 (M.withA r0 n d r0.kp).d4, .int .i64 (M.withA r0 n d r0.kp).d5, .int .i64 (M.withA r0 n d r0.kp).d6, .bool (M.withA r0 n d r0.kp).kp] _ G10w Tryz.underlying41 rfl (by kernel_rfl) ?_)
    | (with_reducible refine store_hold rfl 41 _ _ rfl (w.heap.size + 1) 0 rfl 41 [.int .i64 (M.withA r0 n d r0.kp).ir, .int .i64 (M.withA r0 n d r0.kp).is, .int .i64 (M.withA r0 n d r0.kp).st, .int .i64 (M.withA r0 n d r0.kp).pn, .int .i64 (M.withA r0 n d r0.kp).pr, .int .i64 (M.withA r0 n d r0.kp).bn, .int .i64 (M.withA r0 n d r0.kp).br, .int .i64 (M.withA r0 n d r0.kp).c.k, .int .i64 (M.withA r0 n d r0.kp).c.tc, .int .i64 (M.withA r0 n d r0.kp).c.tn, .int .i64 (M.withA r0 n d r0.kp).c.tt, .int .i64 (M.withA r0 n d r0.kp).c.tk, .int .i64 (M.withA r0 n d r0.kp).c.sh, ua, ub, .bool (M.withA r0 n d r0.kp).c.cm, .int .i64 (M.withA r0 n d r0.kp).sq, .int .i64 (M.withA r0 n d r0.kp).d0, .int .i64 (M.withA r0 n d r0.kp).d1, .int .i64 (M.withA r0 n d r0.kp).d2, .int .i64 (M.withA r0 n d r0.kp).d3, .int .i64 (M.withA r0 n d r0.kp).d4, .int .i64 (M.withA r0 n d r0.kp).d5, .int .i64 (M.withA r0 n d r0.kp).d6, .bool (M.withA r0 n d r0.kp).kp] [.int .i64 0, .int .i64 0, .int .i64 0, .int .i64 0, .int .i64 0, .int .i64 0, .int .i64 0, .int .i64 0, .int .i64 0, .int .i64 0, .int .i64 0, .int .i64 0, .int .i64 0, .slice none 0 0, .slice none 0 0, .bool false, .int .i64 0, .int .i64 0, .int .i64 0, .int .i64 0, .int .i64 0, .int .i64 0, .int .i64 0, .int .i64 0, .bool false] [.int .i64 (M.withA r0 n d r0.kp).ir, .int .i64 (M.withA r0 n d r0.kp).is, .int .i64 (M.withA r0 n d r0.kp).st, .int .i64 (M.withA r0 n d r0.kp).pn, .int .i64 (M.withA r0 n d r0.kp).pr, .int .i64 (M.withA r0 n d r0.kp).bn, .int .i64 (M.withA r0 n d r0.kp).br, .int .i64 (M.withA r0 n d r0.kp).c.k, .int .i64 (M.withA r0 n d r0.kp).c.tc, .int .i64 (M.withA r0 n d r0.kp).c.tn, .int .i64 (M.withA r0 n d r0.kp).c.tt, .int .i64 (M.withA r0 n d r0.kp).c.tk, .int .i64 (M.withA r0 n d r0.kp).c.sh, ua, ub, .bool (M.withA r0 n d r0.kp).c.cm, .int .i64 (M.withA r0 n d r0.kp).sq, .int .i64 (M.withA r0 n d r0.kp).d0, .int .i64 (M.withA r0 n d r0.kp).d1, .int .i64 (M.withA r0 n d r0.kp).d2, .int .i64 (M.withA r0 n d r0.kp).d3, .int .i64 (M.withA r0 n d r0.kp).d4, .int .i64 (M.withA r0 n d r0.kp).d5, .int .i64 (M.withA r0 n d r0.kp).d6, .bool (M.withA r0 n d r0.kp).kp] rfl Z10 (by kernel_rfl) (of_decide_eq_true (by kernel_rfl)) (by kernel_rfl) OF ?_; intro w11 H11 K11; have HB11 := Lib.hid (K11.below w.heap.size w (by omega) HB10.out))
    | fail)
    refine bodyPost_ret (results_cv rfl rfl rfl H11.cel.whole _ Tryz.underlying41 rfl (by kernel_rfl)) rfl ?_
    rw [HE.out]
    exact ⟨ua, ub, rfl, (TX10.out.wrote Z10 K11).same (by rw [HR0.out]; rfl), HB11.out⟩
end Go.Proofs.YtpknkhgkejkpkaaGreat
