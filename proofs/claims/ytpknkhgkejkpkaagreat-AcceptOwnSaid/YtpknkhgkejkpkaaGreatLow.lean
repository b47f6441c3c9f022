/- The walk of AcceptOwn; no conditions. -/
import Derived.Test.YtpknkhgkejkpkaaGreatAwk
import Derived.Test.YtpknkhgkejkpkaaGreatSml
import Derived.Test.YtpknkhgkejkpkaaGreatMor
import Derived.Test.YtpknkhgkejkpkaaGreatBeg
import Derived.Test.YtpknkhgkejkpkaaGreatNol
import Derived.Test.YtpknkhgkejkpkaaGreatPd
import Derived.Test.YtpknkhgkejkpkaaGreatIfr
namespace Go.Proofs.YtpknkhgkejkpkaaGreat
open Go.ChangeShapes Go.WideShapes Go.ChangeAt Go.RowKit

attribute [local go_sem ↓] run_same_inst
theorem beg_mod' {X : List Rv} {p : Int} {c : M.Cmd} (F : M.Mod c) : M.Mod (begX X p c).1.c := by
  unfold begX
  split
  · exact M.zero_mod
  · split
    · exact M.zero_mod
    · exact F
theorem cell_dep {w : World} {g : Nat} {t : TypeId} {r : M.Rec} {xa xb : Value} (h : Hold w g t (Rv.cells ⟨r, xa, xb⟩)) : ∀ i, i < 7 → w.cell? ⟨g, 17 + i, none⟩ = some (.int .i64 (M.dep r i))
  | 0, _ => hold_cell h 17 rfl
  | 1, _ => hold_cell h 18 rfl
  | 2, _ => hold_cell h 19 rfl
  | 3, _ => hold_cell h 20 rfl
  | 4, _ => hold_cell h 21 rfl
  | 5, _ => hold_cell h 22 rfl
  | 6, _ => hold_cell h 23 rfl
  | _ + 7, h => by omega
set_option maxHeartbeats 16000000 in
set_option maxRecDepth 100000 in
theorem own_law (p : Int) (c : M.Cmd) (w : World) {v va vb : Value} {X : List Rv} (h : Rows w v X) (_hq : Sqs X) (g : Rds w va c.rs) (g' : Wrs w vb c.ws) :
    Calls Tryz.prog 7 #[v, .int .i64 p, .agg #[.int .i64 c.k, .int .i64 c.tc, .int .i64 c.tn, .int .i64 c.tt, .int .i64 c.tk, .int .i64 c.sh, va, vb, .bool c.cm]] w fun e w' => e = .returned (.bool true) ∧ Below w.heap.size w w' := by
  obtain ⟨A, cc, rfl⟩ := rowN_sliceOf h.row
  have H0 := Lib.hid (show Hold (w.alloc (.cells #[.int .i64 c.k, .int .i64 c.tc, .int .i64 c.tn, .int .i64 c.tt, .int .i64 c.tk, .int .i64 c.sh, va, vb, .bool c.cm] 30)) w.heap.size 30 [.int .i64 c.k, .int .i64 c.tc, .int .i64 c.tn, .int .i64 c.tt, .int .i64 c.tk, .int .i64 c.sh, va, vb, .bool c.cm] from Hold.new w [.int .i64 c.k, .int .i64 c.tc, .int .i64 c.tn, .int .i64 c.tt, .int .i64 c.tk, .int .i64 c.sh, va, vb, .bool c.cm] 30)
  have HB := Lib.hid (show Below w.heap.size w (w.alloc (.cells #[.int .i64 c.k, .int .i64 c.tc, .int .i64 c.tn, .int .i64 c.tt, .int .i64 c.tk, .int .i64 c.sh, va, vb, .bool c.cm] 30)) from below_new (Below.refl _ _))
  have HX := Lib.hid h
  have HC := Lib.hid g
  have HC' := Lib.hid g'
  have HF := few_rows (h.below HB.out)
  clear h _hq g g'
  rcases hf : fewX X with _ | _
  · rw [hf] at HF
    have HFW := Lib.hid HF
    clear HF hf
    go_enter Tryz.func7, Tryz.ntmps7
    go_wp2_with (first
    | (go_at_call 8
       refine HFW.out.mono ?_
       rintro e w1 ⟨rfl, hb⟩
       have HB1 := Lib.hid (below_on HB.out hb)
       have KC1 := Lib.hid (H0.out.on hb)
       clear hb)
    | (go_at_call 10
       refine (awake_any _).mono ?_
       rintro e wz ⟨rfl, hb⟩
       have HBZ := Lib.hid (below_on HB1.out hb)
       clear hb)
    | fail)
    go_ret
    exact ⟨rfl, HBZ.out⟩
  rw [hf] at HF
  have HFW := Lib.hid HF
  have hX := fewX_mod hf
  have hl : X.length ≤ 1000 := Nat.le_trans (fewX_len hf) (by decide)
  clear HF hf
  rcases hg : M.modB c with _ | _
  · have HG := Lib.hid hg
    clear hg
    go_enter Tryz.func7, Tryz.ntmps7
    go_wp2_with (first
    | (go_at_call 8
       refine HFW.out.mono ?_
       rintro e w1 ⟨rfl, hb⟩
       have HB1 := Lib.hid (below_on HB.out hb)
       have KC1 := Lib.hid (H0.out.on hb)
       have F1 := few_one (w := w1) (b := w1.heap.size) rfl c (HC.out.below HB1.out) (HC'.out.below HB1.out)
       rw [HG.out] at F1
       have HF1 := Lib.hid F1
       have HBa1 := Lib.hid (below_new (o := .cells #[.int .i64 c.k, .int .i64 c.tc, .int .i64 c.tn, .int .i64 c.tt, .int .i64 c.tk, .int .i64 c.sh, va, vb, .bool c.cm] 30) (Below.refl w1.heap.size w1))
       have C1w := KC1.out.cel.whole
       clear F1
       clear hb)
    | (with_reducible refine wpList_load_mid_g ?_ 30 _ rfl w.heap.size 0 rfl [.int .i64 c.k, .int .i64 c.tc, .int .i64 c.tn, .int .i64 c.tt, .int .i64 c.tk, .int .i64 c.sh, va, vb, .bool c.cm] _ C1w Tryz.underlying30 rfl (by kernel_rfl) ?_; kernel_rfl)
    | (go_at_call 9
       refine HF1.out.mono ?_
       rintro e w2 ⟨rfl, hb⟩
       have hb2 := below_on HBa1.out hb
       have HB2 := Lib.hid (below_on HB1.out hb2)
       have KC2 := Lib.hid (KC1.out.on hb2)
       clear hb hb2 C1w)
    | (go_at_call 10
       refine (awake_any _).mono ?_
       rintro e wz ⟨rfl, hb⟩
       have HBZ := Lib.hid (below_on HB2.out hb)
       clear hb)
    | fail)
    go_ret
    exact ⟨rfl, HBZ.out⟩
  have HG := Lib.hid hg
  have F := M.modB_iff.1 hg
  clear hg
  rcases hr : rightsX X with _ | _
  · have HRX := Lib.hid hr
    clear hr
    go_enter Tryz.func7, Tryz.ntmps7
    go_wp2_with (first
    | (go_at_call 8
       refine HFW.out.mono ?_
       rintro e w1 ⟨rfl, hb⟩
       have HB1 := Lib.hid (below_on HB.out hb)
       have KC1 := Lib.hid (H0.out.on hb)
       have F1 := few_one (w := w1) (b := w1.heap.size) rfl c (HC.out.below HB1.out) (HC'.out.below HB1.out)
       rw [HG.out] at F1
       have HF1 := Lib.hid F1
       have HBa1 := Lib.hid (below_new (o := .cells #[.int .i64 c.k, .int .i64 c.tc, .int .i64 c.tn, .int .i64 c.tt, .int .i64 c.tk, .int .i64 c.sh, va, vb, .bool c.cm] 30) (Below.refl w1.heap.size w1))
       have C1w := KC1.out.cel.whole
       clear F1
       clear hb)
    | (with_reducible refine wpList_load_mid_g ?_ 30 _ rfl w.heap.size 0 rfl [.int .i64 c.k, .int .i64 c.tc, .int .i64 c.tn, .int .i64 c.tt, .int .i64 c.tk, .int .i64 c.sh, va, vb, .bool c.cm] _ C1w Tryz.underlying30 rfl (by kernel_rfl) ?_; kernel_rfl)
    | (go_at_call 9
       refine HF1.out.mono ?_
       rintro e w2 ⟨rfl, hb⟩
       have hb2 := below_on HBa1.out hb
       have HB2 := Lib.hid (below_on HB1.out hb2)
       have KC2 := Lib.hid (KC1.out.on hb2)
       clear hb hb2 C1w)
    | (go_at_call 17
       refine (rightsX_any (HX.out.below HB2.out) hX hl).mono ?_
       rintro e w3 ⟨rfl, hb⟩
       rw [HRX.out]
       have HB3 := Lib.hid (below_on HB2.out hb)
       have KC3 := Lib.hid (KC2.out.on hb)
       have C3w := KC3.out.cel.whole
       clear hb)
    | (go_at_call 10
       refine (awake_any _).mono ?_
       rintro e wz ⟨rfl, hb⟩
       have HBZ := Lib.hid (below_on HB3.out hb)
       clear hb)
    | fail)
    go_ret
    exact ⟨rfl, HBZ.out⟩
  have HRX := Lib.hid hr
  have R := rights_of hr
  clear hr
  obtain ⟨s, hs⟩ : ∃ s, s = begX X p c := ⟨_, rfl⟩
  have hrm := beg_mod' (X := X) (p := p) F
  rw [← hs] at hrm
  obtain ⟨r, er⟩ := s
  have HRM := Lib.hid (show M.Mod r.c from hrm)
  have HS := Lib.hid hs
  have hs1 : (begX X p c).1 = r := by rw [← hs]
  have hs2 : (begX X p c).2 = er := by rw [← hs]
  clear hs hrm
  by_cases he : er = 0
  rotate_left
  · have hz : r = M.zrec := by rw [← hs1]; exact beg_err (by rw [hs2]; exact he)
    obtain ⟨q1, q2⟩ := neI he
    clear hs1 hs2 he R HRM
    subst hz
    go_enter Tryz.func7, Tryz.ntmps7
    go_wp2_with (first
    | (go_at_call 8
       refine HFW.out.mono ?_
       rintro e w1 ⟨rfl, hb⟩
       have HB1 := Lib.hid (below_on HB.out hb)
       have KC1 := Lib.hid (H0.out.on hb)
       have F1 := few_one (w := w1) (b := w1.heap.size) rfl c (HC.out.below HB1.out) (HC'.out.below HB1.out)
       rw [HG.out] at F1
       have HF1 := Lib.hid F1
       have HBa1 := Lib.hid (below_new (o := .cells #[.int .i64 c.k, .int .i64 c.tc, .int .i64 c.tn, .int .i64 c.tt, .int .i64 c.tk, .int .i64 c.sh, va, vb, .bool c.cm] 30) (Below.refl w1.heap.size w1))
       have C1w := KC1.out.cel.whole
       clear F1
       clear hb)
    | (with_reducible refine wpList_load_mid_g ?_ 30 _ rfl w.heap.size 0 rfl [.int .i64 c.k, .int .i64 c.tc, .int .i64 c.tn, .int .i64 c.tt, .int .i64 c.tk, .int .i64 c.sh, va, vb, .bool c.cm] _ C1w Tryz.underlying30 rfl (by kernel_rfl) ?_; kernel_rfl)
    | (go_at_call 9
       refine HF1.out.mono ?_
       rintro e w2 ⟨rfl, hb⟩
       have hb2 := below_on HBa1.out hb
       have HB2 := Lib.hid (below_on HB1.out hb2)
       have KC2 := Lib.hid (KC1.out.on hb2)
       clear hb hb2 C1w)
    | (go_at_call 17
       refine (rightsX_any (HX.out.below HB2.out) hX hl).mono ?_
       rintro e w3 ⟨rfl, hb⟩
       rw [HRX.out]
       have HB3 := Lib.hid (below_on HB2.out hb)
       have KC3 := Lib.hid (KC2.out.on hb)
       have C3w := KC3.out.cel.whole
       clear hb)
    | (with_reducible refine wpList_load_mid rfl 30 _ rfl w.heap.size 0 rfl [.int .i64 c.k, .int .i64 c.tc, .int .i64 c.tn, .int .i64 c.tt, .int .i64 c.tk, .int .i64 c.sh, va, vb, .bool c.cm] _ C3w Tryz.underlying30 rfl (by kernel_rfl) ?_)
    | (go_at_call 11
       have HA := begin_any (HX.out.below HB3.out) hl hX p c (HC.out.below HB3.out) (HC'.out.below HB3.out) F
       rw [← HS.out] at HA
       refine HA.mono ?_
       clear HA
       rintro e w4 ⟨xa, xb, rfl, t1, hb⟩
       have HB4 := Lib.hid (below_on HB3.out hb)
       have KC4 := Lib.hid (KC3.out.on hb)
       have T4 := Lib.hid t1
       have o3 : (Rv.cells ⟨M.zrec, xa, xb⟩).all (·.oneCell') = true := rv_one (rds_one t1.rs) (wrs_one t1.ws)
       clear hb t1)
    | (with_reducible refine store_freshA rfl 41 _ _ rfl w4.heap.size rfl 41 _ (Rv.cells ⟨M.zrec, xa, xb⟩) rfl rfl rfl (rv_size _) o3 ?_
       intro w5 S5 b5
       have HB5 := Lib.hid (below_on HB4.out b5)
       have KC5 := Lib.hid (KC4.out.on b5)
       have T5 := Lib.hid (T4.out.below b5)
       have KS5 := Lib.hid S5
       have S5w := S5.cel.whole
       clear b5 S5)
    | (with_reducible refine wpList_load_mid rfl 41 _ rfl w4.heap.size 0 rfl (Rv.cells ⟨M.zrec, xa, xb⟩) _ S5w Tryz.underlying41 rfl (by kernel_rfl) ?_)
    | (with_reducible refine wpList_buildTo rfl 41 _ rfl _ rfl (Rv.cells ⟨M.zrec, NS, NS⟩).toArray (by kernel_rfl) ?_)
    | (go_at_call 13
       have HA := dsame_rec (w := w5) M.zrec M.zrec T5.out.rs T5.out.ws (Rds.nil _) (Wrs.nil _) (by decide) (by decide)
       rw [M.sameRec_self] at HA
       refine HA.mono ?_
       clear HA
       rintro e w6 ⟨rfl, hb⟩
       have HB6 := Lib.hid (below_on HB5.out hb)
       clear hb)
    | (go_at_call 10
       refine (awake_any _).mono ?_
       rintro e wz ⟨rfl, hb⟩
       have HBZ := Lib.hid (below_on HB6.out hb)
       clear hb)
    | fail)
    go_ret
    exact ⟨rfl, HBZ.out⟩
  obtain ⟨q1, q2⟩ := eqI he
  have B := beg_ok (X := X) (p := p) (c := c) (by rw [hs2]; exact he)
  have hrb : r = begR X p c := hs1.symm.trans B.rcd
  have HRR := Lib.hid (show M.rightR r = true by rw [hrb]; exact begR_right R B)
  have hri : r.ir = p := by rw [hrb]; rfl
  have hrs : r.is = nextSlot p (rcs X) := by rw [hrb]; rfl
  obtain ⟨e1, e1'⟩ := eqI hri
  have e2 : r.kp = true := by rw [hrb]; rfl
  obtain ⟨e3, e3'⟩ := eqI (show r.st = 1 by rw [hrb]; rfl)
  have hdep : ∀ i, i < 7 → M.dep r i = atD X (p, nextSlot p (rcs X)) c (fun _ => 0) i := fun i hi => by
    rw [hrb]; unfold begR; rw [dep_withA _ _ _ _ i hi]
  have hab := slot_above B.slot
  have HNE := Lib.hid (show ∀ x ∈ X, M.eq2 x.r.ir x.r.is r.ir r.is = false from fun x hx => by
    rw [Bool.eq_false_iff]
    intro e
    obtain ⟨h1, h2⟩ := M.eq2_iff.1 e
    have := hab.2 x.r (List.mem_map.2 ⟨x, hx, rfl⟩) (h1.trans hri)
    omega)
  have HDP := Lib.hid (show ∀ (k : Nat) (x : Rv), X[k]? = some x → lastB (keysOf X) k = true → x.r.st ≠ 0 → M.interB x.r.c c = true → x.r.is ≤ M.dep r x.r.ir.toNat from fun k x hx h1 h2 h3 => by
    have hxm : x ∈ X := List.mem_of_getElem? hx
    have hi := (M.pairB_iff.1 (M.rightR_iff.1 (R x hxm)).inst).1
    rw [hdep _ (by omega)]
    refine at_dep (p, nextSlot p (rcs X)) c _ hx h1 ?_ h2 h3 (R x hxm)
    have := HNE.out x hxm
    rw [hri, hrs] at this
    exact this)
  have HRT := Lib.hid (show ∀ x ∈ X, 0 ≤ x.r.ir ∧ x.r.ir ≤ 6 from fun x hx => (M.pairB_iff.1 (M.rightR_iff.1 (R x hx)).inst).1)
  clear hs1 hs2 he R hrb hri hrs hdep hab B
  go_enter Tryz.func7, Tryz.ntmps7
  go_wp2_with (first
  | (go_at_call 8
     refine HFW.out.mono ?_
     rintro e w1 ⟨rfl, hb⟩
     have HB1 := Lib.hid (below_on HB.out hb)
     have KC1 := Lib.hid (H0.out.on hb)
     have F1 := few_one (w := w1) (b := w1.heap.size) rfl c (HC.out.below HB1.out) (HC'.out.below HB1.out)
     rw [HG.out] at F1
     have HF1 := Lib.hid F1
     have HBa1 := Lib.hid (below_new (o := .cells #[.int .i64 c.k, .int .i64 c.tc, .int .i64 c.tn, .int .i64 c.tt, .int .i64 c.tk, .int .i64 c.sh, va, vb, .bool c.cm] 30) (Below.refl w1.heap.size w1))
     have C1w := KC1.out.cel.whole
     clear F1
     clear hb)
  | (with_reducible refine wpList_load_mid_g ?_ 30 _ rfl w.heap.size 0 rfl [.int .i64 c.k, .int .i64 c.tc, .int .i64 c.tn, .int .i64 c.tt, .int .i64 c.tk, .int .i64 c.sh, va, vb, .bool c.cm] _ C1w Tryz.underlying30 rfl (by kernel_rfl) ?_; kernel_rfl)
  | (go_at_call 9
     refine HF1.out.mono ?_
     rintro e w2 ⟨rfl, hb⟩
     have hb2 := below_on HBa1.out hb
     have HB2 := Lib.hid (below_on HB1.out hb2)
     have KC2 := Lib.hid (KC1.out.on hb2)
     clear hb hb2 C1w)
  | (go_at_call 17
     refine (rightsX_any (HX.out.below HB2.out) hX hl).mono ?_
     rintro e w3 ⟨rfl, hb⟩
     rw [HRX.out]
     have HB3 := Lib.hid (below_on HB2.out hb)
     have KC3 := Lib.hid (KC2.out.on hb)
     have C3w := KC3.out.cel.whole
     clear hb)
  | (with_reducible refine wpList_load_mid rfl 30 _ rfl w.heap.size 0 rfl [.int .i64 c.k, .int .i64 c.tc, .int .i64 c.tn, .int .i64 c.tt, .int .i64 c.tk, .int .i64 c.sh, va, vb, .bool c.cm] _ C3w Tryz.underlying30 rfl (by kernel_rfl) ?_)
  | (go_at_call 11
     have HA := begin_any (HX.out.below HB3.out) hl hX p c (HC.out.below HB3.out) (HC'.out.below HB3.out) F
     rw [← HS.out] at HA
     refine HA.mono ?_
     clear HA
     rintro e w4 ⟨xa, xb, rfl, t1, hb⟩
     have HB4 := Lib.hid (below_on HB3.out hb)
     have KC4 := Lib.hid (KC3.out.on hb)
     have T4 := Lib.hid t1
     have o3 : (Rv.cells ⟨r, xa, xb⟩).all (·.oneCell') = true := rv_one (rds_one t1.rs) (wrs_one t1.ws)
     clear hb t1)
  | (with_reducible refine store_freshA rfl 41 _ _ rfl w4.heap.size rfl 41 _ (Rv.cells ⟨r, xa, xb⟩) rfl rfl rfl (rv_size _) o3 ?_
     intro w5 S5 b5
     have HB5 := Lib.hid (below_on HB4.out b5)
     have KC5 := Lib.hid (KC4.out.on b5)
     have T5 := Lib.hid (T4.out.below b5)
     have KS5 := Lib.hid S5
     have S5w := S5.cel.whole
     clear b5 S5)
  | fail)
  go_loopw [46] (fun i wr => ∃ k : Nat, i = .int .i64 k ∧ k ≤ X.length ∧ Hid (Below w5.heap.size w5 wr)) (fun i _ => X.length - (intOf i).toNat)
  case atStart => exact ⟨0, rfl, Nat.zero_le _, Lib.hid (Below.refl _ _)⟩
  case round =>
    obtain ⟨k, rfl, hk, HW⟩ := hrel
    obtain ⟨wq, hwq⟩ : ∃ wq, wq = wr := ⟨_, rfl⟩
    subst hwq
    by_cases hlt : k < X.length
    rotate_left
    · obtain rfl : k = X.length := by omega
      have KSZ := Lib.hid (KS5.out.on HW.out)
      have TZ := Lib.hid (T5.out.below HW.out)
      have HBY := Lib.hid (below_on HB5.out HW.out)
      have z0 : wq.cell? ⟨w4.heap.size, 0, none⟩ = some (.int .i64 r.ir) := hold_cell KSZ.out 0 rfl
      have z2 : wq.cell? ⟨w4.heap.size, 2, none⟩ = some (.int .i64 r.st) := hold_cell KSZ.out 2 rfl
      have z24 : wq.cell? ⟨w4.heap.size, 24, none⟩ = some (.bool r.kp) := hold_cell KSZ.out 24 rfl
      have SZw := KSZ.out.cel.whole
      go_wp2_with (first
        | (with_reducible refine wpList_load_mid_g ?_ 41 _ rfl w4.heap.size 0 rfl (Rv.cells ⟨r, xa, xb⟩) _ SZw Tryz.underlying41 rfl (by kernel_rfl) ?_; kernel_rfl)
        | (go_at_call 25
           refine (right_rec r TZ.out.rs TZ.out.ws HRM.out.l HRM.out.l').mono ?_
           rintro e wy ⟨rfl, hb⟩
           rw [HRR.out]
           have HBY1 := Lib.hid (below_on HBY.out hb)
           clear hb)
        | (go_at_call 10
           refine (awake_any _).mono ?_
           rintro e wz ⟨rfl, hb⟩
           have HBZ := Lib.hid (below_on HBY1.out hb)
           clear hb)
        | fail)
      go_ret
      exact ⟨rfl, HBZ.out⟩
    obtain ⟨x, hx⟩ : ∃ x, X[k]? = some x := ⟨_, List.getElem?_eq_getElem hlt⟩
    have hxm : x ∈ X := List.mem_of_getElem? hx
    have HBW := Lib.hid (below_on HB5.out HW.out)
    have hne := HNE.out x hxm
    have hrt := HRT.out x hxm
    have HMX := Lib.hid (hX x hxm)
    have HXR := Lib.hid (HX.out.below HBW.out)
    obtain ⟨b, o, rfl, hbl, hrr⟩ := rowN_range HXR.out.row hx
    have HTX := Lib.hid (HX.out.tx x hxm)
    have HKX := Lib.hid hx
    have HDX := Lib.hid (HDP.out k x hx)
    obtain ⟨xr, ya, yb⟩ := x
    have HRR' := Lib.hid (show wq.rangeAt b (o + k * 25) [.int .i64 xr.ir, .int .i64 xr.is, .int .i64 xr.st, .int .i64 xr.pn, .int .i64 xr.pr, .int .i64 xr.bn, .int .i64 xr.br, .int .i64 xr.c.k, .int .i64 xr.c.tc, .int .i64 xr.c.tn, .int .i64 xr.c.tt, .int .i64 xr.c.tk, .int .i64 xr.c.sh, ya, yb, .bool xr.c.cm, .int .i64 xr.sq, .int .i64 xr.d0, .int .i64 xr.d1, .int .i64 xr.d2, .int .i64 xr.d3, .int .i64 xr.d4, .int .i64 xr.d5, .int .i64 xr.d6, .bool xr.kp] from hrr)
    have oy : ([.int .i64 xr.ir, .int .i64 xr.is, .int .i64 xr.st, .int .i64 xr.pn, .int .i64 xr.pr, .int .i64 xr.bn, .int .i64 xr.br, .int .i64 xr.c.k, .int .i64 xr.c.tc, .int .i64 xr.c.tn, .int .i64 xr.c.tt, .int .i64 xr.c.tk, .int .i64 xr.c.sh, ya, yb, .bool xr.c.cm, .int .i64 xr.sq, .int .i64 xr.d0, .int .i64 xr.d1, .int .i64 xr.d2, .int .i64 xr.d3, .int .i64 xr.d4, .int .i64 xr.d5, .int .i64 xr.d6, .bool xr.kp] : List Value).all (·.oneCell') = true := rv_one (x := ⟨xr, ya, yb⟩) (rds_one HTX.out.rs) (wrs_one HTX.out.ws)
    have hk1 : (k : Int) < (X.length : Int) := by omega
    have hkn : ((k : Int) + 1).toNat = k + 1 := by omega
    have hk0 : (0 : Int) ≤ (k : Int) + 1 := by omega
    have hcap : X.length ≤ cc := HX.out.row.2.elim fun A' h => by
      obtain ⟨c', e, hc, -⟩ := h
      simp only [Value.slice.injEq] at e
      omega
    clear hx hxm hrr
    have HRRo := HRR'.out
    by_cases hcc : cc = k + 1
    · have hlen : X.length = k + 1 := by omega
      have HLE := Lib.hid (show true = lastB (keysOf X) k by rw [← noB_end (n := 0) (by omega)]; exact (noB_zero X k).symm)
      subst hcc
      go_wp2_with (first
        | (with_reducible refine wpList_load_mid rfl 41 _ rfl b (o + k * 25) rfl [.int .i64 xr.ir, .int .i64 xr.is, .int .i64 xr.st, .int .i64 xr.pn, .int .i64 xr.pr, .int .i64 xr.bn, .int .i64 xr.br, .int .i64 xr.c.k, .int .i64 xr.c.tc, .int .i64 xr.c.tn, .int .i64 xr.c.tt, .int .i64 xr.c.tk, .int .i64 xr.c.sh, ya, yb, .bool xr.c.cm, .int .i64 xr.sq, .int .i64 xr.d0, .int .i64 xr.d1, .int .i64 xr.d2, .int .i64 xr.d3, .int .i64 xr.d4, .int .i64 xr.d5, .int .i64 xr.d6, .bool xr.kp] _ HRRo Tryz.underlying41 rfl (by kernel_rfl) ?_)
        | (with_reducible refine store_freshA rfl 41 _ _ rfl wq.heap.size rfl 41 _ [.int .i64 xr.ir, .int .i64 xr.is, .int .i64 xr.st, .int .i64 xr.pn, .int .i64 xr.pr, .int .i64 xr.bn, .int .i64 xr.br, .int .i64 xr.c.k, .int .i64 xr.c.tc, .int .i64 xr.c.tn, .int .i64 xr.c.tt, .int .i64 xr.c.tk, .int .i64 xr.c.sh, ya, yb, .bool xr.c.cm, .int .i64 xr.sq, .int .i64 xr.d0, .int .i64 xr.d1, .int .i64 xr.d2, .int .i64 xr.d3, .int .i64 xr.d4, .int .i64 xr.d5, .int .i64 xr.d6, .bool xr.kp] rfl rfl rfl (by kernel_rfl) oy ?_
           intro w6 G6 b6
           have HW6 := Lib.hid (below_on HW.out b6)
           have KO6 := Lib.hid G6
           have KS6 := Lib.hid (KS5.out.on HW6.out)
           have o0 : w6.cell? ⟨wq.heap.size, 0, none⟩ = some (.int .i64 xr.ir) := hold_cell G6 0 rfl
           have o1 : w6.cell? ⟨wq.heap.size, 1, none⟩ = some (.int .i64 xr.is) := hold_cell G6 1 rfl
           have r0 : w6.cell? ⟨w4.heap.size, 0, none⟩ = some (.int .i64 r.ir) := hold_cell KS6.out 0 rfl
           have r1 : w6.cell? ⟨w4.heap.size, 1, none⟩ = some (.int .i64 r.is) := hold_cell KS6.out 1 rfl
           clear b6 G6)
        | fail)
      clear o0 o1 r0 r1
      go_loopw [11, 61] (fun l i wi => i = .int .i64 0 ∧ l = .bool true ∧ Hid (Below w6.heap.size w6 wi)) (fun _ _ _ => 0)
      case atStart => exact ⟨rfl, rfl, Lib.hid (Below.refl _ _)⟩
      case round =>
        obtain ⟨rfl, rfl, HW8⟩ := hrel
        have hzz : ((0 : Nat) : Int) = 0 := rfl
        go_wp2
        have HL := Lib.hid HLE.out
        obtain ⟨n, hn⟩ := Int.eq_ofNat_of_zero_le hrt.1
        have hn7 : n < 7 := by have := hrt.2; omega
        have hni : (n : Int) < 7 := by omega
        have hni0 : (0 : Int) ≤ (n : Int) := by omega
        obtain ⟨dv, hdv⟩ : ∃ dv, dv = M.dep r n := ⟨_, rfl⟩
        have HN := Lib.hid (show xr.ir = (n : Int) from hn)
        have HDV := Lib.hid hdv
        have HW6W := Lib.hid HW6.out
        · by_cases hst : xr.st = 0
          · obtain ⟨s1, s2⟩ := eqI hst
            clear hn hdv hrt hst
            have hbd : Below wr.heap.size wr wr.drew := (Below.refl _ _).drew
            have KOD := Lib.hid ((KO6.out.on HW8.out).on hbd)
            have KSD := Lib.hid ((KS6.out.on HW8.out).on hbd)
            have KCD := Lib.hid (((KC5.out.on HW6.out).on HW8.out).on hbd)
            have HBD := Lib.hid (below_on HW8.out hbd)
            clear hbd
            refine wp_region_held_drew (S := fun w' => w'.cell? ⟨wq.heap.size, 2, none⟩ = some (.int .i64 xr.st) ∧ w'.rangeAt wq.heap.size 7 [.int .i64 xr.c.k, .int .i64 xr.c.tc, .int .i64 xr.c.tn, .int .i64 xr.c.tt, .int .i64 xr.c.tk, .int .i64 xr.c.sh, ya, yb, .bool xr.c.cm] ∧ w'.rangeAt w.heap.size 0 [.int .i64 c.k, .int .i64 c.tc, .int .i64 c.tn, .int .i64 c.tt, .int .i64 c.tk, .int .i64 c.sh, va, vb, .bool c.cm] ∧ w'.cell? ⟨wq.heap.size, 0, none⟩ = some (.int .i64 (n : Int)) ∧ w'.cell? ⟨wq.heap.size, 1, none⟩ = some (.int .i64 xr.is) ∧ w'.cell? ⟨w4.heap.size, 17 + n, none⟩ = some (.int .i64 dv)) (by kernel_rfl) (by exact ⟨hold_cell KOD.out 2 rfl, rowRange_cmd (o := 0) KOD.out.cel.whole, KCD.out.cel.whole, (hold_cell KOD.out 0 rfl).trans (by rw [HN.out]), hold_cell KOD.out 1 rfl, by rw [HDV.out]; exact cell_dep KSD.out n hn7⟩) (fun hHeld => ?_)
            refine wpAnyH_take (i := 0) (oi := ⟨some 74, .move (.tmp 11), 4, _, _, none⟩) (v := ?_) rfl (by kernel_rfl) (by kernel_rfl) (by kernel_rfl) (fun _ _ _ h => h) (Or.inl ⟨by rfl, ?_⟩) (by assumption) ?_
            rotate_left
            · (intro w hSw; (try dsimp only at hSw); go_split_ands; go_simp; (try with_reducible rfl))
            (try simp only [Act.put]); (try simp only [List.setIfInBounds_toArray]); (try simp only [List.set_cons_succ]); (try simp only [List.set_cons_zero])
            refine wpAnyH_take (i := 1) (oi := ⟨some 75, .move (.tmp 74), 4, _, _, none⟩) (v := ?_) rfl (by kernel_rfl) (by kernel_rfl) (by kernel_rfl) (fun _ _ _ h => h) (Or.inl ⟨by rfl, ?_⟩) (by assumption) ?_
            rotate_left
            · (intro w hSw; (try dsimp only at hSw); go_split_ands; go_simp; (try with_reducible rfl))
            (try simp only [Act.put]); (try simp only [List.setIfInBounds_toArray]); (try simp only [List.set_cons_succ]); (try simp only [List.set_cons_zero])
            refine wpAnyH_take (i := 2) (oi := ⟨some 76, .fieldAddr 41 (.tmp 10) 1, 0, _, _, some (1, true)⟩) (v := ?_) rfl (by kernel_rfl) (by kernel_rfl) (by kernel_rfl) (fun _ _ _ h => h) (Or.inl ⟨by rfl, ?_⟩) (by assumption) ?_
            rotate_left
            · (intro w hSw; (try dsimp only at hSw); go_split_ands; go_simp; (try with_reducible rfl))
            (try simp only [Act.put]); (try simp only [List.setIfInBounds_toArray]); (try simp only [List.set_cons_succ]); (try simp only [List.set_cons_zero])
            refine wpAnyH_take (i := 3) (oi := ⟨some 77, .load 3 (.tmp 76), 3, _, _, some (1, true)⟩) (v := ?_) rfl (by kernel_rfl) (by kernel_rfl) (by kernel_rfl) (fun _ _ _ h => h) (Or.inl ⟨by rfl, ?_⟩) (by assumption) ?_
            rotate_left
            · (intro w hSw; (try dsimp only at hSw); go_split_ands; go_simp; (try with_reducible rfl))
            (try simp only [Act.put]); (try simp only [List.setIfInBounds_toArray]); (try simp only [List.set_cons_succ]); (try simp only [List.set_cons_zero])
            refine wpAnyH_take (i := 4) (oi := ⟨some 78, .binOp .neq 3 (.tmp 77) (.const (.int .i64 0)) 3, 4, _, _, some (1, true)⟩) (v := ?_) rfl (by kernel_rfl) (by kernel_rfl) (by kernel_rfl) (fun _ _ _ h => h) (Or.inl ⟨by rfl, ?_⟩) (by assumption) ?_
            rotate_left
            · (intro w hSw; (try dsimp only at hSw); go_split_ands; go_simp; (try with_reducible rfl))
            (try simp only [Act.put]); (try simp only [List.setIfInBounds_toArray]); (try simp only [List.set_cons_succ]); (try simp only [List.set_cons_zero])
            refine wpAnyH_take (i := 5) (oi := ⟨some 79, .pick (.tmp 75) (.tmp 78) (.const (.bool false)), 4, _, _, none⟩) (v := ?_) rfl (by kernel_rfl) (by kernel_rfl) (by kernel_rfl) (fun _ _ _ h => h) (Or.inl ⟨by rfl, ?_⟩) (by assumption) ?_
            rotate_left
            · (intro w hSw; (try dsimp only at hSw); go_split_ands; go_simp; (try with_reducible rfl))
            (try simp only [Act.put]); (try simp only [List.setIfInBounds_toArray]); (try simp only [List.set_cons_succ]); (try simp only [List.set_cons_zero])
            refine wpAnyH_take (i := 6) (oi := ⟨some 80, .move (.tmp 79), 4, _, _, none⟩) (v := ?_) rfl (by kernel_rfl) (by kernel_rfl) (by kernel_rfl) (fun _ _ _ h => h) (Or.inl ⟨by rfl, ?_⟩) (by assumption) ?_
            rotate_left
            · (intro w hSw; (try dsimp only at hSw); go_split_ands; go_simp; (try with_reducible rfl))
            (try simp only [Act.put]); (try simp only [List.setIfInBounds_toArray]); (try simp only [List.set_cons_succ]); (try simp only [List.set_cons_zero])
            refine wpAnyH_take (i := 7) (oi := ⟨some 81, .fieldAddr 41 (.tmp 10) 4, 0, _, _, some (6, true)⟩) (v := undef) rfl (by kernel_rfl) (by kernel_rfl) (by kernel_rfl) (fun _ _ _ h => h) (Or.inr ⟨by rfl, rfl⟩) (by assumption) ?_
            (try simp only [Act.put]); (try simp only [List.setIfInBounds_toArray]); (try simp only [List.set_cons_succ]); (try simp only [List.set_cons_zero])
            refine wpAnyH_take (i := 8) (oi := ⟨some 82, .load 30 (.tmp 81), 30, _, _, some (6, true)⟩) (v := undef) rfl (by kernel_rfl) (by kernel_rfl) (by kernel_rfl) (fun _ _ _ h => h) (Or.inr ⟨by rfl, rfl⟩) (by assumption) ?_
            (try simp only [Act.put]); (try simp only [List.setIfInBounds_toArray]); (try simp only [List.set_cons_succ]); (try simp only [List.set_cons_zero])
            refine wpAnyH_take (i := 9) (oi := ⟨some 83, .load 30 (.tmp 5), 30, _, _, some (6, true)⟩) (v := undef) rfl (by kernel_rfl) (by kernel_rfl) (by kernel_rfl) (fun _ _ _ h => h) (Or.inr ⟨by rfl, rfl⟩) (by assumption) ?_
            (try simp only [Act.put]); (try simp only [List.setIfInBounds_toArray]); (try simp only [List.set_cons_succ]); (try simp only [List.set_cons_zero])
            refine wpAnyH_take (i := 10) (oi := ⟨some 84, .call { callee := .value (.func 24), args := #[.tmp 82, .tmp 83], argTypes := #[30, 30] }, 4, _, _, some (6, true)⟩) (v := undef) rfl (by kernel_rfl) (by kernel_rfl) (by kernel_rfl) (fun _ _ _ h => h) (Or.inr ⟨by rfl, rfl⟩) (by assumption) ?_
            (try simp only [Act.put]); (try simp only [List.setIfInBounds_toArray]); (try simp only [List.set_cons_succ]); (try simp only [List.set_cons_zero])
            refine wpAnyH_take (i := 11) (oi := ⟨some 85, .pick (.tmp 80) (.tmp 84) (.const (.bool false)), 4, _, _, none⟩) (v := ?_) rfl (by kernel_rfl) (by kernel_rfl) (by kernel_rfl) (fun _ _ _ h => h) (Or.inl ⟨by rfl, ?_⟩) (by assumption) ?_
            rotate_left
            · (intro w hSw; (try dsimp only at hSw); go_split_ands; go_simp; (try with_reducible rfl))
            (try simp only [Act.put]); (try simp only [List.setIfInBounds_toArray]); (try simp only [List.set_cons_succ]); (try simp only [List.set_cons_zero])
            refine wpAnyH_take (i := 12) (oi := ⟨some 86, .move (.tmp 85), 4, _, _, none⟩) (v := ?_) rfl (by kernel_rfl) (by kernel_rfl) (by kernel_rfl) (fun _ _ _ h => h) (Or.inl ⟨by rfl, ?_⟩) (by assumption) ?_
            rotate_left
            · (intro w hSw; (try dsimp only at hSw); go_split_ands; go_simp; (try with_reducible rfl))
            (try simp only [Act.put]); (try simp only [List.setIfInBounds_toArray]); (try simp only [List.set_cons_succ]); (try simp only [List.set_cons_zero])
            refine wpAnyH_take (i := 13) (oi := ⟨some 87, .fieldAddr 41 (.tmp 10) 0, 0, _, _, some (12, true)⟩) (v := undef) rfl (by kernel_rfl) (by kernel_rfl) (by kernel_rfl) (fun _ _ _ h => h) (Or.inr ⟨by rfl, rfl⟩) (by assumption) ?_
            (try simp only [Act.put]); (try simp only [List.setIfInBounds_toArray]); (try simp only [List.set_cons_succ]); (try simp only [List.set_cons_zero])
            refine wpAnyH_take (i := 14) (oi := ⟨some 88, .fieldAddr 32 (.tmp 87) 0, 0, _, _, some (12, true)⟩) (v := undef) rfl (by kernel_rfl) (by kernel_rfl) (by kernel_rfl) (fun _ _ _ h => h) (Or.inr ⟨by rfl, rfl⟩) (by assumption) ?_
            (try simp only [Act.put]); (try simp only [List.setIfInBounds_toArray]); (try simp only [List.set_cons_succ]); (try simp only [List.set_cons_zero])
            refine wpAnyH_take (i := 15) (oi := ⟨some 89, .load 3 (.tmp 88), 3, _, _, some (12, true)⟩) (v := undef) rfl (by kernel_rfl) (by kernel_rfl) (by kernel_rfl) (fun _ _ _ h => h) (Or.inr ⟨by rfl, rfl⟩) (by assumption) ?_
            (try simp only [Act.put]); (try simp only [List.setIfInBounds_toArray]); (try simp only [List.set_cons_succ]); (try simp only [List.set_cons_zero])
            refine wpAnyH_take (i := 16) (oi := ⟨some 90, .fieldAddr 41 (.tmp 7) 6, 0, _, _, some (12, true)⟩) (v := undef) rfl (by kernel_rfl) (by kernel_rfl) (by kernel_rfl) (fun _ _ _ h => h) (Or.inr ⟨by rfl, rfl⟩) (by assumption) ?_
            (try simp only [Act.put]); (try simp only [List.setIfInBounds_toArray]); (try simp only [List.set_cons_succ]); (try simp only [List.set_cons_zero])
            refine wpAnyH_take (i := 17) (oi := ⟨some 91, .indexAddr 39 (.tmp 90) (.tmp 89), 0, _, _, some (12, true)⟩) (v := undef) rfl (by kernel_rfl) (by kernel_rfl) (by kernel_rfl) (fun _ _ _ h => h) (Or.inr ⟨by rfl, rfl⟩) (by assumption) ?_
            (try simp only [Act.put]); (try simp only [List.setIfInBounds_toArray]); (try simp only [List.set_cons_succ]); (try simp only [List.set_cons_zero])
            refine wpAnyH_take (i := 18) (oi := ⟨some 92, .load 3 (.tmp 91), 3, _, _, some (12, true)⟩) (v := undef) rfl (by kernel_rfl) (by kernel_rfl) (by kernel_rfl) (fun _ _ _ h => h) (Or.inr ⟨by rfl, rfl⟩) (by assumption) ?_
            (try simp only [Act.put]); (try simp only [List.setIfInBounds_toArray]); (try simp only [List.set_cons_succ]); (try simp only [List.set_cons_zero])
            refine wpAnyH_take (i := 19) (oi := ⟨some 93, .fieldAddr 41 (.tmp 10) 0, 0, _, _, some (12, true)⟩) (v := undef) rfl (by kernel_rfl) (by kernel_rfl) (by kernel_rfl) (fun _ _ _ h => h) (Or.inr ⟨by rfl, rfl⟩) (by assumption) ?_
            (try simp only [Act.put]); (try simp only [List.setIfInBounds_toArray]); (try simp only [List.set_cons_succ]); (try simp only [List.set_cons_zero])
            refine wpAnyH_take (i := 20) (oi := ⟨some 94, .fieldAddr 32 (.tmp 93) 1, 0, _, _, some (12, true)⟩) (v := undef) rfl (by kernel_rfl) (by kernel_rfl) (by kernel_rfl) (fun _ _ _ h => h) (Or.inr ⟨by rfl, rfl⟩) (by assumption) ?_
            (try simp only [Act.put]); (try simp only [List.setIfInBounds_toArray]); (try simp only [List.set_cons_succ]); (try simp only [List.set_cons_zero])
            refine wpAnyH_take (i := 21) (oi := ⟨some 95, .load 3 (.tmp 94), 3, _, _, some (12, true)⟩) (v := undef) rfl (by kernel_rfl) (by kernel_rfl) (by kernel_rfl) (fun _ _ _ h => h) (Or.inr ⟨by rfl, rfl⟩) (by assumption) ?_
            (try simp only [Act.put]); (try simp only [List.setIfInBounds_toArray]); (try simp only [List.set_cons_succ]); (try simp only [List.set_cons_zero])
            refine wpAnyH_take (i := 22) (oi := ⟨some 96, .binOp .lss 3 (.tmp 92) (.tmp 95) 3, 4, _, _, some (12, true)⟩) (v := undef) rfl (by kernel_rfl) (by kernel_rfl) (by kernel_rfl) (fun _ _ _ h => h) (Or.inr ⟨by rfl, rfl⟩) (by assumption) ?_
            (try simp only [Act.put]); (try simp only [List.setIfInBounds_toArray]); (try simp only [List.set_cons_succ]); (try simp only [List.set_cons_zero])
            refine wpAnyH_take (i := 23) (oi := ⟨some 97, .pick (.tmp 86) (.tmp 96) (.const (.bool false)), 4, _, _, none⟩) (v := ?_) rfl (by kernel_rfl) (by kernel_rfl) (by kernel_rfl) (fun _ _ _ h => h) (Or.inl ⟨by rfl, ?_⟩) (by assumption) ?_
            rotate_left
            · (intro w hSw; (try dsimp only at hSw); go_split_ands; go_simp; (try with_reducible rfl))
            (try simp only [Act.put]); (try simp only [List.setIfInBounds_toArray]); (try simp only [List.set_cons_succ]); (try simp only [List.set_cons_zero])
            refine wpAnyH_done (by kernel_rfl) ?_ _
            clear hHeld
            go_wp2
            refine ⟨?_, ?measure⟩
            iterate 26 (apply Exists.intro)
            (repeat apply Exists.intro)
            refine ⟨?rel, by rw [show (X.length : Int) = (k : Int) + 1 by omega, hlen]⟩
            case rel => exact ⟨k + 1, by go_num, hlt, Lib.hid (below_on HW6.out HBD.out)⟩
            case measure => simp [intOf]; omega
          · obtain ⟨s1, s2⟩ := neI hst
            rcases hi : M.interB xr.c c with _ | _
            · have HIV := Lib.hid hi
              clear hn hdv hrt hst hi
              have hbd : Below wr.heap.size wr wr.drew := (Below.refl _ _).drew
              have KOD := Lib.hid ((KO6.out.on HW8.out).on hbd)
              have KSD := Lib.hid ((KS6.out.on HW8.out).on hbd)
              have KCD := Lib.hid (((KC5.out.on HW6.out).on HW8.out).on hbd)
              have HBD := Lib.hid (below_on HW8.out hbd)
              clear hbd
              refine wp_region_held_drew (S := fun w' => w'.cell? ⟨wq.heap.size, 2, none⟩ = some (.int .i64 xr.st) ∧ w'.rangeAt wq.heap.size 7 [.int .i64 xr.c.k, .int .i64 xr.c.tc, .int .i64 xr.c.tn, .int .i64 xr.c.tt, .int .i64 xr.c.tk, .int .i64 xr.c.sh, ya, yb, .bool xr.c.cm] ∧ w'.rangeAt w.heap.size 0 [.int .i64 c.k, .int .i64 c.tc, .int .i64 c.tn, .int .i64 c.tt, .int .i64 c.tk, .int .i64 c.sh, va, vb, .bool c.cm] ∧ w'.cell? ⟨wq.heap.size, 0, none⟩ = some (.int .i64 (n : Int)) ∧ w'.cell? ⟨wq.heap.size, 1, none⟩ = some (.int .i64 xr.is) ∧ w'.cell? ⟨w4.heap.size, 17 + n, none⟩ = some (.int .i64 dv)) (by kernel_rfl) (by exact ⟨hold_cell KOD.out 2 rfl, rowRange_cmd (o := 0) KOD.out.cel.whole, KCD.out.cel.whole, (hold_cell KOD.out 0 rfl).trans (by rw [HN.out]), hold_cell KOD.out 1 rfl, by rw [HDV.out]; exact cell_dep KSD.out n hn7⟩) (fun hHeld => ?_)
              refine wpAnyH_take (i := 0) (oi := ⟨some 74, .move (.tmp 11), 4, _, _, none⟩) (v := ?_) rfl (by kernel_rfl) (by kernel_rfl) (by kernel_rfl) (fun _ _ _ h => h) (Or.inl ⟨by rfl, ?_⟩) (by assumption) ?_
              rotate_left
              · (intro w hSw; (try dsimp only at hSw); go_split_ands; go_simp; (try with_reducible rfl))
              (try simp only [Act.put]); (try simp only [List.setIfInBounds_toArray]); (try simp only [List.set_cons_succ]); (try simp only [List.set_cons_zero])
              refine wpAnyH_take (i := 1) (oi := ⟨some 75, .move (.tmp 74), 4, _, _, none⟩) (v := ?_) rfl (by kernel_rfl) (by kernel_rfl) (by kernel_rfl) (fun _ _ _ h => h) (Or.inl ⟨by rfl, ?_⟩) (by assumption) ?_
              rotate_left
              · (intro w hSw; (try dsimp only at hSw); go_split_ands; go_simp; (try with_reducible rfl))
              (try simp only [Act.put]); (try simp only [List.setIfInBounds_toArray]); (try simp only [List.set_cons_succ]); (try simp only [List.set_cons_zero])
              refine wpAnyH_take (i := 2) (oi := ⟨some 76, .fieldAddr 41 (.tmp 10) 1, 0, _, _, some (1, true)⟩) (v := ?_) rfl (by kernel_rfl) (by kernel_rfl) (by kernel_rfl) (fun _ _ _ h => h) (Or.inl ⟨by rfl, ?_⟩) (by assumption) ?_
              rotate_left
              · (intro w hSw; (try dsimp only at hSw); go_split_ands; go_simp; (try with_reducible rfl))
              (try simp only [Act.put]); (try simp only [List.setIfInBounds_toArray]); (try simp only [List.set_cons_succ]); (try simp only [List.set_cons_zero])
              refine wpAnyH_take (i := 3) (oi := ⟨some 77, .load 3 (.tmp 76), 3, _, _, some (1, true)⟩) (v := ?_) rfl (by kernel_rfl) (by kernel_rfl) (by kernel_rfl) (fun _ _ _ h => h) (Or.inl ⟨by rfl, ?_⟩) (by assumption) ?_
              rotate_left
              · (intro w hSw; (try dsimp only at hSw); go_split_ands; go_simp; (try with_reducible rfl))
              (try simp only [Act.put]); (try simp only [List.setIfInBounds_toArray]); (try simp only [List.set_cons_succ]); (try simp only [List.set_cons_zero])
              refine wpAnyH_take (i := 4) (oi := ⟨some 78, .binOp .neq 3 (.tmp 77) (.const (.int .i64 0)) 3, 4, _, _, some (1, true)⟩) (v := ?_) rfl (by kernel_rfl) (by kernel_rfl) (by kernel_rfl) (fun _ _ _ h => h) (Or.inl ⟨by rfl, ?_⟩) (by assumption) ?_
              rotate_left
              · (intro w hSw; (try dsimp only at hSw); go_split_ands; go_simp; (try with_reducible rfl))
              (try simp only [Act.put]); (try simp only [List.setIfInBounds_toArray]); (try simp only [List.set_cons_succ]); (try simp only [List.set_cons_zero])
              refine wpAnyH_take (i := 5) (oi := ⟨some 79, .pick (.tmp 75) (.tmp 78) (.const (.bool false)), 4, _, _, none⟩) (v := ?_) rfl (by kernel_rfl) (by kernel_rfl) (by kernel_rfl) (fun _ _ _ h => h) (Or.inl ⟨by rfl, ?_⟩) (by assumption) ?_
              rotate_left
              · (intro w hSw; (try dsimp only at hSw); go_split_ands; go_simp; (try with_reducible rfl))
              (try simp only [Act.put]); (try simp only [List.setIfInBounds_toArray]); (try simp only [List.set_cons_succ]); (try simp only [List.set_cons_zero])
              refine wpAnyH_take (i := 6) (oi := ⟨some 80, .move (.tmp 79), 4, _, _, none⟩) (v := ?_) rfl (by kernel_rfl) (by kernel_rfl) (by kernel_rfl) (fun _ _ _ h => h) (Or.inl ⟨by rfl, ?_⟩) (by assumption) ?_
              rotate_left
              · (intro w hSw; (try dsimp only at hSw); go_split_ands; go_simp; (try with_reducible rfl))
              (try simp only [Act.put]); (try simp only [List.setIfInBounds_toArray]); (try simp only [List.set_cons_succ]); (try simp only [List.set_cons_zero])
              refine wpAnyH_take (i := 7) (oi := ⟨some 81, .fieldAddr 41 (.tmp 10) 4, 0, _, _, some (6, true)⟩) (v := ?_) rfl (by kernel_rfl) (by kernel_rfl) (by kernel_rfl) (fun _ _ _ h => h) (Or.inl ⟨by rfl, ?_⟩) (by assumption) ?_
              rotate_left
              · (intro w hSw; (try dsimp only at hSw); go_split_ands; go_simp; (try with_reducible rfl))
              (try simp only [Act.put]); (try simp only [List.setIfInBounds_toArray]); (try simp only [List.set_cons_succ]); (try simp only [List.set_cons_zero])
              refine wpAnyH_take (i := 8) (oi := ⟨some 82, .load 30 (.tmp 81), 30, _, _, some (6, true)⟩) (v := .agg ([.int .i64 xr.c.k, .int .i64 xr.c.tc, .int .i64 xr.c.tn, .int .i64 xr.c.tt, .int .i64 xr.c.tk, .int .i64 xr.c.sh, ya, yb, .bool xr.c.cm] : List Value).toArray) rfl (by kernel_rfl) (by kernel_rfl) (by kernel_rfl) (fun _ _ _ h => h) (yieldsIf_load_mid (by rfl) 30 _ rfl wq.heap.size 7 rfl [.int .i64 xr.c.k, .int .i64 xr.c.tc, .int .i64 xr.c.tn, .int .i64 xr.c.tt, .int .i64 xr.c.tk, .int .i64 xr.c.sh, ya, yb, .bool xr.c.cm] _ (fun w hSw => hSw.2.1) Tryz.underlying30 rfl (by kernel_rfl)) (by assumption) ?_
              (try simp only [Act.put]); (try simp only [List.setIfInBounds_toArray]); (try simp only [List.set_cons_succ]); (try simp only [List.set_cons_zero])
              refine wpAnyH_take (i := 9) (oi := ⟨some 83, .load 30 (.tmp 5), 30, _, _, some (6, true)⟩) (v := .agg ([.int .i64 c.k, .int .i64 c.tc, .int .i64 c.tn, .int .i64 c.tt, .int .i64 c.tk, .int .i64 c.sh, va, vb, .bool c.cm] : List Value).toArray) rfl (by kernel_rfl) (by kernel_rfl) (by kernel_rfl) (fun _ _ _ h => h) (yieldsIf_load_mid (by rfl) 30 _ rfl w.heap.size 0 rfl [.int .i64 c.k, .int .i64 c.tc, .int .i64 c.tn, .int .i64 c.tt, .int .i64 c.tk, .int .i64 c.sh, va, vb, .bool c.cm] _ (fun w hSw => hSw.2.2.1) Tryz.underlying30 rfl (by kernel_rfl)) (by assumption) ?_
              (try simp only [Act.put]); (try simp only [List.setIfInBounds_toArray]); (try simp only [List.set_cons_succ]); (try simp only [List.set_cons_zero])
              refine wpAnyH_ready (rs := [10]) (by kernel_rfl) (by simp) ?_
              refine AllReadyH.cons (o := ⟨some 84, .call { callee := .value (.func 24), args := #[.tmp 82, .tmp 83], argTypes := #[30, 30] }, 4, _, _, some (6, true)⟩) rfl (fun K hK => ?_) AllReadyH.nil
              try go_simp
              have hbw := below_on (below_on HB5.out HW6W.out) HBD.out
              have HA := dinter_any xr.c c (HTX.out.below hbw).rs (HTX.out.below hbw).ws (HC.out.below hbw) (HC'.out.below hbw) HMX.out F
              rw [HIV.out] at HA
              refine HA.mono ?_
              clear HA hbw
              rintro e wa ⟨rfl, hb⟩
              have KOA := Lib.hid (KOD.out.on hb)
              have KSA := Lib.hid (KSD.out.on hb)
              have KCA := Lib.hid (KCD.out.on hb)
              have HBA := Lib.hid (below_on HBD.out hb)
              clear hb
              try go_simp
              refine hK.out _ _ (by exact ⟨hold_cell KOA.out 2 rfl, rowRange_cmd (o := 0) KOA.out.cel.whole, KCA.out.cel.whole, (hold_cell KOA.out 0 rfl).trans (by rw [HN.out]), hold_cell KOA.out 1 rfl, by rw [HDV.out]; exact cell_dep KSA.out n hn7⟩) (fun hHeld => ?_)
              clear hK K
              (try simp only [Act.put]); (try simp only [List.setIfInBounds_toArray]); (try simp only [List.set_cons_succ]); (try simp only [List.set_cons_zero])
              refine wpAnyH_take (i := 11) (oi := ⟨some 85, .pick (.tmp 80) (.tmp 84) (.const (.bool false)), 4, _, _, none⟩) (v := ?_) rfl (by kernel_rfl) (by kernel_rfl) (by kernel_rfl) (fun _ _ _ h => h) (Or.inl ⟨by rfl, ?_⟩) (by assumption) ?_
              rotate_left
              · (intro w hSw; (try dsimp only at hSw); go_split_ands; go_simp; (try with_reducible rfl))
              (try simp only [Act.put]); (try simp only [List.setIfInBounds_toArray]); (try simp only [List.set_cons_succ]); (try simp only [List.set_cons_zero])
              refine wpAnyH_take (i := 12) (oi := ⟨some 86, .move (.tmp 85), 4, _, _, none⟩) (v := ?_) rfl (by kernel_rfl) (by kernel_rfl) (by kernel_rfl) (fun _ _ _ h => h) (Or.inl ⟨by rfl, ?_⟩) (by assumption) ?_
              rotate_left
              · (intro w hSw; (try dsimp only at hSw); go_split_ands; go_simp; (try with_reducible rfl))
              (try simp only [Act.put]); (try simp only [List.setIfInBounds_toArray]); (try simp only [List.set_cons_succ]); (try simp only [List.set_cons_zero])
              refine wpAnyH_take (i := 13) (oi := ⟨some 87, .fieldAddr 41 (.tmp 10) 0, 0, _, _, some (12, true)⟩) (v := undef) rfl (by kernel_rfl) (by kernel_rfl) (by kernel_rfl) (fun _ _ _ h => h) (Or.inr ⟨by rfl, rfl⟩) (by assumption) ?_
              (try simp only [Act.put]); (try simp only [List.setIfInBounds_toArray]); (try simp only [List.set_cons_succ]); (try simp only [List.set_cons_zero])
              refine wpAnyH_take (i := 14) (oi := ⟨some 88, .fieldAddr 32 (.tmp 87) 0, 0, _, _, some (12, true)⟩) (v := undef) rfl (by kernel_rfl) (by kernel_rfl) (by kernel_rfl) (fun _ _ _ h => h) (Or.inr ⟨by rfl, rfl⟩) (by assumption) ?_
              (try simp only [Act.put]); (try simp only [List.setIfInBounds_toArray]); (try simp only [List.set_cons_succ]); (try simp only [List.set_cons_zero])
              refine wpAnyH_take (i := 15) (oi := ⟨some 89, .load 3 (.tmp 88), 3, _, _, some (12, true)⟩) (v := undef) rfl (by kernel_rfl) (by kernel_rfl) (by kernel_rfl) (fun _ _ _ h => h) (Or.inr ⟨by rfl, rfl⟩) (by assumption) ?_
              (try simp only [Act.put]); (try simp only [List.setIfInBounds_toArray]); (try simp only [List.set_cons_succ]); (try simp only [List.set_cons_zero])
              refine wpAnyH_take (i := 16) (oi := ⟨some 90, .fieldAddr 41 (.tmp 7) 6, 0, _, _, some (12, true)⟩) (v := undef) rfl (by kernel_rfl) (by kernel_rfl) (by kernel_rfl) (fun _ _ _ h => h) (Or.inr ⟨by rfl, rfl⟩) (by assumption) ?_
              (try simp only [Act.put]); (try simp only [List.setIfInBounds_toArray]); (try simp only [List.set_cons_succ]); (try simp only [List.set_cons_zero])
              refine wpAnyH_take (i := 17) (oi := ⟨some 91, .indexAddr 39 (.tmp 90) (.tmp 89), 0, _, _, some (12, true)⟩) (v := undef) rfl (by kernel_rfl) (by kernel_rfl) (by kernel_rfl) (fun _ _ _ h => h) (Or.inr ⟨by rfl, rfl⟩) (by assumption) ?_
              (try simp only [Act.put]); (try simp only [List.setIfInBounds_toArray]); (try simp only [List.set_cons_succ]); (try simp only [List.set_cons_zero])
              refine wpAnyH_take (i := 18) (oi := ⟨some 92, .load 3 (.tmp 91), 3, _, _, some (12, true)⟩) (v := undef) rfl (by kernel_rfl) (by kernel_rfl) (by kernel_rfl) (fun _ _ _ h => h) (Or.inr ⟨by rfl, rfl⟩) (by assumption) ?_
              (try simp only [Act.put]); (try simp only [List.setIfInBounds_toArray]); (try simp only [List.set_cons_succ]); (try simp only [List.set_cons_zero])
              refine wpAnyH_take (i := 19) (oi := ⟨some 93, .fieldAddr 41 (.tmp 10) 0, 0, _, _, some (12, true)⟩) (v := undef) rfl (by kernel_rfl) (by kernel_rfl) (by kernel_rfl) (fun _ _ _ h => h) (Or.inr ⟨by rfl, rfl⟩) (by assumption) ?_
              (try simp only [Act.put]); (try simp only [List.setIfInBounds_toArray]); (try simp only [List.set_cons_succ]); (try simp only [List.set_cons_zero])
              refine wpAnyH_take (i := 20) (oi := ⟨some 94, .fieldAddr 32 (.tmp 93) 1, 0, _, _, some (12, true)⟩) (v := undef) rfl (by kernel_rfl) (by kernel_rfl) (by kernel_rfl) (fun _ _ _ h => h) (Or.inr ⟨by rfl, rfl⟩) (by assumption) ?_
              (try simp only [Act.put]); (try simp only [List.setIfInBounds_toArray]); (try simp only [List.set_cons_succ]); (try simp only [List.set_cons_zero])
              refine wpAnyH_take (i := 21) (oi := ⟨some 95, .load 3 (.tmp 94), 3, _, _, some (12, true)⟩) (v := undef) rfl (by kernel_rfl) (by kernel_rfl) (by kernel_rfl) (fun _ _ _ h => h) (Or.inr ⟨by rfl, rfl⟩) (by assumption) ?_
              (try simp only [Act.put]); (try simp only [List.setIfInBounds_toArray]); (try simp only [List.set_cons_succ]); (try simp only [List.set_cons_zero])
              refine wpAnyH_take (i := 22) (oi := ⟨some 96, .binOp .lss 3 (.tmp 92) (.tmp 95) 3, 4, _, _, some (12, true)⟩) (v := undef) rfl (by kernel_rfl) (by kernel_rfl) (by kernel_rfl) (fun _ _ _ h => h) (Or.inr ⟨by rfl, rfl⟩) (by assumption) ?_
              (try simp only [Act.put]); (try simp only [List.setIfInBounds_toArray]); (try simp only [List.set_cons_succ]); (try simp only [List.set_cons_zero])
              refine wpAnyH_take (i := 23) (oi := ⟨some 97, .pick (.tmp 86) (.tmp 96) (.const (.bool false)), 4, _, _, none⟩) (v := ?_) rfl (by kernel_rfl) (by kernel_rfl) (by kernel_rfl) (fun _ _ _ h => h) (Or.inl ⟨by rfl, ?_⟩) (by assumption) ?_
              rotate_left
              · (intro w hSw; (try dsimp only at hSw); go_split_ands; go_simp; (try with_reducible rfl))
              (try simp only [Act.put]); (try simp only [List.setIfInBounds_toArray]); (try simp only [List.set_cons_succ]); (try simp only [List.set_cons_zero])
              refine wpAnyH_done (by kernel_rfl) ?_ _
              clear hHeld
              go_wp2
              refine ⟨?_, ?measure⟩
              iterate 26 (apply Exists.intro)
              (repeat apply Exists.intro)
              refine ⟨?rel, by rw [show (X.length : Int) = (k : Int) + 1 by omega, hlen]⟩
              case rel => exact ⟨k + 1, by go_num, hlt, Lib.hid (below_on HW6.out HBA.out)⟩
              case measure => simp [intOf]; omega
            · have HIV := Lib.hid hi
              have hlt0 : decide (dv < xr.is) = false := decide_eq_false (by
                have := HDX.out HL.out.symm hst hi
                rw [hn] at this
                simp only [Int.toNat_natCast] at this
                omega)
              clear hn hdv hrt hst hi
              have hbd : Below wr.heap.size wr wr.drew := (Below.refl _ _).drew
              have KOD := Lib.hid ((KO6.out.on HW8.out).on hbd)
              have KSD := Lib.hid ((KS6.out.on HW8.out).on hbd)
              have KCD := Lib.hid (((KC5.out.on HW6.out).on HW8.out).on hbd)
              have HBD := Lib.hid (below_on HW8.out hbd)
              clear hbd
              refine wp_region_held_drew (S := fun w' => w'.cell? ⟨wq.heap.size, 2, none⟩ = some (.int .i64 xr.st) ∧ w'.rangeAt wq.heap.size 7 [.int .i64 xr.c.k, .int .i64 xr.c.tc, .int .i64 xr.c.tn, .int .i64 xr.c.tt, .int .i64 xr.c.tk, .int .i64 xr.c.sh, ya, yb, .bool xr.c.cm] ∧ w'.rangeAt w.heap.size 0 [.int .i64 c.k, .int .i64 c.tc, .int .i64 c.tn, .int .i64 c.tt, .int .i64 c.tk, .int .i64 c.sh, va, vb, .bool c.cm] ∧ w'.cell? ⟨wq.heap.size, 0, none⟩ = some (.int .i64 (n : Int)) ∧ w'.cell? ⟨wq.heap.size, 1, none⟩ = some (.int .i64 xr.is) ∧ w'.cell? ⟨w4.heap.size, 17 + n, none⟩ = some (.int .i64 dv)) (by kernel_rfl) (by exact ⟨hold_cell KOD.out 2 rfl, rowRange_cmd (o := 0) KOD.out.cel.whole, KCD.out.cel.whole, (hold_cell KOD.out 0 rfl).trans (by rw [HN.out]), hold_cell KOD.out 1 rfl, by rw [HDV.out]; exact cell_dep KSD.out n hn7⟩) (fun hHeld => ?_)
              refine wpAnyH_take (i := 0) (oi := ⟨some 74, .move (.tmp 11), 4, _, _, none⟩) (v := ?_) rfl (by kernel_rfl) (by kernel_rfl) (by kernel_rfl) (fun _ _ _ h => h) (Or.inl ⟨by rfl, ?_⟩) (by assumption) ?_
              rotate_left
              · (intro w hSw; (try dsimp only at hSw); go_split_ands; go_simp; (try with_reducible rfl))
              (try simp only [Act.put]); (try simp only [List.setIfInBounds_toArray]); (try simp only [List.set_cons_succ]); (try simp only [List.set_cons_zero])
              refine wpAnyH_take (i := 1) (oi := ⟨some 75, .move (.tmp 74), 4, _, _, none⟩) (v := ?_) rfl (by kernel_rfl) (by kernel_rfl) (by kernel_rfl) (fun _ _ _ h => h) (Or.inl ⟨by rfl, ?_⟩) (by assumption) ?_
              rotate_left
              · (intro w hSw; (try dsimp only at hSw); go_split_ands; go_simp; (try with_reducible rfl))
              (try simp only [Act.put]); (try simp only [List.setIfInBounds_toArray]); (try simp only [List.set_cons_succ]); (try simp only [List.set_cons_zero])
              refine wpAnyH_take (i := 2) (oi := ⟨some 76, .fieldAddr 41 (.tmp 10) 1, 0, _, _, some (1, true)⟩) (v := ?_) rfl (by kernel_rfl) (by kernel_rfl) (by kernel_rfl) (fun _ _ _ h => h) (Or.inl ⟨by rfl, ?_⟩) (by assumption) ?_
              rotate_left
              · (intro w hSw; (try dsimp only at hSw); go_split_ands; go_simp; (try with_reducible rfl))
              (try simp only [Act.put]); (try simp only [List.setIfInBounds_toArray]); (try simp only [List.set_cons_succ]); (try simp only [List.set_cons_zero])
              refine wpAnyH_take (i := 3) (oi := ⟨some 77, .load 3 (.tmp 76), 3, _, _, some (1, true)⟩) (v := ?_) rfl (by kernel_rfl) (by kernel_rfl) (by kernel_rfl) (fun _ _ _ h => h) (Or.inl ⟨by rfl, ?_⟩) (by assumption) ?_
              rotate_left
              · (intro w hSw; (try dsimp only at hSw); go_split_ands; go_simp; (try with_reducible rfl))
              (try simp only [Act.put]); (try simp only [List.setIfInBounds_toArray]); (try simp only [List.set_cons_succ]); (try simp only [List.set_cons_zero])
              refine wpAnyH_take (i := 4) (oi := ⟨some 78, .binOp .neq 3 (.tmp 77) (.const (.int .i64 0)) 3, 4, _, _, some (1, true)⟩) (v := ?_) rfl (by kernel_rfl) (by kernel_rfl) (by kernel_rfl) (fun _ _ _ h => h) (Or.inl ⟨by rfl, ?_⟩) (by assumption) ?_
              rotate_left
              · (intro w hSw; (try dsimp only at hSw); go_split_ands; go_simp; (try with_reducible rfl))
              (try simp only [Act.put]); (try simp only [List.setIfInBounds_toArray]); (try simp only [List.set_cons_succ]); (try simp only [List.set_cons_zero])
              refine wpAnyH_take (i := 5) (oi := ⟨some 79, .pick (.tmp 75) (.tmp 78) (.const (.bool false)), 4, _, _, none⟩) (v := ?_) rfl (by kernel_rfl) (by kernel_rfl) (by kernel_rfl) (fun _ _ _ h => h) (Or.inl ⟨by rfl, ?_⟩) (by assumption) ?_
              rotate_left
              · (intro w hSw; (try dsimp only at hSw); go_split_ands; go_simp; (try with_reducible rfl))
              (try simp only [Act.put]); (try simp only [List.setIfInBounds_toArray]); (try simp only [List.set_cons_succ]); (try simp only [List.set_cons_zero])
              refine wpAnyH_take (i := 6) (oi := ⟨some 80, .move (.tmp 79), 4, _, _, none⟩) (v := ?_) rfl (by kernel_rfl) (by kernel_rfl) (by kernel_rfl) (fun _ _ _ h => h) (Or.inl ⟨by rfl, ?_⟩) (by assumption) ?_
              rotate_left
              · (intro w hSw; (try dsimp only at hSw); go_split_ands; go_simp; (try with_reducible rfl))
              (try simp only [Act.put]); (try simp only [List.setIfInBounds_toArray]); (try simp only [List.set_cons_succ]); (try simp only [List.set_cons_zero])
              refine wpAnyH_take (i := 7) (oi := ⟨some 81, .fieldAddr 41 (.tmp 10) 4, 0, _, _, some (6, true)⟩) (v := ?_) rfl (by kernel_rfl) (by kernel_rfl) (by kernel_rfl) (fun _ _ _ h => h) (Or.inl ⟨by rfl, ?_⟩) (by assumption) ?_
              rotate_left
              · (intro w hSw; (try dsimp only at hSw); go_split_ands; go_simp; (try with_reducible rfl))
              (try simp only [Act.put]); (try simp only [List.setIfInBounds_toArray]); (try simp only [List.set_cons_succ]); (try simp only [List.set_cons_zero])
              refine wpAnyH_take (i := 8) (oi := ⟨some 82, .load 30 (.tmp 81), 30, _, _, some (6, true)⟩) (v := .agg ([.int .i64 xr.c.k, .int .i64 xr.c.tc, .int .i64 xr.c.tn, .int .i64 xr.c.tt, .int .i64 xr.c.tk, .int .i64 xr.c.sh, ya, yb, .bool xr.c.cm] : List Value).toArray) rfl (by kernel_rfl) (by kernel_rfl) (by kernel_rfl) (fun _ _ _ h => h) (yieldsIf_load_mid (by rfl) 30 _ rfl wq.heap.size 7 rfl [.int .i64 xr.c.k, .int .i64 xr.c.tc, .int .i64 xr.c.tn, .int .i64 xr.c.tt, .int .i64 xr.c.tk, .int .i64 xr.c.sh, ya, yb, .bool xr.c.cm] _ (fun w hSw => hSw.2.1) Tryz.underlying30 rfl (by kernel_rfl)) (by assumption) ?_
              (try simp only [Act.put]); (try simp only [List.setIfInBounds_toArray]); (try simp only [List.set_cons_succ]); (try simp only [List.set_cons_zero])
              refine wpAnyH_take (i := 9) (oi := ⟨some 83, .load 30 (.tmp 5), 30, _, _, some (6, true)⟩) (v := .agg ([.int .i64 c.k, .int .i64 c.tc, .int .i64 c.tn, .int .i64 c.tt, .int .i64 c.tk, .int .i64 c.sh, va, vb, .bool c.cm] : List Value).toArray) rfl (by kernel_rfl) (by kernel_rfl) (by kernel_rfl) (fun _ _ _ h => h) (yieldsIf_load_mid (by rfl) 30 _ rfl w.heap.size 0 rfl [.int .i64 c.k, .int .i64 c.tc, .int .i64 c.tn, .int .i64 c.tt, .int .i64 c.tk, .int .i64 c.sh, va, vb, .bool c.cm] _ (fun w hSw => hSw.2.2.1) Tryz.underlying30 rfl (by kernel_rfl)) (by assumption) ?_
              (try simp only [Act.put]); (try simp only [List.setIfInBounds_toArray]); (try simp only [List.set_cons_succ]); (try simp only [List.set_cons_zero])
              refine wpAnyH_ready (rs := [10]) (by kernel_rfl) (by simp) ?_
              refine AllReadyH.cons (o := ⟨some 84, .call { callee := .value (.func 24), args := #[.tmp 82, .tmp 83], argTypes := #[30, 30] }, 4, _, _, some (6, true)⟩) rfl (fun K hK => ?_) AllReadyH.nil
              try go_simp
              have hbw := below_on (below_on HB5.out HW6W.out) HBD.out
              have HA := dinter_any xr.c c (HTX.out.below hbw).rs (HTX.out.below hbw).ws (HC.out.below hbw) (HC'.out.below hbw) HMX.out F
              rw [HIV.out] at HA
              refine HA.mono ?_
              clear HA hbw
              rintro e wa ⟨rfl, hb⟩
              have KOA := Lib.hid (KOD.out.on hb)
              have KSA := Lib.hid (KSD.out.on hb)
              have KCA := Lib.hid (KCD.out.on hb)
              have HBA := Lib.hid (below_on HBD.out hb)
              clear hb
              try go_simp
              refine hK.out _ _ (by exact ⟨hold_cell KOA.out 2 rfl, rowRange_cmd (o := 0) KOA.out.cel.whole, KCA.out.cel.whole, (hold_cell KOA.out 0 rfl).trans (by rw [HN.out]), hold_cell KOA.out 1 rfl, by rw [HDV.out]; exact cell_dep KSA.out n hn7⟩) (fun hHeld => ?_)
              clear hK K
              (try simp only [Act.put]); (try simp only [List.setIfInBounds_toArray]); (try simp only [List.set_cons_succ]); (try simp only [List.set_cons_zero])
              refine wpAnyH_take (i := 11) (oi := ⟨some 85, .pick (.tmp 80) (.tmp 84) (.const (.bool false)), 4, _, _, none⟩) (v := ?_) rfl (by kernel_rfl) (by kernel_rfl) (by kernel_rfl) (fun _ _ _ h => h) (Or.inl ⟨by rfl, ?_⟩) (by assumption) ?_
              rotate_left
              · (intro w hSw; (try dsimp only at hSw); go_split_ands; go_simp; (try with_reducible rfl))
              (try simp only [Act.put]); (try simp only [List.setIfInBounds_toArray]); (try simp only [List.set_cons_succ]); (try simp only [List.set_cons_zero])
              refine wpAnyH_take (i := 12) (oi := ⟨some 86, .move (.tmp 85), 4, _, _, none⟩) (v := ?_) rfl (by kernel_rfl) (by kernel_rfl) (by kernel_rfl) (fun _ _ _ h => h) (Or.inl ⟨by rfl, ?_⟩) (by assumption) ?_
              rotate_left
              · (intro w hSw; (try dsimp only at hSw); go_split_ands; go_simp; (try with_reducible rfl))
              (try simp only [Act.put]); (try simp only [List.setIfInBounds_toArray]); (try simp only [List.set_cons_succ]); (try simp only [List.set_cons_zero])
              refine wpAnyH_take (i := 13) (oi := ⟨some 87, .fieldAddr 41 (.tmp 10) 0, 0, _, _, some (12, true)⟩) (v := ?_) rfl (by kernel_rfl) (by kernel_rfl) (by kernel_rfl) (fun _ _ _ h => h) (Or.inl ⟨by rfl, ?_⟩) (by assumption) ?_
              rotate_left
              · (intro w hSw; (try dsimp only at hSw); go_split_ands; go_simp; (try with_reducible rfl))
              (try simp only [Act.put]); (try simp only [List.setIfInBounds_toArray]); (try simp only [List.set_cons_succ]); (try simp only [List.set_cons_zero])
              refine wpAnyH_take (i := 14) (oi := ⟨some 88, .fieldAddr 32 (.tmp 87) 0, 0, _, _, some (12, true)⟩) (v := ?_) rfl (by kernel_rfl) (by kernel_rfl) (by kernel_rfl) (fun _ _ _ h => h) (Or.inl ⟨by rfl, ?_⟩) (by assumption) ?_
              rotate_left
              · (intro w hSw; (try dsimp only at hSw); go_split_ands; go_simp; (try with_reducible rfl))
              (try simp only [Act.put]); (try simp only [List.setIfInBounds_toArray]); (try simp only [List.set_cons_succ]); (try simp only [List.set_cons_zero])
              refine wpAnyH_take (i := 15) (oi := ⟨some 89, .load 3 (.tmp 88), 3, _, _, some (12, true)⟩) (v := ?_) rfl (by kernel_rfl) (by kernel_rfl) (by kernel_rfl) (fun _ _ _ h => h) (Or.inl ⟨by rfl, ?_⟩) (by assumption) ?_
              rotate_left
              · (intro w hSw; (try dsimp only at hSw); go_split_ands; go_simp; (try with_reducible rfl))
              (try simp only [Act.put]); (try simp only [List.setIfInBounds_toArray]); (try simp only [List.set_cons_succ]); (try simp only [List.set_cons_zero])
              refine wpAnyH_take (i := 16) (oi := ⟨some 90, .fieldAddr 41 (.tmp 7) 6, 0, _, _, some (12, true)⟩) (v := ?_) rfl (by kernel_rfl) (by kernel_rfl) (by kernel_rfl) (fun _ _ _ h => h) (Or.inl ⟨by rfl, ?_⟩) (by assumption) ?_
              rotate_left
              · (intro w hSw; (try dsimp only at hSw); go_split_ands; go_simp; (try with_reducible rfl))
              (try simp only [Act.put]); (try simp only [List.setIfInBounds_toArray]); (try simp only [List.set_cons_succ]); (try simp only [List.set_cons_zero])
              refine wpAnyH_take (i := 17) (oi := ⟨some 91, .indexAddr 39 (.tmp 90) (.tmp 89), 0, _, _, some (12, true)⟩) (v := ?_) rfl (by kernel_rfl) (by kernel_rfl) (by kernel_rfl) (fun _ _ _ h => h) (Or.inl ⟨by rfl, ?_⟩) (by assumption) ?_
              rotate_left
              · (intro w hSw; (try dsimp only at hSw); go_split_ands; go_simp; (try with_reducible rfl))
              (try simp only [Act.put]); (try simp only [List.setIfInBounds_toArray]); (try simp only [List.set_cons_succ]); (try simp only [List.set_cons_zero])
              refine wpAnyH_take (i := 18) (oi := ⟨some 92, .load 3 (.tmp 91), 3, _, _, some (12, true)⟩) (v := ?_) rfl (by kernel_rfl) (by kernel_rfl) (by kernel_rfl) (fun _ _ _ h => h) (Or.inl ⟨by rfl, ?_⟩) (by assumption) ?_
              rotate_left
              · (intro w hSw; (try dsimp only at hSw); go_split_ands; go_simp; (try with_reducible rfl))
              (try simp only [Act.put]); (try simp only [List.setIfInBounds_toArray]); (try simp only [List.set_cons_succ]); (try simp only [List.set_cons_zero])
              refine wpAnyH_take (i := 19) (oi := ⟨some 93, .fieldAddr 41 (.tmp 10) 0, 0, _, _, some (12, true)⟩) (v := ?_) rfl (by kernel_rfl) (by kernel_rfl) (by kernel_rfl) (fun _ _ _ h => h) (Or.inl ⟨by rfl, ?_⟩) (by assumption) ?_
              rotate_left
              · (intro w hSw; (try dsimp only at hSw); go_split_ands; go_simp; (try with_reducible rfl))
              (try simp only [Act.put]); (try simp only [List.setIfInBounds_toArray]); (try simp only [List.set_cons_succ]); (try simp only [List.set_cons_zero])
              refine wpAnyH_take (i := 20) (oi := ⟨some 94, .fieldAddr 32 (.tmp 93) 1, 0, _, _, some (12, true)⟩) (v := ?_) rfl (by kernel_rfl) (by kernel_rfl) (by kernel_rfl) (fun _ _ _ h => h) (Or.inl ⟨by rfl, ?_⟩) (by assumption) ?_
              rotate_left
              · (intro w hSw; (try dsimp only at hSw); go_split_ands; go_simp; (try with_reducible rfl))
              (try simp only [Act.put]); (try simp only [List.setIfInBounds_toArray]); (try simp only [List.set_cons_succ]); (try simp only [List.set_cons_zero])
              refine wpAnyH_take (i := 21) (oi := ⟨some 95, .load 3 (.tmp 94), 3, _, _, some (12, true)⟩) (v := ?_) rfl (by kernel_rfl) (by kernel_rfl) (by kernel_rfl) (fun _ _ _ h => h) (Or.inl ⟨by rfl, ?_⟩) (by assumption) ?_
              rotate_left
              · (intro w hSw; (try dsimp only at hSw); go_split_ands; go_simp; (try with_reducible rfl))
              (try simp only [Act.put]); (try simp only [List.setIfInBounds_toArray]); (try simp only [List.set_cons_succ]); (try simp only [List.set_cons_zero])
              refine wpAnyH_take (i := 22) (oi := ⟨some 96, .binOp .lss 3 (.tmp 92) (.tmp 95) 3, 4, _, _, some (12, true)⟩) (v := ?_) rfl (by kernel_rfl) (by kernel_rfl) (by kernel_rfl) (fun _ _ _ h => h) (Or.inl ⟨by rfl, ?_⟩) (by assumption) ?_
              rotate_left
              · (intro w hSw; (try dsimp only at hSw); go_split_ands; go_simp; (try with_reducible rfl))
              (try simp only [Act.put]); (try simp only [List.setIfInBounds_toArray]); (try simp only [List.set_cons_succ]); (try simp only [List.set_cons_zero])
              refine wpAnyH_take (i := 23) (oi := ⟨some 97, .pick (.tmp 86) (.tmp 96) (.const (.bool false)), 4, _, _, none⟩) (v := ?_) rfl (by kernel_rfl) (by kernel_rfl) (by kernel_rfl) (fun _ _ _ h => h) (Or.inl ⟨by rfl, ?_⟩) (by assumption) ?_
              rotate_left
              · (intro w hSw; (try dsimp only at hSw); go_split_ands; go_simp; (try with_reducible rfl))
              (try simp only [Act.put]); (try simp only [List.setIfInBounds_toArray]); (try simp only [List.set_cons_succ]); (try simp only [List.set_cons_zero])
              refine wpAnyH_done (by kernel_rfl) ?_ _
              clear hHeld
              go_wp2
              refine ⟨?_, ?measure⟩
              iterate 26 (apply Exists.intro)
              (repeat apply Exists.intro)
              refine ⟨?rel, by rw [show (X.length : Int) = (k : Int) + 1 by omega, hlen]⟩
              case rel => exact ⟨k + 1, by go_num, hlt, Lib.hid (below_on HW6.out HBA.out)⟩
              case measure => simp [intOf]; omega
    have hcc1 : k + 1 < cc := by omega
    have hcc2 : (k : Int) + 1 ≤ (cc : Int) := by omega
    have hcc3 : (k : Int) + 1 ≤ (X.length : Int) := by omega
    go_wp2_with (first
      | (with_reducible refine wpList_load_mid rfl 41 _ rfl b (o + k * 25) rfl [.int .i64 xr.ir, .int .i64 xr.is, .int .i64 xr.st, .int .i64 xr.pn, .int .i64 xr.pr, .int .i64 xr.bn, .int .i64 xr.br, .int .i64 xr.c.k, .int .i64 xr.c.tc, .int .i64 xr.c.tn, .int .i64 xr.c.tt, .int .i64 xr.c.tk, .int .i64 xr.c.sh, ya, yb, .bool xr.c.cm, .int .i64 xr.sq, .int .i64 xr.d0, .int .i64 xr.d1, .int .i64 xr.d2, .int .i64 xr.d3, .int .i64 xr.d4, .int .i64 xr.d5, .int .i64 xr.d6, .bool xr.kp] _ HRRo Tryz.underlying41 rfl (by kernel_rfl) ?_)
      | (with_reducible refine store_freshA rfl 41 _ _ rfl wq.heap.size rfl 41 _ [.int .i64 xr.ir, .int .i64 xr.is, .int .i64 xr.st, .int .i64 xr.pn, .int .i64 xr.pr, .int .i64 xr.bn, .int .i64 xr.br, .int .i64 xr.c.k, .int .i64 xr.c.tc, .int .i64 xr.c.tn, .int .i64 xr.c.tt, .int .i64 xr.c.tk, .int .i64 xr.c.sh, ya, yb, .bool xr.c.cm, .int .i64 xr.sq, .int .i64 xr.d0, .int .i64 xr.d1, .int .i64 xr.d2, .int .i64 xr.d3, .int .i64 xr.d4, .int .i64 xr.d5, .int .i64 xr.d6, .bool xr.kp] rfl rfl rfl (by kernel_rfl) oy ?_
         intro w6 G6 b6
         have HW6 := Lib.hid (below_on HW.out b6)
         have KO6 := Lib.hid G6
         have KS6 := Lib.hid (KS5.out.on HW6.out)
         have o0 : w6.cell? ⟨wq.heap.size, 0, none⟩ = some (.int .i64 xr.ir) := hold_cell G6 0 rfl
         have o1 : w6.cell? ⟨wq.heap.size, 1, none⟩ = some (.int .i64 xr.is) := hold_cell G6 1 rfl
         have r0 : w6.cell? ⟨w4.heap.size, 0, none⟩ = some (.int .i64 r.ir) := hold_cell KS6.out 0 rfl
         have r1 : w6.cell? ⟨w4.heap.size, 1, none⟩ = some (.int .i64 r.is) := hold_cell KS6.out 1 rfl
         clear b6 G6)
      | fail)
    clear o0 o1 r0 r1
    go_loopw [11, 61] (fun l i wi => ∃ (j : Nat) (q : Bool), i = .int .i64 j ∧ j ≤ X.length - (k + 1) ∧ l = .bool q ∧ Hid (q = noB X k j) ∧ Hid (Below w6.heap.size w6 wi)) (fun _ i _ => X.length - (k + 1) - (intOf i).toNat)
    case atStart => exact ⟨0, true, rfl, Nat.zero_le _, rfl, Lib.hid (noB_zero X k).symm, Lib.hid (Below.refl _ _)⟩
    case round =>
      obtain ⟨j, q, rfl, hj, rfl, HQ, HW8⟩ := hrel
      by_cases hjl : j < X.length - (k + 1)
      · obtain ⟨y, hy⟩ : ∃ y, X[k + 1 + j]? = some y := ⟨_, List.getElem?_eq_getElem (by omega)⟩
        have HB8 := Lib.hid (below_on (below_on HB5.out HW6.out) HW8.out)
        obtain ⟨b', o', eb, hbl', hry⟩ := rowN_range (HX.out.below HB8.out).row hy
        simp only [Option.some.injEq, Addr.mk.injEq, and_true] at eb
        obtain ⟨rfl, rfl⟩ := eb
        have HTY := Lib.hid (HX.out.tx y (List.mem_of_getElem? hy))
        have HNS := Lib.hid (noB_succ HKX.out hy)
        obtain ⟨yr, za, zb⟩ := y
        have HYY : wr.rangeAt b (o + (k + 1) * 25 + j * 25) [.int .i64 yr.ir, .int .i64 yr.is, .int .i64 yr.st, .int .i64 yr.pn, .int .i64 yr.pr, .int .i64 yr.bn, .int .i64 yr.br, .int .i64 yr.c.k, .int .i64 yr.c.tc, .int .i64 yr.c.tn, .int .i64 yr.c.tt, .int .i64 yr.c.tk, .int .i64 yr.c.sh, za, zb, .bool yr.c.cm, .int .i64 yr.sq, .int .i64 yr.d0, .int .i64 yr.d1, .int .i64 yr.d2, .int .i64 yr.d3, .int .i64 yr.d4, .int .i64 yr.d5, .int .i64 yr.d6, .bool yr.kp] := by
          rw [show o + (k + 1) * 25 + j * 25 = o + (k + 1 + j) * 25 by omega]; exact hry
        have oz : ([.int .i64 yr.ir, .int .i64 yr.is, .int .i64 yr.st, .int .i64 yr.pn, .int .i64 yr.pr, .int .i64 yr.bn, .int .i64 yr.br, .int .i64 yr.c.k, .int .i64 yr.c.tc, .int .i64 yr.c.tn, .int .i64 yr.c.tt, .int .i64 yr.c.tk, .int .i64 yr.c.sh, za, zb, .bool yr.c.cm, .int .i64 yr.sq, .int .i64 yr.d0, .int .i64 yr.d1, .int .i64 yr.d2, .int .i64 yr.d3, .int .i64 yr.d4, .int .i64 yr.d5, .int .i64 yr.d6, .bool yr.kp] : List Value).all (·.oneCell') = true := rv_one (x := ⟨yr, za, zb⟩) (rds_one HTY.out.rs) (wrs_one HTY.out.ws)
        have hj1 : (j : Int) < ((X.length - (k + 1) : Nat) : Int) := by omega
        clear hy hry
        rcases q with _ | _
        · have HQ1 := Lib.hid (show false = noB X k (j + 1) by rw [HNS.out, ← HQ.out]; rfl)
          go_wp2_with (first
            | (with_reducible refine wpList_load_mid rfl 41 _ rfl b (o + (k + 1) * 25 + j * 25) rfl [.int .i64 yr.ir, .int .i64 yr.is, .int .i64 yr.st, .int .i64 yr.pn, .int .i64 yr.pr, .int .i64 yr.bn, .int .i64 yr.br, .int .i64 yr.c.k, .int .i64 yr.c.tc, .int .i64 yr.c.tn, .int .i64 yr.c.tt, .int .i64 yr.c.tk, .int .i64 yr.c.sh, za, zb, .bool yr.c.cm, .int .i64 yr.sq, .int .i64 yr.d0, .int .i64 yr.d1, .int .i64 yr.d2, .int .i64 yr.d3, .int .i64 yr.d4, .int .i64 yr.d5, .int .i64 yr.d6, .bool yr.kp] _ HYY Tryz.underlying41 rfl (by kernel_rfl) ?_)
            | (with_reducible refine store_freshA rfl 41 _ _ rfl wr.heap.size rfl 41 _ [.int .i64 yr.ir, .int .i64 yr.is, .int .i64 yr.st, .int .i64 yr.pn, .int .i64 yr.pr, .int .i64 yr.bn, .int .i64 yr.br, .int .i64 yr.c.k, .int .i64 yr.c.tc, .int .i64 yr.c.tn, .int .i64 yr.c.tt, .int .i64 yr.c.tk, .int .i64 yr.c.sh, za, zb, .bool yr.c.cm, .int .i64 yr.sq, .int .i64 yr.d0, .int .i64 yr.d1, .int .i64 yr.d2, .int .i64 yr.d3, .int .i64 yr.d4, .int .i64 yr.d5, .int .i64 yr.d6, .bool yr.kp] rfl rfl rfl (by kernel_rfl) oz ?_
               intro w7 G7 b7
               have HW7 := Lib.hid (below_on HW8.out b7)
               clear b7 G7)
            | fail)
          go_roundw
          case rel => exact ⟨j + 1, false, by go_num, hjl, rfl, HQ1, HW7⟩
          case measure => simp [intOf]; omega
        · rcases hq : M.eq2 yr.ir yr.is xr.ir xr.is with _ | _
          · have HQ1 := Lib.hid (show true = noB X k (j + 1) by rw [HNS.out, ← HQ.out, hq]; rfl)
            go_wp2_with (first
              | (with_reducible refine wpList_load_mid rfl 41 _ rfl b (o + (k + 1) * 25 + j * 25) rfl [.int .i64 yr.ir, .int .i64 yr.is, .int .i64 yr.st, .int .i64 yr.pn, .int .i64 yr.pr, .int .i64 yr.bn, .int .i64 yr.br, .int .i64 yr.c.k, .int .i64 yr.c.tc, .int .i64 yr.c.tn, .int .i64 yr.c.tt, .int .i64 yr.c.tk, .int .i64 yr.c.sh, za, zb, .bool yr.c.cm, .int .i64 yr.sq, .int .i64 yr.d0, .int .i64 yr.d1, .int .i64 yr.d2, .int .i64 yr.d3, .int .i64 yr.d4, .int .i64 yr.d5, .int .i64 yr.d6, .bool yr.kp] _ HYY Tryz.underlying41 rfl (by kernel_rfl) ?_)
              | (with_reducible refine store_freshA rfl 41 _ _ rfl wr.heap.size rfl 41 _ [.int .i64 yr.ir, .int .i64 yr.is, .int .i64 yr.st, .int .i64 yr.pn, .int .i64 yr.pr, .int .i64 yr.bn, .int .i64 yr.br, .int .i64 yr.c.k, .int .i64 yr.c.tc, .int .i64 yr.c.tn, .int .i64 yr.c.tt, .int .i64 yr.c.tk, .int .i64 yr.c.sh, za, zb, .bool yr.c.cm, .int .i64 yr.sq, .int .i64 yr.d0, .int .i64 yr.d1, .int .i64 yr.d2, .int .i64 yr.d3, .int .i64 yr.d4, .int .i64 yr.d5, .int .i64 yr.d6, .bool yr.kp] rfl rfl rfl (by kernel_rfl) oz ?_
                 intro w7 G7 b7
                 have HW7 := Lib.hid (below_on HW8.out b7)
                 have KO7 := KO6.out.on HW7.out
                 have y0 : w7.cell? ⟨wr.heap.size, 0, none⟩ = some (.int .i64 yr.ir) := hold_cell G7 0 rfl
                 have y1 : w7.cell? ⟨wr.heap.size, 1, none⟩ = some (.int .i64 yr.is) := hold_cell G7 1 rfl
                 have o0 : w7.cell? ⟨wq.heap.size, 0, none⟩ = some (.int .i64 xr.ir) := hold_cell KO7 0 rfl
                 have o1 : w7.cell? ⟨wq.heap.size, 1, none⟩ = some (.int .i64 xr.is) := hold_cell KO7 1 rfl
                 clear b7 G7 KO7)
              | fail)
            go_roundw
            case rel => exact ⟨j + 1, true, by go_num, hjl, rfl, HQ1, HW7⟩
            case measure => simp [intOf]; omega
          · have HQ1 := Lib.hid (show false = noB X k (j + 1) by rw [HNS.out, ← HQ.out, hq]; rfl)
            go_wp2_with (first
              | (with_reducible refine wpList_load_mid rfl 41 _ rfl b (o + (k + 1) * 25 + j * 25) rfl [.int .i64 yr.ir, .int .i64 yr.is, .int .i64 yr.st, .int .i64 yr.pn, .int .i64 yr.pr, .int .i64 yr.bn, .int .i64 yr.br, .int .i64 yr.c.k, .int .i64 yr.c.tc, .int .i64 yr.c.tn, .int .i64 yr.c.tt, .int .i64 yr.c.tk, .int .i64 yr.c.sh, za, zb, .bool yr.c.cm, .int .i64 yr.sq, .int .i64 yr.d0, .int .i64 yr.d1, .int .i64 yr.d2, .int .i64 yr.d3, .int .i64 yr.d4, .int .i64 yr.d5, .int .i64 yr.d6, .bool yr.kp] _ HYY Tryz.underlying41 rfl (by kernel_rfl) ?_)
              | (with_reducible refine store_freshA rfl 41 _ _ rfl wr.heap.size rfl 41 _ [.int .i64 yr.ir, .int .i64 yr.is, .int .i64 yr.st, .int .i64 yr.pn, .int .i64 yr.pr, .int .i64 yr.bn, .int .i64 yr.br, .int .i64 yr.c.k, .int .i64 yr.c.tc, .int .i64 yr.c.tn, .int .i64 yr.c.tt, .int .i64 yr.c.tk, .int .i64 yr.c.sh, za, zb, .bool yr.c.cm, .int .i64 yr.sq, .int .i64 yr.d0, .int .i64 yr.d1, .int .i64 yr.d2, .int .i64 yr.d3, .int .i64 yr.d4, .int .i64 yr.d5, .int .i64 yr.d6, .bool yr.kp] rfl rfl rfl (by kernel_rfl) oz ?_
                 intro w7 G7 b7
                 have HW7 := Lib.hid (below_on HW8.out b7)
                 have KO7 := KO6.out.on HW7.out
                 have y0 : w7.cell? ⟨wr.heap.size, 0, none⟩ = some (.int .i64 yr.ir) := hold_cell G7 0 rfl
                 have y1 : w7.cell? ⟨wr.heap.size, 1, none⟩ = some (.int .i64 yr.is) := hold_cell G7 1 rfl
                 have o0 : w7.cell? ⟨wq.heap.size, 0, none⟩ = some (.int .i64 xr.ir) := hold_cell KO7 0 rfl
                 have o1 : w7.cell? ⟨wq.heap.size, 1, none⟩ = some (.int .i64 xr.is) := hold_cell KO7 1 rfl
                 clear b7 G7 KO7)
              | fail)
            go_roundw
            case rel => exact ⟨j + 1, false, by go_num, hjl, rfl, HQ1, HW7⟩
            case measure => simp [intOf]; omega
      · obtain rfl : j = X.length - (k + 1) := by omega
        have HL := Lib.hid (HQ.out.trans (noB_end (by omega)))
        clear HQ hj hjl
        go_wp2
        obtain ⟨n, hn⟩ := Int.eq_ofNat_of_zero_le hrt.1
        have hn7 : n < 7 := by have := hrt.2; omega
        have hni : (n : Int) < 7 := by omega
        have hni0 : (0 : Int) ≤ (n : Int) := by omega
        obtain ⟨dv, hdv⟩ : ∃ dv, dv = M.dep r n := ⟨_, rfl⟩
        have HN := Lib.hid (show xr.ir = (n : Int) from hn)
        have HDV := Lib.hid hdv
        have HW6W := Lib.hid HW6.out
        rcases q with _ | _
        · clear hn hdv hrt
          have hbd : Below wr.heap.size wr wr.drew := (Below.refl _ _).drew
          have KOD := Lib.hid ((KO6.out.on HW8.out).on hbd)
          have KSD := Lib.hid ((KS6.out.on HW8.out).on hbd)
          have KCD := Lib.hid (((KC5.out.on HW6.out).on HW8.out).on hbd)
          have HBD := Lib.hid (below_on HW8.out hbd)
          clear hbd
          refine wp_region_held_drew (S := fun w' => w'.cell? ⟨wq.heap.size, 2, none⟩ = some (.int .i64 xr.st) ∧ w'.rangeAt wq.heap.size 7 [.int .i64 xr.c.k, .int .i64 xr.c.tc, .int .i64 xr.c.tn, .int .i64 xr.c.tt, .int .i64 xr.c.tk, .int .i64 xr.c.sh, ya, yb, .bool xr.c.cm] ∧ w'.rangeAt w.heap.size 0 [.int .i64 c.k, .int .i64 c.tc, .int .i64 c.tn, .int .i64 c.tt, .int .i64 c.tk, .int .i64 c.sh, va, vb, .bool c.cm] ∧ w'.cell? ⟨wq.heap.size, 0, none⟩ = some (.int .i64 (n : Int)) ∧ w'.cell? ⟨wq.heap.size, 1, none⟩ = some (.int .i64 xr.is) ∧ w'.cell? ⟨w4.heap.size, 17 + n, none⟩ = some (.int .i64 dv)) (by kernel_rfl) (by exact ⟨hold_cell KOD.out 2 rfl, rowRange_cmd (o := 0) KOD.out.cel.whole, KCD.out.cel.whole, (hold_cell KOD.out 0 rfl).trans (by rw [HN.out]), hold_cell KOD.out 1 rfl, by rw [HDV.out]; exact cell_dep KSD.out n hn7⟩) (fun hHeld => ?_)
          refine wpAnyH_take (i := 0) (oi := ⟨some 74, .move (.tmp 11), 4, _, _, none⟩) (v := ?_) rfl (by kernel_rfl) (by kernel_rfl) (by kernel_rfl) (fun _ _ _ h => h) (Or.inl ⟨by rfl, ?_⟩) (by assumption) ?_
          rotate_left
          · (intro w hSw; (try dsimp only at hSw); go_split_ands; go_simp; (try with_reducible rfl))
          (try simp only [Act.put]); (try simp only [List.setIfInBounds_toArray]); (try simp only [List.set_cons_succ]); (try simp only [List.set_cons_zero])
          refine wpAnyH_take (i := 1) (oi := ⟨some 75, .move (.tmp 74), 4, _, _, none⟩) (v := ?_) rfl (by kernel_rfl) (by kernel_rfl) (by kernel_rfl) (fun _ _ _ h => h) (Or.inl ⟨by rfl, ?_⟩) (by assumption) ?_
          rotate_left
          · (intro w hSw; (try dsimp only at hSw); go_split_ands; go_simp; (try with_reducible rfl))
          (try simp only [Act.put]); (try simp only [List.setIfInBounds_toArray]); (try simp only [List.set_cons_succ]); (try simp only [List.set_cons_zero])
          refine wpAnyH_take (i := 2) (oi := ⟨some 76, .fieldAddr 41 (.tmp 10) 1, 0, _, _, some (1, true)⟩) (v := undef) rfl (by kernel_rfl) (by kernel_rfl) (by kernel_rfl) (fun _ _ _ h => h) (Or.inr ⟨by rfl, rfl⟩) (by assumption) ?_
          (try simp only [Act.put]); (try simp only [List.setIfInBounds_toArray]); (try simp only [List.set_cons_succ]); (try simp only [List.set_cons_zero])
          refine wpAnyH_take (i := 3) (oi := ⟨some 77, .load 3 (.tmp 76), 3, _, _, some (1, true)⟩) (v := undef) rfl (by kernel_rfl) (by kernel_rfl) (by kernel_rfl) (fun _ _ _ h => h) (Or.inr ⟨by rfl, rfl⟩) (by assumption) ?_
          (try simp only [Act.put]); (try simp only [List.setIfInBounds_toArray]); (try simp only [List.set_cons_succ]); (try simp only [List.set_cons_zero])
          refine wpAnyH_take (i := 4) (oi := ⟨some 78, .binOp .neq 3 (.tmp 77) (.const (.int .i64 0)) 3, 4, _, _, some (1, true)⟩) (v := undef) rfl (by kernel_rfl) (by kernel_rfl) (by kernel_rfl) (fun _ _ _ h => h) (Or.inr ⟨by rfl, rfl⟩) (by assumption) ?_
          (try simp only [Act.put]); (try simp only [List.setIfInBounds_toArray]); (try simp only [List.set_cons_succ]); (try simp only [List.set_cons_zero])
          refine wpAnyH_take (i := 5) (oi := ⟨some 79, .pick (.tmp 75) (.tmp 78) (.const (.bool false)), 4, _, _, none⟩) (v := ?_) rfl (by kernel_rfl) (by kernel_rfl) (by kernel_rfl) (fun _ _ _ h => h) (Or.inl ⟨by rfl, ?_⟩) (by assumption) ?_
          rotate_left
          · (intro w hSw; (try dsimp only at hSw); go_split_ands; go_simp; (try with_reducible rfl))
          (try simp only [Act.put]); (try simp only [List.setIfInBounds_toArray]); (try simp only [List.set_cons_succ]); (try simp only [List.set_cons_zero])
          refine wpAnyH_take (i := 6) (oi := ⟨some 80, .move (.tmp 79), 4, _, _, none⟩) (v := ?_) rfl (by kernel_rfl) (by kernel_rfl) (by kernel_rfl) (fun _ _ _ h => h) (Or.inl ⟨by rfl, ?_⟩) (by assumption) ?_
          rotate_left
          · (intro w hSw; (try dsimp only at hSw); go_split_ands; go_simp; (try with_reducible rfl))
          (try simp only [Act.put]); (try simp only [List.setIfInBounds_toArray]); (try simp only [List.set_cons_succ]); (try simp only [List.set_cons_zero])
          refine wpAnyH_take (i := 7) (oi := ⟨some 81, .fieldAddr 41 (.tmp 10) 4, 0, _, _, some (6, true)⟩) (v := undef) rfl (by kernel_rfl) (by kernel_rfl) (by kernel_rfl) (fun _ _ _ h => h) (Or.inr ⟨by rfl, rfl⟩) (by assumption) ?_
          (try simp only [Act.put]); (try simp only [List.setIfInBounds_toArray]); (try simp only [List.set_cons_succ]); (try simp only [List.set_cons_zero])
          refine wpAnyH_take (i := 8) (oi := ⟨some 82, .load 30 (.tmp 81), 30, _, _, some (6, true)⟩) (v := undef) rfl (by kernel_rfl) (by kernel_rfl) (by kernel_rfl) (fun _ _ _ h => h) (Or.inr ⟨by rfl, rfl⟩) (by assumption) ?_
          (try simp only [Act.put]); (try simp only [List.setIfInBounds_toArray]); (try simp only [List.set_cons_succ]); (try simp only [List.set_cons_zero])
          refine wpAnyH_take (i := 9) (oi := ⟨some 83, .load 30 (.tmp 5), 30, _, _, some (6, true)⟩) (v := undef) rfl (by kernel_rfl) (by kernel_rfl) (by kernel_rfl) (fun _ _ _ h => h) (Or.inr ⟨by rfl, rfl⟩) (by assumption) ?_
          (try simp only [Act.put]); (try simp only [List.setIfInBounds_toArray]); (try simp only [List.set_cons_succ]); (try simp only [List.set_cons_zero])
          refine wpAnyH_take (i := 10) (oi := ⟨some 84, .call { callee := .value (.func 24), args := #[.tmp 82, .tmp 83], argTypes := #[30, 30] }, 4, _, _, some (6, true)⟩) (v := undef) rfl (by kernel_rfl) (by kernel_rfl) (by kernel_rfl) (fun _ _ _ h => h) (Or.inr ⟨by rfl, rfl⟩) (by assumption) ?_
          (try simp only [Act.put]); (try simp only [List.setIfInBounds_toArray]); (try simp only [List.set_cons_succ]); (try simp only [List.set_cons_zero])
          refine wpAnyH_take (i := 11) (oi := ⟨some 85, .pick (.tmp 80) (.tmp 84) (.const (.bool false)), 4, _, _, none⟩) (v := ?_) rfl (by kernel_rfl) (by kernel_rfl) (by kernel_rfl) (fun _ _ _ h => h) (Or.inl ⟨by rfl, ?_⟩) (by assumption) ?_
          rotate_left
          · (intro w hSw; (try dsimp only at hSw); go_split_ands; go_simp; (try with_reducible rfl))
          (try simp only [Act.put]); (try simp only [List.setIfInBounds_toArray]); (try simp only [List.set_cons_succ]); (try simp only [List.set_cons_zero])
          refine wpAnyH_take (i := 12) (oi := ⟨some 86, .move (.tmp 85), 4, _, _, none⟩) (v := ?_) rfl (by kernel_rfl) (by kernel_rfl) (by kernel_rfl) (fun _ _ _ h => h) (Or.inl ⟨by rfl, ?_⟩) (by assumption) ?_
          rotate_left
          · (intro w hSw; (try dsimp only at hSw); go_split_ands; go_simp; (try with_reducible rfl))
          (try simp only [Act.put]); (try simp only [List.setIfInBounds_toArray]); (try simp only [List.set_cons_succ]); (try simp only [List.set_cons_zero])
          refine wpAnyH_take (i := 13) (oi := ⟨some 87, .fieldAddr 41 (.tmp 10) 0, 0, _, _, some (12, true)⟩) (v := undef) rfl (by kernel_rfl) (by kernel_rfl) (by kernel_rfl) (fun _ _ _ h => h) (Or.inr ⟨by rfl, rfl⟩) (by assumption) ?_
          (try simp only [Act.put]); (try simp only [List.setIfInBounds_toArray]); (try simp only [List.set_cons_succ]); (try simp only [List.set_cons_zero])
          refine wpAnyH_take (i := 14) (oi := ⟨some 88, .fieldAddr 32 (.tmp 87) 0, 0, _, _, some (12, true)⟩) (v := undef) rfl (by kernel_rfl) (by kernel_rfl) (by kernel_rfl) (fun _ _ _ h => h) (Or.inr ⟨by rfl, rfl⟩) (by assumption) ?_
          (try simp only [Act.put]); (try simp only [List.setIfInBounds_toArray]); (try simp only [List.set_cons_succ]); (try simp only [List.set_cons_zero])
          refine wpAnyH_take (i := 15) (oi := ⟨some 89, .load 3 (.tmp 88), 3, _, _, some (12, true)⟩) (v := undef) rfl (by kernel_rfl) (by kernel_rfl) (by kernel_rfl) (fun _ _ _ h => h) (Or.inr ⟨by rfl, rfl⟩) (by assumption) ?_
          (try simp only [Act.put]); (try simp only [List.setIfInBounds_toArray]); (try simp only [List.set_cons_succ]); (try simp only [List.set_cons_zero])
          refine wpAnyH_take (i := 16) (oi := ⟨some 90, .fieldAddr 41 (.tmp 7) 6, 0, _, _, some (12, true)⟩) (v := undef) rfl (by kernel_rfl) (by kernel_rfl) (by kernel_rfl) (fun _ _ _ h => h) (Or.inr ⟨by rfl, rfl⟩) (by assumption) ?_
          (try simp only [Act.put]); (try simp only [List.setIfInBounds_toArray]); (try simp only [List.set_cons_succ]); (try simp only [List.set_cons_zero])
          refine wpAnyH_take (i := 17) (oi := ⟨some 91, .indexAddr 39 (.tmp 90) (.tmp 89), 0, _, _, some (12, true)⟩) (v := undef) rfl (by kernel_rfl) (by kernel_rfl) (by kernel_rfl) (fun _ _ _ h => h) (Or.inr ⟨by rfl, rfl⟩) (by assumption) ?_
          (try simp only [Act.put]); (try simp only [List.setIfInBounds_toArray]); (try simp only [List.set_cons_succ]); (try simp only [List.set_cons_zero])
          refine wpAnyH_take (i := 18) (oi := ⟨some 92, .load 3 (.tmp 91), 3, _, _, some (12, true)⟩) (v := undef) rfl (by kernel_rfl) (by kernel_rfl) (by kernel_rfl) (fun _ _ _ h => h) (Or.inr ⟨by rfl, rfl⟩) (by assumption) ?_
          (try simp only [Act.put]); (try simp only [List.setIfInBounds_toArray]); (try simp only [List.set_cons_succ]); (try simp only [List.set_cons_zero])
          refine wpAnyH_take (i := 19) (oi := ⟨some 93, .fieldAddr 41 (.tmp 10) 0, 0, _, _, some (12, true)⟩) (v := undef) rfl (by kernel_rfl) (by kernel_rfl) (by kernel_rfl) (fun _ _ _ h => h) (Or.inr ⟨by rfl, rfl⟩) (by assumption) ?_
          (try simp only [Act.put]); (try simp only [List.setIfInBounds_toArray]); (try simp only [List.set_cons_succ]); (try simp only [List.set_cons_zero])
          refine wpAnyH_take (i := 20) (oi := ⟨some 94, .fieldAddr 32 (.tmp 93) 1, 0, _, _, some (12, true)⟩) (v := undef) rfl (by kernel_rfl) (by kernel_rfl) (by kernel_rfl) (fun _ _ _ h => h) (Or.inr ⟨by rfl, rfl⟩) (by assumption) ?_
          (try simp only [Act.put]); (try simp only [List.setIfInBounds_toArray]); (try simp only [List.set_cons_succ]); (try simp only [List.set_cons_zero])
          refine wpAnyH_take (i := 21) (oi := ⟨some 95, .load 3 (.tmp 94), 3, _, _, some (12, true)⟩) (v := undef) rfl (by kernel_rfl) (by kernel_rfl) (by kernel_rfl) (fun _ _ _ h => h) (Or.inr ⟨by rfl, rfl⟩) (by assumption) ?_
          (try simp only [Act.put]); (try simp only [List.setIfInBounds_toArray]); (try simp only [List.set_cons_succ]); (try simp only [List.set_cons_zero])
          refine wpAnyH_take (i := 22) (oi := ⟨some 96, .binOp .lss 3 (.tmp 92) (.tmp 95) 3, 4, _, _, some (12, true)⟩) (v := undef) rfl (by kernel_rfl) (by kernel_rfl) (by kernel_rfl) (fun _ _ _ h => h) (Or.inr ⟨by rfl, rfl⟩) (by assumption) ?_
          (try simp only [Act.put]); (try simp only [List.setIfInBounds_toArray]); (try simp only [List.set_cons_succ]); (try simp only [List.set_cons_zero])
          refine wpAnyH_take (i := 23) (oi := ⟨some 97, .pick (.tmp 86) (.tmp 96) (.const (.bool false)), 4, _, _, none⟩) (v := ?_) rfl (by kernel_rfl) (by kernel_rfl) (by kernel_rfl) (fun _ _ _ h => h) (Or.inl ⟨by rfl, ?_⟩) (by assumption) ?_
          rotate_left
          · (intro w hSw; (try dsimp only at hSw); go_split_ands; go_simp; (try with_reducible rfl))
          (try simp only [Act.put]); (try simp only [List.setIfInBounds_toArray]); (try simp only [List.set_cons_succ]); (try simp only [List.set_cons_zero])
          refine wpAnyH_done (by kernel_rfl) ?_ _
          clear hHeld
          go_wp2
          go_roundw
          case rel => exact ⟨k + 1, by go_num, hlt, Lib.hid (below_on HW6.out HBD.out)⟩
          case measure => simp [intOf]; omega
        · by_cases hst : xr.st = 0
          · obtain ⟨s1, s2⟩ := eqI hst
            clear hn hdv hrt hst
            have hbd : Below wr.heap.size wr wr.drew := (Below.refl _ _).drew
            have KOD := Lib.hid ((KO6.out.on HW8.out).on hbd)
            have KSD := Lib.hid ((KS6.out.on HW8.out).on hbd)
            have KCD := Lib.hid (((KC5.out.on HW6.out).on HW8.out).on hbd)
            have HBD := Lib.hid (below_on HW8.out hbd)
            clear hbd
            refine wp_region_held_drew (S := fun w' => w'.cell? ⟨wq.heap.size, 2, none⟩ = some (.int .i64 xr.st) ∧ w'.rangeAt wq.heap.size 7 [.int .i64 xr.c.k, .int .i64 xr.c.tc, .int .i64 xr.c.tn, .int .i64 xr.c.tt, .int .i64 xr.c.tk, .int .i64 xr.c.sh, ya, yb, .bool xr.c.cm] ∧ w'.rangeAt w.heap.size 0 [.int .i64 c.k, .int .i64 c.tc, .int .i64 c.tn, .int .i64 c.tt, .int .i64 c.tk, .int .i64 c.sh, va, vb, .bool c.cm] ∧ w'.cell? ⟨wq.heap.size, 0, none⟩ = some (.int .i64 (n : Int)) ∧ w'.cell? ⟨wq.heap.size, 1, none⟩ = some (.int .i64 xr.is) ∧ w'.cell? ⟨w4.heap.size, 17 + n, none⟩ = some (.int .i64 dv)) (by kernel_rfl) (by exact ⟨hold_cell KOD.out 2 rfl, rowRange_cmd (o := 0) KOD.out.cel.whole, KCD.out.cel.whole, (hold_cell KOD.out 0 rfl).trans (by rw [HN.out]), hold_cell KOD.out 1 rfl, by rw [HDV.out]; exact cell_dep KSD.out n hn7⟩) (fun hHeld => ?_)
            refine wpAnyH_take (i := 0) (oi := ⟨some 74, .move (.tmp 11), 4, _, _, none⟩) (v := ?_) rfl (by kernel_rfl) (by kernel_rfl) (by kernel_rfl) (fun _ _ _ h => h) (Or.inl ⟨by rfl, ?_⟩) (by assumption) ?_
            rotate_left
            · (intro w hSw; (try dsimp only at hSw); go_split_ands; go_simp; (try with_reducible rfl))
            (try simp only [Act.put]); (try simp only [List.setIfInBounds_toArray]); (try simp only [List.set_cons_succ]); (try simp only [List.set_cons_zero])
            refine wpAnyH_take (i := 1) (oi := ⟨some 75, .move (.tmp 74), 4, _, _, none⟩) (v := ?_) rfl (by kernel_rfl) (by kernel_rfl) (by kernel_rfl) (fun _ _ _ h => h) (Or.inl ⟨by rfl, ?_⟩) (by assumption) ?_
            rotate_left
            · (intro w hSw; (try dsimp only at hSw); go_split_ands; go_simp; (try with_reducible rfl))
            (try simp only [Act.put]); (try simp only [List.setIfInBounds_toArray]); (try simp only [List.set_cons_succ]); (try simp only [List.set_cons_zero])
            refine wpAnyH_take (i := 2) (oi := ⟨some 76, .fieldAddr 41 (.tmp 10) 1, 0, _, _, some (1, true)⟩) (v := ?_) rfl (by kernel_rfl) (by kernel_rfl) (by kernel_rfl) (fun _ _ _ h => h) (Or.inl ⟨by rfl, ?_⟩) (by assumption) ?_
            rotate_left
            · (intro w hSw; (try dsimp only at hSw); go_split_ands; go_simp; (try with_reducible rfl))
            (try simp only [Act.put]); (try simp only [List.setIfInBounds_toArray]); (try simp only [List.set_cons_succ]); (try simp only [List.set_cons_zero])
            refine wpAnyH_take (i := 3) (oi := ⟨some 77, .load 3 (.tmp 76), 3, _, _, some (1, true)⟩) (v := ?_) rfl (by kernel_rfl) (by kernel_rfl) (by kernel_rfl) (fun _ _ _ h => h) (Or.inl ⟨by rfl, ?_⟩) (by assumption) ?_
            rotate_left
            · (intro w hSw; (try dsimp only at hSw); go_split_ands; go_simp; (try with_reducible rfl))
            (try simp only [Act.put]); (try simp only [List.setIfInBounds_toArray]); (try simp only [List.set_cons_succ]); (try simp only [List.set_cons_zero])
            refine wpAnyH_take (i := 4) (oi := ⟨some 78, .binOp .neq 3 (.tmp 77) (.const (.int .i64 0)) 3, 4, _, _, some (1, true)⟩) (v := ?_) rfl (by kernel_rfl) (by kernel_rfl) (by kernel_rfl) (fun _ _ _ h => h) (Or.inl ⟨by rfl, ?_⟩) (by assumption) ?_
            rotate_left
            · (intro w hSw; (try dsimp only at hSw); go_split_ands; go_simp; (try with_reducible rfl))
            (try simp only [Act.put]); (try simp only [List.setIfInBounds_toArray]); (try simp only [List.set_cons_succ]); (try simp only [List.set_cons_zero])
            refine wpAnyH_take (i := 5) (oi := ⟨some 79, .pick (.tmp 75) (.tmp 78) (.const (.bool false)), 4, _, _, none⟩) (v := ?_) rfl (by kernel_rfl) (by kernel_rfl) (by kernel_rfl) (fun _ _ _ h => h) (Or.inl ⟨by rfl, ?_⟩) (by assumption) ?_
            rotate_left
            · (intro w hSw; (try dsimp only at hSw); go_split_ands; go_simp; (try with_reducible rfl))
            (try simp only [Act.put]); (try simp only [List.setIfInBounds_toArray]); (try simp only [List.set_cons_succ]); (try simp only [List.set_cons_zero])
            refine wpAnyH_take (i := 6) (oi := ⟨some 80, .move (.tmp 79), 4, _, _, none⟩) (v := ?_) rfl (by kernel_rfl) (by kernel_rfl) (by kernel_rfl) (fun _ _ _ h => h) (Or.inl ⟨by rfl, ?_⟩) (by assumption) ?_
            rotate_left
            · (intro w hSw; (try dsimp only at hSw); go_split_ands; go_simp; (try with_reducible rfl))
            (try simp only [Act.put]); (try simp only [List.setIfInBounds_toArray]); (try simp only [List.set_cons_succ]); (try simp only [List.set_cons_zero])
            refine wpAnyH_take (i := 7) (oi := ⟨some 81, .fieldAddr 41 (.tmp 10) 4, 0, _, _, some (6, true)⟩) (v := undef) rfl (by kernel_rfl) (by kernel_rfl) (by kernel_rfl) (fun _ _ _ h => h) (Or.inr ⟨by rfl, rfl⟩) (by assumption) ?_
            (try simp only [Act.put]); (try simp only [List.setIfInBounds_toArray]); (try simp only [List.set_cons_succ]); (try simp only [List.set_cons_zero])
            refine wpAnyH_take (i := 8) (oi := ⟨some 82, .load 30 (.tmp 81), 30, _, _, some (6, true)⟩) (v := undef) rfl (by kernel_rfl) (by kernel_rfl) (by kernel_rfl) (fun _ _ _ h => h) (Or.inr ⟨by rfl, rfl⟩) (by assumption) ?_
            (try simp only [Act.put]); (try simp only [List.setIfInBounds_toArray]); (try simp only [List.set_cons_succ]); (try simp only [List.set_cons_zero])
            refine wpAnyH_take (i := 9) (oi := ⟨some 83, .load 30 (.tmp 5), 30, _, _, some (6, true)⟩) (v := undef) rfl (by kernel_rfl) (by kernel_rfl) (by kernel_rfl) (fun _ _ _ h => h) (Or.inr ⟨by rfl, rfl⟩) (by assumption) ?_
            (try simp only [Act.put]); (try simp only [List.setIfInBounds_toArray]); (try simp only [List.set_cons_succ]); (try simp only [List.set_cons_zero])
            refine wpAnyH_take (i := 10) (oi := ⟨some 84, .call { callee := .value (.func 24), args := #[.tmp 82, .tmp 83], argTypes := #[30, 30] }, 4, _, _, some (6, true)⟩) (v := undef) rfl (by kernel_rfl) (by kernel_rfl) (by kernel_rfl) (fun _ _ _ h => h) (Or.inr ⟨by rfl, rfl⟩) (by assumption) ?_
            (try simp only [Act.put]); (try simp only [List.setIfInBounds_toArray]); (try simp only [List.set_cons_succ]); (try simp only [List.set_cons_zero])
            refine wpAnyH_take (i := 11) (oi := ⟨some 85, .pick (.tmp 80) (.tmp 84) (.const (.bool false)), 4, _, _, none⟩) (v := ?_) rfl (by kernel_rfl) (by kernel_rfl) (by kernel_rfl) (fun _ _ _ h => h) (Or.inl ⟨by rfl, ?_⟩) (by assumption) ?_
            rotate_left
            · (intro w hSw; (try dsimp only at hSw); go_split_ands; go_simp; (try with_reducible rfl))
            (try simp only [Act.put]); (try simp only [List.setIfInBounds_toArray]); (try simp only [List.set_cons_succ]); (try simp only [List.set_cons_zero])
            refine wpAnyH_take (i := 12) (oi := ⟨some 86, .move (.tmp 85), 4, _, _, none⟩) (v := ?_) rfl (by kernel_rfl) (by kernel_rfl) (by kernel_rfl) (fun _ _ _ h => h) (Or.inl ⟨by rfl, ?_⟩) (by assumption) ?_
            rotate_left
            · (intro w hSw; (try dsimp only at hSw); go_split_ands; go_simp; (try with_reducible rfl))
            (try simp only [Act.put]); (try simp only [List.setIfInBounds_toArray]); (try simp only [List.set_cons_succ]); (try simp only [List.set_cons_zero])
            refine wpAnyH_take (i := 13) (oi := ⟨some 87, .fieldAddr 41 (.tmp 10) 0, 0, _, _, some (12, true)⟩) (v := undef) rfl (by kernel_rfl) (by kernel_rfl) (by kernel_rfl) (fun _ _ _ h => h) (Or.inr ⟨by rfl, rfl⟩) (by assumption) ?_
            (try simp only [Act.put]); (try simp only [List.setIfInBounds_toArray]); (try simp only [List.set_cons_succ]); (try simp only [List.set_cons_zero])
            refine wpAnyH_take (i := 14) (oi := ⟨some 88, .fieldAddr 32 (.tmp 87) 0, 0, _, _, some (12, true)⟩) (v := undef) rfl (by kernel_rfl) (by kernel_rfl) (by kernel_rfl) (fun _ _ _ h => h) (Or.inr ⟨by rfl, rfl⟩) (by assumption) ?_
            (try simp only [Act.put]); (try simp only [List.setIfInBounds_toArray]); (try simp only [List.set_cons_succ]); (try simp only [List.set_cons_zero])
            refine wpAnyH_take (i := 15) (oi := ⟨some 89, .load 3 (.tmp 88), 3, _, _, some (12, true)⟩) (v := undef) rfl (by kernel_rfl) (by kernel_rfl) (by kernel_rfl) (fun _ _ _ h => h) (Or.inr ⟨by rfl, rfl⟩) (by assumption) ?_
            (try simp only [Act.put]); (try simp only [List.setIfInBounds_toArray]); (try simp only [List.set_cons_succ]); (try simp only [List.set_cons_zero])
            refine wpAnyH_take (i := 16) (oi := ⟨some 90, .fieldAddr 41 (.tmp 7) 6, 0, _, _, some (12, true)⟩) (v := undef) rfl (by kernel_rfl) (by kernel_rfl) (by kernel_rfl) (fun _ _ _ h => h) (Or.inr ⟨by rfl, rfl⟩) (by assumption) ?_
            (try simp only [Act.put]); (try simp only [List.setIfInBounds_toArray]); (try simp only [List.set_cons_succ]); (try simp only [List.set_cons_zero])
            refine wpAnyH_take (i := 17) (oi := ⟨some 91, .indexAddr 39 (.tmp 90) (.tmp 89), 0, _, _, some (12, true)⟩) (v := undef) rfl (by kernel_rfl) (by kernel_rfl) (by kernel_rfl) (fun _ _ _ h => h) (Or.inr ⟨by rfl, rfl⟩) (by assumption) ?_
            (try simp only [Act.put]); (try simp only [List.setIfInBounds_toArray]); (try simp only [List.set_cons_succ]); (try simp only [List.set_cons_zero])
            refine wpAnyH_take (i := 18) (oi := ⟨some 92, .load 3 (.tmp 91), 3, _, _, some (12, true)⟩) (v := undef) rfl (by kernel_rfl) (by kernel_rfl) (by kernel_rfl) (fun _ _ _ h => h) (Or.inr ⟨by rfl, rfl⟩) (by assumption) ?_
            (try simp only [Act.put]); (try simp only [List.setIfInBounds_toArray]); (try simp only [List.set_cons_succ]); (try simp only [List.set_cons_zero])
            refine wpAnyH_take (i := 19) (oi := ⟨some 93, .fieldAddr 41 (.tmp 10) 0, 0, _, _, some (12, true)⟩) (v := undef) rfl (by kernel_rfl) (by kernel_rfl) (by kernel_rfl) (fun _ _ _ h => h) (Or.inr ⟨by rfl, rfl⟩) (by assumption) ?_
            (try simp only [Act.put]); (try simp only [List.setIfInBounds_toArray]); (try simp only [List.set_cons_succ]); (try simp only [List.set_cons_zero])
            refine wpAnyH_take (i := 20) (oi := ⟨some 94, .fieldAddr 32 (.tmp 93) 1, 0, _, _, some (12, true)⟩) (v := undef) rfl (by kernel_rfl) (by kernel_rfl) (by kernel_rfl) (fun _ _ _ h => h) (Or.inr ⟨by rfl, rfl⟩) (by assumption) ?_
            (try simp only [Act.put]); (try simp only [List.setIfInBounds_toArray]); (try simp only [List.set_cons_succ]); (try simp only [List.set_cons_zero])
            refine wpAnyH_take (i := 21) (oi := ⟨some 95, .load 3 (.tmp 94), 3, _, _, some (12, true)⟩) (v := undef) rfl (by kernel_rfl) (by kernel_rfl) (by kernel_rfl) (fun _ _ _ h => h) (Or.inr ⟨by rfl, rfl⟩) (by assumption) ?_
            (try simp only [Act.put]); (try simp only [List.setIfInBounds_toArray]); (try simp only [List.set_cons_succ]); (try simp only [List.set_cons_zero])
            refine wpAnyH_take (i := 22) (oi := ⟨some 96, .binOp .lss 3 (.tmp 92) (.tmp 95) 3, 4, _, _, some (12, true)⟩) (v := undef) rfl (by kernel_rfl) (by kernel_rfl) (by kernel_rfl) (fun _ _ _ h => h) (Or.inr ⟨by rfl, rfl⟩) (by assumption) ?_
            (try simp only [Act.put]); (try simp only [List.setIfInBounds_toArray]); (try simp only [List.set_cons_succ]); (try simp only [List.set_cons_zero])
            refine wpAnyH_take (i := 23) (oi := ⟨some 97, .pick (.tmp 86) (.tmp 96) (.const (.bool false)), 4, _, _, none⟩) (v := ?_) rfl (by kernel_rfl) (by kernel_rfl) (by kernel_rfl) (fun _ _ _ h => h) (Or.inl ⟨by rfl, ?_⟩) (by assumption) ?_
            rotate_left
            · (intro w hSw; (try dsimp only at hSw); go_split_ands; go_simp; (try with_reducible rfl))
            (try simp only [Act.put]); (try simp only [List.setIfInBounds_toArray]); (try simp only [List.set_cons_succ]); (try simp only [List.set_cons_zero])
            refine wpAnyH_done (by kernel_rfl) ?_ _
            clear hHeld
            go_wp2
            go_roundw
            case rel => exact ⟨k + 1, by go_num, hlt, Lib.hid (below_on HW6.out HBD.out)⟩
            case measure => simp [intOf]; omega
          · obtain ⟨s1, s2⟩ := neI hst
            rcases hi : M.interB xr.c c with _ | _
            · have HIV := Lib.hid hi
              clear hn hdv hrt hst hi
              have hbd : Below wr.heap.size wr wr.drew := (Below.refl _ _).drew
              have KOD := Lib.hid ((KO6.out.on HW8.out).on hbd)
              have KSD := Lib.hid ((KS6.out.on HW8.out).on hbd)
              have KCD := Lib.hid (((KC5.out.on HW6.out).on HW8.out).on hbd)
              have HBD := Lib.hid (below_on HW8.out hbd)
              clear hbd
              refine wp_region_held_drew (S := fun w' => w'.cell? ⟨wq.heap.size, 2, none⟩ = some (.int .i64 xr.st) ∧ w'.rangeAt wq.heap.size 7 [.int .i64 xr.c.k, .int .i64 xr.c.tc, .int .i64 xr.c.tn, .int .i64 xr.c.tt, .int .i64 xr.c.tk, .int .i64 xr.c.sh, ya, yb, .bool xr.c.cm] ∧ w'.rangeAt w.heap.size 0 [.int .i64 c.k, .int .i64 c.tc, .int .i64 c.tn, .int .i64 c.tt, .int .i64 c.tk, .int .i64 c.sh, va, vb, .bool c.cm] ∧ w'.cell? ⟨wq.heap.size, 0, none⟩ = some (.int .i64 (n : Int)) ∧ w'.cell? ⟨wq.heap.size, 1, none⟩ = some (.int .i64 xr.is) ∧ w'.cell? ⟨w4.heap.size, 17 + n, none⟩ = some (.int .i64 dv)) (by kernel_rfl) (by exact ⟨hold_cell KOD.out 2 rfl, rowRange_cmd (o := 0) KOD.out.cel.whole, KCD.out.cel.whole, (hold_cell KOD.out 0 rfl).trans (by rw [HN.out]), hold_cell KOD.out 1 rfl, by rw [HDV.out]; exact cell_dep KSD.out n hn7⟩) (fun hHeld => ?_)
              refine wpAnyH_take (i := 0) (oi := ⟨some 74, .move (.tmp 11), 4, _, _, none⟩) (v := ?_) rfl (by kernel_rfl) (by kernel_rfl) (by kernel_rfl) (fun _ _ _ h => h) (Or.inl ⟨by rfl, ?_⟩) (by assumption) ?_
              rotate_left
              · (intro w hSw; (try dsimp only at hSw); go_split_ands; go_simp; (try with_reducible rfl))
              (try simp only [Act.put]); (try simp only [List.setIfInBounds_toArray]); (try simp only [List.set_cons_succ]); (try simp only [List.set_cons_zero])
              refine wpAnyH_take (i := 1) (oi := ⟨some 75, .move (.tmp 74), 4, _, _, none⟩) (v := ?_) rfl (by kernel_rfl) (by kernel_rfl) (by kernel_rfl) (fun _ _ _ h => h) (Or.inl ⟨by rfl, ?_⟩) (by assumption) ?_
              rotate_left
              · (intro w hSw; (try dsimp only at hSw); go_split_ands; go_simp; (try with_reducible rfl))
              (try simp only [Act.put]); (try simp only [List.setIfInBounds_toArray]); (try simp only [List.set_cons_succ]); (try simp only [List.set_cons_zero])
              refine wpAnyH_take (i := 2) (oi := ⟨some 76, .fieldAddr 41 (.tmp 10) 1, 0, _, _, some (1, true)⟩) (v := ?_) rfl (by kernel_rfl) (by kernel_rfl) (by kernel_rfl) (fun _ _ _ h => h) (Or.inl ⟨by rfl, ?_⟩) (by assumption) ?_
              rotate_left
              · (intro w hSw; (try dsimp only at hSw); go_split_ands; go_simp; (try with_reducible rfl))
              (try simp only [Act.put]); (try simp only [List.setIfInBounds_toArray]); (try simp only [List.set_cons_succ]); (try simp only [List.set_cons_zero])
              refine wpAnyH_take (i := 3) (oi := ⟨some 77, .load 3 (.tmp 76), 3, _, _, some (1, true)⟩) (v := ?_) rfl (by kernel_rfl) (by kernel_rfl) (by kernel_rfl) (fun _ _ _ h => h) (Or.inl ⟨by rfl, ?_⟩) (by assumption) ?_
              rotate_left
              · (intro w hSw; (try dsimp only at hSw); go_split_ands; go_simp; (try with_reducible rfl))
              (try simp only [Act.put]); (try simp only [List.setIfInBounds_toArray]); (try simp only [List.set_cons_succ]); (try simp only [List.set_cons_zero])
              refine wpAnyH_take (i := 4) (oi := ⟨some 78, .binOp .neq 3 (.tmp 77) (.const (.int .i64 0)) 3, 4, _, _, some (1, true)⟩) (v := ?_) rfl (by kernel_rfl) (by kernel_rfl) (by kernel_rfl) (fun _ _ _ h => h) (Or.inl ⟨by rfl, ?_⟩) (by assumption) ?_
              rotate_left
              · (intro w hSw; (try dsimp only at hSw); go_split_ands; go_simp; (try with_reducible rfl))
              (try simp only [Act.put]); (try simp only [List.setIfInBounds_toArray]); (try simp only [List.set_cons_succ]); (try simp only [List.set_cons_zero])
              refine wpAnyH_take (i := 5) (oi := ⟨some 79, .pick (.tmp 75) (.tmp 78) (.const (.bool false)), 4, _, _, none⟩) (v := ?_) rfl (by kernel_rfl) (by kernel_rfl) (by kernel_rfl) (fun _ _ _ h => h) (Or.inl ⟨by rfl, ?_⟩) (by assumption) ?_
              rotate_left
              · (intro w hSw; (try dsimp only at hSw); go_split_ands; go_simp; (try with_reducible rfl))
              (try simp only [Act.put]); (try simp only [List.setIfInBounds_toArray]); (try simp only [List.set_cons_succ]); (try simp only [List.set_cons_zero])
              refine wpAnyH_take (i := 6) (oi := ⟨some 80, .move (.tmp 79), 4, _, _, none⟩) (v := ?_) rfl (by kernel_rfl) (by kernel_rfl) (by kernel_rfl) (fun _ _ _ h => h) (Or.inl ⟨by rfl, ?_⟩) (by assumption) ?_
              rotate_left
              · (intro w hSw; (try dsimp only at hSw); go_split_ands; go_simp; (try with_reducible rfl))
              (try simp only [Act.put]); (try simp only [List.setIfInBounds_toArray]); (try simp only [List.set_cons_succ]); (try simp only [List.set_cons_zero])
              refine wpAnyH_take (i := 7) (oi := ⟨some 81, .fieldAddr 41 (.tmp 10) 4, 0, _, _, some (6, true)⟩) (v := ?_) rfl (by kernel_rfl) (by kernel_rfl) (by kernel_rfl) (fun _ _ _ h => h) (Or.inl ⟨by rfl, ?_⟩) (by assumption) ?_
              rotate_left
              · (intro w hSw; (try dsimp only at hSw); go_split_ands; go_simp; (try with_reducible rfl))
              (try simp only [Act.put]); (try simp only [List.setIfInBounds_toArray]); (try simp only [List.set_cons_succ]); (try simp only [List.set_cons_zero])
              refine wpAnyH_take (i := 8) (oi := ⟨some 82, .load 30 (.tmp 81), 30, _, _, some (6, true)⟩) (v := .agg ([.int .i64 xr.c.k, .int .i64 xr.c.tc, .int .i64 xr.c.tn, .int .i64 xr.c.tt, .int .i64 xr.c.tk, .int .i64 xr.c.sh, ya, yb, .bool xr.c.cm] : List Value).toArray) rfl (by kernel_rfl) (by kernel_rfl) (by kernel_rfl) (fun _ _ _ h => h) (yieldsIf_load_mid (by rfl) 30 _ rfl wq.heap.size 7 rfl [.int .i64 xr.c.k, .int .i64 xr.c.tc, .int .i64 xr.c.tn, .int .i64 xr.c.tt, .int .i64 xr.c.tk, .int .i64 xr.c.sh, ya, yb, .bool xr.c.cm] _ (fun w hSw => hSw.2.1) Tryz.underlying30 rfl (by kernel_rfl)) (by assumption) ?_
              (try simp only [Act.put]); (try simp only [List.setIfInBounds_toArray]); (try simp only [List.set_cons_succ]); (try simp only [List.set_cons_zero])
              refine wpAnyH_take (i := 9) (oi := ⟨some 83, .load 30 (.tmp 5), 30, _, _, some (6, true)⟩) (v := .agg ([.int .i64 c.k, .int .i64 c.tc, .int .i64 c.tn, .int .i64 c.tt, .int .i64 c.tk, .int .i64 c.sh, va, vb, .bool c.cm] : List Value).toArray) rfl (by kernel_rfl) (by kernel_rfl) (by kernel_rfl) (fun _ _ _ h => h) (yieldsIf_load_mid (by rfl) 30 _ rfl w.heap.size 0 rfl [.int .i64 c.k, .int .i64 c.tc, .int .i64 c.tn, .int .i64 c.tt, .int .i64 c.tk, .int .i64 c.sh, va, vb, .bool c.cm] _ (fun w hSw => hSw.2.2.1) Tryz.underlying30 rfl (by kernel_rfl)) (by assumption) ?_
              (try simp only [Act.put]); (try simp only [List.setIfInBounds_toArray]); (try simp only [List.set_cons_succ]); (try simp only [List.set_cons_zero])
              refine wpAnyH_ready (rs := [10]) (by kernel_rfl) (by simp) ?_
              refine AllReadyH.cons (o := ⟨some 84, .call { callee := .value (.func 24), args := #[.tmp 82, .tmp 83], argTypes := #[30, 30] }, 4, _, _, some (6, true)⟩) rfl (fun K hK => ?_) AllReadyH.nil
              try go_simp
              have hbw := below_on (below_on HB5.out HW6W.out) HBD.out
              have HA := dinter_any xr.c c (HTX.out.below hbw).rs (HTX.out.below hbw).ws (HC.out.below hbw) (HC'.out.below hbw) HMX.out F
              rw [HIV.out] at HA
              refine HA.mono ?_
              clear HA hbw
              rintro e wa ⟨rfl, hb⟩
              have KOA := Lib.hid (KOD.out.on hb)
              have KSA := Lib.hid (KSD.out.on hb)
              have KCA := Lib.hid (KCD.out.on hb)
              have HBA := Lib.hid (below_on HBD.out hb)
              clear hb
              try go_simp
              refine hK.out _ _ (by exact ⟨hold_cell KOA.out 2 rfl, rowRange_cmd (o := 0) KOA.out.cel.whole, KCA.out.cel.whole, (hold_cell KOA.out 0 rfl).trans (by rw [HN.out]), hold_cell KOA.out 1 rfl, by rw [HDV.out]; exact cell_dep KSA.out n hn7⟩) (fun hHeld => ?_)
              clear hK K
              (try simp only [Act.put]); (try simp only [List.setIfInBounds_toArray]); (try simp only [List.set_cons_succ]); (try simp only [List.set_cons_zero])
              refine wpAnyH_take (i := 11) (oi := ⟨some 85, .pick (.tmp 80) (.tmp 84) (.const (.bool false)), 4, _, _, none⟩) (v := ?_) rfl (by kernel_rfl) (by kernel_rfl) (by kernel_rfl) (fun _ _ _ h => h) (Or.inl ⟨by rfl, ?_⟩) (by assumption) ?_
              rotate_left
              · (intro w hSw; (try dsimp only at hSw); go_split_ands; go_simp; (try with_reducible rfl))
              (try simp only [Act.put]); (try simp only [List.setIfInBounds_toArray]); (try simp only [List.set_cons_succ]); (try simp only [List.set_cons_zero])
              refine wpAnyH_take (i := 12) (oi := ⟨some 86, .move (.tmp 85), 4, _, _, none⟩) (v := ?_) rfl (by kernel_rfl) (by kernel_rfl) (by kernel_rfl) (fun _ _ _ h => h) (Or.inl ⟨by rfl, ?_⟩) (by assumption) ?_
              rotate_left
              · (intro w hSw; (try dsimp only at hSw); go_split_ands; go_simp; (try with_reducible rfl))
              (try simp only [Act.put]); (try simp only [List.setIfInBounds_toArray]); (try simp only [List.set_cons_succ]); (try simp only [List.set_cons_zero])
              refine wpAnyH_take (i := 13) (oi := ⟨some 87, .fieldAddr 41 (.tmp 10) 0, 0, _, _, some (12, true)⟩) (v := undef) rfl (by kernel_rfl) (by kernel_rfl) (by kernel_rfl) (fun _ _ _ h => h) (Or.inr ⟨by rfl, rfl⟩) (by assumption) ?_
              (try simp only [Act.put]); (try simp only [List.setIfInBounds_toArray]); (try simp only [List.set_cons_succ]); (try simp only [List.set_cons_zero])
              refine wpAnyH_take (i := 14) (oi := ⟨some 88, .fieldAddr 32 (.tmp 87) 0, 0, _, _, some (12, true)⟩) (v := undef) rfl (by kernel_rfl) (by kernel_rfl) (by kernel_rfl) (fun _ _ _ h => h) (Or.inr ⟨by rfl, rfl⟩) (by assumption) ?_
              (try simp only [Act.put]); (try simp only [List.setIfInBounds_toArray]); (try simp only [List.set_cons_succ]); (try simp only [List.set_cons_zero])
              refine wpAnyH_take (i := 15) (oi := ⟨some 89, .load 3 (.tmp 88), 3, _, _, some (12, true)⟩) (v := undef) rfl (by kernel_rfl) (by kernel_rfl) (by kernel_rfl) (fun _ _ _ h => h) (Or.inr ⟨by rfl, rfl⟩) (by assumption) ?_
              (try simp only [Act.put]); (try simp only [List.setIfInBounds_toArray]); (try simp only [List.set_cons_succ]); (try simp only [List.set_cons_zero])
              refine wpAnyH_take (i := 16) (oi := ⟨some 90, .fieldAddr 41 (.tmp 7) 6, 0, _, _, some (12, true)⟩) (v := undef) rfl (by kernel_rfl) (by kernel_rfl) (by kernel_rfl) (fun _ _ _ h => h) (Or.inr ⟨by rfl, rfl⟩) (by assumption) ?_
              (try simp only [Act.put]); (try simp only [List.setIfInBounds_toArray]); (try simp only [List.set_cons_succ]); (try simp only [List.set_cons_zero])
              refine wpAnyH_take (i := 17) (oi := ⟨some 91, .indexAddr 39 (.tmp 90) (.tmp 89), 0, _, _, some (12, true)⟩) (v := undef) rfl (by kernel_rfl) (by kernel_rfl) (by kernel_rfl) (fun _ _ _ h => h) (Or.inr ⟨by rfl, rfl⟩) (by assumption) ?_
              (try simp only [Act.put]); (try simp only [List.setIfInBounds_toArray]); (try simp only [List.set_cons_succ]); (try simp only [List.set_cons_zero])
              refine wpAnyH_take (i := 18) (oi := ⟨some 92, .load 3 (.tmp 91), 3, _, _, some (12, true)⟩) (v := undef) rfl (by kernel_rfl) (by kernel_rfl) (by kernel_rfl) (fun _ _ _ h => h) (Or.inr ⟨by rfl, rfl⟩) (by assumption) ?_
              (try simp only [Act.put]); (try simp only [List.setIfInBounds_toArray]); (try simp only [List.set_cons_succ]); (try simp only [List.set_cons_zero])
              refine wpAnyH_take (i := 19) (oi := ⟨some 93, .fieldAddr 41 (.tmp 10) 0, 0, _, _, some (12, true)⟩) (v := undef) rfl (by kernel_rfl) (by kernel_rfl) (by kernel_rfl) (fun _ _ _ h => h) (Or.inr ⟨by rfl, rfl⟩) (by assumption) ?_
              (try simp only [Act.put]); (try simp only [List.setIfInBounds_toArray]); (try simp only [List.set_cons_succ]); (try simp only [List.set_cons_zero])
              refine wpAnyH_take (i := 20) (oi := ⟨some 94, .fieldAddr 32 (.tmp 93) 1, 0, _, _, some (12, true)⟩) (v := undef) rfl (by kernel_rfl) (by kernel_rfl) (by kernel_rfl) (fun _ _ _ h => h) (Or.inr ⟨by rfl, rfl⟩) (by assumption) ?_
              (try simp only [Act.put]); (try simp only [List.setIfInBounds_toArray]); (try simp only [List.set_cons_succ]); (try simp only [List.set_cons_zero])
              refine wpAnyH_take (i := 21) (oi := ⟨some 95, .load 3 (.tmp 94), 3, _, _, some (12, true)⟩) (v := undef) rfl (by kernel_rfl) (by kernel_rfl) (by kernel_rfl) (fun _ _ _ h => h) (Or.inr ⟨by rfl, rfl⟩) (by assumption) ?_
              (try simp only [Act.put]); (try simp only [List.setIfInBounds_toArray]); (try simp only [List.set_cons_succ]); (try simp only [List.set_cons_zero])
              refine wpAnyH_take (i := 22) (oi := ⟨some 96, .binOp .lss 3 (.tmp 92) (.tmp 95) 3, 4, _, _, some (12, true)⟩) (v := undef) rfl (by kernel_rfl) (by kernel_rfl) (by kernel_rfl) (fun _ _ _ h => h) (Or.inr ⟨by rfl, rfl⟩) (by assumption) ?_
              (try simp only [Act.put]); (try simp only [List.setIfInBounds_toArray]); (try simp only [List.set_cons_succ]); (try simp only [List.set_cons_zero])
              refine wpAnyH_take (i := 23) (oi := ⟨some 97, .pick (.tmp 86) (.tmp 96) (.const (.bool false)), 4, _, _, none⟩) (v := ?_) rfl (by kernel_rfl) (by kernel_rfl) (by kernel_rfl) (fun _ _ _ h => h) (Or.inl ⟨by rfl, ?_⟩) (by assumption) ?_
              rotate_left
              · (intro w hSw; (try dsimp only at hSw); go_split_ands; go_simp; (try with_reducible rfl))
              (try simp only [Act.put]); (try simp only [List.setIfInBounds_toArray]); (try simp only [List.set_cons_succ]); (try simp only [List.set_cons_zero])
              refine wpAnyH_done (by kernel_rfl) ?_ _
              clear hHeld
              go_wp2
              go_roundw
              case rel => exact ⟨k + 1, by go_num, hlt, Lib.hid (below_on HW6.out HBA.out)⟩
              case measure => simp [intOf]; omega
            · have HIV := Lib.hid hi
              have hlt0 : decide (dv < xr.is) = false := decide_eq_false (by
                have := HDX.out HL.out.symm hst hi
                rw [hn] at this
                simp only [Int.toNat_natCast] at this
                omega)
              clear hn hdv hrt hst hi
              have hbd : Below wr.heap.size wr wr.drew := (Below.refl _ _).drew
              have KOD := Lib.hid ((KO6.out.on HW8.out).on hbd)
              have KSD := Lib.hid ((KS6.out.on HW8.out).on hbd)
              have KCD := Lib.hid (((KC5.out.on HW6.out).on HW8.out).on hbd)
              have HBD := Lib.hid (below_on HW8.out hbd)
              clear hbd
              refine wp_region_held_drew (S := fun w' => w'.cell? ⟨wq.heap.size, 2, none⟩ = some (.int .i64 xr.st) ∧ w'.rangeAt wq.heap.size 7 [.int .i64 xr.c.k, .int .i64 xr.c.tc, .int .i64 xr.c.tn, .int .i64 xr.c.tt, .int .i64 xr.c.tk, .int .i64 xr.c.sh, ya, yb, .bool xr.c.cm] ∧ w'.rangeAt w.heap.size 0 [.int .i64 c.k, .int .i64 c.tc, .int .i64 c.tn, .int .i64 c.tt, .int .i64 c.tk, .int .i64 c.sh, va, vb, .bool c.cm] ∧ w'.cell? ⟨wq.heap.size, 0, none⟩ = some (.int .i64 (n : Int)) ∧ w'.cell? ⟨wq.heap.size, 1, none⟩ = some (.int .i64 xr.is) ∧ w'.cell? ⟨w4.heap.size, 17 + n, none⟩ = some (.int .i64 dv)) (by kernel_rfl) (by exact ⟨hold_cell KOD.out 2 rfl, rowRange_cmd (o := 0) KOD.out.cel.whole, KCD.out.cel.whole, (hold_cell KOD.out 0 rfl).trans (by rw [HN.out]), hold_cell KOD.out 1 rfl, by rw [HDV.out]; exact cell_dep KSD.out n hn7⟩) (fun hHeld => ?_)
              refine wpAnyH_take (i := 0) (oi := ⟨some 74, .move (.tmp 11), 4, _, _, none⟩) (v := ?_) rfl (by kernel_rfl) (by kernel_rfl) (by kernel_rfl) (fun _ _ _ h => h) (Or.inl ⟨by rfl, ?_⟩) (by assumption) ?_
              rotate_left
              · (intro w hSw; (try dsimp only at hSw); go_split_ands; go_simp; (try with_reducible rfl))
              (try simp only [Act.put]); (try simp only [List.setIfInBounds_toArray]); (try simp only [List.set_cons_succ]); (try simp only [List.set_cons_zero])
              refine wpAnyH_take (i := 1) (oi := ⟨some 75, .move (.tmp 74), 4, _, _, none⟩) (v := ?_) rfl (by kernel_rfl) (by kernel_rfl) (by kernel_rfl) (fun _ _ _ h => h) (Or.inl ⟨by rfl, ?_⟩) (by assumption) ?_
              rotate_left
              · (intro w hSw; (try dsimp only at hSw); go_split_ands; go_simp; (try with_reducible rfl))
              (try simp only [Act.put]); (try simp only [List.setIfInBounds_toArray]); (try simp only [List.set_cons_succ]); (try simp only [List.set_cons_zero])
              refine wpAnyH_take (i := 2) (oi := ⟨some 76, .fieldAddr 41 (.tmp 10) 1, 0, _, _, some (1, true)⟩) (v := ?_) rfl (by kernel_rfl) (by kernel_rfl) (by kernel_rfl) (fun _ _ _ h => h) (Or.inl ⟨by rfl, ?_⟩) (by assumption) ?_
              rotate_left
              · (intro w hSw; (try dsimp only at hSw); go_split_ands; go_simp; (try with_reducible rfl))
              (try simp only [Act.put]); (try simp only [List.setIfInBounds_toArray]); (try simp only [List.set_cons_succ]); (try simp only [List.set_cons_zero])
              refine wpAnyH_take (i := 3) (oi := ⟨some 77, .load 3 (.tmp 76), 3, _, _, some (1, true)⟩) (v := ?_) rfl (by kernel_rfl) (by kernel_rfl) (by kernel_rfl) (fun _ _ _ h => h) (Or.inl ⟨by rfl, ?_⟩) (by assumption) ?_
              rotate_left
              · (intro w hSw; (try dsimp only at hSw); go_split_ands; go_simp; (try with_reducible rfl))
              (try simp only [Act.put]); (try simp only [List.setIfInBounds_toArray]); (try simp only [List.set_cons_succ]); (try simp only [List.set_cons_zero])
              refine wpAnyH_take (i := 4) (oi := ⟨some 78, .binOp .neq 3 (.tmp 77) (.const (.int .i64 0)) 3, 4, _, _, some (1, true)⟩) (v := ?_) rfl (by kernel_rfl) (by kernel_rfl) (by kernel_rfl) (fun _ _ _ h => h) (Or.inl ⟨by rfl, ?_⟩) (by assumption) ?_
              rotate_left
              · (intro w hSw; (try dsimp only at hSw); go_split_ands; go_simp; (try with_reducible rfl))
              (try simp only [Act.put]); (try simp only [List.setIfInBounds_toArray]); (try simp only [List.set_cons_succ]); (try simp only [List.set_cons_zero])
              refine wpAnyH_take (i := 5) (oi := ⟨some 79, .pick (.tmp 75) (.tmp 78) (.const (.bool false)), 4, _, _, none⟩) (v := ?_) rfl (by kernel_rfl) (by kernel_rfl) (by kernel_rfl) (fun _ _ _ h => h) (Or.inl ⟨by rfl, ?_⟩) (by assumption) ?_
              rotate_left
              · (intro w hSw; (try dsimp only at hSw); go_split_ands; go_simp; (try with_reducible rfl))
              (try simp only [Act.put]); (try simp only [List.setIfInBounds_toArray]); (try simp only [List.set_cons_succ]); (try simp only [List.set_cons_zero])
              refine wpAnyH_take (i := 6) (oi := ⟨some 80, .move (.tmp 79), 4, _, _, none⟩) (v := ?_) rfl (by kernel_rfl) (by kernel_rfl) (by kernel_rfl) (fun _ _ _ h => h) (Or.inl ⟨by rfl, ?_⟩) (by assumption) ?_
              rotate_left
              · (intro w hSw; (try dsimp only at hSw); go_split_ands; go_simp; (try with_reducible rfl))
              (try simp only [Act.put]); (try simp only [List.setIfInBounds_toArray]); (try simp only [List.set_cons_succ]); (try simp only [List.set_cons_zero])
              refine wpAnyH_take (i := 7) (oi := ⟨some 81, .fieldAddr 41 (.tmp 10) 4, 0, _, _, some (6, true)⟩) (v := ?_) rfl (by kernel_rfl) (by kernel_rfl) (by kernel_rfl) (fun _ _ _ h => h) (Or.inl ⟨by rfl, ?_⟩) (by assumption) ?_
              rotate_left
              · (intro w hSw; (try dsimp only at hSw); go_split_ands; go_simp; (try with_reducible rfl))
              (try simp only [Act.put]); (try simp only [List.setIfInBounds_toArray]); (try simp only [List.set_cons_succ]); (try simp only [List.set_cons_zero])
              refine wpAnyH_take (i := 8) (oi := ⟨some 82, .load 30 (.tmp 81), 30, _, _, some (6, true)⟩) (v := .agg ([.int .i64 xr.c.k, .int .i64 xr.c.tc, .int .i64 xr.c.tn, .int .i64 xr.c.tt, .int .i64 xr.c.tk, .int .i64 xr.c.sh, ya, yb, .bool xr.c.cm] : List Value).toArray) rfl (by kernel_rfl) (by kernel_rfl) (by kernel_rfl) (fun _ _ _ h => h) (yieldsIf_load_mid (by rfl) 30 _ rfl wq.heap.size 7 rfl [.int .i64 xr.c.k, .int .i64 xr.c.tc, .int .i64 xr.c.tn, .int .i64 xr.c.tt, .int .i64 xr.c.tk, .int .i64 xr.c.sh, ya, yb, .bool xr.c.cm] _ (fun w hSw => hSw.2.1) Tryz.underlying30 rfl (by kernel_rfl)) (by assumption) ?_
              (try simp only [Act.put]); (try simp only [List.setIfInBounds_toArray]); (try simp only [List.set_cons_succ]); (try simp only [List.set_cons_zero])
              refine wpAnyH_take (i := 9) (oi := ⟨some 83, .load 30 (.tmp 5), 30, _, _, some (6, true)⟩) (v := .agg ([.int .i64 c.k, .int .i64 c.tc, .int .i64 c.tn, .int .i64 c.tt, .int .i64 c.tk, .int .i64 c.sh, va, vb, .bool c.cm] : List Value).toArray) rfl (by kernel_rfl) (by kernel_rfl) (by kernel_rfl) (fun _ _ _ h => h) (yieldsIf_load_mid (by rfl) 30 _ rfl w.heap.size 0 rfl [.int .i64 c.k, .int .i64 c.tc, .int .i64 c.tn, .int .i64 c.tt, .int .i64 c.tk, .int .i64 c.sh, va, vb, .bool c.cm] _ (fun w hSw => hSw.2.2.1) Tryz.underlying30 rfl (by kernel_rfl)) (by assumption) ?_
              (try simp only [Act.put]); (try simp only [List.setIfInBounds_toArray]); (try simp only [List.set_cons_succ]); (try simp only [List.set_cons_zero])
              refine wpAnyH_ready (rs := [10]) (by kernel_rfl) (by simp) ?_
              refine AllReadyH.cons (o := ⟨some 84, .call { callee := .value (.func 24), args := #[.tmp 82, .tmp 83], argTypes := #[30, 30] }, 4, _, _, some (6, true)⟩) rfl (fun K hK => ?_) AllReadyH.nil
              try go_simp
              have hbw := below_on (below_on HB5.out HW6W.out) HBD.out
              have HA := dinter_any xr.c c (HTX.out.below hbw).rs (HTX.out.below hbw).ws (HC.out.below hbw) (HC'.out.below hbw) HMX.out F
              rw [HIV.out] at HA
              refine HA.mono ?_
              clear HA hbw
              rintro e wa ⟨rfl, hb⟩
              have KOA := Lib.hid (KOD.out.on hb)
              have KSA := Lib.hid (KSD.out.on hb)
              have KCA := Lib.hid (KCD.out.on hb)
              have HBA := Lib.hid (below_on HBD.out hb)
              clear hb
              try go_simp
              refine hK.out _ _ (by exact ⟨hold_cell KOA.out 2 rfl, rowRange_cmd (o := 0) KOA.out.cel.whole, KCA.out.cel.whole, (hold_cell KOA.out 0 rfl).trans (by rw [HN.out]), hold_cell KOA.out 1 rfl, by rw [HDV.out]; exact cell_dep KSA.out n hn7⟩) (fun hHeld => ?_)
              clear hK K
              (try simp only [Act.put]); (try simp only [List.setIfInBounds_toArray]); (try simp only [List.set_cons_succ]); (try simp only [List.set_cons_zero])
              refine wpAnyH_take (i := 11) (oi := ⟨some 85, .pick (.tmp 80) (.tmp 84) (.const (.bool false)), 4, _, _, none⟩) (v := ?_) rfl (by kernel_rfl) (by kernel_rfl) (by kernel_rfl) (fun _ _ _ h => h) (Or.inl ⟨by rfl, ?_⟩) (by assumption) ?_
              rotate_left
              · (intro w hSw; (try dsimp only at hSw); go_split_ands; go_simp; (try with_reducible rfl))
              (try simp only [Act.put]); (try simp only [List.setIfInBounds_toArray]); (try simp only [List.set_cons_succ]); (try simp only [List.set_cons_zero])
              refine wpAnyH_take (i := 12) (oi := ⟨some 86, .move (.tmp 85), 4, _, _, none⟩) (v := ?_) rfl (by kernel_rfl) (by kernel_rfl) (by kernel_rfl) (fun _ _ _ h => h) (Or.inl ⟨by rfl, ?_⟩) (by assumption) ?_
              rotate_left
              · (intro w hSw; (try dsimp only at hSw); go_split_ands; go_simp; (try with_reducible rfl))
              (try simp only [Act.put]); (try simp only [List.setIfInBounds_toArray]); (try simp only [List.set_cons_succ]); (try simp only [List.set_cons_zero])
              refine wpAnyH_take (i := 13) (oi := ⟨some 87, .fieldAddr 41 (.tmp 10) 0, 0, _, _, some (12, true)⟩) (v := ?_) rfl (by kernel_rfl) (by kernel_rfl) (by kernel_rfl) (fun _ _ _ h => h) (Or.inl ⟨by rfl, ?_⟩) (by assumption) ?_
              rotate_left
              · (intro w hSw; (try dsimp only at hSw); go_split_ands; go_simp; (try with_reducible rfl))
              (try simp only [Act.put]); (try simp only [List.setIfInBounds_toArray]); (try simp only [List.set_cons_succ]); (try simp only [List.set_cons_zero])
              refine wpAnyH_take (i := 14) (oi := ⟨some 88, .fieldAddr 32 (.tmp 87) 0, 0, _, _, some (12, true)⟩) (v := ?_) rfl (by kernel_rfl) (by kernel_rfl) (by kernel_rfl) (fun _ _ _ h => h) (Or.inl ⟨by rfl, ?_⟩) (by assumption) ?_
              rotate_left
              · (intro w hSw; (try dsimp only at hSw); go_split_ands; go_simp; (try with_reducible rfl))
              (try simp only [Act.put]); (try simp only [List.setIfInBounds_toArray]); (try simp only [List.set_cons_succ]); (try simp only [List.set_cons_zero])
              refine wpAnyH_take (i := 15) (oi := ⟨some 89, .load 3 (.tmp 88), 3, _, _, some (12, true)⟩) (v := ?_) rfl (by kernel_rfl) (by kernel_rfl) (by kernel_rfl) (fun _ _ _ h => h) (Or.inl ⟨by rfl, ?_⟩) (by assumption) ?_
              rotate_left
              · (intro w hSw; (try dsimp only at hSw); go_split_ands; go_simp; (try with_reducible rfl))
              (try simp only [Act.put]); (try simp only [List.setIfInBounds_toArray]); (try simp only [List.set_cons_succ]); (try simp only [List.set_cons_zero])
              refine wpAnyH_take (i := 16) (oi := ⟨some 90, .fieldAddr 41 (.tmp 7) 6, 0, _, _, some (12, true)⟩) (v := ?_) rfl (by kernel_rfl) (by kernel_rfl) (by kernel_rfl) (fun _ _ _ h => h) (Or.inl ⟨by rfl, ?_⟩) (by assumption) ?_
              rotate_left
              · (intro w hSw; (try dsimp only at hSw); go_split_ands; go_simp; (try with_reducible rfl))
              (try simp only [Act.put]); (try simp only [List.setIfInBounds_toArray]); (try simp only [List.set_cons_succ]); (try simp only [List.set_cons_zero])
              refine wpAnyH_take (i := 17) (oi := ⟨some 91, .indexAddr 39 (.tmp 90) (.tmp 89), 0, _, _, some (12, true)⟩) (v := ?_) rfl (by kernel_rfl) (by kernel_rfl) (by kernel_rfl) (fun _ _ _ h => h) (Or.inl ⟨by rfl, ?_⟩) (by assumption) ?_
              rotate_left
              · (intro w hSw; (try dsimp only at hSw); go_split_ands; go_simp; (try with_reducible rfl))
              (try simp only [Act.put]); (try simp only [List.setIfInBounds_toArray]); (try simp only [List.set_cons_succ]); (try simp only [List.set_cons_zero])
              refine wpAnyH_take (i := 18) (oi := ⟨some 92, .load 3 (.tmp 91), 3, _, _, some (12, true)⟩) (v := ?_) rfl (by kernel_rfl) (by kernel_rfl) (by kernel_rfl) (fun _ _ _ h => h) (Or.inl ⟨by rfl, ?_⟩) (by assumption) ?_
              rotate_left
              · (intro w hSw; (try dsimp only at hSw); go_split_ands; go_simp; (try with_reducible rfl))
              (try simp only [Act.put]); (try simp only [List.setIfInBounds_toArray]); (try simp only [List.set_cons_succ]); (try simp only [List.set_cons_zero])
              refine wpAnyH_take (i := 19) (oi := ⟨some 93, .fieldAddr 41 (.tmp 10) 0, 0, _, _, some (12, true)⟩) (v := ?_) rfl (by kernel_rfl) (by kernel_rfl) (by kernel_rfl) (fun _ _ _ h => h) (Or.inl ⟨by rfl, ?_⟩) (by assumption) ?_
              rotate_left
              · (intro w hSw; (try dsimp only at hSw); go_split_ands; go_simp; (try with_reducible rfl))
              (try simp only [Act.put]); (try simp only [List.setIfInBounds_toArray]); (try simp only [List.set_cons_succ]); (try simp only [List.set_cons_zero])
              refine wpAnyH_take (i := 20) (oi := ⟨some 94, .fieldAddr 32 (.tmp 93) 1, 0, _, _, some (12, true)⟩) (v := ?_) rfl (by kernel_rfl) (by kernel_rfl) (by kernel_rfl) (fun _ _ _ h => h) (Or.inl ⟨by rfl, ?_⟩) (by assumption) ?_
              rotate_left
              · (intro w hSw; (try dsimp only at hSw); go_split_ands; go_simp; (try with_reducible rfl))
              (try simp only [Act.put]); (try simp only [List.setIfInBounds_toArray]); (try simp only [List.set_cons_succ]); (try simp only [List.set_cons_zero])
              refine wpAnyH_take (i := 21) (oi := ⟨some 95, .load 3 (.tmp 94), 3, _, _, some (12, true)⟩) (v := ?_) rfl (by kernel_rfl) (by kernel_rfl) (by kernel_rfl) (fun _ _ _ h => h) (Or.inl ⟨by rfl, ?_⟩) (by assumption) ?_
              rotate_left
              · (intro w hSw; (try dsimp only at hSw); go_split_ands; go_simp; (try with_reducible rfl))
              (try simp only [Act.put]); (try simp only [List.setIfInBounds_toArray]); (try simp only [List.set_cons_succ]); (try simp only [List.set_cons_zero])
              refine wpAnyH_take (i := 22) (oi := ⟨some 96, .binOp .lss 3 (.tmp 92) (.tmp 95) 3, 4, _, _, some (12, true)⟩) (v := ?_) rfl (by kernel_rfl) (by kernel_rfl) (by kernel_rfl) (fun _ _ _ h => h) (Or.inl ⟨by rfl, ?_⟩) (by assumption) ?_
              rotate_left
              · (intro w hSw; (try dsimp only at hSw); go_split_ands; go_simp; (try with_reducible rfl))
              (try simp only [Act.put]); (try simp only [List.setIfInBounds_toArray]); (try simp only [List.set_cons_succ]); (try simp only [List.set_cons_zero])
              refine wpAnyH_take (i := 23) (oi := ⟨some 97, .pick (.tmp 86) (.tmp 96) (.const (.bool false)), 4, _, _, none⟩) (v := ?_) rfl (by kernel_rfl) (by kernel_rfl) (by kernel_rfl) (fun _ _ _ h => h) (Or.inl ⟨by rfl, ?_⟩) (by assumption) ?_
              rotate_left
              · (intro w hSw; (try dsimp only at hSw); go_split_ands; go_simp; (try with_reducible rfl))
              (try simp only [Act.put]); (try simp only [List.setIfInBounds_toArray]); (try simp only [List.set_cons_succ]); (try simp only [List.set_cons_zero])
              refine wpAnyH_done (by kernel_rfl) ?_ _
              clear hHeld
              go_wp2
              go_roundw
              case rel => exact ⟨k + 1, by go_num, hlt, Lib.hid (below_on HW6.out HBA.out)⟩
              case measure => simp [intOf]; omega
end Go.Proofs.YtpknkhgkejkpkaaGreat
