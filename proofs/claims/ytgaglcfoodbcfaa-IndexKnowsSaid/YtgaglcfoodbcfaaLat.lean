/- The walk of IndexAttrs; no conditions. -/
import Derived.Test.YtgaglcfoodbcfaaRgA
import Derived.Test.YtgaglcfoodbcfaaArg
namespace Go.Proofs.Ytgaglcfoodbcfaa
open Go.ChangeShapes Go.WideShapes Go.ChangeAt Go.RowKit

attribute [local go_sem ↓] run_same7
theorem hold7 {w : World} {g : Nat} {d : Nat → Int} (h : Hold w g 42 [.int .i64 (d 0), .int .i64 (d 1), .int .i64 (d 2), .int .i64 (d 3), .int .i64 (d 4), .int .i64 (d 5), .int .i64 (d 6)]) : w.rangeAt g 0 [.int .i64 (d 0), .int .i64 (d 1), .int .i64 (d 2), .int .i64 (d 3), .int .i64 (d 4), .int .i64 (d 5), .int .i64 (d 6)] := hold_range h 0 _ (fun j v hj => by rw [Nat.zero_add]; exact hj)
theorem hold2 {w : World} {g : Nat} {a b : Int} (h : Hold w g 24 [.int .i64 a, .int .i64 b]) : w.rangeAt g 0 [.int .i64 a, .int .i64 b] := hold_range h 0 _ (fun j v hj => by rw [Nat.zero_add]; exact hj)
theorem hold9 {w : World} {g : Nat} {c : M.Cmd} {va vb : Value} (h : Hold w g 32 [.int .i64 c.k, .int .i64 c.tc, .int .i64 c.tn, .int .i64 c.tt, .int .i64 c.tk, .int .i64 c.sh, va, vb, .bool c.cm]) : w.rangeAt g 0 [.int .i64 c.k, .int .i64 c.tc, .int .i64 c.tn, .int .i64 c.tt, .int .i64 c.tk, .int .i64 c.sh, va, vb, .bool c.cm] := hold_range h 0 _ (fun j v hj => by rw [Nat.zero_add]; exact hj)
theorem same7_self (a b c d e f g : Int) : V7.same7 a b c d e f g a b c d e f g = true := by simp [V7.same7]
set_option maxHeartbeats 8000000 in
set_option maxRecDepth 100000 in
theorem attrs_law (i1 i2 : Int) (c : M.Cmd) (s : Int) (d : Nat → Int) (w : World) {v ua ub : Value} {X : List Rv} (h : Rows w v X) (_hq : Sqs X) (g : Rds w ua c.rs) (g' : Wrs w ub c.ws) :
    Calls Try.prog 4 #[v, .agg #[.int .i64 i1, .int .i64 i2], .agg #[.int .i64 c.k, .int .i64 c.tc, .int .i64 c.tn, .int .i64 c.tt, .int .i64 c.tk, .int .i64 c.sh, ua, ub, .bool c.cm], .int .i64 s, .agg #[.int .i64 (d 0), .int .i64 (d 1), .int .i64 (d 2), .int .i64 (d 3), .int .i64 (d 4), .int .i64 (d 5), .int .i64 (d 6)]] w fun e w' => e = .returned (.bool true) ∧ Below w.heap.size w w' := by
  obtain ⟨A, cc, rfl⟩ := rowN_sliceOf h.row
  obtain ⟨A5, c5, ec⟩ := rowN_sliceOf g
  obtain ⟨A6, c6, ed⟩ := rowN_sliceOf g'
  subst ec ed
  have hb0 : Below w.heap.size w (((w.alloc (.cells #[.int .i64 i1, .int .i64 i2] 24)).alloc (.cells #[.int .i64 c.k, .int .i64 c.tc, .int .i64 c.tn, .int .i64 c.tt, .int .i64 c.tk, .int .i64 c.sh, (.slice A5 c.rs.length c5), (.slice A6 c.ws.length c6), .bool c.cm] 32)).alloc (.cells #[.int .i64 (d 0), .int .i64 (d 1), .int .i64 (d 2), .int .i64 (d 3), .int .i64 (d 4), .int .i64 (d 5), .int .i64 (d 6)] 42)) := below_new (below_new (below_new (Below.refl _ _)))
  have h1 : Hold (((w.alloc (.cells #[.int .i64 i1, .int .i64 i2] 24)).alloc (.cells #[.int .i64 c.k, .int .i64 c.tc, .int .i64 c.tn, .int .i64 c.tt, .int .i64 c.tk, .int .i64 c.sh, (.slice A5 c.rs.length c5), (.slice A6 c.ws.length c6), .bool c.cm] 32)).alloc (.cells #[.int .i64 (d 0), .int .i64 (d 1), .int .i64 (d 2), .int .i64 (d 3), .int .i64 (d 4), .int .i64 (d 5), .int .i64 (d 6)] 42)) w.heap.size 24 [.int .i64 i1, .int .i64 i2] := (Hold.new w [.int .i64 i1, .int .i64 i2] 24).on (below_new (below_new (Below.refl _ _)))
  have h2 : Hold (((w.alloc (.cells #[.int .i64 i1, .int .i64 i2] 24)).alloc (.cells #[.int .i64 c.k, .int .i64 c.tc, .int .i64 c.tn, .int .i64 c.tt, .int .i64 c.tk, .int .i64 c.sh, (.slice A5 c.rs.length c5), (.slice A6 c.ws.length c6), .bool c.cm] 32)).alloc (.cells #[.int .i64 (d 0), .int .i64 (d 1), .int .i64 (d 2), .int .i64 (d 3), .int .i64 (d 4), .int .i64 (d 5), .int .i64 (d 6)] 42)) (w.heap.size + 1) 32 [.int .i64 c.k, .int .i64 c.tc, .int .i64 c.tn, .int .i64 c.tt, .int .i64 c.tk, .int .i64 c.sh, (.slice A5 c.rs.length c5), (.slice A6 c.ws.length c6), .bool c.cm] := by
    have := (Hold.new (w.alloc (.cells #[.int .i64 i1, .int .i64 i2] 24)) [.int .i64 c.k, .int .i64 c.tc, .int .i64 c.tn, .int .i64 c.tt, .int .i64 c.tk, .int .i64 c.sh, (.slice A5 c.rs.length c5), (.slice A6 c.ws.length c6), .bool c.cm] 32).on (below_new (o := .cells #[.int .i64 (d 0), .int .i64 (d 1), .int .i64 (d 2), .int .i64 (d 3), .int .i64 (d 4), .int .i64 (d 5), .int .i64 (d 6)] 42) (Below.refl _ _))
    simpa using this
  have h3 : Hold (((w.alloc (.cells #[.int .i64 i1, .int .i64 i2] 24)).alloc (.cells #[.int .i64 c.k, .int .i64 c.tc, .int .i64 c.tn, .int .i64 c.tt, .int .i64 c.tk, .int .i64 c.sh, (.slice A5 c.rs.length c5), (.slice A6 c.ws.length c6), .bool c.cm] 32)).alloc (.cells #[.int .i64 (d 0), .int .i64 (d 1), .int .i64 (d 2), .int .i64 (d 3), .int .i64 (d 4), .int .i64 (d 5), .int .i64 (d 6)] 42)) (w.heap.size + 1 + 1) 42 [.int .i64 (d 0), .int .i64 (d 1), .int .i64 (d 2), .int .i64 (d 3), .int .i64 (d 4), .int .i64 (d 5), .int .i64 (d 6)] := by
    have := Hold.new ((w.alloc (.cells #[.int .i64 i1, .int .i64 i2] 24)).alloc (.cells #[.int .i64 c.k, .int .i64 c.tc, .int .i64 c.tn, .int .i64 c.tt, .int .i64 c.tk, .int .i64 c.sh, (.slice A5 c.rs.length c5), (.slice A6 c.ws.length c6), .bool c.cm] 32)) [.int .i64 (d 0), .int .i64 (d 1), .int .i64 (d 2), .int .i64 (d 3), .int .i64 (d 4), .int .i64 (d 5), .int .i64 (d 6)] 42
    simpa using this
  have HX := Lib.hid (h.below hb0)
  have HG := Lib.hid (g.below hb0)
  have HG' := Lib.hid (g'.below hb0)
  have HB := Lib.hid hb0
  have H1 := Lib.hid h1
  have H2 := Lib.hid h2
  have H3 := Lib.hid h3
  clear h g g' hb0 h1 h2 h3 _hq
  go_enter Try.func4, Try.ntmps4
  go_wp2_with (fail)
  generalize (((w.alloc (.cells #[.int .i64 i1, .int .i64 i2] 24)).alloc (.cells #[.int .i64 c.k, .int .i64 c.tc, .int .i64 c.tn, .int .i64 c.tt, .int .i64 c.tk, .int .i64 c.sh, (.slice A5 c.rs.length c5), (.slice A6 c.ws.length c6), .bool c.cm] 32)).alloc (.cells #[.int .i64 (d 0), .int .i64 (d 1), .int .i64 (d 2), .int .i64 (d 3), .int .i64 (d 4), .int .i64 (d 5), .int .i64 (d 6)] 42)) = w0 at *
  refine (few_rows HX.out).mono ?_
  rintro e w1 ⟨rfl, hb1⟩
  have HB1 := Lib.hid (below_on HB.out hb1)
  rcases hf : fewX X with _ | _
  · clear hb1
    go_wp2_with (fail)
    refine (awake_any w1).mono ?_
    rintro e w2 ⟨rfl, hb2⟩
    have HB2 := Lib.hid (below_on HB1.out hb2)
    clear hb2
    go_wp2
    go_ret
    exact ⟨rfl, HB2.out⟩
  have hl := fewX_len hf
  have hm := fewX_mod hf
  have HX1 := Lib.hid (HX.out.below hb1)
  have HG1 := Lib.hid (HG.out.below hb1)
  have HG1' := Lib.hid (HG'.out.below hb1)
  have H11 := Lib.hid (H1.out.on hb1)
  have H21 := Lib.hid (H2.out.on hb1)
  have H31 := Lib.hid (H3.out.on hb1)
  have HC := Lib.hid (hold9 H21.out)
  have hb2 : Below w1.heap.size w1 (w1.alloc (.cells #[.int .i64 c.k, .int .i64 c.tc, .int .i64 c.tn, .int .i64 c.tt, .int .i64 c.tk, .int .i64 c.sh, (.slice A5 c.rs.length c5), (.slice A6 c.ws.length c6), .bool c.cm] 32)) := below_new (Below.refl _ _)
  have HF := Lib.hid (few_one (w := w1) (b := w1.heap.size) rfl c HG1.out HG1'.out)
  have HB2 := Lib.hid hb2
  clear hb1 HX HG HG' H1 H2 H3 HB hb2
  go_wp2_with (first
    | (with_reducible refine wpList_load_mid_g ?_ 32 _ rfl (w.heap.size + 1) 0 rfl [.int .i64 c.k, .int .i64 c.tc, .int .i64 c.tn, .int .i64 c.tt, .int .i64 c.tk, .int .i64 c.sh, (.slice A5 c.rs.length c5), (.slice A6 c.ws.length c6), .bool c.cm] _ HC.out Try.underlying32 rfl (by kernel_rfl) ?_; kernel_rfl)
    | fail)
  refine HF.out.mono ?_
  rintro e w2 ⟨rfl, hb2⟩
  have hb12 := below_on HB2.out hb2
  have HB3 := Lib.hid (below_on HB1.out hb12)
  rcases hfc : M.modB c with _ | _
  · clear hb2 hb12
    go_wp2_with (fail)
    refine (awake_any w2).mono ?_
    rintro e w3 ⟨rfl, hb3⟩
    have HB4 := Lib.hid (below_on HB3.out hb3)
    clear hb3
    go_wp2
    go_ret
    exact ⟨rfl, HB4.out⟩
  have G := M.modB_iff.1 hfc
  have HX2 := Lib.hid (HX1.out.below hb12)
  have HG2 := Lib.hid (HG1.out.below hb12)
  have HG2' := Lib.hid (HG1'.out.below hb12)
  have H12 := Lib.hid (H11.out.on hb12)
  have H22 := Lib.hid (H21.out.on hb12)
  have H32 := Lib.hid (H31.out.on hb12)
  obtain ⟨nn, hn⟩ : ∃ nn, nn = atS X (i1, i2) c s := ⟨_, rfl⟩
  obtain ⟨nd, hnd⟩ : ∃ nd, nd = atD X (i1, i2) c d := ⟨_, rfl⟩
  have HN := Lib.hid hn
  have HND := Lib.hid hnd
  clear hn hnd
  clear hb2 hb12 HX1 HG1 HG1' H11 H21 H31 HC HF HB2 HB1
  go_wp2
  refine reg4 (r := M.awakeR) (A3 := none) (A4 := none) (c3 := 0) (c4 := 0) HX2.out (by omega) hm (hold2 H12.out) (hold_lt H12.out) (hold9 H22.out) (hold_lt H22.out) (hold7 H32.out) (hold_lt H32.out) HG2.out HG2'.out G HN.out HND.out ?_
  intro x25 x26 x27 x28 x29 x30 x31 x32 x33 x34 gb W hbW hgl hgb
  have HBW := Lib.hid (below_on HB3.out hbW)
  have HXW := Lib.hid (HX2.out.below hbW)
  have I1 := Lib.hid (hold2 (H12.out.on hbW))
  have I2 := Lib.hid (hold9 (H22.out.on hbW))
  have I3 := Lib.hid (hold7 (H32.out.on hbW))
  have HGB := Lib.hid hgb
  have HDA := dattrs_any HXW.out (by omega) hm i1 i2 c (HG2.out.below hbW) (HG2'.out.below hbW) G s d
  rw [← HN.out, ← HND.out] at HDA
  have HDD := Lib.hid HDA
  clear hbW hgb HDA HX2 HG2 HG2' H12 H22 H32 HB3
  go_wp2_with (first
    | (with_reducible refine wpList_load_mid rfl 24 _ rfl w.heap.size 0 rfl [.int .i64 i1, .int .i64 i2] _ I1.out Try.underlying24 rfl (by kernel_rfl) ?_)
    | (with_reducible refine wpList_load_mid rfl 32 _ rfl (w.heap.size + 1) 0 rfl [.int .i64 c.k, .int .i64 c.tc, .int .i64 c.tn, .int .i64 c.tt, .int .i64 c.tk, .int .i64 c.sh, (.slice A5 c.rs.length c5), (.slice A6 c.ws.length c6), .bool c.cm] _ I2.out Try.underlying32 rfl (by kernel_rfl) ?_)
    | (with_reducible refine wpList_load_mid rfl 42 _ rfl (w.heap.size + 1 + 1) 0 rfl [.int .i64 (d 0), .int .i64 (d 1), .int .i64 (d 2), .int .i64 (d 3), .int .i64 (d 4), .int .i64 (d 5), .int .i64 (d 6)] _ I3.out Try.underlying42 rfl (by kernel_rfl) ?_)
    | fail)
  refine HDD.out.mono ?_
  rintro e w5 ⟨rfl, hb5⟩
  have hb6 : Below w5.heap.size w5 (w5.alloc (.cells #[.int .i64 (nd 0), .int .i64 (nd 1), .int .i64 (nd 2), .int .i64 (nd 3), .int .i64 (nd 4), .int .i64 (nd 5), .int .i64 (nd 6)] 42)) := below_new (Below.refl _ _)
  have HB6 := Lib.hid (below_on (below_on HBW.out hb5) hb6)
  have J1 := Lib.hid (hold7 ((HGB.out.on hb5).on hb6))
  have J2 := Lib.hid (hold7 (Hold.new w5 [.int .i64 (nd 0), .int .i64 (nd 1), .int .i64 (nd 2), .int .i64 (nd 3), .int .i64 (nd 4), .int .i64 (nd 5), .int .i64 (nd 6)] 42))
  have hbb : (nn == nn) = true := beq_self_eq_true _
  have hss := same7_self (nd 0) (nd 1) (nd 2) (nd 3) (nd 4) (nd 5) (nd 6)
  clear hb5 hb6 I1 I2 I3 HGB HDD HXW HBW HN HND
  go_wp2_with (first
    | (with_reducible refine wpList_store_fresh rfl 42 _ _ rfl w5.heap.size rfl 42 _ [.int .i64 (nd 0), .int .i64 (nd 1), .int .i64 (nd 2), .int .i64 (nd 3), .int .i64 (nd 4), .int .i64 (nd 5), .int .i64 (nd 6)] rfl rfl rfl (by kernel_rfl) rfl ?_)
    | (with_reducible refine wpList_load_mid_g ?_ 42 _ rfl gb 0 rfl [.int .i64 (nd 0), .int .i64 (nd 1), .int .i64 (nd 2), .int .i64 (nd 3), .int .i64 (nd 4), .int .i64 (nd 5), .int .i64 (nd 6)] _ J1.out Try.underlying42 rfl (by kernel_rfl) ?_; kernel_rfl)
    | (with_reducible refine wpList_load_mid_g ?_ 42 _ rfl w5.heap.size 0 rfl [.int .i64 (nd 0), .int .i64 (nd 1), .int .i64 (nd 2), .int .i64 (nd 3), .int .i64 (nd 4), .int .i64 (nd 5), .int .i64 (nd 6)] _ J2.out Try.underlying42 rfl (by kernel_rfl) ?_; kernel_rfl)
    | fail)
  refine (awake_any _).mono ?_
  rintro e w7 ⟨rfl, hb7⟩
  have HB7 := Lib.hid (below_on HB6.out hb7)
  clear hb7
  go_wp2
  go_ret
  exact ⟨rfl, HB7.out⟩
end Go.Proofs.Ytgaglcfoodbcfaa
