/- The walk of IndexStays; no conditions. -/
import Derived.Test.YtgaglcfoodbcfaaRgT
import Derived.Test.YtgaglcfoodbcfaaRgU
import Derived.Test.YtgaglcfoodbcfaaPy
import Derived.Test.YtgaglcfoodbcfaaLat
import Derived.Test.YtgaglcfoodbcfaaLno
import Derived.Test.YtgaglcfoodbcfaaBgd
import Derived.Test.YtgaglcfoodbcfaaOdr
namespace Go.Proofs.Ytgaglcfoodbcfaa
open Go.ChangeShapes Go.WideShapes Go.ChangeAt Go.RowKit

attribute [local go_sem ↓] run_same7 run_same_inst
set_option maxHeartbeats 16000000 in
set_option maxRecDepth 100000 in
theorem stays_law (r : M.Rec) (i1 i2 : Int) (c : M.Cmd) (s : Int) (d : Nat → Int) (w : World) {v va vb ua ub : Value} {X : List Rv} (h : Rows w v X) (_hq : Sqs X) (t : Txt w ⟨r, va, vb⟩) (g : Rds w ua c.rs) (g' : Wrs w ub c.ws) :
    Calls Try.prog 5 #[v, .agg #[.int .i64 r.ir, .int .i64 r.is, .int .i64 r.st, .int .i64 r.pn, .int .i64 r.pr, .int .i64 r.bn, .int .i64 r.br, .int .i64 r.c.k, .int .i64 r.c.tc, .int .i64 r.c.tn, .int .i64 r.c.tt, .int .i64 r.c.tk, .int .i64 r.c.sh, va, vb, .bool r.c.cm, .int .i64 r.sq, .int .i64 r.d0, .int .i64 r.d1, .int .i64 r.d2, .int .i64 r.d3, .int .i64 r.d4, .int .i64 r.d5, .int .i64 r.d6, .bool r.kp], .agg #[.int .i64 i1, .int .i64 i2], .agg #[.int .i64 c.k, .int .i64 c.tc, .int .i64 c.tn, .int .i64 c.tt, .int .i64 c.tk, .int .i64 c.sh, ua, ub, .bool c.cm], .int .i64 s, .agg #[.int .i64 (d 0), .int .i64 (d 1), .int .i64 (d 2), .int .i64 (d 3), .int .i64 (d 4), .int .i64 (d 5), .int .i64 (d 6)]] w fun e w' => e = .returned (.bool true) ∧ Below w.heap.size w w' := by
  obtain ⟨A, cc, rfl⟩ := rowN_sliceOf h.row
  obtain ⟨A3, c3, ea⟩ := rowN_sliceOf t.rs
  obtain ⟨A4, c4, eb⟩ := rowN_sliceOf t.ws
  dsimp only at ea eb
  subst ea eb
  obtain ⟨A5, c5, ec⟩ := rowN_sliceOf g
  obtain ⟨A6, c6, ed⟩ := rowN_sliceOf g'
  subst ec ed
  have hb0 : Below w.heap.size w ((((w.alloc (.cells #[.int .i64 r.ir, .int .i64 r.is, .int .i64 r.st, .int .i64 r.pn, .int .i64 r.pr, .int .i64 r.bn, .int .i64 r.br, .int .i64 r.c.k, .int .i64 r.c.tc, .int .i64 r.c.tn, .int .i64 r.c.tt, .int .i64 r.c.tk, .int .i64 r.c.sh, (.slice A3 r.c.rs.length c3), (.slice A4 r.c.ws.length c4), .bool r.c.cm, .int .i64 r.sq, .int .i64 r.d0, .int .i64 r.d1, .int .i64 r.d2, .int .i64 r.d3, .int .i64 r.d4, .int .i64 r.d5, .int .i64 r.d6, .bool r.kp] 44)).alloc (.cells #[.int .i64 i1, .int .i64 i2] 24)).alloc (.cells #[.int .i64 c.k, .int .i64 c.tc, .int .i64 c.tn, .int .i64 c.tt, .int .i64 c.tk, .int .i64 c.sh, (.slice A5 c.rs.length c5), (.slice A6 c.ws.length c6), .bool c.cm] 32)).alloc (.cells #[.int .i64 (d 0), .int .i64 (d 1), .int .i64 (d 2), .int .i64 (d 3), .int .i64 (d 4), .int .i64 (d 5), .int .i64 (d 6)] 42)) := below_new (below_new (below_new (below_new (Below.refl _ _))))
  have h0 : Hold ((((w.alloc (.cells #[.int .i64 r.ir, .int .i64 r.is, .int .i64 r.st, .int .i64 r.pn, .int .i64 r.pr, .int .i64 r.bn, .int .i64 r.br, .int .i64 r.c.k, .int .i64 r.c.tc, .int .i64 r.c.tn, .int .i64 r.c.tt, .int .i64 r.c.tk, .int .i64 r.c.sh, (.slice A3 r.c.rs.length c3), (.slice A4 r.c.ws.length c4), .bool r.c.cm, .int .i64 r.sq, .int .i64 r.d0, .int .i64 r.d1, .int .i64 r.d2, .int .i64 r.d3, .int .i64 r.d4, .int .i64 r.d5, .int .i64 r.d6, .bool r.kp] 44)).alloc (.cells #[.int .i64 i1, .int .i64 i2] 24)).alloc (.cells #[.int .i64 c.k, .int .i64 c.tc, .int .i64 c.tn, .int .i64 c.tt, .int .i64 c.tk, .int .i64 c.sh, (.slice A5 c.rs.length c5), (.slice A6 c.ws.length c6), .bool c.cm] 32)).alloc (.cells #[.int .i64 (d 0), .int .i64 (d 1), .int .i64 (d 2), .int .i64 (d 3), .int .i64 (d 4), .int .i64 (d 5), .int .i64 (d 6)] 42)) w.heap.size 44 [.int .i64 r.ir, .int .i64 r.is, .int .i64 r.st, .int .i64 r.pn, .int .i64 r.pr, .int .i64 r.bn, .int .i64 r.br, .int .i64 r.c.k, .int .i64 r.c.tc, .int .i64 r.c.tn, .int .i64 r.c.tt, .int .i64 r.c.tk, .int .i64 r.c.sh, (.slice A3 r.c.rs.length c3), (.slice A4 r.c.ws.length c4), .bool r.c.cm, .int .i64 r.sq, .int .i64 r.d0, .int .i64 r.d1, .int .i64 r.d2, .int .i64 r.d3, .int .i64 r.d4, .int .i64 r.d5, .int .i64 r.d6, .bool r.kp] := (Hold.new w [.int .i64 r.ir, .int .i64 r.is, .int .i64 r.st, .int .i64 r.pn, .int .i64 r.pr, .int .i64 r.bn, .int .i64 r.br, .int .i64 r.c.k, .int .i64 r.c.tc, .int .i64 r.c.tn, .int .i64 r.c.tt, .int .i64 r.c.tk, .int .i64 r.c.sh, (.slice A3 r.c.rs.length c3), (.slice A4 r.c.ws.length c4), .bool r.c.cm, .int .i64 r.sq, .int .i64 r.d0, .int .i64 r.d1, .int .i64 r.d2, .int .i64 r.d3, .int .i64 r.d4, .int .i64 r.d5, .int .i64 r.d6, .bool r.kp] 44).on (below_new (below_new (below_new (Below.refl _ _))))
  have h1 : Hold ((((w.alloc (.cells #[.int .i64 r.ir, .int .i64 r.is, .int .i64 r.st, .int .i64 r.pn, .int .i64 r.pr, .int .i64 r.bn, .int .i64 r.br, .int .i64 r.c.k, .int .i64 r.c.tc, .int .i64 r.c.tn, .int .i64 r.c.tt, .int .i64 r.c.tk, .int .i64 r.c.sh, (.slice A3 r.c.rs.length c3), (.slice A4 r.c.ws.length c4), .bool r.c.cm, .int .i64 r.sq, .int .i64 r.d0, .int .i64 r.d1, .int .i64 r.d2, .int .i64 r.d3, .int .i64 r.d4, .int .i64 r.d5, .int .i64 r.d6, .bool r.kp] 44)).alloc (.cells #[.int .i64 i1, .int .i64 i2] 24)).alloc (.cells #[.int .i64 c.k, .int .i64 c.tc, .int .i64 c.tn, .int .i64 c.tt, .int .i64 c.tk, .int .i64 c.sh, (.slice A5 c.rs.length c5), (.slice A6 c.ws.length c6), .bool c.cm] 32)).alloc (.cells #[.int .i64 (d 0), .int .i64 (d 1), .int .i64 (d 2), .int .i64 (d 3), .int .i64 (d 4), .int .i64 (d 5), .int .i64 (d 6)] 42)) (w.heap.size + 1) 24 [.int .i64 i1, .int .i64 i2] := by
    have := (Hold.new (w.alloc (.cells #[.int .i64 r.ir, .int .i64 r.is, .int .i64 r.st, .int .i64 r.pn, .int .i64 r.pr, .int .i64 r.bn, .int .i64 r.br, .int .i64 r.c.k, .int .i64 r.c.tc, .int .i64 r.c.tn, .int .i64 r.c.tt, .int .i64 r.c.tk, .int .i64 r.c.sh, (.slice A3 r.c.rs.length c3), (.slice A4 r.c.ws.length c4), .bool r.c.cm, .int .i64 r.sq, .int .i64 r.d0, .int .i64 r.d1, .int .i64 r.d2, .int .i64 r.d3, .int .i64 r.d4, .int .i64 r.d5, .int .i64 r.d6, .bool r.kp] 44)) [.int .i64 i1, .int .i64 i2] 24).on (below_new (o := .cells #[.int .i64 (d 0), .int .i64 (d 1), .int .i64 (d 2), .int .i64 (d 3), .int .i64 (d 4), .int .i64 (d 5), .int .i64 (d 6)] 42) (below_new (o := .cells #[.int .i64 c.k, .int .i64 c.tc, .int .i64 c.tn, .int .i64 c.tt, .int .i64 c.tk, .int .i64 c.sh, (.slice A5 c.rs.length c5), (.slice A6 c.ws.length c6), .bool c.cm] 32) (Below.refl _ _)))
    simpa using this
  have h2 : Hold ((((w.alloc (.cells #[.int .i64 r.ir, .int .i64 r.is, .int .i64 r.st, .int .i64 r.pn, .int .i64 r.pr, .int .i64 r.bn, .int .i64 r.br, .int .i64 r.c.k, .int .i64 r.c.tc, .int .i64 r.c.tn, .int .i64 r.c.tt, .int .i64 r.c.tk, .int .i64 r.c.sh, (.slice A3 r.c.rs.length c3), (.slice A4 r.c.ws.length c4), .bool r.c.cm, .int .i64 r.sq, .int .i64 r.d0, .int .i64 r.d1, .int .i64 r.d2, .int .i64 r.d3, .int .i64 r.d4, .int .i64 r.d5, .int .i64 r.d6, .bool r.kp] 44)).alloc (.cells #[.int .i64 i1, .int .i64 i2] 24)).alloc (.cells #[.int .i64 c.k, .int .i64 c.tc, .int .i64 c.tn, .int .i64 c.tt, .int .i64 c.tk, .int .i64 c.sh, (.slice A5 c.rs.length c5), (.slice A6 c.ws.length c6), .bool c.cm] 32)).alloc (.cells #[.int .i64 (d 0), .int .i64 (d 1), .int .i64 (d 2), .int .i64 (d 3), .int .i64 (d 4), .int .i64 (d 5), .int .i64 (d 6)] 42)) (w.heap.size + 1 + 1) 32 [.int .i64 c.k, .int .i64 c.tc, .int .i64 c.tn, .int .i64 c.tt, .int .i64 c.tk, .int .i64 c.sh, (.slice A5 c.rs.length c5), (.slice A6 c.ws.length c6), .bool c.cm] := by
    have := (Hold.new ((w.alloc (.cells #[.int .i64 r.ir, .int .i64 r.is, .int .i64 r.st, .int .i64 r.pn, .int .i64 r.pr, .int .i64 r.bn, .int .i64 r.br, .int .i64 r.c.k, .int .i64 r.c.tc, .int .i64 r.c.tn, .int .i64 r.c.tt, .int .i64 r.c.tk, .int .i64 r.c.sh, (.slice A3 r.c.rs.length c3), (.slice A4 r.c.ws.length c4), .bool r.c.cm, .int .i64 r.sq, .int .i64 r.d0, .int .i64 r.d1, .int .i64 r.d2, .int .i64 r.d3, .int .i64 r.d4, .int .i64 r.d5, .int .i64 r.d6, .bool r.kp] 44)).alloc (.cells #[.int .i64 i1, .int .i64 i2] 24)) [.int .i64 c.k, .int .i64 c.tc, .int .i64 c.tn, .int .i64 c.tt, .int .i64 c.tk, .int .i64 c.sh, (.slice A5 c.rs.length c5), (.slice A6 c.ws.length c6), .bool c.cm] 32).on (below_new (o := .cells #[.int .i64 (d 0), .int .i64 (d 1), .int .i64 (d 2), .int .i64 (d 3), .int .i64 (d 4), .int .i64 (d 5), .int .i64 (d 6)] 42) (Below.refl _ _))
    simpa using this
  have h3 : Hold ((((w.alloc (.cells #[.int .i64 r.ir, .int .i64 r.is, .int .i64 r.st, .int .i64 r.pn, .int .i64 r.pr, .int .i64 r.bn, .int .i64 r.br, .int .i64 r.c.k, .int .i64 r.c.tc, .int .i64 r.c.tn, .int .i64 r.c.tt, .int .i64 r.c.tk, .int .i64 r.c.sh, (.slice A3 r.c.rs.length c3), (.slice A4 r.c.ws.length c4), .bool r.c.cm, .int .i64 r.sq, .int .i64 r.d0, .int .i64 r.d1, .int .i64 r.d2, .int .i64 r.d3, .int .i64 r.d4, .int .i64 r.d5, .int .i64 r.d6, .bool r.kp] 44)).alloc (.cells #[.int .i64 i1, .int .i64 i2] 24)).alloc (.cells #[.int .i64 c.k, .int .i64 c.tc, .int .i64 c.tn, .int .i64 c.tt, .int .i64 c.tk, .int .i64 c.sh, (.slice A5 c.rs.length c5), (.slice A6 c.ws.length c6), .bool c.cm] 32)).alloc (.cells #[.int .i64 (d 0), .int .i64 (d 1), .int .i64 (d 2), .int .i64 (d 3), .int .i64 (d 4), .int .i64 (d 5), .int .i64 (d 6)] 42)) (w.heap.size + 1 + 1 + 1) 42 [.int .i64 (d 0), .int .i64 (d 1), .int .i64 (d 2), .int .i64 (d 3), .int .i64 (d 4), .int .i64 (d 5), .int .i64 (d 6)] := by
    have := Hold.new (((w.alloc (.cells #[.int .i64 r.ir, .int .i64 r.is, .int .i64 r.st, .int .i64 r.pn, .int .i64 r.pr, .int .i64 r.bn, .int .i64 r.br, .int .i64 r.c.k, .int .i64 r.c.tc, .int .i64 r.c.tn, .int .i64 r.c.tt, .int .i64 r.c.tk, .int .i64 r.c.sh, (.slice A3 r.c.rs.length c3), (.slice A4 r.c.ws.length c4), .bool r.c.cm, .int .i64 r.sq, .int .i64 r.d0, .int .i64 r.d1, .int .i64 r.d2, .int .i64 r.d3, .int .i64 r.d4, .int .i64 r.d5, .int .i64 r.d6, .bool r.kp] 44)).alloc (.cells #[.int .i64 i1, .int .i64 i2] 24)).alloc (.cells #[.int .i64 c.k, .int .i64 c.tc, .int .i64 c.tn, .int .i64 c.tt, .int .i64 c.tk, .int .i64 c.sh, (.slice A5 c.rs.length c5), (.slice A6 c.ws.length c6), .bool c.cm] 32)) [.int .i64 (d 0), .int .i64 (d 1), .int .i64 (d 2), .int .i64 (d 3), .int .i64 (d 4), .int .i64 (d 5), .int .i64 (d 6)] 42
    simpa using this
  have HX := Lib.hid (h.below hb0)
  have HT := Lib.hid (t.below hb0)
  have HG := Lib.hid (g.below hb0)
  have HG' := Lib.hid (g'.below hb0)
  have HB := Lib.hid hb0
  have H0 := Lib.hid h0
  have H1 := Lib.hid h1
  have H2 := Lib.hid h2
  have H3 := Lib.hid h3
  clear h t g g' hb0 h0 h1 h2 h3 _hq
  go_enter Try.func5, Try.ntmps5
  go_wp2_with (fail)
  generalize ((((w.alloc (.cells #[.int .i64 r.ir, .int .i64 r.is, .int .i64 r.st, .int .i64 r.pn, .int .i64 r.pr, .int .i64 r.bn, .int .i64 r.br, .int .i64 r.c.k, .int .i64 r.c.tc, .int .i64 r.c.tn, .int .i64 r.c.tt, .int .i64 r.c.tk, .int .i64 r.c.sh, (.slice A3 r.c.rs.length c3), (.slice A4 r.c.ws.length c4), .bool r.c.cm, .int .i64 r.sq, .int .i64 r.d0, .int .i64 r.d1, .int .i64 r.d2, .int .i64 r.d3, .int .i64 r.d4, .int .i64 r.d5, .int .i64 r.d6, .bool r.kp] 44)).alloc (.cells #[.int .i64 i1, .int .i64 i2] 24)).alloc (.cells #[.int .i64 c.k, .int .i64 c.tc, .int .i64 c.tn, .int .i64 c.tt, .int .i64 c.tk, .int .i64 c.sh, (.slice A5 c.rs.length c5), (.slice A6 c.ws.length c6), .bool c.cm] 32)).alloc (.cells #[.int .i64 (d 0), .int .i64 (d 1), .int .i64 (d 2), .int .i64 (d 3), .int .i64 (d 4), .int .i64 (d 5), .int .i64 (d 6)] 42)) = w0 at *
  refine (few_rows HX.out).mono ?_
  rintro e w1 ⟨rfl, hb1⟩
  have HB1 := Lib.hid (below_on HB.out hb1)
  rcases hf : fewX X with _ | _
  · clear hb1
    go_wp2_with (fail)
    refine (awake_any w1).mono ?_
    rintro e w2 ⟨rfl, hb2⟩
    have HB2 := Lib.hid (below_on HB1.out hb2)
    clear hb2
    go_wp2
    go_ret
    exact ⟨rfl, HB2.out⟩
  have hl := fewX_len hf
  have hm := fewX_mod hf
  have HX1 := Lib.hid (HX.out.below hb1)
  have HT1 := Lib.hid (HT.out.below hb1)
  have HG1 := Lib.hid (HG.out.below hb1)
  have HG1' := Lib.hid (HG'.out.below hb1)
  have H01 := Lib.hid (H0.out.on hb1)
  have H11 := Lib.hid (H1.out.on hb1)
  have H21 := Lib.hid (H2.out.on hb1)
  have H31 := Lib.hid (H3.out.on hb1)
  have HR1 := Lib.hid (hold_rec H01.out)
  have HF := Lib.hid (few_rows (rows_one HT1.out))
  have hbx := below_new (o := .cells (Rv.cells ⟨r, .slice A3 r.c.rs.length c3, .slice A4 r.c.ws.length c4⟩).toArray 44) (Below.refl w1.heap.size w1)
  have HBX := Lib.hid hbx
  clear hb1 HX HT HG HG' H0 H1 H2 H3 HB hbx
  go_wp2_with (first
    | (with_reducible refine wpList_load_mid_g ?_ 44 _ rfl w.heap.size 0 rfl [.int .i64 r.ir, .int .i64 r.is, .int .i64 r.st, .int .i64 r.pn, .int .i64 r.pr, .int .i64 r.bn, .int .i64 r.br, .int .i64 r.c.k, .int .i64 r.c.tc, .int .i64 r.c.tn, .int .i64 r.c.tt, .int .i64 r.c.tk, .int .i64 r.c.sh, (.slice A3 r.c.rs.length c3), (.slice A4 r.c.ws.length c4), .bool r.c.cm, .int .i64 r.sq, .int .i64 r.d0, .int .i64 r.d1, .int .i64 r.d2, .int .i64 r.d3, .int .i64 r.d4, .int .i64 r.d5, .int .i64 r.d6, .bool r.kp] _ HR1.out Try.underlying44 rfl (by kernel_rfl) ?_; kernel_rfl)
    | (with_reducible refine wpList_build44_g ?_ (.tmp 25) rfl ⟨r, .slice A3 r.c.rs.length c3, .slice A4 r.c.ws.length c4⟩ rfl ?_; kernel_rfl)
    | fail)
  refine HF.out.mono ?_
  rintro e w2 ⟨rfl, hb2⟩
  have hb12 := below_on HBX.out hb2
  have HB2 := Lib.hid (below_on HB1.out hb12)
  rcases hfr : fewX [⟨r, .slice A3 r.c.rs.length c3, .slice A4 r.c.ws.length c4⟩] with _ | _
  · clear hb2 hb12
    go_wp2_with (fail)
    refine (awake_any w2).mono ?_
    rintro e w3 ⟨rfl, hb3⟩
    have HB4 := Lib.hid (below_on HB2.out hb3)
    clear hb3
    go_wp2
    go_ret
    exact ⟨rfl, HB4.out⟩
  have hmr : M.Mod r.c := fewX_mod hfr ⟨r, .slice A3 r.c.rs.length c3, .slice A4 r.c.ws.length c4⟩ (by simp)
  have HX2 := Lib.hid (HX1.out.below hb12)
  have HT2 := Lib.hid (HT1.out.below hb12)
  have HG2 := Lib.hid (HG1.out.below hb12)
  have HG2' := Lib.hid (HG1'.out.below hb12)
  have H02 := Lib.hid (H01.out.on hb12)
  have H12 := Lib.hid (H11.out.on hb12)
  have H22 := Lib.hid (H21.out.on hb12)
  have H32 := Lib.hid (H31.out.on hb12)
  have HC := Lib.hid (hold9 H22.out)
  have HFC := Lib.hid (few_one (w := w2) (b := w2.heap.size) rfl c HG2.out HG2'.out)
  have HBC := Lib.hid (below_new (o := .cells #[.int .i64 c.k, .int .i64 c.tc, .int .i64 c.tn, .int .i64 c.tt, .int .i64 c.tk, .int .i64 c.sh, (.slice A5 c.rs.length c5), (.slice A6 c.ws.length c6), .bool c.cm] 32) (Below.refl w2.heap.size w2))
  clear hb2 hb12 HX1 HT1 HG1 HG1' H01 H11 H21 H31 HR1 HF HBX HB1
  go_wp2_with (first
    | (with_reducible refine wpList_load_mid_g ?_ 32 _ rfl (w.heap.size + 1 + 1) 0 rfl [.int .i64 c.k, .int .i64 c.tc, .int .i64 c.tn, .int .i64 c.tt, .int .i64 c.tk, .int .i64 c.sh, (.slice A5 c.rs.length c5), (.slice A6 c.ws.length c6), .bool c.cm] _ HC.out Try.underlying32 rfl (by kernel_rfl) ?_; kernel_rfl)
    | fail)
  refine HFC.out.mono ?_
  rintro e w3 ⟨rfl, hb3⟩
  have hb23 := below_on HBC.out hb3
  have HB3 := Lib.hid (below_on HB2.out hb23)
  rcases hfc : M.modB c with _ | _
  · clear hb3 hb23
    go_wp2_with (fail)
    refine (awake_any w3).mono ?_
    rintro e w4 ⟨rfl, hb4⟩
    have HB4 := Lib.hid (below_on HB3.out hb4)
    clear hb4
    go_wp2
    go_ret
    exact ⟨rfl, HB4.out⟩
  have G := M.modB_iff.1 hfc
  have HX3 := Lib.hid (HX2.out.below hb23)
  have HT3 := Lib.hid (HT2.out.below hb23)
  have HG3 := Lib.hid (HG2.out.below hb23)
  have HG3' := Lib.hid (HG2'.out.below hb23)
  have H03 := Lib.hid (H02.out.on hb23)
  have H13 := Lib.hid (H12.out.on hb23)
  have H23 := Lib.hid (H22.out.on hb23)
  have H33 := Lib.hid (H32.out.on hb23)
  have HMM := Lib.hid (show ∀ y ∈ X ++ [⟨r, .slice A3 r.c.rs.length c3, .slice A4 r.c.ws.length c4⟩], M.Mod y.r.c from fun y hy => by
    rcases List.mem_append.1 hy with hy | hy
    · exact hm y hy
    · rw [List.mem_singleton.1 hy]; exact hmr)
  obtain ⟨nn, hn⟩ : ∃ nn, nn = atS X (i1, i2) c s := ⟨_, rfl⟩
  obtain ⟨nd, hnd⟩ : ∃ nd, nd = atD X (i1, i2) c d := ⟨_, rfl⟩
  have HN2 := Lib.hid (show nn = atS X (i1, i2) c nn by rw [hn, atS_again])
  have HND2 := Lib.hid (show nd = atD X (i1, i2) c nd by rw [hnd, atD_again])
  have hge : s ≤ nn := by rw [hn]; exact atS_ge _ _ _ _
  have hov : Dp.M.over nd d = true := by rw [hnd]; exact atD_over _ _ _ _
  have HN := Lib.hid hn
  have HND := Lib.hid hnd
  have HMO := Lib.hid hm
  clear hn hnd hb3 hb23 HX2 HT2 HG2 HG2' H02 H12 H22 H32 HC HFC HBC HB2 hf hfr hfc hmr hm
  go_wp2
  refine reg5a (r := M.awakeR) (A3 := none) (A4 := none) (c3 := 0) (c4 := 0) HX3.out (by omega) HMO.out (hold2 H13.out) (hold_lt H13.out) (hold9 H23.out) (hold_lt H23.out) (hold7 H33.out) (hold_lt H33.out) HG3.out HG3'.out G HN.out HND.out ?_
  intro x37 x38 x39 x40 x41 x42 x43 x44 x45 x46 ga Wa hbW hgl hgb
  have HB4 := Lib.hid (below_on HB3.out hbW)
  have HX4 := Lib.hid (HX3.out.below hbW)
  have HT4 := Lib.hid (HT3.out.below hbW)
  have HG4 := Lib.hid (HG3.out.below hbW)
  have HG4' := Lib.hid (HG3'.out.below hbW)
  have H04 := Lib.hid (H03.out.on hbW)
  have H14 := Lib.hid (H13.out.on hbW)
  have H24 := Lib.hid (H23.out.on hbW)
  have H34 := Lib.hid (H33.out.on hbW)
  have HA4 := Lib.hid hgb
  clear hbW hgl hgb HX3 HT3 HG3 HG3' H03 H13 H23 H33 HB3
  go_wp2
  refine reg5b (r := M.awakeR) (A3 := none) (A4 := none) (c3 := 0) (c4 := 0) HX4.out (by omega) HMO.out (hold2 H14.out) (hold_lt H14.out) (hold9 H24.out) (hold_lt H24.out) (hold7 HA4.out) (hold_lt HA4.out) HG4.out HG4'.out G HN2.out HND2.out ?_
  intro x47 x48 x49 x50 x51 x52 x53 x54 x55 x56 gb Wb hbW hgl hgb
  have HB5 := Lib.hid (below_on HB4.out hbW)
  have HX5 := Lib.hid (HX4.out.below hbW)
  have HT5 := Lib.hid (HT4.out.below hbW)
  have HG5 := Lib.hid (HG4.out.below hbW)
  have HG5' := Lib.hid (HG4'.out.below hbW)
  have H05 := Lib.hid (H04.out.on hbW)
  have H15 := Lib.hid (H14.out.on hbW)
  have H25 := Lib.hid (H24.out.on hbW)
  have H35 := Lib.hid (H34.out.on hbW)
  have HA5 := Lib.hid (HA4.out.on hbW)
  have HBB5 := Lib.hid hgb
  clear hbW hgl hgb HX4 HT4 HG4 HG4' H04 H14 H24 H34 HB4 HA4 HN2 HND2
  have d1 : decide (nn < s) = false := decide_eq_false (by omega)
  have L1 := Lib.hid (hold7 HA5.out)
  have L2 := Lib.hid (hold7 H35.out)
  have HOV := Dp.refOver_any nd d Wb
  rw [hov] at HOV
  have HOVR := Lib.hid HOV
  clear HOV hov
  go_wp2_with (first
    | (with_reducible refine wpList_load_mid_g ?_ 42 _ rfl ga 0 rfl [.int .i64 (nd 0), .int .i64 (nd 1), .int .i64 (nd 2), .int .i64 (nd 3), .int .i64 (nd 4), .int .i64 (nd 5), .int .i64 (nd 6)] _ L1.out Try.underlying42 rfl (by kernel_rfl) ?_; kernel_rfl)
    | (with_reducible refine wpList_load_mid_g ?_ 42 _ rfl (w.heap.size + 1 + 1 + 1) 0 rfl [.int .i64 (d 0), .int .i64 (d 1), .int .i64 (d 2), .int .i64 (d 3), .int .i64 (d 4), .int .i64 (d 5), .int .i64 (d 6)] _ L2.out Try.underlying42 rfl (by kernel_rfl) ?_; kernel_rfl)
    | fail)
  refine HOVR.out.mono ?_
  rintro e w6 ⟨rfl, hb6⟩
  have HB6 := Lib.hid (below_on HB5.out hb6)
  have HX6 := Lib.hid (HX5.out.below hb6)
  have HT6 := Lib.hid (HT5.out.below hb6)
  have HG6 := Lib.hid (HG5.out.below hb6)
  have HG6' := Lib.hid (HG5'.out.below hb6)
  have H06 := Lib.hid (H05.out.on hb6)
  have H16 := Lib.hid (H15.out.on hb6)
  have H26 := Lib.hid (H25.out.on hb6)
  have H36 := Lib.hid (H35.out.on hb6)
  have HA6 := Lib.hid (HA5.out.on hb6)
  have HBB6 := Lib.hid (HBB5.out.on hb6)
  have L3 := Lib.hid (hold7 HBB6.out)
  have L4 := Lib.hid (hold7 HA6.out)
  have hbn : (nn != nn) = false := by simp
  have hs1 := same7_self (nd 0) (nd 1) (nd 2) (nd 3) (nd 4) (nd 5) (nd 6)
  clear hb6 HOVR L1 L2 HX5 HT5 HG5 HG5' H05 H15 H25 H35 HA5 HBB5 HB5 d1
  go_wp2_with (first
    | (with_reducible refine wpList_load_mid_g ?_ 42 _ rfl gb 0 rfl [.int .i64 (nd 0), .int .i64 (nd 1), .int .i64 (nd 2), .int .i64 (nd 3), .int .i64 (nd 4), .int .i64 (nd 5), .int .i64 (nd 6)] _ L3.out Try.underlying42 rfl (by kernel_rfl) ?_; kernel_rfl)
    | (with_reducible refine wpList_load_mid_g ?_ 42 _ rfl ga 0 rfl [.int .i64 (nd 0), .int .i64 (nd 1), .int .i64 (nd 2), .int .i64 (nd 3), .int .i64 (nd 4), .int .i64 (nd 5), .int .i64 (nd 6)] _ L4.out Try.underlying42 rfl (by kernel_rfl) ?_; kernel_rfl)
    | fail)
  clear hbn hs1 L3 L4 HBB6
  go_loopw [78] (fun i wr => ∃ k : Nat, i = .int .i64 k ∧ k ≤ X.length ∧ Hid (Below w6.heap.size w6 wr) ∧ Hid (∀ (q : Nat) (x : Rv), q < k → X[q]? = some x → x.key ≠ (r.ir, r.is))) (fun i _ => X.length - (intOf i).toNat)
  case atStart => exact ⟨0, rfl, Nat.zero_le _, Lib.hid (Below.refl _ _), Lib.hid (fun q x hq _ => absurd hq (by omega))⟩
  case round =>
    obtain ⟨k, rfl, hk, HW, HNK⟩ := hrel
    by_cases hlt : k < X.length
    · obtain ⟨x, hx⟩ : ∃ x, X[k]? = some x := ⟨_, List.getElem?_eq_getElem hlt⟩
      have hxm : x ∈ X := List.mem_of_getElem? hx
      obtain ⟨b, o, rfl, hbl, hrr⟩ := rowN_range (HX6.out.below HW.out).row hx
      have HXX := Lib.hid ((HX6.out.tx x hxm).below HW.out)
      have HXK := Lib.hid hx
      obtain ⟨y, ya, yb⟩ := x
      obtain ⟨A7, c7, ea⟩ := rowN_sliceOf HXX.out.rs
      obtain ⟨A8, c8, eb⟩ := rowN_sliceOf HXX.out.ws
      dsimp only at ea eb
      subst ea eb
      have HRR := Lib.hid (show wr.rangeAt b (o + k * 25) [.int .i64 y.ir, .int .i64 y.is, .int .i64 y.st, .int .i64 y.pn, .int .i64 y.pr, .int .i64 y.bn, .int .i64 y.br, .int .i64 y.c.k, .int .i64 y.c.tc, .int .i64 y.c.tn, .int .i64 y.c.tt, .int .i64 y.c.tk, .int .i64 y.c.sh, (.slice A7 y.c.rs.length c7), (.slice A8 y.c.ws.length c8), .bool y.c.cm, .int .i64 y.sq, .int .i64 y.d0, .int .i64 y.d1, .int .i64 y.d2, .int .i64 y.d3, .int .i64 y.d4, .int .i64 y.d5, .int .i64 y.d6, .bool y.kp] from hrr)
      have hk1 : (k : Int) < (X.length : Int) := by omega
      have hb8 : Below wr.heap.size wr (wr.alloc (.cells #[.int .i64 y.ir, .int .i64 y.is, .int .i64 y.st, .int .i64 y.pn, .int .i64 y.pr, .int .i64 y.bn, .int .i64 y.br, .int .i64 y.c.k, .int .i64 y.c.tc, .int .i64 y.c.tn, .int .i64 y.c.tt, .int .i64 y.c.tk, .int .i64 y.c.sh, (.slice A7 y.c.rs.length c7), (.slice A8 y.c.ws.length c8), .bool y.c.cm, .int .i64 y.sq, .int .i64 y.d0, .int .i64 y.d1, .int .i64 y.d2, .int .i64 y.d3, .int .i64 y.d4, .int .i64 y.d5, .int .i64 y.d6, .bool y.kp] 44)) := below_new (Below.refl _ _)
      have HI := Lib.hid (rowRange_inst (hold_rec (Hold.new wr [.int .i64 y.ir, .int .i64 y.is, .int .i64 y.st, .int .i64 y.pn, .int .i64 y.pr, .int .i64 y.bn, .int .i64 y.br, .int .i64 y.c.k, .int .i64 y.c.tc, .int .i64 y.c.tn, .int .i64 y.c.tt, .int .i64 y.c.tk, .int .i64 y.c.sh, (.slice A7 y.c.rs.length c7), (.slice A8 y.c.ws.length c8), .bool y.c.cm, .int .i64 y.sq, .int .i64 y.d0, .int .i64 y.d1, .int .i64 y.d2, .int .i64 y.d3, .int .i64 y.d4, .int .i64 y.d5, .int .i64 y.d6, .bool y.kp] 44)))
      have HW8 := Lib.hid (below_on HW.out hb8)
      have HNI := Lib.hid (rowRange_inst (hold_rec (H06.out.on HW8.out)))
      clear hx hxm hbl hrr hb8 HXX
      rcases hq : M.eq2 y.ir y.is r.ir r.is with _ | _
      · have HNE := Lib.hid (show ∀ (q : Nat) (x : Rv), q < k + 1 → X[q]? = some x → x.key ≠ (r.ir, r.is) from fun q x hq1 hx1 => by
          by_cases e : q = k
          · subst e
            rw [HXK.out] at hx1
            rw [← Option.some.inj hx1]
            intro e
            have e' : (y.ir, y.is) = (r.ir, r.is) := e
            simp only [Prod.mk.injEq] at e'
            have : M.eq2 y.ir y.is r.ir r.is = true := by unfold M.eq2; exact decide_eq_true e'
            rw [hq] at this; cases this
          · exact HNK.out q x (by omega) hx1)
        go_wp2_with (first
          | (with_reducible refine wpList_load_mid rfl 44 _ rfl b (o + k * 25) rfl [.int .i64 y.ir, .int .i64 y.is, .int .i64 y.st, .int .i64 y.pn, .int .i64 y.pr, .int .i64 y.bn, .int .i64 y.br, .int .i64 y.c.k, .int .i64 y.c.tc, .int .i64 y.c.tn, .int .i64 y.c.tt, .int .i64 y.c.tk, .int .i64 y.c.sh, (.slice A7 y.c.rs.length c7), (.slice A8 y.c.ws.length c8), .bool y.c.cm, .int .i64 y.sq, .int .i64 y.d0, .int .i64 y.d1, .int .i64 y.d2, .int .i64 y.d3, .int .i64 y.d4, .int .i64 y.d5, .int .i64 y.d6, .bool y.kp] _ HRR.out Try.underlying44 rfl (by kernel_rfl) ?_)
          | (with_reducible refine wpList_store_fresh rfl 44 _ _ rfl wr.heap.size rfl 44 _ [.int .i64 y.ir, .int .i64 y.is, .int .i64 y.st, .int .i64 y.pn, .int .i64 y.pr, .int .i64 y.bn, .int .i64 y.br, .int .i64 y.c.k, .int .i64 y.c.tc, .int .i64 y.c.tn, .int .i64 y.c.tt, .int .i64 y.c.tk, .int .i64 y.c.sh, (.slice A7 y.c.rs.length c7), (.slice A8 y.c.ws.length c8), .bool y.c.cm, .int .i64 y.sq, .int .i64 y.d0, .int .i64 y.d1, .int .i64 y.d2, .int .i64 y.d3, .int .i64 y.d4, .int .i64 y.d5, .int .i64 y.d6, .bool y.kp] rfl rfl rfl (by kernel_rfl) rfl ?_)
          | (with_reducible refine wpList_load_mid rfl 24 _ rfl wr.heap.size 0 rfl [.int .i64 y.ir, .int .i64 y.is] _ HI.out Try.underlying24 rfl (by kernel_rfl) ?_)
          | (with_reducible refine wpList_load_mid rfl 24 _ rfl w.heap.size 0 rfl [.int .i64 r.ir, .int .i64 r.is] _ HNI.out Try.underlying24 rfl (by kernel_rfl) ?_)
          | fail)
        go_roundw
        case rel => exact ⟨k + 1, by go_num, hlt, HW8, HNE⟩
        case measure => simp [intOf]; omega
      · have HB9 := Lib.hid (below_on HB6.out HW8.out)
        go_wp2_with (first
          | (with_reducible refine wpList_load_mid rfl 44 _ rfl b (o + k * 25) rfl [.int .i64 y.ir, .int .i64 y.is, .int .i64 y.st, .int .i64 y.pn, .int .i64 y.pr, .int .i64 y.bn, .int .i64 y.br, .int .i64 y.c.k, .int .i64 y.c.tc, .int .i64 y.c.tn, .int .i64 y.c.tt, .int .i64 y.c.tk, .int .i64 y.c.sh, (.slice A7 y.c.rs.length c7), (.slice A8 y.c.ws.length c8), .bool y.c.cm, .int .i64 y.sq, .int .i64 y.d0, .int .i64 y.d1, .int .i64 y.d2, .int .i64 y.d3, .int .i64 y.d4, .int .i64 y.d5, .int .i64 y.d6, .bool y.kp] _ HRR.out Try.underlying44 rfl (by kernel_rfl) ?_)
          | (with_reducible refine wpList_store_fresh rfl 44 _ _ rfl wr.heap.size rfl 44 _ [.int .i64 y.ir, .int .i64 y.is, .int .i64 y.st, .int .i64 y.pn, .int .i64 y.pr, .int .i64 y.bn, .int .i64 y.br, .int .i64 y.c.k, .int .i64 y.c.tc, .int .i64 y.c.tn, .int .i64 y.c.tt, .int .i64 y.c.tk, .int .i64 y.c.sh, (.slice A7 y.c.rs.length c7), (.slice A8 y.c.ws.length c8), .bool y.c.cm, .int .i64 y.sq, .int .i64 y.d0, .int .i64 y.d1, .int .i64 y.d2, .int .i64 y.d3, .int .i64 y.d4, .int .i64 y.d5, .int .i64 y.d6, .bool y.kp] rfl rfl rfl (by kernel_rfl) rfl ?_)
          | (with_reducible refine wpList_load_mid rfl 24 _ rfl wr.heap.size 0 rfl [.int .i64 y.ir, .int .i64 y.is] _ HI.out Try.underlying24 rfl (by kernel_rfl) ?_)
          | (with_reducible refine wpList_load_mid rfl 24 _ rfl w.heap.size 0 rfl [.int .i64 r.ir, .int .i64 r.is] _ HNI.out Try.underlying24 rfl (by kernel_rfl) ?_)
          | fail)
        refine (awake_any _).mono ?_
        rintro e w9 ⟨rfl, hb9⟩
        have HB10 := Lib.hid (below_on HB9.out hb9)
        clear hb9
        go_wp2
        go_ret
        exact ⟨rfl, HB10.out⟩
    · obtain rfl : k = X.length := by omega
      have HKN := Lib.hid (show (Rv.key ⟨r, .slice A3 r.c.rs.length c3, .slice A4 r.c.ws.length c4⟩) ∉ keysOf X from key_not fun q x hx => HNK.out q x (List.getElem?_eq_some_iff.1 hx).1 hx)
      have HX8 := Lib.hid (HX6.out.below HW.out)
      have HT8 := Lib.hid (HT6.out.below HW.out)
      have HG8 := Lib.hid (HG6.out.below HW.out)
      have HG8' := Lib.hid (HG6'.out.below HW.out)
      have H08 := Lib.hid (H06.out.on HW.out)
      have H18 := Lib.hid (H16.out.on HW.out)
      have H28 := Lib.hid (H26.out.on HW.out)
      have H38 := Lib.hid (H36.out.on HW.out)
      have HA8 := Lib.hid (HA6.out.on HW.out)
      have HB8 := Lib.hid (below_on HB6.out HW.out)
      obtain ⟨pn, hpn⟩ : ∃ pn, pn = atS (X ++ [⟨r, .slice A3 r.c.rs.length c3, .slice A4 r.c.ws.length c4⟩]) (i1, i2) c s := ⟨_, rfl⟩
      obtain ⟨pd, hpd⟩ : ∃ pd, pd = atD (X ++ [⟨r, .slice A3 r.c.rs.length c3, .slice A4 r.c.ws.length c4⟩]) (i1, i2) c d := ⟨_, rfl⟩
      have HPN := Lib.hid hpn
      have HPD := Lib.hid hpd
      have hmore : nn ≤ pn := by rw [hpn, HN.out]; exact atS_more _ _ _ HKN.out
      have hover : Dp.M.over pd nd = true := by rw [hpd, HND.out]; exact atD_more _ _ _ HKN.out
      clear hpn hpd HW HNK HX6 HT6 HG6 HG6' H06 H16 H26 H36 HA6 HB6 HN HND
      go_wp2
      refine reg5c HX8.out (by omega) HMM.out (hold2 H18.out) (hold_lt H18.out) (hold9 H28.out) (hold_lt H28.out) (hold7 H38.out) (hold_lt H38.out) (hold_rec H08.out) (hold_lt H08.out) HT8.out HG8.out HG8'.out G HPN.out HPD.out ?_
      intro x89 x90 x91 x92 x93 x94 x95 x96 x97 x98 x99 x100 x101 gc Wc hbW hgl hgb
      have HB9 := Lib.hid (below_on HB8.out hbW)
      have M1 := Lib.hid (hold7 hgb)
      have M2 := Lib.hid (hold7 (HA8.out.on hbW))
      have d2 : decide (nn ≤ pn) = true := decide_eq_true hmore
      have HOV := Dp.refOver_any pd nd Wc
      rw [hover] at HOV
      have HOVR := Lib.hid HOV
      clear HOV hover hmore hbW hgl hgb HX8 HT8 HG8 HG8' H08 H18 H28 H38 HA8 HB8 HPN HPD HMM HKN
      go_wp2_with (first
        | (with_reducible refine wpList_load_mid_g ?_ 42 _ rfl gc 0 rfl [.int .i64 (pd 0), .int .i64 (pd 1), .int .i64 (pd 2), .int .i64 (pd 3), .int .i64 (pd 4), .int .i64 (pd 5), .int .i64 (pd 6)] _ M1.out Try.underlying42 rfl (by kernel_rfl) ?_; kernel_rfl)
        | (with_reducible refine wpList_load_mid_g ?_ 42 _ rfl ga 0 rfl [.int .i64 (nd 0), .int .i64 (nd 1), .int .i64 (nd 2), .int .i64 (nd 3), .int .i64 (nd 4), .int .i64 (nd 5), .int .i64 (nd 6)] _ M2.out Try.underlying42 rfl (by kernel_rfl) ?_; kernel_rfl)
        | fail)
      refine HOVR.out.mono ?_
      rintro e w10 ⟨rfl, hb10⟩
      have HB10 := Lib.hid (below_on HB9.out hb10)
      have HAW := Lib.hid (awake_any w10)
      clear hb10 M1 M2 HOVR
      go_wp2_with (fail)
      refine HAW.out.mono ?_
      rintro e w11 ⟨rfl, hb11⟩
      have HB11 := Lib.hid (below_on HB10.out hb11)
      clear hb11
      go_wp2
      go_ret
      exact ⟨rfl, HB11.out⟩
end Go.Proofs.Ytgaglcfoodbcfaa
