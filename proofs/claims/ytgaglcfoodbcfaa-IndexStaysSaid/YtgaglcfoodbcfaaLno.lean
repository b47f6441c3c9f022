/- The walk of IndexNoops; no conditions. -/
import Derived.Test.YtgaglcfoodbcfaaRgN
import Derived.Test.YtgaglcfoodbcfaaPy
import Derived.Test.YtgaglcfoodbcfaaLat
namespace Go.Proofs.Ytgaglcfoodbcfaa
open Go.ChangeShapes Go.WideShapes Go.ChangeAt Go.RowKit

attribute [local go_sem ↓] run_same7 run_same_inst
/-- A Noop that is known. -/
def noopR : M.Rec := ⟨6, 524288, 3, 0, 0, 0, 0, ⟨0, 0, 0, 0, 0, 0, [], [], false⟩, 99, 0, 0, 0, 0, 0, 0, 0, false⟩
def noopV : Rv := ⟨noopR, .slice none noopR.c.rs.length 0, .slice none noopR.c.ws.length 0⟩
theorem mod_zero : M.Mod ⟨0, 0, 0, 0, 0, 0, [], [], false⟩ := M.modB_iff.1 (by kernel_rfl)
theorem key_not {X : List Rv} {q : Ky} (h : ∀ (k : Nat) (x : Rv), X[k]? = some x → x.key ≠ q) : q ∉ keysOf X := fun hm => by
  obtain ⟨x, hx, e⟩ := List.mem_map.1 hm
  obtain ⟨k, hk⟩ := List.getElem?_of_mem hx
  exact h k x hk e
/-- Attrs of no command. -/
theorem attrs_none {w : World} {v : Value} {X : List Rv} (h : Rows w v X) (hl : X.length ≤ 1000) (hm : ∀ x ∈ X, M.Mod x.r.c) (i1 i2 : Int) (s : Int) (d : Nat → Int) :
    Calls Try.prog 21 #[v, .agg #[.int .i64 i1, .int .i64 i2], .agg #[.int .i64 0, .int .i64 0, .int .i64 0, .int .i64 0, .int .i64 0, .int .i64 0, .slice none 0 0, .slice none 0 0, .bool false], .int .i64 s, .agg #[.int .i64 (d 0), .int .i64 (d 1), .int .i64 (d 2), .int .i64 (d 3), .int .i64 (d 4), .int .i64 (d 5), .int .i64 (d 6)]] w fun e w' => e = .returned (.tuple #[.int .i64 s, .agg #[.int .i64 (d 0), .int .i64 (d 1), .int .i64 (d 2), .int .i64 (d 3), .int .i64 (d 4), .int .i64 (d 5), .int .i64 (d 6)]]) ∧ Below w.heap.size w w' := by
  have H := attrs_any h hl hm i1 i2 ⟨0, 0, 0, 0, 0, 0, [], [], false⟩ (rds_nil w) (wrs_nil w) mod_zero s d
  obtain ⟨e1, e2⟩ := at_noop X (i1, i2) ⟨0, 0, 0, 0, 0, 0, [], [], false⟩ rfl s d
  rw [e1, e2] at H
  exact H
set_option maxHeartbeats 16000000 in
set_option maxRecDepth 100000 in
theorem noops_law (i1 i2 : Int) (c : M.Cmd) (s : Int) (d : Nat → Int) (w : World) {v ua ub : Value} {X : List Rv} (h : Rows w v X) (_hq : Sqs X) (g : Rds w ua c.rs) (g' : Wrs w ub c.ws) :
    Calls Try.prog 9 #[v, .agg #[.int .i64 i1, .int .i64 i2], .agg #[.int .i64 c.k, .int .i64 c.tc, .int .i64 c.tn, .int .i64 c.tt, .int .i64 c.tk, .int .i64 c.sh, ua, ub, .bool c.cm], .int .i64 s, .agg #[.int .i64 (d 0), .int .i64 (d 1), .int .i64 (d 2), .int .i64 (d 3), .int .i64 (d 4), .int .i64 (d 5), .int .i64 (d 6)]] w fun e w' => e = .returned (.bool true) ∧ Below w.heap.size w w' := by
  obtain ⟨A, cc, rfl⟩ := rowN_sliceOf h.row
  obtain ⟨A5, c5, ec⟩ := rowN_sliceOf g
  obtain ⟨A6, c6, ed⟩ := rowN_sliceOf g'
  subst ec ed
  have hb0 : Below w.heap.size w (((w.alloc (.cells #[.int .i64 i1, .int .i64 i2] 24)).alloc (.cells #[.int .i64 c.k, .int .i64 c.tc, .int .i64 c.tn, .int .i64 c.tt, .int .i64 c.tk, .int .i64 c.sh, (.slice A5 c.rs.length c5), (.slice A6 c.ws.length c6), .bool c.cm] 32)).alloc (.cells #[.int .i64 (d 0), .int .i64 (d 1), .int .i64 (d 2), .int .i64 (d 3), .int .i64 (d 4), .int .i64 (d 5), .int .i64 (d 6)] 42)) := below_new (below_new (below_new (Below.refl _ _)))
  have h1 : Hold (((w.alloc (.cells #[.int .i64 i1, .int .i64 i2] 24)).alloc (.cells #[.int .i64 c.k, .int .i64 c.tc, .int .i64 c.tn, .int .i64 c.tt, .int .i64 c.tk, .int .i64 c.sh, (.slice A5 c.rs.length c5), (.slice A6 c.ws.length c6), .bool c.cm] 32)).alloc (.cells #[.int .i64 (d 0), .int .i64 (d 1), .int .i64 (d 2), .int .i64 (d 3), .int .i64 (d 4), .int .i64 (d 5), .int .i64 (d 6)] 42)) w.heap.size 24 [.int .i64 i1, .int .i64 i2] := (Hold.new w [.int .i64 i1, .int .i64 i2] 24).on (below_new (below_new (Below.refl _ _)))
  have h2 : Hold (((w.alloc (.cells #[.int .i64 i1, .int .i64 i2] 24)).alloc (.cells #[.int .i64 c.k, .int .i64 c.tc, .int .i64 c.tn, .int .i64 c.tt, .int .i64 c.tk, .int .i64 c.sh, (.slice A5 c.rs.length c5), (.slice A6 c.ws.length c6), .bool c.cm] 32)).alloc (.cells #[.int .i64 (d 0), .int .i64 (d 1), .int .i64 (d 2), .int .i64 (d 3), .int .i64 (d 4), .int .i64 (d 5), .int .i64 (d 6)] 42)) (w.heap.size + 1) 32 [.int .i64 c.k, .int .i64 c.tc, .int .i64 c.tn, .int .i64 c.tt, .int .i64 c.tk, .int .i64 c.sh, (.slice A5 c.rs.length c5), (.slice A6 c.ws.length c6), .bool c.cm] := by
    have := (Hold.new (w.alloc (.cells #[.int .i64 i1, .int .i64 i2] 24)) [.int .i64 c.k, .int .i64 c.tc, .int .i64 c.tn, .int .i64 c.tt, .int .i64 c.tk, .int .i64 c.sh, (.slice A5 c.rs.length c5), (.slice A6 c.ws.length c6), .bool c.cm] 32).on (below_new (o := .cells #[.int .i64 (d 0), .int .i64 (d 1), .int .i64 (d 2), .int .i64 (d 3), .int .i64 (d 4), .int .i64 (d 5), .int .i64 (d 6)] 42) (Below.refl _ _))
    simpa using this
  have h3 : Hold (((w.alloc (.cells #[.int .i64 i1, .int .i64 i2] 24)).alloc (.cells #[.int .i64 c.k, .int .i64 c.tc, .int .i64 c.tn, .int .i64 c.tt, .int .i64 c.tk, .int .i64 c.sh, (.slice A5 c.rs.length c5), (.slice A6 c.ws.length c6), .bool c.cm] 32)).alloc (.cells #[.int .i64 (d 0), .int .i64 (d 1), .int .i64 (d 2), .int .i64 (d 3), .int .i64 (d 4), .int .i64 (d 5), .int .i64 (d 6)] 42)) (w.heap.size + 1 + 1) 42 [.int .i64 (d 0), .int .i64 (d 1), .int .i64 (d 2), .int .i64 (d 3), .int .i64 (d 4), .int .i64 (d 5), .int .i64 (d 6)] := by
    have := Hold.new ((w.alloc (.cells #[.int .i64 i1, .int .i64 i2] 24)).alloc (.cells #[.int .i64 c.k, .int .i64 c.tc, .int .i64 c.tn, .int .i64 c.tt, .int .i64 c.tk, .int .i64 c.sh, (.slice A5 c.rs.length c5), (.slice A6 c.ws.length c6), .bool c.cm] 32)) [.int .i64 (d 0), .int .i64 (d 1), .int .i64 (d 2), .int .i64 (d 3), .int .i64 (d 4), .int .i64 (d 5), .int .i64 (d 6)] 42
    simpa using this
  have HX := Lib.hid (h.below hb0)
  have HG := Lib.hid (g.below hb0)
  have HG' := Lib.hid (g'.below hb0)
  have HB := Lib.hid hb0
  have H1 := Lib.hid h1
  have H2 := Lib.hid h2
  have H3 := Lib.hid h3
  clear h g g' hb0 h1 h2 h3 _hq
  go_enter Try.func9, Try.ntmps9
  go_wp2_with (fail)
  generalize (((w.alloc (.cells #[.int .i64 i1, .int .i64 i2] 24)).alloc (.cells #[.int .i64 c.k, .int .i64 c.tc, .int .i64 c.tn, .int .i64 c.tt, .int .i64 c.tk, .int .i64 c.sh, (.slice A5 c.rs.length c5), (.slice A6 c.ws.length c6), .bool c.cm] 32)).alloc (.cells #[.int .i64 (d 0), .int .i64 (d 1), .int .i64 (d 2), .int .i64 (d 3), .int .i64 (d 4), .int .i64 (d 5), .int .i64 (d 6)] 42)) = w0 at *
  refine (few_rows HX.out).mono ?_
  rintro e w1 ⟨rfl, hb1⟩
  have HB1 := Lib.hid (below_on HB.out hb1)
  rcases hf : fewX X with _ | _
  · clear hb1
    go_wp2_with (fail)
    refine (awake_any w1).mono ?_
    rintro e w2 ⟨rfl, hb2⟩
    have HB2 := Lib.hid (below_on HB1.out hb2)
    clear hb2
    go_wp2
    go_ret
    exact ⟨rfl, HB2.out⟩
  have hl := fewX_len hf
  have hm := fewX_mod hf
  by_cases h19 : 19 < X.length
  · have q1 : decide ((19 : Int) < (X.length : Int)) = true := decide_eq_true (by omega)
    have q1' : (19 : Int) < (X.length : Int) := by omega
    clear hb1
    go_wp2_with (fail)
    refine (awake_any w1).mono ?_
    rintro e w2 ⟨rfl, hb2⟩
    have HB2 := Lib.hid (below_on HB1.out hb2)
    clear hb2
    go_wp2
    go_ret
    exact ⟨rfl, HB2.out⟩
  have q19 : decide ((19 : Int) < (X.length : Int)) = false := decide_eq_false (by omega)
  have HX1 := Lib.hid (HX.out.below hb1)
  have HG1 := Lib.hid (HG.out.below hb1)
  have HG1' := Lib.hid (HG'.out.below hb1)
  have H11 := Lib.hid (H1.out.on hb1)
  have H21 := Lib.hid (H2.out.on hb1)
  have H31 := Lib.hid (H3.out.on hb1)
  have HC := Lib.hid (hold9 H21.out)
  have hb2 : Below w1.heap.size w1 (w1.alloc (.cells #[.int .i64 c.k, .int .i64 c.tc, .int .i64 c.tn, .int .i64 c.tt, .int .i64 c.tk, .int .i64 c.sh, (.slice A5 c.rs.length c5), (.slice A6 c.ws.length c6), .bool c.cm] 32)) := below_new (Below.refl _ _)
  have HF := Lib.hid (few_one (w := w1) (b := w1.heap.size) rfl c HG1.out HG1'.out)
  have HB2 := Lib.hid hb2
  clear hb1 HX HG HG' H1 H2 H3 HB hb2
  go_wp2_with (first
    | (with_reducible refine wpList_load_mid_g ?_ 32 _ rfl (w.heap.size + 1) 0 rfl [.int .i64 c.k, .int .i64 c.tc, .int .i64 c.tn, .int .i64 c.tt, .int .i64 c.tk, .int .i64 c.sh, (.slice A5 c.rs.length c5), (.slice A6 c.ws.length c6), .bool c.cm] _ HC.out Try.underlying32 rfl (by kernel_rfl) ?_; kernel_rfl)
    | fail)
  refine HF.out.mono ?_
  rintro e w2 ⟨rfl, hb2⟩
  have hb12 := below_on HB2.out hb2
  have HB3 := Lib.hid (below_on HB1.out hb12)
  rcases hfc : M.modB c with _ | _
  · clear hb2 hb12
    go_wp2_with (fail)
    refine (awake_any w2).mono ?_
    rintro e w3 ⟨rfl, hb3⟩
    have HB4 := Lib.hid (below_on HB3.out hb3)
    clear hb3
    go_wp2
    go_ret
    exact ⟨rfl, HB4.out⟩
  have G := M.modB_iff.1 hfc
  have HX2 := Lib.hid (HX1.out.below hb12)
  have HG2 := Lib.hid (HG1.out.below hb12)
  have HG2' := Lib.hid (HG1'.out.below hb12)
  have H12 := Lib.hid (H11.out.on hb12)
  have H22 := Lib.hid (H21.out.on hb12)
  have H32 := Lib.hid (H31.out.on hb12)
  obtain ⟨nn, hn⟩ : ∃ nn, nn = atS X (i1, i2) c s := ⟨_, rfl⟩
  obtain ⟨nd, hnd⟩ : ∃ nd, nd = atD X (i1, i2) c d := ⟨_, rfl⟩
  have HN := Lib.hid hn
  have HND := Lib.hid hnd
  clear hn hnd
  clear hb2 hb12 HX1 HG1 HG1' H11 H21 H31 HC HF HB2 HB1
  have HAN := Lib.hid (attrs_none HX2.out (by omega) hm i1 i2 s d)
  have I1 := Lib.hid (hold2 H12.out)
  have I2 := Lib.hid (hold9 H22.out)
  have I3 := Lib.hid (hold7 H32.out)
  go_wp2_with (first
    | (with_reducible refine wpList_load_mid rfl 24 _ rfl w.heap.size 0 rfl [.int .i64 i1, .int .i64 i2] _ I1.out Try.underlying24 rfl (by kernel_rfl) ?_)
    | (with_reducible refine wpList_load_mid rfl 42 _ rfl (w.heap.size + 1 + 1) 0 rfl [.int .i64 (d 0), .int .i64 (d 1), .int .i64 (d 2), .int .i64 (d 3), .int .i64 (d 4), .int .i64 (d 5), .int .i64 (d 6)] _ I3.out Try.underlying42 rfl (by kernel_rfl) ?_)
    | fail)
  refine HAN.out.mono ?_
  rintro e w3 ⟨rfl, hb3⟩
  have hb4 : Below w3.heap.size w3 (w3.alloc (.cells #[.int .i64 (d 0), .int .i64 (d 1), .int .i64 (d 2), .int .i64 (d 3), .int .i64 (d 4), .int .i64 (d 5), .int .i64 (d 6)] 42)) := below_new (Below.refl _ _)
  have hb34 := below_on hb3 hb4
  have HB4 := Lib.hid (below_on HB3.out hb34)
  have HX4 := Lib.hid (HX2.out.below hb34)
  have HG4 := Lib.hid (HG2.out.below hb34)
  have HG4' := Lib.hid (HG2'.out.below hb34)
  have H14 := Lib.hid (H12.out.on hb34)
  have H24 := Lib.hid (H22.out.on hb34)
  have H34 := Lib.hid (H32.out.on hb34)
  have HD1 := Lib.hid (Hold.new w3 [.int .i64 (d 0), .int .i64 (d 1), .int .i64 (d 2), .int .i64 (d 3), .int .i64 (d 4), .int .i64 (d 5), .int .i64 (d 6)] 42)
  have J1 := Lib.hid (hold2 H14.out)
  have J2 := Lib.hid (hold9 H24.out)
  have J3 := Lib.hid (hold7 H34.out)
  have HA := attrs_any HX4.out (by omega) hm i1 i2 c HG4.out HG4'.out G s d
  rw [← HN.out, ← HND.out] at HA
  have HAT := Lib.hid HA
  clear hb3 hb4 hb34 HA HX2 HG2 HG2' H12 H22 H32 HB3 HAN I1 I2 I3
  obtain ⟨g12, hg12⟩ : ∃ g, g = w3.heap.size := ⟨_, rfl⟩
  go_wp2_with (first
    | (with_reducible refine wpList_store_fresh rfl 42 _ _ rfl w3.heap.size rfl 42 _ [.int .i64 (d 0), .int .i64 (d 1), .int .i64 (d 2), .int .i64 (d 3), .int .i64 (d 4), .int .i64 (d 5), .int .i64 (d 6)] rfl rfl rfl (by kernel_rfl) rfl ?_)
    | (with_reducible refine wpList_load_mid rfl 24 _ rfl w.heap.size 0 rfl [.int .i64 i1, .int .i64 i2] _ J1.out Try.underlying24 rfl (by kernel_rfl) ?_)
    | (with_reducible refine wpList_load_mid rfl 32 _ rfl (w.heap.size + 1) 0 rfl [.int .i64 c.k, .int .i64 c.tc, .int .i64 c.tn, .int .i64 c.tt, .int .i64 c.tk, .int .i64 c.sh, (.slice A5 c.rs.length c5), (.slice A6 c.ws.length c6), .bool c.cm] _ J2.out Try.underlying32 rfl (by kernel_rfl) ?_)
    | (with_reducible refine wpList_load_mid rfl 42 _ rfl (w.heap.size + 1 + 1) 0 rfl [.int .i64 (d 0), .int .i64 (d 1), .int .i64 (d 2), .int .i64 (d 3), .int .i64 (d 4), .int .i64 (d 5), .int .i64 (d 6)] _ J3.out Try.underlying42 rfl (by kernel_rfl) ?_)
    | fail)
  rw [← hg12] at HD1 ⊢
  generalize w3.alloc (.cells #[.int .i64 (d 0), .int .i64 (d 1), .int .i64 (d 2), .int .i64 (d 3), .int .i64 (d 4), .int .i64 (d 5), .int .i64 (d 6)] 42) = w4 at *
  clear hg12
  refine HAT.out.mono ?_
  rintro e w5 ⟨rfl, hb5⟩
  have hb6 : Below w5.heap.size w5 (w5.alloc (.cells #[.int .i64 (nd 0), .int .i64 (nd 1), .int .i64 (nd 2), .int .i64 (nd 3), .int .i64 (nd 4), .int .i64 (nd 5), .int .i64 (nd 6)] 42)) := below_new (Below.refl _ _)
  have hb56 := below_on hb5 hb6
  have hb7 : Below (w5.alloc (.cells #[.int .i64 (nd 0), .int .i64 (nd 1), .int .i64 (nd 2), .int .i64 (nd 3), .int .i64 (nd 4), .int .i64 (nd 5), .int .i64 (nd 6)] 42)).heap.size (w5.alloc (.cells #[.int .i64 (nd 0), .int .i64 (nd 1), .int .i64 (nd 2), .int .i64 (nd 3), .int .i64 (nd 4), .int .i64 (nd 5), .int .i64 (nd 6)] 42)) ((w5.alloc (.cells #[.int .i64 (nd 0), .int .i64 (nd 1), .int .i64 (nd 2), .int .i64 (nd 3), .int .i64 (nd 4), .int .i64 (nd 5), .int .i64 (nd 6)] 42)).alloc (.cells #[.int .i64 6, .int .i64 524288, .int .i64 3, .int .i64 0, .int .i64 0, .int .i64 0, .int .i64 0, .int .i64 0, .int .i64 0, .int .i64 0, .int .i64 0, .int .i64 0, .int .i64 0, .slice none 0 0, .slice none 0 0, .bool false, .int .i64 99, .int .i64 0, .int .i64 0, .int .i64 0, .int .i64 0, .int .i64 0, .int .i64 0, .int .i64 0, .bool false] 44)) := below_new (Below.refl _ _)
  have hb57 := below_on hb56 hb7
  have HB7 := Lib.hid (below_on HB4.out hb57)
  have HX7 := Lib.hid (HX4.out.below hb57)
  have HG7 := Lib.hid (HG4.out.below hb57)
  have HG7' := Lib.hid (HG4'.out.below hb57)
  have H17 := Lib.hid (H14.out.on hb57)
  have H27 := Lib.hid (H24.out.on hb57)
  have H37 := Lib.hid (H34.out.on hb57)
  have HD17 := Lib.hid (HD1.out.on hb57)
  have HD27 := Lib.hid ((Hold.new w5 [.int .i64 (nd 0), .int .i64 (nd 1), .int .i64 (nd 2), .int .i64 (nd 3), .int .i64 (nd 4), .int .i64 (nd 5), .int .i64 (nd 6)] 42).on hb7)
  have HNO := Lib.hid (show Hold ((w5.alloc (.cells #[.int .i64 (nd 0), .int .i64 (nd 1), .int .i64 (nd 2), .int .i64 (nd 3), .int .i64 (nd 4), .int .i64 (nd 5), .int .i64 (nd 6)] 42)).alloc (.cells #[.int .i64 6, .int .i64 524288, .int .i64 3, .int .i64 0, .int .i64 0, .int .i64 0, .int .i64 0, .int .i64 0, .int .i64 0, .int .i64 0, .int .i64 0, .int .i64 0, .int .i64 0, .slice none 0 0, .slice none 0 0, .bool false, .int .i64 99, .int .i64 0, .int .i64 0, .int .i64 0, .int .i64 0, .int .i64 0, .int .i64 0, .int .i64 0, .bool false] 44)) (w5.heap.size + 1) 44 [.int .i64 6, .int .i64 524288, .int .i64 3, .int .i64 0, .int .i64 0, .int .i64 0, .int .i64 0, .int .i64 0, .int .i64 0, .int .i64 0, .int .i64 0, .int .i64 0, .int .i64 0, .slice none 0 0, .slice none 0 0, .bool false, .int .i64 99, .int .i64 0, .int .i64 0, .int .i64 0, .int .i64 0, .int .i64 0, .int .i64 0, .int .i64 0, .bool false] by
    have := Hold.new (w5.alloc (.cells #[.int .i64 (nd 0), .int .i64 (nd 1), .int .i64 (nd 2), .int .i64 (nd 3), .int .i64 (nd 4), .int .i64 (nd 5), .int .i64 (nd 6)] 42)) [.int .i64 6, .int .i64 524288, .int .i64 3, .int .i64 0, .int .i64 0, .int .i64 0, .int .i64 0, .int .i64 0, .int .i64 0, .int .i64 0, .int .i64 0, .int .i64 0, .int .i64 0, .slice none 0 0, .slice none 0 0, .bool false, .int .i64 99, .int .i64 0, .int .i64 0, .int .i64 0, .int .i64 0, .int .i64 0, .int .i64 0, .int .i64 0, .bool false] 44
    simpa using this)
  have HMO := Lib.hid hm
  clear hb5 hb6 hb56 hb7 hb57 HX4 HG4 HG4' H14 H24 H34 HB4 HD1 J1 J2 J3 HAT hm
  obtain ⟨g14, hg14⟩ : ∃ g, g = w5.heap.size := ⟨_, rfl⟩
  obtain ⟨g15, hg15⟩ : ∃ g, g = w5.heap.size + 1 := ⟨_, rfl⟩
  go_wp2_with (first
    | (with_reducible refine wpList_store_fresh rfl 42 _ _ rfl w5.heap.size rfl 42 _ [.int .i64 (nd 0), .int .i64 (nd 1), .int .i64 (nd 2), .int .i64 (nd 3), .int .i64 (nd 4), .int .i64 (nd 5), .int .i64 (nd 6)] rfl rfl rfl (by kernel_rfl) rfl ?_)
    | (with_reducible refine wpList_store_fresh rfl 44 _ _ rfl (w5.heap.size + 1) (by simp) 44 _ [.int .i64 6, .int .i64 524288, .int .i64 3, .int .i64 0, .int .i64 0, .int .i64 0, .int .i64 0, .int .i64 0, .int .i64 0, .int .i64 0, .int .i64 0, .int .i64 0, .int .i64 0, .slice none 0 0, .slice none 0 0, .bool false, .int .i64 99, .int .i64 0, .int .i64 0, .int .i64 0, .int .i64 0, .int .i64 0, .int .i64 0, .int .i64 0, .bool false] rfl rfl rfl (by kernel_rfl) rfl ?_)
    | fail)
  rw [← hg15] at HNO ⊢
  rw [← hg14] at HD27 ⊢
  generalize (w5.alloc (.cells #[.int .i64 (nd 0), .int .i64 (nd 1), .int .i64 (nd 2), .int .i64 (nd 3), .int .i64 (nd 4), .int .i64 (nd 5), .int .i64 (nd 6)] 42)).alloc (.cells #[.int .i64 6, .int .i64 524288, .int .i64 3, .int .i64 0, .int .i64 0, .int .i64 0, .int .i64 0, .int .i64 0, .int .i64 0, .int .i64 0, .int .i64 0, .int .i64 0, .int .i64 0, .slice none 0 0, .slice none 0 0, .bool false, .int .i64 99, .int .i64 0, .int .i64 0, .int .i64 0, .int .i64 0, .int .i64 0, .int .i64 0, .int .i64 0, .bool false] 44) = w7 at *
  clear hg14 hg15
  go_loopw [57] (fun i wr => ∃ k : Nat, i = .int .i64 k ∧ k ≤ X.length ∧ Hid (Below w7.heap.size w7 wr) ∧ Hid (∀ q x, q < k → X[q]? = some x → x.key ≠ noopV.key)) (fun i _ => X.length - (intOf i).toNat)
  case atStart => exact ⟨0, rfl, Nat.zero_le _, Lib.hid (Below.refl _ _), Lib.hid (fun q x hq _ => absurd hq (by omega))⟩
  case round =>
    obtain ⟨k, rfl, hk, HW, HNK⟩ := hrel
    by_cases hlt : k < X.length
    · obtain ⟨x, hx⟩ : ∃ x, X[k]? = some x := ⟨_, List.getElem?_eq_getElem hlt⟩
      have hxm : x ∈ X := List.mem_of_getElem? hx
      obtain ⟨b, o, rfl, hbl, hrr⟩ := rowN_range (HX7.out.below HW.out).row hx
      have HX := Lib.hid ((HX7.out.tx x hxm).below HW.out)
      have HXK := Lib.hid hx
      obtain ⟨r, va, vb⟩ := x
      obtain ⟨A7, c7, ea⟩ := rowN_sliceOf HX.out.rs
      obtain ⟨A8, c8, eb⟩ := rowN_sliceOf HX.out.ws
      dsimp only at ea eb
      subst ea eb
      have HRR := Lib.hid (show wr.rangeAt b (o + k * 25) [.int .i64 r.ir, .int .i64 r.is, .int .i64 r.st, .int .i64 r.pn, .int .i64 r.pr, .int .i64 r.bn, .int .i64 r.br, .int .i64 r.c.k, .int .i64 r.c.tc, .int .i64 r.c.tn, .int .i64 r.c.tt, .int .i64 r.c.tk, .int .i64 r.c.sh, (.slice A7 r.c.rs.length c7), (.slice A8 r.c.ws.length c8), .bool r.c.cm, .int .i64 r.sq, .int .i64 r.d0, .int .i64 r.d1, .int .i64 r.d2, .int .i64 r.d3, .int .i64 r.d4, .int .i64 r.d5, .int .i64 r.d6, .bool r.kp] from hrr)
      have hk1 : (k : Int) < (X.length : Int) := by omega
      have hb8 : Below wr.heap.size wr (wr.alloc (.cells #[.int .i64 r.ir, .int .i64 r.is, .int .i64 r.st, .int .i64 r.pn, .int .i64 r.pr, .int .i64 r.bn, .int .i64 r.br, .int .i64 r.c.k, .int .i64 r.c.tc, .int .i64 r.c.tn, .int .i64 r.c.tt, .int .i64 r.c.tk, .int .i64 r.c.sh, (.slice A7 r.c.rs.length c7), (.slice A8 r.c.ws.length c8), .bool r.c.cm, .int .i64 r.sq, .int .i64 r.d0, .int .i64 r.d1, .int .i64 r.d2, .int .i64 r.d3, .int .i64 r.d4, .int .i64 r.d5, .int .i64 r.d6, .bool r.kp] 44)) := below_new (Below.refl _ _)
      have HI := Lib.hid (hold_range (Hold.new wr [.int .i64 r.ir, .int .i64 r.is, .int .i64 r.st, .int .i64 r.pn, .int .i64 r.pr, .int .i64 r.bn, .int .i64 r.br, .int .i64 r.c.k, .int .i64 r.c.tc, .int .i64 r.c.tn, .int .i64 r.c.tt, .int .i64 r.c.tk, .int .i64 r.c.sh, (.slice A7 r.c.rs.length c7), (.slice A8 r.c.ws.length c8), .bool r.c.cm, .int .i64 r.sq, .int .i64 r.d0, .int .i64 r.d1, .int .i64 r.d2, .int .i64 r.d3, .int .i64 r.d4, .int .i64 r.d5, .int .i64 r.d6, .bool r.kp] 44) 0 [.int .i64 r.ir, .int .i64 r.is] (fun j v hj => by
          match j, hj with
          | 0, hj => exact hj
          | 1, hj => exact hj))
      have HW8 := Lib.hid (below_on HW.out hb8)
      have HNI := Lib.hid (hold_range (HNO.out.on HW8.out) 0 [.int .i64 6, .int .i64 524288] (fun j v hj => by
          match j, hj with
          | 0, hj => exact hj
          | 1, hj => exact hj))
      clear hx hxm hbl hrr hb8 HX
      rcases hq : M.eq2 r.ir r.is 6 524288 with _ | _
      · have HNE := Lib.hid (show ∀ q x, q < k + 1 → X[q]? = some x → x.key ≠ noopV.key from fun q x hq1 hx1 => by
          by_cases e : q = k
          · subst e
            rw [HXK.out] at hx1
            rw [← Option.some.inj hx1]
            intro e
            have e' : (r.ir, r.is) = ((6 : Int), (524288 : Int)) := e
            simp only [Prod.mk.injEq] at e'
            have : M.eq2 r.ir r.is 6 524288 = true := by unfold M.eq2; exact decide_eq_true e'
            rw [hq] at this; cases this
          · exact HNK.out q x (by omega) hx1)
        go_wp2_with (first
          | (with_reducible refine wpList_load_mid rfl 44 _ rfl b (o + k * 25) rfl [.int .i64 r.ir, .int .i64 r.is, .int .i64 r.st, .int .i64 r.pn, .int .i64 r.pr, .int .i64 r.bn, .int .i64 r.br, .int .i64 r.c.k, .int .i64 r.c.tc, .int .i64 r.c.tn, .int .i64 r.c.tt, .int .i64 r.c.tk, .int .i64 r.c.sh, (.slice A7 r.c.rs.length c7), (.slice A8 r.c.ws.length c8), .bool r.c.cm, .int .i64 r.sq, .int .i64 r.d0, .int .i64 r.d1, .int .i64 r.d2, .int .i64 r.d3, .int .i64 r.d4, .int .i64 r.d5, .int .i64 r.d6, .bool r.kp] _ HRR.out Try.underlying44 rfl (by kernel_rfl) ?_)
          | (with_reducible refine wpList_store_fresh rfl 44 _ _ rfl wr.heap.size rfl 44 _ [.int .i64 r.ir, .int .i64 r.is, .int .i64 r.st, .int .i64 r.pn, .int .i64 r.pr, .int .i64 r.bn, .int .i64 r.br, .int .i64 r.c.k, .int .i64 r.c.tc, .int .i64 r.c.tn, .int .i64 r.c.tt, .int .i64 r.c.tk, .int .i64 r.c.sh, (.slice A7 r.c.rs.length c7), (.slice A8 r.c.ws.length c8), .bool r.c.cm, .int .i64 r.sq, .int .i64 r.d0, .int .i64 r.d1, .int .i64 r.d2, .int .i64 r.d3, .int .i64 r.d4, .int .i64 r.d5, .int .i64 r.d6, .bool r.kp] rfl rfl rfl (by kernel_rfl) rfl ?_)
          | (with_reducible refine wpList_load_mid rfl 24 _ rfl wr.heap.size 0 rfl [.int .i64 r.ir, .int .i64 r.is] _ HI.out Try.underlying24 rfl (by kernel_rfl) ?_)
          | (with_reducible refine wpList_load_mid rfl 24 _ rfl g15 0 rfl [.int .i64 6, .int .i64 524288] _ HNI.out Try.underlying24 rfl (by kernel_rfl) ?_)
          | fail)
        go_roundw
        case rel => exact ⟨k + 1, by go_num, hlt, HW8, HNE⟩
        case measure => simp [intOf]; omega
      · have HB9 := Lib.hid (below_on HB7.out HW8.out)
        go_wp2_with (first
          | (with_reducible refine wpList_load_mid rfl 44 _ rfl b (o + k * 25) rfl [.int .i64 r.ir, .int .i64 r.is, .int .i64 r.st, .int .i64 r.pn, .int .i64 r.pr, .int .i64 r.bn, .int .i64 r.br, .int .i64 r.c.k, .int .i64 r.c.tc, .int .i64 r.c.tn, .int .i64 r.c.tt, .int .i64 r.c.tk, .int .i64 r.c.sh, (.slice A7 r.c.rs.length c7), (.slice A8 r.c.ws.length c8), .bool r.c.cm, .int .i64 r.sq, .int .i64 r.d0, .int .i64 r.d1, .int .i64 r.d2, .int .i64 r.d3, .int .i64 r.d4, .int .i64 r.d5, .int .i64 r.d6, .bool r.kp] _ HRR.out Try.underlying44 rfl (by kernel_rfl) ?_)
          | (with_reducible refine wpList_store_fresh rfl 44 _ _ rfl wr.heap.size rfl 44 _ [.int .i64 r.ir, .int .i64 r.is, .int .i64 r.st, .int .i64 r.pn, .int .i64 r.pr, .int .i64 r.bn, .int .i64 r.br, .int .i64 r.c.k, .int .i64 r.c.tc, .int .i64 r.c.tn, .int .i64 r.c.tt, .int .i64 r.c.tk, .int .i64 r.c.sh, (.slice A7 r.c.rs.length c7), (.slice A8 r.c.ws.length c8), .bool r.c.cm, .int .i64 r.sq, .int .i64 r.d0, .int .i64 r.d1, .int .i64 r.d2, .int .i64 r.d3, .int .i64 r.d4, .int .i64 r.d5, .int .i64 r.d6, .bool r.kp] rfl rfl rfl (by kernel_rfl) rfl ?_)
          | (with_reducible refine wpList_load_mid rfl 24 _ rfl wr.heap.size 0 rfl [.int .i64 r.ir, .int .i64 r.is] _ HI.out Try.underlying24 rfl (by kernel_rfl) ?_)
          | (with_reducible refine wpList_load_mid rfl 24 _ rfl g15 0 rfl [.int .i64 6, .int .i64 524288] _ HNI.out Try.underlying24 rfl (by kernel_rfl) ?_)
          | fail)
        refine (awake_any _).mono ?_
        rintro e w9 ⟨rfl, hb9⟩
        have HB10 := Lib.hid (below_on HB9.out hb9)
        clear hb9
        go_wp2
        go_ret
        exact ⟨rfl, HB10.out⟩
    · obtain rfl : k = X.length := by omega
      have HKN := Lib.hid (show noopV.key ∉ keysOf X from key_not fun q x hx => HNK.out q x (List.getElem?_eq_some_iff.1 hx).1 hx)
      have HX8 := Lib.hid (HX7.out.below HW.out)
      have HG8 := Lib.hid (HG7.out.below HW.out)
      have HG8' := Lib.hid (HG7'.out.below HW.out)
      have H18 := Lib.hid (H17.out.on HW.out)
      have H28 := Lib.hid (H27.out.on HW.out)
      have H38 := Lib.hid (H37.out.on HW.out)
      have HN8 := Lib.hid (HNO.out.on HW.out)
      have HB8 := Lib.hid (below_on HB7.out HW.out)
      have HD18 := Lib.hid (HD17.out.on HW.out)
      have HD28 := Lib.hid (HD27.out.on HW.out)
      have HM8 := Lib.hid (show ∀ y ∈ X ++ [noopV], M.Mod y.r.c from fun y hy => by
        rcases List.mem_append.1 hy with hy | hy
        · exact HMO.out y hy
        · rw [List.mem_singleton.1 hy]; exact mod_zero)
      have HN2 := Lib.hid (show nn = atS (X ++ [noopV]) (i1, i2) c s by rw [(at_more_noop (i1, i2) c s d HKN.out rfl).1]; exact HN.out)
      have HND2 := Lib.hid (show nd = atD (X ++ [noopV]) (i1, i2) c d by rw [(at_more_noop (i1, i2) c s d HKN.out rfl).2]; exact HND.out)
      have HRN := Lib.hid (hold_range HN8.out 0 [.int .i64 6, .int .i64 524288, .int .i64 3, .int .i64 0, .int .i64 0, .int .i64 0, .int .i64 0, .int .i64 0, .int .i64 0, .int .i64 0, .int .i64 0, .int .i64 0, .int .i64 0, .slice none 0 0, .slice none 0 0, .bool false, .int .i64 99, .int .i64 0, .int .i64 0, .int .i64 0, .int .i64 0, .int .i64 0, .int .i64 0, .int .i64 0, .bool false] (fun j v hj => by rw [Nat.zero_add]; exact hj))
      clear HW HNK HX7 HG7 HG7' H17 H27 H37 HNO HB7 HD17 HD27
      go_wp2
      refine reg9 (r := noopR) (A3 := none) (A4 := none) (c3 := 0) (c4 := 0) HX8.out (by omega) HM8.out (hold2 H18.out) (hold_lt H18.out) (hold9 H28.out) (hold_lt H28.out) (hold7 H38.out) (hold_lt H38.out) HRN.out (hold_lt HN8.out) ⟨rds_nil _, wrs_nil _⟩ HG8.out HG8'.out G HN2.out HND2.out ?_
      intro x68 x69 x70 x71 x72 x73 x74 x75 x76 x77 x78 x79 x80 gb W hbW hgl hgb
      have HB9 := Lib.hid (below_on HB8.out hbW)
      have L1 := Lib.hid (hold7 (HD18.out.on hbW))
      have L2 := Lib.hid (hold7 (H38.out.on hbW))
      have L3 := Lib.hid (hold7 hgb)
      have L4 := Lib.hid (hold7 (HD28.out.on hbW))
      have hbs : (s == s) = true := beq_self_eq_true _
      have hbn : (nn == nn) = true := beq_self_eq_true _
      have hs1 := same7_self (nd 0) (nd 1) (nd 2) (nd 3) (nd 4) (nd 5) (nd 6)
      have hs2 := same7_self (d 0) (d 1) (d 2) (d 3) (d 4) (d 5) (d 6)
      clear hbW hgl hgb HX8 HG8 HG8' H18 H28 H38 HN8 HB8 HD18 HD28 HM8 HN2 HND2 HRN HN HND
      go_wp2_with (first
        | (with_reducible refine wpList_load_mid_g ?_ 42 _ rfl g12 0 rfl [.int .i64 (d 0), .int .i64 (d 1), .int .i64 (d 2), .int .i64 (d 3), .int .i64 (d 4), .int .i64 (d 5), .int .i64 (d 6)] _ L1.out Try.underlying42 rfl (by kernel_rfl) ?_; kernel_rfl)
        | (with_reducible refine wpList_load_mid_g ?_ 42 _ rfl (w.heap.size + 1 + 1) 0 rfl [.int .i64 (d 0), .int .i64 (d 1), .int .i64 (d 2), .int .i64 (d 3), .int .i64 (d 4), .int .i64 (d 5), .int .i64 (d 6)] _ L2.out Try.underlying42 rfl (by kernel_rfl) ?_; kernel_rfl)
        | (with_reducible refine wpList_load_mid_g ?_ 42 _ rfl gb 0 rfl [.int .i64 (nd 0), .int .i64 (nd 1), .int .i64 (nd 2), .int .i64 (nd 3), .int .i64 (nd 4), .int .i64 (nd 5), .int .i64 (nd 6)] _ L3.out Try.underlying42 rfl (by kernel_rfl) ?_; kernel_rfl)
        | (with_reducible refine wpList_load_mid_g ?_ 42 _ rfl g14 0 rfl [.int .i64 (nd 0), .int .i64 (nd 1), .int .i64 (nd 2), .int .i64 (nd 3), .int .i64 (nd 4), .int .i64 (nd 5), .int .i64 (nd 6)] _ L4.out Try.underlying42 rfl (by kernel_rfl) ?_; kernel_rfl)
        | fail)
      refine (awake_any _).mono ?_
      rintro e w10 ⟨rfl, hb10⟩
      have HB10 := Lib.hid (below_on HB9.out hb10)
      clear hb10
      go_wp2
      go_ret
      exact ⟨rfl, HB10.out⟩
end Go.Proofs.Ytgaglcfoodbcfaa
