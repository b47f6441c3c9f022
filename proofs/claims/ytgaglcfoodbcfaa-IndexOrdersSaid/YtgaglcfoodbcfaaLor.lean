/- The walk of IndexOrders; no conditions. -/
import Derived.Test.YtgaglcfoodbcfaaRgO
import Derived.Test.YtgaglcfoodbcfaaPy
import Derived.Test.YtgaglcfoodbcfaaLat
import Derived.Test.YtgaglcfoodbcfaaOdr
namespace Go.Proofs.Ytgaglcfoodbcfaa
open Go.ChangeShapes Go.WideShapes Go.ChangeAt Go.RowKit

attribute [local go_sem ↓] run_same_inst
/-- The record of the one that is asked for. -/
def mineR (i1 i2 : Int) (c : M.Cmd) (n : Int) (d : Nat → Int) : M.Rec := ⟨i1, i2, 1, 0, 0, 0, 0, c, n, d 0, d 1, d 2, d 3, d 4, d 5, d 6, false⟩
theorem mine_dep (i1 i2 : Int) (c : M.Cmd) (n : Int) (d : Nat → Int) : ∀ k, k ≤ 6 → M.dep (mineR i1 i2 c n d) k = d k
  | 0, _ => rfl
  | 1, _ => rfl
  | 2, _ => rfl
  | 3, _ => rfl
  | 4, _ => rfl
  | 5, _ => rfl
  | 6, _ => rfl
  | k + 7, h => by omega
theorem mine_ord {i1 i2 : Int} {c : M.Cmd} {n : Int} {d : Nat → Int} {r : M.Rec} (_hi : M.interB r.c c = true) (hh : Dp.M.has d r.ir r.is = true) : M.ordB (mineR i1 i2 c n d) r = true := by
  have h1 := Dp.M.has_iff.1 hh
  obtain ⟨q, hq⟩ := Int.eq_ofNat_of_zero_le h1.1.1
  have h2 : Dp.M.has (M.dep (mineR i1 i2 c n d)) r.ir r.is = true := by
    refine Dp.M.has_iff.2 ⟨h1.1, h1.2.1, ?_⟩
    rw [mine_dep _ _ _ _ _ _ (by omega)]
    exact h1.2.2
  unfold M.ordB
  rw [h2]
  simp
set_option maxHeartbeats 16000000 in
set_option maxRecDepth 100000 in
theorem orders_law (i1 i2 : Int) (c : M.Cmd) (w : World) {v ua ub : Value} {X : List Rv} (h : Rows w v X) (hq : Sqs X) (g : Rds w ua c.rs) (g' : Wrs w ub c.ws) :
    Calls Try.prog 6 #[v, .agg #[.int .i64 i1, .int .i64 i2], .agg #[.int .i64 c.k, .int .i64 c.tc, .int .i64 c.tn, .int .i64 c.tt, .int .i64 c.tk, .int .i64 c.sh, ua, ub, .bool c.cm]] w fun e w' => e = .returned (.bool true) ∧ Below w.heap.size w w' := by
  obtain ⟨A, cc, rfl⟩ := rowN_sliceOf h.row
  obtain ⟨A5, c5, ec⟩ := rowN_sliceOf g
  obtain ⟨A6, c6, ed⟩ := rowN_sliceOf g'
  subst ec ed
  have HSQ := Lib.hid hq
  clear hq
  have hb0 : Below w.heap.size w ((w.alloc (.cells #[.int .i64 i1, .int .i64 i2] 24)).alloc (.cells #[.int .i64 c.k, .int .i64 c.tc, .int .i64 c.tn, .int .i64 c.tt, .int .i64 c.tk, .int .i64 c.sh, (.slice A5 c.rs.length c5), (.slice A6 c.ws.length c6), .bool c.cm] 32)) := below_new (below_new (Below.refl _ _))
  have h1 : Hold ((w.alloc (.cells #[.int .i64 i1, .int .i64 i2] 24)).alloc (.cells #[.int .i64 c.k, .int .i64 c.tc, .int .i64 c.tn, .int .i64 c.tt, .int .i64 c.tk, .int .i64 c.sh, (.slice A5 c.rs.length c5), (.slice A6 c.ws.length c6), .bool c.cm] 32)) w.heap.size 24 [.int .i64 i1, .int .i64 i2] := (Hold.new w [.int .i64 i1, .int .i64 i2] 24).on (below_new (Below.refl _ _))
  have h2 : Hold ((w.alloc (.cells #[.int .i64 i1, .int .i64 i2] 24)).alloc (.cells #[.int .i64 c.k, .int .i64 c.tc, .int .i64 c.tn, .int .i64 c.tt, .int .i64 c.tk, .int .i64 c.sh, (.slice A5 c.rs.length c5), (.slice A6 c.ws.length c6), .bool c.cm] 32)) (w.heap.size + 1) 32 [.int .i64 c.k, .int .i64 c.tc, .int .i64 c.tn, .int .i64 c.tt, .int .i64 c.tk, .int .i64 c.sh, (.slice A5 c.rs.length c5), (.slice A6 c.ws.length c6), .bool c.cm] := by
    have := Hold.new (w.alloc (.cells #[.int .i64 i1, .int .i64 i2] 24)) [.int .i64 c.k, .int .i64 c.tc, .int .i64 c.tn, .int .i64 c.tt, .int .i64 c.tk, .int .i64 c.sh, (.slice A5 c.rs.length c5), (.slice A6 c.ws.length c6), .bool c.cm] 32
    simpa using this
  have HX := Lib.hid (h.below hb0)
  have HG := Lib.hid (g.below hb0)
  have HG' := Lib.hid (g'.below hb0)
  have HB := Lib.hid hb0
  have H1 := Lib.hid h1
  have H2 := Lib.hid h2
  clear h g g' hb0 h1 h2
  go_enter Try.func6, Try.ntmps6
  go_wp2_with (fail)
  generalize ((w.alloc (.cells #[.int .i64 i1, .int .i64 i2] 24)).alloc (.cells #[.int .i64 c.k, .int .i64 c.tc, .int .i64 c.tn, .int .i64 c.tt, .int .i64 c.tk, .int .i64 c.sh, (.slice A5 c.rs.length c5), (.slice A6 c.ws.length c6), .bool c.cm] 32)) = w0 at *
  refine (few_rows HX.out).mono ?_
  rintro e w1 ⟨rfl, hb1⟩
  have HB1 := Lib.hid (below_on HB.out hb1)
  rcases hf : fewX X with _ | _
  · clear hb1
    go_wp2_with (fail)
    refine (awake_any w1).mono ?_
    rintro e w2 ⟨rfl, hb2⟩
    have HB2 := Lib.hid (below_on HB1.out hb2)
    clear hb2
    go_wp2
    go_ret
    exact ⟨rfl, HB2.out⟩
  have hl := fewX_len hf
  have hm := fewX_mod hf
  have HX1 := Lib.hid (HX.out.below hb1)
  have HG1 := Lib.hid (HG.out.below hb1)
  have HG1' := Lib.hid (HG'.out.below hb1)
  have H11 := Lib.hid (H1.out.on hb1)
  have H21 := Lib.hid (H2.out.on hb1)
  have HC := Lib.hid (hold9 H21.out)
  have hb2 : Below w1.heap.size w1 (w1.alloc (.cells #[.int .i64 c.k, .int .i64 c.tc, .int .i64 c.tn, .int .i64 c.tt, .int .i64 c.tk, .int .i64 c.sh, (.slice A5 c.rs.length c5), (.slice A6 c.ws.length c6), .bool c.cm] 32)) := below_new (Below.refl _ _)
  have HF := Lib.hid (few_one (w := w1) (b := w1.heap.size) rfl c HG1.out HG1'.out)
  have HB2 := Lib.hid hb2
  clear hb1 HX HG HG' H1 H2 HB hb2
  go_wp2_with (first
    | (with_reducible refine wpList_load_mid_g ?_ 32 _ rfl (w.heap.size + 1) 0 rfl [.int .i64 c.k, .int .i64 c.tc, .int .i64 c.tn, .int .i64 c.tt, .int .i64 c.tk, .int .i64 c.sh, (.slice A5 c.rs.length c5), (.slice A6 c.ws.length c6), .bool c.cm] _ HC.out Try.underlying32 rfl (by kernel_rfl) ?_; kernel_rfl)
    | fail)
  refine HF.out.mono ?_
  rintro e w2 ⟨rfl, hb2⟩
  have hb12 := below_on HB2.out hb2
  have HB3 := Lib.hid (below_on HB1.out hb12)
  rcases hfc : M.modB c with _ | _
  · clear hb2 hb12
    go_wp2_with (fail)
    refine (awake_any w2).mono ?_
    rintro e w3 ⟨rfl, hb3⟩
    have HB4 := Lib.hid (below_on HB3.out hb3)
    clear hb3
    go_wp2
    go_ret
    exact ⟨rfl, HB4.out⟩
  have G := M.modB_iff.1 hfc
  have HX2 := Lib.hid (HX1.out.below hb12)
  have HG2 := Lib.hid (HG1.out.below hb12)
  have HG2' := Lib.hid (HG1'.out.below hb12)
  have H12 := Lib.hid (H11.out.on hb12)
  have H22 := Lib.hid (H21.out.on hb12)
  obtain ⟨nn, hn⟩ : ∃ nn, nn = atS X (i1, i2) c 1 := ⟨_, rfl⟩
  obtain ⟨nd, hnd⟩ : ∃ nd, nd = atD X (i1, i2) c (fun _ => 0) := ⟨_, rfl⟩
  have HN := Lib.hid hn
  have HND := Lib.hid hnd
  clear hn hnd
  clear hb2 hb12 HX1 HG1 HG1' H11 H21 HC HF HB2 HB1
  go_wp2
  refine reg6 (r := M.awakeR) (A3 := none) (A4 := none) (c3 := 0) (c4 := 0) (s := 0) (d := fun _ => 0) HX2.out (by omega) hm (hold2 H12.out) (hold_lt H12.out) (hold9 H22.out) (hold_lt H22.out) HG2.out HG2'.out G rfl HN.out HND.out ?_
  intro x23 x24 x25 x26 x27 x28 x29 x30 x31 gb W hbW hgl hgb
  have HBW := Lib.hid (below_on HB3.out hbW)
  have HXW := Lib.hid (HX2.out.below hbW)
  have I1 := Lib.hid (hold2 (H12.out.on hbW))
  have I2 := Lib.hid (hold9 (H22.out.on hbW))
  have I3 := Lib.hid (hold7 hgb)
  have HG3 := Lib.hid (HG2.out.below hbW)
  have HG3' := Lib.hid (HG2'.out.below hbW)
  have hb4 : Below W.heap.size W (W.alloc (.cells #[.int .i64 i1, .int .i64 i2, .int .i64 1, .int .i64 0, .int .i64 0, .int .i64 0, .int .i64 0, .int .i64 c.k, .int .i64 c.tc, .int .i64 c.tn, .int .i64 c.tt, .int .i64 c.tk, .int .i64 c.sh, (.slice A5 c.rs.length c5), (.slice A6 c.ws.length c6), .bool c.cm, .int .i64 nn, .int .i64 (nd 0), .int .i64 (nd 1), .int .i64 (nd 2), .int .i64 (nd 3), .int .i64 (nd 4), .int .i64 (nd 5), .int .i64 (nd 6), .bool false] 44)) := below_new (Below.refl _ _)
  have HM4 := Lib.hid (Hold.new W [.int .i64 i1, .int .i64 i2, .int .i64 1, .int .i64 0, .int .i64 0, .int .i64 0, .int .i64 0, .int .i64 c.k, .int .i64 c.tc, .int .i64 c.tn, .int .i64 c.tt, .int .i64 c.tk, .int .i64 c.sh, (.slice A5 c.rs.length c5), (.slice A6 c.ws.length c6), .bool c.cm, .int .i64 nn, .int .i64 (nd 0), .int .i64 (nd 1), .int .i64 (nd 2), .int .i64 (nd 3), .int .i64 (nd 4), .int .i64 (nd 5), .int .i64 (nd 6), .bool false] 44)
  have K1 := Lib.hid ((H12.out.on hbW).on hb4)
  have K2 := Lib.hid ((H22.out.on hbW).on hb4)
  have K3 := Lib.hid (hgb.on hb4)
  have HX4 := Lib.hid (HXW.out.below hb4)
  have HG4 := Lib.hid (HG3.out.below hb4)
  have HG4' := Lib.hid (HG3'.out.below hb4)
  have HB4 := Lib.hid (below_on HBW.out hb4)
  have HMM := Lib.hid hm
  clear hbW hgb hgl hb4 HX2 HG2 HG2' H12 H22 HB3 HBW HXW HG3 HG3' hm hf hfc
  go_wp2_with (first
    | (with_reducible refine wpList_load_mid rfl 24 _ rfl w.heap.size 0 rfl [.int .i64 i1, .int .i64 i2] _ I1.out Try.underlying24 rfl (by kernel_rfl) ?_)
    | (with_reducible refine wpList_load_mid rfl 32 _ rfl (w.heap.size + 1) 0 rfl [.int .i64 c.k, .int .i64 c.tc, .int .i64 c.tn, .int .i64 c.tt, .int .i64 c.tk, .int .i64 c.sh, (.slice A5 c.rs.length c5), (.slice A6 c.ws.length c6), .bool c.cm] _ I2.out Try.underlying32 rfl (by kernel_rfl) ?_)
    | (with_reducible refine wpList_load_mid rfl 42 _ rfl gb 0 rfl [.int .i64 (nd 0), .int .i64 (nd 1), .int .i64 (nd 2), .int .i64 (nd 3), .int .i64 (nd 4), .int .i64 (nd 5), .int .i64 (nd 6)] _ I3.out Try.underlying42 rfl (by kernel_rfl) ?_)
    | (with_reducible refine wpList_store_fresh rfl 44 _ _ rfl W.heap.size rfl 44 _ [.int .i64 i1, .int .i64 i2, .int .i64 1, .int .i64 0, .int .i64 0, .int .i64 0, .int .i64 0, .int .i64 c.k, .int .i64 c.tc, .int .i64 c.tn, .int .i64 c.tt, .int .i64 c.tk, .int .i64 c.sh, (.slice A5 c.rs.length c5), (.slice A6 c.ws.length c6), .bool c.cm, .int .i64 nn, .int .i64 (nd 0), .int .i64 (nd 1), .int .i64 (nd 2), .int .i64 (nd 3), .int .i64 (nd 4), .int .i64 (nd 5), .int .i64 (nd 6), .bool false] rfl rfl rfl (by kernel_rfl) rfl ?_)
    | fail)
  clear I1 I2 I3
  obtain ⟨gm, hgm⟩ : ∃ gm, gm = W.heap.size := ⟨_, rfl⟩
  rw [← hgm] at HM4 ⊢
  generalize W.alloc (.cells #[.int .i64 i1, .int .i64 i2, .int .i64 1, .int .i64 0, .int .i64 0, .int .i64 0, .int .i64 0, .int .i64 c.k, .int .i64 c.tc, .int .i64 c.tn, .int .i64 c.tt, .int .i64 c.tk, .int .i64 c.sh, (.slice A5 c.rs.length c5), (.slice A6 c.ws.length c6), .bool c.cm, .int .i64 nn, .int .i64 (nd 0), .int .i64 (nd 1), .int .i64 (nd 2), .int .i64 (nd 3), .int .i64 (nd 4), .int .i64 (nd 5), .int .i64 (nd 6), .bool false] 44) = w4 at *
  clear hgm
  go_loopw [39] (fun i wr => ∃ k : Nat, i = .int .i64 k ∧ k ≤ X.length ∧ Hid (Below w4.heap.size w4 wr)) (fun i _ => X.length - (intOf i).toNat)
  case atStart => exact ⟨0, rfl, Nat.zero_le _, Lib.hid (Below.refl _ _)⟩
  case round =>
    obtain ⟨k, rfl, hk, HW⟩ := hrel
    by_cases hlt : k < X.length
    · obtain ⟨x, hx⟩ : ∃ x, X[k]? = some x := ⟨_, List.getElem?_eq_getElem hlt⟩
      have hxm : x ∈ X := List.mem_of_getElem? hx
      obtain ⟨b, o, rfl, hbl, hrr⟩ := rowN_range (HX4.out.below HW.out).row hx
      have HX := Lib.hid ((HX4.out.tx x hxm).below HW.out)
      have hmx := HMM.out x hxm
      have hsq := HSQ.out x hxm
      have hhas := fun (e1 : lastB (keysOf X) k = true) (e2 : confB (i1, i2) c x = true) (e3 : 0 ≤ x.r.ir) (e4 : x.r.ir ≤ 6) (e5 : 1 ≤ x.r.is) => at_has (i1, i2) c (fun _ => 0) hx e1 e2 e3 e4 e5
      have habv := fun (e1 : lastB (keysOf X) k = true) (e2 : confB (i1, i2) c x = true) (e3 : x.r.sq < 1099511627776) => at_above (i1, i2) c 1 hx e1 e2 hsq e3
      rw [← HND.out] at hhas
      rw [← HN.out] at habv
      obtain ⟨r, va, vb⟩ := x
      obtain ⟨A7, c7, ea⟩ := rowN_sliceOf HX.out.rs
      obtain ⟨A8, c8, eb⟩ := rowN_sliceOf HX.out.ws
      dsimp only at ea eb hmx hsq hhas habv
      subst ea eb
      have HHAS := Lib.hid hhas
      have HABV := Lib.hid habv
      have HRR := Lib.hid (show wr.rangeAt b (o + k * 25) [.int .i64 r.ir, .int .i64 r.is, .int .i64 r.st, .int .i64 r.pn, .int .i64 r.pr, .int .i64 r.bn, .int .i64 r.br, .int .i64 r.c.k, .int .i64 r.c.tc, .int .i64 r.c.tn, .int .i64 r.c.tt, .int .i64 r.c.tk, .int .i64 r.c.sh, (.slice A7 r.c.rs.length c7), (.slice A8 r.c.ws.length c8), .bool r.c.cm, .int .i64 r.sq, .int .i64 r.d0, .int .i64 r.d1, .int .i64 r.d2, .int .i64 r.d3, .int .i64 r.d4, .int .i64 r.d5, .int .i64 r.d6, .bool r.kp] from hrr)
      have hk1 : (k : Int) < (X.length : Int) := by omega
      have hb5 : Below wr.heap.size wr (wr.alloc (.cells #[.int .i64 r.ir, .int .i64 r.is, .int .i64 r.st, .int .i64 r.pn, .int .i64 r.pr, .int .i64 r.bn, .int .i64 r.br, .int .i64 r.c.k, .int .i64 r.c.tc, .int .i64 r.c.tn, .int .i64 r.c.tt, .int .i64 r.c.tk, .int .i64 r.c.sh, (.slice A7 r.c.rs.length c7), (.slice A8 r.c.ws.length c8), .bool r.c.cm, .int .i64 r.sq, .int .i64 r.d0, .int .i64 r.d1, .int .i64 r.d2, .int .i64 r.d3, .int .i64 r.d4, .int .i64 r.d5, .int .i64 r.d6, .bool r.kp] 44)) := below_new (Below.refl _ _)
      have HO5 := Lib.hid (Hold.new wr [.int .i64 r.ir, .int .i64 r.is, .int .i64 r.st, .int .i64 r.pn, .int .i64 r.pr, .int .i64 r.bn, .int .i64 r.br, .int .i64 r.c.k, .int .i64 r.c.tc, .int .i64 r.c.tn, .int .i64 r.c.tt, .int .i64 r.c.tk, .int .i64 r.c.sh, (.slice A7 r.c.rs.length c7), (.slice A8 r.c.ws.length c8), .bool r.c.cm, .int .i64 r.sq, .int .i64 r.d0, .int .i64 r.d1, .int .i64 r.d2, .int .i64 r.d3, .int .i64 r.d4, .int .i64 r.d5, .int .i64 r.d6, .bool r.kp] 44)
      have HW5 := Lib.hid (below_on HW.out hb5)
      have HT5 := Lib.hid (HX.out.below hb5)
      have HL := Lib.hid (last_any (HX4.out.below HW5.out) (by omega) hlt)
      clear hx hxm hbl hrr hb5 HX hhas habv hsq
      obtain ⟨gx, hgx⟩ : ∃ gx, gx = wr.heap.size := ⟨_, rfl⟩
      go_wp2_with (first
        | (with_reducible refine wpList_load_mid rfl 44 _ rfl b (o + k * 25) rfl [.int .i64 r.ir, .int .i64 r.is, .int .i64 r.st, .int .i64 r.pn, .int .i64 r.pr, .int .i64 r.bn, .int .i64 r.br, .int .i64 r.c.k, .int .i64 r.c.tc, .int .i64 r.c.tn, .int .i64 r.c.tt, .int .i64 r.c.tk, .int .i64 r.c.sh, (.slice A7 r.c.rs.length c7), (.slice A8 r.c.ws.length c8), .bool r.c.cm, .int .i64 r.sq, .int .i64 r.d0, .int .i64 r.d1, .int .i64 r.d2, .int .i64 r.d3, .int .i64 r.d4, .int .i64 r.d5, .int .i64 r.d6, .bool r.kp] _ HRR.out Try.underlying44 rfl (by kernel_rfl) ?_)
        | (with_reducible refine wpList_store_fresh rfl 44 _ _ rfl wr.heap.size rfl 44 _ [.int .i64 r.ir, .int .i64 r.is, .int .i64 r.st, .int .i64 r.pn, .int .i64 r.pr, .int .i64 r.bn, .int .i64 r.br, .int .i64 r.c.k, .int .i64 r.c.tc, .int .i64 r.c.tn, .int .i64 r.c.tt, .int .i64 r.c.tk, .int .i64 r.c.sh, (.slice A7 r.c.rs.length c7), (.slice A8 r.c.ws.length c8), .bool r.c.cm, .int .i64 r.sq, .int .i64 r.d0, .int .i64 r.d1, .int .i64 r.d2, .int .i64 r.d3, .int .i64 r.d4, .int .i64 r.d5, .int .i64 r.d6, .bool r.kp] rfl rfl rfl (by kernel_rfl) rfl ?_)
        | fail)
      rw [← hgx] at HO5 ⊢
      clear HRR
      generalize wr.alloc (.cells #[.int .i64 r.ir, .int .i64 r.is, .int .i64 r.st, .int .i64 r.pn, .int .i64 r.pr, .int .i64 r.bn, .int .i64 r.br, .int .i64 r.c.k, .int .i64 r.c.tc, .int .i64 r.c.tn, .int .i64 r.c.tt, .int .i64 r.c.tk, .int .i64 r.c.sh, (.slice A7 r.c.rs.length c7), (.slice A8 r.c.ws.length c8), .bool r.c.cm, .int .i64 r.sq, .int .i64 r.d0, .int .i64 r.d1, .int .i64 r.d2, .int .i64 r.d3, .int .i64 r.d4, .int .i64 r.d5, .int .i64 r.d6, .bool r.kp] 44) = w5 at *
      clear hgx
      refine HL.out.mono ?_
      rintro e w6 ⟨rfl, hb6⟩
      have HW6 := Lib.hid (below_on HW5.out hb6)
      have HO6 := Lib.hid (HO5.out.on hb6)
      have HT6 := Lib.hid (HT5.out.below hb6)
      have RX := Lib.hid (rowRange_inst (hold_rec HO6.out))
      have RC := Lib.hid (rowRange_cmd (hold_rec HO6.out))
      have RI := Lib.hid (hold2 (K1.out.on HW6.out))
      have RD := Lib.hid (hold9 (K2.out.on HW6.out))
      have cst : w6.cell? ⟨gx, 2, none⟩ = some (.int .i64 r.st) := hold_cell HO6.out 2 rfl
      have HIF := Lib.hid (dinter_any r.c c HT6.out.rs HT6.out.ws (HG4.out.below HW6.out) (HG4'.out.below HW6.out) hmx G)
      clear hb6 HL HO5 HT5 HW5
      rcases hq1 : lastB (keysOf X) k with _ | _
      · go_wp2
        go_roundw
        case rel => exact ⟨k + 1, by go_num, hlt, HW6⟩
        case measure => simp [intOf]; omega
      rcases hq2 : M.eq2 r.ir r.is i1 i2 with _ | _
      rotate_left
      · go_wp2_with (first
          | (with_reducible refine wpList_load_mid_g ?_ 24 _ rfl gx 0 rfl [.int .i64 r.ir, .int .i64 r.is] _ RX.out Try.underlying24 rfl (by kernel_rfl) ?_; kernel_rfl)
          | (with_reducible refine wpList_load_mid_g ?_ 24 _ rfl w.heap.size 0 rfl [.int .i64 i1, .int .i64 i2] _ RI.out Try.underlying24 rfl (by kernel_rfl) ?_; kernel_rfl)
          | fail)
        go_roundw
        case rel => exact ⟨k + 1, by go_num, hlt, HW6⟩
        case measure => simp [intOf]; omega
      by_cases hq3 : r.st ≤ 0
      · have hd3 : decide (r.st ≤ 0) = true := decide_eq_true hq3
        clear hq3
        go_wp2_with (first
          | (with_reducible refine wpList_load_mid_g ?_ 24 _ rfl gx 0 rfl [.int .i64 r.ir, .int .i64 r.is] _ RX.out Try.underlying24 rfl (by kernel_rfl) ?_; kernel_rfl)
          | (with_reducible refine wpList_load_mid_g ?_ 24 _ rfl w.heap.size 0 rfl [.int .i64 i1, .int .i64 i2] _ RI.out Try.underlying24 rfl (by kernel_rfl) ?_; kernel_rfl)
          | fail)
        go_roundw
        case rel => exact ⟨k + 1, by go_num, hlt, HW6⟩
        case measure => simp [intOf]; omega
      have hd3 : decide (r.st ≤ 0) = false := decide_eq_false hq3
      have hd3' : decide (0 < r.st) = true := decide_eq_true (by omega)
      clear hq3
      go_wp2_with (first
        | (with_reducible refine wpList_load_mid_g ?_ 24 _ rfl gx 0 rfl [.int .i64 r.ir, .int .i64 r.is] _ RX.out Try.underlying24 rfl (by kernel_rfl) ?_; kernel_rfl)
        | (with_reducible refine wpList_load_mid_g ?_ 24 _ rfl w.heap.size 0 rfl [.int .i64 i1, .int .i64 i2] _ RI.out Try.underlying24 rfl (by kernel_rfl) ?_; kernel_rfl)
        | (with_reducible refine wpList_load_mid_g ?_ 32 _ rfl gx (0 + 7) rfl [.int .i64 r.c.k, .int .i64 r.c.tc, .int .i64 r.c.tn, .int .i64 r.c.tt, .int .i64 r.c.tk, .int .i64 r.c.sh, (.slice A7 r.c.rs.length c7), (.slice A8 r.c.ws.length c8), .bool r.c.cm] _ RC.out Try.underlying32 rfl (by kernel_rfl) ?_; kernel_rfl)
        | (with_reducible refine wpList_load_mid_g ?_ 32 _ rfl (w.heap.size + 1) 0 rfl [.int .i64 c.k, .int .i64 c.tc, .int .i64 c.tn, .int .i64 c.tt, .int .i64 c.tk, .int .i64 c.sh, (.slice A5 c.rs.length c5), (.slice A6 c.ws.length c6), .bool c.cm] _ RD.out Try.underlying32 rfl (by kernel_rfl) ?_; kernel_rfl)
        | fail)
      refine HIF.out.mono ?_
      rintro e w7 ⟨rfl, hb7⟩
      have HW7 := Lib.hid (below_on HW6.out hb7)
      have HO7 := Lib.hid (HO6.out.on hb7)
      have HT7 := Lib.hid (HT6.out.below hb7)
      clear hb7 HIF cst RX RC RI RD HO6 HT6 HW6
      rcases hq4 : M.interB r.c c with _ | _
      · go_wp2
        go_roundw
        case rel => exact ⟨k + 1, by go_num, hlt, HW7⟩
        case measure => simp [intOf]; omega
      have hconf : confB (i1, i2) c ⟨r, .slice A7 r.c.rs.length c7, .slice A8 r.c.ws.length c8⟩ = true := by unfold confB; dsimp only; rw [hq2, hd3', hq4]; rfl
      have HH := Lib.hid (HHAS.out hq1 hconf)
      have HA := Lib.hid (HABV.out hq1 hconf)
      have HI4 := Lib.hid hq4
      clear hq1 hq2 hq4 hd3 hd3' hconf HHAS HABV
      have k0 : w7.cell? ⟨gx, 0, none⟩ = some (.int .i64 r.ir) := hold_cell HO7.out 0 rfl
      have k1 : w7.cell? ⟨gx, 1, none⟩ = some (.int .i64 r.is) := hold_cell HO7.out 1 rfl
      have k16 : w7.cell? ⟨gx, 16, none⟩ = some (.int .i64 r.sq) := hold_cell HO7.out 16 rfl
      by_cases e1 : 0 ≤ r.ir
      rotate_left
      · have d1 : decide (0 ≤ r.ir) = false := decide_eq_false e1
        clear HH HI4 e1
        by_cases e4 : r.sq < 1099511627776
        · have d4 : decide (r.sq < 1099511627776) = true := decide_eq_true e4
          have h5 := HA.out e4
          have d5 : decide (nn ≤ r.sq) = false := decide_eq_false (by omega)
          clear e4 h5 HA
          go_wp2
          go_roundw
          case rel => exact ⟨k + 1, by go_num, hlt, HW7⟩
          case measure => simp [intOf]; omega
        · have d4 : decide (r.sq < 1099511627776) = false := decide_eq_false e4
          clear e4 HA
          go_wp2
          go_roundw
          case rel => exact ⟨k + 1, by go_num, hlt, HW7⟩
          case measure => simp [intOf]; omega
      by_cases e2 : r.ir ≤ 6
      rotate_left
      · have d1 : decide (0 ≤ r.ir) = true := decide_eq_true e1
        have d2 : decide (r.ir ≤ 6) = false := decide_eq_false e2
        clear HH HI4 e1 e2
        by_cases e4 : r.sq < 1099511627776
        · have d4 : decide (r.sq < 1099511627776) = true := decide_eq_true e4
          have h5 := HA.out e4
          have d5 : decide (nn ≤ r.sq) = false := decide_eq_false (by omega)
          clear e4 h5 HA
          go_wp2
          go_roundw
          case rel => exact ⟨k + 1, by go_num, hlt, HW7⟩
          case measure => simp [intOf]; omega
        · have d4 : decide (r.sq < 1099511627776) = false := decide_eq_false e4
          clear e4 HA
          go_wp2
          go_roundw
          case rel => exact ⟨k + 1, by go_num, hlt, HW7⟩
          case measure => simp [intOf]; omega
      by_cases e3 : 1 ≤ r.is
      rotate_left
      · have d1 : decide (0 ≤ r.ir) = true := decide_eq_true e1
        have d2 : decide (r.ir ≤ 6) = true := decide_eq_true e2
        have d3 : decide (1 ≤ r.is) = false := decide_eq_false e3
        clear HH HI4 e1 e2 e3
        by_cases e4 : r.sq < 1099511627776
        · have d4 : decide (r.sq < 1099511627776) = true := decide_eq_true e4
          have h5 := HA.out e4
          have d5 : decide (nn ≤ r.sq) = false := decide_eq_false (by omega)
          clear e4 h5 HA
          go_wp2
          go_roundw
          case rel => exact ⟨k + 1, by go_num, hlt, HW7⟩
          case measure => simp [intOf]; omega
        · have d4 : decide (r.sq < 1099511627776) = false := decide_eq_false e4
          clear e4 HA
          go_wp2
          go_roundw
          case rel => exact ⟨k + 1, by go_num, hlt, HW7⟩
          case measure => simp [intOf]; omega
      have d1 : decide (0 ≤ r.ir) = true := decide_eq_true e1
      have d2 : decide (r.ir ≤ 6) = true := decide_eq_true e2
      have d3 : decide (1 ≤ r.is) = true := decide_eq_true e3
      have hh1 := HH.out e1 e2 e3
      have HOR := ordered_any (w := w7) (mineR i1 i2 c nn nd) r (va := .slice A5 c.rs.length c5) (vb := .slice A6 c.ws.length c6) ⟨HG4.out.below HW7.out, HG4'.out.below HW7.out⟩ HT7.out G hmx
      rw [mine_ord HI4.out hh1] at HOR
      have HORD := Lib.hid HOR
      have HH1 := Lib.hid hh1
      have RM := Lib.hid (hold_range (HM4.out.on HW7.out) 0 _ (fun j v hj => by rw [Nat.zero_add]; exact hj))
      have RX := Lib.hid (hold_rec HO7.out)
      clear HOR hh1 e1 e2 e3 HH HI4
      go_wp2_with (first
        | (with_reducible refine wpList_load_mid_g ?_ 44 _ rfl gm 0 rfl [.int .i64 i1, .int .i64 i2, .int .i64 1, .int .i64 0, .int .i64 0, .int .i64 0, .int .i64 0, .int .i64 c.k, .int .i64 c.tc, .int .i64 c.tn, .int .i64 c.tt, .int .i64 c.tk, .int .i64 c.sh, (.slice A5 c.rs.length c5), (.slice A6 c.ws.length c6), .bool c.cm, .int .i64 nn, .int .i64 (nd 0), .int .i64 (nd 1), .int .i64 (nd 2), .int .i64 (nd 3), .int .i64 (nd 4), .int .i64 (nd 5), .int .i64 (nd 6), .bool false] _ RM.out Try.underlying44 rfl (by kernel_rfl) ?_; kernel_rfl)
        | (with_reducible refine wpList_load_mid_g ?_ 44 _ rfl gx 0 rfl [.int .i64 r.ir, .int .i64 r.is, .int .i64 r.st, .int .i64 r.pn, .int .i64 r.pr, .int .i64 r.bn, .int .i64 r.br, .int .i64 r.c.k, .int .i64 r.c.tc, .int .i64 r.c.tn, .int .i64 r.c.tt, .int .i64 r.c.tk, .int .i64 r.c.sh, (.slice A7 r.c.rs.length c7), (.slice A8 r.c.ws.length c8), .bool r.c.cm, .int .i64 r.sq, .int .i64 r.d0, .int .i64 r.d1, .int .i64 r.d2, .int .i64 r.d3, .int .i64 r.d4, .int .i64 r.d5, .int .i64 r.d6, .bool r.kp] _ RX.out Try.underlying44 rfl (by kernel_rfl) ?_; kernel_rfl)
        | fail)
      refine HORD.out.mono ?_
      rintro e w8 ⟨rfl, hb8⟩
      have HW8 := Lib.hid (below_on HW7.out hb8)
      have HO8 := Lib.hid (HO7.out.on hb8)
      have RD8 := Lib.hid (hold7 (K3.out.on HW8.out))
      have RI8 := Lib.hid (rowRange_inst (hold_rec HO8.out))
      have HRH := Dp.refHas_any nd r.ir r.is w8
      rw [HH1.out] at HRH
      have HRHA := Lib.hid HRH
      clear hb8 HRH k0 k1 k16 HO7 HT7 HW7 RM RX HORD HH1
      go_wp2_with (first
        | (with_reducible refine wpList_load_mid_g ?_ 42 _ rfl gb 0 rfl [.int .i64 (nd 0), .int .i64 (nd 1), .int .i64 (nd 2), .int .i64 (nd 3), .int .i64 (nd 4), .int .i64 (nd 5), .int .i64 (nd 6)] _ RD8.out Try.underlying42 rfl (by kernel_rfl) ?_; kernel_rfl)
        | (with_reducible refine wpList_load_mid_g ?_ 24 _ rfl gx 0 rfl [.int .i64 r.ir, .int .i64 r.is] _ RI8.out Try.underlying24 rfl (by kernel_rfl) ?_; kernel_rfl)
        | fail)
      refine HRHA.out.mono ?_
      rintro e w9 ⟨rfl, hb9⟩
      have HW9 := Lib.hid (below_on HW8.out hb9)
      have k16 : w9.cell? ⟨gx, 16, none⟩ = some (.int .i64 r.sq) := hold_cell (HO8.out.on hb9) 16 rfl
      clear hb9 HRHA RD8 RI8 HO8 HW8
      by_cases e4 : r.sq < 1099511627776
      · have d4 : decide (r.sq < 1099511627776) = true := decide_eq_true e4
        have h5 := HA.out e4
        have d5 : decide (nn ≤ r.sq) = false := decide_eq_false (by omega)
        clear e4 h5 HA
        go_wp2
        go_roundw
        case rel => exact ⟨k + 1, by go_num, hlt, HW9⟩
        case measure => simp [intOf]; omega
      · have d4 : decide (r.sq < 1099511627776) = false := decide_eq_false e4
        clear e4 HA
        go_wp2
        go_roundw
        case rel => exact ⟨k + 1, by go_num, hlt, HW9⟩
        case measure => simp [intOf]; omega
    · obtain rfl : k = X.length := by omega
      have HBE := Lib.hid (below_on HB4.out HW.out)
      go_wp2_with (fail)
      refine (awake_any _).mono ?_
      rintro e w7 ⟨rfl, hb7⟩
      have HB8 := Lib.hid (below_on HBE.out hb7)
      clear hb7
      go_wp2
      go_ret
      exact ⟨rfl, HB8.out⟩
end Go.Proofs.Ytgaglcfoodbcfaa
