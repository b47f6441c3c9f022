/- Contracts of Ordered and of the document's; no conditions but those that they name. -/
import Derived.Test.YtgaglcfoodbcfaaFew
import Derived.Test.YtgaglcfoodbcfaaIfr
import Derived.Test.YtgaglcfoodbcfaaCfl
import Derived.Test.YtgaglcfoodbcfaaDp
namespace Go.Proofs.Ytgaglcfoodbcfaa
open Go.ChangeShapes Go.WideShapes Go.ChangeAt Go.RowKit

namespace M
/-- Are two records ordered? -/
def ordB (a b : Rec) : Bool := !interB a.c b.c || (Dp.M.has (dep a) b.ir b.is || Dp.M.has (dep b) a.ir a.is)
theorem ordB_comm (a b : Rec) : ordB a b = ordB b a := by
  unfold ordB
  rw [inter_comm a.c b.c, Bool.or_comm (Dp.M.has (dep a) b.ir b.is)]
end M
theorem has_rec (r : M.Rec) (i s : Int) (w : World) : Calls Try.prog 41 #[.agg #[.int .i64 r.d0, .int .i64 r.d1, .int .i64 r.d2, .int .i64 r.d3, .int .i64 r.d4, .int .i64 r.d5, .int .i64 r.d6], .agg #[.int .i64 i, .int .i64 s]] w fun e w' => e = .returned (.bool (Dp.M.has (M.dep r) i s)) ∧ Below w.heap.size w w' := Dp.has_any (M.dep r) i s w
theorem dhas_rec (r : M.Rec) (i s : Int) (w : World) : Calls Try.prog 27 #[.agg #[.int .i64 r.d0, .int .i64 r.d1, .int .i64 r.d2, .int .i64 r.d3, .int .i64 r.d4, .int .i64 r.d5, .int .i64 r.d6], .agg #[.int .i64 i, .int .i64 s]] w fun e w' => e = .returned (.bool (Dp.M.has (M.dep r) i s)) ∧ Below w.heap.size w w' := Dp.refHas_any (M.dep r) i s w
theorem hold_rec {w : World} {b : Nat} {r : M.Rec} {va vb : Value} (h : Hold w b 44 [.int .i64 r.ir, .int .i64 r.is, .int .i64 r.st, .int .i64 r.pn, .int .i64 r.pr, .int .i64 r.bn, .int .i64 r.br, .int .i64 r.c.k, .int .i64 r.c.tc, .int .i64 r.c.tn, .int .i64 r.c.tt, .int .i64 r.c.tk, .int .i64 r.c.sh, va, vb, .bool r.c.cm, .int .i64 r.sq, .int .i64 r.d0, .int .i64 r.d1, .int .i64 r.d2, .int .i64 r.d3, .int .i64 r.d4, .int .i64 r.d5, .int .i64 r.d6, .bool r.kp]) : w.rangeAt b 0 [.int .i64 r.ir, .int .i64 r.is, .int .i64 r.st, .int .i64 r.pn, .int .i64 r.pr, .int .i64 r.bn, .int .i64 r.br, .int .i64 r.c.k, .int .i64 r.c.tc, .int .i64 r.c.tn, .int .i64 r.c.tt, .int .i64 r.c.tk, .int .i64 r.c.sh, va, vb, .bool r.c.cm, .int .i64 r.sq, .int .i64 r.d0, .int .i64 r.d1, .int .i64 r.d2, .int .i64 r.d3, .int .i64 r.d4, .int .i64 r.d5, .int .i64 r.d6, .bool r.kp] := hold_range h 0 _ (fun j v hj => by rw [Nat.zero_add]; exact hj)
set_option maxHeartbeats 4000000 in
set_option maxRecDepth 100000 in
theorem ordered_any {w : World} (a b : M.Rec) {va vb ua ub : Value} (h : Txt w ⟨a, va, vb⟩) (g : Txt w ⟨b, ua, ub⟩) (F : M.Mod a.c) (G : M.Mod b.c) : Calls Try.prog 26 #[.agg #[.int .i64 a.ir, .int .i64 a.is, .int .i64 a.st, .int .i64 a.pn, .int .i64 a.pr, .int .i64 a.bn, .int .i64 a.br, .int .i64 a.c.k, .int .i64 a.c.tc, .int .i64 a.c.tn, .int .i64 a.c.tt, .int .i64 a.c.tk, .int .i64 a.c.sh, va, vb, .bool a.c.cm, .int .i64 a.sq, .int .i64 a.d0, .int .i64 a.d1, .int .i64 a.d2, .int .i64 a.d3, .int .i64 a.d4, .int .i64 a.d5, .int .i64 a.d6, .bool a.kp], .agg #[.int .i64 b.ir, .int .i64 b.is, .int .i64 b.st, .int .i64 b.pn, .int .i64 b.pr, .int .i64 b.bn, .int .i64 b.br, .int .i64 b.c.k, .int .i64 b.c.tc, .int .i64 b.c.tn, .int .i64 b.c.tt, .int .i64 b.c.tk, .int .i64 b.c.sh, ua, ub, .bool b.c.cm, .int .i64 b.sq, .int .i64 b.d0, .int .i64 b.d1, .int .i64 b.d2, .int .i64 b.d3, .int .i64 b.d4, .int .i64 b.d5, .int .i64 b.d6, .bool b.kp]] w fun e w' => e = .returned (.bool (M.ordB a b)) ∧ Below w.heap.size w w' := by
  have hb0 : Below w.heap.size w ((w.alloc (.cells #[.int .i64 a.ir, .int .i64 a.is, .int .i64 a.st, .int .i64 a.pn, .int .i64 a.pr, .int .i64 a.bn, .int .i64 a.br, .int .i64 a.c.k, .int .i64 a.c.tc, .int .i64 a.c.tn, .int .i64 a.c.tt, .int .i64 a.c.tk, .int .i64 a.c.sh, va, vb, .bool a.c.cm, .int .i64 a.sq, .int .i64 a.d0, .int .i64 a.d1, .int .i64 a.d2, .int .i64 a.d3, .int .i64 a.d4, .int .i64 a.d5, .int .i64 a.d6, .bool a.kp] 44)).alloc (.cells #[.int .i64 b.ir, .int .i64 b.is, .int .i64 b.st, .int .i64 b.pn, .int .i64 b.pr, .int .i64 b.bn, .int .i64 b.br, .int .i64 b.c.k, .int .i64 b.c.tc, .int .i64 b.c.tn, .int .i64 b.c.tt, .int .i64 b.c.tk, .int .i64 b.c.sh, ua, ub, .bool b.c.cm, .int .i64 b.sq, .int .i64 b.d0, .int .i64 b.d1, .int .i64 b.d2, .int .i64 b.d3, .int .i64 b.d4, .int .i64 b.d5, .int .i64 b.d6, .bool b.kp] 44)) := below_new (below_new (Below.refl _ _))
  have ha : Hold ((w.alloc (.cells #[.int .i64 a.ir, .int .i64 a.is, .int .i64 a.st, .int .i64 a.pn, .int .i64 a.pr, .int .i64 a.bn, .int .i64 a.br, .int .i64 a.c.k, .int .i64 a.c.tc, .int .i64 a.c.tn, .int .i64 a.c.tt, .int .i64 a.c.tk, .int .i64 a.c.sh, va, vb, .bool a.c.cm, .int .i64 a.sq, .int .i64 a.d0, .int .i64 a.d1, .int .i64 a.d2, .int .i64 a.d3, .int .i64 a.d4, .int .i64 a.d5, .int .i64 a.d6, .bool a.kp] 44)).alloc (.cells #[.int .i64 b.ir, .int .i64 b.is, .int .i64 b.st, .int .i64 b.pn, .int .i64 b.pr, .int .i64 b.bn, .int .i64 b.br, .int .i64 b.c.k, .int .i64 b.c.tc, .int .i64 b.c.tn, .int .i64 b.c.tt, .int .i64 b.c.tk, .int .i64 b.c.sh, ua, ub, .bool b.c.cm, .int .i64 b.sq, .int .i64 b.d0, .int .i64 b.d1, .int .i64 b.d2, .int .i64 b.d3, .int .i64 b.d4, .int .i64 b.d5, .int .i64 b.d6, .bool b.kp] 44)) w.heap.size 44 [.int .i64 a.ir, .int .i64 a.is, .int .i64 a.st, .int .i64 a.pn, .int .i64 a.pr, .int .i64 a.bn, .int .i64 a.br, .int .i64 a.c.k, .int .i64 a.c.tc, .int .i64 a.c.tn, .int .i64 a.c.tt, .int .i64 a.c.tk, .int .i64 a.c.sh, va, vb, .bool a.c.cm, .int .i64 a.sq, .int .i64 a.d0, .int .i64 a.d1, .int .i64 a.d2, .int .i64 a.d3, .int .i64 a.d4, .int .i64 a.d5, .int .i64 a.d6, .bool a.kp] := (Hold.new w [.int .i64 a.ir, .int .i64 a.is, .int .i64 a.st, .int .i64 a.pn, .int .i64 a.pr, .int .i64 a.bn, .int .i64 a.br, .int .i64 a.c.k, .int .i64 a.c.tc, .int .i64 a.c.tn, .int .i64 a.c.tt, .int .i64 a.c.tk, .int .i64 a.c.sh, va, vb, .bool a.c.cm, .int .i64 a.sq, .int .i64 a.d0, .int .i64 a.d1, .int .i64 a.d2, .int .i64 a.d3, .int .i64 a.d4, .int .i64 a.d5, .int .i64 a.d6, .bool a.kp] 44).on (below_new (Below.refl _ _))
  have hb : Hold ((w.alloc (.cells #[.int .i64 a.ir, .int .i64 a.is, .int .i64 a.st, .int .i64 a.pn, .int .i64 a.pr, .int .i64 a.bn, .int .i64 a.br, .int .i64 a.c.k, .int .i64 a.c.tc, .int .i64 a.c.tn, .int .i64 a.c.tt, .int .i64 a.c.tk, .int .i64 a.c.sh, va, vb, .bool a.c.cm, .int .i64 a.sq, .int .i64 a.d0, .int .i64 a.d1, .int .i64 a.d2, .int .i64 a.d3, .int .i64 a.d4, .int .i64 a.d5, .int .i64 a.d6, .bool a.kp] 44)).alloc (.cells #[.int .i64 b.ir, .int .i64 b.is, .int .i64 b.st, .int .i64 b.pn, .int .i64 b.pr, .int .i64 b.bn, .int .i64 b.br, .int .i64 b.c.k, .int .i64 b.c.tc, .int .i64 b.c.tn, .int .i64 b.c.tt, .int .i64 b.c.tk, .int .i64 b.c.sh, ua, ub, .bool b.c.cm, .int .i64 b.sq, .int .i64 b.d0, .int .i64 b.d1, .int .i64 b.d2, .int .i64 b.d3, .int .i64 b.d4, .int .i64 b.d5, .int .i64 b.d6, .bool b.kp] 44)) (w.heap.size + 1) 44 [.int .i64 b.ir, .int .i64 b.is, .int .i64 b.st, .int .i64 b.pn, .int .i64 b.pr, .int .i64 b.bn, .int .i64 b.br, .int .i64 b.c.k, .int .i64 b.c.tc, .int .i64 b.c.tn, .int .i64 b.c.tt, .int .i64 b.c.tk, .int .i64 b.c.sh, ua, ub, .bool b.c.cm, .int .i64 b.sq, .int .i64 b.d0, .int .i64 b.d1, .int .i64 b.d2, .int .i64 b.d3, .int .i64 b.d4, .int .i64 b.d5, .int .i64 b.d6, .bool b.kp] := by
    have := Hold.new (w.alloc (.cells #[.int .i64 a.ir, .int .i64 a.is, .int .i64 a.st, .int .i64 a.pn, .int .i64 a.pr, .int .i64 a.bn, .int .i64 a.br, .int .i64 a.c.k, .int .i64 a.c.tc, .int .i64 a.c.tn, .int .i64 a.c.tt, .int .i64 a.c.tk, .int .i64 a.c.sh, va, vb, .bool a.c.cm, .int .i64 a.sq, .int .i64 a.d0, .int .i64 a.d1, .int .i64 a.d2, .int .i64 a.d3, .int .i64 a.d4, .int .i64 a.d5, .int .i64 a.d6, .bool a.kp] 44)) [.int .i64 b.ir, .int .i64 b.is, .int .i64 b.st, .int .i64 b.pn, .int .i64 b.pr, .int .i64 b.bn, .int .i64 b.br, .int .i64 b.c.k, .int .i64 b.c.tc, .int .i64 b.c.tn, .int .i64 b.c.tt, .int .i64 b.c.tk, .int .i64 b.c.sh, ua, ub, .bool b.c.cm, .int .i64 b.sq, .int .i64 b.d0, .int .i64 b.d1, .int .i64 b.d2, .int .i64 b.d3, .int .i64 b.d4, .int .i64 b.d5, .int .i64 b.d6, .bool b.kp] 44
    simpa using this
  have HIN := Lib.hid (inter_any a.c b.c (h.below hb0).rs (h.below hb0).ws (g.below hb0).rs (g.below hb0).ws F G)
  have HA := Lib.hid ha
  have HB := Lib.hid hb
  have HW := Lib.hid hb0
  have CA := Lib.hid (rowRange_cmd (hold_rec ha))
  have CB := Lib.hid (rowRange_cmd (hold_rec hb))
  clear h g hb0 ha hb
  rcases hi : M.interB a.c b.c with _ | _
  · rw [hi] at HIN
    have HE := Lib.hid (show M.ordB a b = true by unfold M.ordB; rw [hi]; rfl)
    clear hi
    go_enter Try.func26, Try.ntmps26
    go_wp2_with (first
      | (with_reducible refine wpList_load_mid rfl 32 _ rfl w.heap.size 7 rfl [.int .i64 a.c.k, .int .i64 a.c.tc, .int .i64 a.c.tn, .int .i64 a.c.tt, .int .i64 a.c.tk, .int .i64 a.c.sh, va, vb, .bool a.c.cm] _ CA.out Try.underlying32 rfl (by kernel_rfl) ?_)
      | (with_reducible refine wpList_load_mid rfl 32 _ rfl (w.heap.size + 1) 7 rfl [.int .i64 b.c.k, .int .i64 b.c.tc, .int .i64 b.c.tn, .int .i64 b.c.tt, .int .i64 b.c.tk, .int .i64 b.c.sh, ua, ub, .bool b.c.cm] _ CB.out Try.underlying32 rfl (by kernel_rfl) ?_)
      | fail)
    refine HIN.out.mono ?_
    rintro e w1 ⟨rfl, hb1⟩
    have HW1 := Lib.hid (below_on HW.out hb1)
    clear hb1
    go_wp2
    go_ret
    exact ⟨ret_bool HE.out.symm, HW1.out⟩
  · rw [hi] at HIN
    have HO := Lib.hid (show M.ordB a b = (Dp.M.has (M.dep a) b.ir b.is || Dp.M.has (M.dep b) a.ir a.is) by unfold M.ordB; rw [hi]; rfl)
    clear hi
    go_enter Try.func26, Try.ntmps26
    go_wp2_with (first
      | (with_reducible refine wpList_load_mid rfl 32 _ rfl w.heap.size 7 rfl [.int .i64 a.c.k, .int .i64 a.c.tc, .int .i64 a.c.tn, .int .i64 a.c.tt, .int .i64 a.c.tk, .int .i64 a.c.sh, va, vb, .bool a.c.cm] _ CA.out Try.underlying32 rfl (by kernel_rfl) ?_)
      | (with_reducible refine wpList_load_mid rfl 32 _ rfl (w.heap.size + 1) 7 rfl [.int .i64 b.c.k, .int .i64 b.c.tc, .int .i64 b.c.tn, .int .i64 b.c.tt, .int .i64 b.c.tk, .int .i64 b.c.sh, ua, ub, .bool b.c.cm] _ CB.out Try.underlying32 rfl (by kernel_rfl) ?_)
      | fail)
    generalize ((w.alloc (.cells #[.int .i64 a.ir, .int .i64 a.is, .int .i64 a.st, .int .i64 a.pn, .int .i64 a.pr, .int .i64 a.bn, .int .i64 a.br, .int .i64 a.c.k, .int .i64 a.c.tc, .int .i64 a.c.tn, .int .i64 a.c.tt, .int .i64 a.c.tk, .int .i64 a.c.sh, va, vb, .bool a.c.cm, .int .i64 a.sq, .int .i64 a.d0, .int .i64 a.d1, .int .i64 a.d2, .int .i64 a.d3, .int .i64 a.d4, .int .i64 a.d5, .int .i64 a.d6, .bool a.kp] 44)).alloc (.cells #[.int .i64 b.ir, .int .i64 b.is, .int .i64 b.st, .int .i64 b.pn, .int .i64 b.pr, .int .i64 b.bn, .int .i64 b.br, .int .i64 b.c.k, .int .i64 b.c.tc, .int .i64 b.c.tn, .int .i64 b.c.tt, .int .i64 b.c.tk, .int .i64 b.c.sh, ua, ub, .bool b.c.cm, .int .i64 b.sq, .int .i64 b.d0, .int .i64 b.d1, .int .i64 b.d2, .int .i64 b.d3, .int .i64 b.d4, .int .i64 b.d5, .int .i64 b.d6, .bool b.kp] 44)) = w0 at *
    refine HIN.out.mono ?_
    rintro e w1 ⟨rfl, hb1⟩
    have HW1 := Lib.hid (below_on HW.out hb1)
    have HA1 := Lib.hid (HA.out.on hb1)
    have HB1 := Lib.hid (HB.out.on hb1)
    have DA := Lib.hid (rowRange_deps (hold_rec HA1.out))
    have IB := Lib.hid (rowRange_inst (hold_rec HB1.out))
    have H1 := Lib.hid (has_rec a b.ir b.is w1)
    clear hb1
    rcases h1 : Dp.M.has (M.dep a) b.ir b.is with _ | _
    · rw [h1] at H1
      have HE := Lib.hid (show M.ordB a b = Dp.M.has (M.dep b) a.ir a.is by rw [HO.out, h1]; rfl)
      clear h1
      go_wp2_with (first
        | (with_reducible refine wpList_load_mid_g ?_ 42 _ rfl w.heap.size (0 + 17) rfl [.int .i64 a.d0, .int .i64 a.d1, .int .i64 a.d2, .int .i64 a.d3, .int .i64 a.d4, .int .i64 a.d5, .int .i64 a.d6] _ DA.out Try.underlying42 rfl (by kernel_rfl) ?_; kernel_rfl)
        | (with_reducible refine wpList_load_mid_g ?_ 24 _ rfl (w.heap.size + 1) 0 rfl [.int .i64 b.ir, .int .i64 b.is] _ IB.out Try.underlying24 rfl (by kernel_rfl) ?_; kernel_rfl)
        | fail)
      refine H1.out.mono ?_
      rintro e w2 ⟨rfl, hb2⟩
      have HW2 := Lib.hid (below_on HW1.out hb2)
      have DB := Lib.hid (rowRange_deps (hold_rec (HB1.out.on hb2)))
      have IA := Lib.hid (rowRange_inst (hold_rec (HA1.out.on hb2)))
      have H2 := Lib.hid (has_rec b a.ir a.is w2)
      clear hb2
      go_wp2_with (first
        | (with_reducible refine wpList_load_mid_g ?_ 42 _ rfl (w.heap.size + 1) (0 + 17) rfl [.int .i64 b.d0, .int .i64 b.d1, .int .i64 b.d2, .int .i64 b.d3, .int .i64 b.d4, .int .i64 b.d5, .int .i64 b.d6] _ DB.out Try.underlying42 rfl (by kernel_rfl) ?_; kernel_rfl)
        | (with_reducible refine wpList_load_mid_g ?_ 24 _ rfl w.heap.size 0 rfl [.int .i64 a.ir, .int .i64 a.is] _ IA.out Try.underlying24 rfl (by kernel_rfl) ?_; kernel_rfl)
        | fail)
      refine H2.out.mono ?_
      rintro e w3 ⟨rfl, hb3⟩
      have HW3 := Lib.hid (below_on HW2.out hb3)
      clear hb3
      go_wp2
      go_ret
      exact ⟨ret_bool HE.out.symm, HW3.out⟩
    · rw [h1] at H1
      have HE := Lib.hid (show M.ordB a b = true by rw [HO.out, h1]; rfl)
      clear h1
      go_wp2_with (first
        | (with_reducible refine wpList_load_mid_g ?_ 42 _ rfl w.heap.size (0 + 17) rfl [.int .i64 a.d0, .int .i64 a.d1, .int .i64 a.d2, .int .i64 a.d3, .int .i64 a.d4, .int .i64 a.d5, .int .i64 a.d6] _ DA.out Try.underlying42 rfl (by kernel_rfl) ?_; kernel_rfl)
        | (with_reducible refine wpList_load_mid_g ?_ 24 _ rfl (w.heap.size + 1) 0 rfl [.int .i64 b.ir, .int .i64 b.is] _ IB.out Try.underlying24 rfl (by kernel_rfl) ?_; kernel_rfl)
        | fail)
      refine H1.out.mono ?_
      rintro e w2 ⟨rfl, hb2⟩
      have HW2 := Lib.hid (below_on HW1.out hb2)
      clear hb2
      go_wp2
      go_ret
      exact ⟨ret_bool HE.out.symm, HW2.out⟩
set_option maxHeartbeats 4000000 in
set_option maxRecDepth 100000 in
theorem dordered_any {w : World} (a b : M.Rec) {va vb ua ub : Value} (h : Txt w ⟨a, va, vb⟩) (g : Txt w ⟨b, ua, ub⟩) (F : M.Mod a.c) (G : M.Mod b.c) : Calls Try.prog 28 #[.agg #[.int .i64 a.ir, .int .i64 a.is, .int .i64 a.st, .int .i64 a.pn, .int .i64 a.pr, .int .i64 a.bn, .int .i64 a.br, .int .i64 a.c.k, .int .i64 a.c.tc, .int .i64 a.c.tn, .int .i64 a.c.tt, .int .i64 a.c.tk, .int .i64 a.c.sh, va, vb, .bool a.c.cm, .int .i64 a.sq, .int .i64 a.d0, .int .i64 a.d1, .int .i64 a.d2, .int .i64 a.d3, .int .i64 a.d4, .int .i64 a.d5, .int .i64 a.d6, .bool a.kp], .agg #[.int .i64 b.ir, .int .i64 b.is, .int .i64 b.st, .int .i64 b.pn, .int .i64 b.pr, .int .i64 b.bn, .int .i64 b.br, .int .i64 b.c.k, .int .i64 b.c.tc, .int .i64 b.c.tn, .int .i64 b.c.tt, .int .i64 b.c.tk, .int .i64 b.c.sh, ua, ub, .bool b.c.cm, .int .i64 b.sq, .int .i64 b.d0, .int .i64 b.d1, .int .i64 b.d2, .int .i64 b.d3, .int .i64 b.d4, .int .i64 b.d5, .int .i64 b.d6, .bool b.kp]] w fun e w' => e = .returned (.bool (M.ordB a b)) ∧ Below w.heap.size w w' := by
  have hb0 : Below w.heap.size w ((w.alloc (.cells #[.int .i64 a.ir, .int .i64 a.is, .int .i64 a.st, .int .i64 a.pn, .int .i64 a.pr, .int .i64 a.bn, .int .i64 a.br, .int .i64 a.c.k, .int .i64 a.c.tc, .int .i64 a.c.tn, .int .i64 a.c.tt, .int .i64 a.c.tk, .int .i64 a.c.sh, va, vb, .bool a.c.cm, .int .i64 a.sq, .int .i64 a.d0, .int .i64 a.d1, .int .i64 a.d2, .int .i64 a.d3, .int .i64 a.d4, .int .i64 a.d5, .int .i64 a.d6, .bool a.kp] 44)).alloc (.cells #[.int .i64 b.ir, .int .i64 b.is, .int .i64 b.st, .int .i64 b.pn, .int .i64 b.pr, .int .i64 b.bn, .int .i64 b.br, .int .i64 b.c.k, .int .i64 b.c.tc, .int .i64 b.c.tn, .int .i64 b.c.tt, .int .i64 b.c.tk, .int .i64 b.c.sh, ua, ub, .bool b.c.cm, .int .i64 b.sq, .int .i64 b.d0, .int .i64 b.d1, .int .i64 b.d2, .int .i64 b.d3, .int .i64 b.d4, .int .i64 b.d5, .int .i64 b.d6, .bool b.kp] 44)) := below_new (below_new (Below.refl _ _))
  have ha : Hold ((w.alloc (.cells #[.int .i64 a.ir, .int .i64 a.is, .int .i64 a.st, .int .i64 a.pn, .int .i64 a.pr, .int .i64 a.bn, .int .i64 a.br, .int .i64 a.c.k, .int .i64 a.c.tc, .int .i64 a.c.tn, .int .i64 a.c.tt, .int .i64 a.c.tk, .int .i64 a.c.sh, va, vb, .bool a.c.cm, .int .i64 a.sq, .int .i64 a.d0, .int .i64 a.d1, .int .i64 a.d2, .int .i64 a.d3, .int .i64 a.d4, .int .i64 a.d5, .int .i64 a.d6, .bool a.kp] 44)).alloc (.cells #[.int .i64 b.ir, .int .i64 b.is, .int .i64 b.st, .int .i64 b.pn, .int .i64 b.pr, .int .i64 b.bn, .int .i64 b.br, .int .i64 b.c.k, .int .i64 b.c.tc, .int .i64 b.c.tn, .int .i64 b.c.tt, .int .i64 b.c.tk, .int .i64 b.c.sh, ua, ub, .bool b.c.cm, .int .i64 b.sq, .int .i64 b.d0, .int .i64 b.d1, .int .i64 b.d2, .int .i64 b.d3, .int .i64 b.d4, .int .i64 b.d5, .int .i64 b.d6, .bool b.kp] 44)) w.heap.size 44 [.int .i64 a.ir, .int .i64 a.is, .int .i64 a.st, .int .i64 a.pn, .int .i64 a.pr, .int .i64 a.bn, .int .i64 a.br, .int .i64 a.c.k, .int .i64 a.c.tc, .int .i64 a.c.tn, .int .i64 a.c.tt, .int .i64 a.c.tk, .int .i64 a.c.sh, va, vb, .bool a.c.cm, .int .i64 a.sq, .int .i64 a.d0, .int .i64 a.d1, .int .i64 a.d2, .int .i64 a.d3, .int .i64 a.d4, .int .i64 a.d5, .int .i64 a.d6, .bool a.kp] := (Hold.new w [.int .i64 a.ir, .int .i64 a.is, .int .i64 a.st, .int .i64 a.pn, .int .i64 a.pr, .int .i64 a.bn, .int .i64 a.br, .int .i64 a.c.k, .int .i64 a.c.tc, .int .i64 a.c.tn, .int .i64 a.c.tt, .int .i64 a.c.tk, .int .i64 a.c.sh, va, vb, .bool a.c.cm, .int .i64 a.sq, .int .i64 a.d0, .int .i64 a.d1, .int .i64 a.d2, .int .i64 a.d3, .int .i64 a.d4, .int .i64 a.d5, .int .i64 a.d6, .bool a.kp] 44).on (below_new (Below.refl _ _))
  have hb : Hold ((w.alloc (.cells #[.int .i64 a.ir, .int .i64 a.is, .int .i64 a.st, .int .i64 a.pn, .int .i64 a.pr, .int .i64 a.bn, .int .i64 a.br, .int .i64 a.c.k, .int .i64 a.c.tc, .int .i64 a.c.tn, .int .i64 a.c.tt, .int .i64 a.c.tk, .int .i64 a.c.sh, va, vb, .bool a.c.cm, .int .i64 a.sq, .int .i64 a.d0, .int .i64 a.d1, .int .i64 a.d2, .int .i64 a.d3, .int .i64 a.d4, .int .i64 a.d5, .int .i64 a.d6, .bool a.kp] 44)).alloc (.cells #[.int .i64 b.ir, .int .i64 b.is, .int .i64 b.st, .int .i64 b.pn, .int .i64 b.pr, .int .i64 b.bn, .int .i64 b.br, .int .i64 b.c.k, .int .i64 b.c.tc, .int .i64 b.c.tn, .int .i64 b.c.tt, .int .i64 b.c.tk, .int .i64 b.c.sh, ua, ub, .bool b.c.cm, .int .i64 b.sq, .int .i64 b.d0, .int .i64 b.d1, .int .i64 b.d2, .int .i64 b.d3, .int .i64 b.d4, .int .i64 b.d5, .int .i64 b.d6, .bool b.kp] 44)) (w.heap.size + 1) 44 [.int .i64 b.ir, .int .i64 b.is, .int .i64 b.st, .int .i64 b.pn, .int .i64 b.pr, .int .i64 b.bn, .int .i64 b.br, .int .i64 b.c.k, .int .i64 b.c.tc, .int .i64 b.c.tn, .int .i64 b.c.tt, .int .i64 b.c.tk, .int .i64 b.c.sh, ua, ub, .bool b.c.cm, .int .i64 b.sq, .int .i64 b.d0, .int .i64 b.d1, .int .i64 b.d2, .int .i64 b.d3, .int .i64 b.d4, .int .i64 b.d5, .int .i64 b.d6, .bool b.kp] := by
    have := Hold.new (w.alloc (.cells #[.int .i64 a.ir, .int .i64 a.is, .int .i64 a.st, .int .i64 a.pn, .int .i64 a.pr, .int .i64 a.bn, .int .i64 a.br, .int .i64 a.c.k, .int .i64 a.c.tc, .int .i64 a.c.tn, .int .i64 a.c.tt, .int .i64 a.c.tk, .int .i64 a.c.sh, va, vb, .bool a.c.cm, .int .i64 a.sq, .int .i64 a.d0, .int .i64 a.d1, .int .i64 a.d2, .int .i64 a.d3, .int .i64 a.d4, .int .i64 a.d5, .int .i64 a.d6, .bool a.kp] 44)) [.int .i64 b.ir, .int .i64 b.is, .int .i64 b.st, .int .i64 b.pn, .int .i64 b.pr, .int .i64 b.bn, .int .i64 b.br, .int .i64 b.c.k, .int .i64 b.c.tc, .int .i64 b.c.tn, .int .i64 b.c.tt, .int .i64 b.c.tk, .int .i64 b.c.sh, ua, ub, .bool b.c.cm, .int .i64 b.sq, .int .i64 b.d0, .int .i64 b.d1, .int .i64 b.d2, .int .i64 b.d3, .int .i64 b.d4, .int .i64 b.d5, .int .i64 b.d6, .bool b.kp] 44
    simpa using this
  have HIN := Lib.hid (dinter_any a.c b.c (h.below hb0).rs (h.below hb0).ws (g.below hb0).rs (g.below hb0).ws F G)
  have HA := Lib.hid ha
  have HB := Lib.hid hb
  have HW := Lib.hid hb0
  have CA := Lib.hid (rowRange_cmd (hold_rec ha))
  have CB := Lib.hid (rowRange_cmd (hold_rec hb))
  clear h g hb0 ha hb
  rcases hi : M.interB a.c b.c with _ | _
  · rw [hi] at HIN
    have HE := Lib.hid (show M.ordB a b = true by unfold M.ordB; rw [hi]; rfl)
    clear hi
    go_enter Try.func28, Try.ntmps28
    go_wp2_with (first
      | (with_reducible refine wpList_load_mid rfl 32 _ rfl w.heap.size 7 rfl [.int .i64 a.c.k, .int .i64 a.c.tc, .int .i64 a.c.tn, .int .i64 a.c.tt, .int .i64 a.c.tk, .int .i64 a.c.sh, va, vb, .bool a.c.cm] _ CA.out Try.underlying32 rfl (by kernel_rfl) ?_)
      | (with_reducible refine wpList_load_mid rfl 32 _ rfl (w.heap.size + 1) 7 rfl [.int .i64 b.c.k, .int .i64 b.c.tc, .int .i64 b.c.tn, .int .i64 b.c.tt, .int .i64 b.c.tk, .int .i64 b.c.sh, ua, ub, .bool b.c.cm] _ CB.out Try.underlying32 rfl (by kernel_rfl) ?_)
      | fail)
    refine HIN.out.mono ?_
    rintro e w1 ⟨rfl, hb1⟩
    have HW1 := Lib.hid (below_on HW.out hb1)
    clear hb1
    go_wp2
    go_ret
    exact ⟨ret_bool HE.out.symm, HW1.out⟩
  · rw [hi] at HIN
    have HO := Lib.hid (show M.ordB a b = (Dp.M.has (M.dep a) b.ir b.is || Dp.M.has (M.dep b) a.ir a.is) by unfold M.ordB; rw [hi]; rfl)
    clear hi
    go_enter Try.func28, Try.ntmps28
    go_wp2_with (first
      | (with_reducible refine wpList_load_mid rfl 32 _ rfl w.heap.size 7 rfl [.int .i64 a.c.k, .int .i64 a.c.tc, .int .i64 a.c.tn, .int .i64 a.c.tt, .int .i64 a.c.tk, .int .i64 a.c.sh, va, vb, .bool a.c.cm] _ CA.out Try.underlying32 rfl (by kernel_rfl) ?_)
      | (with_reducible refine wpList_load_mid rfl 32 _ rfl (w.heap.size + 1) 7 rfl [.int .i64 b.c.k, .int .i64 b.c.tc, .int .i64 b.c.tn, .int .i64 b.c.tt, .int .i64 b.c.tk, .int .i64 b.c.sh, ua, ub, .bool b.c.cm] _ CB.out Try.underlying32 rfl (by kernel_rfl) ?_)
      | fail)
    generalize ((w.alloc (.cells #[.int .i64 a.ir, .int .i64 a.is, .int .i64 a.st, .int .i64 a.pn, .int .i64 a.pr, .int .i64 a.bn, .int .i64 a.br, .int .i64 a.c.k, .int .i64 a.c.tc, .int .i64 a.c.tn, .int .i64 a.c.tt, .int .i64 a.c.tk, .int .i64 a.c.sh, va, vb, .bool a.c.cm, .int .i64 a.sq, .int .i64 a.d0, .int .i64 a.d1, .int .i64 a.d2, .int .i64 a.d3, .int .i64 a.d4, .int .i64 a.d5, .int .i64 a.d6, .bool a.kp] 44)).alloc (.cells #[.int .i64 b.ir, .int .i64 b.is, .int .i64 b.st, .int .i64 b.pn, .int .i64 b.pr, .int .i64 b.bn, .int .i64 b.br, .int .i64 b.c.k, .int .i64 b.c.tc, .int .i64 b.c.tn, .int .i64 b.c.tt, .int .i64 b.c.tk, .int .i64 b.c.sh, ua, ub, .bool b.c.cm, .int .i64 b.sq, .int .i64 b.d0, .int .i64 b.d1, .int .i64 b.d2, .int .i64 b.d3, .int .i64 b.d4, .int .i64 b.d5, .int .i64 b.d6, .bool b.kp] 44)) = w0 at *
    refine HIN.out.mono ?_
    rintro e w1 ⟨rfl, hb1⟩
    have HW1 := Lib.hid (below_on HW.out hb1)
    have HA1 := Lib.hid (HA.out.on hb1)
    have HB1 := Lib.hid (HB.out.on hb1)
    have DA := Lib.hid (rowRange_deps (hold_rec HA1.out))
    have IB := Lib.hid (rowRange_inst (hold_rec HB1.out))
    have H1 := Lib.hid (dhas_rec a b.ir b.is w1)
    clear hb1
    rcases h1 : Dp.M.has (M.dep a) b.ir b.is with _ | _
    · rw [h1] at H1
      have HE := Lib.hid (show M.ordB a b = Dp.M.has (M.dep b) a.ir a.is by rw [HO.out, h1]; rfl)
      clear h1
      go_wp2_with (first
        | (with_reducible refine wpList_load_mid rfl 42 _ rfl w.heap.size (0 + 17) rfl [.int .i64 a.d0, .int .i64 a.d1, .int .i64 a.d2, .int .i64 a.d3, .int .i64 a.d4, .int .i64 a.d5, .int .i64 a.d6] _ DA.out Try.underlying42 rfl (by kernel_rfl) ?_)
        | (with_reducible refine wpList_load_mid rfl 24 _ rfl (w.heap.size + 1) 0 rfl [.int .i64 b.ir, .int .i64 b.is] _ IB.out Try.underlying24 rfl (by kernel_rfl) ?_)
        | fail)
      refine H1.out.mono ?_
      rintro e w2 ⟨rfl, hb2⟩
      have HW2 := Lib.hid (below_on HW1.out hb2)
      have DB := Lib.hid (rowRange_deps (hold_rec (HB1.out.on hb2)))
      have IA := Lib.hid (rowRange_inst (hold_rec (HA1.out.on hb2)))
      have H2 := Lib.hid (dhas_rec b a.ir a.is w2)
      clear hb2
      go_wp2_with (first
        | (with_reducible refine wpList_load_mid_g ?_ 42 _ rfl (w.heap.size + 1) (0 + 17) rfl [.int .i64 b.d0, .int .i64 b.d1, .int .i64 b.d2, .int .i64 b.d3, .int .i64 b.d4, .int .i64 b.d5, .int .i64 b.d6] _ DB.out Try.underlying42 rfl (by kernel_rfl) ?_; kernel_rfl)
        | (with_reducible refine wpList_load_mid_g ?_ 24 _ rfl w.heap.size 0 rfl [.int .i64 a.ir, .int .i64 a.is] _ IA.out Try.underlying24 rfl (by kernel_rfl) ?_; kernel_rfl)
        | fail)
      refine H2.out.mono ?_
      rintro e w3 ⟨rfl, hb3⟩
      have HW3 := Lib.hid (below_on HW2.out hb3)
      clear hb3
      go_wp2
      go_ret
      exact ⟨ret_bool HE.out.symm, HW3.out⟩
    · rw [h1] at H1
      have HE := Lib.hid (show M.ordB a b = true by rw [HO.out, h1]; rfl)
      clear h1
      go_wp2_with (first
        | (with_reducible refine wpList_load_mid rfl 42 _ rfl w.heap.size (0 + 17) rfl [.int .i64 a.d0, .int .i64 a.d1, .int .i64 a.d2, .int .i64 a.d3, .int .i64 a.d4, .int .i64 a.d5, .int .i64 a.d6] _ DA.out Try.underlying42 rfl (by kernel_rfl) ?_)
        | (with_reducible refine wpList_load_mid rfl 24 _ rfl (w.heap.size + 1) 0 rfl [.int .i64 b.ir, .int .i64 b.is] _ IB.out Try.underlying24 rfl (by kernel_rfl) ?_)
        | fail)
      refine H1.out.mono ?_
      rintro e w2 ⟨rfl, hb2⟩
      have HW2 := Lib.hid (below_on HW1.out hb2)
      clear hb2
      go_wp2
      go_ret
      exact ⟨ret_bool HE.out.symm, HW2.out⟩
end Go.Proofs.Ytgaglcfoodbcfaa
