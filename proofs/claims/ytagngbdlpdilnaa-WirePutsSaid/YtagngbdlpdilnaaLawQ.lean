/- The walk of WirePuts, other ways; no conditions but those that it names. -/
import Derived.Test.YtagngbdlpdilnaaLawP
namespace Go.Proofs.Ytagngbdlpdilnaa
open Go.ChangeShapes Go.WideShapes Go.ChangeAt Go.RowKit

set_option maxHeartbeats 16000000 in
set_option maxRecDepth 100000 in
theorem puts_ftt (c : M.Cmd) (r : M.Rec) (m : M.Msg) {va vb ua ub ta tb : Value} (w : World) (h : Rds w va c.rs) (h' : Wrs w vb c.ws) (g : Rds w ua r.c.rs) (g' : Wrs w ub r.c.ws) (k : Rds w ta m.r.c.rs) (k' : Wrs w tb m.r.c.ws) (F : M.Mod c) (G : M.Mod r.c) (K : M.Mod m.r.c) (e1 : M.rightC c = false) (e2 : M.rightR r = true) (e3 : M.rightM m = true) : Calls Try.prog 4 #[.agg #[.int .i64 c.k, .int .i64 c.tc, .int .i64 c.tn, .int .i64 c.tt, .int .i64 c.tk, .int .i64 c.sh, va, vb, .bool c.cm], .agg #[.int .i64 r.ir, .int .i64 r.is, .int .i64 r.st, .int .i64 r.pn, .int .i64 r.pr, .int .i64 r.bn, .int .i64 r.br, .int .i64 r.c.k, .int .i64 r.c.tc, .int .i64 r.c.tn, .int .i64 r.c.tt, .int .i64 r.c.tk, .int .i64 r.c.sh, ua, ub, .bool r.c.cm, .int .i64 r.sq, .int .i64 r.d0, .int .i64 r.d1, .int .i64 r.d2, .int .i64 r.d3, .int .i64 r.d4, .int .i64 r.d5, .int .i64 r.d6, .bool r.kp], .agg #[.int .i64 m.k, .int .i64 m.fr, .int .i64 m.to, .int .i64 m.bn, .int .i64 m.br, .int .i64 m.r.ir, .int .i64 m.r.is, .int .i64 m.r.st, .int .i64 m.r.pn, .int .i64 m.r.pr, .int .i64 m.r.bn, .int .i64 m.r.br, .int .i64 m.r.c.k, .int .i64 m.r.c.tc, .int .i64 m.r.c.tn, .int .i64 m.r.c.tt, .int .i64 m.r.c.tk, .int .i64 m.r.c.sh, ta, tb, .bool m.r.c.cm, .int .i64 m.r.sq, .int .i64 m.r.d0, .int .i64 m.r.d1, .int .i64 m.r.d2, .int .i64 m.r.d3, .int .i64 m.r.d4, .int .i64 m.r.d5, .int .i64 m.r.d6, .bool m.r.kp]] w (Yes w) := by
  have N1 := below_new (o := .cells #[.int .i64 c.k, .int .i64 c.tc, .int .i64 c.tn, .int .i64 c.tt, .int .i64 c.tk, .int .i64 c.sh, va, vb, .bool c.cm] 33) (Below.refl w.heap.size w)
  have N2 := below_new (o := .cells #[.int .i64 r.ir, .int .i64 r.is, .int .i64 r.st, .int .i64 r.pn, .int .i64 r.pr, .int .i64 r.bn, .int .i64 r.br, .int .i64 r.c.k, .int .i64 r.c.tc, .int .i64 r.c.tn, .int .i64 r.c.tt, .int .i64 r.c.tk, .int .i64 r.c.sh, ua, ub, .bool r.c.cm, .int .i64 r.sq, .int .i64 r.d0, .int .i64 r.d1, .int .i64 r.d2, .int .i64 r.d3, .int .i64 r.d4, .int .i64 r.d5, .int .i64 r.d6, .bool r.kp] 37) N1
  have N3 := below_new (o := .cells #[.int .i64 m.k, .int .i64 m.fr, .int .i64 m.to, .int .i64 m.bn, .int .i64 m.br, .int .i64 m.r.ir, .int .i64 m.r.is, .int .i64 m.r.st, .int .i64 m.r.pn, .int .i64 m.r.pr, .int .i64 m.r.bn, .int .i64 m.r.br, .int .i64 m.r.c.k, .int .i64 m.r.c.tc, .int .i64 m.r.c.tn, .int .i64 m.r.c.tt, .int .i64 m.r.c.tk, .int .i64 m.r.c.sh, ta, tb, .bool m.r.c.cm, .int .i64 m.r.sq, .int .i64 m.r.d0, .int .i64 m.r.d1, .int .i64 m.r.d2, .int .i64 m.r.d3, .int .i64 m.r.d4, .int .i64 m.r.d5, .int .i64 m.r.d6, .bool m.r.kp] 39) N2
  have B := Lib.hid (below_new (o := .cells #[.int .i64 c.k, .int .i64 c.tc, .int .i64 c.tn, .int .i64 c.tt, .int .i64 c.tk, .int .i64 c.sh, va, vb, .bool c.cm, .int .i64 r.c.k, .int .i64 r.c.tc, .int .i64 r.c.tn, .int .i64 r.c.tt, .int .i64 r.c.tk, .int .i64 r.c.sh, ua, ub, .bool r.c.cm, .int .i64 m.r.c.k, .int .i64 m.r.c.tc, .int .i64 m.r.c.tn, .int .i64 m.r.c.tt, .int .i64 m.r.c.tk, .int .i64 m.r.c.sh, ta, tb, .bool m.r.c.cm] 33) N3)
  have X := Lib.hid ((((Cel.new w [.int .i64 c.k, .int .i64 c.tc, .int .i64 c.tn, .int .i64 c.tt, .int .i64 c.tk, .int .i64 c.sh, va, vb, .bool c.cm] 33).push (.cells #[.int .i64 r.ir, .int .i64 r.is, .int .i64 r.st, .int .i64 r.pn, .int .i64 r.pr, .int .i64 r.bn, .int .i64 r.br, .int .i64 r.c.k, .int .i64 r.c.tc, .int .i64 r.c.tn, .int .i64 r.c.tt, .int .i64 r.c.tk, .int .i64 r.c.sh, ua, ub, .bool r.c.cm, .int .i64 r.sq, .int .i64 r.d0, .int .i64 r.d1, .int .i64 r.d2, .int .i64 r.d3, .int .i64 r.d4, .int .i64 r.d5, .int .i64 r.d6, .bool r.kp] 37)).push (.cells #[.int .i64 m.k, .int .i64 m.fr, .int .i64 m.to, .int .i64 m.bn, .int .i64 m.br, .int .i64 m.r.ir, .int .i64 m.r.is, .int .i64 m.r.st, .int .i64 m.r.pn, .int .i64 m.r.pr, .int .i64 m.r.bn, .int .i64 m.r.br, .int .i64 m.r.c.k, .int .i64 m.r.c.tc, .int .i64 m.r.c.tn, .int .i64 m.r.c.tt, .int .i64 m.r.c.tk, .int .i64 m.r.c.sh, ta, tb, .bool m.r.c.cm, .int .i64 m.r.sq, .int .i64 m.r.d0, .int .i64 m.r.d1, .int .i64 m.r.d2, .int .i64 m.r.d3, .int .i64 m.r.d4, .int .i64 m.r.d5, .int .i64 m.r.d6, .bool m.r.kp] 39)).push (.cells #[.int .i64 c.k, .int .i64 c.tc, .int .i64 c.tn, .int .i64 c.tt, .int .i64 c.tk, .int .i64 c.sh, va, vb, .bool c.cm, .int .i64 r.c.k, .int .i64 r.c.tc, .int .i64 r.c.tn, .int .i64 r.c.tt, .int .i64 r.c.tk, .int .i64 r.c.sh, ua, ub, .bool r.c.cm, .int .i64 m.r.c.k, .int .i64 m.r.c.tc, .int .i64 m.r.c.tn, .int .i64 m.r.c.tt, .int .i64 m.r.c.tk, .int .i64 m.r.c.sh, ta, tb, .bool m.r.c.cm] 33))
  have Y := Lib.hid (((Cel.new1 w (.cells #[.int .i64 c.k, .int .i64 c.tc, .int .i64 c.tn, .int .i64 c.tt, .int .i64 c.tk, .int .i64 c.sh, va, vb, .bool c.cm] 33) [.int .i64 r.ir, .int .i64 r.is, .int .i64 r.st, .int .i64 r.pn, .int .i64 r.pr, .int .i64 r.bn, .int .i64 r.br, .int .i64 r.c.k, .int .i64 r.c.tc, .int .i64 r.c.tn, .int .i64 r.c.tt, .int .i64 r.c.tk, .int .i64 r.c.sh, ua, ub, .bool r.c.cm, .int .i64 r.sq, .int .i64 r.d0, .int .i64 r.d1, .int .i64 r.d2, .int .i64 r.d3, .int .i64 r.d4, .int .i64 r.d5, .int .i64 r.d6, .bool r.kp] 37).push (.cells #[.int .i64 m.k, .int .i64 m.fr, .int .i64 m.to, .int .i64 m.bn, .int .i64 m.br, .int .i64 m.r.ir, .int .i64 m.r.is, .int .i64 m.r.st, .int .i64 m.r.pn, .int .i64 m.r.pr, .int .i64 m.r.bn, .int .i64 m.r.br, .int .i64 m.r.c.k, .int .i64 m.r.c.tc, .int .i64 m.r.c.tn, .int .i64 m.r.c.tt, .int .i64 m.r.c.tk, .int .i64 m.r.c.sh, ta, tb, .bool m.r.c.cm, .int .i64 m.r.sq, .int .i64 m.r.d0, .int .i64 m.r.d1, .int .i64 m.r.d2, .int .i64 m.r.d3, .int .i64 m.r.d4, .int .i64 m.r.d5, .int .i64 m.r.d6, .bool m.r.kp] 39)).push (.cells #[.int .i64 c.k, .int .i64 c.tc, .int .i64 c.tn, .int .i64 c.tt, .int .i64 c.tk, .int .i64 c.sh, va, vb, .bool c.cm, .int .i64 r.c.k, .int .i64 r.c.tc, .int .i64 r.c.tn, .int .i64 r.c.tt, .int .i64 r.c.tk, .int .i64 r.c.sh, ua, ub, .bool r.c.cm, .int .i64 m.r.c.k, .int .i64 m.r.c.tc, .int .i64 m.r.c.tn, .int .i64 m.r.c.tt, .int .i64 m.r.c.tk, .int .i64 m.r.c.sh, ta, tb, .bool m.r.c.cm] 33))
  have Z := Lib.hid ((show Cel (((w.alloc (.cells #[.int .i64 c.k, .int .i64 c.tc, .int .i64 c.tn, .int .i64 c.tt, .int .i64 c.tk, .int .i64 c.sh, va, vb, .bool c.cm] 33)).alloc (.cells #[.int .i64 r.ir, .int .i64 r.is, .int .i64 r.st, .int .i64 r.pn, .int .i64 r.pr, .int .i64 r.bn, .int .i64 r.br, .int .i64 r.c.k, .int .i64 r.c.tc, .int .i64 r.c.tn, .int .i64 r.c.tt, .int .i64 r.c.tk, .int .i64 r.c.sh, ua, ub, .bool r.c.cm, .int .i64 r.sq, .int .i64 r.d0, .int .i64 r.d1, .int .i64 r.d2, .int .i64 r.d3, .int .i64 r.d4, .int .i64 r.d5, .int .i64 r.d6, .bool r.kp] 37)).alloc (.cells #[.int .i64 m.k, .int .i64 m.fr, .int .i64 m.to, .int .i64 m.bn, .int .i64 m.br, .int .i64 m.r.ir, .int .i64 m.r.is, .int .i64 m.r.st, .int .i64 m.r.pn, .int .i64 m.r.pr, .int .i64 m.r.bn, .int .i64 m.r.br, .int .i64 m.r.c.k, .int .i64 m.r.c.tc, .int .i64 m.r.c.tn, .int .i64 m.r.c.tt, .int .i64 m.r.c.tk, .int .i64 m.r.c.sh, ta, tb, .bool m.r.c.cm, .int .i64 m.r.sq, .int .i64 m.r.d0, .int .i64 m.r.d1, .int .i64 m.r.d2, .int .i64 m.r.d3, .int .i64 m.r.d4, .int .i64 m.r.d5, .int .i64 m.r.d6, .bool m.r.kp] 39)) (w.heap.size + 1 + 1) [.int .i64 m.k, .int .i64 m.fr, .int .i64 m.to, .int .i64 m.bn, .int .i64 m.br, .int .i64 m.r.ir, .int .i64 m.r.is, .int .i64 m.r.st, .int .i64 m.r.pn, .int .i64 m.r.pr, .int .i64 m.r.bn, .int .i64 m.r.br, .int .i64 m.r.c.k, .int .i64 m.r.c.tc, .int .i64 m.r.c.tn, .int .i64 m.r.c.tt, .int .i64 m.r.c.tk, .int .i64 m.r.c.sh, ta, tb, .bool m.r.c.cm, .int .i64 m.r.sq, .int .i64 m.r.d0, .int .i64 m.r.d1, .int .i64 m.r.d2, .int .i64 m.r.d3, .int .i64 m.r.d4, .int .i64 m.r.d5, .int .i64 m.r.d6, .bool m.r.kp] by simpa using Cel.new ((w.alloc (.cells #[.int .i64 c.k, .int .i64 c.tc, .int .i64 c.tn, .int .i64 c.tt, .int .i64 c.tk, .int .i64 c.sh, va, vb, .bool c.cm] 33)).alloc (.cells #[.int .i64 r.ir, .int .i64 r.is, .int .i64 r.st, .int .i64 r.pn, .int .i64 r.pr, .int .i64 r.bn, .int .i64 r.br, .int .i64 r.c.k, .int .i64 r.c.tc, .int .i64 r.c.tn, .int .i64 r.c.tt, .int .i64 r.c.tk, .int .i64 r.c.sh, ua, ub, .bool r.c.cm, .int .i64 r.sq, .int .i64 r.d0, .int .i64 r.d1, .int .i64 r.d2, .int .i64 r.d3, .int .i64 r.d4, .int .i64 r.d5, .int .i64 r.d6, .bool r.kp] 37)) [.int .i64 m.k, .int .i64 m.fr, .int .i64 m.to, .int .i64 m.bn, .int .i64 m.br, .int .i64 m.r.ir, .int .i64 m.r.is, .int .i64 m.r.st, .int .i64 m.r.pn, .int .i64 m.r.pr, .int .i64 m.r.bn, .int .i64 m.r.br, .int .i64 m.r.c.k, .int .i64 m.r.c.tc, .int .i64 m.r.c.tn, .int .i64 m.r.c.tt, .int .i64 m.r.c.tk, .int .i64 m.r.c.sh, ta, tb, .bool m.r.c.cm, .int .i64 m.r.sq, .int .i64 m.r.d0, .int .i64 m.r.d1, .int .i64 m.r.d2, .int .i64 m.r.d3, .int .i64 m.r.d4, .int .i64 m.r.d5, .int .i64 m.r.d6, .bool m.r.kp] 39).push (.cells #[.int .i64 c.k, .int .i64 c.tc, .int .i64 c.tn, .int .i64 c.tt, .int .i64 c.tk, .int .i64 c.sh, va, vb, .bool c.cm, .int .i64 r.c.k, .int .i64 r.c.tc, .int .i64 r.c.tn, .int .i64 r.c.tt, .int .i64 r.c.tk, .int .i64 r.c.sh, ua, ub, .bool r.c.cm, .int .i64 m.r.c.k, .int .i64 m.r.c.tc, .int .i64 m.r.c.tn, .int .i64 m.r.c.tt, .int .i64 m.r.c.tk, .int .i64 m.r.c.sh, ta, tb, .bool m.r.c.cm] 33))
  have R := Lib.hid (h.below N3)
  have W := Lib.hid (h'.below N3)
  have S := Lib.hid (g.below N3)
  have V := Lib.hid (g'.below N3)
  have T := Lib.hid (k.below N3)
  have U := Lib.hid (k'.below N3)
  clear h h' g g' k k' N1 N2 N3
  have FG := Lib.hid (M.rightR_fits e2 G)
  have LR := Lib.hid (show (M.encR r).length ≤ 1000000 from by have := M.encR_max FG.out; omega)
  have q2 := V8.sameB_refl (M.encR r)
  have FK := Lib.hid (M.rightM_fits e3 K)
  have LM := Lib.hid (show (M.encM m).length ≤ 1000000 from by have := M.encM_len (M.right_tiny (M.rightR_cmd (M.rightM_rec e3))); omega)
  have q3 := V8.sameB_refl (M.encM m)
  have f0 : (M.modB c && (M.modB r.c && M.modB m.r.c)) = true := by rw [M.modB_iff.2 F, M.modB_iff.2 G, M.modB_iff.2 K]; rfl
  go_enter Try.func4, Try.ntmps4
  go_wp2_with (fail)
  refine (few_three (by simp) c r.c m.r.c R.out W.out S.out V.out T.out U.out).mono ?_
  rintro e w1 ⟨rfl, hb⟩
  replace X := Lib.hid (X.out.on hb)
  replace Y := Lib.hid (Y.out.on hb)
  replace Z := Lib.hid (Z.out.on hb)
  replace R := Lib.hid ((R.out.push _).below hb)
  replace W := Lib.hid ((W.out.push _).below hb)
  replace S := Lib.hid ((S.out.push _).below hb)
  replace V := Lib.hid ((V.out.push _).below hb)
  replace T := Lib.hid ((T.out.push _).below hb)
  replace U := Lib.hid ((U.out.push _).below hb)
  replace B := Lib.hid (below_on B.out hb)
  clear hb
  go_wp2_with
    (first
     | (with_reducible refine wpList_load_mid rfl 33 _ rfl w.heap.size 0 rfl _ _ X.out.whole Try.underlying33 rfl (by kernel_rfl) ?_)
     | (with_reducible refine wpList_load_mid rfl 37 _ rfl (w.heap.size + 1) 0 rfl _ _ Y.out.whole Try.underlying37 rfl (by kernel_rfl) ?_)
     | (with_reducible refine wpList_load_mid rfl 39 _ rfl (w.heap.size + 1 + 1) 0 rfl _ _ Z.out.whole Try.underlying39 rfl (by kernel_rfl) ?_)
     | ((with_reducible refine wpList_load_mid_g ?_ 33 _ rfl w.heap.size 0 rfl _ _ X.out.whole Try.underlying33 rfl (by kernel_rfl) ?_); rfl)
     | ((with_reducible refine wpList_load_mid_g ?_ 37 _ rfl (w.heap.size + 1) 0 rfl _ _ Y.out.whole Try.underlying37 rfl (by kernel_rfl) ?_); rfl)
     | ((with_reducible refine wpList_load_mid_g ?_ 39 _ rfl (w.heap.size + 1 + 1) 0 rfl _ _ Z.out.whole Try.underlying39 rfl (by kernel_rfl) ?_); rfl)
     | (go_at_call 18
        with_reducible refine (encF (encode_cmd c R.out W.out F) e1).mono ?_
        rintro e w9 ⟨Ac, kc, rfl, hb⟩
        replace X := Lib.hid (X.out.on hb)
        replace Y := Lib.hid (Y.out.on hb)
        replace Z := Lib.hid (Z.out.on hb)
        replace R := Lib.hid (R.out.below hb)
        replace W := Lib.hid (W.out.below hb)
        replace S := Lib.hid (S.out.below hb)
        replace V := Lib.hid (V.out.below hb)
        replace T := Lib.hid (T.out.below hb)
        replace U := Lib.hid (U.out.below hb)
        replace B := Lib.hid (below_on B.out hb)
        clear hb)
     | (go_at_call 18
        with_reducible refine (encT (encode_rec r S.out V.out G) e2).mono ?_
        rintro e w9 ⟨Ar, kr, rfl, ho, hb⟩
        replace X := Lib.hid (X.out.on hb)
        replace Y := Lib.hid (Y.out.on hb)
        replace Z := Lib.hid (Z.out.on hb)
        replace R := Lib.hid (R.out.below hb)
        replace W := Lib.hid (W.out.below hb)
        replace S := Lib.hid (S.out.below hb)
        replace V := Lib.hid (V.out.below hb)
        replace T := Lib.hid (T.out.below hb)
        replace U := Lib.hid (U.out.below hb)
        replace B := Lib.hid (below_on B.out hb)
        have OY := Lib.hid ho
        clear ho
        clear hb)
     | (go_at_call 18
        with_reducible refine (encT (encode_msg m T.out U.out K) e3).mono ?_
        rintro e w9 ⟨Am, km, rfl, ho, hb⟩
        replace X := Lib.hid (X.out.on hb)
        replace Y := Lib.hid (Y.out.on hb)
        replace Z := Lib.hid (Z.out.on hb)
        replace R := Lib.hid (R.out.below hb)
        replace W := Lib.hid (W.out.below hb)
        replace S := Lib.hid (S.out.below hb)
        replace V := Lib.hid (V.out.below hb)
        replace T := Lib.hid (T.out.below hb)
        replace U := Lib.hid (U.out.below hb)
        replace B := Lib.hid (below_on B.out hb)
        replace OY := Lib.hid (OY.out.on hb)
        have OZ := Lib.hid ho
        clear ho
        clear hb)
     | (go_at_call 19
        refine (drightC c R.out W.out F).mono ?_
        rintro e w9 ⟨rfl, hb⟩
        replace X := Lib.hid (X.out.on hb)
        replace Y := Lib.hid (Y.out.on hb)
        replace Z := Lib.hid (Z.out.on hb)
        replace R := Lib.hid (R.out.below hb)
        replace W := Lib.hid (W.out.below hb)
        replace S := Lib.hid (S.out.below hb)
        replace V := Lib.hid (V.out.below hb)
        replace T := Lib.hid (T.out.below hb)
        replace U := Lib.hid (U.out.below hb)
        replace B := Lib.hid (below_on B.out hb)
        replace OY := Lib.hid (OY.out.on hb)
        replace OZ := Lib.hid (OZ.out.on hb)
        clear hb)
     | (go_at_call 13
        refine (dright_rec' r S.out V.out G).mono ?_
        rintro e w9 ⟨rfl, hb⟩
        replace X := Lib.hid (X.out.on hb)
        replace Y := Lib.hid (Y.out.on hb)
        replace Z := Lib.hid (Z.out.on hb)
        replace R := Lib.hid (R.out.below hb)
        replace W := Lib.hid (W.out.below hb)
        replace S := Lib.hid (S.out.below hb)
        replace V := Lib.hid (V.out.below hb)
        replace T := Lib.hid (T.out.below hb)
        replace U := Lib.hid (U.out.below hb)
        replace B := Lib.hid (below_on B.out hb)
        replace OY := Lib.hid (OY.out.on hb)
        replace OZ := Lib.hid (OZ.out.on hb)
        clear hb)
     | (go_at_call 15
        refine (dright_msg' m T.out U.out K).mono ?_
        rintro e w9 ⟨rfl, hb⟩
        replace X := Lib.hid (X.out.on hb)
        replace Y := Lib.hid (Y.out.on hb)
        replace Z := Lib.hid (Z.out.on hb)
        replace R := Lib.hid (R.out.below hb)
        replace W := Lib.hid (W.out.below hb)
        replace S := Lib.hid (S.out.below hb)
        replace V := Lib.hid (V.out.below hb)
        replace T := Lib.hid (T.out.below hb)
        replace U := Lib.hid (U.out.below hb)
        replace B := Lib.hid (below_on B.out hb)
        replace OY := Lib.hid (OY.out.on hb)
        replace OZ := Lib.hid (OZ.out.on hb)
        clear hb)
     | (go_at_call 22
        refine (refRecord_any r S.out V.out FG.out).mono ?_
        rintro e w9 ⟨vq, rfl, ho, hb⟩
        replace X := Lib.hid (X.out.on hb)
        replace Y := Lib.hid (Y.out.on hb)
        replace Z := Lib.hid (Z.out.on hb)
        replace R := Lib.hid (R.out.below hb)
        replace W := Lib.hid (W.out.below hb)
        replace S := Lib.hid (S.out.below hb)
        replace V := Lib.hid (V.out.below hb)
        replace T := Lib.hid (T.out.below hb)
        replace U := Lib.hid (U.out.below hb)
        replace B := Lib.hid (below_on B.out hb)
        replace OY := Lib.hid (OY.out.on hb)
        replace OZ := Lib.hid (OZ.out.on hb)
        obtain ⟨Aq, kq, rfl, -⟩ := ho.slice
        have OQOY := Lib.hid ho
        clear ho
        clear hb)
     | (go_at_call 20
        with_reducible refine (same8_any OY.out.bts OQOY.out.bts LR.out).mono ?_
        rintro e w9 ⟨rfl, hb⟩
        replace X := Lib.hid (X.out.on hb)
        replace Y := Lib.hid (Y.out.on hb)
        replace Z := Lib.hid (Z.out.on hb)
        replace R := Lib.hid (R.out.below hb)
        replace W := Lib.hid (W.out.below hb)
        replace S := Lib.hid (S.out.below hb)
        replace V := Lib.hid (V.out.below hb)
        replace T := Lib.hid (T.out.below hb)
        replace U := Lib.hid (U.out.below hb)
        replace B := Lib.hid (below_on B.out hb)
        replace OY := Lib.hid (OY.out.on hb)
        replace OZ := Lib.hid (OZ.out.on hb)
        clear hb)
     | (go_at_call 23
        refine (refMessage_any m T.out U.out FK.out).mono ?_
        rintro e w9 ⟨vq, rfl, ho, hb⟩
        replace X := Lib.hid (X.out.on hb)
        replace Y := Lib.hid (Y.out.on hb)
        replace Z := Lib.hid (Z.out.on hb)
        replace R := Lib.hid (R.out.below hb)
        replace W := Lib.hid (W.out.below hb)
        replace S := Lib.hid (S.out.below hb)
        replace V := Lib.hid (V.out.below hb)
        replace T := Lib.hid (T.out.below hb)
        replace U := Lib.hid (U.out.below hb)
        replace B := Lib.hid (below_on B.out hb)
        replace OY := Lib.hid (OY.out.on hb)
        replace OZ := Lib.hid (OZ.out.on hb)
        obtain ⟨Aq, kq, rfl, -⟩ := ho.slice
        have OQOZ := Lib.hid ho
        clear ho
        clear hb)
     | (go_at_call 20
        with_reducible refine (same8_any OZ.out.bts OQOZ.out.bts LM.out).mono ?_
        rintro e w9 ⟨rfl, hb⟩
        replace X := Lib.hid (X.out.on hb)
        replace Y := Lib.hid (Y.out.on hb)
        replace Z := Lib.hid (Z.out.on hb)
        replace R := Lib.hid (R.out.below hb)
        replace W := Lib.hid (W.out.below hb)
        replace S := Lib.hid (S.out.below hb)
        replace V := Lib.hid (V.out.below hb)
        replace T := Lib.hid (T.out.below hb)
        replace U := Lib.hid (U.out.below hb)
        replace B := Lib.hid (below_on B.out hb)
        replace OY := Lib.hid (OY.out.on hb)
        replace OZ := Lib.hid (OZ.out.on hb)
        clear hb)
     | (go_at_call 11
        refine (awake_any _).mono ?_
        rintro e w9 ⟨rfl, hb⟩
        replace B := Lib.hid (below_on B.out hb)
        clear hb))
  go_ret
  exact ⟨rfl, B.out⟩

set_option maxHeartbeats 16000000 in
set_option maxRecDepth 100000 in
theorem puts_ftf (c : M.Cmd) (r : M.Rec) (m : M.Msg) {va vb ua ub ta tb : Value} (w : World) (h : Rds w va c.rs) (h' : Wrs w vb c.ws) (g : Rds w ua r.c.rs) (g' : Wrs w ub r.c.ws) (k : Rds w ta m.r.c.rs) (k' : Wrs w tb m.r.c.ws) (F : M.Mod c) (G : M.Mod r.c) (K : M.Mod m.r.c) (e1 : M.rightC c = false) (e2 : M.rightR r = true) (e3 : M.rightM m = false) : Calls Try.prog 4 #[.agg #[.int .i64 c.k, .int .i64 c.tc, .int .i64 c.tn, .int .i64 c.tt, .int .i64 c.tk, .int .i64 c.sh, va, vb, .bool c.cm], .agg #[.int .i64 r.ir, .int .i64 r.is, .int .i64 r.st, .int .i64 r.pn, .int .i64 r.pr, .int .i64 r.bn, .int .i64 r.br, .int .i64 r.c.k, .int .i64 r.c.tc, .int .i64 r.c.tn, .int .i64 r.c.tt, .int .i64 r.c.tk, .int .i64 r.c.sh, ua, ub, .bool r.c.cm, .int .i64 r.sq, .int .i64 r.d0, .int .i64 r.d1, .int .i64 r.d2, .int .i64 r.d3, .int .i64 r.d4, .int .i64 r.d5, .int .i64 r.d6, .bool r.kp], .agg #[.int .i64 m.k, .int .i64 m.fr, .int .i64 m.to, .int .i64 m.bn, .int .i64 m.br, .int .i64 m.r.ir, .int .i64 m.r.is, .int .i64 m.r.st, .int .i64 m.r.pn, .int .i64 m.r.pr, .int .i64 m.r.bn, .int .i64 m.r.br, .int .i64 m.r.c.k, .int .i64 m.r.c.tc, .int .i64 m.r.c.tn, .int .i64 m.r.c.tt, .int .i64 m.r.c.tk, .int .i64 m.r.c.sh, ta, tb, .bool m.r.c.cm, .int .i64 m.r.sq, .int .i64 m.r.d0, .int .i64 m.r.d1, .int .i64 m.r.d2, .int .i64 m.r.d3, .int .i64 m.r.d4, .int .i64 m.r.d5, .int .i64 m.r.d6, .bool m.r.kp]] w (Yes w) := by
  have N1 := below_new (o := .cells #[.int .i64 c.k, .int .i64 c.tc, .int .i64 c.tn, .int .i64 c.tt, .int .i64 c.tk, .int .i64 c.sh, va, vb, .bool c.cm] 33) (Below.refl w.heap.size w)
  have N2 := below_new (o := .cells #[.int .i64 r.ir, .int .i64 r.is, .int .i64 r.st, .int .i64 r.pn, .int .i64 r.pr, .int .i64 r.bn, .int .i64 r.br, .int .i64 r.c.k, .int .i64 r.c.tc, .int .i64 r.c.tn, .int .i64 r.c.tt, .int .i64 r.c.tk, .int .i64 r.c.sh, ua, ub, .bool r.c.cm, .int .i64 r.sq, .int .i64 r.d0, .int .i64 r.d1, .int .i64 r.d2, .int .i64 r.d3, .int .i64 r.d4, .int .i64 r.d5, .int .i64 r.d6, .bool r.kp] 37) N1
  have N3 := below_new (o := .cells #[.int .i64 m.k, .int .i64 m.fr, .int .i64 m.to, .int .i64 m.bn, .int .i64 m.br, .int .i64 m.r.ir, .int .i64 m.r.is, .int .i64 m.r.st, .int .i64 m.r.pn, .int .i64 m.r.pr, .int .i64 m.r.bn, .int .i64 m.r.br, .int .i64 m.r.c.k, .int .i64 m.r.c.tc, .int .i64 m.r.c.tn, .int .i64 m.r.c.tt, .int .i64 m.r.c.tk, .int .i64 m.r.c.sh, ta, tb, .bool m.r.c.cm, .int .i64 m.r.sq, .int .i64 m.r.d0, .int .i64 m.r.d1, .int .i64 m.r.d2, .int .i64 m.r.d3, .int .i64 m.r.d4, .int .i64 m.r.d5, .int .i64 m.r.d6, .bool m.r.kp] 39) N2
  have B := Lib.hid (below_new (o := .cells #[.int .i64 c.k, .int .i64 c.tc, .int .i64 c.tn, .int .i64 c.tt, .int .i64 c.tk, .int .i64 c.sh, va, vb, .bool c.cm, .int .i64 r.c.k, .int .i64 r.c.tc, .int .i64 r.c.tn, .int .i64 r.c.tt, .int .i64 r.c.tk, .int .i64 r.c.sh, ua, ub, .bool r.c.cm, .int .i64 m.r.c.k, .int .i64 m.r.c.tc, .int .i64 m.r.c.tn, .int .i64 m.r.c.tt, .int .i64 m.r.c.tk, .int .i64 m.r.c.sh, ta, tb, .bool m.r.c.cm] 33) N3)
  have X := Lib.hid ((((Cel.new w [.int .i64 c.k, .int .i64 c.tc, .int .i64 c.tn, .int .i64 c.tt, .int .i64 c.tk, .int .i64 c.sh, va, vb, .bool c.cm] 33).push (.cells #[.int .i64 r.ir, .int .i64 r.is, .int .i64 r.st, .int .i64 r.pn, .int .i64 r.pr, .int .i64 r.bn, .int .i64 r.br, .int .i64 r.c.k, .int .i64 r.c.tc, .int .i64 r.c.tn, .int .i64 r.c.tt, .int .i64 r.c.tk, .int .i64 r.c.sh, ua, ub, .bool r.c.cm, .int .i64 r.sq, .int .i64 r.d0, .int .i64 r.d1, .int .i64 r.d2, .int .i64 r.d3, .int .i64 r.d4, .int .i64 r.d5, .int .i64 r.d6, .bool r.kp] 37)).push (.cells #[.int .i64 m.k, .int .i64 m.fr, .int .i64 m.to, .int .i64 m.bn, .int .i64 m.br, .int .i64 m.r.ir, .int .i64 m.r.is, .int .i64 m.r.st, .int .i64 m.r.pn, .int .i64 m.r.pr, .int .i64 m.r.bn, .int .i64 m.r.br, .int .i64 m.r.c.k, .int .i64 m.r.c.tc, .int .i64 m.r.c.tn, .int .i64 m.r.c.tt, .int .i64 m.r.c.tk, .int .i64 m.r.c.sh, ta, tb, .bool m.r.c.cm, .int .i64 m.r.sq, .int .i64 m.r.d0, .int .i64 m.r.d1, .int .i64 m.r.d2, .int .i64 m.r.d3, .int .i64 m.r.d4, .int .i64 m.r.d5, .int .i64 m.r.d6, .bool m.r.kp] 39)).push (.cells #[.int .i64 c.k, .int .i64 c.tc, .int .i64 c.tn, .int .i64 c.tt, .int .i64 c.tk, .int .i64 c.sh, va, vb, .bool c.cm, .int .i64 r.c.k, .int .i64 r.c.tc, .int .i64 r.c.tn, .int .i64 r.c.tt, .int .i64 r.c.tk, .int .i64 r.c.sh, ua, ub, .bool r.c.cm, .int .i64 m.r.c.k, .int .i64 m.r.c.tc, .int .i64 m.r.c.tn, .int .i64 m.r.c.tt, .int .i64 m.r.c.tk, .int .i64 m.r.c.sh, ta, tb, .bool m.r.c.cm] 33))
  have Y := Lib.hid (((Cel.new1 w (.cells #[.int .i64 c.k, .int .i64 c.tc, .int .i64 c.tn, .int .i64 c.tt, .int .i64 c.tk, .int .i64 c.sh, va, vb, .bool c.cm] 33) [.int .i64 r.ir, .int .i64 r.is, .int .i64 r.st, .int .i64 r.pn, .int .i64 r.pr, .int .i64 r.bn, .int .i64 r.br, .int .i64 r.c.k, .int .i64 r.c.tc, .int .i64 r.c.tn, .int .i64 r.c.tt, .int .i64 r.c.tk, .int .i64 r.c.sh, ua, ub, .bool r.c.cm, .int .i64 r.sq, .int .i64 r.d0, .int .i64 r.d1, .int .i64 r.d2, .int .i64 r.d3, .int .i64 r.d4, .int .i64 r.d5, .int .i64 r.d6, .bool r.kp] 37).push (.cells #[.int .i64 m.k, .int .i64 m.fr, .int .i64 m.to, .int .i64 m.bn, .int .i64 m.br, .int .i64 m.r.ir, .int .i64 m.r.is, .int .i64 m.r.st, .int .i64 m.r.pn, .int .i64 m.r.pr, .int .i64 m.r.bn, .int .i64 m.r.br, .int .i64 m.r.c.k, .int .i64 m.r.c.tc, .int .i64 m.r.c.tn, .int .i64 m.r.c.tt, .int .i64 m.r.c.tk, .int .i64 m.r.c.sh, ta, tb, .bool m.r.c.cm, .int .i64 m.r.sq, .int .i64 m.r.d0, .int .i64 m.r.d1, .int .i64 m.r.d2, .int .i64 m.r.d3, .int .i64 m.r.d4, .int .i64 m.r.d5, .int .i64 m.r.d6, .bool m.r.kp] 39)).push (.cells #[.int .i64 c.k, .int .i64 c.tc, .int .i64 c.tn, .int .i64 c.tt, .int .i64 c.tk, .int .i64 c.sh, va, vb, .bool c.cm, .int .i64 r.c.k, .int .i64 r.c.tc, .int .i64 r.c.tn, .int .i64 r.c.tt, .int .i64 r.c.tk, .int .i64 r.c.sh, ua, ub, .bool r.c.cm, .int .i64 m.r.c.k, .int .i64 m.r.c.tc, .int .i64 m.r.c.tn, .int .i64 m.r.c.tt, .int .i64 m.r.c.tk, .int .i64 m.r.c.sh, ta, tb, .bool m.r.c.cm] 33))
  have Z := Lib.hid ((show Cel (((w.alloc (.cells #[.int .i64 c.k, .int .i64 c.tc, .int .i64 c.tn, .int .i64 c.tt, .int .i64 c.tk, .int .i64 c.sh, va, vb, .bool c.cm] 33)).alloc (.cells #[.int .i64 r.ir, .int .i64 r.is, .int .i64 r.st, .int .i64 r.pn, .int .i64 r.pr, .int .i64 r.bn, .int .i64 r.br, .int .i64 r.c.k, .int .i64 r.c.tc, .int .i64 r.c.tn, .int .i64 r.c.tt, .int .i64 r.c.tk, .int .i64 r.c.sh, ua, ub, .bool r.c.cm, .int .i64 r.sq, .int .i64 r.d0, .int .i64 r.d1, .int .i64 r.d2, .int .i64 r.d3, .int .i64 r.d4, .int .i64 r.d5, .int .i64 r.d6, .bool r.kp] 37)).alloc (.cells #[.int .i64 m.k, .int .i64 m.fr, .int .i64 m.to, .int .i64 m.bn, .int .i64 m.br, .int .i64 m.r.ir, .int .i64 m.r.is, .int .i64 m.r.st, .int .i64 m.r.pn, .int .i64 m.r.pr, .int .i64 m.r.bn, .int .i64 m.r.br, .int .i64 m.r.c.k, .int .i64 m.r.c.tc, .int .i64 m.r.c.tn, .int .i64 m.r.c.tt, .int .i64 m.r.c.tk, .int .i64 m.r.c.sh, ta, tb, .bool m.r.c.cm, .int .i64 m.r.sq, .int .i64 m.r.d0, .int .i64 m.r.d1, .int .i64 m.r.d2, .int .i64 m.r.d3, .int .i64 m.r.d4, .int .i64 m.r.d5, .int .i64 m.r.d6, .bool m.r.kp] 39)) (w.heap.size + 1 + 1) [.int .i64 m.k, .int .i64 m.fr, .int .i64 m.to, .int .i64 m.bn, .int .i64 m.br, .int .i64 m.r.ir, .int .i64 m.r.is, .int .i64 m.r.st, .int .i64 m.r.pn, .int .i64 m.r.pr, .int .i64 m.r.bn, .int .i64 m.r.br, .int .i64 m.r.c.k, .int .i64 m.r.c.tc, .int .i64 m.r.c.tn, .int .i64 m.r.c.tt, .int .i64 m.r.c.tk, .int .i64 m.r.c.sh, ta, tb, .bool m.r.c.cm, .int .i64 m.r.sq, .int .i64 m.r.d0, .int .i64 m.r.d1, .int .i64 m.r.d2, .int .i64 m.r.d3, .int .i64 m.r.d4, .int .i64 m.r.d5, .int .i64 m.r.d6, .bool m.r.kp] by simpa using Cel.new ((w.alloc (.cells #[.int .i64 c.k, .int .i64 c.tc, .int .i64 c.tn, .int .i64 c.tt, .int .i64 c.tk, .int .i64 c.sh, va, vb, .bool c.cm] 33)).alloc (.cells #[.int .i64 r.ir, .int .i64 r.is, .int .i64 r.st, .int .i64 r.pn, .int .i64 r.pr, .int .i64 r.bn, .int .i64 r.br, .int .i64 r.c.k, .int .i64 r.c.tc, .int .i64 r.c.tn, .int .i64 r.c.tt, .int .i64 r.c.tk, .int .i64 r.c.sh, ua, ub, .bool r.c.cm, .int .i64 r.sq, .int .i64 r.d0, .int .i64 r.d1, .int .i64 r.d2, .int .i64 r.d3, .int .i64 r.d4, .int .i64 r.d5, .int .i64 r.d6, .bool r.kp] 37)) [.int .i64 m.k, .int .i64 m.fr, .int .i64 m.to, .int .i64 m.bn, .int .i64 m.br, .int .i64 m.r.ir, .int .i64 m.r.is, .int .i64 m.r.st, .int .i64 m.r.pn, .int .i64 m.r.pr, .int .i64 m.r.bn, .int .i64 m.r.br, .int .i64 m.r.c.k, .int .i64 m.r.c.tc, .int .i64 m.r.c.tn, .int .i64 m.r.c.tt, .int .i64 m.r.c.tk, .int .i64 m.r.c.sh, ta, tb, .bool m.r.c.cm, .int .i64 m.r.sq, .int .i64 m.r.d0, .int .i64 m.r.d1, .int .i64 m.r.d2, .int .i64 m.r.d3, .int .i64 m.r.d4, .int .i64 m.r.d5, .int .i64 m.r.d6, .bool m.r.kp] 39).push (.cells #[.int .i64 c.k, .int .i64 c.tc, .int .i64 c.tn, .int .i64 c.tt, .int .i64 c.tk, .int .i64 c.sh, va, vb, .bool c.cm, .int .i64 r.c.k, .int .i64 r.c.tc, .int .i64 r.c.tn, .int .i64 r.c.tt, .int .i64 r.c.tk, .int .i64 r.c.sh, ua, ub, .bool r.c.cm, .int .i64 m.r.c.k, .int .i64 m.r.c.tc, .int .i64 m.r.c.tn, .int .i64 m.r.c.tt, .int .i64 m.r.c.tk, .int .i64 m.r.c.sh, ta, tb, .bool m.r.c.cm] 33))
  have R := Lib.hid (h.below N3)
  have W := Lib.hid (h'.below N3)
  have S := Lib.hid (g.below N3)
  have V := Lib.hid (g'.below N3)
  have T := Lib.hid (k.below N3)
  have U := Lib.hid (k'.below N3)
  clear h h' g g' k k' N1 N2 N3
  have FG := Lib.hid (M.rightR_fits e2 G)
  have LR := Lib.hid (show (M.encR r).length ≤ 1000000 from by have := M.encR_max FG.out; omega)
  have q2 := V8.sameB_refl (M.encR r)
  have f0 : (M.modB c && (M.modB r.c && M.modB m.r.c)) = true := by rw [M.modB_iff.2 F, M.modB_iff.2 G, M.modB_iff.2 K]; rfl
  go_enter Try.func4, Try.ntmps4
  go_wp2_with (fail)
  refine (few_three (by simp) c r.c m.r.c R.out W.out S.out V.out T.out U.out).mono ?_
  rintro e w1 ⟨rfl, hb⟩
  replace X := Lib.hid (X.out.on hb)
  replace Y := Lib.hid (Y.out.on hb)
  replace Z := Lib.hid (Z.out.on hb)
  replace R := Lib.hid ((R.out.push _).below hb)
  replace W := Lib.hid ((W.out.push _).below hb)
  replace S := Lib.hid ((S.out.push _).below hb)
  replace V := Lib.hid ((V.out.push _).below hb)
  replace T := Lib.hid ((T.out.push _).below hb)
  replace U := Lib.hid ((U.out.push _).below hb)
  replace B := Lib.hid (below_on B.out hb)
  clear hb
  go_wp2_with
    (first
     | (with_reducible refine wpList_load_mid rfl 33 _ rfl w.heap.size 0 rfl _ _ X.out.whole Try.underlying33 rfl (by kernel_rfl) ?_)
     | (with_reducible refine wpList_load_mid rfl 37 _ rfl (w.heap.size + 1) 0 rfl _ _ Y.out.whole Try.underlying37 rfl (by kernel_rfl) ?_)
     | (with_reducible refine wpList_load_mid rfl 39 _ rfl (w.heap.size + 1 + 1) 0 rfl _ _ Z.out.whole Try.underlying39 rfl (by kernel_rfl) ?_)
     | ((with_reducible refine wpList_load_mid_g ?_ 33 _ rfl w.heap.size 0 rfl _ _ X.out.whole Try.underlying33 rfl (by kernel_rfl) ?_); rfl)
     | ((with_reducible refine wpList_load_mid_g ?_ 37 _ rfl (w.heap.size + 1) 0 rfl _ _ Y.out.whole Try.underlying37 rfl (by kernel_rfl) ?_); rfl)
     | ((with_reducible refine wpList_load_mid_g ?_ 39 _ rfl (w.heap.size + 1 + 1) 0 rfl _ _ Z.out.whole Try.underlying39 rfl (by kernel_rfl) ?_); rfl)
     | (go_at_call 18
        with_reducible refine (encF (encode_cmd c R.out W.out F) e1).mono ?_
        rintro e w9 ⟨Ac, kc, rfl, hb⟩
        replace X := Lib.hid (X.out.on hb)
        replace Y := Lib.hid (Y.out.on hb)
        replace Z := Lib.hid (Z.out.on hb)
        replace R := Lib.hid (R.out.below hb)
        replace W := Lib.hid (W.out.below hb)
        replace S := Lib.hid (S.out.below hb)
        replace V := Lib.hid (V.out.below hb)
        replace T := Lib.hid (T.out.below hb)
        replace U := Lib.hid (U.out.below hb)
        replace B := Lib.hid (below_on B.out hb)
        clear hb)
     | (go_at_call 18
        with_reducible refine (encT (encode_rec r S.out V.out G) e2).mono ?_
        rintro e w9 ⟨Ar, kr, rfl, ho, hb⟩
        replace X := Lib.hid (X.out.on hb)
        replace Y := Lib.hid (Y.out.on hb)
        replace Z := Lib.hid (Z.out.on hb)
        replace R := Lib.hid (R.out.below hb)
        replace W := Lib.hid (W.out.below hb)
        replace S := Lib.hid (S.out.below hb)
        replace V := Lib.hid (V.out.below hb)
        replace T := Lib.hid (T.out.below hb)
        replace U := Lib.hid (U.out.below hb)
        replace B := Lib.hid (below_on B.out hb)
        have OY := Lib.hid ho
        clear ho
        clear hb)
     | (go_at_call 18
        with_reducible refine (encF (encode_msg m T.out U.out K) e3).mono ?_
        rintro e w9 ⟨Am, km, rfl, hb⟩
        replace X := Lib.hid (X.out.on hb)
        replace Y := Lib.hid (Y.out.on hb)
        replace Z := Lib.hid (Z.out.on hb)
        replace R := Lib.hid (R.out.below hb)
        replace W := Lib.hid (W.out.below hb)
        replace S := Lib.hid (S.out.below hb)
        replace V := Lib.hid (V.out.below hb)
        replace T := Lib.hid (T.out.below hb)
        replace U := Lib.hid (U.out.below hb)
        replace B := Lib.hid (below_on B.out hb)
        replace OY := Lib.hid (OY.out.on hb)
        clear hb)
     | (go_at_call 19
        refine (drightC c R.out W.out F).mono ?_
        rintro e w9 ⟨rfl, hb⟩
        replace X := Lib.hid (X.out.on hb)
        replace Y := Lib.hid (Y.out.on hb)
        replace Z := Lib.hid (Z.out.on hb)
        replace R := Lib.hid (R.out.below hb)
        replace W := Lib.hid (W.out.below hb)
        replace S := Lib.hid (S.out.below hb)
        replace V := Lib.hid (V.out.below hb)
        replace T := Lib.hid (T.out.below hb)
        replace U := Lib.hid (U.out.below hb)
        replace B := Lib.hid (below_on B.out hb)
        replace OY := Lib.hid (OY.out.on hb)
        clear hb)
     | (go_at_call 13
        refine (dright_rec' r S.out V.out G).mono ?_
        rintro e w9 ⟨rfl, hb⟩
        replace X := Lib.hid (X.out.on hb)
        replace Y := Lib.hid (Y.out.on hb)
        replace Z := Lib.hid (Z.out.on hb)
        replace R := Lib.hid (R.out.below hb)
        replace W := Lib.hid (W.out.below hb)
        replace S := Lib.hid (S.out.below hb)
        replace V := Lib.hid (V.out.below hb)
        replace T := Lib.hid (T.out.below hb)
        replace U := Lib.hid (U.out.below hb)
        replace B := Lib.hid (below_on B.out hb)
        replace OY := Lib.hid (OY.out.on hb)
        clear hb)
     | (go_at_call 15
        refine (dright_msg' m T.out U.out K).mono ?_
        rintro e w9 ⟨rfl, hb⟩
        replace X := Lib.hid (X.out.on hb)
        replace Y := Lib.hid (Y.out.on hb)
        replace Z := Lib.hid (Z.out.on hb)
        replace R := Lib.hid (R.out.below hb)
        replace W := Lib.hid (W.out.below hb)
        replace S := Lib.hid (S.out.below hb)
        replace V := Lib.hid (V.out.below hb)
        replace T := Lib.hid (T.out.below hb)
        replace U := Lib.hid (U.out.below hb)
        replace B := Lib.hid (below_on B.out hb)
        replace OY := Lib.hid (OY.out.on hb)
        clear hb)
     | (go_at_call 22
        refine (refRecord_any r S.out V.out FG.out).mono ?_
        rintro e w9 ⟨vq, rfl, ho, hb⟩
        replace X := Lib.hid (X.out.on hb)
        replace Y := Lib.hid (Y.out.on hb)
        replace Z := Lib.hid (Z.out.on hb)
        replace R := Lib.hid (R.out.below hb)
        replace W := Lib.hid (W.out.below hb)
        replace S := Lib.hid (S.out.below hb)
        replace V := Lib.hid (V.out.below hb)
        replace T := Lib.hid (T.out.below hb)
        replace U := Lib.hid (U.out.below hb)
        replace B := Lib.hid (below_on B.out hb)
        replace OY := Lib.hid (OY.out.on hb)
        obtain ⟨Aq, kq, rfl, -⟩ := ho.slice
        have OQOY := Lib.hid ho
        clear ho
        clear hb)
     | (go_at_call 20
        with_reducible refine (same8_any OY.out.bts OQOY.out.bts LR.out).mono ?_
        rintro e w9 ⟨rfl, hb⟩
        replace X := Lib.hid (X.out.on hb)
        replace Y := Lib.hid (Y.out.on hb)
        replace Z := Lib.hid (Z.out.on hb)
        replace R := Lib.hid (R.out.below hb)
        replace W := Lib.hid (W.out.below hb)
        replace S := Lib.hid (S.out.below hb)
        replace V := Lib.hid (V.out.below hb)
        replace T := Lib.hid (T.out.below hb)
        replace U := Lib.hid (U.out.below hb)
        replace B := Lib.hid (below_on B.out hb)
        replace OY := Lib.hid (OY.out.on hb)
        clear hb)
     | (go_at_call 11
        refine (awake_any _).mono ?_
        rintro e w9 ⟨rfl, hb⟩
        replace B := Lib.hid (below_on B.out hb)
        clear hb))
  go_ret
  exact ⟨rfl, B.out⟩

set_option maxHeartbeats 16000000 in
set_option maxRecDepth 100000 in
theorem puts_fft (c : M.Cmd) (r : M.Rec) (m : M.Msg) {va vb ua ub ta tb : Value} (w : World) (h : Rds w va c.rs) (h' : Wrs w vb c.ws) (g : Rds w ua r.c.rs) (g' : Wrs w ub r.c.ws) (k : Rds w ta m.r.c.rs) (k' : Wrs w tb m.r.c.ws) (F : M.Mod c) (G : M.Mod r.c) (K : M.Mod m.r.c) (e1 : M.rightC c = false) (e2 : M.rightR r = false) (e3 : M.rightM m = true) : Calls Try.prog 4 #[.agg #[.int .i64 c.k, .int .i64 c.tc, .int .i64 c.tn, .int .i64 c.tt, .int .i64 c.tk, .int .i64 c.sh, va, vb, .bool c.cm], .agg #[.int .i64 r.ir, .int .i64 r.is, .int .i64 r.st, .int .i64 r.pn, .int .i64 r.pr, .int .i64 r.bn, .int .i64 r.br, .int .i64 r.c.k, .int .i64 r.c.tc, .int .i64 r.c.tn, .int .i64 r.c.tt, .int .i64 r.c.tk, .int .i64 r.c.sh, ua, ub, .bool r.c.cm, .int .i64 r.sq, .int .i64 r.d0, .int .i64 r.d1, .int .i64 r.d2, .int .i64 r.d3, .int .i64 r.d4, .int .i64 r.d5, .int .i64 r.d6, .bool r.kp], .agg #[.int .i64 m.k, .int .i64 m.fr, .int .i64 m.to, .int .i64 m.bn, .int .i64 m.br, .int .i64 m.r.ir, .int .i64 m.r.is, .int .i64 m.r.st, .int .i64 m.r.pn, .int .i64 m.r.pr, .int .i64 m.r.bn, .int .i64 m.r.br, .int .i64 m.r.c.k, .int .i64 m.r.c.tc, .int .i64 m.r.c.tn, .int .i64 m.r.c.tt, .int .i64 m.r.c.tk, .int .i64 m.r.c.sh, ta, tb, .bool m.r.c.cm, .int .i64 m.r.sq, .int .i64 m.r.d0, .int .i64 m.r.d1, .int .i64 m.r.d2, .int .i64 m.r.d3, .int .i64 m.r.d4, .int .i64 m.r.d5, .int .i64 m.r.d6, .bool m.r.kp]] w (Yes w) := by
  have N1 := below_new (o := .cells #[.int .i64 c.k, .int .i64 c.tc, .int .i64 c.tn, .int .i64 c.tt, .int .i64 c.tk, .int .i64 c.sh, va, vb, .bool c.cm] 33) (Below.refl w.heap.size w)
  have N2 := below_new (o := .cells #[.int .i64 r.ir, .int .i64 r.is, .int .i64 r.st, .int .i64 r.pn, .int .i64 r.pr, .int .i64 r.bn, .int .i64 r.br, .int .i64 r.c.k, .int .i64 r.c.tc, .int .i64 r.c.tn, .int .i64 r.c.tt, .int .i64 r.c.tk, .int .i64 r.c.sh, ua, ub, .bool r.c.cm, .int .i64 r.sq, .int .i64 r.d0, .int .i64 r.d1, .int .i64 r.d2, .int .i64 r.d3, .int .i64 r.d4, .int .i64 r.d5, .int .i64 r.d6, .bool r.kp] 37) N1
  have N3 := below_new (o := .cells #[.int .i64 m.k, .int .i64 m.fr, .int .i64 m.to, .int .i64 m.bn, .int .i64 m.br, .int .i64 m.r.ir, .int .i64 m.r.is, .int .i64 m.r.st, .int .i64 m.r.pn, .int .i64 m.r.pr, .int .i64 m.r.bn, .int .i64 m.r.br, .int .i64 m.r.c.k, .int .i64 m.r.c.tc, .int .i64 m.r.c.tn, .int .i64 m.r.c.tt, .int .i64 m.r.c.tk, .int .i64 m.r.c.sh, ta, tb, .bool m.r.c.cm, .int .i64 m.r.sq, .int .i64 m.r.d0, .int .i64 m.r.d1, .int .i64 m.r.d2, .int .i64 m.r.d3, .int .i64 m.r.d4, .int .i64 m.r.d5, .int .i64 m.r.d6, .bool m.r.kp] 39) N2
  have B := Lib.hid (below_new (o := .cells #[.int .i64 c.k, .int .i64 c.tc, .int .i64 c.tn, .int .i64 c.tt, .int .i64 c.tk, .int .i64 c.sh, va, vb, .bool c.cm, .int .i64 r.c.k, .int .i64 r.c.tc, .int .i64 r.c.tn, .int .i64 r.c.tt, .int .i64 r.c.tk, .int .i64 r.c.sh, ua, ub, .bool r.c.cm, .int .i64 m.r.c.k, .int .i64 m.r.c.tc, .int .i64 m.r.c.tn, .int .i64 m.r.c.tt, .int .i64 m.r.c.tk, .int .i64 m.r.c.sh, ta, tb, .bool m.r.c.cm] 33) N3)
  have X := Lib.hid ((((Cel.new w [.int .i64 c.k, .int .i64 c.tc, .int .i64 c.tn, .int .i64 c.tt, .int .i64 c.tk, .int .i64 c.sh, va, vb, .bool c.cm] 33).push (.cells #[.int .i64 r.ir, .int .i64 r.is, .int .i64 r.st, .int .i64 r.pn, .int .i64 r.pr, .int .i64 r.bn, .int .i64 r.br, .int .i64 r.c.k, .int .i64 r.c.tc, .int .i64 r.c.tn, .int .i64 r.c.tt, .int .i64 r.c.tk, .int .i64 r.c.sh, ua, ub, .bool r.c.cm, .int .i64 r.sq, .int .i64 r.d0, .int .i64 r.d1, .int .i64 r.d2, .int .i64 r.d3, .int .i64 r.d4, .int .i64 r.d5, .int .i64 r.d6, .bool r.kp] 37)).push (.cells #[.int .i64 m.k, .int .i64 m.fr, .int .i64 m.to, .int .i64 m.bn, .int .i64 m.br, .int .i64 m.r.ir, .int .i64 m.r.is, .int .i64 m.r.st, .int .i64 m.r.pn, .int .i64 m.r.pr, .int .i64 m.r.bn, .int .i64 m.r.br, .int .i64 m.r.c.k, .int .i64 m.r.c.tc, .int .i64 m.r.c.tn, .int .i64 m.r.c.tt, .int .i64 m.r.c.tk, .int .i64 m.r.c.sh, ta, tb, .bool m.r.c.cm, .int .i64 m.r.sq, .int .i64 m.r.d0, .int .i64 m.r.d1, .int .i64 m.r.d2, .int .i64 m.r.d3, .int .i64 m.r.d4, .int .i64 m.r.d5, .int .i64 m.r.d6, .bool m.r.kp] 39)).push (.cells #[.int .i64 c.k, .int .i64 c.tc, .int .i64 c.tn, .int .i64 c.tt, .int .i64 c.tk, .int .i64 c.sh, va, vb, .bool c.cm, .int .i64 r.c.k, .int .i64 r.c.tc, .int .i64 r.c.tn, .int .i64 r.c.tt, .int .i64 r.c.tk, .int .i64 r.c.sh, ua, ub, .bool r.c.cm, .int .i64 m.r.c.k, .int .i64 m.r.c.tc, .int .i64 m.r.c.tn, .int .i64 m.r.c.tt, .int .i64 m.r.c.tk, .int .i64 m.r.c.sh, ta, tb, .bool m.r.c.cm] 33))
  have Y := Lib.hid (((Cel.new1 w (.cells #[.int .i64 c.k, .int .i64 c.tc, .int .i64 c.tn, .int .i64 c.tt, .int .i64 c.tk, .int .i64 c.sh, va, vb, .bool c.cm] 33) [.int .i64 r.ir, .int .i64 r.is, .int .i64 r.st, .int .i64 r.pn, .int .i64 r.pr, .int .i64 r.bn, .int .i64 r.br, .int .i64 r.c.k, .int .i64 r.c.tc, .int .i64 r.c.tn, .int .i64 r.c.tt, .int .i64 r.c.tk, .int .i64 r.c.sh, ua, ub, .bool r.c.cm, .int .i64 r.sq, .int .i64 r.d0, .int .i64 r.d1, .int .i64 r.d2, .int .i64 r.d3, .int .i64 r.d4, .int .i64 r.d5, .int .i64 r.d6, .bool r.kp] 37).push (.cells #[.int .i64 m.k, .int .i64 m.fr, .int .i64 m.to, .int .i64 m.bn, .int .i64 m.br, .int .i64 m.r.ir, .int .i64 m.r.is, .int .i64 m.r.st, .int .i64 m.r.pn, .int .i64 m.r.pr, .int .i64 m.r.bn, .int .i64 m.r.br, .int .i64 m.r.c.k, .int .i64 m.r.c.tc, .int .i64 m.r.c.tn, .int .i64 m.r.c.tt, .int .i64 m.r.c.tk, .int .i64 m.r.c.sh, ta, tb, .bool m.r.c.cm, .int .i64 m.r.sq, .int .i64 m.r.d0, .int .i64 m.r.d1, .int .i64 m.r.d2, .int .i64 m.r.d3, .int .i64 m.r.d4, .int .i64 m.r.d5, .int .i64 m.r.d6, .bool m.r.kp] 39)).push (.cells #[.int .i64 c.k, .int .i64 c.tc, .int .i64 c.tn, .int .i64 c.tt, .int .i64 c.tk, .int .i64 c.sh, va, vb, .bool c.cm, .int .i64 r.c.k, .int .i64 r.c.tc, .int .i64 r.c.tn, .int .i64 r.c.tt, .int .i64 r.c.tk, .int .i64 r.c.sh, ua, ub, .bool r.c.cm, .int .i64 m.r.c.k, .int .i64 m.r.c.tc, .int .i64 m.r.c.tn, .int .i64 m.r.c.tt, .int .i64 m.r.c.tk, .int .i64 m.r.c.sh, ta, tb, .bool m.r.c.cm] 33))
  have Z := Lib.hid ((show Cel (((w.alloc (.cells #[.int .i64 c.k, .int .i64 c.tc, .int .i64 c.tn, .int .i64 c.tt, .int .i64 c.tk, .int .i64 c.sh, va, vb, .bool c.cm] 33)).alloc (.cells #[.int .i64 r.ir, .int .i64 r.is, .int .i64 r.st, .int .i64 r.pn, .int .i64 r.pr, .int .i64 r.bn, .int .i64 r.br, .int .i64 r.c.k, .int .i64 r.c.tc, .int .i64 r.c.tn, .int .i64 r.c.tt, .int .i64 r.c.tk, .int .i64 r.c.sh, ua, ub, .bool r.c.cm, .int .i64 r.sq, .int .i64 r.d0, .int .i64 r.d1, .int .i64 r.d2, .int .i64 r.d3, .int .i64 r.d4, .int .i64 r.d5, .int .i64 r.d6, .bool r.kp] 37)).alloc (.cells #[.int .i64 m.k, .int .i64 m.fr, .int .i64 m.to, .int .i64 m.bn, .int .i64 m.br, .int .i64 m.r.ir, .int .i64 m.r.is, .int .i64 m.r.st, .int .i64 m.r.pn, .int .i64 m.r.pr, .int .i64 m.r.bn, .int .i64 m.r.br, .int .i64 m.r.c.k, .int .i64 m.r.c.tc, .int .i64 m.r.c.tn, .int .i64 m.r.c.tt, .int .i64 m.r.c.tk, .int .i64 m.r.c.sh, ta, tb, .bool m.r.c.cm, .int .i64 m.r.sq, .int .i64 m.r.d0, .int .i64 m.r.d1, .int .i64 m.r.d2, .int .i64 m.r.d3, .int .i64 m.r.d4, .int .i64 m.r.d5, .int .i64 m.r.d6, .bool m.r.kp] 39)) (w.heap.size + 1 + 1) [.int .i64 m.k, .int .i64 m.fr, .int .i64 m.to, .int .i64 m.bn, .int .i64 m.br, .int .i64 m.r.ir, .int .i64 m.r.is, .int .i64 m.r.st, .int .i64 m.r.pn, .int .i64 m.r.pr, .int .i64 m.r.bn, .int .i64 m.r.br, .int .i64 m.r.c.k, .int .i64 m.r.c.tc, .int .i64 m.r.c.tn, .int .i64 m.r.c.tt, .int .i64 m.r.c.tk, .int .i64 m.r.c.sh, ta, tb, .bool m.r.c.cm, .int .i64 m.r.sq, .int .i64 m.r.d0, .int .i64 m.r.d1, .int .i64 m.r.d2, .int .i64 m.r.d3, .int .i64 m.r.d4, .int .i64 m.r.d5, .int .i64 m.r.d6, .bool m.r.kp] by simpa using Cel.new ((w.alloc (.cells #[.int .i64 c.k, .int .i64 c.tc, .int .i64 c.tn, .int .i64 c.tt, .int .i64 c.tk, .int .i64 c.sh, va, vb, .bool c.cm] 33)).alloc (.cells #[.int .i64 r.ir, .int .i64 r.is, .int .i64 r.st, .int .i64 r.pn, .int .i64 r.pr, .int .i64 r.bn, .int .i64 r.br, .int .i64 r.c.k, .int .i64 r.c.tc, .int .i64 r.c.tn, .int .i64 r.c.tt, .int .i64 r.c.tk, .int .i64 r.c.sh, ua, ub, .bool r.c.cm, .int .i64 r.sq, .int .i64 r.d0, .int .i64 r.d1, .int .i64 r.d2, .int .i64 r.d3, .int .i64 r.d4, .int .i64 r.d5, .int .i64 r.d6, .bool r.kp] 37)) [.int .i64 m.k, .int .i64 m.fr, .int .i64 m.to, .int .i64 m.bn, .int .i64 m.br, .int .i64 m.r.ir, .int .i64 m.r.is, .int .i64 m.r.st, .int .i64 m.r.pn, .int .i64 m.r.pr, .int .i64 m.r.bn, .int .i64 m.r.br, .int .i64 m.r.c.k, .int .i64 m.r.c.tc, .int .i64 m.r.c.tn, .int .i64 m.r.c.tt, .int .i64 m.r.c.tk, .int .i64 m.r.c.sh, ta, tb, .bool m.r.c.cm, .int .i64 m.r.sq, .int .i64 m.r.d0, .int .i64 m.r.d1, .int .i64 m.r.d2, .int .i64 m.r.d3, .int .i64 m.r.d4, .int .i64 m.r.d5, .int .i64 m.r.d6, .bool m.r.kp] 39).push (.cells #[.int .i64 c.k, .int .i64 c.tc, .int .i64 c.tn, .int .i64 c.tt, .int .i64 c.tk, .int .i64 c.sh, va, vb, .bool c.cm, .int .i64 r.c.k, .int .i64 r.c.tc, .int .i64 r.c.tn, .int .i64 r.c.tt, .int .i64 r.c.tk, .int .i64 r.c.sh, ua, ub, .bool r.c.cm, .int .i64 m.r.c.k, .int .i64 m.r.c.tc, .int .i64 m.r.c.tn, .int .i64 m.r.c.tt, .int .i64 m.r.c.tk, .int .i64 m.r.c.sh, ta, tb, .bool m.r.c.cm] 33))
  have R := Lib.hid (h.below N3)
  have W := Lib.hid (h'.below N3)
  have S := Lib.hid (g.below N3)
  have V := Lib.hid (g'.below N3)
  have T := Lib.hid (k.below N3)
  have U := Lib.hid (k'.below N3)
  clear h h' g g' k k' N1 N2 N3
  have FK := Lib.hid (M.rightM_fits e3 K)
  have LM := Lib.hid (show (M.encM m).length ≤ 1000000 from by have := M.encM_len (M.right_tiny (M.rightR_cmd (M.rightM_rec e3))); omega)
  have q3 := V8.sameB_refl (M.encM m)
  have f0 : (M.modB c && (M.modB r.c && M.modB m.r.c)) = true := by rw [M.modB_iff.2 F, M.modB_iff.2 G, M.modB_iff.2 K]; rfl
  go_enter Try.func4, Try.ntmps4
  go_wp2_with (fail)
  refine (few_three (by simp) c r.c m.r.c R.out W.out S.out V.out T.out U.out).mono ?_
  rintro e w1 ⟨rfl, hb⟩
  replace X := Lib.hid (X.out.on hb)
  replace Y := Lib.hid (Y.out.on hb)
  replace Z := Lib.hid (Z.out.on hb)
  replace R := Lib.hid ((R.out.push _).below hb)
  replace W := Lib.hid ((W.out.push _).below hb)
  replace S := Lib.hid ((S.out.push _).below hb)
  replace V := Lib.hid ((V.out.push _).below hb)
  replace T := Lib.hid ((T.out.push _).below hb)
  replace U := Lib.hid ((U.out.push _).below hb)
  replace B := Lib.hid (below_on B.out hb)
  clear hb
  go_wp2_with
    (first
     | (with_reducible refine wpList_load_mid rfl 33 _ rfl w.heap.size 0 rfl _ _ X.out.whole Try.underlying33 rfl (by kernel_rfl) ?_)
     | (with_reducible refine wpList_load_mid rfl 37 _ rfl (w.heap.size + 1) 0 rfl _ _ Y.out.whole Try.underlying37 rfl (by kernel_rfl) ?_)
     | (with_reducible refine wpList_load_mid rfl 39 _ rfl (w.heap.size + 1 + 1) 0 rfl _ _ Z.out.whole Try.underlying39 rfl (by kernel_rfl) ?_)
     | ((with_reducible refine wpList_load_mid_g ?_ 33 _ rfl w.heap.size 0 rfl _ _ X.out.whole Try.underlying33 rfl (by kernel_rfl) ?_); rfl)
     | ((with_reducible refine wpList_load_mid_g ?_ 37 _ rfl (w.heap.size + 1) 0 rfl _ _ Y.out.whole Try.underlying37 rfl (by kernel_rfl) ?_); rfl)
     | ((with_reducible refine wpList_load_mid_g ?_ 39 _ rfl (w.heap.size + 1 + 1) 0 rfl _ _ Z.out.whole Try.underlying39 rfl (by kernel_rfl) ?_); rfl)
     | (go_at_call 18
        with_reducible refine (encF (encode_cmd c R.out W.out F) e1).mono ?_
        rintro e w9 ⟨Ac, kc, rfl, hb⟩
        replace X := Lib.hid (X.out.on hb)
        replace Y := Lib.hid (Y.out.on hb)
        replace Z := Lib.hid (Z.out.on hb)
        replace R := Lib.hid (R.out.below hb)
        replace W := Lib.hid (W.out.below hb)
        replace S := Lib.hid (S.out.below hb)
        replace V := Lib.hid (V.out.below hb)
        replace T := Lib.hid (T.out.below hb)
        replace U := Lib.hid (U.out.below hb)
        replace B := Lib.hid (below_on B.out hb)
        clear hb)
     | (go_at_call 18
        with_reducible refine (encF (encode_rec r S.out V.out G) e2).mono ?_
        rintro e w9 ⟨Ar, kr, rfl, hb⟩
        replace X := Lib.hid (X.out.on hb)
        replace Y := Lib.hid (Y.out.on hb)
        replace Z := Lib.hid (Z.out.on hb)
        replace R := Lib.hid (R.out.below hb)
        replace W := Lib.hid (W.out.below hb)
        replace S := Lib.hid (S.out.below hb)
        replace V := Lib.hid (V.out.below hb)
        replace T := Lib.hid (T.out.below hb)
        replace U := Lib.hid (U.out.below hb)
        replace B := Lib.hid (below_on B.out hb)
        clear hb)
     | (go_at_call 18
        with_reducible refine (encT (encode_msg m T.out U.out K) e3).mono ?_
        rintro e w9 ⟨Am, km, rfl, ho, hb⟩
        replace X := Lib.hid (X.out.on hb)
        replace Y := Lib.hid (Y.out.on hb)
        replace Z := Lib.hid (Z.out.on hb)
        replace R := Lib.hid (R.out.below hb)
        replace W := Lib.hid (W.out.below hb)
        replace S := Lib.hid (S.out.below hb)
        replace V := Lib.hid (V.out.below hb)
        replace T := Lib.hid (T.out.below hb)
        replace U := Lib.hid (U.out.below hb)
        replace B := Lib.hid (below_on B.out hb)
        have OZ := Lib.hid ho
        clear ho
        clear hb)
     | (go_at_call 19
        refine (drightC c R.out W.out F).mono ?_
        rintro e w9 ⟨rfl, hb⟩
        replace X := Lib.hid (X.out.on hb)
        replace Y := Lib.hid (Y.out.on hb)
        replace Z := Lib.hid (Z.out.on hb)
        replace R := Lib.hid (R.out.below hb)
        replace W := Lib.hid (W.out.below hb)
        replace S := Lib.hid (S.out.below hb)
        replace V := Lib.hid (V.out.below hb)
        replace T := Lib.hid (T.out.below hb)
        replace U := Lib.hid (U.out.below hb)
        replace B := Lib.hid (below_on B.out hb)
        replace OZ := Lib.hid (OZ.out.on hb)
        clear hb)
     | (go_at_call 13
        refine (dright_rec' r S.out V.out G).mono ?_
        rintro e w9 ⟨rfl, hb⟩
        replace X := Lib.hid (X.out.on hb)
        replace Y := Lib.hid (Y.out.on hb)
        replace Z := Lib.hid (Z.out.on hb)
        replace R := Lib.hid (R.out.below hb)
        replace W := Lib.hid (W.out.below hb)
        replace S := Lib.hid (S.out.below hb)
        replace V := Lib.hid (V.out.below hb)
        replace T := Lib.hid (T.out.below hb)
        replace U := Lib.hid (U.out.below hb)
        replace B := Lib.hid (below_on B.out hb)
        replace OZ := Lib.hid (OZ.out.on hb)
        clear hb)
     | (go_at_call 15
        refine (dright_msg' m T.out U.out K).mono ?_
        rintro e w9 ⟨rfl, hb⟩
        replace X := Lib.hid (X.out.on hb)
        replace Y := Lib.hid (Y.out.on hb)
        replace Z := Lib.hid (Z.out.on hb)
        replace R := Lib.hid (R.out.below hb)
        replace W := Lib.hid (W.out.below hb)
        replace S := Lib.hid (S.out.below hb)
        replace V := Lib.hid (V.out.below hb)
        replace T := Lib.hid (T.out.below hb)
        replace U := Lib.hid (U.out.below hb)
        replace B := Lib.hid (below_on B.out hb)
        replace OZ := Lib.hid (OZ.out.on hb)
        clear hb)
     | (go_at_call 23
        refine (refMessage_any m T.out U.out FK.out).mono ?_
        rintro e w9 ⟨vq, rfl, ho, hb⟩
        replace X := Lib.hid (X.out.on hb)
        replace Y := Lib.hid (Y.out.on hb)
        replace Z := Lib.hid (Z.out.on hb)
        replace R := Lib.hid (R.out.below hb)
        replace W := Lib.hid (W.out.below hb)
        replace S := Lib.hid (S.out.below hb)
        replace V := Lib.hid (V.out.below hb)
        replace T := Lib.hid (T.out.below hb)
        replace U := Lib.hid (U.out.below hb)
        replace B := Lib.hid (below_on B.out hb)
        replace OZ := Lib.hid (OZ.out.on hb)
        obtain ⟨Aq, kq, rfl, -⟩ := ho.slice
        have OQOZ := Lib.hid ho
        clear ho
        clear hb)
     | (go_at_call 20
        with_reducible refine (same8_any OZ.out.bts OQOZ.out.bts LM.out).mono ?_
        rintro e w9 ⟨rfl, hb⟩
        replace X := Lib.hid (X.out.on hb)
        replace Y := Lib.hid (Y.out.on hb)
        replace Z := Lib.hid (Z.out.on hb)
        replace R := Lib.hid (R.out.below hb)
        replace W := Lib.hid (W.out.below hb)
        replace S := Lib.hid (S.out.below hb)
        replace V := Lib.hid (V.out.below hb)
        replace T := Lib.hid (T.out.below hb)
        replace U := Lib.hid (U.out.below hb)
        replace B := Lib.hid (below_on B.out hb)
        replace OZ := Lib.hid (OZ.out.on hb)
        clear hb)
     | (go_at_call 11
        refine (awake_any _).mono ?_
        rintro e w9 ⟨rfl, hb⟩
        replace B := Lib.hid (below_on B.out hb)
        clear hb))
  go_ret
  exact ⟨rfl, B.out⟩

set_option maxHeartbeats 16000000 in
set_option maxRecDepth 100000 in
theorem puts_fff (c : M.Cmd) (r : M.Rec) (m : M.Msg) {va vb ua ub ta tb : Value} (w : World) (h : Rds w va c.rs) (h' : Wrs w vb c.ws) (g : Rds w ua r.c.rs) (g' : Wrs w ub r.c.ws) (k : Rds w ta m.r.c.rs) (k' : Wrs w tb m.r.c.ws) (F : M.Mod c) (G : M.Mod r.c) (K : M.Mod m.r.c) (e1 : M.rightC c = false) (e2 : M.rightR r = false) (e3 : M.rightM m = false) : Calls Try.prog 4 #[.agg #[.int .i64 c.k, .int .i64 c.tc, .int .i64 c.tn, .int .i64 c.tt, .int .i64 c.tk, .int .i64 c.sh, va, vb, .bool c.cm], .agg #[.int .i64 r.ir, .int .i64 r.is, .int .i64 r.st, .int .i64 r.pn, .int .i64 r.pr, .int .i64 r.bn, .int .i64 r.br, .int .i64 r.c.k, .int .i64 r.c.tc, .int .i64 r.c.tn, .int .i64 r.c.tt, .int .i64 r.c.tk, .int .i64 r.c.sh, ua, ub, .bool r.c.cm, .int .i64 r.sq, .int .i64 r.d0, .int .i64 r.d1, .int .i64 r.d2, .int .i64 r.d3, .int .i64 r.d4, .int .i64 r.d5, .int .i64 r.d6, .bool r.kp], .agg #[.int .i64 m.k, .int .i64 m.fr, .int .i64 m.to, .int .i64 m.bn, .int .i64 m.br, .int .i64 m.r.ir, .int .i64 m.r.is, .int .i64 m.r.st, .int .i64 m.r.pn, .int .i64 m.r.pr, .int .i64 m.r.bn, .int .i64 m.r.br, .int .i64 m.r.c.k, .int .i64 m.r.c.tc, .int .i64 m.r.c.tn, .int .i64 m.r.c.tt, .int .i64 m.r.c.tk, .int .i64 m.r.c.sh, ta, tb, .bool m.r.c.cm, .int .i64 m.r.sq, .int .i64 m.r.d0, .int .i64 m.r.d1, .int .i64 m.r.d2, .int .i64 m.r.d3, .int .i64 m.r.d4, .int .i64 m.r.d5, .int .i64 m.r.d6, .bool m.r.kp]] w (Yes w) := by
  have N1 := below_new (o := .cells #[.int .i64 c.k, .int .i64 c.tc, .int .i64 c.tn, .int .i64 c.tt, .int .i64 c.tk, .int .i64 c.sh, va, vb, .bool c.cm] 33) (Below.refl w.heap.size w)
  have N2 := below_new (o := .cells #[.int .i64 r.ir, .int .i64 r.is, .int .i64 r.st, .int .i64 r.pn, .int .i64 r.pr, .int .i64 r.bn, .int .i64 r.br, .int .i64 r.c.k, .int .i64 r.c.tc, .int .i64 r.c.tn, .int .i64 r.c.tt, .int .i64 r.c.tk, .int .i64 r.c.sh, ua, ub, .bool r.c.cm, .int .i64 r.sq, .int .i64 r.d0, .int .i64 r.d1, .int .i64 r.d2, .int .i64 r.d3, .int .i64 r.d4, .int .i64 r.d5, .int .i64 r.d6, .bool r.kp] 37) N1
  have N3 := below_new (o := .cells #[.int .i64 m.k, .int .i64 m.fr, .int .i64 m.to, .int .i64 m.bn, .int .i64 m.br, .int .i64 m.r.ir, .int .i64 m.r.is, .int .i64 m.r.st, .int .i64 m.r.pn, .int .i64 m.r.pr, .int .i64 m.r.bn, .int .i64 m.r.br, .int .i64 m.r.c.k, .int .i64 m.r.c.tc, .int .i64 m.r.c.tn, .int .i64 m.r.c.tt, .int .i64 m.r.c.tk, .int .i64 m.r.c.sh, ta, tb, .bool m.r.c.cm, .int .i64 m.r.sq, .int .i64 m.r.d0, .int .i64 m.r.d1, .int .i64 m.r.d2, .int .i64 m.r.d3, .int .i64 m.r.d4, .int .i64 m.r.d5, .int .i64 m.r.d6, .bool m.r.kp] 39) N2
  have B := Lib.hid (below_new (o := .cells #[.int .i64 c.k, .int .i64 c.tc, .int .i64 c.tn, .int .i64 c.tt, .int .i64 c.tk, .int .i64 c.sh, va, vb, .bool c.cm, .int .i64 r.c.k, .int .i64 r.c.tc, .int .i64 r.c.tn, .int .i64 r.c.tt, .int .i64 r.c.tk, .int .i64 r.c.sh, ua, ub, .bool r.c.cm, .int .i64 m.r.c.k, .int .i64 m.r.c.tc, .int .i64 m.r.c.tn, .int .i64 m.r.c.tt, .int .i64 m.r.c.tk, .int .i64 m.r.c.sh, ta, tb, .bool m.r.c.cm] 33) N3)
  have X := Lib.hid ((((Cel.new w [.int .i64 c.k, .int .i64 c.tc, .int .i64 c.tn, .int .i64 c.tt, .int .i64 c.tk, .int .i64 c.sh, va, vb, .bool c.cm] 33).push (.cells #[.int .i64 r.ir, .int .i64 r.is, .int .i64 r.st, .int .i64 r.pn, .int .i64 r.pr, .int .i64 r.bn, .int .i64 r.br, .int .i64 r.c.k, .int .i64 r.c.tc, .int .i64 r.c.tn, .int .i64 r.c.tt, .int .i64 r.c.tk, .int .i64 r.c.sh, ua, ub, .bool r.c.cm, .int .i64 r.sq, .int .i64 r.d0, .int .i64 r.d1, .int .i64 r.d2, .int .i64 r.d3, .int .i64 r.d4, .int .i64 r.d5, .int .i64 r.d6, .bool r.kp] 37)).push (.cells #[.int .i64 m.k, .int .i64 m.fr, .int .i64 m.to, .int .i64 m.bn, .int .i64 m.br, .int .i64 m.r.ir, .int .i64 m.r.is, .int .i64 m.r.st, .int .i64 m.r.pn, .int .i64 m.r.pr, .int .i64 m.r.bn, .int .i64 m.r.br, .int .i64 m.r.c.k, .int .i64 m.r.c.tc, .int .i64 m.r.c.tn, .int .i64 m.r.c.tt, .int .i64 m.r.c.tk, .int .i64 m.r.c.sh, ta, tb, .bool m.r.c.cm, .int .i64 m.r.sq, .int .i64 m.r.d0, .int .i64 m.r.d1, .int .i64 m.r.d2, .int .i64 m.r.d3, .int .i64 m.r.d4, .int .i64 m.r.d5, .int .i64 m.r.d6, .bool m.r.kp] 39)).push (.cells #[.int .i64 c.k, .int .i64 c.tc, .int .i64 c.tn, .int .i64 c.tt, .int .i64 c.tk, .int .i64 c.sh, va, vb, .bool c.cm, .int .i64 r.c.k, .int .i64 r.c.tc, .int .i64 r.c.tn, .int .i64 r.c.tt, .int .i64 r.c.tk, .int .i64 r.c.sh, ua, ub, .bool r.c.cm, .int .i64 m.r.c.k, .int .i64 m.r.c.tc, .int .i64 m.r.c.tn, .int .i64 m.r.c.tt, .int .i64 m.r.c.tk, .int .i64 m.r.c.sh, ta, tb, .bool m.r.c.cm] 33))
  have Y := Lib.hid (((Cel.new1 w (.cells #[.int .i64 c.k, .int .i64 c.tc, .int .i64 c.tn, .int .i64 c.tt, .int .i64 c.tk, .int .i64 c.sh, va, vb, .bool c.cm] 33) [.int .i64 r.ir, .int .i64 r.is, .int .i64 r.st, .int .i64 r.pn, .int .i64 r.pr, .int .i64 r.bn, .int .i64 r.br, .int .i64 r.c.k, .int .i64 r.c.tc, .int .i64 r.c.tn, .int .i64 r.c.tt, .int .i64 r.c.tk, .int .i64 r.c.sh, ua, ub, .bool r.c.cm, .int .i64 r.sq, .int .i64 r.d0, .int .i64 r.d1, .int .i64 r.d2, .int .i64 r.d3, .int .i64 r.d4, .int .i64 r.d5, .int .i64 r.d6, .bool r.kp] 37).push (.cells #[.int .i64 m.k, .int .i64 m.fr, .int .i64 m.to, .int .i64 m.bn, .int .i64 m.br, .int .i64 m.r.ir, .int .i64 m.r.is, .int .i64 m.r.st, .int .i64 m.r.pn, .int .i64 m.r.pr, .int .i64 m.r.bn, .int .i64 m.r.br, .int .i64 m.r.c.k, .int .i64 m.r.c.tc, .int .i64 m.r.c.tn, .int .i64 m.r.c.tt, .int .i64 m.r.c.tk, .int .i64 m.r.c.sh, ta, tb, .bool m.r.c.cm, .int .i64 m.r.sq, .int .i64 m.r.d0, .int .i64 m.r.d1, .int .i64 m.r.d2, .int .i64 m.r.d3, .int .i64 m.r.d4, .int .i64 m.r.d5, .int .i64 m.r.d6, .bool m.r.kp] 39)).push (.cells #[.int .i64 c.k, .int .i64 c.tc, .int .i64 c.tn, .int .i64 c.tt, .int .i64 c.tk, .int .i64 c.sh, va, vb, .bool c.cm, .int .i64 r.c.k, .int .i64 r.c.tc, .int .i64 r.c.tn, .int .i64 r.c.tt, .int .i64 r.c.tk, .int .i64 r.c.sh, ua, ub, .bool r.c.cm, .int .i64 m.r.c.k, .int .i64 m.r.c.tc, .int .i64 m.r.c.tn, .int .i64 m.r.c.tt, .int .i64 m.r.c.tk, .int .i64 m.r.c.sh, ta, tb, .bool m.r.c.cm] 33))
  have Z := Lib.hid ((show Cel (((w.alloc (.cells #[.int .i64 c.k, .int .i64 c.tc, .int .i64 c.tn, .int .i64 c.tt, .int .i64 c.tk, .int .i64 c.sh, va, vb, .bool c.cm] 33)).alloc (.cells #[.int .i64 r.ir, .int .i64 r.is, .int .i64 r.st, .int .i64 r.pn, .int .i64 r.pr, .int .i64 r.bn, .int .i64 r.br, .int .i64 r.c.k, .int .i64 r.c.tc, .int .i64 r.c.tn, .int .i64 r.c.tt, .int .i64 r.c.tk, .int .i64 r.c.sh, ua, ub, .bool r.c.cm, .int .i64 r.sq, .int .i64 r.d0, .int .i64 r.d1, .int .i64 r.d2, .int .i64 r.d3, .int .i64 r.d4, .int .i64 r.d5, .int .i64 r.d6, .bool r.kp] 37)).alloc (.cells #[.int .i64 m.k, .int .i64 m.fr, .int .i64 m.to, .int .i64 m.bn, .int .i64 m.br, .int .i64 m.r.ir, .int .i64 m.r.is, .int .i64 m.r.st, .int .i64 m.r.pn, .int .i64 m.r.pr, .int .i64 m.r.bn, .int .i64 m.r.br, .int .i64 m.r.c.k, .int .i64 m.r.c.tc, .int .i64 m.r.c.tn, .int .i64 m.r.c.tt, .int .i64 m.r.c.tk, .int .i64 m.r.c.sh, ta, tb, .bool m.r.c.cm, .int .i64 m.r.sq, .int .i64 m.r.d0, .int .i64 m.r.d1, .int .i64 m.r.d2, .int .i64 m.r.d3, .int .i64 m.r.d4, .int .i64 m.r.d5, .int .i64 m.r.d6, .bool m.r.kp] 39)) (w.heap.size + 1 + 1) [.int .i64 m.k, .int .i64 m.fr, .int .i64 m.to, .int .i64 m.bn, .int .i64 m.br, .int .i64 m.r.ir, .int .i64 m.r.is, .int .i64 m.r.st, .int .i64 m.r.pn, .int .i64 m.r.pr, .int .i64 m.r.bn, .int .i64 m.r.br, .int .i64 m.r.c.k, .int .i64 m.r.c.tc, .int .i64 m.r.c.tn, .int .i64 m.r.c.tt, .int .i64 m.r.c.tk, .int .i64 m.r.c.sh, ta, tb, .bool m.r.c.cm, .int .i64 m.r.sq, .int .i64 m.r.d0, .int .i64 m.r.d1, .int .i64 m.r.d2, .int .i64 m.r.d3, .int .i64 m.r.d4, .int .i64 m.r.d5, .int .i64 m.r.d6, .bool m.r.kp] by simpa using Cel.new ((w.alloc (.cells #[.int .i64 c.k, .int .i64 c.tc, .int .i64 c.tn, .int .i64 c.tt, .int .i64 c.tk, .int .i64 c.sh, va, vb, .bool c.cm] 33)).alloc (.cells #[.int .i64 r.ir, .int .i64 r.is, .int .i64 r.st, .int .i64 r.pn, .int .i64 r.pr, .int .i64 r.bn, .int .i64 r.br, .int .i64 r.c.k, .int .i64 r.c.tc, .int .i64 r.c.tn, .int .i64 r.c.tt, .int .i64 r.c.tk, .int .i64 r.c.sh, ua, ub, .bool r.c.cm, .int .i64 r.sq, .int .i64 r.d0, .int .i64 r.d1, .int .i64 r.d2, .int .i64 r.d3, .int .i64 r.d4, .int .i64 r.d5, .int .i64 r.d6, .bool r.kp] 37)) [.int .i64 m.k, .int .i64 m.fr, .int .i64 m.to, .int .i64 m.bn, .int .i64 m.br, .int .i64 m.r.ir, .int .i64 m.r.is, .int .i64 m.r.st, .int .i64 m.r.pn, .int .i64 m.r.pr, .int .i64 m.r.bn, .int .i64 m.r.br, .int .i64 m.r.c.k, .int .i64 m.r.c.tc, .int .i64 m.r.c.tn, .int .i64 m.r.c.tt, .int .i64 m.r.c.tk, .int .i64 m.r.c.sh, ta, tb, .bool m.r.c.cm, .int .i64 m.r.sq, .int .i64 m.r.d0, .int .i64 m.r.d1, .int .i64 m.r.d2, .int .i64 m.r.d3, .int .i64 m.r.d4, .int .i64 m.r.d5, .int .i64 m.r.d6, .bool m.r.kp] 39).push (.cells #[.int .i64 c.k, .int .i64 c.tc, .int .i64 c.tn, .int .i64 c.tt, .int .i64 c.tk, .int .i64 c.sh, va, vb, .bool c.cm, .int .i64 r.c.k, .int .i64 r.c.tc, .int .i64 r.c.tn, .int .i64 r.c.tt, .int .i64 r.c.tk, .int .i64 r.c.sh, ua, ub, .bool r.c.cm, .int .i64 m.r.c.k, .int .i64 m.r.c.tc, .int .i64 m.r.c.tn, .int .i64 m.r.c.tt, .int .i64 m.r.c.tk, .int .i64 m.r.c.sh, ta, tb, .bool m.r.c.cm] 33))
  have R := Lib.hid (h.below N3)
  have W := Lib.hid (h'.below N3)
  have S := Lib.hid (g.below N3)
  have V := Lib.hid (g'.below N3)
  have T := Lib.hid (k.below N3)
  have U := Lib.hid (k'.below N3)
  clear h h' g g' k k' N1 N2 N3
  have f0 : (M.modB c && (M.modB r.c && M.modB m.r.c)) = true := by rw [M.modB_iff.2 F, M.modB_iff.2 G, M.modB_iff.2 K]; rfl
  go_enter Try.func4, Try.ntmps4
  go_wp2_with (fail)
  refine (few_three (by simp) c r.c m.r.c R.out W.out S.out V.out T.out U.out).mono ?_
  rintro e w1 ⟨rfl, hb⟩
  replace X := Lib.hid (X.out.on hb)
  replace Y := Lib.hid (Y.out.on hb)
  replace Z := Lib.hid (Z.out.on hb)
  replace R := Lib.hid ((R.out.push _).below hb)
  replace W := Lib.hid ((W.out.push _).below hb)
  replace S := Lib.hid ((S.out.push _).below hb)
  replace V := Lib.hid ((V.out.push _).below hb)
  replace T := Lib.hid ((T.out.push _).below hb)
  replace U := Lib.hid ((U.out.push _).below hb)
  replace B := Lib.hid (below_on B.out hb)
  clear hb
  go_wp2_with
    (first
     | (with_reducible refine wpList_load_mid rfl 33 _ rfl w.heap.size 0 rfl _ _ X.out.whole Try.underlying33 rfl (by kernel_rfl) ?_)
     | (with_reducible refine wpList_load_mid rfl 37 _ rfl (w.heap.size + 1) 0 rfl _ _ Y.out.whole Try.underlying37 rfl (by kernel_rfl) ?_)
     | (with_reducible refine wpList_load_mid rfl 39 _ rfl (w.heap.size + 1 + 1) 0 rfl _ _ Z.out.whole Try.underlying39 rfl (by kernel_rfl) ?_)
     | ((with_reducible refine wpList_load_mid_g ?_ 33 _ rfl w.heap.size 0 rfl _ _ X.out.whole Try.underlying33 rfl (by kernel_rfl) ?_); rfl)
     | ((with_reducible refine wpList_load_mid_g ?_ 37 _ rfl (w.heap.size + 1) 0 rfl _ _ Y.out.whole Try.underlying37 rfl (by kernel_rfl) ?_); rfl)
     | ((with_reducible refine wpList_load_mid_g ?_ 39 _ rfl (w.heap.size + 1 + 1) 0 rfl _ _ Z.out.whole Try.underlying39 rfl (by kernel_rfl) ?_); rfl)
     | (go_at_call 18
        with_reducible refine (encF (encode_cmd c R.out W.out F) e1).mono ?_
        rintro e w9 ⟨Ac, kc, rfl, hb⟩
        replace X := Lib.hid (X.out.on hb)
        replace Y := Lib.hid (Y.out.on hb)
        replace Z := Lib.hid (Z.out.on hb)
        replace R := Lib.hid (R.out.below hb)
        replace W := Lib.hid (W.out.below hb)
        replace S := Lib.hid (S.out.below hb)
        replace V := Lib.hid (V.out.below hb)
        replace T := Lib.hid (T.out.below hb)
        replace U := Lib.hid (U.out.below hb)
        replace B := Lib.hid (below_on B.out hb)
        clear hb)
     | (go_at_call 18
        with_reducible refine (encF (encode_rec r S.out V.out G) e2).mono ?_
        rintro e w9 ⟨Ar, kr, rfl, hb⟩
        replace X := Lib.hid (X.out.on hb)
        replace Y := Lib.hid (Y.out.on hb)
        replace Z := Lib.hid (Z.out.on hb)
        replace R := Lib.hid (R.out.below hb)
        replace W := Lib.hid (W.out.below hb)
        replace S := Lib.hid (S.out.below hb)
        replace V := Lib.hid (V.out.below hb)
        replace T := Lib.hid (T.out.below hb)
        replace U := Lib.hid (U.out.below hb)
        replace B := Lib.hid (below_on B.out hb)
        clear hb)
     | (go_at_call 18
        with_reducible refine (encF (encode_msg m T.out U.out K) e3).mono ?_
        rintro e w9 ⟨Am, km, rfl, hb⟩
        replace X := Lib.hid (X.out.on hb)
        replace Y := Lib.hid (Y.out.on hb)
        replace Z := Lib.hid (Z.out.on hb)
        replace R := Lib.hid (R.out.below hb)
        replace W := Lib.hid (W.out.below hb)
        replace S := Lib.hid (S.out.below hb)
        replace V := Lib.hid (V.out.below hb)
        replace T := Lib.hid (T.out.below hb)
        replace U := Lib.hid (U.out.below hb)
        replace B := Lib.hid (below_on B.out hb)
        clear hb)
     | (go_at_call 19
        refine (drightC c R.out W.out F).mono ?_
        rintro e w9 ⟨rfl, hb⟩
        replace X := Lib.hid (X.out.on hb)
        replace Y := Lib.hid (Y.out.on hb)
        replace Z := Lib.hid (Z.out.on hb)
        replace R := Lib.hid (R.out.below hb)
        replace W := Lib.hid (W.out.below hb)
        replace S := Lib.hid (S.out.below hb)
        replace V := Lib.hid (V.out.below hb)
        replace T := Lib.hid (T.out.below hb)
        replace U := Lib.hid (U.out.below hb)
        replace B := Lib.hid (below_on B.out hb)
        clear hb)
     | (go_at_call 13
        refine (dright_rec' r S.out V.out G).mono ?_
        rintro e w9 ⟨rfl, hb⟩
        replace X := Lib.hid (X.out.on hb)
        replace Y := Lib.hid (Y.out.on hb)
        replace Z := Lib.hid (Z.out.on hb)
        replace R := Lib.hid (R.out.below hb)
        replace W := Lib.hid (W.out.below hb)
        replace S := Lib.hid (S.out.below hb)
        replace V := Lib.hid (V.out.below hb)
        replace T := Lib.hid (T.out.below hb)
        replace U := Lib.hid (U.out.below hb)
        replace B := Lib.hid (below_on B.out hb)
        clear hb)
     | (go_at_call 15
        refine (dright_msg' m T.out U.out K).mono ?_
        rintro e w9 ⟨rfl, hb⟩
        replace X := Lib.hid (X.out.on hb)
        replace Y := Lib.hid (Y.out.on hb)
        replace Z := Lib.hid (Z.out.on hb)
        replace R := Lib.hid (R.out.below hb)
        replace W := Lib.hid (W.out.below hb)
        replace S := Lib.hid (S.out.below hb)
        replace V := Lib.hid (V.out.below hb)
        replace T := Lib.hid (T.out.below hb)
        replace U := Lib.hid (U.out.below hb)
        replace B := Lib.hid (below_on B.out hb)
        clear hb)
     | (go_at_call 11
        refine (awake_any _).mono ?_
        rintro e w9 ⟨rfl, hb⟩
        replace B := Lib.hid (below_on B.out hb)
        clear hb))
  go_ret
  exact ⟨rfl, B.out⟩

set_option maxHeartbeats 4000000 in
set_option maxRecDepth 100000 in
theorem puts_law (c : M.Cmd) (r : M.Rec) (m : M.Msg) {va vb ua ub ta tb : Value} (w : World) (h : Rds w va c.rs) (h' : Wrs w vb c.ws) (g : Rds w ua r.c.rs) (g' : Wrs w ub r.c.ws) (k : Rds w ta m.r.c.rs) (k' : Wrs w tb m.r.c.ws) : Calls Try.prog 4 #[.agg #[.int .i64 c.k, .int .i64 c.tc, .int .i64 c.tn, .int .i64 c.tt, .int .i64 c.tk, .int .i64 c.sh, va, vb, .bool c.cm], .agg #[.int .i64 r.ir, .int .i64 r.is, .int .i64 r.st, .int .i64 r.pn, .int .i64 r.pr, .int .i64 r.bn, .int .i64 r.br, .int .i64 r.c.k, .int .i64 r.c.tc, .int .i64 r.c.tn, .int .i64 r.c.tt, .int .i64 r.c.tk, .int .i64 r.c.sh, ua, ub, .bool r.c.cm, .int .i64 r.sq, .int .i64 r.d0, .int .i64 r.d1, .int .i64 r.d2, .int .i64 r.d3, .int .i64 r.d4, .int .i64 r.d5, .int .i64 r.d6, .bool r.kp], .agg #[.int .i64 m.k, .int .i64 m.fr, .int .i64 m.to, .int .i64 m.bn, .int .i64 m.br, .int .i64 m.r.ir, .int .i64 m.r.is, .int .i64 m.r.st, .int .i64 m.r.pn, .int .i64 m.r.pr, .int .i64 m.r.bn, .int .i64 m.r.br, .int .i64 m.r.c.k, .int .i64 m.r.c.tc, .int .i64 m.r.c.tn, .int .i64 m.r.c.tt, .int .i64 m.r.c.tk, .int .i64 m.r.c.sh, ta, tb, .bool m.r.c.cm, .int .i64 m.r.sq, .int .i64 m.r.d0, .int .i64 m.r.d1, .int .i64 m.r.d2, .int .i64 m.r.d3, .int .i64 m.r.d4, .int .i64 m.r.d5, .int .i64 m.r.d6, .bool m.r.kp]] w (Yes w) := by
  rcases two (M.modB c && (M.modB r.c && M.modB m.r.c)) with f | f
  · have F := M.modB_iff.1 (Bool.and_eq_true_iff.1 f).1
    have G := M.modB_iff.1 (Bool.and_eq_true_iff.1 (Bool.and_eq_true_iff.1 f).2).1
    have K := M.modB_iff.1 (Bool.and_eq_true_iff.1 (Bool.and_eq_true_iff.1 f).2).2
    rcases two (M.rightC c) with e1 | e1 <;> rcases two (M.rightR r) with e2 | e2 <;> rcases two (M.rightM m) with e3 | e3
    · exact puts_ttt c r m w h h' g g' k k' F G K e1 e2 e3
    · exact puts_ttf c r m w h h' g g' k k' F G K e1 e2 e3
    · exact puts_tft c r m w h h' g g' k k' F G K e1 e2 e3
    · exact puts_tff c r m w h h' g g' k k' F G K e1 e2 e3
    · exact puts_ftt c r m w h h' g g' k k' F G K e1 e2 e3
    · exact puts_ftf c r m w h h' g g' k k' F G K e1 e2 e3
    · exact puts_fft c r m w h h' g g' k k' F G K e1 e2 e3
    · exact puts_fff c r m w h h' g g' k k' F G K e1 e2 e3
  · have N1 := below_new (o := .cells #[.int .i64 c.k, .int .i64 c.tc, .int .i64 c.tn, .int .i64 c.tt, .int .i64 c.tk, .int .i64 c.sh, va, vb, .bool c.cm] 33) (Below.refl w.heap.size w)
    have N2 := below_new (o := .cells #[.int .i64 r.ir, .int .i64 r.is, .int .i64 r.st, .int .i64 r.pn, .int .i64 r.pr, .int .i64 r.bn, .int .i64 r.br, .int .i64 r.c.k, .int .i64 r.c.tc, .int .i64 r.c.tn, .int .i64 r.c.tt, .int .i64 r.c.tk, .int .i64 r.c.sh, ua, ub, .bool r.c.cm, .int .i64 r.sq, .int .i64 r.d0, .int .i64 r.d1, .int .i64 r.d2, .int .i64 r.d3, .int .i64 r.d4, .int .i64 r.d5, .int .i64 r.d6, .bool r.kp] 37) N1
    have N3 := below_new (o := .cells #[.int .i64 m.k, .int .i64 m.fr, .int .i64 m.to, .int .i64 m.bn, .int .i64 m.br, .int .i64 m.r.ir, .int .i64 m.r.is, .int .i64 m.r.st, .int .i64 m.r.pn, .int .i64 m.r.pr, .int .i64 m.r.bn, .int .i64 m.r.br, .int .i64 m.r.c.k, .int .i64 m.r.c.tc, .int .i64 m.r.c.tn, .int .i64 m.r.c.tt, .int .i64 m.r.c.tk, .int .i64 m.r.c.sh, ta, tb, .bool m.r.c.cm, .int .i64 m.r.sq, .int .i64 m.r.d0, .int .i64 m.r.d1, .int .i64 m.r.d2, .int .i64 m.r.d3, .int .i64 m.r.d4, .int .i64 m.r.d5, .int .i64 m.r.d6, .bool m.r.kp] 39) N2
    have B := Lib.hid (below_new (o := .cells #[.int .i64 c.k, .int .i64 c.tc, .int .i64 c.tn, .int .i64 c.tt, .int .i64 c.tk, .int .i64 c.sh, va, vb, .bool c.cm, .int .i64 r.c.k, .int .i64 r.c.tc, .int .i64 r.c.tn, .int .i64 r.c.tt, .int .i64 r.c.tk, .int .i64 r.c.sh, ua, ub, .bool r.c.cm, .int .i64 m.r.c.k, .int .i64 m.r.c.tc, .int .i64 m.r.c.tn, .int .i64 m.r.c.tt, .int .i64 m.r.c.tk, .int .i64 m.r.c.sh, ta, tb, .bool m.r.c.cm] 33) N3)
    have X := Lib.hid ((((Cel.new w [.int .i64 c.k, .int .i64 c.tc, .int .i64 c.tn, .int .i64 c.tt, .int .i64 c.tk, .int .i64 c.sh, va, vb, .bool c.cm] 33).push (.cells #[.int .i64 r.ir, .int .i64 r.is, .int .i64 r.st, .int .i64 r.pn, .int .i64 r.pr, .int .i64 r.bn, .int .i64 r.br, .int .i64 r.c.k, .int .i64 r.c.tc, .int .i64 r.c.tn, .int .i64 r.c.tt, .int .i64 r.c.tk, .int .i64 r.c.sh, ua, ub, .bool r.c.cm, .int .i64 r.sq, .int .i64 r.d0, .int .i64 r.d1, .int .i64 r.d2, .int .i64 r.d3, .int .i64 r.d4, .int .i64 r.d5, .int .i64 r.d6, .bool r.kp] 37)).push (.cells #[.int .i64 m.k, .int .i64 m.fr, .int .i64 m.to, .int .i64 m.bn, .int .i64 m.br, .int .i64 m.r.ir, .int .i64 m.r.is, .int .i64 m.r.st, .int .i64 m.r.pn, .int .i64 m.r.pr, .int .i64 m.r.bn, .int .i64 m.r.br, .int .i64 m.r.c.k, .int .i64 m.r.c.tc, .int .i64 m.r.c.tn, .int .i64 m.r.c.tt, .int .i64 m.r.c.tk, .int .i64 m.r.c.sh, ta, tb, .bool m.r.c.cm, .int .i64 m.r.sq, .int .i64 m.r.d0, .int .i64 m.r.d1, .int .i64 m.r.d2, .int .i64 m.r.d3, .int .i64 m.r.d4, .int .i64 m.r.d5, .int .i64 m.r.d6, .bool m.r.kp] 39)).push (.cells #[.int .i64 c.k, .int .i64 c.tc, .int .i64 c.tn, .int .i64 c.tt, .int .i64 c.tk, .int .i64 c.sh, va, vb, .bool c.cm, .int .i64 r.c.k, .int .i64 r.c.tc, .int .i64 r.c.tn, .int .i64 r.c.tt, .int .i64 r.c.tk, .int .i64 r.c.sh, ua, ub, .bool r.c.cm, .int .i64 m.r.c.k, .int .i64 m.r.c.tc, .int .i64 m.r.c.tn, .int .i64 m.r.c.tt, .int .i64 m.r.c.tk, .int .i64 m.r.c.sh, ta, tb, .bool m.r.c.cm] 33))
    have Y := Lib.hid (((Cel.new1 w (.cells #[.int .i64 c.k, .int .i64 c.tc, .int .i64 c.tn, .int .i64 c.tt, .int .i64 c.tk, .int .i64 c.sh, va, vb, .bool c.cm] 33) [.int .i64 r.ir, .int .i64 r.is, .int .i64 r.st, .int .i64 r.pn, .int .i64 r.pr, .int .i64 r.bn, .int .i64 r.br, .int .i64 r.c.k, .int .i64 r.c.tc, .int .i64 r.c.tn, .int .i64 r.c.tt, .int .i64 r.c.tk, .int .i64 r.c.sh, ua, ub, .bool r.c.cm, .int .i64 r.sq, .int .i64 r.d0, .int .i64 r.d1, .int .i64 r.d2, .int .i64 r.d3, .int .i64 r.d4, .int .i64 r.d5, .int .i64 r.d6, .bool r.kp] 37).push (.cells #[.int .i64 m.k, .int .i64 m.fr, .int .i64 m.to, .int .i64 m.bn, .int .i64 m.br, .int .i64 m.r.ir, .int .i64 m.r.is, .int .i64 m.r.st, .int .i64 m.r.pn, .int .i64 m.r.pr, .int .i64 m.r.bn, .int .i64 m.r.br, .int .i64 m.r.c.k, .int .i64 m.r.c.tc, .int .i64 m.r.c.tn, .int .i64 m.r.c.tt, .int .i64 m.r.c.tk, .int .i64 m.r.c.sh, ta, tb, .bool m.r.c.cm, .int .i64 m.r.sq, .int .i64 m.r.d0, .int .i64 m.r.d1, .int .i64 m.r.d2, .int .i64 m.r.d3, .int .i64 m.r.d4, .int .i64 m.r.d5, .int .i64 m.r.d6, .bool m.r.kp] 39)).push (.cells #[.int .i64 c.k, .int .i64 c.tc, .int .i64 c.tn, .int .i64 c.tt, .int .i64 c.tk, .int .i64 c.sh, va, vb, .bool c.cm, .int .i64 r.c.k, .int .i64 r.c.tc, .int .i64 r.c.tn, .int .i64 r.c.tt, .int .i64 r.c.tk, .int .i64 r.c.sh, ua, ub, .bool r.c.cm, .int .i64 m.r.c.k, .int .i64 m.r.c.tc, .int .i64 m.r.c.tn, .int .i64 m.r.c.tt, .int .i64 m.r.c.tk, .int .i64 m.r.c.sh, ta, tb, .bool m.r.c.cm] 33))
    have Z := Lib.hid ((show Cel (((w.alloc (.cells #[.int .i64 c.k, .int .i64 c.tc, .int .i64 c.tn, .int .i64 c.tt, .int .i64 c.tk, .int .i64 c.sh, va, vb, .bool c.cm] 33)).alloc (.cells #[.int .i64 r.ir, .int .i64 r.is, .int .i64 r.st, .int .i64 r.pn, .int .i64 r.pr, .int .i64 r.bn, .int .i64 r.br, .int .i64 r.c.k, .int .i64 r.c.tc, .int .i64 r.c.tn, .int .i64 r.c.tt, .int .i64 r.c.tk, .int .i64 r.c.sh, ua, ub, .bool r.c.cm, .int .i64 r.sq, .int .i64 r.d0, .int .i64 r.d1, .int .i64 r.d2, .int .i64 r.d3, .int .i64 r.d4, .int .i64 r.d5, .int .i64 r.d6, .bool r.kp] 37)).alloc (.cells #[.int .i64 m.k, .int .i64 m.fr, .int .i64 m.to, .int .i64 m.bn, .int .i64 m.br, .int .i64 m.r.ir, .int .i64 m.r.is, .int .i64 m.r.st, .int .i64 m.r.pn, .int .i64 m.r.pr, .int .i64 m.r.bn, .int .i64 m.r.br, .int .i64 m.r.c.k, .int .i64 m.r.c.tc, .int .i64 m.r.c.tn, .int .i64 m.r.c.tt, .int .i64 m.r.c.tk, .int .i64 m.r.c.sh, ta, tb, .bool m.r.c.cm, .int .i64 m.r.sq, .int .i64 m.r.d0, .int .i64 m.r.d1, .int .i64 m.r.d2, .int .i64 m.r.d3, .int .i64 m.r.d4, .int .i64 m.r.d5, .int .i64 m.r.d6, .bool m.r.kp] 39)) (w.heap.size + 1 + 1) [.int .i64 m.k, .int .i64 m.fr, .int .i64 m.to, .int .i64 m.bn, .int .i64 m.br, .int .i64 m.r.ir, .int .i64 m.r.is, .int .i64 m.r.st, .int .i64 m.r.pn, .int .i64 m.r.pr, .int .i64 m.r.bn, .int .i64 m.r.br, .int .i64 m.r.c.k, .int .i64 m.r.c.tc, .int .i64 m.r.c.tn, .int .i64 m.r.c.tt, .int .i64 m.r.c.tk, .int .i64 m.r.c.sh, ta, tb, .bool m.r.c.cm, .int .i64 m.r.sq, .int .i64 m.r.d0, .int .i64 m.r.d1, .int .i64 m.r.d2, .int .i64 m.r.d3, .int .i64 m.r.d4, .int .i64 m.r.d5, .int .i64 m.r.d6, .bool m.r.kp] by simpa using Cel.new ((w.alloc (.cells #[.int .i64 c.k, .int .i64 c.tc, .int .i64 c.tn, .int .i64 c.tt, .int .i64 c.tk, .int .i64 c.sh, va, vb, .bool c.cm] 33)).alloc (.cells #[.int .i64 r.ir, .int .i64 r.is, .int .i64 r.st, .int .i64 r.pn, .int .i64 r.pr, .int .i64 r.bn, .int .i64 r.br, .int .i64 r.c.k, .int .i64 r.c.tc, .int .i64 r.c.tn, .int .i64 r.c.tt, .int .i64 r.c.tk, .int .i64 r.c.sh, ua, ub, .bool r.c.cm, .int .i64 r.sq, .int .i64 r.d0, .int .i64 r.d1, .int .i64 r.d2, .int .i64 r.d3, .int .i64 r.d4, .int .i64 r.d5, .int .i64 r.d6, .bool r.kp] 37)) [.int .i64 m.k, .int .i64 m.fr, .int .i64 m.to, .int .i64 m.bn, .int .i64 m.br, .int .i64 m.r.ir, .int .i64 m.r.is, .int .i64 m.r.st, .int .i64 m.r.pn, .int .i64 m.r.pr, .int .i64 m.r.bn, .int .i64 m.r.br, .int .i64 m.r.c.k, .int .i64 m.r.c.tc, .int .i64 m.r.c.tn, .int .i64 m.r.c.tt, .int .i64 m.r.c.tk, .int .i64 m.r.c.sh, ta, tb, .bool m.r.c.cm, .int .i64 m.r.sq, .int .i64 m.r.d0, .int .i64 m.r.d1, .int .i64 m.r.d2, .int .i64 m.r.d3, .int .i64 m.r.d4, .int .i64 m.r.d5, .int .i64 m.r.d6, .bool m.r.kp] 39).push (.cells #[.int .i64 c.k, .int .i64 c.tc, .int .i64 c.tn, .int .i64 c.tt, .int .i64 c.tk, .int .i64 c.sh, va, vb, .bool c.cm, .int .i64 r.c.k, .int .i64 r.c.tc, .int .i64 r.c.tn, .int .i64 r.c.tt, .int .i64 r.c.tk, .int .i64 r.c.sh, ua, ub, .bool r.c.cm, .int .i64 m.r.c.k, .int .i64 m.r.c.tc, .int .i64 m.r.c.tn, .int .i64 m.r.c.tt, .int .i64 m.r.c.tk, .int .i64 m.r.c.sh, ta, tb, .bool m.r.c.cm] 33))
    have R := Lib.hid (h.below N3)
    have W := Lib.hid (h'.below N3)
    have S := Lib.hid (g.below N3)
    have V := Lib.hid (g'.below N3)
    have T := Lib.hid (k.below N3)
    have U := Lib.hid (k'.below N3)
    clear h h' g g' k k' N1 N2 N3
    go_enter Try.func4, Try.ntmps4
    go_wp2_with (fail)
    refine (few_three (by simp) c r.c m.r.c R.out W.out S.out V.out T.out U.out).mono ?_
    rintro e w1 ⟨rfl, hb⟩
    have B1 := Lib.hid (below_on B.out hb)
    clear hb
    go_wp2_with (fail)
    refine (awake_any _).mono ?_
    rintro e w2 ⟨rfl, hb⟩
    have B2 := Lib.hid (below_on B1.out hb)
    clear hb
    go_wp2
    go_ret
    exact ⟨rfl, B2.out⟩
end Go.Proofs.Ytagngbdlpdilnaa
