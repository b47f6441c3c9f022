/- The walk of WireBack; no conditions. -/
import Derived.Test.YtagngbdlpdilnaaLen
import Derived.Test.YtagngbdlpdilnaaLawA
import Derived.Test.YtagngbdlpdilnaaTold
namespace Go.Proofs.Ytagngbdlpdilnaa
open Go.ChangeShapes Go.WideShapes Go.ChangeAt Go.RowKit

theorem sml_c {c : M.Cmd} (h : M.rightC c = true) (F : M.Mod c) : P.Sml c := have T := M.right_tiny h; ⟨M.right_fits h F, T.rl, T.wl, T.rs, T.ws⟩
theorem sml_r {r : M.Rec} (h : M.rightR r = true) (F : M.Mod r.c) : P.smlV (.inr (.inl r)) := ⟨M.rightR_fits h F, sml_c (M.rightR_cmd h) F⟩
theorem sml_m {m : M.Msg} (h : M.rightM m = true) (F : M.Mod m.r.c) : P.smlV (.inr (.inr m)) := ⟨M.rightM_fits h F, sml_c (M.rightR_cmd (M.rightM_rec h)) F⟩
theorem encY {ok : Bool} {v : Value} {xs : List UInt8} {w : World} (h : Calls Try.prog 18 #[v] w (Enc ok xs w)) (e0 : ok = true) : Calls Try.prog 18 #[v] w fun e w' => ∃ u, e = .returned (.tuple #[u, .int .i64 0]) ∧ Bts w' u xs ∧ Below w.heap.size w w' := by
  subst e0
  refine h.mono ?_
  rintro e w' ⟨v, rfl, ho, hb⟩
  have ho2 : Own w' w.heap.size v xs := ho
  exact ⟨v, rfl, ho2.bts, hb⟩
theorem encN1 {ok : Bool} {v : Value} {xs : List UInt8} {w : World} (h : Calls Try.prog 18 #[v] w (Enc ok xs w)) (e0 : ok = false) : Calls Try.prog 18 #[v] w fun e w' => ∃ u, e = .returned (.tuple #[u, .int .i64 1]) ∧ Below w.heap.size w w' := by
  subst e0
  refine h.mono ?_
  rintro e w' ⟨v, rfl, ho, hb⟩
  exact ⟨v, rfl, hb⟩
theorem calls_args {f : FuncId} {args args' : Array Value} {w : World} {R : Ending → World → Prop} (h : Calls Try.prog f args w R) (e : args' = args) : Calls Try.prog f args' w R := e ▸ h
theorem encAny {ok : Bool} {v : Value} {xs : List UInt8} {w : World} (h : Calls Try.prog 18 #[v] w (Enc ok xs w)) : Calls Try.prog 18 #[v] w fun e w' => ∃ u n, e = .returned (.tuple #[u, .int .i64 n]) ∧ Below w.heap.size w w' := by
  refine h.mono ?_
  rintro e w' ⟨v, rfl, ho, hb⟩
  exact ⟨v, _, rfl, hb⟩
set_option maxHeartbeats 16000000 in
set_option maxRecDepth 100000 in
theorem back_tt (c : M.Cmd) (m : M.Msg) {va vb ta tb : Value} (w : World) (h : Rds w va c.rs) (h' : Wrs w vb c.ws) (k : Rds w ta m.r.c.rs) (k' : Wrs w tb m.r.c.ws) (F : M.Mod c) (G : M.Mod m.r.c) (f : (M.modB c && M.modB m.r.c) = true) (e1 : M.rightC c = true) (e2 : M.rightM m = true) : Calls Try.prog 6 #[.agg #[.int .i64 c.k, .int .i64 c.tc, .int .i64 c.tn, .int .i64 c.tt, .int .i64 c.tk, .int .i64 c.sh, va, vb, .bool c.cm], .agg #[.int .i64 m.k, .int .i64 m.fr, .int .i64 m.to, .int .i64 m.bn, .int .i64 m.br, .int .i64 m.r.ir, .int .i64 m.r.is, .int .i64 m.r.st, .int .i64 m.r.pn, .int .i64 m.r.pr, .int .i64 m.r.bn, .int .i64 m.r.br, .int .i64 m.r.c.k, .int .i64 m.r.c.tc, .int .i64 m.r.c.tn, .int .i64 m.r.c.tt, .int .i64 m.r.c.tk, .int .i64 m.r.c.sh, ta, tb, .bool m.r.c.cm, .int .i64 m.r.sq, .int .i64 m.r.d0, .int .i64 m.r.d1, .int .i64 m.r.d2, .int .i64 m.r.d3, .int .i64 m.r.d4, .int .i64 m.r.d5, .int .i64 m.r.d6, .bool m.r.kp]] w (Yes w) := by
  have N1 := below_new (o := .cells #[.int .i64 c.k, .int .i64 c.tc, .int .i64 c.tn, .int .i64 c.tt, .int .i64 c.tk, .int .i64 c.sh, va, vb, .bool c.cm] 33) (Below.refl w.heap.size w)
  have N2 := below_new (o := .cells #[.int .i64 m.k, .int .i64 m.fr, .int .i64 m.to, .int .i64 m.bn, .int .i64 m.br, .int .i64 m.r.ir, .int .i64 m.r.is, .int .i64 m.r.st, .int .i64 m.r.pn, .int .i64 m.r.pr, .int .i64 m.r.bn, .int .i64 m.r.br, .int .i64 m.r.c.k, .int .i64 m.r.c.tc, .int .i64 m.r.c.tn, .int .i64 m.r.c.tt, .int .i64 m.r.c.tk, .int .i64 m.r.c.sh, ta, tb, .bool m.r.c.cm, .int .i64 m.r.sq, .int .i64 m.r.d0, .int .i64 m.r.d1, .int .i64 m.r.d2, .int .i64 m.r.d3, .int .i64 m.r.d4, .int .i64 m.r.d5, .int .i64 m.r.d6, .bool m.r.kp] 39) N1
  have B := Lib.hid (below_new (o := .cells #[.int .i64 c.k, .int .i64 c.tc, .int .i64 c.tn, .int .i64 c.tt, .int .i64 c.tk, .int .i64 c.sh, va, vb, .bool c.cm, .int .i64 m.r.c.k, .int .i64 m.r.c.tc, .int .i64 m.r.c.tn, .int .i64 m.r.c.tt, .int .i64 m.r.c.tk, .int .i64 m.r.c.sh, ta, tb, .bool m.r.c.cm] 33) N2)
  have X := Lib.hid (((Cel.new w [.int .i64 c.k, .int .i64 c.tc, .int .i64 c.tn, .int .i64 c.tt, .int .i64 c.tk, .int .i64 c.sh, va, vb, .bool c.cm] 33).push (.cells #[.int .i64 m.k, .int .i64 m.fr, .int .i64 m.to, .int .i64 m.bn, .int .i64 m.br, .int .i64 m.r.ir, .int .i64 m.r.is, .int .i64 m.r.st, .int .i64 m.r.pn, .int .i64 m.r.pr, .int .i64 m.r.bn, .int .i64 m.r.br, .int .i64 m.r.c.k, .int .i64 m.r.c.tc, .int .i64 m.r.c.tn, .int .i64 m.r.c.tt, .int .i64 m.r.c.tk, .int .i64 m.r.c.sh, ta, tb, .bool m.r.c.cm, .int .i64 m.r.sq, .int .i64 m.r.d0, .int .i64 m.r.d1, .int .i64 m.r.d2, .int .i64 m.r.d3, .int .i64 m.r.d4, .int .i64 m.r.d5, .int .i64 m.r.d6, .bool m.r.kp] 39)).push (.cells #[.int .i64 c.k, .int .i64 c.tc, .int .i64 c.tn, .int .i64 c.tt, .int .i64 c.tk, .int .i64 c.sh, va, vb, .bool c.cm, .int .i64 m.r.c.k, .int .i64 m.r.c.tc, .int .i64 m.r.c.tn, .int .i64 m.r.c.tt, .int .i64 m.r.c.tk, .int .i64 m.r.c.sh, ta, tb, .bool m.r.c.cm] 33))
  have Z := Lib.hid ((Cel.new1 w (.cells #[.int .i64 c.k, .int .i64 c.tc, .int .i64 c.tn, .int .i64 c.tt, .int .i64 c.tk, .int .i64 c.sh, va, vb, .bool c.cm] 33) [.int .i64 m.k, .int .i64 m.fr, .int .i64 m.to, .int .i64 m.bn, .int .i64 m.br, .int .i64 m.r.ir, .int .i64 m.r.is, .int .i64 m.r.st, .int .i64 m.r.pn, .int .i64 m.r.pr, .int .i64 m.r.bn, .int .i64 m.r.br, .int .i64 m.r.c.k, .int .i64 m.r.c.tc, .int .i64 m.r.c.tn, .int .i64 m.r.c.tt, .int .i64 m.r.c.tk, .int .i64 m.r.c.sh, ta, tb, .bool m.r.c.cm, .int .i64 m.r.sq, .int .i64 m.r.d0, .int .i64 m.r.d1, .int .i64 m.r.d2, .int .i64 m.r.d3, .int .i64 m.r.d4, .int .i64 m.r.d5, .int .i64 m.r.d6, .bool m.r.kp] 39).push (.cells #[.int .i64 c.k, .int .i64 c.tc, .int .i64 c.tn, .int .i64 c.tt, .int .i64 c.tk, .int .i64 c.sh, va, vb, .bool c.cm, .int .i64 m.r.c.k, .int .i64 m.r.c.tc, .int .i64 m.r.c.tn, .int .i64 m.r.c.tt, .int .i64 m.r.c.tk, .int .i64 m.r.c.sh, ta, tb, .bool m.r.c.cm] 33))
  have R := Lib.hid (h.below N2)
  have W := Lib.hid (h'.below N2)
  have T := Lib.hid (k.below N2)
  have U := Lib.hid (k'.below N2)
  clear h h' k k' N1 N2
  have hl := F.l
  have hl' := F.l'
  have gl := G.l
  have gl' := G.l'
  go_enter Try.func6, Try.ntmps6
  go_wp2_with (fail)
  refine (few_two (by simp) c m.r.c R.out W.out T.out U.out).mono ?_
  rintro e w1 ⟨rfl, hb⟩
  rw [f]
  replace X := Lib.hid (X.out.on hb)
  replace Z := Lib.hid (Z.out.on hb)
  replace R := Lib.hid ((R.out.push _).below hb)
  replace W := Lib.hid ((W.out.push _).below hb)
  replace T := Lib.hid ((T.out.push _).below hb)
  replace U := Lib.hid ((U.out.push _).below hb)
  replace B := Lib.hid (below_on B.out hb)
  clear hb f
  go_wp2_with (with_reducible refine wpList_load_mid rfl 33 _ rfl w.heap.size 0 rfl _ _ X.out.whole Try.underlying33 rfl (by kernel_rfl) ?_)
  refine (encY (encode_cmd c R.out W.out F) e1).mono ?_
  rintro e w2 ⟨u2, rfl, hx, hb⟩
  replace X := Lib.hid (X.out.on hb)
  replace Z := Lib.hid (Z.out.on hb)
  replace R := Lib.hid (R.out.below hb)
  replace W := Lib.hid (W.out.below hb)
  replace T := Lib.hid (T.out.below hb)
  replace U := Lib.hid (U.out.below hb)
  replace B := Lib.hid (below_on B.out hb)
  have O := Lib.hid hx
  clear hx hb
  go_wp2_with (fail)
  refine (decode_yes O.out (P.dec_back (v := .inl c) (sml_c e1 F) e1)).mono ?_
  rintro e w3 ⟨x3, rfl, ⟨va3, vb3, rfl, k1, k2, -, -⟩, hb⟩
  replace X := Lib.hid (X.out.on hb)
  replace Z := Lib.hid (Z.out.on hb)
  replace R := Lib.hid (R.out.below hb)
  replace W := Lib.hid (W.out.below hb)
  replace T := Lib.hid (T.out.below hb)
  replace U := Lib.hid (U.out.below hb)
  replace B := Lib.hid (below_on B.out hb)
  have I := Lib.hid (RowN.of_owns k1 : Rds _ _ _)
  have J := Lib.hid (RowN.of_owns k2 : Wrs _ _ _)
  clear k1 k2 hb O
  go_wp2_with ((with_reducible refine wpList_load_mid_g ?_ 33 _ rfl w.heap.size 0 rfl _ _ X.out.whole Try.underlying33 rfl (by kernel_rfl) ?_); rfl)
  refine (calls_args (told_cmd c I.out J.out R.out W.out hl hl') (by kernel_rfl)).mono ?_
  rintro e w4 ⟨rfl, hb⟩
  replace X := Lib.hid (X.out.on hb)
  replace Z := Lib.hid (Z.out.on hb)
  replace R := Lib.hid (R.out.below hb)
  replace W := Lib.hid (W.out.below hb)
  replace T := Lib.hid (T.out.below hb)
  replace U := Lib.hid (U.out.below hb)
  replace B := Lib.hid (below_on B.out hb)
  clear hb I J
  go_wp2_with (with_reducible refine wpList_load_mid rfl 39 _ rfl (w.heap.size + 1) 0 rfl _ _ Z.out.whole Try.underlying39 rfl (by kernel_rfl) ?_)
  refine (encY (encode_msg m T.out U.out G) e2).mono ?_
  rintro e w5 ⟨u5, rfl, hx, hb⟩
  replace X := Lib.hid (X.out.on hb)
  replace Z := Lib.hid (Z.out.on hb)
  replace R := Lib.hid (R.out.below hb)
  replace W := Lib.hid (W.out.below hb)
  replace T := Lib.hid (T.out.below hb)
  replace U := Lib.hid (U.out.below hb)
  replace B := Lib.hid (below_on B.out hb)
  have O := Lib.hid hx
  clear hx hb
  go_wp2_with (with_reducible refine wpList_load_mid rfl 37 _ rfl (w.heap.size + 1) 5 rfl _ _ (Z.out.range (pre := [.int .i64 m.k, .int .i64 m.fr, .int .i64 m.to, .int .i64 m.bn, .int .i64 m.br]) (L := [.int .i64 m.r.ir, .int .i64 m.r.is, .int .i64 m.r.st, .int .i64 m.r.pn, .int .i64 m.r.pr, .int .i64 m.r.bn, .int .i64 m.r.br, .int .i64 m.r.c.k, .int .i64 m.r.c.tc, .int .i64 m.r.c.tn, .int .i64 m.r.c.tt, .int .i64 m.r.c.tk, .int .i64 m.r.c.sh, ta, tb, .bool m.r.c.cm, .int .i64 m.r.sq, .int .i64 m.r.d0, .int .i64 m.r.d1, .int .i64 m.r.d2, .int .i64 m.r.d3, .int .i64 m.r.d4, .int .i64 m.r.d5, .int .i64 m.r.d6, .bool m.r.kp]) (o := 5) rfl) Try.underlying37 rfl (by kernel_rfl) ?_)
  refine (encY (encode_rec m.r T.out U.out G) (M.rightM_rec e2)).mono ?_
  rintro e w6 ⟨u6, rfl, hx, hb⟩
  replace X := Lib.hid (X.out.on hb)
  replace Z := Lib.hid (Z.out.on hb)
  replace R := Lib.hid (R.out.below hb)
  replace W := Lib.hid (W.out.below hb)
  replace T := Lib.hid (T.out.below hb)
  replace U := Lib.hid (U.out.below hb)
  replace O := Lib.hid (O.out.below hb)
  replace B := Lib.hid (below_on B.out hb)
  have O6 := Lib.hid hx
  clear hx hb
  go_wp2_with (fail)
  refine (decode_yes O.out (P.dec_back (v := .inr (.inr m)) (sml_m e2 G) e2)).mono ?_
  rintro e w7 ⟨x7, rfl, ⟨va7, vb7, rfl, k1, k2, -, -⟩, hb⟩
  replace X := Lib.hid (X.out.on hb)
  replace Z := Lib.hid (Z.out.on hb)
  replace R := Lib.hid (R.out.below hb)
  replace W := Lib.hid (W.out.below hb)
  replace T := Lib.hid (T.out.below hb)
  replace U := Lib.hid (U.out.below hb)
  replace O6 := Lib.hid (O6.out.below hb)
  replace B := Lib.hid (below_on B.out hb)
  have I := Lib.hid (RowN.of_owns k1 : Rds _ _ _)
  have J := Lib.hid (RowN.of_owns k2 : Wrs _ _ _)
  clear k1 k2 hb O
  go_wp2_with (fail)
  refine (decode_yes O6.out (P.dec_back (v := .inr (.inl m.r)) (sml_r (M.rightM_rec e2) G) (M.rightM_rec e2))).mono ?_
  rintro e w8 ⟨x8, rfl, ⟨va8, vb8, rfl, k1, k2, -, -⟩, hb⟩
  replace X := Lib.hid (X.out.on hb)
  replace Z := Lib.hid (Z.out.on hb)
  replace R := Lib.hid (R.out.below hb)
  replace W := Lib.hid (W.out.below hb)
  replace T := Lib.hid (T.out.below hb)
  replace U := Lib.hid (U.out.below hb)
  replace I := Lib.hid (I.out.below hb)
  replace J := Lib.hid (J.out.below hb)
  replace B := Lib.hid (below_on B.out hb)
  have I8 := Lib.hid (RowN.of_owns k1 : Rds _ _ _)
  have J8 := Lib.hid (RowN.of_owns k2 : Wrs _ _ _)
  clear k1 k2 hb O6
  go_wp2_with ((with_reducible refine wpList_load_mid_g ?_ 39 _ rfl (w.heap.size + 1) 0 rfl _ _ Z.out.whole Try.underlying39 rfl (by kernel_rfl) ?_); rfl)
  refine (calls_args (told_msg m I.out J.out T.out U.out gl gl') (by kernel_rfl)).mono ?_
  rintro e w9 ⟨rfl, hb⟩
  replace X := Lib.hid (X.out.on hb)
  replace Z := Lib.hid (Z.out.on hb)
  replace R := Lib.hid (R.out.below hb)
  replace W := Lib.hid (W.out.below hb)
  replace T := Lib.hid (T.out.below hb)
  replace U := Lib.hid (U.out.below hb)
  replace I8 := Lib.hid (I8.out.below hb)
  replace J8 := Lib.hid (J8.out.below hb)
  replace B := Lib.hid (below_on B.out hb)
  clear hb I J
  go_wp2_with ((with_reducible refine wpList_load_mid_g ?_ 37 _ rfl (w.heap.size + 1) 5 rfl _ _ (Z.out.range (pre := [.int .i64 m.k, .int .i64 m.fr, .int .i64 m.to, .int .i64 m.bn, .int .i64 m.br]) (L := [.int .i64 m.r.ir, .int .i64 m.r.is, .int .i64 m.r.st, .int .i64 m.r.pn, .int .i64 m.r.pr, .int .i64 m.r.bn, .int .i64 m.r.br, .int .i64 m.r.c.k, .int .i64 m.r.c.tc, .int .i64 m.r.c.tn, .int .i64 m.r.c.tt, .int .i64 m.r.c.tk, .int .i64 m.r.c.sh, ta, tb, .bool m.r.c.cm, .int .i64 m.r.sq, .int .i64 m.r.d0, .int .i64 m.r.d1, .int .i64 m.r.d2, .int .i64 m.r.d3, .int .i64 m.r.d4, .int .i64 m.r.d5, .int .i64 m.r.d6, .bool m.r.kp]) (o := 5) rfl) Try.underlying37 rfl (by kernel_rfl) ?_); rfl)
  refine (calls_args (told_rec m.r I8.out J8.out T.out U.out gl gl') (by kernel_rfl)).mono ?_
  rintro e w10 ⟨rfl, hb⟩
  replace X := Lib.hid (X.out.on hb)
  replace Z := Lib.hid (Z.out.on hb)
  replace R := Lib.hid (R.out.below hb)
  replace W := Lib.hid (W.out.below hb)
  replace T := Lib.hid (T.out.below hb)
  replace U := Lib.hid (U.out.below hb)
  replace B := Lib.hid (below_on B.out hb)
  clear hb I8 J8
  go_wp2_with (fail)
  refine (awake_any _).mono ?_
  rintro e w11 ⟨rfl, hb⟩
  replace B := Lib.hid (below_on B.out hb)
  clear hb
  go_wp2
  go_ret
  exact ⟨rfl, B.out⟩

set_option maxHeartbeats 16000000 in
set_option maxRecDepth 100000 in
theorem back_tf (c : M.Cmd) (m : M.Msg) {va vb ta tb : Value} (w : World) (h : Rds w va c.rs) (h' : Wrs w vb c.ws) (k : Rds w ta m.r.c.rs) (k' : Wrs w tb m.r.c.ws) (F : M.Mod c) (G : M.Mod m.r.c) (f : (M.modB c && M.modB m.r.c) = true) (e1 : M.rightC c = true) (e2 : M.rightM m = false) : Calls Try.prog 6 #[.agg #[.int .i64 c.k, .int .i64 c.tc, .int .i64 c.tn, .int .i64 c.tt, .int .i64 c.tk, .int .i64 c.sh, va, vb, .bool c.cm], .agg #[.int .i64 m.k, .int .i64 m.fr, .int .i64 m.to, .int .i64 m.bn, .int .i64 m.br, .int .i64 m.r.ir, .int .i64 m.r.is, .int .i64 m.r.st, .int .i64 m.r.pn, .int .i64 m.r.pr, .int .i64 m.r.bn, .int .i64 m.r.br, .int .i64 m.r.c.k, .int .i64 m.r.c.tc, .int .i64 m.r.c.tn, .int .i64 m.r.c.tt, .int .i64 m.r.c.tk, .int .i64 m.r.c.sh, ta, tb, .bool m.r.c.cm, .int .i64 m.r.sq, .int .i64 m.r.d0, .int .i64 m.r.d1, .int .i64 m.r.d2, .int .i64 m.r.d3, .int .i64 m.r.d4, .int .i64 m.r.d5, .int .i64 m.r.d6, .bool m.r.kp]] w (Yes w) := by
  have N1 := below_new (o := .cells #[.int .i64 c.k, .int .i64 c.tc, .int .i64 c.tn, .int .i64 c.tt, .int .i64 c.tk, .int .i64 c.sh, va, vb, .bool c.cm] 33) (Below.refl w.heap.size w)
  have N2 := below_new (o := .cells #[.int .i64 m.k, .int .i64 m.fr, .int .i64 m.to, .int .i64 m.bn, .int .i64 m.br, .int .i64 m.r.ir, .int .i64 m.r.is, .int .i64 m.r.st, .int .i64 m.r.pn, .int .i64 m.r.pr, .int .i64 m.r.bn, .int .i64 m.r.br, .int .i64 m.r.c.k, .int .i64 m.r.c.tc, .int .i64 m.r.c.tn, .int .i64 m.r.c.tt, .int .i64 m.r.c.tk, .int .i64 m.r.c.sh, ta, tb, .bool m.r.c.cm, .int .i64 m.r.sq, .int .i64 m.r.d0, .int .i64 m.r.d1, .int .i64 m.r.d2, .int .i64 m.r.d3, .int .i64 m.r.d4, .int .i64 m.r.d5, .int .i64 m.r.d6, .bool m.r.kp] 39) N1
  have B := Lib.hid (below_new (o := .cells #[.int .i64 c.k, .int .i64 c.tc, .int .i64 c.tn, .int .i64 c.tt, .int .i64 c.tk, .int .i64 c.sh, va, vb, .bool c.cm, .int .i64 m.r.c.k, .int .i64 m.r.c.tc, .int .i64 m.r.c.tn, .int .i64 m.r.c.tt, .int .i64 m.r.c.tk, .int .i64 m.r.c.sh, ta, tb, .bool m.r.c.cm] 33) N2)
  have X := Lib.hid (((Cel.new w [.int .i64 c.k, .int .i64 c.tc, .int .i64 c.tn, .int .i64 c.tt, .int .i64 c.tk, .int .i64 c.sh, va, vb, .bool c.cm] 33).push (.cells #[.int .i64 m.k, .int .i64 m.fr, .int .i64 m.to, .int .i64 m.bn, .int .i64 m.br, .int .i64 m.r.ir, .int .i64 m.r.is, .int .i64 m.r.st, .int .i64 m.r.pn, .int .i64 m.r.pr, .int .i64 m.r.bn, .int .i64 m.r.br, .int .i64 m.r.c.k, .int .i64 m.r.c.tc, .int .i64 m.r.c.tn, .int .i64 m.r.c.tt, .int .i64 m.r.c.tk, .int .i64 m.r.c.sh, ta, tb, .bool m.r.c.cm, .int .i64 m.r.sq, .int .i64 m.r.d0, .int .i64 m.r.d1, .int .i64 m.r.d2, .int .i64 m.r.d3, .int .i64 m.r.d4, .int .i64 m.r.d5, .int .i64 m.r.d6, .bool m.r.kp] 39)).push (.cells #[.int .i64 c.k, .int .i64 c.tc, .int .i64 c.tn, .int .i64 c.tt, .int .i64 c.tk, .int .i64 c.sh, va, vb, .bool c.cm, .int .i64 m.r.c.k, .int .i64 m.r.c.tc, .int .i64 m.r.c.tn, .int .i64 m.r.c.tt, .int .i64 m.r.c.tk, .int .i64 m.r.c.sh, ta, tb, .bool m.r.c.cm] 33))
  have Z := Lib.hid ((Cel.new1 w (.cells #[.int .i64 c.k, .int .i64 c.tc, .int .i64 c.tn, .int .i64 c.tt, .int .i64 c.tk, .int .i64 c.sh, va, vb, .bool c.cm] 33) [.int .i64 m.k, .int .i64 m.fr, .int .i64 m.to, .int .i64 m.bn, .int .i64 m.br, .int .i64 m.r.ir, .int .i64 m.r.is, .int .i64 m.r.st, .int .i64 m.r.pn, .int .i64 m.r.pr, .int .i64 m.r.bn, .int .i64 m.r.br, .int .i64 m.r.c.k, .int .i64 m.r.c.tc, .int .i64 m.r.c.tn, .int .i64 m.r.c.tt, .int .i64 m.r.c.tk, .int .i64 m.r.c.sh, ta, tb, .bool m.r.c.cm, .int .i64 m.r.sq, .int .i64 m.r.d0, .int .i64 m.r.d1, .int .i64 m.r.d2, .int .i64 m.r.d3, .int .i64 m.r.d4, .int .i64 m.r.d5, .int .i64 m.r.d6, .bool m.r.kp] 39).push (.cells #[.int .i64 c.k, .int .i64 c.tc, .int .i64 c.tn, .int .i64 c.tt, .int .i64 c.tk, .int .i64 c.sh, va, vb, .bool c.cm, .int .i64 m.r.c.k, .int .i64 m.r.c.tc, .int .i64 m.r.c.tn, .int .i64 m.r.c.tt, .int .i64 m.r.c.tk, .int .i64 m.r.c.sh, ta, tb, .bool m.r.c.cm] 33))
  have R := Lib.hid (h.below N2)
  have W := Lib.hid (h'.below N2)
  have T := Lib.hid (k.below N2)
  have U := Lib.hid (k'.below N2)
  clear h h' k k' N1 N2
  have hl := F.l
  have hl' := F.l'
  have gl := G.l
  have gl' := G.l'
  go_enter Try.func6, Try.ntmps6
  go_wp2_with (fail)
  refine (few_two (by simp) c m.r.c R.out W.out T.out U.out).mono ?_
  rintro e w1 ⟨rfl, hb⟩
  rw [f]
  replace X := Lib.hid (X.out.on hb)
  replace Z := Lib.hid (Z.out.on hb)
  replace R := Lib.hid ((R.out.push _).below hb)
  replace W := Lib.hid ((W.out.push _).below hb)
  replace T := Lib.hid ((T.out.push _).below hb)
  replace U := Lib.hid ((U.out.push _).below hb)
  replace B := Lib.hid (below_on B.out hb)
  clear hb f
  go_wp2_with (with_reducible refine wpList_load_mid rfl 33 _ rfl w.heap.size 0 rfl _ _ X.out.whole Try.underlying33 rfl (by kernel_rfl) ?_)
  refine (encY (encode_cmd c R.out W.out F) e1).mono ?_
  rintro e w2 ⟨u2, rfl, hx, hb⟩
  replace X := Lib.hid (X.out.on hb)
  replace Z := Lib.hid (Z.out.on hb)
  replace R := Lib.hid (R.out.below hb)
  replace W := Lib.hid (W.out.below hb)
  replace T := Lib.hid (T.out.below hb)
  replace U := Lib.hid (U.out.below hb)
  replace B := Lib.hid (below_on B.out hb)
  have O := Lib.hid hx
  clear hx hb
  go_wp2_with (fail)
  refine (decode_yes O.out (P.dec_back (v := .inl c) (sml_c e1 F) e1)).mono ?_
  rintro e w3 ⟨x3, rfl, ⟨va3, vb3, rfl, k1, k2, -, -⟩, hb⟩
  replace X := Lib.hid (X.out.on hb)
  replace Z := Lib.hid (Z.out.on hb)
  replace R := Lib.hid (R.out.below hb)
  replace W := Lib.hid (W.out.below hb)
  replace T := Lib.hid (T.out.below hb)
  replace U := Lib.hid (U.out.below hb)
  replace B := Lib.hid (below_on B.out hb)
  have I := Lib.hid (RowN.of_owns k1 : Rds _ _ _)
  have J := Lib.hid (RowN.of_owns k2 : Wrs _ _ _)
  clear k1 k2 hb O
  go_wp2_with ((with_reducible refine wpList_load_mid_g ?_ 33 _ rfl w.heap.size 0 rfl _ _ X.out.whole Try.underlying33 rfl (by kernel_rfl) ?_); rfl)
  refine (calls_args (told_cmd c I.out J.out R.out W.out hl hl') (by kernel_rfl)).mono ?_
  rintro e w4 ⟨rfl, hb⟩
  replace X := Lib.hid (X.out.on hb)
  replace Z := Lib.hid (Z.out.on hb)
  replace R := Lib.hid (R.out.below hb)
  replace W := Lib.hid (W.out.below hb)
  replace T := Lib.hid (T.out.below hb)
  replace U := Lib.hid (U.out.below hb)
  replace B := Lib.hid (below_on B.out hb)
  clear hb I J
  go_wp2_with (with_reducible refine wpList_load_mid rfl 39 _ rfl (w.heap.size + 1) 0 rfl _ _ Z.out.whole Try.underlying39 rfl (by kernel_rfl) ?_)
  refine (encN1 (encode_msg m T.out U.out G) e2).mono ?_
  rintro e w5 ⟨u5, rfl, hb⟩
  replace X := Lib.hid (X.out.on hb)
  replace Z := Lib.hid (Z.out.on hb)
  replace R := Lib.hid (R.out.below hb)
  replace W := Lib.hid (W.out.below hb)
  replace T := Lib.hid (T.out.below hb)
  replace U := Lib.hid (U.out.below hb)
  replace B := Lib.hid (below_on B.out hb)
  clear hb
  go_wp2_with (with_reducible refine wpList_load_mid rfl 37 _ rfl (w.heap.size + 1) 5 rfl _ _ (Z.out.range (pre := [.int .i64 m.k, .int .i64 m.fr, .int .i64 m.to, .int .i64 m.bn, .int .i64 m.br]) (L := [.int .i64 m.r.ir, .int .i64 m.r.is, .int .i64 m.r.st, .int .i64 m.r.pn, .int .i64 m.r.pr, .int .i64 m.r.bn, .int .i64 m.r.br, .int .i64 m.r.c.k, .int .i64 m.r.c.tc, .int .i64 m.r.c.tn, .int .i64 m.r.c.tt, .int .i64 m.r.c.tk, .int .i64 m.r.c.sh, ta, tb, .bool m.r.c.cm, .int .i64 m.r.sq, .int .i64 m.r.d0, .int .i64 m.r.d1, .int .i64 m.r.d2, .int .i64 m.r.d3, .int .i64 m.r.d4, .int .i64 m.r.d5, .int .i64 m.r.d6, .bool m.r.kp]) (o := 5) rfl) Try.underlying37 rfl (by kernel_rfl) ?_)
  refine (encAny (encode_rec m.r T.out U.out G)).mono ?_
  rintro e w6 ⟨u6, n6, rfl, hb⟩
  replace X := Lib.hid (X.out.on hb)
  replace Z := Lib.hid (Z.out.on hb)
  replace R := Lib.hid (R.out.below hb)
  replace W := Lib.hid (W.out.below hb)
  replace T := Lib.hid (T.out.below hb)
  replace U := Lib.hid (U.out.below hb)
  replace B := Lib.hid (below_on B.out hb)
  clear hb
  go_wp2_with (fail)
  refine (awake_any _).mono ?_
  rintro e w11 ⟨rfl, hb⟩
  replace B := Lib.hid (below_on B.out hb)
  clear hb
  go_wp2
  go_ret
  exact ⟨rfl, B.out⟩

set_option maxHeartbeats 16000000 in
set_option maxRecDepth 100000 in
theorem back_ft (c : M.Cmd) (m : M.Msg) {va vb ta tb : Value} (w : World) (h : Rds w va c.rs) (h' : Wrs w vb c.ws) (k : Rds w ta m.r.c.rs) (k' : Wrs w tb m.r.c.ws) (F : M.Mod c) (G : M.Mod m.r.c) (f : (M.modB c && M.modB m.r.c) = true) (e1 : M.rightC c = false) (e2 : M.rightM m = true) : Calls Try.prog 6 #[.agg #[.int .i64 c.k, .int .i64 c.tc, .int .i64 c.tn, .int .i64 c.tt, .int .i64 c.tk, .int .i64 c.sh, va, vb, .bool c.cm], .agg #[.int .i64 m.k, .int .i64 m.fr, .int .i64 m.to, .int .i64 m.bn, .int .i64 m.br, .int .i64 m.r.ir, .int .i64 m.r.is, .int .i64 m.r.st, .int .i64 m.r.pn, .int .i64 m.r.pr, .int .i64 m.r.bn, .int .i64 m.r.br, .int .i64 m.r.c.k, .int .i64 m.r.c.tc, .int .i64 m.r.c.tn, .int .i64 m.r.c.tt, .int .i64 m.r.c.tk, .int .i64 m.r.c.sh, ta, tb, .bool m.r.c.cm, .int .i64 m.r.sq, .int .i64 m.r.d0, .int .i64 m.r.d1, .int .i64 m.r.d2, .int .i64 m.r.d3, .int .i64 m.r.d4, .int .i64 m.r.d5, .int .i64 m.r.d6, .bool m.r.kp]] w (Yes w) := by
  have N1 := below_new (o := .cells #[.int .i64 c.k, .int .i64 c.tc, .int .i64 c.tn, .int .i64 c.tt, .int .i64 c.tk, .int .i64 c.sh, va, vb, .bool c.cm] 33) (Below.refl w.heap.size w)
  have N2 := below_new (o := .cells #[.int .i64 m.k, .int .i64 m.fr, .int .i64 m.to, .int .i64 m.bn, .int .i64 m.br, .int .i64 m.r.ir, .int .i64 m.r.is, .int .i64 m.r.st, .int .i64 m.r.pn, .int .i64 m.r.pr, .int .i64 m.r.bn, .int .i64 m.r.br, .int .i64 m.r.c.k, .int .i64 m.r.c.tc, .int .i64 m.r.c.tn, .int .i64 m.r.c.tt, .int .i64 m.r.c.tk, .int .i64 m.r.c.sh, ta, tb, .bool m.r.c.cm, .int .i64 m.r.sq, .int .i64 m.r.d0, .int .i64 m.r.d1, .int .i64 m.r.d2, .int .i64 m.r.d3, .int .i64 m.r.d4, .int .i64 m.r.d5, .int .i64 m.r.d6, .bool m.r.kp] 39) N1
  have B := Lib.hid (below_new (o := .cells #[.int .i64 c.k, .int .i64 c.tc, .int .i64 c.tn, .int .i64 c.tt, .int .i64 c.tk, .int .i64 c.sh, va, vb, .bool c.cm, .int .i64 m.r.c.k, .int .i64 m.r.c.tc, .int .i64 m.r.c.tn, .int .i64 m.r.c.tt, .int .i64 m.r.c.tk, .int .i64 m.r.c.sh, ta, tb, .bool m.r.c.cm] 33) N2)
  have X := Lib.hid (((Cel.new w [.int .i64 c.k, .int .i64 c.tc, .int .i64 c.tn, .int .i64 c.tt, .int .i64 c.tk, .int .i64 c.sh, va, vb, .bool c.cm] 33).push (.cells #[.int .i64 m.k, .int .i64 m.fr, .int .i64 m.to, .int .i64 m.bn, .int .i64 m.br, .int .i64 m.r.ir, .int .i64 m.r.is, .int .i64 m.r.st, .int .i64 m.r.pn, .int .i64 m.r.pr, .int .i64 m.r.bn, .int .i64 m.r.br, .int .i64 m.r.c.k, .int .i64 m.r.c.tc, .int .i64 m.r.c.tn, .int .i64 m.r.c.tt, .int .i64 m.r.c.tk, .int .i64 m.r.c.sh, ta, tb, .bool m.r.c.cm, .int .i64 m.r.sq, .int .i64 m.r.d0, .int .i64 m.r.d1, .int .i64 m.r.d2, .int .i64 m.r.d3, .int .i64 m.r.d4, .int .i64 m.r.d5, .int .i64 m.r.d6, .bool m.r.kp] 39)).push (.cells #[.int .i64 c.k, .int .i64 c.tc, .int .i64 c.tn, .int .i64 c.tt, .int .i64 c.tk, .int .i64 c.sh, va, vb, .bool c.cm, .int .i64 m.r.c.k, .int .i64 m.r.c.tc, .int .i64 m.r.c.tn, .int .i64 m.r.c.tt, .int .i64 m.r.c.tk, .int .i64 m.r.c.sh, ta, tb, .bool m.r.c.cm] 33))
  have Z := Lib.hid ((Cel.new1 w (.cells #[.int .i64 c.k, .int .i64 c.tc, .int .i64 c.tn, .int .i64 c.tt, .int .i64 c.tk, .int .i64 c.sh, va, vb, .bool c.cm] 33) [.int .i64 m.k, .int .i64 m.fr, .int .i64 m.to, .int .i64 m.bn, .int .i64 m.br, .int .i64 m.r.ir, .int .i64 m.r.is, .int .i64 m.r.st, .int .i64 m.r.pn, .int .i64 m.r.pr, .int .i64 m.r.bn, .int .i64 m.r.br, .int .i64 m.r.c.k, .int .i64 m.r.c.tc, .int .i64 m.r.c.tn, .int .i64 m.r.c.tt, .int .i64 m.r.c.tk, .int .i64 m.r.c.sh, ta, tb, .bool m.r.c.cm, .int .i64 m.r.sq, .int .i64 m.r.d0, .int .i64 m.r.d1, .int .i64 m.r.d2, .int .i64 m.r.d3, .int .i64 m.r.d4, .int .i64 m.r.d5, .int .i64 m.r.d6, .bool m.r.kp] 39).push (.cells #[.int .i64 c.k, .int .i64 c.tc, .int .i64 c.tn, .int .i64 c.tt, .int .i64 c.tk, .int .i64 c.sh, va, vb, .bool c.cm, .int .i64 m.r.c.k, .int .i64 m.r.c.tc, .int .i64 m.r.c.tn, .int .i64 m.r.c.tt, .int .i64 m.r.c.tk, .int .i64 m.r.c.sh, ta, tb, .bool m.r.c.cm] 33))
  have R := Lib.hid (h.below N2)
  have W := Lib.hid (h'.below N2)
  have T := Lib.hid (k.below N2)
  have U := Lib.hid (k'.below N2)
  clear h h' k k' N1 N2
  have hl := F.l
  have hl' := F.l'
  have gl := G.l
  have gl' := G.l'
  go_enter Try.func6, Try.ntmps6
  go_wp2_with (fail)
  refine (few_two (by simp) c m.r.c R.out W.out T.out U.out).mono ?_
  rintro e w1 ⟨rfl, hb⟩
  rw [f]
  replace X := Lib.hid (X.out.on hb)
  replace Z := Lib.hid (Z.out.on hb)
  replace R := Lib.hid ((R.out.push _).below hb)
  replace W := Lib.hid ((W.out.push _).below hb)
  replace T := Lib.hid ((T.out.push _).below hb)
  replace U := Lib.hid ((U.out.push _).below hb)
  replace B := Lib.hid (below_on B.out hb)
  clear hb f
  go_wp2_with (with_reducible refine wpList_load_mid rfl 33 _ rfl w.heap.size 0 rfl _ _ X.out.whole Try.underlying33 rfl (by kernel_rfl) ?_)
  refine (encN1 (encode_cmd c R.out W.out F) e1).mono ?_
  rintro e w2 ⟨u2, rfl, hb⟩
  replace X := Lib.hid (X.out.on hb)
  replace Z := Lib.hid (Z.out.on hb)
  replace R := Lib.hid (R.out.below hb)
  replace W := Lib.hid (W.out.below hb)
  replace T := Lib.hid (T.out.below hb)
  replace U := Lib.hid (U.out.below hb)
  replace B := Lib.hid (below_on B.out hb)
  clear hb
  go_wp2_with (with_reducible refine wpList_load_mid rfl 39 _ rfl (w.heap.size + 1) 0 rfl _ _ Z.out.whole Try.underlying39 rfl (by kernel_rfl) ?_)
  refine (encY (encode_msg m T.out U.out G) e2).mono ?_
  rintro e w5 ⟨u5, rfl, hx, hb⟩
  replace X := Lib.hid (X.out.on hb)
  replace Z := Lib.hid (Z.out.on hb)
  replace R := Lib.hid (R.out.below hb)
  replace W := Lib.hid (W.out.below hb)
  replace T := Lib.hid (T.out.below hb)
  replace U := Lib.hid (U.out.below hb)
  replace B := Lib.hid (below_on B.out hb)
  have O := Lib.hid hx
  clear hx hb
  go_wp2_with (with_reducible refine wpList_load_mid rfl 37 _ rfl (w.heap.size + 1) 5 rfl _ _ (Z.out.range (pre := [.int .i64 m.k, .int .i64 m.fr, .int .i64 m.to, .int .i64 m.bn, .int .i64 m.br]) (L := [.int .i64 m.r.ir, .int .i64 m.r.is, .int .i64 m.r.st, .int .i64 m.r.pn, .int .i64 m.r.pr, .int .i64 m.r.bn, .int .i64 m.r.br, .int .i64 m.r.c.k, .int .i64 m.r.c.tc, .int .i64 m.r.c.tn, .int .i64 m.r.c.tt, .int .i64 m.r.c.tk, .int .i64 m.r.c.sh, ta, tb, .bool m.r.c.cm, .int .i64 m.r.sq, .int .i64 m.r.d0, .int .i64 m.r.d1, .int .i64 m.r.d2, .int .i64 m.r.d3, .int .i64 m.r.d4, .int .i64 m.r.d5, .int .i64 m.r.d6, .bool m.r.kp]) (o := 5) rfl) Try.underlying37 rfl (by kernel_rfl) ?_)
  refine (encY (encode_rec m.r T.out U.out G) (M.rightM_rec e2)).mono ?_
  rintro e w6 ⟨u6, rfl, hx, hb⟩
  replace X := Lib.hid (X.out.on hb)
  replace Z := Lib.hid (Z.out.on hb)
  replace R := Lib.hid (R.out.below hb)
  replace W := Lib.hid (W.out.below hb)
  replace T := Lib.hid (T.out.below hb)
  replace U := Lib.hid (U.out.below hb)
  replace O := Lib.hid (O.out.below hb)
  replace B := Lib.hid (below_on B.out hb)
  have O6 := Lib.hid hx
  clear hx hb
  go_wp2_with (fail)
  refine (decode_yes O.out (P.dec_back (v := .inr (.inr m)) (sml_m e2 G) e2)).mono ?_
  rintro e w7 ⟨x7, rfl, ⟨va7, vb7, rfl, k1, k2, -, -⟩, hb⟩
  replace X := Lib.hid (X.out.on hb)
  replace Z := Lib.hid (Z.out.on hb)
  replace R := Lib.hid (R.out.below hb)
  replace W := Lib.hid (W.out.below hb)
  replace T := Lib.hid (T.out.below hb)
  replace U := Lib.hid (U.out.below hb)
  replace O6 := Lib.hid (O6.out.below hb)
  replace B := Lib.hid (below_on B.out hb)
  have I := Lib.hid (RowN.of_owns k1 : Rds _ _ _)
  have J := Lib.hid (RowN.of_owns k2 : Wrs _ _ _)
  clear k1 k2 hb O
  go_wp2_with (fail)
  refine (decode_yes O6.out (P.dec_back (v := .inr (.inl m.r)) (sml_r (M.rightM_rec e2) G) (M.rightM_rec e2))).mono ?_
  rintro e w8 ⟨x8, rfl, ⟨va8, vb8, rfl, k1, k2, -, -⟩, hb⟩
  replace X := Lib.hid (X.out.on hb)
  replace Z := Lib.hid (Z.out.on hb)
  replace R := Lib.hid (R.out.below hb)
  replace W := Lib.hid (W.out.below hb)
  replace T := Lib.hid (T.out.below hb)
  replace U := Lib.hid (U.out.below hb)
  replace I := Lib.hid (I.out.below hb)
  replace J := Lib.hid (J.out.below hb)
  replace B := Lib.hid (below_on B.out hb)
  have I8 := Lib.hid (RowN.of_owns k1 : Rds _ _ _)
  have J8 := Lib.hid (RowN.of_owns k2 : Wrs _ _ _)
  clear k1 k2 hb O6
  go_wp2_with ((with_reducible refine wpList_load_mid_g ?_ 39 _ rfl (w.heap.size + 1) 0 rfl _ _ Z.out.whole Try.underlying39 rfl (by kernel_rfl) ?_); rfl)
  refine (calls_args (told_msg m I.out J.out T.out U.out gl gl') (by kernel_rfl)).mono ?_
  rintro e w9 ⟨rfl, hb⟩
  replace X := Lib.hid (X.out.on hb)
  replace Z := Lib.hid (Z.out.on hb)
  replace R := Lib.hid (R.out.below hb)
  replace W := Lib.hid (W.out.below hb)
  replace T := Lib.hid (T.out.below hb)
  replace U := Lib.hid (U.out.below hb)
  replace I8 := Lib.hid (I8.out.below hb)
  replace J8 := Lib.hid (J8.out.below hb)
  replace B := Lib.hid (below_on B.out hb)
  clear hb I J
  go_wp2_with ((with_reducible refine wpList_load_mid_g ?_ 37 _ rfl (w.heap.size + 1) 5 rfl _ _ (Z.out.range (pre := [.int .i64 m.k, .int .i64 m.fr, .int .i64 m.to, .int .i64 m.bn, .int .i64 m.br]) (L := [.int .i64 m.r.ir, .int .i64 m.r.is, .int .i64 m.r.st, .int .i64 m.r.pn, .int .i64 m.r.pr, .int .i64 m.r.bn, .int .i64 m.r.br, .int .i64 m.r.c.k, .int .i64 m.r.c.tc, .int .i64 m.r.c.tn, .int .i64 m.r.c.tt, .int .i64 m.r.c.tk, .int .i64 m.r.c.sh, ta, tb, .bool m.r.c.cm, .int .i64 m.r.sq, .int .i64 m.r.d0, .int .i64 m.r.d1, .int .i64 m.r.d2, .int .i64 m.r.d3, .int .i64 m.r.d4, .int .i64 m.r.d5, .int .i64 m.r.d6, .bool m.r.kp]) (o := 5) rfl) Try.underlying37 rfl (by kernel_rfl) ?_); rfl)
  refine (calls_args (told_rec m.r I8.out J8.out T.out U.out gl gl') (by kernel_rfl)).mono ?_
  rintro e w10 ⟨rfl, hb⟩
  replace X := Lib.hid (X.out.on hb)
  replace Z := Lib.hid (Z.out.on hb)
  replace R := Lib.hid (R.out.below hb)
  replace W := Lib.hid (W.out.below hb)
  replace T := Lib.hid (T.out.below hb)
  replace U := Lib.hid (U.out.below hb)
  replace B := Lib.hid (below_on B.out hb)
  clear hb I8 J8
  go_wp2_with (fail)
  refine (awake_any _).mono ?_
  rintro e w11 ⟨rfl, hb⟩
  replace B := Lib.hid (below_on B.out hb)
  clear hb
  go_wp2
  go_ret
  exact ⟨rfl, B.out⟩

set_option maxHeartbeats 16000000 in
set_option maxRecDepth 100000 in
theorem back_ff (c : M.Cmd) (m : M.Msg) {va vb ta tb : Value} (w : World) (h : Rds w va c.rs) (h' : Wrs w vb c.ws) (k : Rds w ta m.r.c.rs) (k' : Wrs w tb m.r.c.ws) (F : M.Mod c) (G : M.Mod m.r.c) (f : (M.modB c && M.modB m.r.c) = true) (e1 : M.rightC c = false) (e2 : M.rightM m = false) : Calls Try.prog 6 #[.agg #[.int .i64 c.k, .int .i64 c.tc, .int .i64 c.tn, .int .i64 c.tt, .int .i64 c.tk, .int .i64 c.sh, va, vb, .bool c.cm], .agg #[.int .i64 m.k, .int .i64 m.fr, .int .i64 m.to, .int .i64 m.bn, .int .i64 m.br, .int .i64 m.r.ir, .int .i64 m.r.is, .int .i64 m.r.st, .int .i64 m.r.pn, .int .i64 m.r.pr, .int .i64 m.r.bn, .int .i64 m.r.br, .int .i64 m.r.c.k, .int .i64 m.r.c.tc, .int .i64 m.r.c.tn, .int .i64 m.r.c.tt, .int .i64 m.r.c.tk, .int .i64 m.r.c.sh, ta, tb, .bool m.r.c.cm, .int .i64 m.r.sq, .int .i64 m.r.d0, .int .i64 m.r.d1, .int .i64 m.r.d2, .int .i64 m.r.d3, .int .i64 m.r.d4, .int .i64 m.r.d5, .int .i64 m.r.d6, .bool m.r.kp]] w (Yes w) := by
  have N1 := below_new (o := .cells #[.int .i64 c.k, .int .i64 c.tc, .int .i64 c.tn, .int .i64 c.tt, .int .i64 c.tk, .int .i64 c.sh, va, vb, .bool c.cm] 33) (Below.refl w.heap.size w)
  have N2 := below_new (o := .cells #[.int .i64 m.k, .int .i64 m.fr, .int .i64 m.to, .int .i64 m.bn, .int .i64 m.br, .int .i64 m.r.ir, .int .i64 m.r.is, .int .i64 m.r.st, .int .i64 m.r.pn, .int .i64 m.r.pr, .int .i64 m.r.bn, .int .i64 m.r.br, .int .i64 m.r.c.k, .int .i64 m.r.c.tc, .int .i64 m.r.c.tn, .int .i64 m.r.c.tt, .int .i64 m.r.c.tk, .int .i64 m.r.c.sh, ta, tb, .bool m.r.c.cm, .int .i64 m.r.sq, .int .i64 m.r.d0, .int .i64 m.r.d1, .int .i64 m.r.d2, .int .i64 m.r.d3, .int .i64 m.r.d4, .int .i64 m.r.d5, .int .i64 m.r.d6, .bool m.r.kp] 39) N1
  have B := Lib.hid (below_new (o := .cells #[.int .i64 c.k, .int .i64 c.tc, .int .i64 c.tn, .int .i64 c.tt, .int .i64 c.tk, .int .i64 c.sh, va, vb, .bool c.cm, .int .i64 m.r.c.k, .int .i64 m.r.c.tc, .int .i64 m.r.c.tn, .int .i64 m.r.c.tt, .int .i64 m.r.c.tk, .int .i64 m.r.c.sh, ta, tb, .bool m.r.c.cm] 33) N2)
  have X := Lib.hid (((Cel.new w [.int .i64 c.k, .int .i64 c.tc, .int .i64 c.tn, .int .i64 c.tt, .int .i64 c.tk, .int .i64 c.sh, va, vb, .bool c.cm] 33).push (.cells #[.int .i64 m.k, .int .i64 m.fr, .int .i64 m.to, .int .i64 m.bn, .int .i64 m.br, .int .i64 m.r.ir, .int .i64 m.r.is, .int .i64 m.r.st, .int .i64 m.r.pn, .int .i64 m.r.pr, .int .i64 m.r.bn, .int .i64 m.r.br, .int .i64 m.r.c.k, .int .i64 m.r.c.tc, .int .i64 m.r.c.tn, .int .i64 m.r.c.tt, .int .i64 m.r.c.tk, .int .i64 m.r.c.sh, ta, tb, .bool m.r.c.cm, .int .i64 m.r.sq, .int .i64 m.r.d0, .int .i64 m.r.d1, .int .i64 m.r.d2, .int .i64 m.r.d3, .int .i64 m.r.d4, .int .i64 m.r.d5, .int .i64 m.r.d6, .bool m.r.kp] 39)).push (.cells #[.int .i64 c.k, .int .i64 c.tc, .int .i64 c.tn, .int .i64 c.tt, .int .i64 c.tk, .int .i64 c.sh, va, vb, .bool c.cm, .int .i64 m.r.c.k, .int .i64 m.r.c.tc, .int .i64 m.r.c.tn, .int .i64 m.r.c.tt, .int .i64 m.r.c.tk, .int .i64 m.r.c.sh, ta, tb, .bool m.r.c.cm] 33))
  have Z := Lib.hid ((Cel.new1 w (.cells #[.int .i64 c.k, .int .i64 c.tc, .int .i64 c.tn, .int .i64 c.tt, .int .i64 c.tk, .int .i64 c.sh, va, vb, .bool c.cm] 33) [.int .i64 m.k, .int .i64 m.fr, .int .i64 m.to, .int .i64 m.bn, .int .i64 m.br, .int .i64 m.r.ir, .int .i64 m.r.is, .int .i64 m.r.st, .int .i64 m.r.pn, .int .i64 m.r.pr, .int .i64 m.r.bn, .int .i64 m.r.br, .int .i64 m.r.c.k, .int .i64 m.r.c.tc, .int .i64 m.r.c.tn, .int .i64 m.r.c.tt, .int .i64 m.r.c.tk, .int .i64 m.r.c.sh, ta, tb, .bool m.r.c.cm, .int .i64 m.r.sq, .int .i64 m.r.d0, .int .i64 m.r.d1, .int .i64 m.r.d2, .int .i64 m.r.d3, .int .i64 m.r.d4, .int .i64 m.r.d5, .int .i64 m.r.d6, .bool m.r.kp] 39).push (.cells #[.int .i64 c.k, .int .i64 c.tc, .int .i64 c.tn, .int .i64 c.tt, .int .i64 c.tk, .int .i64 c.sh, va, vb, .bool c.cm, .int .i64 m.r.c.k, .int .i64 m.r.c.tc, .int .i64 m.r.c.tn, .int .i64 m.r.c.tt, .int .i64 m.r.c.tk, .int .i64 m.r.c.sh, ta, tb, .bool m.r.c.cm] 33))
  have R := Lib.hid (h.below N2)
  have W := Lib.hid (h'.below N2)
  have T := Lib.hid (k.below N2)
  have U := Lib.hid (k'.below N2)
  clear h h' k k' N1 N2
  have hl := F.l
  have hl' := F.l'
  have gl := G.l
  have gl' := G.l'
  go_enter Try.func6, Try.ntmps6
  go_wp2_with (fail)
  refine (few_two (by simp) c m.r.c R.out W.out T.out U.out).mono ?_
  rintro e w1 ⟨rfl, hb⟩
  rw [f]
  replace X := Lib.hid (X.out.on hb)
  replace Z := Lib.hid (Z.out.on hb)
  replace R := Lib.hid ((R.out.push _).below hb)
  replace W := Lib.hid ((W.out.push _).below hb)
  replace T := Lib.hid ((T.out.push _).below hb)
  replace U := Lib.hid ((U.out.push _).below hb)
  replace B := Lib.hid (below_on B.out hb)
  clear hb f
  go_wp2_with (with_reducible refine wpList_load_mid rfl 33 _ rfl w.heap.size 0 rfl _ _ X.out.whole Try.underlying33 rfl (by kernel_rfl) ?_)
  refine (encN1 (encode_cmd c R.out W.out F) e1).mono ?_
  rintro e w2 ⟨u2, rfl, hb⟩
  replace X := Lib.hid (X.out.on hb)
  replace Z := Lib.hid (Z.out.on hb)
  replace R := Lib.hid (R.out.below hb)
  replace W := Lib.hid (W.out.below hb)
  replace T := Lib.hid (T.out.below hb)
  replace U := Lib.hid (U.out.below hb)
  replace B := Lib.hid (below_on B.out hb)
  clear hb
  go_wp2_with (with_reducible refine wpList_load_mid rfl 39 _ rfl (w.heap.size + 1) 0 rfl _ _ Z.out.whole Try.underlying39 rfl (by kernel_rfl) ?_)
  refine (encN1 (encode_msg m T.out U.out G) e2).mono ?_
  rintro e w5 ⟨u5, rfl, hb⟩
  replace X := Lib.hid (X.out.on hb)
  replace Z := Lib.hid (Z.out.on hb)
  replace R := Lib.hid (R.out.below hb)
  replace W := Lib.hid (W.out.below hb)
  replace T := Lib.hid (T.out.below hb)
  replace U := Lib.hid (U.out.below hb)
  replace B := Lib.hid (below_on B.out hb)
  clear hb
  go_wp2_with (with_reducible refine wpList_load_mid rfl 37 _ rfl (w.heap.size + 1) 5 rfl _ _ (Z.out.range (pre := [.int .i64 m.k, .int .i64 m.fr, .int .i64 m.to, .int .i64 m.bn, .int .i64 m.br]) (L := [.int .i64 m.r.ir, .int .i64 m.r.is, .int .i64 m.r.st, .int .i64 m.r.pn, .int .i64 m.r.pr, .int .i64 m.r.bn, .int .i64 m.r.br, .int .i64 m.r.c.k, .int .i64 m.r.c.tc, .int .i64 m.r.c.tn, .int .i64 m.r.c.tt, .int .i64 m.r.c.tk, .int .i64 m.r.c.sh, ta, tb, .bool m.r.c.cm, .int .i64 m.r.sq, .int .i64 m.r.d0, .int .i64 m.r.d1, .int .i64 m.r.d2, .int .i64 m.r.d3, .int .i64 m.r.d4, .int .i64 m.r.d5, .int .i64 m.r.d6, .bool m.r.kp]) (o := 5) rfl) Try.underlying37 rfl (by kernel_rfl) ?_)
  refine (encAny (encode_rec m.r T.out U.out G)).mono ?_
  rintro e w6 ⟨u6, n6, rfl, hb⟩
  replace X := Lib.hid (X.out.on hb)
  replace Z := Lib.hid (Z.out.on hb)
  replace R := Lib.hid (R.out.below hb)
  replace W := Lib.hid (W.out.below hb)
  replace T := Lib.hid (T.out.below hb)
  replace U := Lib.hid (U.out.below hb)
  replace B := Lib.hid (below_on B.out hb)
  clear hb
  go_wp2_with (fail)
  refine (awake_any _).mono ?_
  rintro e w11 ⟨rfl, hb⟩
  replace B := Lib.hid (below_on B.out hb)
  clear hb
  go_wp2
  go_ret
  exact ⟨rfl, B.out⟩

set_option maxHeartbeats 4000000 in
set_option maxRecDepth 100000 in
theorem back_law (c : M.Cmd) (m : M.Msg) {va vb ta tb : Value} (w : World) (h : Rds w va c.rs) (h' : Wrs w vb c.ws) (k : Rds w ta m.r.c.rs) (k' : Wrs w tb m.r.c.ws) : Calls Try.prog 6 #[.agg #[.int .i64 c.k, .int .i64 c.tc, .int .i64 c.tn, .int .i64 c.tt, .int .i64 c.tk, .int .i64 c.sh, va, vb, .bool c.cm], .agg #[.int .i64 m.k, .int .i64 m.fr, .int .i64 m.to, .int .i64 m.bn, .int .i64 m.br, .int .i64 m.r.ir, .int .i64 m.r.is, .int .i64 m.r.st, .int .i64 m.r.pn, .int .i64 m.r.pr, .int .i64 m.r.bn, .int .i64 m.r.br, .int .i64 m.r.c.k, .int .i64 m.r.c.tc, .int .i64 m.r.c.tn, .int .i64 m.r.c.tt, .int .i64 m.r.c.tk, .int .i64 m.r.c.sh, ta, tb, .bool m.r.c.cm, .int .i64 m.r.sq, .int .i64 m.r.d0, .int .i64 m.r.d1, .int .i64 m.r.d2, .int .i64 m.r.d3, .int .i64 m.r.d4, .int .i64 m.r.d5, .int .i64 m.r.d6, .bool m.r.kp]] w (Yes w) := by
  rcases two (M.modB c && M.modB m.r.c) with f | f
  · have F := M.modB_iff.1 (Bool.and_eq_true_iff.1 f).1
    have G := M.modB_iff.1 (Bool.and_eq_true_iff.1 f).2
    rcases two (M.rightC c) with e1 | e1 <;> rcases two (M.rightM m) with e2 | e2
    · exact back_tt c m w h h' k k' F G f e1 e2
    · exact back_tf c m w h h' k k' F G f e1 e2
    · exact back_ft c m w h h' k k' F G f e1 e2
    · exact back_ff c m w h h' k k' F G f e1 e2
  · have N1 := below_new (o := .cells #[.int .i64 c.k, .int .i64 c.tc, .int .i64 c.tn, .int .i64 c.tt, .int .i64 c.tk, .int .i64 c.sh, va, vb, .bool c.cm] 33) (Below.refl w.heap.size w)
    have N2 := below_new (o := .cells #[.int .i64 m.k, .int .i64 m.fr, .int .i64 m.to, .int .i64 m.bn, .int .i64 m.br, .int .i64 m.r.ir, .int .i64 m.r.is, .int .i64 m.r.st, .int .i64 m.r.pn, .int .i64 m.r.pr, .int .i64 m.r.bn, .int .i64 m.r.br, .int .i64 m.r.c.k, .int .i64 m.r.c.tc, .int .i64 m.r.c.tn, .int .i64 m.r.c.tt, .int .i64 m.r.c.tk, .int .i64 m.r.c.sh, ta, tb, .bool m.r.c.cm, .int .i64 m.r.sq, .int .i64 m.r.d0, .int .i64 m.r.d1, .int .i64 m.r.d2, .int .i64 m.r.d3, .int .i64 m.r.d4, .int .i64 m.r.d5, .int .i64 m.r.d6, .bool m.r.kp] 39) N1
    have N4 := Lib.hid (below_new (o := .cells #[.int .i64 c.k, .int .i64 c.tc, .int .i64 c.tn, .int .i64 c.tt, .int .i64 c.tk, .int .i64 c.sh, va, vb, .bool c.cm, .int .i64 m.r.c.k, .int .i64 m.r.c.tc, .int .i64 m.r.c.tn, .int .i64 m.r.c.tt, .int .i64 m.r.c.tk, .int .i64 m.r.c.sh, ta, tb, .bool m.r.c.cm] 33) N2)
    have X0 := Lib.hid (((Cel.new w [.int .i64 c.k, .int .i64 c.tc, .int .i64 c.tn, .int .i64 c.tt, .int .i64 c.tk, .int .i64 c.sh, va, vb, .bool c.cm] 33).push (.cells #[.int .i64 m.k, .int .i64 m.fr, .int .i64 m.to, .int .i64 m.bn, .int .i64 m.br, .int .i64 m.r.ir, .int .i64 m.r.is, .int .i64 m.r.st, .int .i64 m.r.pn, .int .i64 m.r.pr, .int .i64 m.r.bn, .int .i64 m.r.br, .int .i64 m.r.c.k, .int .i64 m.r.c.tc, .int .i64 m.r.c.tn, .int .i64 m.r.c.tt, .int .i64 m.r.c.tk, .int .i64 m.r.c.sh, ta, tb, .bool m.r.c.cm, .int .i64 m.r.sq, .int .i64 m.r.d0, .int .i64 m.r.d1, .int .i64 m.r.d2, .int .i64 m.r.d3, .int .i64 m.r.d4, .int .i64 m.r.d5, .int .i64 m.r.d6, .bool m.r.kp] 39)).push (.cells #[.int .i64 c.k, .int .i64 c.tc, .int .i64 c.tn, .int .i64 c.tt, .int .i64 c.tk, .int .i64 c.sh, va, vb, .bool c.cm, .int .i64 m.r.c.k, .int .i64 m.r.c.tc, .int .i64 m.r.c.tn, .int .i64 m.r.c.tt, .int .i64 m.r.c.tk, .int .i64 m.r.c.sh, ta, tb, .bool m.r.c.cm] 33))
    have Z0 := Lib.hid ((Cel.new1 w (.cells #[.int .i64 c.k, .int .i64 c.tc, .int .i64 c.tn, .int .i64 c.tt, .int .i64 c.tk, .int .i64 c.sh, va, vb, .bool c.cm] 33) [.int .i64 m.k, .int .i64 m.fr, .int .i64 m.to, .int .i64 m.bn, .int .i64 m.br, .int .i64 m.r.ir, .int .i64 m.r.is, .int .i64 m.r.st, .int .i64 m.r.pn, .int .i64 m.r.pr, .int .i64 m.r.bn, .int .i64 m.r.br, .int .i64 m.r.c.k, .int .i64 m.r.c.tc, .int .i64 m.r.c.tn, .int .i64 m.r.c.tt, .int .i64 m.r.c.tk, .int .i64 m.r.c.sh, ta, tb, .bool m.r.c.cm, .int .i64 m.r.sq, .int .i64 m.r.d0, .int .i64 m.r.d1, .int .i64 m.r.d2, .int .i64 m.r.d3, .int .i64 m.r.d4, .int .i64 m.r.d5, .int .i64 m.r.d6, .bool m.r.kp] 39).push (.cells #[.int .i64 c.k, .int .i64 c.tc, .int .i64 c.tn, .int .i64 c.tt, .int .i64 c.tk, .int .i64 c.sh, va, vb, .bool c.cm, .int .i64 m.r.c.k, .int .i64 m.r.c.tc, .int .i64 m.r.c.tn, .int .i64 m.r.c.tt, .int .i64 m.r.c.tk, .int .i64 m.r.c.sh, ta, tb, .bool m.r.c.cm] 33))
    have R0 := Lib.hid (h.below N2)
    have W0 := Lib.hid (h'.below N2)
    have T0 := Lib.hid (k.below N2)
    have U0 := Lib.hid (k'.below N2)
    clear h h' k k' N1 N2
    go_enter Try.func6, Try.ntmps6
    go_wp2_with (fail)
    refine (few_two (by simp) c m.r.c R0.out W0.out T0.out U0.out).mono ?_
    rintro e w1 ⟨rfl, hb⟩
    have B1 := Lib.hid (below_on N4.out hb)
    clear hb
    go_wp2_with (fail)
    refine (awake_any _).mono ?_
    rintro e w2 ⟨rfl, hb⟩
    have B2 := Lib.hid (below_on B1.out hb)
    clear hb
    go_wp2
    go_ret
    exact ⟨rfl, B2.out⟩
end Go.Proofs.Ytagngbdlpdilnaa
