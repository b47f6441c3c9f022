/- The walk of WireLong; no conditions. -/
import Derived.Test.YtagngbdlpdilnaaLen
import Derived.Test.YtagngbdlpdilnaaFewN
namespace Go.Proofs.Ytagngbdlpdilnaa
open Go.ChangeShapes Go.WideShapes Go.ChangeAt Go.RowKit

theorem long_c (c : M.Cmd) : (if M.rightC c then M.encC c else []).length ≤ 4096 := by
  split
  · rename_i h; have := M.encC_len (M.right_tiny h); omega
  · simp
theorem long_r (r : M.Rec) : (if M.rightR r then M.encR r else []).length ≤ 4096 := by
  split
  · rename_i h; have := M.encR_len (M.right_tiny (M.rightR_cmd h)); omega
  · simp
theorem long_m (m : M.Msg) : (if M.rightM m then M.encM m else []).length ≤ 4096 := by
  split
  · rename_i h; have := M.encM_len (M.right_tiny (M.rightR_cmd (M.rightM_rec h))); omega
  · simp
theorem long_two (m : M.Msg) : (if M.rightM m then M.encM m else []).length = 0 ∨ ((if M.rightR m.r then M.encR m.r else []).length < (if M.rightM m then M.encM m else []).length ∧ ¬ (if M.rightM m then M.encM m else []).length = 0) := by
  by_cases h : M.rightM m = true
  · right
    rw [if_pos h, if_pos (M.rightM_rec h)]
    have := M.encM_len (M.right_tiny (M.rightR_cmd (M.rightM_rec h)))
    exact ⟨this.2, by omega⟩
  · left; rw [if_neg h]; rfl

set_option maxHeartbeats 8000000 in
set_option maxRecDepth 100000 in
theorem long_law (c : M.Cmd) (m : M.Msg) {va vb ta tb : Value} (w : World) (h : Rds w va c.rs) (h' : Wrs w vb c.ws) (k : Rds w ta m.r.c.rs) (k' : Wrs w tb m.r.c.ws) : Calls Try.prog 9 #[.agg #[.int .i64 c.k, .int .i64 c.tc, .int .i64 c.tn, .int .i64 c.tt, .int .i64 c.tk, .int .i64 c.sh, va, vb, .bool c.cm], .agg #[.int .i64 m.k, .int .i64 m.fr, .int .i64 m.to, .int .i64 m.bn, .int .i64 m.br, .int .i64 m.r.ir, .int .i64 m.r.is, .int .i64 m.r.st, .int .i64 m.r.pn, .int .i64 m.r.pr, .int .i64 m.r.bn, .int .i64 m.r.br, .int .i64 m.r.c.k, .int .i64 m.r.c.tc, .int .i64 m.r.c.tn, .int .i64 m.r.c.tt, .int .i64 m.r.c.tk, .int .i64 m.r.c.sh, ta, tb, .bool m.r.c.cm, .int .i64 m.r.sq, .int .i64 m.r.d0, .int .i64 m.r.d1, .int .i64 m.r.d2, .int .i64 m.r.d3, .int .i64 m.r.d4, .int .i64 m.r.d5, .int .i64 m.r.d6, .bool m.r.kp]] w (Yes w) := by
  have N1 := below_new (o := .cells #[.int .i64 c.k, .int .i64 c.tc, .int .i64 c.tn, .int .i64 c.tt, .int .i64 c.tk, .int .i64 c.sh, va, vb, .bool c.cm] 33) (Below.refl w.heap.size w)
  have N2 := below_new (o := .cells #[.int .i64 m.k, .int .i64 m.fr, .int .i64 m.to, .int .i64 m.bn, .int .i64 m.br, .int .i64 m.r.ir, .int .i64 m.r.is, .int .i64 m.r.st, .int .i64 m.r.pn, .int .i64 m.r.pr, .int .i64 m.r.bn, .int .i64 m.r.br, .int .i64 m.r.c.k, .int .i64 m.r.c.tc, .int .i64 m.r.c.tn, .int .i64 m.r.c.tt, .int .i64 m.r.c.tk, .int .i64 m.r.c.sh, ta, tb, .bool m.r.c.cm, .int .i64 m.r.sq, .int .i64 m.r.d0, .int .i64 m.r.d1, .int .i64 m.r.d2, .int .i64 m.r.d3, .int .i64 m.r.d4, .int .i64 m.r.d5, .int .i64 m.r.d6, .bool m.r.kp] 39) N1
  have N4 := Lib.hid (below_new (o := .cells #[.int .i64 c.k, .int .i64 c.tc, .int .i64 c.tn, .int .i64 c.tt, .int .i64 c.tk, .int .i64 c.sh, va, vb, .bool c.cm, .int .i64 m.r.c.k, .int .i64 m.r.c.tc, .int .i64 m.r.c.tn, .int .i64 m.r.c.tt, .int .i64 m.r.c.tk, .int .i64 m.r.c.sh, ta, tb, .bool m.r.c.cm] 33) N2)
  have X0 := Lib.hid (((Cel.new w [.int .i64 c.k, .int .i64 c.tc, .int .i64 c.tn, .int .i64 c.tt, .int .i64 c.tk, .int .i64 c.sh, va, vb, .bool c.cm] 33).push (.cells #[.int .i64 m.k, .int .i64 m.fr, .int .i64 m.to, .int .i64 m.bn, .int .i64 m.br, .int .i64 m.r.ir, .int .i64 m.r.is, .int .i64 m.r.st, .int .i64 m.r.pn, .int .i64 m.r.pr, .int .i64 m.r.bn, .int .i64 m.r.br, .int .i64 m.r.c.k, .int .i64 m.r.c.tc, .int .i64 m.r.c.tn, .int .i64 m.r.c.tt, .int .i64 m.r.c.tk, .int .i64 m.r.c.sh, ta, tb, .bool m.r.c.cm, .int .i64 m.r.sq, .int .i64 m.r.d0, .int .i64 m.r.d1, .int .i64 m.r.d2, .int .i64 m.r.d3, .int .i64 m.r.d4, .int .i64 m.r.d5, .int .i64 m.r.d6, .bool m.r.kp] 39)).push (.cells #[.int .i64 c.k, .int .i64 c.tc, .int .i64 c.tn, .int .i64 c.tt, .int .i64 c.tk, .int .i64 c.sh, va, vb, .bool c.cm, .int .i64 m.r.c.k, .int .i64 m.r.c.tc, .int .i64 m.r.c.tn, .int .i64 m.r.c.tt, .int .i64 m.r.c.tk, .int .i64 m.r.c.sh, ta, tb, .bool m.r.c.cm] 33))
  have Z0 := Lib.hid ((Cel.new1 w (.cells #[.int .i64 c.k, .int .i64 c.tc, .int .i64 c.tn, .int .i64 c.tt, .int .i64 c.tk, .int .i64 c.sh, va, vb, .bool c.cm] 33) [.int .i64 m.k, .int .i64 m.fr, .int .i64 m.to, .int .i64 m.bn, .int .i64 m.br, .int .i64 m.r.ir, .int .i64 m.r.is, .int .i64 m.r.st, .int .i64 m.r.pn, .int .i64 m.r.pr, .int .i64 m.r.bn, .int .i64 m.r.br, .int .i64 m.r.c.k, .int .i64 m.r.c.tc, .int .i64 m.r.c.tn, .int .i64 m.r.c.tt, .int .i64 m.r.c.tk, .int .i64 m.r.c.sh, ta, tb, .bool m.r.c.cm, .int .i64 m.r.sq, .int .i64 m.r.d0, .int .i64 m.r.d1, .int .i64 m.r.d2, .int .i64 m.r.d3, .int .i64 m.r.d4, .int .i64 m.r.d5, .int .i64 m.r.d6, .bool m.r.kp] 39).push (.cells #[.int .i64 c.k, .int .i64 c.tc, .int .i64 c.tn, .int .i64 c.tt, .int .i64 c.tk, .int .i64 c.sh, va, vb, .bool c.cm, .int .i64 m.r.c.k, .int .i64 m.r.c.tc, .int .i64 m.r.c.tn, .int .i64 m.r.c.tt, .int .i64 m.r.c.tk, .int .i64 m.r.c.sh, ta, tb, .bool m.r.c.cm] 33))
  have R0 := Lib.hid (h.below N2)
  have W0 := Lib.hid (h'.below N2)
  have T0 := Lib.hid (k.below N2)
  have U0 := Lib.hid (k'.below N2)
  clear h h' k k' N1 N2
  rcases two (M.modB c && M.modB m.r.c) with f | f
  · have F := M.modB_iff.1 (Bool.and_eq_true_iff.1 f).1
    have G := M.modB_iff.1 (Bool.and_eq_true_iff.1 f).2
    go_enter Try.func9, Try.ntmps9
    go_wp2_with (fail)
    refine (few_two (by simp) c m.r.c R0.out W0.out T0.out U0.out).mono ?_
    rintro e w1 ⟨rfl, hb⟩
    have X1 := Lib.hid (X0.out.on hb)
    have Z1 := Lib.hid (Z0.out.on hb)
    have R1 := Lib.hid ((R0.out.push _).below hb)
    have W1 := Lib.hid ((W0.out.push _).below hb)
    have T1 := Lib.hid ((T0.out.push _).below hb)
    have U1 := Lib.hid ((U0.out.push _).below hb)
    have B1 := Lib.hid (below_on N4.out hb)
    clear hb X0 Z0 R0 W0 T0 U0 N4
    go_wp2_with (with_reducible refine wpList_load_mid rfl 33 _ rfl w.heap.size 0 rfl _ _ X1.out.whole Try.underlying33 rfl (by kernel_rfl) ?_)
    refine (encode_cmd c R1.out W1.out F).mono ?_
    rintro e w2 ⟨vx, rfl, ho, hb⟩
    generalize hl : (if M.rightC c then M.encC c else []) = lx at ho
    have Hx := Lib.hid hl
    obtain ⟨Ax, cx, rfl, -⟩ := ho.slice
    have Ox := Lib.hid ho
    generalize hn : (if M.rightC c then (0 : Int) else 1) = erx
    have Nx := Lib.hid hn
    have X2 := Lib.hid (X1.out.on hb)
    have Z2 := Lib.hid (Z1.out.on hb)
    have R2 := Lib.hid (R1.out.below hb)
    have W2 := Lib.hid (W1.out.below hb)
    have T2 := Lib.hid (T1.out.below hb)
    have U2 := Lib.hid (U1.out.below hb)
    have B2 := Lib.hid (below_on B1.out hb)
    clear hb ho hl hn X1 Z1 R1 W1 T1 U1
    go_wp2_with (with_reducible refine wpList_load_mid rfl 37 _ rfl (w.heap.size + 1) 5 rfl _ _ (Z2.out.range (pre := [.int .i64 m.k, .int .i64 m.fr, .int .i64 m.to, .int .i64 m.bn, .int .i64 m.br]) (L := [.int .i64 m.r.ir, .int .i64 m.r.is, .int .i64 m.r.st, .int .i64 m.r.pn, .int .i64 m.r.pr, .int .i64 m.r.bn, .int .i64 m.r.br, .int .i64 m.r.c.k, .int .i64 m.r.c.tc, .int .i64 m.r.c.tn, .int .i64 m.r.c.tt, .int .i64 m.r.c.tk, .int .i64 m.r.c.sh, ta, tb, .bool m.r.c.cm, .int .i64 m.r.sq, .int .i64 m.r.d0, .int .i64 m.r.d1, .int .i64 m.r.d2, .int .i64 m.r.d3, .int .i64 m.r.d4, .int .i64 m.r.d5, .int .i64 m.r.d6, .bool m.r.kp]) (o := 5) rfl) Try.underlying37 rfl (by kernel_rfl) ?_)
    refine (encode_rec m.r T2.out U2.out G).mono ?_
    rintro e w3 ⟨vy, rfl, ho, hb⟩
    generalize hl : (if M.rightR m.r then M.encR m.r else []) = ly at ho
    have Hy := Lib.hid hl
    obtain ⟨Ay, cy, rfl, -⟩ := ho.slice
    have Oy := Lib.hid ho
    generalize hn : (if M.rightR m.r then (0 : Int) else 1) = ery
    have Ny := Lib.hid hn
    have X3 := Lib.hid (X2.out.on hb)
    have Z3 := Lib.hid (Z2.out.on hb)
    have R3 := Lib.hid (R2.out.below hb)
    have W3 := Lib.hid (W2.out.below hb)
    have T3 := Lib.hid (T2.out.below hb)
    have U3 := Lib.hid (U2.out.below hb)
    have B3 := Lib.hid (below_on B2.out hb)
    clear hb ho hl hn X2 Z2 R2 W2 T2 U2
    go_wp2_with (with_reducible refine wpList_load_mid rfl 39 _ rfl (w.heap.size + 1) 0 rfl _ _ Z3.out.whole Try.underlying39 rfl (by kernel_rfl) ?_)
    refine (encode_msg m T3.out U3.out G).mono ?_
    rintro e w4 ⟨vz, rfl, ho, hb⟩
    generalize hl : (if M.rightM m then M.encM m else []) = lz at ho
    have Hz := Lib.hid hl
    obtain ⟨Az, cz, rfl, -⟩ := ho.slice
    have Oz := Lib.hid ho
    generalize hn : (if M.rightM m then (0 : Int) else 1) = erz
    have Nz := Lib.hid hn
    have X4 := Lib.hid (X3.out.on hb)
    have Z4 := Lib.hid (Z3.out.on hb)
    have R4 := Lib.hid (R3.out.below hb)
    have W4 := Lib.hid (W3.out.below hb)
    have T4 := Lib.hid (T3.out.below hb)
    have U4 := Lib.hid (U3.out.below hb)
    have B4 := Lib.hid (below_on B3.out hb)
    clear hb ho hl hn X3 Z3 R3 W3 T3 U3
    have hx := long_c c
    have hy := long_r m.r
    have hz := long_m m
    have hw := long_two m
    rw [Hx.out] at hx
    rw [Hy.out] at hy
    rw [Hz.out] at hz
    rw [Hz.out, Hy.out] at hw
    clear Ox Oy Oz Hx Hy Hz Nx Ny Nz X4 Z4 R4 W4 T4 U4
    generalize lx.length = x at *
    generalize ly.length = y at *
    generalize lz.length = z at *
    rcases hw with hw | ⟨hw, hw2⟩
    · obtain ⟨q1, q2⟩ := zz hw
      have Q := Lib.hid hw
      clear hw
      go_wp2_with (fail)
      refine (awake_any _).mono ?_
      rintro e w5 ⟨rfl, hb⟩
      have B5 := Lib.hid (below_on B4.out hb)
      clear hb
      go_wp2
      go_ret
      exact ⟨rfl, B5.out⟩
    · obtain ⟨q1, q2⟩ := nz hw2
      clear hw2
      go_wp2_with (fail)
      refine (awake_any _).mono ?_
      rintro e w5 ⟨rfl, hb⟩
      have B5 := Lib.hid (below_on B4.out hb)
      clear hb
      go_wp2
      go_ret
      exact ⟨rfl, B5.out⟩
  · go_enter Try.func9, Try.ntmps9
    go_wp2_with (fail)
    refine (few_two (by simp) c m.r.c R0.out W0.out T0.out U0.out).mono ?_
    rintro e w1 ⟨rfl, hb⟩
    have B1 := Lib.hid (below_on N4.out hb)
    clear hb
    go_wp2_with (fail)
    refine (awake_any _).mono ?_
    rintro e w2 ⟨rfl, hb⟩
    have B2 := Lib.hid (below_on B1.out hb)
    clear hb
    go_wp2
    go_ret
    exact ⟨rfl, B2.out⟩
end Go.Proofs.Ytagngbdlpdilnaa
