/- Contracts of putRecord and putMessage; no conditions but those that they name. -/
import Derived.Test.YtagngbdlpdilnaaRecs
namespace Go.Proofs.Ytagngbdlpdilnaa
open Go.RowKit

set_option maxHeartbeats 8000000 in
set_option maxRecDepth 100000 in
theorem putRecord_any {w0 w : World} {v : Value} {xs : List UInt8} (r : M.Rec) {va vb : Value} (h : Rds w0 va r.c.rs) (h' : Wrs w0 vb r.c.ws) (hb0 : Below w0.heap.size w0 w) (hown : Own w w0.heap.size v xs) (hl : xs.length ≤ 500) (F : M.FitsR r) :
    Calls Try.prog 75 #[v, .agg #[.int .i64 r.ir, .int .i64 r.is, .int .i64 r.st, .int .i64 r.pn, .int .i64 r.pr, .int .i64 r.bn, .int .i64 r.br, .int .i64 r.c.k, .int .i64 r.c.tc, .int .i64 r.c.tn, .int .i64 r.c.tt, .int .i64 r.c.tk, .int .i64 r.c.sh, va, vb, .bool r.c.cm, .int .i64 r.sq, .int .i64 r.d0, .int .i64 r.d1, .int .i64 r.d2, .int .i64 r.d3, .int .i64 r.d4, .int .i64 r.d5, .int .i64 r.d6, .bool r.kp]] w (Stp w w0.heap.size v (xs ++ M.encR r)) := by
  obtain ⟨i0, hi, hz0, hz1, hz2⟩ := info_parts info5
  have hw : w0.heap.size ≤ w.heap.size := hb0.size
  have X0 := Lib.hid (Cel.new w [.int .i64 r.ir, .int .i64 r.is, .int .i64 r.st, .int .i64 r.pn, .int .i64 r.pr, .int .i64 r.bn, .int .i64 r.br, .int .i64 r.c.k, .int .i64 r.c.tc, .int .i64 r.c.tn, .int .i64 r.c.tt, .int .i64 r.c.tk, .int .i64 r.c.sh, va, vb, .bool r.c.cm, .int .i64 r.sq, .int .i64 r.d0, .int .i64 r.d1, .int .i64 r.d2, .int .i64 r.d3, .int .i64 r.d4, .int .i64 r.d5, .int .i64 r.d6, .bool r.kp] 37)
  have HF := Lib.hid (hown.off (Nat.le_refl _))
  have HV := Lib.hid (show ∀ k, v.ownBlock = some k → w0.heap.size ≤ k from fun k e => (hown.lt e).1)
  have HB := Lib.hid (show Below w0.heap.size w0 (w.alloc (.cells #[.int .i64 r.ir, .int .i64 r.is, .int .i64 r.st, .int .i64 r.pn, .int .i64 r.pr, .int .i64 r.bn, .int .i64 r.br, .int .i64 r.c.k, .int .i64 r.c.tc, .int .i64 r.c.tn, .int .i64 r.c.tt, .int .i64 r.c.tk, .int .i64 r.c.sh, va, vb, .bool r.c.cm, .int .i64 r.sq, .int .i64 r.d0, .int .i64 r.d1, .int .i64 r.d2, .int .i64 r.d3, .int .i64 r.d4, .int .i64 r.d5, .int .i64 r.d6, .bool r.kp] 37)) from below_new hb0)
  have S0 := Lib.hid (show St (w.alloc (.cells #[.int .i64 r.ir, .int .i64 r.is, .int .i64 r.st, .int .i64 r.pn, .int .i64 r.pr, .int .i64 r.bn, .int .i64 r.br, .int .i64 r.c.k, .int .i64 r.c.tc, .int .i64 r.c.tn, .int .i64 r.c.tt, .int .i64 r.c.tk, .int .i64 r.c.sh, va, vb, .bool r.c.cm, .int .i64 r.sq, .int .i64 r.d0, .int .i64 r.d1, .int .i64 r.d2, .int .i64 r.d3, .int .i64 r.d4, .int .i64 r.d5, .int .i64 r.d6, .bool r.kp] 37)) w0.heap.size v (w.alloc (.cells #[.int .i64 r.ir, .int .i64 r.is, .int .i64 r.st, .int .i64 r.pn, .int .i64 r.pr, .int .i64 r.bn, .int .i64 r.br, .int .i64 r.c.k, .int .i64 r.c.tc, .int .i64 r.c.tn, .int .i64 r.c.tt, .int .i64 r.c.tk, .int .i64 r.c.sh, va, vb, .bool r.c.cm, .int .i64 r.sq, .int .i64 r.d0, .int .i64 r.d1, .int .i64 r.d2, .int .i64 r.d3, .int .i64 r.d4, .int .i64 r.d5, .int .i64 r.d6, .bool r.kp] 37)) v xs from St.new (hown.alloc _) (by simp; omega))
  have EB := Lib.hid (show Ext w (w.alloc (.cells #[.int .i64 r.ir, .int .i64 r.is, .int .i64 r.st, .int .i64 r.pn, .int .i64 r.pr, .int .i64 r.bn, .int .i64 r.br, .int .i64 r.c.k, .int .i64 r.c.tc, .int .i64 r.c.tn, .int .i64 r.c.tt, .int .i64 r.c.tk, .int .i64 r.c.sh, va, vb, .bool r.c.cm, .int .i64 r.sq, .int .i64 r.d0, .int .i64 r.d1, .int .i64 r.d2, .int .i64 r.d3, .int .i64 r.d4, .int .i64 r.d5, .int .i64 r.d6, .bool r.kp] 37)) v v from (Ext.refl _ _).alloc _)
  have HR := Lib.hid h
  have HW := Lib.hid h'
  clear h h' hb0 hown
  go_enter Try.func75, Try.ntmps75
  go_wp2_with
    (at_builtin
     refine wpList_append_own_at _ rfl _ _ 46 rfl w0.heap.size 5 i0 (.int .u8 0) 1 1 Try.underlying46 hi hz0 hz1 hz2 rfl (by decide) _ _ _ rfl (S0.out.own.alloc _) ⟨w.heap.size + 1, 0, none⟩ 1 1 [.int .u8 2] rfl rfl (cell_two_new _ _ _ _) (by simp [Value.oneCell']) (by unfold maxLen; omega) (by omega) (by simp; omega) ?_
     intro v1 w1 hown3 hgrow3 hnil3 hat3
     have S1 := Lib.hid (S0.out.push (n := 2) (by omega) _ hown3 hgrow3 hat3)
     clear hown3 hgrow3 hnil3 hat3
     have X1 := X0.out.st S1.out HF.out
     have l1 := X1.lt
     have p0 := X1.get 0 _ rfl
     have p1 := X1.get 1 _ rfl
     have p2 := X1.get 2 _ rfl
     clear X1)
  generalize (w.alloc _) = wB at *
  have L1 : (xs ++ [UInt8.ofNat 2]).length ≤ 501 := by simp; omega
  generalize hy : xs ++ [UInt8.ofNat 2] = y1 at S1 L1
  have Y1 := Lib.hid hy
  clear hy
  refine (S1.out.nums [r.ir, r.is, r.st] (M.nb3 F.ir F.is F.st) (by omega) (by simp)).mono ?_
  rintro e w2 ⟨v2, rfl, hs⟩
  have L2 : (y1 ++ M.numsZ [r.ir, r.is, r.st]).length ≤ 522 := by have := M.numsZ_len [r.ir, r.is, r.st]; simp at this ⊢; omega
  generalize hy : y1 ++ M.numsZ [r.ir, r.is, r.st] = y2 at hs L2
  have Y2 := Lib.hid hy
  have S2 := Lib.hid hs
  have X1 := X0.out.st hs HF.out
  clear hs hy S1 l1 p0 p1 p2
  have l1 := X1.lt
  have p3 := X1.get 3 _ rfl
  have p4 := X1.get 4 _ rfl
  clear X1
  go_wp2_with (fail)
  refine (S2.out.nums [r.pn, r.pr] (M.nb2 F.pn F.pr) (by omega) (by simp)).mono ?_
  rintro e w3 ⟨v3, rfl, hs⟩
  have L3 : (y2 ++ M.numsZ [r.pn, r.pr]).length ≤ 536 := by have := M.numsZ_len [r.pn, r.pr]; simp at this ⊢; omega
  generalize hy : y2 ++ M.numsZ [r.pn, r.pr] = y3 at hs L3
  have Y3 := Lib.hid hy
  have S3 := Lib.hid hs
  have X1 := X0.out.st hs HF.out
  clear hs hy S2 l1 p3 p4
  have l1 := X1.lt
  have p5 := X1.get 5 _ rfl
  have p6 := X1.get 6 _ rfl
  clear X1
  go_wp2_with (fail)
  refine (S3.out.nums [r.bn, r.br] (M.nb2 F.bn F.br) (by omega) (by simp)).mono ?_
  rintro e w4 ⟨v4, rfl, hs⟩
  have L4 : (y3 ++ M.numsZ [r.bn, r.br]).length ≤ 550 := by have := M.numsZ_len [r.bn, r.br]; simp at this ⊢; omega
  generalize hy : y3 ++ M.numsZ [r.bn, r.br] = y4 at hs L4
  have Y4 := Lib.hid hy
  have S4 := Lib.hid hs
  have X1 := X0.out.st hs HF.out
  clear hs hy S3 l1 p5 p6
  have l1 := X1.lt
  have p16 := X1.get 16 _ rfl
  clear X1
  go_wp2_with (fail)
  refine (S4.out.nums [r.sq] (M.nb1 F.sq) (by omega) (by simp)).mono ?_
  rintro e w5 ⟨v5, rfl, hs⟩
  have L5 : (y4 ++ M.numsZ [r.sq]).length ≤ 557 := by have := M.numsZ_len [r.sq]; simp at this ⊢; omega
  generalize hy : y4 ++ M.numsZ [r.sq] = y5 at hs L5
  have Y5 := Lib.hid hy
  have S5 := Lib.hid hs
  have X1 := X0.out.st hs HF.out
  clear hs hy S4 l1 p16
  have l1 := X1.lt
  have p17 := X1.get 17 _ rfl
  have p18 := X1.get 18 _ rfl
  have p19 := X1.get 19 _ rfl
  have p20 := X1.get 20 _ rfl
  have p21 := X1.get 21 _ rfl
  have p22 := X1.get 22 _ rfl
  have p23 := X1.get 23 _ rfl
  clear X1
  go_wp2_with (fail)
  refine (S5.out.ints (g := w.heap.size) (o := 17) [r.d0, r.d1, r.d2, r.d3, r.d4, r.d5, r.d6] (M.nb7 F.d0 F.d1 F.d2 F.d3 F.d4 F.d5 F.d6) l1 (by
    intro k hk
    match k, hk with
    | 0, _ => exact p17
    | 1, _ => exact p18
    | 2, _ => exact p19
    | 3, _ => exact p20
    | 4, _ => exact p21
    | 5, _ => exact p22
    | 6, _ => exact p23
    | k + 7, hk => simp at hk; omega) (S5.out.offs X0.out.lt HF.out) (by omega) (by simp)).mono ?_
  rintro e w6 ⟨v6, rfl, hs⟩
  have L6 : (y5 ++ M.numsZ [r.d0, r.d1, r.d2, r.d3, r.d4, r.d5, r.d6]).length ≤ 606 := by have := M.numsZ_len [r.d0, r.d1, r.d2, r.d3, r.d4, r.d5, r.d6]; simp at this ⊢; omega
  generalize hy : y5 ++ M.numsZ [r.d0, r.d1, r.d2, r.d3, r.d4, r.d5, r.d6] = y6 at hs L6
  have Y6 := Lib.hid hy
  have S6 := Lib.hid hs
  have X1 := X0.out.st hs HF.out
  clear hs hy S5 l1 p17 p18 p19 p20 p21 p22 p23
  have l1 := X1.lt
  have p24 := X1.get 24 _ rfl
  clear X1
  go_wp2_with (fail)
  refine (S6.out.flag r.kp (by omega)).mono ?_
  rintro e w7 ⟨v7, rfl, hs⟩
  have L7 : (y6 ++ M.flag r.kp).length ≤ 607 := by have := M.flag_len (r.kp); simp at this ⊢; omega
  generalize hy : y6 ++ M.flag r.kp = y7 at hs L7
  have Y7 := Lib.hid hy
  have S7 := Lib.hid hs
  have X1 := X0.out.st hs HF.out
  clear hs hy S6 l1 p24
  have l1 := X1.lt
  have p7 := X1.get 7 _ rfl
  have p8 := X1.get 8 _ rfl
  have p9 := X1.get 9 _ rfl
  have p10 := X1.get 10 _ rfl
  have p11 := X1.get 11 _ rfl
  have p12 := X1.get 12 _ rfl
  have p13 := X1.get 13 _ rfl
  have p14 := X1.get 14 _ rfl
  have p15 := X1.get 15 _ rfl
  clear X1
  go_wp2_with (fail)
  have HD := Lib.hid (S7.out.below HB.out HV.out)
  refine (S7.out.cmd r.c HR.out HW.out HD.out (by omega) F.c).mono ?_
  rintro e w9 ⟨v9, rfl, hs⟩
  have HE := Lib.hid (show y7 ++ M.encC r.c = xs ++ M.encR r by
    rw [← Y7.out, ← Y6.out, ← Y5.out, ← Y4.out, ← Y3.out, ← Y2.out, ← Y1.out]
    simp only [M.encR, List.append_assoc]
    rfl)
  rw [HE.out] at hs
  have S9 := Lib.hid hs
  clear hs l1 p7 p8 p9 p10 p11 p12 p13 p14 p15
  go_wp2
  go_ret
  exact ⟨_, rfl, S9.out.own, EB.out.trans S9.out.ext, by omega⟩

theorem St.rcd {w0 wB w' : World} {v y : Value} {ys : List UInt8} (h : St wB w0.heap.size v w' y ys) (r : M.Rec) {va vb : Value} (hr : Rds w0 va r.c.rs) (hw : Wrs w0 vb r.c.ws) (hb : Below w0.heap.size w0 w') (hl : ys.length ≤ 500) (F : M.FitsR r) :
    Calls Try.prog 75 #[y, .agg #[.int .i64 r.ir, .int .i64 r.is, .int .i64 r.st, .int .i64 r.pn, .int .i64 r.pr, .int .i64 r.bn, .int .i64 r.br, .int .i64 r.c.k, .int .i64 r.c.tc, .int .i64 r.c.tn, .int .i64 r.c.tt, .int .i64 r.c.tk, .int .i64 r.c.sh, va, vb, .bool r.c.cm, .int .i64 r.sq, .int .i64 r.d0, .int .i64 r.d1, .int .i64 r.d2, .int .i64 r.d3, .int .i64 r.d4, .int .i64 r.d5, .int .i64 r.d6, .bool r.kp]] w' (Stp wB w0.heap.size v (ys ++ M.encR r)) :=
  (putRecord_any r hr hw hb h.own hl F).mono fun _ _ ⟨z, e, hs⟩ => ⟨z, e, h.step hs.own hs.ext⟩

set_option maxHeartbeats 8000000 in
set_option maxRecDepth 100000 in
theorem putMessage_any {w0 w : World} {v : Value} {xs : List UInt8} (m : M.Msg) {va vb : Value} (h : Rds w0 va m.r.c.rs) (h' : Wrs w0 vb m.r.c.ws) (hb0 : Below w0.heap.size w0 w) (hown : Own w w0.heap.size v xs) (hl : xs.length ≤ 100) (F : M.FitsM m) :
    Calls Try.prog 76 #[v, .agg #[.int .i64 m.k, .int .i64 m.fr, .int .i64 m.to, .int .i64 m.bn, .int .i64 m.br, .int .i64 m.r.ir, .int .i64 m.r.is, .int .i64 m.r.st, .int .i64 m.r.pn, .int .i64 m.r.pr, .int .i64 m.r.bn, .int .i64 m.r.br, .int .i64 m.r.c.k, .int .i64 m.r.c.tc, .int .i64 m.r.c.tn, .int .i64 m.r.c.tt, .int .i64 m.r.c.tk, .int .i64 m.r.c.sh, va, vb, .bool m.r.c.cm, .int .i64 m.r.sq, .int .i64 m.r.d0, .int .i64 m.r.d1, .int .i64 m.r.d2, .int .i64 m.r.d3, .int .i64 m.r.d4, .int .i64 m.r.d5, .int .i64 m.r.d6, .bool m.r.kp]] w (Stp w w0.heap.size v (xs ++ M.encM m)) := by
  obtain ⟨i0, hi, hz0, hz1, hz2⟩ := info_parts info5
  have hw : w0.heap.size ≤ w.heap.size := hb0.size
  have X0 := Lib.hid (Cel.new w [.int .i64 m.k, .int .i64 m.fr, .int .i64 m.to, .int .i64 m.bn, .int .i64 m.br, .int .i64 m.r.ir, .int .i64 m.r.is, .int .i64 m.r.st, .int .i64 m.r.pn, .int .i64 m.r.pr, .int .i64 m.r.bn, .int .i64 m.r.br, .int .i64 m.r.c.k, .int .i64 m.r.c.tc, .int .i64 m.r.c.tn, .int .i64 m.r.c.tt, .int .i64 m.r.c.tk, .int .i64 m.r.c.sh, va, vb, .bool m.r.c.cm, .int .i64 m.r.sq, .int .i64 m.r.d0, .int .i64 m.r.d1, .int .i64 m.r.d2, .int .i64 m.r.d3, .int .i64 m.r.d4, .int .i64 m.r.d5, .int .i64 m.r.d6, .bool m.r.kp] 39)
  have HF := Lib.hid (hown.off (Nat.le_refl _))
  have HV := Lib.hid (show ∀ k, v.ownBlock = some k → w0.heap.size ≤ k from fun k e => (hown.lt e).1)
  have HB := Lib.hid (show Below w0.heap.size w0 (w.alloc (.cells #[.int .i64 m.k, .int .i64 m.fr, .int .i64 m.to, .int .i64 m.bn, .int .i64 m.br, .int .i64 m.r.ir, .int .i64 m.r.is, .int .i64 m.r.st, .int .i64 m.r.pn, .int .i64 m.r.pr, .int .i64 m.r.bn, .int .i64 m.r.br, .int .i64 m.r.c.k, .int .i64 m.r.c.tc, .int .i64 m.r.c.tn, .int .i64 m.r.c.tt, .int .i64 m.r.c.tk, .int .i64 m.r.c.sh, va, vb, .bool m.r.c.cm, .int .i64 m.r.sq, .int .i64 m.r.d0, .int .i64 m.r.d1, .int .i64 m.r.d2, .int .i64 m.r.d3, .int .i64 m.r.d4, .int .i64 m.r.d5, .int .i64 m.r.d6, .bool m.r.kp] 39)) from below_new hb0)
  have S0 := Lib.hid (show St (w.alloc (.cells #[.int .i64 m.k, .int .i64 m.fr, .int .i64 m.to, .int .i64 m.bn, .int .i64 m.br, .int .i64 m.r.ir, .int .i64 m.r.is, .int .i64 m.r.st, .int .i64 m.r.pn, .int .i64 m.r.pr, .int .i64 m.r.bn, .int .i64 m.r.br, .int .i64 m.r.c.k, .int .i64 m.r.c.tc, .int .i64 m.r.c.tn, .int .i64 m.r.c.tt, .int .i64 m.r.c.tk, .int .i64 m.r.c.sh, va, vb, .bool m.r.c.cm, .int .i64 m.r.sq, .int .i64 m.r.d0, .int .i64 m.r.d1, .int .i64 m.r.d2, .int .i64 m.r.d3, .int .i64 m.r.d4, .int .i64 m.r.d5, .int .i64 m.r.d6, .bool m.r.kp] 39)) w0.heap.size v (w.alloc (.cells #[.int .i64 m.k, .int .i64 m.fr, .int .i64 m.to, .int .i64 m.bn, .int .i64 m.br, .int .i64 m.r.ir, .int .i64 m.r.is, .int .i64 m.r.st, .int .i64 m.r.pn, .int .i64 m.r.pr, .int .i64 m.r.bn, .int .i64 m.r.br, .int .i64 m.r.c.k, .int .i64 m.r.c.tc, .int .i64 m.r.c.tn, .int .i64 m.r.c.tt, .int .i64 m.r.c.tk, .int .i64 m.r.c.sh, va, vb, .bool m.r.c.cm, .int .i64 m.r.sq, .int .i64 m.r.d0, .int .i64 m.r.d1, .int .i64 m.r.d2, .int .i64 m.r.d3, .int .i64 m.r.d4, .int .i64 m.r.d5, .int .i64 m.r.d6, .bool m.r.kp] 39)) v xs from St.new (hown.alloc _) (by simp; omega))
  have EB := Lib.hid (show Ext w (w.alloc (.cells #[.int .i64 m.k, .int .i64 m.fr, .int .i64 m.to, .int .i64 m.bn, .int .i64 m.br, .int .i64 m.r.ir, .int .i64 m.r.is, .int .i64 m.r.st, .int .i64 m.r.pn, .int .i64 m.r.pr, .int .i64 m.r.bn, .int .i64 m.r.br, .int .i64 m.r.c.k, .int .i64 m.r.c.tc, .int .i64 m.r.c.tn, .int .i64 m.r.c.tt, .int .i64 m.r.c.tk, .int .i64 m.r.c.sh, va, vb, .bool m.r.c.cm, .int .i64 m.r.sq, .int .i64 m.r.d0, .int .i64 m.r.d1, .int .i64 m.r.d2, .int .i64 m.r.d3, .int .i64 m.r.d4, .int .i64 m.r.d5, .int .i64 m.r.d6, .bool m.r.kp] 39)) v v from (Ext.refl _ _).alloc _)
  have HR := Lib.hid h
  have HW := Lib.hid h'
  clear h h' hb0 hown
  go_enter Try.func76, Try.ntmps76
  go_wp2_with
    (at_builtin
     refine wpList_append_own_at _ rfl _ _ 46 rfl w0.heap.size 5 i0 (.int .u8 0) 1 1 Try.underlying46 hi hz0 hz1 hz2 rfl (by decide) _ _ _ rfl (S0.out.own.alloc _) ⟨w.heap.size + 1, 0, none⟩ 1 1 [.int .u8 3] rfl rfl (cell_two_new _ _ _ _) (by simp [Value.oneCell']) (by unfold maxLen; omega) (by omega) (by simp; omega) ?_
     intro v1 w1 hown3 hgrow3 hnil3 hat3
     have S1 := Lib.hid (S0.out.push (n := 3) (by omega) _ hown3 hgrow3 hat3)
     clear hown3 hgrow3 hnil3 hat3
     have X1 := X0.out.st S1.out HF.out
     have l1 := X1.lt
     have p0 := X1.get 0 _ rfl
     have p1 := X1.get 1 _ rfl
     have p2 := X1.get 2 _ rfl
     clear X1)
  generalize (w.alloc _) = wB at *
  have L1 : (xs ++ [UInt8.ofNat 3]).length ≤ 101 := by simp; omega
  generalize hy : xs ++ [UInt8.ofNat 3] = y1 at S1 L1
  have Y1 := Lib.hid hy
  clear hy
  refine (S1.out.nums [m.k, m.fr, m.to] (M.nb3 F.k F.fr F.to) (by omega) (by simp)).mono ?_
  rintro e w2 ⟨v2, rfl, hs⟩
  have L2 : (y1 ++ M.numsZ [m.k, m.fr, m.to]).length ≤ 122 := by have := M.numsZ_len [m.k, m.fr, m.to]; simp at this ⊢; omega
  generalize hy : y1 ++ M.numsZ [m.k, m.fr, m.to] = y2 at hs L2
  have Y2 := Lib.hid hy
  have S2 := Lib.hid hs
  have X1 := X0.out.st hs HF.out
  clear hs hy S1 l1 p0 p1 p2
  have l1 := X1.lt
  have p3 := X1.get 3 _ rfl
  have p4 := X1.get 4 _ rfl
  clear X1
  go_wp2_with (fail)
  refine (S2.out.nums [m.bn, m.br] (M.nb2 F.bn F.br) (by omega) (by simp)).mono ?_
  rintro e w3 ⟨v3, rfl, hs⟩
  have L3 : (y2 ++ M.numsZ [m.bn, m.br]).length ≤ 136 := by have := M.numsZ_len [m.bn, m.br]; simp at this ⊢; omega
  generalize hy : y2 ++ M.numsZ [m.bn, m.br] = y3 at hs L3
  have Y3 := Lib.hid hy
  have S3 := Lib.hid hs
  have X1 := X0.out.st hs HF.out
  clear hs hy S2 l1 p3 p4
  have l1 := X1.lt
  have RG := Lib.hid (X1.range (pre := [.int .i64 m.k, .int .i64 m.fr, .int .i64 m.to, .int .i64 m.bn, .int .i64 m.br]) (L := [.int .i64 m.r.ir, .int .i64 m.r.is, .int .i64 m.r.st, .int .i64 m.r.pn, .int .i64 m.r.pr, .int .i64 m.r.bn, .int .i64 m.r.br, .int .i64 m.r.c.k, .int .i64 m.r.c.tc, .int .i64 m.r.c.tn, .int .i64 m.r.c.tt, .int .i64 m.r.c.tk, .int .i64 m.r.c.sh, va, vb, .bool m.r.c.cm, .int .i64 m.r.sq, .int .i64 m.r.d0, .int .i64 m.r.d1, .int .i64 m.r.d2, .int .i64 m.r.d3, .int .i64 m.r.d4, .int .i64 m.r.d5, .int .i64 m.r.d6, .bool m.r.kp]) (o := 5) rfl)

  clear X1
  go_wp2_with (with_reducible refine wpList_load_mid rfl 37 _ rfl w.heap.size 5 rfl _ _ RG.out Try.underlying37 rfl (by kernel_rfl) ?_)
  have HD := Lib.hid (S3.out.below HB.out HV.out)
  refine (S3.out.rcd m.r HR.out HW.out HD.out (by omega) F.r).mono ?_
  rintro e w9 ⟨v9, rfl, hs⟩
  have HE := Lib.hid (show y3 ++ M.encR m.r = xs ++ M.encM m by
    rw [← Y3.out, ← Y2.out, ← Y1.out]
    simp only [M.encM, List.append_assoc]
    rfl)
  rw [HE.out] at hs
  have S9 := Lib.hid hs
  clear hs l1
  go_wp2
  go_ret
  exact ⟨_, rfl, S9.out.own, EB.out.trans S9.out.ext, by omega⟩
end Go.Proofs.Ytagngbdlpdilnaa
