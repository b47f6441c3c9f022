/- Contracts of bytesOf; no conditions but those that they name. -/
import Derived.Test.YtagngbdlpdilnaaFresh
namespace Go.Proofs.Ytagngbdlpdilnaa
open Go.RowKit
attribute [local go_sem ↓] ta_yes33 ta_nil33 ta_yes37 ta_nil37 ta_yes39 ta_nil39 ta_no33_3 ta_no33_37 ta_no33_39 ta_no37_3 ta_no37_33 ta_no37_39 ta_no39_3 ta_no39_33 ta_no39_37

/-- New bytes. -/
def Made8 (xs : List UInt8) (w : World) (e : Ending) (w' : World) : Prop := ∃ v, e = .returned v ∧ Own w' w.heap.size v xs ∧ Below w.heap.size w w'
theorem Stp.made {w0 w w' : World} {ys : List UInt8} {e : Ending} (hb : Below w0.heap.size w0 w) (h : Stp w w0.heap.size (.slice none 0 0) ys e w') : Made8 ys w0 e w' := by
  obtain ⟨y, e, hs⟩ := h
  exact ⟨y, e, hs.own, hs.below hb (fun k e => by cases e)⟩
theorem Made8.mk {w0 w' : World} {v : Value} {ys : List UInt8} (h : Made8 ys w0 (.returned v) w') : Own w' w0.heap.size v ys ∧ Below w0.heap.size w0 w' := by
  obtain ⟨y, e, ho, hb⟩ := h
  cases e
  exact ⟨ho, hb⟩

set_option maxHeartbeats 4000000 in
set_option maxRecDepth 100000 in
theorem bytesOf_cmd {w : World} (c : M.Cmd) {va vb : Value} (h : Rds w va c.rs) (h' : Wrs w vb c.ws) (F : M.Fits c) : Calls Try.prog 45 #[.iface 33 (.agg #[.int .i64 c.k, .int .i64 c.tc, .int .i64 c.tn, .int .i64 c.tt, .int .i64 c.tk, .int .i64 c.sh, va, vb, .bool c.cm])] w (Made8 (M.encC c) w) := by
  have HR := Lib.hid h
  have HW := Lib.hid h'
  obtain ⟨A, c1, rfl, -, -⟩ := h.opened
  obtain ⟨A', c2, rfl, -, -⟩ := h'.opened
  have B0 := Lib.hid (below_new (o := .cells #[.int .i64 c.k, .int .i64 c.tc, .int .i64 c.tn, .int .i64 c.tt, .int .i64 c.tk, .int .i64 c.sh, (.slice A c.rs.length c1), (.slice A' c.ws.length c2), .bool c.cm] 33) (Below.refl w.heap.size w))
  clear h h'
  go_enter Try.func45, Try.ntmps45
  go_wp2_with (fail)
  refine (putCommand_any (w0 := w) c HR.out HW.out B0.out (Own.nil _ _) (by simp) F).mono ?_
  rintro e w1 hs
  have K := Stp.made B0.out hs
  obtain ⟨y, rfl, -⟩ := hs
  have K := Lib.hid K
  go_wp2
  go_ret
  exact K.out

set_option maxHeartbeats 4000000 in
set_option maxRecDepth 100000 in
theorem bytesOf_rec {w : World} (r : M.Rec) {va vb : Value} (h : Rds w va r.c.rs) (h' : Wrs w vb r.c.ws) (F : M.FitsR r) : Calls Try.prog 45 #[.iface 37 (.agg #[.int .i64 r.ir, .int .i64 r.is, .int .i64 r.st, .int .i64 r.pn, .int .i64 r.pr, .int .i64 r.bn, .int .i64 r.br, .int .i64 r.c.k, .int .i64 r.c.tc, .int .i64 r.c.tn, .int .i64 r.c.tt, .int .i64 r.c.tk, .int .i64 r.c.sh, va, vb, .bool r.c.cm, .int .i64 r.sq, .int .i64 r.d0, .int .i64 r.d1, .int .i64 r.d2, .int .i64 r.d3, .int .i64 r.d4, .int .i64 r.d5, .int .i64 r.d6, .bool r.kp])] w (Made8 (M.encR r) w) := by
  have HR := Lib.hid h
  have HW := Lib.hid h'
  obtain ⟨A, c1, rfl, -, -⟩ := h.opened
  obtain ⟨A', c2, rfl, -, -⟩ := h'.opened
  have RG := Lib.hid ((Cel.new w [.int .i64 r.ir, .int .i64 r.is, .int .i64 r.st, .int .i64 r.pn, .int .i64 r.pr, .int .i64 r.bn, .int .i64 r.br, .int .i64 r.c.k, .int .i64 r.c.tc, .int .i64 r.c.tn, .int .i64 r.c.tt, .int .i64 r.c.tk, .int .i64 r.c.sh, (.slice A r.c.rs.length c1), (.slice A' r.c.ws.length c2), .bool r.c.cm, .int .i64 r.sq, .int .i64 r.d0, .int .i64 r.d1, .int .i64 r.d2, .int .i64 r.d3, .int .i64 r.d4, .int .i64 r.d5, .int .i64 r.d6, .bool r.kp] 37).whole)
  have B0 := Lib.hid (below_new (o := .cells #[.int .i64 r.ir, .int .i64 r.is, .int .i64 r.st, .int .i64 r.pn, .int .i64 r.pr, .int .i64 r.bn, .int .i64 r.br, .int .i64 r.c.k, .int .i64 r.c.tc, .int .i64 r.c.tn, .int .i64 r.c.tt, .int .i64 r.c.tk, .int .i64 r.c.sh, (.slice A r.c.rs.length c1), (.slice A' r.c.ws.length c2), .bool r.c.cm, .int .i64 r.sq, .int .i64 r.d0, .int .i64 r.d1, .int .i64 r.d2, .int .i64 r.d3, .int .i64 r.d4, .int .i64 r.d5, .int .i64 r.d6, .bool r.kp] 37) (Below.refl w.heap.size w))
  clear h h'
  go_enter Try.func45, Try.ntmps45
  go_wp2_with (first
    | (with_reducible refine wpList_store_fresh rfl 37 _ _ rfl w.heap.size rfl 37 _ [.int .i64 r.ir, .int .i64 r.is, .int .i64 r.st, .int .i64 r.pn, .int .i64 r.pr, .int .i64 r.bn, .int .i64 r.br, .int .i64 r.c.k, .int .i64 r.c.tc, .int .i64 r.c.tn, .int .i64 r.c.tt, .int .i64 r.c.tk, .int .i64 r.c.sh, (.slice A r.c.rs.length c1), (.slice A' r.c.ws.length c2), .bool r.c.cm, .int .i64 r.sq, .int .i64 r.d0, .int .i64 r.d1, .int .i64 r.d2, .int .i64 r.d3, .int .i64 r.d4, .int .i64 r.d5, .int .i64 r.d6, .bool r.kp] rfl rfl rfl (by kernel_rfl) rfl ?_)
    | (with_reducible refine wpList_load_mid rfl 37 _ rfl w.heap.size 0 rfl _ _ RG.out Try.underlying37 rfl (by kernel_rfl) ?_))
  refine (putRecord_any (w0 := w) r HR.out HW.out B0.out (Own.nil _ _) (by simp) F).mono ?_
  rintro e w1 hs
  have K := Stp.made B0.out hs
  obtain ⟨y, rfl, -⟩ := hs
  have K := Lib.hid K
  go_wp2
  go_ret
  exact K.out

set_option maxHeartbeats 4000000 in
set_option maxRecDepth 100000 in
theorem bytesOf_msg {w : World} (m : M.Msg) {va vb : Value} (h : Rds w va m.r.c.rs) (h' : Wrs w vb m.r.c.ws) (F : M.FitsM m) : Calls Try.prog 45 #[.iface 39 (.agg #[.int .i64 m.k, .int .i64 m.fr, .int .i64 m.to, .int .i64 m.bn, .int .i64 m.br, .int .i64 m.r.ir, .int .i64 m.r.is, .int .i64 m.r.st, .int .i64 m.r.pn, .int .i64 m.r.pr, .int .i64 m.r.bn, .int .i64 m.r.br, .int .i64 m.r.c.k, .int .i64 m.r.c.tc, .int .i64 m.r.c.tn, .int .i64 m.r.c.tt, .int .i64 m.r.c.tk, .int .i64 m.r.c.sh, va, vb, .bool m.r.c.cm, .int .i64 m.r.sq, .int .i64 m.r.d0, .int .i64 m.r.d1, .int .i64 m.r.d2, .int .i64 m.r.d3, .int .i64 m.r.d4, .int .i64 m.r.d5, .int .i64 m.r.d6, .bool m.r.kp])] w (Made8 (M.encM m) w) := by
  have HR := Lib.hid h
  have HW := Lib.hid h'
  obtain ⟨A, c1, rfl, -, -⟩ := h.opened
  obtain ⟨A', c2, rfl, -, -⟩ := h'.opened
  have RG := Lib.hid ((Cel.new w [.int .i64 m.k, .int .i64 m.fr, .int .i64 m.to, .int .i64 m.bn, .int .i64 m.br, .int .i64 m.r.ir, .int .i64 m.r.is, .int .i64 m.r.st, .int .i64 m.r.pn, .int .i64 m.r.pr, .int .i64 m.r.bn, .int .i64 m.r.br, .int .i64 m.r.c.k, .int .i64 m.r.c.tc, .int .i64 m.r.c.tn, .int .i64 m.r.c.tt, .int .i64 m.r.c.tk, .int .i64 m.r.c.sh, (.slice A m.r.c.rs.length c1), (.slice A' m.r.c.ws.length c2), .bool m.r.c.cm, .int .i64 m.r.sq, .int .i64 m.r.d0, .int .i64 m.r.d1, .int .i64 m.r.d2, .int .i64 m.r.d3, .int .i64 m.r.d4, .int .i64 m.r.d5, .int .i64 m.r.d6, .bool m.r.kp] 39).whole)
  have B0 := Lib.hid (below_new (o := .cells #[.int .i64 m.k, .int .i64 m.fr, .int .i64 m.to, .int .i64 m.bn, .int .i64 m.br, .int .i64 m.r.ir, .int .i64 m.r.is, .int .i64 m.r.st, .int .i64 m.r.pn, .int .i64 m.r.pr, .int .i64 m.r.bn, .int .i64 m.r.br, .int .i64 m.r.c.k, .int .i64 m.r.c.tc, .int .i64 m.r.c.tn, .int .i64 m.r.c.tt, .int .i64 m.r.c.tk, .int .i64 m.r.c.sh, (.slice A m.r.c.rs.length c1), (.slice A' m.r.c.ws.length c2), .bool m.r.c.cm, .int .i64 m.r.sq, .int .i64 m.r.d0, .int .i64 m.r.d1, .int .i64 m.r.d2, .int .i64 m.r.d3, .int .i64 m.r.d4, .int .i64 m.r.d5, .int .i64 m.r.d6, .bool m.r.kp] 39) (Below.refl w.heap.size w))
  clear h h'
  go_enter Try.func45, Try.ntmps45
  go_wp2_with (first
    | (with_reducible refine wpList_store_fresh rfl 39 _ _ rfl w.heap.size rfl 39 _ [.int .i64 m.k, .int .i64 m.fr, .int .i64 m.to, .int .i64 m.bn, .int .i64 m.br, .int .i64 m.r.ir, .int .i64 m.r.is, .int .i64 m.r.st, .int .i64 m.r.pn, .int .i64 m.r.pr, .int .i64 m.r.bn, .int .i64 m.r.br, .int .i64 m.r.c.k, .int .i64 m.r.c.tc, .int .i64 m.r.c.tn, .int .i64 m.r.c.tt, .int .i64 m.r.c.tk, .int .i64 m.r.c.sh, (.slice A m.r.c.rs.length c1), (.slice A' m.r.c.ws.length c2), .bool m.r.c.cm, .int .i64 m.r.sq, .int .i64 m.r.d0, .int .i64 m.r.d1, .int .i64 m.r.d2, .int .i64 m.r.d3, .int .i64 m.r.d4, .int .i64 m.r.d5, .int .i64 m.r.d6, .bool m.r.kp] rfl rfl rfl (by kernel_rfl) rfl ?_)
    | (with_reducible refine wpList_load_mid rfl 39 _ rfl w.heap.size 0 rfl _ _ RG.out Try.underlying39 rfl (by kernel_rfl) ?_))
  refine (putMessage_any (w0 := w) m HR.out HW.out B0.out (Own.nil _ _) (by simp) F).mono ?_
  rintro e w1 hs
  have K := Stp.made B0.out hs
  obtain ⟨y, rfl, -⟩ := hs
  have K := Lib.hid K
  go_wp2
  go_ret
  exact K.out
end Go.Proofs.Ytagngbdlpdilnaa
