/- Contract of the document's Message; no conditions but those that it names. -/
import Derived.Test.YtagngbdlpdilnaaRefR
namespace Go.Proofs.Ytagngbdlpdilnaa
open Go.RowKit

namespace M
theorem nb5 {a b c d e : Int} (h1 : Nb a) (h2 : Nb b) (h3 : Nb c) (h4 : Nb d) (h5 : Nb e) : ∀ z ∈ [a, b, c, d, e], 0 ≤ z ∧ z ≤ 1099511627776 := by
  intro z hz
  simp only [List.mem_cons, List.not_mem_nil, or_false] at hz
  rcases hz with rfl | rfl | rfl | rfl | rfl <;> assumption
theorem encC_max {c : Cmd} (F : Fits c) : (encC c).length ≤ 7000 := by
  have h1 := numsZ_len [c.k, c.tc, c.tn]
  have h2 := numsZ_len [c.tt, c.tk, c.sh]
  have h3 := numsZ_len [(c.rs.length : Int)]
  have h4 := numsZ_len [(c.ws.length : Int)]
  have h5 := rds_len c.rs (fun x hx => (F.rs x hx).1)
  have h6 := wrs_len c.ws F.ws
  have h7 := flag_len c.cm
  have h8 := F.rl
  have h9 := F.wl
  simp only [encC, List.length_append, List.length_cons, List.length_nil] at *
  omega
theorem encR_max {r : Rec} (F : FitsR r) : (encR r).length ≤ 7200 := by
  have h1 := numsZ_len [r.ir, r.is, r.st]
  have h2 := numsZ_len [r.pn, r.pr]
  have h3 := numsZ_len [r.bn, r.br]
  have h4 := numsZ_len [r.sq]
  have h5 := numsZ_len [r.d0, r.d1, r.d2, r.d3, r.d4, r.d5, r.d6]
  have h6 := flag_len r.kp
  have h7 := encC_max F.c
  simp only [encR, List.length_append, List.length_cons, List.length_nil] at *
  omega
end M

set_option maxHeartbeats 8000000 in
set_option maxRecDepth 100000 in
theorem refMessage_any {w : World} (m : M.Msg) {va vb : Value} (h : Rds w va m.r.c.rs) (h' : Wrs w vb m.r.c.ws) (F : M.FitsM m) : Calls Try.prog 23 #[.agg #[.int .i64 m.k, .int .i64 m.fr, .int .i64 m.to, .int .i64 m.bn, .int .i64 m.br, .int .i64 m.r.ir, .int .i64 m.r.is, .int .i64 m.r.st, .int .i64 m.r.pn, .int .i64 m.r.pr, .int .i64 m.r.bn, .int .i64 m.r.br, .int .i64 m.r.c.k, .int .i64 m.r.c.tc, .int .i64 m.r.c.tn, .int .i64 m.r.c.tt, .int .i64 m.r.c.tk, .int .i64 m.r.c.sh, va, vb, .bool m.r.c.cm, .int .i64 m.r.sq, .int .i64 m.r.d0, .int .i64 m.r.d1, .int .i64 m.r.d2, .int .i64 m.r.d3, .int .i64 m.r.d4, .int .i64 m.r.d5, .int .i64 m.r.d6, .bool m.r.kp]] w (Made8 (M.encM m) w) := by
  have RR := Lib.hid (h.push (.cells #[.int .i64 m.k, .int .i64 m.fr, .int .i64 m.to, .int .i64 m.bn, .int .i64 m.br, .int .i64 m.r.ir, .int .i64 m.r.is, .int .i64 m.r.st, .int .i64 m.r.pn, .int .i64 m.r.pr, .int .i64 m.r.bn, .int .i64 m.r.br, .int .i64 m.r.c.k, .int .i64 m.r.c.tc, .int .i64 m.r.c.tn, .int .i64 m.r.c.tt, .int .i64 m.r.c.tk, .int .i64 m.r.c.sh, va, vb, .bool m.r.c.cm, .int .i64 m.r.sq, .int .i64 m.r.d0, .int .i64 m.r.d1, .int .i64 m.r.d2, .int .i64 m.r.d3, .int .i64 m.r.d4, .int .i64 m.r.d5, .int .i64 m.r.d6, .bool m.r.kp] 39))
  have WW := Lib.hid (h'.push (.cells #[.int .i64 m.k, .int .i64 m.fr, .int .i64 m.to, .int .i64 m.bn, .int .i64 m.br, .int .i64 m.r.ir, .int .i64 m.r.is, .int .i64 m.r.st, .int .i64 m.r.pn, .int .i64 m.r.pr, .int .i64 m.r.bn, .int .i64 m.r.br, .int .i64 m.r.c.k, .int .i64 m.r.c.tc, .int .i64 m.r.c.tn, .int .i64 m.r.c.tt, .int .i64 m.r.c.tk, .int .i64 m.r.c.sh, va, vb, .bool m.r.c.cm, .int .i64 m.r.sq, .int .i64 m.r.d0, .int .i64 m.r.d1, .int .i64 m.r.d2, .int .i64 m.r.d3, .int .i64 m.r.d4, .int .i64 m.r.d5, .int .i64 m.r.d6, .bool m.r.kp] 39))
  have X0 := Lib.hid (Cel.new w [.int .i64 m.k, .int .i64 m.fr, .int .i64 m.to, .int .i64 m.bn, .int .i64 m.br, .int .i64 m.r.ir, .int .i64 m.r.is, .int .i64 m.r.st, .int .i64 m.r.pn, .int .i64 m.r.pr, .int .i64 m.r.bn, .int .i64 m.r.br, .int .i64 m.r.c.k, .int .i64 m.r.c.tc, .int .i64 m.r.c.tn, .int .i64 m.r.c.tt, .int .i64 m.r.c.tk, .int .i64 m.r.c.sh, va, vb, .bool m.r.c.cm, .int .i64 m.r.sq, .int .i64 m.r.d0, .int .i64 m.r.d1, .int .i64 m.r.d2, .int .i64 m.r.d3, .int .i64 m.r.d4, .int .i64 m.r.d5, .int .i64 m.r.d6, .bool m.r.kp] 39)
  have EB := Lib.hid (below_new (o := .cells #[.int .i64 m.k, .int .i64 m.fr, .int .i64 m.to, .int .i64 m.bn, .int .i64 m.br, .int .i64 m.r.ir, .int .i64 m.r.is, .int .i64 m.r.st, .int .i64 m.r.pn, .int .i64 m.r.pr, .int .i64 m.r.bn, .int .i64 m.r.br, .int .i64 m.r.c.k, .int .i64 m.r.c.tc, .int .i64 m.r.c.tn, .int .i64 m.r.c.tt, .int .i64 m.r.c.tk, .int .i64 m.r.c.sh, va, vb, .bool m.r.c.cm, .int .i64 m.r.sq, .int .i64 m.r.d0, .int .i64 m.r.d1, .int .i64 m.r.d2, .int .i64 m.r.d3, .int .i64 m.r.d4, .int .i64 m.r.d5, .int .i64 m.r.d6, .bool m.r.kp] 39) (Below.refl w.heap.size w))
  have O1 := Lib.hid (show Own ((w.alloc (.cells #[.int .i64 m.k, .int .i64 m.fr, .int .i64 m.to, .int .i64 m.bn, .int .i64 m.br, .int .i64 m.r.ir, .int .i64 m.r.is, .int .i64 m.r.st, .int .i64 m.r.pn, .int .i64 m.r.pr, .int .i64 m.r.bn, .int .i64 m.r.br, .int .i64 m.r.c.k, .int .i64 m.r.c.tc, .int .i64 m.r.c.tn, .int .i64 m.r.c.tt, .int .i64 m.r.c.tk, .int .i64 m.r.c.sh, va, vb, .bool m.r.c.cm, .int .i64 m.r.sq, .int .i64 m.r.d0, .int .i64 m.r.d1, .int .i64 m.r.d2, .int .i64 m.r.d3, .int .i64 m.r.d4, .int .i64 m.r.d5, .int .i64 m.r.d6, .bool m.r.kp] 39)).alloc (.cells #[.int .u8 3] 5)) (w.alloc (.cells #[.int .i64 m.k, .int .i64 m.fr, .int .i64 m.to, .int .i64 m.bn, .int .i64 m.br, .int .i64 m.r.ir, .int .i64 m.r.is, .int .i64 m.r.st, .int .i64 m.r.pn, .int .i64 m.r.pr, .int .i64 m.r.bn, .int .i64 m.r.br, .int .i64 m.r.c.k, .int .i64 m.r.c.tc, .int .i64 m.r.c.tn, .int .i64 m.r.c.tt, .int .i64 m.r.c.tk, .int .i64 m.r.c.sh, va, vb, .bool m.r.c.cm, .int .i64 m.r.sq, .int .i64 m.r.d0, .int .i64 m.r.d1, .int .i64 m.r.d2, .int .i64 m.r.d3, .int .i64 m.r.d4, .int .i64 m.r.d5, .int .i64 m.r.d6, .bool m.r.kp] 39)).heap.size (.slice (some ⟨w.heap.size + 1, 0, none⟩) 1 1) [UInt8.ofNat 3] from by
    have := Own.one (w.alloc (.cells #[.int .i64 m.k, .int .i64 m.fr, .int .i64 m.to, .int .i64 m.bn, .int .i64 m.br, .int .i64 m.r.ir, .int .i64 m.r.is, .int .i64 m.r.st, .int .i64 m.r.pn, .int .i64 m.r.pr, .int .i64 m.r.bn, .int .i64 m.r.br, .int .i64 m.r.c.k, .int .i64 m.r.c.tc, .int .i64 m.r.c.tn, .int .i64 m.r.c.tt, .int .i64 m.r.c.tk, .int .i64 m.r.c.sh, va, vb, .bool m.r.c.cm, .int .i64 m.r.sq, .int .i64 m.r.d0, .int .i64 m.r.d1, .int .i64 m.r.d2, .int .i64 m.r.d3, .int .i64 m.r.d4, .int .i64 m.r.d5, .int .i64 m.r.d6, .bool m.r.kp] 39)) 3 (by omega)
    simpa using this)
  have B1 := Lib.hid (below_new (o := .cells #[.int .u8 3] 5) (Below.refl (w.alloc (.cells #[.int .i64 m.k, .int .i64 m.fr, .int .i64 m.to, .int .i64 m.bn, .int .i64 m.br, .int .i64 m.r.ir, .int .i64 m.r.is, .int .i64 m.r.st, .int .i64 m.r.pn, .int .i64 m.r.pr, .int .i64 m.r.bn, .int .i64 m.r.br, .int .i64 m.r.c.k, .int .i64 m.r.c.tc, .int .i64 m.r.c.tn, .int .i64 m.r.c.tt, .int .i64 m.r.c.tk, .int .i64 m.r.c.sh, va, vb, .bool m.r.c.cm, .int .i64 m.r.sq, .int .i64 m.r.d0, .int .i64 m.r.d1, .int .i64 m.r.d2, .int .i64 m.r.d3, .int .i64 m.r.d4, .int .i64 m.r.d5, .int .i64 m.r.d6, .bool m.r.kp] 39)).heap.size (w.alloc (.cells #[.int .i64 m.k, .int .i64 m.fr, .int .i64 m.to, .int .i64 m.bn, .int .i64 m.br, .int .i64 m.r.ir, .int .i64 m.r.is, .int .i64 m.r.st, .int .i64 m.r.pn, .int .i64 m.r.pr, .int .i64 m.r.bn, .int .i64 m.r.br, .int .i64 m.r.c.k, .int .i64 m.r.c.tc, .int .i64 m.r.c.tn, .int .i64 m.r.c.tt, .int .i64 m.r.c.tk, .int .i64 m.r.c.sh, va, vb, .bool m.r.c.cm, .int .i64 m.r.sq, .int .i64 m.r.d0, .int .i64 m.r.d1, .int .i64 m.r.d2, .int .i64 m.r.d3, .int .i64 m.r.d4, .int .i64 m.r.d5, .int .i64 m.r.d6, .bool m.r.kp] 39))))
  have HL := Lib.hid (M.encR_max F.r)
  clear h h'
  go_enter Try.func23, Try.ntmps23
  go_wp2_with
    (first
     | (go_at_call 50
        refine (refNumsZ _ (by simp) [m.k, m.fr, m.to, m.bn, m.br] (M.nb5 F.k F.fr F.to F.bn F.br) (by simp)).mono ?_
        rintro e w2 ⟨v2, rfl, ho2, hb2⟩
        have hn := M.numsZ_len [m.k, m.fr, m.to, m.bn, m.br]
        obtain ⟨v3, w3, hr, ho3, hb3⟩ := put_new (O1.out.alloc (.cells #[.int .i64 m.k, .int .i64 m.fr, .int .i64 m.to, .int .i64 m.bn, .int .i64 m.br] 3)) (below_new B1.out) ho2 hb2 (by simp at hn ⊢; omega)
        have O3 := Lib.hid ho3
        have B3 := Lib.hid hb3
        have RG := Lib.hid ((X0.out.on hb3).range (pre := [.int .i64 m.k, .int .i64 m.fr, .int .i64 m.to, .int .i64 m.bn, .int .i64 m.br]) (L := [.int .i64 m.r.ir, .int .i64 m.r.is, .int .i64 m.r.st, .int .i64 m.r.pn, .int .i64 m.r.pr, .int .i64 m.r.bn, .int .i64 m.r.br, .int .i64 m.r.c.k, .int .i64 m.r.c.tc, .int .i64 m.r.c.tn, .int .i64 m.r.c.tt, .int .i64 m.r.c.tk, .int .i64 m.r.c.sh, va, vb, .bool m.r.c.cm, .int .i64 m.r.sq, .int .i64 m.r.d0, .int .i64 m.r.d1, .int .i64 m.r.d2, .int .i64 m.r.d3, .int .i64 m.r.d4, .int .i64 m.r.d5, .int .i64 m.r.d6, .bool m.r.kp]) (o := 5) rfl)
        clear ho2 hb2 ho3 hb3 hn)
     | (with_reducible refine wpList_load_mid rfl 37 _ rfl w.heap.size 5 rfl _ _ RG.out Try.underlying37 rfl (by kernel_rfl) ?_)
     | (go_at_call 22
        refine (refRecord_any m.r (RR.out.below B3.out) (WW.out.below B3.out) F.r).mono ?_
        rintro e w4 ⟨v4, rfl, ho2, hb2⟩
        obtain ⟨v5, w5, hr5, ho3, hb3⟩ := put_new O3.out B3.out ho2 hb2 (by have := HL.out; have hn := M.numsZ_len [m.k, m.fr, m.to, m.bn, m.br]; simp at hn ⊢; omega)
        have O5 := Lib.hid ho3
        have B5 := Lib.hid hb3
        clear ho2 hb2 ho3 hb3)
     | (at_builtin; refine Lib.wpList_append_run _ rfl _ _ _ _ rfl _ _ rfl rfl _ _ hr5 ?_)
     | (at_builtin; refine Lib.wpList_append_run _ rfl _ _ _ _ rfl _ _ rfl rfl _ _ hr ?_))
  go_ret
  have HE : [UInt8.ofNat 3] ++ M.numsZ [m.k, m.fr, m.to, m.bn, m.br] ++ M.encR m.r = M.encM m := by
    simp only [M.encM, M.numsZ_cons, M.numsZ_nil, List.append_assoc, List.append_nil, List.cons_append, List.nil_append]
    rfl
  have OZ := O5.out
  rw [HE] at OZ
  exact ⟨_, rfl, OZ.base EB.out.size, below_on EB.out B5.out⟩
end Go.Proofs.Ytagngbdlpdilnaa
