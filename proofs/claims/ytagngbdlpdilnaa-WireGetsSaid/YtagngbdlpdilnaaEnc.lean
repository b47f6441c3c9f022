/- Contracts of isRight and Encode; no conditions but those that they name. -/
import Derived.Test.YtagngbdlpdilnaaByo
import Derived.Test.YtagngbdlpdilnaaRecM
namespace Go.Proofs.Ytagngbdlpdilnaa
open Go.ChangeShapes Go.WideShapes Go.ChangeAt Go.RowKit
attribute [local go_sem ↓] ta_yes33 ta_nil33 ta_yes37 ta_nil37 ta_yes39 ta_nil39 ta_no33_3 ta_no33_37 ta_no33_39 ta_no37_3 ta_no37_33 ta_no37_39 ta_no39_3 ta_no39_33 ta_no39_37

namespace M
theorem sameC_eq {a b : Cmd} (h : sameC a b = true) : a = b := by
  unfold sameC eq2 sameR sameW at h
  rw [Bool.and_eq_true, Bool.and_eq_true, Bool.and_eq_true, Bool.and_eq_true, Bool.and_eq_true, Bool.and_eq_true] at h
  obtain ⟨h0, h1, h3, h5, h6, h7, h8⟩ := h
  have g1 := of_decide_eq_true h1
  have g3 := of_decide_eq_true h3
  have g6 := eq_of_beq h6
  cases a; cases b
  simp only [Cmd.mk.injEq]
  exact ⟨of_decide_eq_true h0, g1.1, g1.2, g3.1, g3.2, of_decide_eq_true h5, of_decide_eq_true h7, of_decide_eq_true h8, g6⟩
theorem sameRec_st {a b : Rec} (h : sameRec a b = true) : a.st = b.st ∧ a.sq = b.sq := by
  unfold sameRec at h
  rw [Bool.and_eq_true, Bool.and_eq_true, Bool.and_eq_true, Bool.and_eq_true, Bool.and_eq_true, Bool.and_eq_true] at h
  obtain ⟨_, g2, _, _, _, g6, _⟩ := h
  exact ⟨of_decide_eq_true g2, of_decide_eq_true g6⟩
theorem sameC_zero {c : Cmd} (h : sameC c zero = true) : c = zero := sameC_eq h
theorem nb_0 : Nb 0 := ⟨by omega, by omega⟩
theorem nb_1 : Nb 1 := ⟨by omega, by omega⟩
theorem nb_2 : Nb 2 := ⟨by omega, by omega⟩
theorem zero_fits : Fits zero := ⟨nb_0, nb_0, nb_0, nb_0, nb_0, nb_0, by decide, by decide, (fun r h => by cases h), (fun r h => by cases h)⟩
theorem trans_fits {c : Cmd} (hk : Nb c.k) (h : transB c = true) (F : Mod c) : Fits c := by
  simp only [transB, Bool.and_eq_true, decide_eq_true_eq, areR, areW] at h
  obtain ⟨h1, h2, h3, h4, h5, h6, h7, ⟨h8, h9⟩, h10, h11⟩ := h
  have a := pair_iff.1 h1
  have b := pair_iff.1 h2
  refine ⟨hk, ⟨by omega, by omega⟩, ⟨by omega, by omega⟩, ⟨by omega, by omega⟩, ⟨by omega, by omega⟩, ⟨by omega, by omega⟩, F.r, F.w, fun r hr => ?_, fun r hr => ⟨F.wk r hr, F.wv r hr⟩⟩
  rw [List.all_eq_true] at h8
  have d := h8 r hr
  simp only [oldAt, oldB, Bool.and_eq_true] at d
  have e := pair_iff.1 d.1
  exact ⟨F.rk r hr, ⟨by omega, by omega⟩, ⟨by omega, by omega⟩⟩
theorem right_fits {c : Cmd} (h : rightC c = true) (F : Mod c) : Fits c := by
  unfold rightC at h
  split at h
  · rw [sameC_zero h]; exact zero_fits
  · split at h
    · rename_i h1
      rw [Bool.and_eq_true] at h
      exact trans_fits (by rw [h1]; exact nb_1) h.1 F
    · split at h
      · rename_i h2
        exact trans_fits (by rw [h2]; exact nb_2) h F
      · cases h
theorem rightR_fits {r : Rec} (h : rightR r = true) (F : Mod r.c) : FitsR r := by
  simp only [rightR, Bool.and_eq_true, decide_eq_true_eq] at h
  obtain ⟨h1, h2, h3, h4, h5, h6, h7⟩ := h
  have a := pair_iff.1 h1
  have b := pair_iff.1 h2
  have d := pair_iff.1 h3
  rw [V7.right_iff, V7.all7 (p := fun k => 0 ≤ dep r k ∧ dep r k ≤ 1048576)] at h6
  simp only [dep] at h6
  have hs : Nb r.st ∧ Nb r.sq := by
    unfold fitsS at h7
    unfold Nb
    split at h7
    · have g : r.st = 0 ∧ r.sq = 0 := sameRec_st h7
      omega
    · split at h7
      · simp only [seqB, Bool.and_eq_true, decide_eq_true_eq] at h7
        omega
      · split at h7
        · simp only [seqB, Bool.and_eq_true, decide_eq_true_eq] at h7
          omega
        · cases h7
  exact ⟨⟨by omega, by omega⟩, ⟨by omega, by omega⟩, hs.1, ⟨by omega, by omega⟩, ⟨by omega, by omega⟩, ⟨by omega, by omega⟩, ⟨by omega, by omega⟩, right_fits h5 F, hs.2, ⟨by omega, by omega⟩, ⟨by omega, by omega⟩, ⟨by omega, by omega⟩, ⟨by omega, by omega⟩, ⟨by omega, by omega⟩, ⟨by omega, by omega⟩, ⟨by omega, by omega⟩⟩
theorem rightM_fits {m : Msg} (h : rightM m = true) (F : Mod m.r.c) : FitsM m := by
  simp only [rightM, Bool.and_eq_true, decide_eq_true_eq] at h
  obtain ⟨h1, h2, h3, h4, h5, h6⟩ := h
  have a := within_iff.1 h3
  have b := within_iff.1 h4
  have d := pair_iff.1 h5
  exact ⟨⟨by omega, by omega⟩, ⟨by omega, by omega⟩, ⟨by omega, by omega⟩, ⟨by omega, by omega⟩, ⟨by omega, by omega⟩, rightR_fits h6 F⟩
end M

/-- What Encode tells. -/
def Enc (ok : Bool) (xs : List UInt8) (w : World) (e : Ending) (w' : World) : Prop := ∃ v, e = .returned (.tuple #[v, .int .i64 (if ok then 0 else 1)]) ∧ Own w' w.heap.size v (if ok then xs else []) ∧ Below w.heap.size w w'
theorem Enc.no {xs : List UInt8} {w w' : World} (h : Below w.heap.size w w') : Enc false xs w (.returned (.tuple #[.slice none 0 0, .int .i64 1])) w' := ⟨_, rfl, Own.nil _ _, h⟩
theorem Enc.yes {xs : List UInt8} {w w' : World} {v : Value} (h : Own w' w.heap.size v xs) (hb : Below w.heap.size w w') : Enc true xs w (.returned (.tuple #[v, .int .i64 0])) w' := ⟨_, rfl, h, hb⟩

set_option maxHeartbeats 4000000 in
set_option maxRecDepth 100000 in
theorem isRight_cmd {w : World} (c : M.Cmd) {va vb : Value} (h : Rds w va c.rs) (h' : Wrs w vb c.ws) (hl : c.rs.length ≤ 1000) (hl' : c.ws.length ≤ 1000) : Calls Try.prog 44 #[.iface 33 (.agg #[.int .i64 c.k, .int .i64 c.tc, .int .i64 c.tn, .int .i64 c.tt, .int .i64 c.tk, .int .i64 c.sh, va, vb, .bool c.cm])] w fun e w' => e = .returned (.bool (M.rightC c)) ∧ Below w.heap.size w w' := by
  obtain ⟨A, c1, rfl, -, -⟩ := h.opened
  obtain ⟨A', c2, rfl, -, -⟩ := h'.opened
  have RG := Lib.hid ((Cel.new w [.int .i64 c.k, .int .i64 c.tc, .int .i64 c.tn, .int .i64 c.tt, .int .i64 c.tk, .int .i64 c.sh, (.slice A c.rs.length c1), (.slice A' c.ws.length c2), .bool c.cm] 33).whole)
  have HR := Lib.hid (h.push (.cells #[.int .i64 c.k, .int .i64 c.tc, .int .i64 c.tn, .int .i64 c.tt, .int .i64 c.tk, .int .i64 c.sh, (.slice A c.rs.length c1), (.slice A' c.ws.length c2), .bool c.cm] 33))
  have HW := Lib.hid (h'.push (.cells #[.int .i64 c.k, .int .i64 c.tc, .int .i64 c.tn, .int .i64 c.tt, .int .i64 c.tk, .int .i64 c.sh, (.slice A c.rs.length c1), (.slice A' c.ws.length c2), .bool c.cm] 33))
  have B0 := Lib.hid (below_new (o := .cells #[.int .i64 c.k, .int .i64 c.tc, .int .i64 c.tn, .int .i64 c.tt, .int .i64 c.tk, .int .i64 c.sh, (.slice A c.rs.length c1), (.slice A' c.ws.length c2), .bool c.cm] 33) (Below.refl w.heap.size w))
  clear h h'
  go_enter Try.func44, Try.ntmps44
  go_wp2_with (fail)
  refine (right_cmd c HR.out HW.out hl hl').mono ?_
  rintro e w1 ⟨rfl, hb⟩
  have B1 := Lib.hid (below_on B0.out hb)
  clear hb
  go_wp2
  go_ret
  exact ⟨rfl, B1.out⟩

set_option maxHeartbeats 4000000 in
set_option maxRecDepth 100000 in
theorem isRight_rec {w : World} (r : M.Rec) {va vb : Value} (h : Rds w va r.c.rs) (h' : Wrs w vb r.c.ws) (hl : r.c.rs.length ≤ 1000) (hl' : r.c.ws.length ≤ 1000) : Calls Try.prog 44 #[.iface 37 (.agg #[.int .i64 r.ir, .int .i64 r.is, .int .i64 r.st, .int .i64 r.pn, .int .i64 r.pr, .int .i64 r.bn, .int .i64 r.br, .int .i64 r.c.k, .int .i64 r.c.tc, .int .i64 r.c.tn, .int .i64 r.c.tt, .int .i64 r.c.tk, .int .i64 r.c.sh, va, vb, .bool r.c.cm, .int .i64 r.sq, .int .i64 r.d0, .int .i64 r.d1, .int .i64 r.d2, .int .i64 r.d3, .int .i64 r.d4, .int .i64 r.d5, .int .i64 r.d6, .bool r.kp])] w fun e w' => e = .returned (.bool (M.rightR r)) ∧ Below w.heap.size w w' := by
  obtain ⟨A, c1, rfl, -, -⟩ := h.opened
  obtain ⟨A', c2, rfl, -, -⟩ := h'.opened
  have RG := Lib.hid ((Cel.new w [.int .i64 r.ir, .int .i64 r.is, .int .i64 r.st, .int .i64 r.pn, .int .i64 r.pr, .int .i64 r.bn, .int .i64 r.br, .int .i64 r.c.k, .int .i64 r.c.tc, .int .i64 r.c.tn, .int .i64 r.c.tt, .int .i64 r.c.tk, .int .i64 r.c.sh, (.slice A r.c.rs.length c1), (.slice A' r.c.ws.length c2), .bool r.c.cm, .int .i64 r.sq, .int .i64 r.d0, .int .i64 r.d1, .int .i64 r.d2, .int .i64 r.d3, .int .i64 r.d4, .int .i64 r.d5, .int .i64 r.d6, .bool r.kp] 37).whole)
  have HR := Lib.hid (h.push (.cells #[.int .i64 r.ir, .int .i64 r.is, .int .i64 r.st, .int .i64 r.pn, .int .i64 r.pr, .int .i64 r.bn, .int .i64 r.br, .int .i64 r.c.k, .int .i64 r.c.tc, .int .i64 r.c.tn, .int .i64 r.c.tt, .int .i64 r.c.tk, .int .i64 r.c.sh, (.slice A r.c.rs.length c1), (.slice A' r.c.ws.length c2), .bool r.c.cm, .int .i64 r.sq, .int .i64 r.d0, .int .i64 r.d1, .int .i64 r.d2, .int .i64 r.d3, .int .i64 r.d4, .int .i64 r.d5, .int .i64 r.d6, .bool r.kp] 37))
  have HW := Lib.hid (h'.push (.cells #[.int .i64 r.ir, .int .i64 r.is, .int .i64 r.st, .int .i64 r.pn, .int .i64 r.pr, .int .i64 r.bn, .int .i64 r.br, .int .i64 r.c.k, .int .i64 r.c.tc, .int .i64 r.c.tn, .int .i64 r.c.tt, .int .i64 r.c.tk, .int .i64 r.c.sh, (.slice A r.c.rs.length c1), (.slice A' r.c.ws.length c2), .bool r.c.cm, .int .i64 r.sq, .int .i64 r.d0, .int .i64 r.d1, .int .i64 r.d2, .int .i64 r.d3, .int .i64 r.d4, .int .i64 r.d5, .int .i64 r.d6, .bool r.kp] 37))
  have B0 := Lib.hid (below_new (o := .cells #[.int .i64 r.ir, .int .i64 r.is, .int .i64 r.st, .int .i64 r.pn, .int .i64 r.pr, .int .i64 r.bn, .int .i64 r.br, .int .i64 r.c.k, .int .i64 r.c.tc, .int .i64 r.c.tn, .int .i64 r.c.tt, .int .i64 r.c.tk, .int .i64 r.c.sh, (.slice A r.c.rs.length c1), (.slice A' r.c.ws.length c2), .bool r.c.cm, .int .i64 r.sq, .int .i64 r.d0, .int .i64 r.d1, .int .i64 r.d2, .int .i64 r.d3, .int .i64 r.d4, .int .i64 r.d5, .int .i64 r.d6, .bool r.kp] 37) (Below.refl w.heap.size w))
  clear h h'
  go_enter Try.func44, Try.ntmps44
  go_wp2_with (first
    | (with_reducible refine wpList_store_fresh rfl 37 _ _ rfl w.heap.size rfl 37 _ [.int .i64 r.ir, .int .i64 r.is, .int .i64 r.st, .int .i64 r.pn, .int .i64 r.pr, .int .i64 r.bn, .int .i64 r.br, .int .i64 r.c.k, .int .i64 r.c.tc, .int .i64 r.c.tn, .int .i64 r.c.tt, .int .i64 r.c.tk, .int .i64 r.c.sh, (.slice A r.c.rs.length c1), (.slice A' r.c.ws.length c2), .bool r.c.cm, .int .i64 r.sq, .int .i64 r.d0, .int .i64 r.d1, .int .i64 r.d2, .int .i64 r.d3, .int .i64 r.d4, .int .i64 r.d5, .int .i64 r.d6, .bool r.kp] rfl rfl rfl (by kernel_rfl) rfl ?_)
    | (with_reducible refine wpList_load_mid rfl 37 _ rfl w.heap.size 0 rfl _ _ RG.out Try.underlying37 rfl (by kernel_rfl) ?_))
  refine (right_rec r HR.out HW.out hl hl').mono ?_
  rintro e w1 ⟨rfl, hb⟩
  have B1 := Lib.hid (below_on B0.out hb)
  clear hb
  go_wp2
  go_ret
  exact ⟨rfl, B1.out⟩

set_option maxHeartbeats 4000000 in
set_option maxRecDepth 100000 in
theorem isRight_msg {w : World} (m : M.Msg) {va vb : Value} (h : Rds w va m.r.c.rs) (h' : Wrs w vb m.r.c.ws) (hl : m.r.c.rs.length ≤ 1000) (hl' : m.r.c.ws.length ≤ 1000) : Calls Try.prog 44 #[.iface 39 (.agg #[.int .i64 m.k, .int .i64 m.fr, .int .i64 m.to, .int .i64 m.bn, .int .i64 m.br, .int .i64 m.r.ir, .int .i64 m.r.is, .int .i64 m.r.st, .int .i64 m.r.pn, .int .i64 m.r.pr, .int .i64 m.r.bn, .int .i64 m.r.br, .int .i64 m.r.c.k, .int .i64 m.r.c.tc, .int .i64 m.r.c.tn, .int .i64 m.r.c.tt, .int .i64 m.r.c.tk, .int .i64 m.r.c.sh, va, vb, .bool m.r.c.cm, .int .i64 m.r.sq, .int .i64 m.r.d0, .int .i64 m.r.d1, .int .i64 m.r.d2, .int .i64 m.r.d3, .int .i64 m.r.d4, .int .i64 m.r.d5, .int .i64 m.r.d6, .bool m.r.kp])] w fun e w' => e = .returned (.bool (M.rightM m)) ∧ Below w.heap.size w w' := by
  obtain ⟨A, c1, rfl, -, -⟩ := h.opened
  obtain ⟨A', c2, rfl, -, -⟩ := h'.opened
  have RG := Lib.hid ((Cel.new w [.int .i64 m.k, .int .i64 m.fr, .int .i64 m.to, .int .i64 m.bn, .int .i64 m.br, .int .i64 m.r.ir, .int .i64 m.r.is, .int .i64 m.r.st, .int .i64 m.r.pn, .int .i64 m.r.pr, .int .i64 m.r.bn, .int .i64 m.r.br, .int .i64 m.r.c.k, .int .i64 m.r.c.tc, .int .i64 m.r.c.tn, .int .i64 m.r.c.tt, .int .i64 m.r.c.tk, .int .i64 m.r.c.sh, (.slice A m.r.c.rs.length c1), (.slice A' m.r.c.ws.length c2), .bool m.r.c.cm, .int .i64 m.r.sq, .int .i64 m.r.d0, .int .i64 m.r.d1, .int .i64 m.r.d2, .int .i64 m.r.d3, .int .i64 m.r.d4, .int .i64 m.r.d5, .int .i64 m.r.d6, .bool m.r.kp] 39).whole)
  have HR := Lib.hid (h.push (.cells #[.int .i64 m.k, .int .i64 m.fr, .int .i64 m.to, .int .i64 m.bn, .int .i64 m.br, .int .i64 m.r.ir, .int .i64 m.r.is, .int .i64 m.r.st, .int .i64 m.r.pn, .int .i64 m.r.pr, .int .i64 m.r.bn, .int .i64 m.r.br, .int .i64 m.r.c.k, .int .i64 m.r.c.tc, .int .i64 m.r.c.tn, .int .i64 m.r.c.tt, .int .i64 m.r.c.tk, .int .i64 m.r.c.sh, (.slice A m.r.c.rs.length c1), (.slice A' m.r.c.ws.length c2), .bool m.r.c.cm, .int .i64 m.r.sq, .int .i64 m.r.d0, .int .i64 m.r.d1, .int .i64 m.r.d2, .int .i64 m.r.d3, .int .i64 m.r.d4, .int .i64 m.r.d5, .int .i64 m.r.d6, .bool m.r.kp] 39))
  have HW := Lib.hid (h'.push (.cells #[.int .i64 m.k, .int .i64 m.fr, .int .i64 m.to, .int .i64 m.bn, .int .i64 m.br, .int .i64 m.r.ir, .int .i64 m.r.is, .int .i64 m.r.st, .int .i64 m.r.pn, .int .i64 m.r.pr, .int .i64 m.r.bn, .int .i64 m.r.br, .int .i64 m.r.c.k, .int .i64 m.r.c.tc, .int .i64 m.r.c.tn, .int .i64 m.r.c.tt, .int .i64 m.r.c.tk, .int .i64 m.r.c.sh, (.slice A m.r.c.rs.length c1), (.slice A' m.r.c.ws.length c2), .bool m.r.c.cm, .int .i64 m.r.sq, .int .i64 m.r.d0, .int .i64 m.r.d1, .int .i64 m.r.d2, .int .i64 m.r.d3, .int .i64 m.r.d4, .int .i64 m.r.d5, .int .i64 m.r.d6, .bool m.r.kp] 39))
  have B0 := Lib.hid (below_new (o := .cells #[.int .i64 m.k, .int .i64 m.fr, .int .i64 m.to, .int .i64 m.bn, .int .i64 m.br, .int .i64 m.r.ir, .int .i64 m.r.is, .int .i64 m.r.st, .int .i64 m.r.pn, .int .i64 m.r.pr, .int .i64 m.r.bn, .int .i64 m.r.br, .int .i64 m.r.c.k, .int .i64 m.r.c.tc, .int .i64 m.r.c.tn, .int .i64 m.r.c.tt, .int .i64 m.r.c.tk, .int .i64 m.r.c.sh, (.slice A m.r.c.rs.length c1), (.slice A' m.r.c.ws.length c2), .bool m.r.c.cm, .int .i64 m.r.sq, .int .i64 m.r.d0, .int .i64 m.r.d1, .int .i64 m.r.d2, .int .i64 m.r.d3, .int .i64 m.r.d4, .int .i64 m.r.d5, .int .i64 m.r.d6, .bool m.r.kp] 39) (Below.refl w.heap.size w))
  clear h h'
  go_enter Try.func44, Try.ntmps44
  go_wp2_with (first
    | (with_reducible refine wpList_store_fresh rfl 39 _ _ rfl w.heap.size rfl 39 _ [.int .i64 m.k, .int .i64 m.fr, .int .i64 m.to, .int .i64 m.bn, .int .i64 m.br, .int .i64 m.r.ir, .int .i64 m.r.is, .int .i64 m.r.st, .int .i64 m.r.pn, .int .i64 m.r.pr, .int .i64 m.r.bn, .int .i64 m.r.br, .int .i64 m.r.c.k, .int .i64 m.r.c.tc, .int .i64 m.r.c.tn, .int .i64 m.r.c.tt, .int .i64 m.r.c.tk, .int .i64 m.r.c.sh, (.slice A m.r.c.rs.length c1), (.slice A' m.r.c.ws.length c2), .bool m.r.c.cm, .int .i64 m.r.sq, .int .i64 m.r.d0, .int .i64 m.r.d1, .int .i64 m.r.d2, .int .i64 m.r.d3, .int .i64 m.r.d4, .int .i64 m.r.d5, .int .i64 m.r.d6, .bool m.r.kp] rfl rfl rfl (by kernel_rfl) rfl ?_)
    | (with_reducible refine wpList_load_mid rfl 39 _ rfl w.heap.size 0 rfl _ _ RG.out Try.underlying39 rfl (by kernel_rfl) ?_))
  refine (right_msg m HR.out HW.out hl hl').mono ?_
  rintro e w1 ⟨rfl, hb⟩
  have B1 := Lib.hid (below_on B0.out hb)
  clear hb
  go_wp2
  go_ret
  exact ⟨rfl, B1.out⟩

theorem isRight_nil (w : World) : Calls Try.prog 44 #[.nilIface] w fun e w' => e = .returned (.bool false) ∧ w = w' := by
  go_enter Try.func44, Try.ntmps44
  go_wp2
  go_ret
  exact ⟨rfl, rfl⟩

set_option maxHeartbeats 4000000 in
set_option maxRecDepth 100000 in
theorem encode_cmd {w : World} (c : M.Cmd) {va vb : Value} (h : Rds w va c.rs) (h' : Wrs w vb c.ws) (F : M.Mod c) : Calls Try.prog 18 #[.iface 33 (.agg #[.int .i64 c.k, .int .i64 c.tc, .int .i64 c.tn, .int .i64 c.tt, .int .i64 c.tk, .int .i64 c.sh, va, vb, .bool c.cm])] w (Enc (M.rightC c) (M.encC c) w) := by
  have HR := Lib.hid h
  have HW := Lib.hid h'
  clear h h'
  rcases two (M.rightC c) with e0 | e0
  · have HF := Lib.hid (M.right_fits e0 F)
    rw [e0]
    have E0 := Lib.hid e0
    clear e0
    go_enter Try.func18, Try.ntmps18
    go_wp2_with (fail)
    refine (isRight_cmd c HR.out HW.out F.l F.l').mono ?_
    rintro e w1 ⟨rfl, hb⟩
    have B1 := Lib.hid hb
    have e0 := E0.out
    have HR1 := Lib.hid (HR.out.below hb)
    have HW1 := Lib.hid (HW.out.below hb)
    clear hb
    go_wp2_with (fail)
    refine (bytesOf_cmd c HR1.out HW1.out HF.out).mono ?_
    rintro e w2 ⟨v, rfl, ho, hb⟩
    have O2 := Lib.hid (ho.base B1.out.size)
    have B2 := Lib.hid (below_on B1.out hb)
    clear ho hb
    go_wp2
    go_ret2
    exact Enc.yes O2.out B2.out
  · rw [e0]
    have E0 := Lib.hid e0
    clear e0
    go_enter Try.func18, Try.ntmps18
    go_wp2_with (fail)
    refine (isRight_cmd c HR.out HW.out F.l F.l').mono ?_
    rintro e w1 ⟨rfl, hb⟩
    have B1 := Lib.hid hb
    have e0 := E0.out
    clear hb
    go_wp2
    go_ret2
    exact Enc.no B1.out

set_option maxHeartbeats 4000000 in
set_option maxRecDepth 100000 in
theorem encode_rec {w : World} (r : M.Rec) {va vb : Value} (h : Rds w va r.c.rs) (h' : Wrs w vb r.c.ws) (F : M.Mod r.c) : Calls Try.prog 18 #[.iface 37 (.agg #[.int .i64 r.ir, .int .i64 r.is, .int .i64 r.st, .int .i64 r.pn, .int .i64 r.pr, .int .i64 r.bn, .int .i64 r.br, .int .i64 r.c.k, .int .i64 r.c.tc, .int .i64 r.c.tn, .int .i64 r.c.tt, .int .i64 r.c.tk, .int .i64 r.c.sh, va, vb, .bool r.c.cm, .int .i64 r.sq, .int .i64 r.d0, .int .i64 r.d1, .int .i64 r.d2, .int .i64 r.d3, .int .i64 r.d4, .int .i64 r.d5, .int .i64 r.d6, .bool r.kp])] w (Enc (M.rightR r) (M.encR r) w) := by
  have HR := Lib.hid h
  have HW := Lib.hid h'
  clear h h'
  rcases two (M.rightR r) with e0 | e0
  · have HF := Lib.hid (M.rightR_fits e0 F)
    rw [e0]
    have E0 := Lib.hid e0
    clear e0
    go_enter Try.func18, Try.ntmps18
    go_wp2_with (fail)
    refine (isRight_rec r HR.out HW.out F.l F.l').mono ?_
    rintro e w1 ⟨rfl, hb⟩
    have B1 := Lib.hid hb
    have e0 := E0.out
    have HR1 := Lib.hid (HR.out.below hb)
    have HW1 := Lib.hid (HW.out.below hb)
    clear hb
    go_wp2_with (fail)
    refine (bytesOf_rec r HR1.out HW1.out HF.out).mono ?_
    rintro e w2 ⟨v, rfl, ho, hb⟩
    have O2 := Lib.hid (ho.base B1.out.size)
    have B2 := Lib.hid (below_on B1.out hb)
    clear ho hb
    go_wp2
    go_ret2
    exact Enc.yes O2.out B2.out
  · rw [e0]
    have E0 := Lib.hid e0
    clear e0
    go_enter Try.func18, Try.ntmps18
    go_wp2_with (fail)
    refine (isRight_rec r HR.out HW.out F.l F.l').mono ?_
    rintro e w1 ⟨rfl, hb⟩
    have B1 := Lib.hid hb
    have e0 := E0.out
    clear hb
    go_wp2
    go_ret2
    exact Enc.no B1.out

set_option maxHeartbeats 4000000 in
set_option maxRecDepth 100000 in
theorem encode_msg {w : World} (m : M.Msg) {va vb : Value} (h : Rds w va m.r.c.rs) (h' : Wrs w vb m.r.c.ws) (F : M.Mod m.r.c) : Calls Try.prog 18 #[.iface 39 (.agg #[.int .i64 m.k, .int .i64 m.fr, .int .i64 m.to, .int .i64 m.bn, .int .i64 m.br, .int .i64 m.r.ir, .int .i64 m.r.is, .int .i64 m.r.st, .int .i64 m.r.pn, .int .i64 m.r.pr, .int .i64 m.r.bn, .int .i64 m.r.br, .int .i64 m.r.c.k, .int .i64 m.r.c.tc, .int .i64 m.r.c.tn, .int .i64 m.r.c.tt, .int .i64 m.r.c.tk, .int .i64 m.r.c.sh, va, vb, .bool m.r.c.cm, .int .i64 m.r.sq, .int .i64 m.r.d0, .int .i64 m.r.d1, .int .i64 m.r.d2, .int .i64 m.r.d3, .int .i64 m.r.d4, .int .i64 m.r.d5, .int .i64 m.r.d6, .bool m.r.kp])] w (Enc (M.rightM m) (M.encM m) w) := by
  have HR := Lib.hid h
  have HW := Lib.hid h'
  clear h h'
  rcases two (M.rightM m) with e0 | e0
  · have HF := Lib.hid (M.rightM_fits e0 F)
    rw [e0]
    have E0 := Lib.hid e0
    clear e0
    go_enter Try.func18, Try.ntmps18
    go_wp2_with (fail)
    refine (isRight_msg m HR.out HW.out F.l F.l').mono ?_
    rintro e w1 ⟨rfl, hb⟩
    have B1 := Lib.hid hb
    have e0 := E0.out
    have HR1 := Lib.hid (HR.out.below hb)
    have HW1 := Lib.hid (HW.out.below hb)
    clear hb
    go_wp2_with (fail)
    refine (bytesOf_msg m HR1.out HW1.out HF.out).mono ?_
    rintro e w2 ⟨v, rfl, ho, hb⟩
    have O2 := Lib.hid (ho.base B1.out.size)
    have B2 := Lib.hid (below_on B1.out hb)
    clear ho hb
    go_wp2
    go_ret2
    exact Enc.yes O2.out B2.out
  · rw [e0]
    have E0 := Lib.hid e0
    clear e0
    go_enter Try.func18, Try.ntmps18
    go_wp2_with (fail)
    refine (isRight_msg m HR.out HW.out F.l F.l').mono ?_
    rintro e w1 ⟨rfl, hb⟩
    have B1 := Lib.hid hb
    have e0 := E0.out
    clear hb
    go_wp2
    go_ret2
    exact Enc.no B1.out

end Go.Proofs.Ytagngbdlpdilnaa
