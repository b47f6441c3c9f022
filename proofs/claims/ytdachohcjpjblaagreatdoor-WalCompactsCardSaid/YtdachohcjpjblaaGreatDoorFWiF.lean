/- Encode, and what is small: contracts; no conditions but those that they name. -/
import Derived.Test.YtdachohcjpjblaaGreatDoorFWiE
set_option maxHeartbeats 8000000
set_option maxRecDepth 100000
namespace Go.Proofs.YtdachohcjpjblaaGreatDoor.Wi
open Go.ChangeShapes Go.WideShapes Go.ChangeAt Go.RowKit
attribute [local go_sem ↓] ta_yes33 ta_nil33 ta_yes37 ta_nil37 ta_yes39 ta_nil39 ta_no33_3 ta_no33_37 ta_no33_39 ta_no37_3 ta_no37_33 ta_no37_39 ta_no39_3 ta_no39_33 ta_no39_37
namespace M
theorem sameC_eq {a b : Cmd} (h : sameC a b = true) : a = b := by
 unfold sameC eq2 sameR sameW at h
 rw [Bool.and_eq_true, Bool.and_eq_true, Bool.and_eq_true, Bool.and_eq_true, Bool.and_eq_true, Bool.and_eq_true] at h
 obtain ⟨h0, h1, h3, h5, h6, h7, h8⟩ := h
 have g1 := of_decide_eq_true h1
 have g3 := of_decide_eq_true h3
 have g6 := eq_of_beq h6
 cases a; cases b
 simp only [Cmd.mk.injEq]
 exact ⟨of_decide_eq_true h0, g1.1, g1.2, g3.1, g3.2, of_decide_eq_true h5, of_decide_eq_true h7, of_decide_eq_true h8, g6⟩
theorem sameRec_st {a b : Rec} (h : sameRec a b = true) : a.st = b.st ∧ a.sq = b.sq := by
 unfold sameRec at h
 rw [Bool.and_eq_true, Bool.and_eq_true, Bool.and_eq_true, Bool.and_eq_true, Bool.and_eq_true, Bool.and_eq_true] at h
 obtain ⟨_, g2, _, _, _, g6, _⟩ := h
 exact ⟨of_decide_eq_true g2, of_decide_eq_true g6⟩
theorem sameC_zero {c : Cmd} (h : sameC c zero = true) : c = zero := sameC_eq h
theorem nb_0 : Nb 0 := ⟨by omega, by omega⟩
theorem nb_1 : Nb 1 := ⟨by omega, by omega⟩
theorem nb_2 : Nb 2 := ⟨by omega, by omega⟩
theorem zero_fits : Fits zero := ⟨nb_0, nb_0, nb_0, nb_0, nb_0, nb_0, by decide, by decide, (fun r h => by cases h), (fun r h => by cases h)⟩
theorem trans_fits {c : Cmd} (hk : Nb c.k) (h : transB c = true) (F : Mod c) : Fits c := by
 simp only [transB, Bool.and_eq_true, decide_eq_true_eq, areR, areW] at h
 obtain ⟨h1, h2, h3, h4, h5, h6, h7, ⟨h8, h9⟩, h10, h11⟩ := h
 have a := pair_iff.1 h1
 have b := pair_iff.1 h2
 refine ⟨hk, ⟨by omega, by omega⟩, ⟨by omega, by omega⟩, ⟨by omega, by omega⟩, ⟨by omega, by omega⟩, ⟨by omega, by omega⟩, F.r, F.w, fun r hr => ?_, fun r hr => ⟨F.wk r hr, F.wv r hr⟩⟩
 rw [List.all_eq_true] at h8
 have d := h8 r hr
 simp only [oldAt, oldB, Bool.and_eq_true] at d
 have e := pair_iff.1 d.1
 exact ⟨F.rk r hr, ⟨by omega, by omega⟩, ⟨by omega, by omega⟩⟩
theorem right_fits {c : Cmd} (h : rightC c = true) (F : Mod c) : Fits c := by
 unfold rightC at h
 split at h
 ·rw [sameC_zero h]; exact zero_fits
 ·split at h
  ·rename_i h1
   rw [Bool.and_eq_true] at h
   exact trans_fits (by rw [h1]; exact nb_1) h.1 F
  ·split at h
   ·rename_i h2
    exact trans_fits (by rw [h2]; exact nb_2) h F
   ·cases h
theorem rightR_fits {r : Rec} (h : rightR r = true) (F : Mod r.c) : FitsR r := by
 simp only [rightR, Bool.and_eq_true, decide_eq_true_eq] at h
 obtain ⟨h1, h2, h3, h4, h5, h6, h7⟩ := h
 have a := pair_iff.1 h1
 have b := pair_iff.1 h2
 have d := pair_iff.1 h3
 rw [V7.right_iff, V7.all7 (p := fun k => 0 ≤ dep r k ∧ dep r k ≤ 1048576)] at h6
 simp only [dep] at h6
 have hs : Nb r.st ∧ Nb r.sq := by
  unfold fitsS at h7
  unfold Nb
  split at h7
  ·have g : r.st = 0 ∧ r.sq = 0 := sameRec_st h7
   omega
  ·split at h7
   ·simp only [seqB, Bool.and_eq_true, decide_eq_true_eq] at h7
    omega
   ·split at h7
    ·simp only [seqB, Bool.and_eq_true, decide_eq_true_eq] at h7
     omega
    ·cases h7
 exact ⟨⟨by omega, by omega⟩, ⟨by omega, by omega⟩, hs.1, ⟨by omega, by omega⟩, ⟨by omega, by omega⟩, ⟨by omega, by omega⟩, ⟨by omega, by omega⟩, right_fits h5 F, hs.2, ⟨by omega, by omega⟩, ⟨by omega, by omega⟩, ⟨by omega, by omega⟩, ⟨by omega, by omega⟩, ⟨by omega, by omega⟩, ⟨by omega, by omega⟩, ⟨by omega, by omega⟩⟩
end M
def Enc (ok : Bool) (xs : List UInt8) (w : World) (e : Ending) (w' : World) : Prop := ∃ v, e = .returned (.tuple #[v,.int .i64 (if ok then 0 else 1)]) ∧ Own w' w.heap.size v (if ok then xs else []) ∧ Below w.heap.size w w'
theorem Enc.no {xs : List UInt8} {w w' : World} (h : Below w.heap.size w w') : Enc false xs w (.returned (.tuple #[.slice none 0 0,.int .i64 1])) w' := ⟨_, rfl, Own.nil _ _, h⟩
theorem Enc.yes {xs : List UInt8} {w w' : World} {v : Value} (h : Own w' w.heap.size v xs) (hb : Below w.heap.size w w') : Enc true xs w (.returned (.tuple #[v,.int .i64 0])) w' := ⟨_, rfl, h, hb⟩
theorem isRight_cmd {w : World} (c : M.Cmd) {va vb : Value} (h : Rds w va c.rs) (h' : Wrs w vb c.ws) (hl : c.rs.length ≤ 1000) (hl' : c.ws.length ≤ 1000) : Calls Tryz.prog 95 #[.iface 63 (.agg #[.int .i64 c.k,.int .i64 c.tc,.int .i64 c.tn,.int .i64 c.tt,.int .i64 c.tk,.int .i64 c.sh, va, vb,.bool c.cm])] w fun e w' => e = .returned (.bool (M.rightC c)) ∧ Below w.heap.size w w' := by
 obtain ⟨A, c1, rfl, -, -⟩ := h.opened
 obtain ⟨A', c2, rfl, -, -⟩ := h'.opened
 have RG := Lib.hid ((Cel.new w [.int .i64 c.k,.int .i64 c.tc,.int .i64 c.tn,.int .i64 c.tt,.int .i64 c.tk,.int .i64 c.sh, (.slice A c.rs.length c1), (.slice A' c.ws.length c2),.bool c.cm] 63).whole)
 have HR := Lib.hid (h.push (.cells #[.int .i64 c.k,.int .i64 c.tc,.int .i64 c.tn,.int .i64 c.tt,.int .i64 c.tk,.int .i64 c.sh, (.slice A c.rs.length c1), (.slice A' c.ws.length c2),.bool c.cm] 63))
 have HW := Lib.hid (h'.push (.cells #[.int .i64 c.k,.int .i64 c.tc,.int .i64 c.tn,.int .i64 c.tt,.int .i64 c.tk,.int .i64 c.sh, (.slice A c.rs.length c1), (.slice A' c.ws.length c2),.bool c.cm] 63))
 have B0 := Lib.hid (below_new (o := .cells #[.int .i64 c.k,.int .i64 c.tc,.int .i64 c.tn,.int .i64 c.tt,.int .i64 c.tk,.int .i64 c.sh, (.slice A c.rs.length c1), (.slice A' c.ws.length c2),.bool c.cm] 63) (Below.refl w.heap.size w))
 clear h h'
 go_enter Tryz.func95, Tryz.ntmps95
 go_wp2_with (fail)
 refine (right_cmd c HR.out HW.out hl hl').mono ?_
 rintro e w1 ⟨rfl, hb⟩
 have B1 := Lib.hid (below_on B0.out hb)
 clear hb
 go_wp2
 go_ret
 exact ⟨rfl, B1.out⟩
theorem isRight_rec {w : World} (r : M.Rec) {va vb : Value} (h : Rds w va r.c.rs) (h' : Wrs w vb r.c.ws) (hl : r.c.rs.length ≤ 1000) (hl' : r.c.ws.length ≤ 1000) : Calls Tryz.prog 95 #[.iface 67 (.agg #[.int .i64 r.ir,.int .i64 r.is,.int .i64 r.st,.int .i64 r.pn,.int .i64 r.pr,.int .i64 r.bn,.int .i64 r.br,.int .i64 r.c.k,.int .i64 r.c.tc,.int .i64 r.c.tn,.int .i64 r.c.tt,.int .i64 r.c.tk,.int .i64 r.c.sh, va, vb,.bool r.c.cm,.int .i64 r.sq,.int .i64 r.d0,.int .i64 r.d1,.int .i64 r.d2,.int .i64 r.d3,.int .i64 r.d4,.int .i64 r.d5,.int .i64 r.d6,.bool r.kp])] w fun e w' => e = .returned (.bool (M.rightR r)) ∧ Below w.heap.size w w' := by
 obtain ⟨A, c1, rfl, -, -⟩ := h.opened
 obtain ⟨A', c2, rfl, -, -⟩ := h'.opened
 have RG := Lib.hid ((Cel.new w [.int .i64 r.ir,.int .i64 r.is,.int .i64 r.st,.int .i64 r.pn,.int .i64 r.pr,.int .i64 r.bn,.int .i64 r.br,.int .i64 r.c.k,.int .i64 r.c.tc,.int .i64 r.c.tn,.int .i64 r.c.tt,.int .i64 r.c.tk,.int .i64 r.c.sh, (.slice A r.c.rs.length c1), (.slice A' r.c.ws.length c2),.bool r.c.cm,.int .i64 r.sq,.int .i64 r.d0,.int .i64 r.d1,.int .i64 r.d2,.int .i64 r.d3,.int .i64 r.d4,.int .i64 r.d5,.int .i64 r.d6,.bool r.kp] 67).whole)
 have HR := Lib.hid (h.push (.cells #[.int .i64 r.ir,.int .i64 r.is,.int .i64 r.st,.int .i64 r.pn,.int .i64 r.pr,.int .i64 r.bn,.int .i64 r.br,.int .i64 r.c.k,.int .i64 r.c.tc,.int .i64 r.c.tn,.int .i64 r.c.tt,.int .i64 r.c.tk,.int .i64 r.c.sh, (.slice A r.c.rs.length c1), (.slice A' r.c.ws.length c2),.bool r.c.cm,.int .i64 r.sq,.int .i64 r.d0,.int .i64 r.d1,.int .i64 r.d2,.int .i64 r.d3,.int .i64 r.d4,.int .i64 r.d5,.int .i64 r.d6,.bool r.kp] 67))
 have HW := Lib.hid (h'.push (.cells #[.int .i64 r.ir,.int .i64 r.is,.int .i64 r.st,.int .i64 r.pn,.int .i64 r.pr,.int .i64 r.bn,.int .i64 r.br,.int .i64 r.c.k,.int .i64 r.c.tc,.int .i64 r.c.tn,.int .i64 r.c.tt,.int .i64 r.c.tk,.int .i64 r.c.sh, (.slice A r.c.rs.length c1), (.slice A' r.c.ws.length c2),.bool r.c.cm,.int .i64 r.sq,.int .i64 r.d0,.int .i64 r.d1,.int .i64 r.d2,.int .i64 r.d3,.int .i64 r.d4,.int .i64 r.d5,.int .i64 r.d6,.bool r.kp] 67))
 have B0 := Lib.hid (below_new (o := .cells #[.int .i64 r.ir,.int .i64 r.is,.int .i64 r.st,.int .i64 r.pn,.int .i64 r.pr,.int .i64 r.bn,.int .i64 r.br,.int .i64 r.c.k,.int .i64 r.c.tc,.int .i64 r.c.tn,.int .i64 r.c.tt,.int .i64 r.c.tk,.int .i64 r.c.sh, (.slice A r.c.rs.length c1), (.slice A' r.c.ws.length c2),.bool r.c.cm,.int .i64 r.sq,.int .i64 r.d0,.int .i64 r.d1,.int .i64 r.d2,.int .i64 r.d3,.int .i64 r.d4,.int .i64 r.d5,.int .i64 r.d6,.bool r.kp] 67) (Below.refl w.heap.size w))
 clear h h'
 go_enter Tryz.func95, Tryz.ntmps95
 go_wp2_with (first
  | (with_reducible refine wpList_store_fresh rfl 67 _ _ rfl w.heap.size rfl 67 _ [.int .i64 r.ir,.int .i64 r.is,.int .i64 r.st,.int .i64 r.pn,.int .i64 r.pr,.int .i64 r.bn,.int .i64 r.br,.int .i64 r.c.k,.int .i64 r.c.tc,.int .i64 r.c.tn,.int .i64 r.c.tt,.int .i64 r.c.tk,.int .i64 r.c.sh, (.slice A r.c.rs.length c1), (.slice A' r.c.ws.length c2),.bool r.c.cm,.int .i64 r.sq,.int .i64 r.d0,.int .i64 r.d1,.int .i64 r.d2,.int .i64 r.d3,.int .i64 r.d4,.int .i64 r.d5,.int .i64 r.d6,.bool r.kp] rfl rfl rfl (by kernel_rfl) rfl ?_)
  | (with_reducible refine wpList_load_mid rfl 67 _ rfl w.heap.size 0 rfl _ _ RG.out Tryz.underlying67 rfl (by kernel_rfl) ?_))
 refine (right_rec r HR.out HW.out hl hl').mono ?_
 rintro e w1 ⟨rfl, hb⟩
 have B1 := Lib.hid (below_on B0.out hb)
 clear hb
 go_wp2
 go_ret
 exact ⟨rfl, B1.out⟩
theorem isRight_msg {w : World} (m : M.Msg) {va vb : Value} (h : Rds w va m.r.c.rs) (h' : Wrs w vb m.r.c.ws) (hl : m.r.c.rs.length ≤ 1000) (hl' : m.r.c.ws.length ≤ 1000) : Calls Tryz.prog 95 #[.iface 95 (.agg #[.int .i64 m.k,.int .i64 m.fr,.int .i64 m.to,.int .i64 m.bn,.int .i64 m.br,.int .i64 m.r.ir,.int .i64 m.r.is,.int .i64 m.r.st,.int .i64 m.r.pn,.int .i64 m.r.pr,.int .i64 m.r.bn,.int .i64 m.r.br,.int .i64 m.r.c.k,.int .i64 m.r.c.tc,.int .i64 m.r.c.tn,.int .i64 m.r.c.tt,.int .i64 m.r.c.tk,.int .i64 m.r.c.sh, va, vb,.bool m.r.c.cm,.int .i64 m.r.sq,.int .i64 m.r.d0,.int .i64 m.r.d1,.int .i64 m.r.d2,.int .i64 m.r.d3,.int .i64 m.r.d4,.int .i64 m.r.d5,.int .i64 m.r.d6,.bool m.r.kp])] w fun e w' => e = .returned (.bool (M.rightM m)) ∧ Below w.heap.size w w' := by
 obtain ⟨A, c1, rfl, -, -⟩ := h.opened
 obtain ⟨A', c2, rfl, -, -⟩ := h'.opened
 have RG := Lib.hid ((Cel.new w [.int .i64 m.k,.int .i64 m.fr,.int .i64 m.to,.int .i64 m.bn,.int .i64 m.br,.int .i64 m.r.ir,.int .i64 m.r.is,.int .i64 m.r.st,.int .i64 m.r.pn,.int .i64 m.r.pr,.int .i64 m.r.bn,.int .i64 m.r.br,.int .i64 m.r.c.k,.int .i64 m.r.c.tc,.int .i64 m.r.c.tn,.int .i64 m.r.c.tt,.int .i64 m.r.c.tk,.int .i64 m.r.c.sh, (.slice A m.r.c.rs.length c1), (.slice A' m.r.c.ws.length c2),.bool m.r.c.cm,.int .i64 m.r.sq,.int .i64 m.r.d0,.int .i64 m.r.d1,.int .i64 m.r.d2,.int .i64 m.r.d3,.int .i64 m.r.d4,.int .i64 m.r.d5,.int .i64 m.r.d6,.bool m.r.kp] 95).whole)
 have HR := Lib.hid (h.push (.cells #[.int .i64 m.k,.int .i64 m.fr,.int .i64 m.to,.int .i64 m.bn,.int .i64 m.br,.int .i64 m.r.ir,.int .i64 m.r.is,.int .i64 m.r.st,.int .i64 m.r.pn,.int .i64 m.r.pr,.int .i64 m.r.bn,.int .i64 m.r.br,.int .i64 m.r.c.k,.int .i64 m.r.c.tc,.int .i64 m.r.c.tn,.int .i64 m.r.c.tt,.int .i64 m.r.c.tk,.int .i64 m.r.c.sh, (.slice A m.r.c.rs.length c1), (.slice A' m.r.c.ws.length c2),.bool m.r.c.cm,.int .i64 m.r.sq,.int .i64 m.r.d0,.int .i64 m.r.d1,.int .i64 m.r.d2,.int .i64 m.r.d3,.int .i64 m.r.d4,.int .i64 m.r.d5,.int .i64 m.r.d6,.bool m.r.kp] 95))
 have HW := Lib.hid (h'.push (.cells #[.int .i64 m.k,.int .i64 m.fr,.int .i64 m.to,.int .i64 m.bn,.int .i64 m.br,.int .i64 m.r.ir,.int .i64 m.r.is,.int .i64 m.r.st,.int .i64 m.r.pn,.int .i64 m.r.pr,.int .i64 m.r.bn,.int .i64 m.r.br,.int .i64 m.r.c.k,.int .i64 m.r.c.tc,.int .i64 m.r.c.tn,.int .i64 m.r.c.tt,.int .i64 m.r.c.tk,.int .i64 m.r.c.sh, (.slice A m.r.c.rs.length c1), (.slice A' m.r.c.ws.length c2),.bool m.r.c.cm,.int .i64 m.r.sq,.int .i64 m.r.d0,.int .i64 m.r.d1,.int .i64 m.r.d2,.int .i64 m.r.d3,.int .i64 m.r.d4,.int .i64 m.r.d5,.int .i64 m.r.d6,.bool m.r.kp] 95))
 have B0 := Lib.hid (below_new (o := .cells #[.int .i64 m.k,.int .i64 m.fr,.int .i64 m.to,.int .i64 m.bn,.int .i64 m.br,.int .i64 m.r.ir,.int .i64 m.r.is,.int .i64 m.r.st,.int .i64 m.r.pn,.int .i64 m.r.pr,.int .i64 m.r.bn,.int .i64 m.r.br,.int .i64 m.r.c.k,.int .i64 m.r.c.tc,.int .i64 m.r.c.tn,.int .i64 m.r.c.tt,.int .i64 m.r.c.tk,.int .i64 m.r.c.sh, (.slice A m.r.c.rs.length c1), (.slice A' m.r.c.ws.length c2),.bool m.r.c.cm,.int .i64 m.r.sq,.int .i64 m.r.d0,.int .i64 m.r.d1,.int .i64 m.r.d2,.int .i64 m.r.d3,.int .i64 m.r.d4,.int .i64 m.r.d5,.int .i64 m.r.d6,.bool m.r.kp] 95) (Below.refl w.heap.size w))
 clear h h'
 go_enter Tryz.func95, Tryz.ntmps95
 go_wp2_with (first
  | (with_reducible refine wpList_store_fresh rfl 95 _ _ rfl w.heap.size rfl 95 _ [.int .i64 m.k,.int .i64 m.fr,.int .i64 m.to,.int .i64 m.bn,.int .i64 m.br,.int .i64 m.r.ir,.int .i64 m.r.is,.int .i64 m.r.st,.int .i64 m.r.pn,.int .i64 m.r.pr,.int .i64 m.r.bn,.int .i64 m.r.br,.int .i64 m.r.c.k,.int .i64 m.r.c.tc,.int .i64 m.r.c.tn,.int .i64 m.r.c.tt,.int .i64 m.r.c.tk,.int .i64 m.r.c.sh, (.slice A m.r.c.rs.length c1), (.slice A' m.r.c.ws.length c2),.bool m.r.c.cm,.int .i64 m.r.sq,.int .i64 m.r.d0,.int .i64 m.r.d1,.int .i64 m.r.d2,.int .i64 m.r.d3,.int .i64 m.r.d4,.int .i64 m.r.d5,.int .i64 m.r.d6,.bool m.r.kp] rfl rfl rfl (by kernel_rfl) rfl ?_)
  | (with_reducible refine wpList_load_mid rfl 95 _ rfl w.heap.size 0 rfl _ _ RG.out Tryz.underlying95 rfl (by kernel_rfl) ?_))
 refine (right_msg m HR.out HW.out hl hl').mono ?_
 rintro e w1 ⟨rfl, hb⟩
 have B1 := Lib.hid (below_on B0.out hb)
 clear hb
 go_wp2
 go_ret
 exact ⟨rfl, B1.out⟩
theorem encode_rec {w : World} (r : M.Rec) {va vb : Value} (h : Rds w va r.c.rs) (h' : Wrs w vb r.c.ws) (F : M.Mod r.c) : Calls Tryz.prog 69 #[.iface 67 (.agg #[.int .i64 r.ir,.int .i64 r.is,.int .i64 r.st,.int .i64 r.pn,.int .i64 r.pr,.int .i64 r.bn,.int .i64 r.br,.int .i64 r.c.k,.int .i64 r.c.tc,.int .i64 r.c.tn,.int .i64 r.c.tt,.int .i64 r.c.tk,.int .i64 r.c.sh, va, vb,.bool r.c.cm,.int .i64 r.sq,.int .i64 r.d0,.int .i64 r.d1,.int .i64 r.d2,.int .i64 r.d3,.int .i64 r.d4,.int .i64 r.d5,.int .i64 r.d6,.bool r.kp])] w (Enc (M.rightR r) (M.encR r) w) := by
 have HR := Lib.hid h
 have HW := Lib.hid h'
 clear h h'
 rcases two (M.rightR r) with e0 | e0
 ·have HF := Lib.hid (M.rightR_fits e0 F)
  rw [e0]
  have E0 := Lib.hid e0
  clear e0
  go_enter Tryz.func69, Tryz.ntmps69
  go_wp2_with (fail)
  refine (isRight_rec r HR.out HW.out F.l F.l').mono ?_
  rintro e w1 ⟨rfl, hb⟩
  have B1 := Lib.hid hb
  have e0 := E0.out
  have HR1 := Lib.hid (HR.out.below hb)
  have HW1 := Lib.hid (HW.out.below hb)
  clear hb
  go_wp2_with (fail)
  refine (bytesOf_rec r HR1.out HW1.out HF.out).mono ?_
  rintro e w2 ⟨v, rfl, ho, hb⟩
  have O2 := Lib.hid (ho.base B1.out.size)
  have B2 := Lib.hid (below_on B1.out hb)
  clear ho hb
  go_wp2
  go_ret2
  exact Enc.yes O2.out B2.out
 ·rw [e0]
  have E0 := Lib.hid e0
  clear e0
  go_enter Tryz.func69, Tryz.ntmps69
  go_wp2_with (fail)
  refine (isRight_rec r HR.out HW.out F.l F.l').mono ?_
  rintro e w1 ⟨rfl, hb⟩
  have B1 := Lib.hid hb
  have e0 := E0.out
  clear hb
  go_wp2
  go_ret2
  exact Enc.no B1.out
open Go.RowKit
theorem take_snoc (xs : List UInt8) (k : Nat) (h : k < xs.length) : xs.take (k + 1) = xs.take k ++ [xs.getD k 0] := by
 rw [List.take_add_one, List.getElem?_eq_getElem h, List.getD, List.getElem?_eq_getElem h]; rfl
namespace V8
def sameB (xs ys : List UInt8) : Bool := decide (xs = ys)
end V8
theorem append_bts {w : World} {base : Nat} {v u : Value} {xs new : List UInt8} (hown : Own w base v xs) (hu : Bts w u new) (hl : xs.length + new.length ≤ 1000000) (hbase : base ≤ w.heap.size) :
 ∃ v' w', (Builtin.append_ #[22, 22] 22 #[v, u]).run Tryz.prog w = .ok v' w' ∧ Own w' base v' (xs ++ new) ∧ Ext w w' v v' := by
 obtain ⟨i0, hi, hz0, hz1, hz2⟩ := info_parts info5
 have ht : Tryz.prog.underlying 22 = some (.slice 5) := Tryz.underlying22
 obtain ⟨A, c, rfl, hc, hx⟩ := hu
 rw [List.length_map] at hc hx ⊢
 unfold Own at hown ⊢
 rw [List.length_append, List.map_append]
 by_cases h0 : new = []
 ·subst h0
  cases A with
  | none =>
    refine ⟨v, w, ?_, by simpa using hown, Ext.refl _ _⟩
    rcases hown.2 with ⟨rfl, e⟩ | ⟨g, cap, cur, rfl, _, _, hnc, _⟩
    ·simp [Builtin.append_, run_underlying ht, sizeOf, typeInfo, hi, Builtin.lenOf, Builtin.firstCells]
    ·simp [Builtin.append_, run_underlying ht, sizeOf, typeInfo, hi, Builtin.lenOf, Builtin.firstCells, hnc, storeCells]
  | some a =>
    obtain ⟨v', w', h1, h2, h3, _, h5⟩ := run_append_own_at w base 22 22 5 i0 (.int .u8 0) 1 1 ht hi hz0 hz1 hz2 rfl (by decide) v xs.length (xs.map enc8) hown a 0 c [] rfl (by simp) (by simp) (by simp at hl; unfold maxLen; omega) (by simp at hl; omega) hbase
    exact ⟨v', w', h1, by simpa using h2, Ext.made h3 h5⟩
 ·have hp : 0 < new.length := by cases new with | nil => exact absurd rfl h0 | cons => simp
  obtain ⟨b, o, rfl, hb, hy⟩ := hx hp
  obtain ⟨v', w', h1, h2, h3, _, h5⟩ := run_append_own_at w base 22 22 5 i0 (.int .u8 0) 1 1 ht hi hz0 hz1 hz2 rfl (by decide) v xs.length (xs.map enc8) hown ⟨b, o, none⟩ new.length c (new.map enc8) (by simp) (fun j y hj => by rw [add_plain']; exact hy j y hj) (one_enc new) (by unfold maxLen; omega) (by omega) hbase
  exact ⟨v', w', h1, h2, Ext.made h3 h5⟩
namespace M
end M
open Go.ChangeShapes Go.WideShapes Go.ChangeAt Go.RowKit
def Yes (w : World) (e : Ending) (w' : World) : Prop := e = .returned (.bool true) ∧ Below w.heap.size w w'
theorem few_one {w : World} {b : Nat} (hb : b = w.heap.size) (a : M.Cmd) {va vb : Value} (h : Rds w va a.rs) (h' : Wrs w vb a.ws) : Calls Tryz.prog 31 #[.slice (some ⟨b, 0, none⟩) 1 1] (w.alloc (.cells #[.int .i64 a.k,.int .i64 a.tc,.int .i64 a.tn,.int .i64 a.tt,.int .i64 a.tk,.int .i64 a.sh, va, vb,.bool a.cm] 63)) fun e w' => e = .returned (.bool (M.modB a)) ∧ Below (w.alloc (.cells #[.int .i64 a.k,.int .i64 a.tc,.int .i64 a.tn,.int .i64 a.tt,.int .i64 a.tk,.int .i64 a.sh, va, vb,.bool a.cm] 63)).heap.size (w.alloc (.cells #[.int .i64 a.k,.int .i64 a.tc,.int .i64 a.tn,.int .i64 a.tt,.int .i64 a.tk,.int .i64 a.sh, va, vb,.bool a.cm] 63)) w' := by
 subst hb
 have := few_any (w := w.alloc (.cells #[.int .i64 a.k,.int .i64 a.tc,.int .i64 a.tn,.int .i64 a.tt,.int .i64 a.tk,.int .i64 a.sh, va, vb,.bool a.cm] 63)) (b := w.heap.size) (o := 0) (n := 1) (fun _ => a) (fun _ => va) (fun _ => vb) (by omega) (fun j hj => by
  obtain rfl : j = 0 := by omega
  exact ⟨by simp, by simp, by simp, by simp, by simp, by simp, by simp, by simp, by simp, by simp⟩) (fun j _ => h.push _) (fun j _ => h'.push _)
 refine this.mono fun e w' hh => ⟨?_, hh.2⟩
 rw [hh.1]; simp
def pick3 {α : Type} (a b c : α) : Nat → α
 | 0 => a
 | 1 => b
 | _ => c
namespace M
theorem rights_small {ss : List (List UInt8)} (h : rightsB ss = true) : ss.length ≤ 8 ∧ ∀ x ∈ ss, x.length ≤ 8 := by
 unfold rightsB at h
 rw [Bool.and_eq_true, decide_eq_true_eq, List.all_eq_true] at h
 refine ⟨h.1, fun x hx => ?_⟩
 obtain ⟨k, hk, e⟩ := List.getElem_of_mem hx
 have := h.2 k (List.mem_range.2 hk)
 unfold okAt at this
 rw [Bool.and_eq_true, rightB_iff, List.getD, List.getElem?_eq_getElem hk] at this
 have h2 := this.1.2
 simp only [Option.getD_some] at h2
 rw [e] at h2
 exact h2
structure Tiny (c : Cmd) : Prop where
 rl : c.rs.length ≤ 8
 wl : c.ws.length ≤ 8
 rs : ∀ r ∈ c.rs, r.1.length ≤ 8
 ws : ∀ r ∈ c.ws, r.1.length ≤ 8 ∧ r.2.length ≤ 8
theorem trans_tiny {c : Cmd} (h : transB c = true) : Tiny c := by
 unfold transB areR areW at h
 rw [Bool.and_eq_true, Bool.and_eq_true, Bool.and_eq_true, Bool.and_eq_true, Bool.and_eq_true, Bool.and_eq_true, Bool.and_eq_true, Bool.and_eq_true, Bool.and_eq_true, Bool.and_eq_true] at h
 obtain ⟨_, _, _, _, _, _, _, ⟨_, h1⟩, h2, h3⟩ := h
 obtain ⟨a1, a2⟩ := rights_small h1
 obtain ⟨b1, b2⟩ := rights_small h3
 rw [List.all_eq_true] at h2
 refine ⟨by simpa [rk] using a1, by simpa [wk] using b1, fun r hr => a2 r.1 (List.mem_map_of_mem hr), fun r hr => ⟨b2 r.1 (List.mem_map_of_mem hr), ?_⟩⟩
 have := h2 r hr
 unfold shortAt at this
 exact of_decide_eq_true this
theorem right_tiny {c : Cmd} (h : rightC c = true) : Tiny c := by
 unfold rightC at h
 split at h
 ·rw [sameC_zero h]
  exact ⟨by decide, by decide, (fun r h => by cases h), (fun r h => by cases h)⟩
 ·split at h
  ·rw [Bool.and_eq_true] at h; exact trans_tiny h.1
  ·split at h
   ·exact trans_tiny h
   ·cases h
theorem tiny_mod {c : Cmd} (h : Tiny c) : Mod c :=
 ⟨by have := h.rl; omega, by have := h.wl; omega, fun r hr => by have := h.rs r hr; omega, fun r hr => by have := (h.ws r hr).1; omega, fun r hr => by have := (h.ws r hr).2; omega⟩
theorem rds8_len (l : List (List UInt8 × Int × Int)) (h : ∀ r ∈ l, r.1.length ≤ 8) : (l.flatMap encRd).length ≤ l.length * 29 := by
 induction l with
 | nil => simp
 | cons r l ih =>
   have h1 := txt_len r.1
   have h2 := numsZ_len [r.2.1, r.2.2]
   have h3 := h r (by simp)
   have h4 := ih (fun r hr => h r (by simp [hr]))
   simp only [List.flatMap_cons, List.length_append, List.length_cons, encRd] at *
   simp only [List.length_nil] at h2
   omega
theorem wrs8_len (l : List (List UInt8 × List UInt8)) (h : ∀ r ∈ l, r.1.length ≤ 8 ∧ r.2.length ≤ 8) : (l.flatMap encWr).length ≤ l.length * 30 := by
 induction l with
 | nil => simp
 | cons r l ih =>
   have h1 := txt_len r.1
   have h2 := txt_len r.2
   have h3 := h r (by simp)
   have h4 := ih (fun r hr => h r (by simp [hr]))
   simp only [List.flatMap_cons, List.length_append, List.length_cons, encWr] at *
   omega
theorem encC_len {c : Cmd} (h : Tiny c) : (encC c).length ≤ 600 := by
 have h1 := numsZ_len [c.k, c.tc, c.tn]
 have h2 := numsZ_len [c.tt, c.tk, c.sh]
 have h3 := numsZ_len [(c.rs.length : Int)]
 have h4 := numsZ_len [(c.ws.length : Int)]
 have h5 := rds8_len c.rs h.rs
 have h6 := wrs8_len c.ws h.ws
 have h7 := flag_len c.cm
 have h8 := h.rl
 have h9 := h.wl
 simp only [encC, List.length_append, List.length_cons, List.length_nil] at *
 omega
theorem encR_len {r : Rec} (h : Tiny r.c) : (encR r).length ≤ 800 := by
 have h1 := numsZ_len [r.ir, r.is, r.st]
 have h2 := numsZ_len [r.pn, r.pr]
 have h3 := numsZ_len [r.bn, r.br]
 have h4 := numsZ_len [r.sq]
 have h5 := numsZ_len [r.d0, r.d1, r.d2, r.d3, r.d4, r.d5, r.d6]
 have h6 := flag_len r.kp
 have h7 := encC_len h
 simp only [encR, List.length_append, List.length_cons, List.length_nil] at *
 omega
end M
end Go.Proofs.YtdachohcjpjblaaGreatDoor.Wi
