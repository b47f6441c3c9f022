/- Contract: what bytes are opened as, by the document; no conditions but those that it names. -/
import Derived.Test.YtdachohcjpjblaaGreatDoorOByn
import Derived.Test.YtdachohcjpjblaaGreatDoorOWiK
import Derived.Test.YtdachohcjpjblaaGreatDoorOEach
import Derived.Deep.Onto
set_option maxHeartbeats 8000000
set_option maxRecDepth 100000
open Go.Value renaming int → J
open Go.IntKind renaming i64 → U
open Go.Lib renaming hid → V
namespace Go.Proofs.YtdachohcjpjblaaGreatDoor
open Go.ChangeShapes Go.WideShapes Go.ChangeAt Go.RowKit
open Di (Keeps In below_on below_new)
open Wi (Hold)
theorem OwnX.low {w : World} {B B' : Nat} {v : Value} {Y : List Rv} (h : OwnX w B v Y) (hB : B' ≤ B) : OwnX w B' v Y :=
 ⟨h.row.mono hB, fun y hy => have ⟨b, h1, h2⟩ := h.rs y hy; ⟨b, Nat.le_trans hB h1, h2⟩, fun y hy => have ⟨b, h1, h2⟩ := h.ws y hy; ⟨b, Nat.le_trans hB h1, h2⟩⟩
def Cells65 (w : World) (base : Nat) (p : List UInt8) (x : Value) (er : Int) : Prop := ∃ (L : List Value) (tag : Int), x = .agg L.toArray ∧ L.length = 65 ∧ L.all (·.oneCell') = true ∧ L[0]? = some (J U tag) ∧
 ((er = 0 ∧ tag = 2 ∧ ∃ y : Rv, K.one p = some y.r ∧ Wi.OwnR base w y.va y.r.c.rs ∧ Wi.OwnW base w y.vb y.r.c.ws ∧ ∀ j u, y.cells[j]? = some u → L[10 + j]? = some u) ∨ ((er ≠ 0 ∨ tag ≠ 2) ∧ K.one p = none))
theorem at10 (y : Rv) (P S : List Value) (hP : P.length = 10) : ∀ j u, y.cells[j]? = some u → (P ++ y.cells ++ S)[10 + j]? = some u := fun j u h => by
 have hj := (List.getElem?_eq_some_iff.1 h).1
 rw [List.append_assoc, List.getElem?_append_right (by omega), hP, show 10 + j - 10 = j by omega, List.getElem?_append_left hj]
 exact h
theorem dec_cells {w w' : World} {p : List UInt8} {e : Ending} (h : Wi.DcD w (Wi.P.dec p) e w') : ∃ (x : Value) (er : Int), e = .returned (.tuple #[x,J U er]) ∧ Cells65 w' w.heap.size p x er ∧ Below w.heap.size w w' := by
 obtain ⟨hb, hm⟩ := h
 cases hd : Wi.P.dec p with
 | error n =>
   rw [hd] at hm
   exact ⟨_, _, hm, ⟨[J U 0,J U 0,J U 0,J U 0,J U 0,J U 0,J U 0,.slice none 0 0,.slice none 0 0,.bool false,J U 0,J U 0,J U 0,J U 0,J U 0,J U 0,J U 0,J U 0,J U 0,J U 0,J U 0,J U 0,J U 0,.slice none 0 0,.slice none 0 0,.bool false,J U 0,J U 0,J U 0,J U 0,J U 0,J U 0,J U 0,J U 0,.bool false,J U 0,J U 0,J U 0,J U 0,J U 0,J U 0,J U 0,J U 0,J U 0,J U 0,J U 0,J U 0,J U 0,J U 0,J U 0,J U 0,J U 0,J U 0,.slice none 0 0,.slice none 0 0,.bool false,J U 0,J U 0,J U 0,J U 0,J U 0,J U 0,J U 0,J U 0,.bool false], 0, rfl, rfl, by kernel_rfl, rfl, .inr ⟨.inr (by decide), K.one_err hd⟩⟩, hb⟩
 | ok v =>
   rw [hd] at hm
   obtain ⟨x, he, hx⟩ := hm
   refine ⟨x, 0, he, ?_, hb⟩
   rcases v with c | r | m
   ·obtain ⟨va, vb, rfl, o1, o2, -⟩ := hx
    obtain ⟨A1, k1, rfl⟩ := Wi.ownsRow_slice o1
    obtain ⟨A2, k2, rfl⟩ := Wi.ownsRow_slice o2
    exact ⟨_, 1, rfl, rfl, by kernel_rfl, rfl, .inr ⟨.inr (by decide), K.one_cmd hd⟩⟩
   ·obtain ⟨va, vb, rfl, o1, o2, -⟩ := hx
    obtain ⟨A1, k1, rfl⟩ := Wi.ownsRow_slice o1
    obtain ⟨A2, k2, rfl⟩ := Wi.ownsRow_slice o2
    exact ⟨[J U 2,J U 0,J U 0,J U 0,J U 0,J U 0,J U 0,.slice none 0 0,.slice none 0 0,.bool false] ++ Rv.cells ⟨r,.slice A1 r.c.rs.length k1,.slice A2 r.c.ws.length k2⟩ ++ [J U 0,J U 0,J U 0,J U 0,J U 0,J U 0,J U 0,J U 0,J U 0,J U 0,J U 0,J U 0,J U 0,J U 0,J U 0,J U 0,J U 0,J U 0,.slice none 0 0,.slice none 0 0,.bool false,J U 0,J U 0,J U 0,J U 0,J U 0,J U 0,J U 0,J U 0,.bool false], 2, rfl, rfl, by kernel_rfl, rfl, .inl ⟨rfl, rfl, ⟨r,.slice A1 r.c.rs.length k1,.slice A2 r.c.ws.length k2⟩, K.one_rec hd, ⟨_, Nat.le_refl _, o1⟩, ⟨_, Nat.le_refl _, o2⟩, at10 ⟨r,.slice A1 r.c.rs.length k1,.slice A2 r.c.ws.length k2⟩ [J U 2,J U 0,J U 0,J U 0,J U 0,J U 0,J U 0,.slice none 0 0,.slice none 0 0,.bool false] [J U 0,J U 0,J U 0,J U 0,J U 0,J U 0,J U 0,J U 0,J U 0,J U 0,J U 0,J U 0,J U 0,J U 0,J U 0,J U 0,J U 0,J U 0,.slice none 0 0,.slice none 0 0,.bool false,J U 0,J U 0,J U 0,J U 0,J U 0,J U 0,J U 0,J U 0,.bool false] rfl⟩⟩
   ·obtain ⟨va, vb, rfl, o1, o2, -⟩ := hx
    obtain ⟨A1, k1, rfl⟩ := Wi.ownsRow_slice o1
    obtain ⟨A2, k2, rfl⟩ := Wi.ownsRow_slice o2
    exact ⟨_, 3, rfl, rfl, by kernel_rfl, rfl, .inr ⟨.inr (by decide), K.one_msg hd⟩⟩
theorem open_ref {w : World} {A : Option Addr} {n c : Nat} {xs : List UInt8} (h : Fr.Bts w (.slice A n c) xs) (hl : n ≤ 100000) : Calls Tryz.prog 13 #[.slice A n c] w fun e w' => ∃ v Y, e = .returned v ∧ rcs Y = K.rd xs ∧ OwnX w' w.heap.size v Y ∧ Below w.heap.size w w' := by
 obtain ⟨i0, hi, hz0, hz1, hz2⟩ := info_parts info67
 have HS := V (Fr.dscan_any h hl)
 have ez : Tryz.zeroCells97 = #[J U 0,J U 0,J U 0,J U 0,J U 0,J U 0,J U 0,.slice none 0 0,.slice none 0 0,.bool false,J U 0,J U 0,J U 0,J U 0,J U 0,J U 0,J U 0,J U 0,J U 0,J U 0,J U 0,J U 0,J U 0,.slice none 0 0,.slice none 0 0,.bool false,J U 0,J U 0,J U 0,J U 0,J U 0,J U 0,J U 0,J U 0,.bool false,J U 0,J U 0,J U 0,J U 0,J U 0,J U 0,J U 0,J U 0,J U 0,J U 0,J U 0,J U 0,J U 0,J U 0,J U 0,J U 0,J U 0,J U 0,.slice none 0 0,.slice none 0 0,.bool false,J U 0,J U 0,J U 0,J U 0,J U 0,J U 0,J U 0,J U 0,.bool false] := by kernel_rfl
 have EZ := V ez
 have HMB := V (show (Fr.M.sl xs).length ≤ 100000 by have := sl_count xs; have := h.len.1; omega)
 clear h ez
 go_enter Tryz.func13, Tryz.ntmps13
 go_wp2_with (fail)
 refine HS.out.mono ?_
 rintro e w1 ⟨v, vs, rfl, hown, hrd, hb⟩
 obtain ⟨A1, cap, rfl⟩ := Fr.own_slice hown
 have HO := V hown
 have HR := V hrd
 have HB := V hb
 have hmb := HMB.out
 clear hown hrd hb HS
 generalize hm : (Fr.M.sl xs).length = m at *
 have HM := V hm
 clear hm
 go_wp2
 go_loopw [3, 6] (fun o i wr => ∃ (k : Nat) (Y : List Rv), i = J U k ∧ k ≤ m ∧ Y.length = k ∧ Hid (OwnX wr w1.heap.size o Y) ∧ Hid (Below w1.heap.size w1 wr) ∧ Hid (rcs Y ++ K.recs ((Fr.M.sl xs).drop k) = K.rd xs)) (fun _ i _ => m - (intOf i).toNat)
 case atStart => exact ⟨0, [], rfl, Nat.zero_le _, rfl, V (OwnX.nil _ _), V (Below.refl _ _), V rfl⟩
 case round =>
  obtain ⟨k, Y, rfl, hk, hyl, HY, HW, HI⟩ := hrel
  have HWW := V (below_on HB.out HW.out)
  by_cases hlt : k < m
  ·obtain ⟨pb, cap', u, ev, hu, hcell, hpb, -, hmc⟩ := ownsRow_at (Wi.ownsRow_on HO.out HW.out) hlt
   simp only [Value.slice.injEq] at ev
   obtain ⟨rfl, -, rfl⟩ := ev
   have hsl : (Fr.M.sl xs)[k]? = some ((Fr.M.sl xs)[k]'(by rw [HM.out]; exact hlt)) := List.getElem?_eq_getElem _
   have hdrop : (Fr.M.sl xs).drop k = ((Fr.M.sl xs)[k]'(by rw [HM.out]; exact hlt)) :: (Fr.M.sl xs).drop (k + 1) := List.drop_eq_getElem_cons (by rw [HM.out]; exact hlt)
   obtain ⟨p, hp⟩ : ∃ p, p = (Fr.M.sl xs)[k]'(by rw [HM.out]; exact hlt) := ⟨_, rfl⟩
   rw [← hp] at hsl hdrop
   have hbt : Fr.Bts wr u p := (HR.out.2 k u p hu hsl).below HWW.out
   have HBT := V hbt
   have HD := V hdrop
   have hk1 : (k : Int) < (m : Int) := by omega
   have HSZ := V (show w1.heap.size ≤ wr.heap.size from HW.out.size)
   clear hu hsl hdrop hbt hp
   go_wp2_with (fail)
   refine (Wi.decode_doc (bts_wi HBT.out)).mono ?_
   intro e w2 hdec
   obtain ⟨x, er, rfl, ⟨L, tag, rfl, hL, hone, htag, hres⟩, hb2⟩ := dec_cells hdec
   have hb3 : Below w2.heap.size w2 (w2.alloc (.cells L.toArray 97)) := below_new (Below.refl _ _)
   have HY3 := V ((HY.out.below hb2).below hb3)
   have HW3 := V (below_on (below_on HW.out hb2) hb3)
   have HH := V (Wi.Hold.new w2 L 97)
   have q0 := hold_cell HH.out 0 htag
   have HL := V hL
   have HONE := V hone
   have HSZ2 := V (Nat.le_trans HSZ.out hb2.size)
   clear hdec hb2 hL hone htag
   rcases hres with ⟨rfl, rfl, ⟨r, va, vb⟩, h1, h2, h3, h4⟩ | ⟨hbad, h1⟩
   ·obtain ⟨B1, hB1, o1⟩ := h2
    obtain ⟨B2, hB2, o2⟩ := h3
    dsimp only at h1 o1 o2
    obtain ⟨A3, k3, rfl⟩ := Wi.ownsRow_slice o1
    obtain ⟨A4, k4, rfl⟩ := Wi.ownsRow_slice o2
    have HO1 := V (show Wi.OwnR w1.heap.size (w2.alloc (.cells L.toArray 97)) (.slice A3 r.c.rs.length k3) r.c.rs from ⟨B1, Nat.le_trans HSZ.out hB1, Wi.ownsRow_on o1 hb3⟩)
    have HO2 := V (show Wi.OwnW w1.heap.size (w2.alloc (.cells L.toArray 97)) (.slice A4 r.c.ws.length k4) r.c.ws from ⟨B2, Nat.le_trans HSZ.out hB2, Wi.ownsRow_on o2 hb3⟩)
    have HI2 := V (show rcs (Y ++ [⟨r,.slice A3 r.c.rs.length k3,.slice A4 r.c.ws.length k4⟩]) ++ K.recs ((Fr.M.sl xs).drop (k + 1)) = K.rd xs by
     have := HI.out
     rw [HD.out, K.recs_yes h1] at this
     rw [rcs_snoc, ← this]; simp)
    have hrr : (w2.alloc (.cells L.toArray 97)).rangeAt w2.heap.size 10 [J U r.ir,J U r.is,J U r.st,J U r.pn,J U r.pr,J U r.bn,J U r.br,J U r.c.k,J U r.c.tc,J U r.c.tn,J U r.c.tt,J U r.c.tk,J U r.c.sh, (.slice A3 r.c.rs.length k3), (.slice A4 r.c.ws.length k4),.bool r.c.cm,J U r.sq,J U r.d0,J U r.d1,J U r.d2,J U r.d3,J U r.d4,J U r.d5,J U r.d6,.bool r.kp] := fun j v hj => hold_cell HH.out (10 + j) (h4 j v hj)
    have HRR := V hrr
    clear hb3 h1 o1 o2 h4 hrr hB1 hB2
    subst hyl
    go_wp2_with (first
     | (rw [EZ.out]; refine Wi.wpList_store_fresh rfl 97 _ _ rfl w2.heap.size rfl 97 _ L rfl rfl (by rw [HL.out]; rfl) (by rw [HL.out]; kernel_rfl) HONE.out ?_)
     | (with_reducible refine wpList_load_mid rfl 67 _ rfl w2.heap.size 10 rfl [J U r.ir,J U r.is,J U r.st,J U r.pn,J U r.pr,J U r.bn,J U r.br,J U r.c.k,J U r.c.tc,J U r.c.tn,J U r.c.tt,J U r.c.tk,J U r.c.sh, (.slice A3 r.c.rs.length k3), (.slice A4 r.c.ws.length k4),.bool r.c.cm,J U r.sq,J U r.d0,J U r.d1,J U r.d2,J U r.d3,J U r.d4,J U r.d5,J U r.d6,.bool r.kp] _ HRR.out Tryz.underlying67 rfl (by kernel_rfl) ?_)
     | (with_reducible refine wpList_build67 rfl (.tmp 38) rfl ⟨r,.slice A3 r.c.rs.length k3,.slice A4 r.c.ws.length k4⟩ rfl ?_)
     | (at_builtin; refine wpList_append_own _ rfl _ _ 31 rfl w1.heap.size 67 i0 Rv.zero.val 25 232 Tryz.underlying31 hi hz0 hz1 hz2 rfl (by decide) _ _ _ rfl (HY3.out.row.alloc _) ⟨(w2.alloc (.cells L.toArray 97)).heap.size, 0, none⟩ 1 1 (Rv.cells ⟨r,.slice A3 r.c.rs.length k3,.slice A4 r.c.ws.length k4⟩) (by simp; rfl) rfl (rec_new (w2.alloc (.cells L.toArray 97)) ⟨r,.slice A3 r.c.rs.length k3,.slice A4 r.c.ws.length k4⟩) (rec_one (x := ⟨r,.slice A3 r.c.rs.length k3,.slice A4 r.c.ws.length k4⟩) HO1.out HO2.out) (by unfold maxLen; omega) (by omega) (by simp; have := HSZ2.out; omega) ?_; intro v' w4 hown' hgrow hnil))
    have hba : Below (w2.alloc (.cells L.toArray 97)).heap.size (w2.alloc (.cells L.toArray 97)) ((w2.alloc (.cells L.toArray 97)).alloc (.cells (Rv.cells ⟨r,.slice A3 r.c.rs.length k3,.slice A4 r.c.ws.length k4⟩).toArray 67)) := below_new (Below.refl _ _)
    have HY4 := V ((HY3.out.below hba).snoc (x := ⟨r,.slice A3 r.c.rs.length k3,.slice A4 r.c.ws.length k4⟩) (ownR_on HO1.out hba) (ownW_on HO2.out hba) hown' hgrow)
    have HW4 := V ((below_on HW3.out hba).grown hgrow (by have := HW3.out.size; have := hba.size; omega) (fun k hk => (HY3.out.row.lt k hk).1))
    clear hown' hgrow hnil hba
    go_roundw
    case rel => exact ⟨Y.length + 1, Y ++ [⟨r,.slice A3 r.c.rs.length k3,.slice A4 r.c.ws.length k4⟩], by go_num, hlt, by simp, HY4, HW4, HI2⟩
    case measure => simp [intOf]; omega
   ·have HR2 := V (K.inv_none (HD.out ▸ HI.out) h1)
    have HWF := V (below_on HB.out HW3.out)
    clear hb3 h1
    by_cases h0 : er = 0
    ·have ht : tag ≠ 2 := hbad.elim (fun e => absurd h0 e) id
     subst h0
     have q1 : (tag == 2) = false := by rw [beq_eq_false_iff_ne]; exact ht
     have q2 : (tag != 2) = true := by rw [bne, q1]; rfl
     clear hbad ht
     go_wp2_with (first
      | (rw [EZ.out]; refine Wi.wpList_store_fresh rfl 97 _ _ rfl w2.heap.size rfl 97 _ L rfl rfl (by rw [HL.out]; rfl) (by rw [HL.out]; kernel_rfl) HONE.out ?_))
     go_ret
     exact ⟨_, Y, rfl, HR2.out, HY3.out.low HB.out.size, HWF.out⟩
    ·have q1 : (er == 0) = false := by rw [beq_eq_false_iff_ne]; exact h0
     have q2 : (er != 0) = true := by rw [bne, q1]; rfl
     clear hbad h0
     go_wp2_with (first
      | (rw [EZ.out]; refine Wi.wpList_store_fresh rfl 97 _ _ rfl w2.heap.size rfl 97 _ L rfl rfl (by rw [HL.out]; rfl) (by rw [HL.out]; kernel_rfl) HONE.out ?_))
     go_ret
     exact ⟨_, Y, rfl, HR2.out, HY3.out.low HB.out.size, HWF.out⟩
  ·obtain rfl : k = m := by omega
   have HR2 := V (show rcs Y = K.rd xs by
    have := HI.out
    rwa [List.drop_of_length_le (by rw [HM.out]; exact Nat.le_refl _), K.recs, List.append_nil] at this)
   go_wp2
   go_ret
   exact ⟨_, Y, rfl, HR2.out, HY.out.low HB.out.size, HWW.out⟩
end Go.Proofs.YtdachohcjpjblaaGreatDoor
