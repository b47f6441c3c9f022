/- Contract of the function that hands over the records whose frames some bytes begin with; no conditions but those that it names. -/
import Derived.Test.YtdachohcjpjblaaGreatDoorFWit
import Derived.Test.YtdachohcjpjblaaGreatDoorFWiI
import Derived.Deep.RegionHeld3
set_option maxHeartbeats 8000000
set_option maxRecDepth 100000
namespace Go.Proofs.YtdachohcjpjblaaGreatDoor
open Go.ChangeShapes Go.WideShapes Go.ChangeAt Go.RowKit
open Di (Keeps In below_on below_new)
open Wi (Hold)
theorem K.inv_len {X X1 : List Rv} {xs : List UInt8} {l : List (List UInt8)} (h : rcs X1 ++ K.recs l = rcs X ++ K.rd xs) : (K.fb (rcs X1)).length ≤ (K.fb (rcs X)).length + xs.length ∧ X1.length ≤ X.length + xs.length := by
 have h1 := congrArg (fun A => (K.fb A).length) h
 have h2 := congrArg List.length h
 simp only [K.fb_append, List.length_append] at h1 h2
 have h3 := K.rd_len xs
 have h4 := (K.rd_rg xs).count
 simp only [rcs_len] at h2
 omega
theorem K.one_rec {p : List UInt8} {r : K.Rec} (h : Wi.P.dec p = .ok (.inr (.inl r))) : K.one p = some r := by unfold K.one; rw [h]
theorem K.one_err {p : List UInt8} {n : Nat} (h : Wi.P.dec p = .error n) : K.one p = none := by unfold K.one; rw [h]
theorem K.one_cmd {p : List UInt8} {c : Wi.M.Cmd} (h : Wi.P.dec p = .ok (.inl c)) : K.one p = none := by unfold K.one; rw [h]
theorem K.one_msg {p : List UInt8} {m : Wi.M.Msg} (h : Wi.P.dec p = .ok (.inr (.inr m))) : K.one p = none := by unfold K.one; rw [h]
theorem K.inv_none {X1 : List Rv} {R : List K.Rec} {p : List UInt8} {l : List (List UInt8)} (h : rcs X1 ++ K.recs (p :: l) = R) (hn : K.one p = none) : rcs X1 = R := by
 rw [K.recs_no hn, List.append_nil] at h; exact h
def New (w : World) (x : Rv) : Prop := ∀ b, (x.va.ownBlock = some b ∨ x.vb.ownBlock = some b) → w.heap.size ≤ b
theorem New.later {w w1 : World} {x : Rv} (h : New w1 x) (hs : w.heap.size ≤ w1.heap.size) : New w x := fun b e => Nat.le_trans hs (h b e)
theorem New.out {F : Nat → Prop} {w w' : World} {x : Rv} (h : New w x) (hF : ∀ x, F x → x < w.heap.size) {G : Nat → Prop} (ha : Out G w' x.va) (hb : Out G w' x.vb) : Out F w' x.va ∧ Out F w' x.vb :=
 ⟨fun b e => ⟨fun f => by have := h b (.inl e); have := hF b f; omega, (ha b e).2⟩, fun b e => ⟨fun f => by have := h b (.inr e); have := hF b f; omega, (hb b e).2⟩⟩
def Eached (w : World) (gc : Nat) (F : Nat → Prop) (X : List Rv) (rest : Int) (fr : Value) (gm be bc : Nat) (xs : List UInt8) (w' : World) : Prop := ∃ F' X' vr' ve', rcs X' = rcs X ++ K.rd xs ∧ Cb w' gc F' X' rest fr vr' ve' gm be bc ∧ (∀ y, F y → F' y) ∧ Keeps F w w' ∧ Di.Grew F F' w w' ∧ ∀ x ∈ X', x ∈ X ∨ New w x
theorem tab_keeps {w w' : World} {F : Nat → Prop} (h : Fr.Tab w) (k : Keeps F w w') (h0 : ¬ F 0) : Fr.Tab w' :=
 ⟨Nat.lt_of_lt_of_le h.1 k.size, fun j hj => (k.cell (p := ⟨0, j, none⟩) h.1 h0).trans (h.2 j hj)⟩
theorem pays_keeps {w w' : World} {base : Nat} {vs : List Value} {ps : List (List UInt8)} {F : Nat → Prop} (h : Fr.Pays w base vs ps) (k : Keeps F w w') (hF : ∀ x, F x → x < base) : Fr.Pays w' base vs ps :=
 ⟨h.1, fun i u x hu hx => by
  obtain ⟨a, b⟩ := h.2.1 i u x hu hx
  refine ⟨a, owns_keeps b k fun y hy f => ?_⟩
  have := (b.lt y hy).1
  have := hF y f
  omega, h.2.2⟩
theorem bts_slice {w : World} {v : Value} {xs : List UInt8} (h : Fr.Bts w v xs) : ∃ A c, v = .slice A xs.length c := by
 obtain ⟨A, c, e, _⟩ := h
 rw [List.length_map] at e
 exact ⟨A, c, e⟩
theorem bts_di {w : World} {v : Value} {xs : List UInt8} (h : Fr.Bts w v xs) : Di.Bts w v xs := h
theorem bts_wi {w : World} {v : Value} {xs : List UInt8} (h : Fr.Bts w v xs) : Wi.Bts w v xs := h
theorem frms_count : ∀ l : List (List UInt8), l.length ≤ (Fr.M.frms l).length
 | [] => Nat.le_refl _
 | p :: l => by
   have := frms_count l
   have := Fr.M.frm_len p
   rw [Fr.M.frms, List.length_append, List.length_cons]
   omega
theorem sl_count (xs : List UInt8) : (Fr.M.sl xs).length ≤ xs.length := by
 have h := frms_count (Fr.M.sl xs)
 rw [K.frms_sl xs.length xs (Nat.le_refl _), List.length_take] at h
 omega
theorem grew_end {F F1 : Nat → Prop} {w w1 wr w' : World} (hb : Below w.heap.size w w1) (hg : Di.Grew F F1 w1 wr) (hs : wr.heap.size ≤ w'.heap.size) : Di.Grew F F1 w w' :=
 ⟨fun x f => (hg.1 x f).imp id (fun e => Nat.le_trans hb.size e), fun x f => Nat.lt_of_lt_of_le (hg.2 x f) hs⟩
theorem each_any {w : World} {gc : Nat} {F : Nat → Prop} {X : List Rv} {rest : Int} {fr vr ve : Value} {gm be bc b o n c : Nat} {xs : List UInt8} (hT : Fr.Tab w) (hu : Fr.Bts w (.slice (some ⟨b, o, none⟩) n c) xs) (hn : n ≤ 100000) (h : Cb w gc F X rest fr vr ve gm be bc) (he : (K.fb (rcs X)).length ≤ 100000) (hl : X.length ≤ 100000) :
 Calls Tryz.prog 75 #[.slice (some ⟨b, o, none⟩) n c, .func (.func 76) #[] #[.pointer (some ⟨be, 0, none⟩),.pointer (some ⟨bc, 0, none⟩)]] w fun e w' => e = .returned (.tuple #[]) ∧ Eached w gc F X rest fr gm be bc xs w' := by
 have HT := Lib.hid hT
 have HU := Lib.hid hu
 have HC := Lib.hid h
 have HE := Lib.hid he
 have HL := Lib.hid hl
 have HX := Lib.hid hu.len.1
 clear hT hu h he hl
 go_enter Tryz.func75, Tryz.ntmps75
 go_wp2_with (fail)
 refine (Fr.scan_any HT.out HU.out hn).mono ?_
 rintro e w1 ⟨v, vs, rfl, hown, hpay, hb⟩
 obtain ⟨A, cap, rfl⟩ := Fr.own_slice hown
 have HO := Lib.hid hown
 have HP := Lib.hid hpay
 have HB := Lib.hid hb
 have HC1 := Lib.hid (HC.out.below hb)
 have HN := Lib.hid hpay.1
 have HF1 := Lib.hid (show ∀ x, F x → x < w.heap.size from HC.out.ct.lt)
 have HNL := Lib.hid hn
 clear hown hpay hb hn
 have hmb : (Fr.M.sl xs).length ≤ 100000 := by have := sl_count xs; have := HX.out; have := HNL.out; omega
 generalize hm : (Fr.M.sl xs).length = m at *
 have HM := Lib.hid hm
 clear hm
 go_wp2
 go_loopw [19] (fun i wr => ∃ (k : Nat) (F1 : Nat → Prop) (X1 : List Rv) (vr1 ve1 : Value), i = .int .i64 k ∧ k ≤ m ∧ Hid (Cb wr gc F1 X1 rest fr vr1 ve1 gm be bc) ∧ Hid (∀ y, F y → F1 y) ∧ Hid (Keeps F w1 wr) ∧ Hid (Di.Grew F F1 w1 wr) ∧ Hid (rcs X1 ++ K.recs ((Fr.M.sl xs).drop k) = rcs X ++ K.rd xs) ∧ Hid (∀ x ∈ X1, x ∈ X ∨ New w x)) (fun i _ => m - (intOf i).toNat)
 case atStart => exact ⟨0, F, X, vr, ve, rfl, Nat.zero_le _, HC1, Lib.hid (fun _ e => e), Lib.hid (Keeps.refl _ _), Lib.hid (Di.Grew.refl HC1.out.ct.lt (Nat.le_refl _)), Lib.hid rfl, Lib.hid (fun _ e => .inl e)⟩
 case round =>
  obtain ⟨k, F1, X1, vr1, ve1, rfl, hk, HCr, HS, HK, HG, HI, HW⟩ := hrel
  by_cases hlt : k < m
  ·have hor : wr.ownsRow w.heap.size 22 1 (.slice A m cap) m vs := owns_keeps HO.out HK.out fun b hb f => by have := (HO.out.lt b hb).1; have := HF1.out b f; omega
   obtain ⟨pb, cap', u, ev, hu, hcell, hpb, -, hmc⟩ := ownsRow_at hor hlt
   simp only [Value.slice.injEq] at ev
   obtain ⟨rfl, -, rfl⟩ := ev
   have hsl : (Fr.M.sl xs)[k]? = some ((Fr.M.sl xs)[k]'(by rw [HM.out]; exact hlt)) := List.getElem?_eq_getElem _
   have hdrop : (Fr.M.sl xs).drop k = ((Fr.M.sl xs)[k]'(by rw [HM.out]; exact hlt)) :: (Fr.M.sl xs).drop (k + 1) := List.drop_eq_getElem_cons (by rw [HM.out]; exact hlt)
   obtain ⟨p, hp⟩ : ∃ p, p = (Fr.M.sl xs)[k]'(by rw [HM.out]; exact hlt) := ⟨_, rfl⟩
   rw [← hp] at hsl hdrop
   have hbt : Fr.Bts wr u p := (pays_keeps HP.out HK.out HF1.out).bts hu hsl
   obtain ⟨A3, c3, rfl⟩ := bts_slice hbt
   have HBT := Lib.hid hbt
   have HD := Lib.hid hdrop
   have hk1 : (k : Int) < (m : Int) := by omega
   clear hor hu hsl hdrop hbt hp
   go_wp2_with (fail)
   refine (Wi.decode_any (bts_wi HBT.out)).mono ?_
   rintro e w2 ⟨hb2, hm2⟩
   have HB2 := Lib.hid hb2
   cases hd : Wi.P.dec p with
   | error z =>
     rw [hd] at hm2
     subst hm2
     have HR := Lib.hid (K.inv_none (HD.out ▸ HI.out) (K.one_err hd))
     clear hd hb2 HBT HD
     go_wp2_with (fail)
     refine (Wi.record_nil).mono ?_
     rintro e w3 ⟨rfl, hb3⟩
     have b4 : Below w3.heap.size w3 (w3.alloc (.cells #[.int .i64 0,.int .i64 0,.int .i64 0,.int .i64 0,.int .i64 0,.int .i64 0,.int .i64 0,.int .i64 0,.int .i64 0,.int .i64 0,.int .i64 0,.int .i64 0,.int .i64 0,.slice none 0 0,.slice none 0 0,.bool false,.int .i64 0,.int .i64 0,.int .i64 0,.int .i64 0,.int .i64 0,.int .i64 0,.int .i64 0,.int .i64 0,.bool false] 67)) := (Below.refl _ _).alloc (Nat.le_refl _) _
     have HC3 := Lib.hid (((HCr.out.below HB2.out).below hb3).below b4)
     have HK3 := Lib.hid (((HK.out.on HB2.out).on hb3).on b4)
     have HG3 := Lib.hid (grew_end HB.out HG.out (Nat.le_trans HB2.out.size (Nat.le_trans hb3.size b4.size)))
     clear hb3 b4
     go_wp2_with (first
      | (with_reducible refine Wi.wpList_store_fresh rfl 67 _ _ rfl w3.heap.size rfl 67 _ [.int .i64 0,.int .i64 0,.int .i64 0,.int .i64 0,.int .i64 0,.int .i64 0,.int .i64 0,.int .i64 0,.int .i64 0,.int .i64 0,.int .i64 0,.int .i64 0,.int .i64 0,.slice none 0 0,.slice none 0 0,.bool false,.int .i64 0,.int .i64 0,.int .i64 0,.int .i64 0,.int .i64 0,.int .i64 0,.int .i64 0,.int .i64 0,.bool false] rfl rfl rfl (by kernel_rfl) rfl ?_))
     refine bodyPost_ret (v := .tuple #[]) (by simp [results, Tryz.results75]) rfl ?_
     exact ⟨rfl, F1, X1, _, _, HR.out, HC3.out, HS.out, (Keeps.of_below HB.out).trans HK3.out (fun _ _ e => e), HG3.out, HW.out⟩
   | ok v =>
     rw [hd] at hm2
     obtain ⟨x, rfl, hx⟩ := hm2
     rcases v with c | r | m'
     ·have HR := Lib.hid (K.inv_none (HD.out ▸ HI.out) (K.one_cmd hd))
      obtain ⟨va, vb, rfl, q1, q2, l1, l2⟩ := hx
      have HQ1 := Lib.hid (Wi.RowN.of_owns q1)
      have HQ2 := Lib.hid (Wi.RowN.of_owns q2)
      clear hd hb2 HBT HD q1 q2
      go_wp2_with (fail)
      refine (Wi.record_cmd c HQ1.out HQ2.out (by omega) (by omega)).mono ?_
      rintro e w3 ⟨rfl, hb3⟩
      have b4 : Below w3.heap.size w3 (w3.alloc (.cells #[.int .i64 0,.int .i64 0,.int .i64 0,.int .i64 0,.int .i64 0,.int .i64 0,.int .i64 0,.int .i64 0,.int .i64 0,.int .i64 0,.int .i64 0,.int .i64 0,.int .i64 0,.slice none 0 0,.slice none 0 0,.bool false,.int .i64 0,.int .i64 0,.int .i64 0,.int .i64 0,.int .i64 0,.int .i64 0,.int .i64 0,.int .i64 0,.bool false] 67)) := (Below.refl _ _).alloc (Nat.le_refl _) _
      have HC3 := Lib.hid (((HCr.out.below HB2.out).below hb3).below b4)
      have HK3 := Lib.hid (((HK.out.on HB2.out).on hb3).on b4)
      have HG3 := Lib.hid (grew_end HB.out HG.out (Nat.le_trans HB2.out.size (Nat.le_trans hb3.size b4.size)))
      clear hb3 b4
      go_wp2_with (first
       | (with_reducible refine Wi.wpList_store_fresh rfl 67 _ _ rfl w3.heap.size rfl 67 _ [.int .i64 0,.int .i64 0,.int .i64 0,.int .i64 0,.int .i64 0,.int .i64 0,.int .i64 0,.int .i64 0,.int .i64 0,.int .i64 0,.int .i64 0,.int .i64 0,.int .i64 0,.slice none 0 0,.slice none 0 0,.bool false,.int .i64 0,.int .i64 0,.int .i64 0,.int .i64 0,.int .i64 0,.int .i64 0,.int .i64 0,.int .i64 0,.bool false] rfl rfl rfl (by kernel_rfl) rfl ?_))
      refine bodyPost_ret (v := .tuple #[]) (by simp [results, Tryz.results75]) rfl ?_
      exact ⟨rfl, F1, X1, _, _, HR.out, HC3.out, HS.out, (Keeps.of_below HB.out).trans HK3.out (fun _ _ e => e), HG3.out, HW.out⟩
     ·have HI2 := Lib.hid (show rcs (X1 ++ [(⟨r,.slice none 0 0,.slice none 0 0⟩ : Rv)]) ++ K.recs ((Fr.M.sl xs).drop (k + 1)) = rcs X ++ K.rd xs by
       have := HI.out
       rw [HD.out, K.recs_yes (K.one_rec hd)] at this
       rw [rcs_snoc, ← this]; simp)
      obtain ⟨hpe, hrg⟩ := K.one_inv (K.one_rec hd)
      have hlen := K.enc_len hrg
      obtain ⟨va, vb, rfl, q1, q2, l1, l2⟩ := hx
      have HQ1 := Lib.hid (Wi.RowN.of_owns q1)
      have HQ2 := Lib.hid (Wi.RowN.of_owns q2)
      have HRG := Lib.hid hrg
      have HSZ := Lib.hid (show Fr.M.size (p.length : Int) = (K.len r : Nat) by rw [hpe, Fr.M.size_yes ⟨by omega, by omega⟩]; unfold K.len; simp)
      have HINV := Lib.hid (K.inv_len HI.out)
      clear hd hb2 HBT HD q1 q2 hpe hrg hlen
      go_wp2_with (fail)
      refine (Wi.record_rec r HQ1.out HQ2.out (by omega) (by omega)).mono ?_
      rintro e w3 ⟨va3, vb3, rfl, ⟨B1, hB1, o1⟩, ⟨B2, hB2, o2⟩, hb3⟩
      have hs2 := HB2.out.size
      have hs3 := hb3.size
      have hF1 : ∀ y, F1 y → y < wr.heap.size := HCr.out.ct.lt
      have T3 : Tx w3 F1 ⟨r, va3, vb3⟩ := ⟨Wi.RowN.of_owns o1, Wi.RowN.of_owns o2, Out.of_owns o1 (fun y f => by have := hF1 y f; omega), Out.of_owns o2 (fun y f => by have := hF1 y f; omega), HRG.out⟩
      have NW : New w ⟨r, va3, vb3⟩ := by
       intro y e
       have := HB.out.size
       have := HK.out.size
       rcases e with e | e
       ·have := (o1.lt y e).1; omega
       ·have := (o2.lt y e).1; omega
      have HNW := Lib.hid NW
      obtain ⟨A1, k1, rfl⟩ := Wi.ownsRow_slice o1
      obtain ⟨A2, k2, rfl⟩ := Wi.ownsRow_slice o2
      have b4 : Below w3.heap.size w3 (w3.alloc (.cells #[.int .i64 r.ir,.int .i64 r.is,.int .i64 r.st,.int .i64 r.pn,.int .i64 r.pr,.int .i64 r.bn,.int .i64 r.br,.int .i64 r.c.k,.int .i64 r.c.tc,.int .i64 r.c.tn,.int .i64 r.c.tt,.int .i64 r.c.tk,.int .i64 r.c.sh, (.slice A1 r.c.rs.length k1), (.slice A2 r.c.ws.length k2),.bool r.c.cm,.int .i64 r.sq,.int .i64 r.d0,.int .i64 r.d1,.int .i64 r.d2,.int .i64 r.d3,.int .i64 r.d4,.int .i64 r.d5,.int .i64 r.d6,.bool r.kp] 67)) := (Below.refl _ _).alloc (Nat.le_refl _) _
      have HC4 := Lib.hid ((((HCr.out.below HB2.out).below hb3).below b4).below (Below.refl _ _).drew)
      have HK4 := Lib.hid ((((HK.out.on HB2.out).on hb3).on b4).on (Below.refl _ _).drew)
      have HX4 := Lib.hid ((T3.step (Keeps.of_below (F := F1) b4) (fun _ f => .inl f)).step (Keeps.of_below (F := F1) (Below.refl _ _).drew) (fun _ f => .inl f))
      have HH4 := Lib.hid (Wi.Hold.new w3 [.int .i64 r.ir,.int .i64 r.is,.int .i64 r.st,.int .i64 r.pn,.int .i64 r.pr,.int .i64 r.bn,.int .i64 r.br,.int .i64 r.c.k,.int .i64 r.c.tc,.int .i64 r.c.tn,.int .i64 r.c.tt,.int .i64 r.c.tk,.int .i64 r.c.sh, (.slice A1 r.c.rs.length k1), (.slice A2 r.c.ws.length k2),.bool r.c.cm,.int .i64 r.sq,.int .i64 r.d0,.int .i64 r.d1,.int .i64 r.d2,.int .i64 r.d3,.int .i64 r.d4,.int .i64 r.d5,.int .i64 r.d6,.bool r.kp] 67)
      have r1 : (w3.alloc (.cells #[.int .i64 r.ir,.int .i64 r.is,.int .i64 r.st,.int .i64 r.pn,.int .i64 r.pr,.int .i64 r.bn,.int .i64 r.br,.int .i64 r.c.k,.int .i64 r.c.tc,.int .i64 r.c.tn,.int .i64 r.c.tt,.int .i64 r.c.tk,.int .i64 r.c.sh, (.slice A1 r.c.rs.length k1), (.slice A2 r.c.ws.length k2),.bool r.c.cm,.int .i64 r.sq,.int .i64 r.d0,.int .i64 r.d1,.int .i64 r.d2,.int .i64 r.d3,.int .i64 r.d4,.int .i64 r.d5,.int .i64 r.d6,.bool r.kp] 67)).rangeAt w3.heap.size 0 [.int .i64 r.ir,.int .i64 r.is,.int .i64 r.st,.int .i64 r.pn,.int .i64 r.pr,.int .i64 r.bn,.int .i64 r.br,.int .i64 r.c.k,.int .i64 r.c.tc,.int .i64 r.c.tn,.int .i64 r.c.tt,.int .i64 r.c.tk,.int .i64 r.c.sh, (.slice A1 r.c.rs.length k1), (.slice A2 r.c.ws.length k2),.bool r.c.cm,.int .i64 r.sq,.int .i64 r.d0,.int .i64 r.d1,.int .i64 r.d2,.int .i64 r.d3,.int .i64 r.d4,.int .i64 r.d5,.int .i64 r.d6,.bool r.kp] := HH4.out.cel.whole
      have hi : (Tryz.prog.info? 67).map (·.size) = some ([.int .i64 r.ir,.int .i64 r.is,.int .i64 r.st,.int .i64 r.pn,.int .i64 r.pr,.int .i64 r.bn,.int .i64 r.br,.int .i64 r.c.k,.int .i64 r.c.tc,.int .i64 r.c.tn,.int .i64 r.c.tt,.int .i64 r.c.tk,.int .i64 r.c.sh, (.slice A1 r.c.rs.length k1), (.slice A2 r.c.ws.length k2),.bool r.c.cm,.int .i64 r.sq,.int .i64 r.d0,.int .i64 r.d1,.int .i64 r.d2,.int .i64 r.d3,.int .i64 r.d4,.int .i64 r.d5,.int .i64 r.d6,.bool r.kp] : List Value).length := by kernel_rfl
      have hu67 := Tryz.underlying67
      have HNF := Lib.hid (show ¬ F1 w3.heap.size from fun f => by have := hF1 _ f; omega)
      clear T3 NW o1 o2 hb3 b4 hF1 hB1 hB2 l1 l2 HQ1 HQ2
      go_wp2_with (first
       | (with_reducible refine Wi.wpList_store_fresh rfl 67 _ _ rfl w3.heap.size rfl 67 _ [.int .i64 r.ir,.int .i64 r.is,.int .i64 r.st,.int .i64 r.pn,.int .i64 r.pr,.int .i64 r.bn,.int .i64 r.br,.int .i64 r.c.k,.int .i64 r.c.tc,.int .i64 r.c.tn,.int .i64 r.c.tt,.int .i64 r.c.tk,.int .i64 r.c.sh, (.slice A1 r.c.rs.length k1), (.slice A2 r.c.ws.length k2),.bool r.c.cm,.int .i64 r.sq,.int .i64 r.d0,.int .i64 r.d1,.int .i64 r.d2,.int .i64 r.d3,.int .i64 r.d4,.int .i64 r.d5,.int .i64 r.d6,.bool r.kp] rfl rfl rfl (by kernel_rfl) rfl ?_))
      refine wp_region_held_drew (S := fun w' => w'.rangeAt w3.heap.size 0 [.int .i64 r.ir,.int .i64 r.is,.int .i64 r.st,.int .i64 r.pn,.int .i64 r.pr,.int .i64 r.bn,.int .i64 r.br,.int .i64 r.c.k,.int .i64 r.c.tc,.int .i64 r.c.tn,.int .i64 r.c.tt,.int .i64 r.c.tk,.int .i64 r.c.sh, (.slice A1 r.c.rs.length k1), (.slice A2 r.c.ws.length k2),.bool r.c.cm,.int .i64 r.sq,.int .i64 r.d0,.int .i64 r.d1,.int .i64 r.d2,.int .i64 r.d3,.int .i64 r.d4,.int .i64 r.d5,.int .i64 r.d6,.bool r.kp]) (by kernel_rfl) (by exact r1) (fun hHeld => ?_)
      refine wpAnyH_take (i := 0) (v := ?_) rfl (by kernel_rfl) (by kernel_rfl) (by kernel_rfl) (fun _ _ _ h => h) (Or.inl ⟨by rfl, ?_⟩) (by assumption) ?_
      rotate_left
      ·(intro w hSw; (try dsimp only at hSw); go_split_ands; go_simp; (try with_reducible rfl))
      (try simp only [Act.put]); (try simp only [List.setIfInBounds_toArray]); (try simp only [List.set_cons_succ]); (try simp only [List.set_cons_zero])
      refine wpAnyH_take (i := 1) (v := .agg ([.int .i64 r.ir,.int .i64 r.is,.int .i64 r.st,.int .i64 r.pn,.int .i64 r.pr,.int .i64 r.bn,.int .i64 r.br,.int .i64 r.c.k,.int .i64 r.c.tc,.int .i64 r.c.tn,.int .i64 r.c.tt,.int .i64 r.c.tk,.int .i64 r.c.sh, (.slice A1 r.c.rs.length k1), (.slice A2 r.c.ws.length k2),.bool r.c.cm,.int .i64 r.sq,.int .i64 r.d0,.int .i64 r.d1,.int .i64 r.d2,.int .i64 r.d3,.int .i64 r.d4,.int .i64 r.d5,.int .i64 r.d6,.bool r.kp]).toArray) rfl (by kernel_rfl) (by kernel_rfl) (by kernel_rfl) (fun _ _ _ h => h) (yieldsIf_load_mid (by rfl) 67 _ rfl w3.heap.size 0 rfl [.int .i64 r.ir,.int .i64 r.is,.int .i64 r.st,.int .i64 r.pn,.int .i64 r.pr,.int .i64 r.bn,.int .i64 r.br,.int .i64 r.c.k,.int .i64 r.c.tc,.int .i64 r.c.tn,.int .i64 r.c.tt,.int .i64 r.c.tk,.int .i64 r.c.sh, (.slice A1 r.c.rs.length k1), (.slice A2 r.c.ws.length k2),.bool r.c.cm,.int .i64 r.sq,.int .i64 r.d0,.int .i64 r.d1,.int .i64 r.d2,.int .i64 r.d3,.int .i64 r.d4,.int .i64 r.d5,.int .i64 r.d6,.bool r.kp] _ (fun w hSw => hSw) Tryz.underlying67 rfl hi) (by assumption) ?_
      (try simp only [Act.put]); (try simp only [List.setIfInBounds_toArray]); (try simp only [List.set_cons_succ]); (try simp only [List.set_cons_zero])
      refine wpAnyH_take (i := 2) (v := ?_) rfl (by kernel_rfl) (by kernel_rfl) (by kernel_rfl) (fun _ _ _ h => h) (Or.inl ⟨by rfl, ?_⟩) (by assumption) ?_
      rotate_left
      ·(intro w hSw; (try dsimp only at hSw); go_split_ands; go_simp; (try with_reducible rfl))
      (try simp only [Act.put]); (try simp only [List.setIfInBounds_toArray]); (try simp only [List.set_cons_succ]); (try simp only [List.set_cons_zero])
      refine wpAnyH_take (i := 3) (v := ?_) rfl (by kernel_rfl) (by kernel_rfl) (by kernel_rfl) (fun _ _ _ h => h) (Or.inl ⟨by rfl, ?_⟩) (by assumption) ?_
      rotate_left
      ·(intro w hSw; (try dsimp only at hSw); go_split_ands; go_simp; (try with_reducible rfl))
      (try simp only [Act.put]); (try simp only [List.setIfInBounds_toArray]); (try simp only [List.set_cons_succ]); (try simp only [List.set_cons_zero])
      refine wpAnyH_ready (rs := [4]) (by kernel_rfl) (by simp) ?_
      refine AllReadyH.cons rfl (fun K hK => ?_) AllReadyH.nil
      go_simp
      refine (Fr.size_any _ _).mono ?_
      rintro e w5 ⟨rfl, rfl⟩
      rw [HSZ.out]
      try go_simp
      refine hK.out _ _ r1 (fun hHeld => ?_)
      clear hK K
      (try simp only [Act.put]); (try simp only [List.setIfInBounds_toArray]); (try simp only [List.set_cons_succ]); (try simp only [List.set_cons_zero])
      refine wpAnyH_ready (rs := [5]) (by kernel_rfl) (by simp) ?_
      refine AllReadyH.cons rfl (fun K hK => ?_) AllReadyH.nil
      go_simp
      refine (cb_col HC4.out ⟨r,.slice A1 r.c.rs.length k1,.slice A2 r.c.ws.length k2⟩ HX4.out (by have := HINV.out; have := HE.out; have := HX.out; have := HNL.out; omega) (by have := HINV.out; have := HL.out; have := HX.out; have := HNL.out; omega)).mono ?_
      rintro e w6 ⟨rfl, F2, vr2, ve2, hC6, hS6, hK6, hG6⟩
      have HC6 := Lib.hid hC6
      have HS6 := Lib.hid hS6
      have HK6 := Lib.hid hK6
      have HG6 := Lib.hid hG6
      have r6 := (hold_keeps (HH4.out.on (Below.refl _ _).drew) hK6 HNF.out).cel.whole
      clear hC6 hS6 hK6 hG6
      try go_simp
      refine hK.out _ _ r6 (fun hHeld => ?_)
      clear hK K
      (try simp only [Act.put]); (try simp only [List.setIfInBounds_toArray]); (try simp only [List.set_cons_succ]); (try simp only [List.set_cons_zero])
      refine wpAnyH_done (by kernel_rfl) ?_ _
      have HG7 := Lib.hid (show Di.Grew F F2 w1 w6 from ⟨fun y f => (HG6.out.1 y f).elim (HG.out.1 y) (fun e => .inr (Nat.le_trans HK4.out.size e)), HG6.out.2⟩)
      have HK7 := Lib.hid (HK4.out.trans HK6.out (fun y hy f => (HG.out.1 y f).elim id (fun e => absurd hy (by omega))))
      have HI3 := Lib.hid (show rcs (X1 ++ [⟨r,.slice A1 r.c.rs.length k1,.slice A2 r.c.ws.length k2⟩]) ++ K.recs ((Fr.M.sl xs).drop (k + 1)) = rcs X ++ K.rd xs by
       have := HI2.out
       rw [rcs_snoc] at this ⊢
       exact this)
      have HW3 := Lib.hid (show ∀ x ∈ X1 ++ [⟨r,.slice A1 r.c.rs.length k1,.slice A2 r.c.ws.length k2⟩], x ∈ X ∨ New w x from fun x hx => by
       rcases List.mem_append.1 hx with hx | hx
       ·exact HW.out x hx
       ·rw [List.mem_singleton.1 hx]; exact .inr HNW.out)
      clear r1 r6 hHeld
      go_wp2
      go_roundw
      case rel => exact ⟨k + 1, F2, X1 ++ [⟨r,.slice A1 r.c.rs.length k1,.slice A2 r.c.ws.length k2⟩], vr2, ve2, by go_num, hlt, HC6, Lib.hid (fun y f => HS6.out y (HS.out y f)), HK7, HG7, HI3, HW3⟩
      case measure => simp [intOf]; omega
     ·have HR := Lib.hid (K.inv_none (HD.out ▸ HI.out) (K.one_msg hd))
      obtain ⟨va, vb, rfl, q1, q2, l1, l2⟩ := hx
      have HQ1 := Lib.hid (Wi.RowN.of_owns q1)
      have HQ2 := Lib.hid (Wi.RowN.of_owns q2)
      clear hd hb2 HBT HD q1 q2
      go_wp2_with (fail)
      refine (Wi.record_msg m' HQ1.out HQ2.out (by omega) (by omega)).mono ?_
      rintro e w3 ⟨rfl, hb3⟩
      have b4 : Below w3.heap.size w3 (w3.alloc (.cells #[.int .i64 0,.int .i64 0,.int .i64 0,.int .i64 0,.int .i64 0,.int .i64 0,.int .i64 0,.int .i64 0,.int .i64 0,.int .i64 0,.int .i64 0,.int .i64 0,.int .i64 0,.slice none 0 0,.slice none 0 0,.bool false,.int .i64 0,.int .i64 0,.int .i64 0,.int .i64 0,.int .i64 0,.int .i64 0,.int .i64 0,.int .i64 0,.bool false] 67)) := (Below.refl _ _).alloc (Nat.le_refl _) _
      have HC3 := Lib.hid (((HCr.out.below HB2.out).below hb3).below b4)
      have HK3 := Lib.hid (((HK.out.on HB2.out).on hb3).on b4)
      have HG3 := Lib.hid (grew_end HB.out HG.out (Nat.le_trans HB2.out.size (Nat.le_trans hb3.size b4.size)))
      clear hb3 b4
      go_wp2_with (first
       | (with_reducible refine Wi.wpList_store_fresh rfl 67 _ _ rfl w3.heap.size rfl 67 _ [.int .i64 0,.int .i64 0,.int .i64 0,.int .i64 0,.int .i64 0,.int .i64 0,.int .i64 0,.int .i64 0,.int .i64 0,.int .i64 0,.int .i64 0,.int .i64 0,.int .i64 0,.slice none 0 0,.slice none 0 0,.bool false,.int .i64 0,.int .i64 0,.int .i64 0,.int .i64 0,.int .i64 0,.int .i64 0,.int .i64 0,.int .i64 0,.bool false] rfl rfl rfl (by kernel_rfl) rfl ?_))
      refine bodyPost_ret (v := .tuple #[]) (by simp [results, Tryz.results75]) rfl ?_
      exact ⟨rfl, F1, X1, _, _, HR.out, HC3.out, HS.out, (Keeps.of_below HB.out).trans HK3.out (fun _ _ e => e), HG3.out, HW.out⟩
  ·obtain rfl : k = m := by omega
   have HR := Lib.hid (show rcs X1 = rcs X ++ K.rd xs by
    have := HI.out
    rwa [List.drop_of_length_le (by rw [HM.out]; exact Nat.le_refl _), K.recs, List.append_nil] at this)
   go_wp2
   refine bodyPost_end (v := .tuple #[]) (by simp [results, Tryz.results75]) rfl ?_
   exact ⟨rfl, F1, X1, _, _, HR.out, HCr.out, HS.out, (Keeps.of_below HB.out).trans HK.out (fun _ _ e => e), grew_end HB.out HG.out (Nat.le_refl _), HW.out⟩
end Go.Proofs.YtdachohcjpjblaaGreatDoor
