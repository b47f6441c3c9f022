/- Contract of the function that makes the frames of records; no conditions but those that it names. -/
import Derived.Test.YtdachohcjpjblaaGreatDoorFWit
import Derived.Test.YtdachohcjpjblaaGreatDoorFWiF
set_option maxHeartbeats 8000000
set_option maxRecDepth 100000
namespace Go.Proofs.YtdachohcjpjblaaGreatDoor
open Go.ChangeShapes Go.WideShapes Go.ChangeAt Go.RowKit
open Di (Keeps In below_on below_new)
open Wi (Hold)
structure Rows (w : World) (v : Value) (X : List Rv) : Prop where
 row : Wi.RowN 25 w v X.length (X.flatMap Rv.cells)
 tx : ∀ x ∈ X, Txt w x
theorem Rows.below {w w' : World} {v : Value} {X : List Rv} (h : Rows w v X) (k : Below w.heap.size w w') : Rows w' v X := ⟨h.row.below k, fun x hx => (h.tx x hx).below k⟩
def rgB (X : List Rv) : Bool := X.all fun x => Wi.M.rightR x.r
theorem rgB_iff {X : List Rv} : rgB X = true ↔ K.Rg (rcs X) := by
 unfold rgB K.Rg rcs
 rw [List.all_eq_true]
 exact ⟨fun h r hr => by obtain ⟨x, hx, rfl⟩ := List.mem_map.1 hr; exact h x hx, fun h x hx => h x.r (List.mem_map.2 ⟨x, hx, rfl⟩)⟩
def Framed (w : World) (X : List Rv) (e : Ending) (w' : World) : Prop := ∃ u, e = .returned (.tuple #[u,.int .i64 (if rgB X then 0 else 1)]) ∧ w'.ownsRow w.heap.size 5 1 u (K.fb (if rgB X then rcs X else [])).length ((K.fb (if rgB X then rcs X else [])).map Fr.enc8) ∧ Below w.heap.size w w'
theorem rgB_take {X : List Rv} {k : Nat} {x : Rv} (hx : X[k]? = some x) (h : K.Rg ((rcs X).take k)) (hr : Wi.M.rightR x.r = true) : K.Rg ((rcs X).take (k + 1)) := by
 rw [List.take_add_one]
 have : (rcs X)[k]? = some x.r := by unfold rcs; rw [List.getElem?_map, hx]; rfl
 rw [this]
 exact h.app (fun r e => by rw [Option.toList_some, List.mem_singleton] at e; rw [e]; exact hr)
theorem rgB_bad {X : List Rv} {x : Rv} (hx : x ∈ X) (hr : Wi.M.rightR x.r = false) : rgB X = false := by
 rw [Bool.eq_false_iff]
 intro e
 have := rgB_iff.1 e x.r (List.mem_map.2 ⟨x, hx, rfl⟩)
 rw [hr] at this
 cases this
theorem rowN_sliceOf {w : World} {v : Value} {k n : Nat} {xs : List Value} (h : Wi.RowN k w v n xs) : ∃ A c, v = .slice A n c := by
 obtain ⟨_, A, c, e, _⟩ := h
 exact ⟨A, c, e⟩
theorem frames_any {w : World} {v : Value} {X : List Rv} (hT : Fr.Tab w) (h : Rows w v X) (hm : ∀ x ∈ X, Wi.M.Mod x.r.c) (hl : X.length ≤ 1000) : Calls Tryz.prog 47 #[v] w (Framed w X) := by
 have HT := Lib.hid hT
 have HH := Lib.hid h
 have HM := Lib.hid hm
 obtain ⟨A, c, rfl⟩ := rowN_sliceOf h.row
 clear hT h hm
 go_enter Tryz.func47, Tryz.ntmps47
 go_wp2
 go_loopw [4, 13] (fun u i wr => ∃ (k : Nat), i = .int .i64 k ∧ k ≤ X.length ∧ Hid (wr.ownsRow w.heap.size 5 1 u (K.fb ((rcs X).take k)).length ((K.fb ((rcs X).take k)).map Fr.enc8)) ∧ Hid (Below w.heap.size w wr) ∧ Hid (K.Rg ((rcs X).take k))) (fun _ i _ => X.length - (intOf i).toNat)
 case atStart => exact ⟨0, rfl, Nat.zero_le _, Lib.hid (World.ownsRow_nil _ _ _ _), Lib.hid (Below.refl _ _), Lib.hid K.Rg.nil⟩
 case round =>
  obtain ⟨k, rfl, hk, HO, HW, HG⟩ := hrel
  by_cases hlt : k < X.length
  ·obtain ⟨x, hx⟩ : ∃ x, X[k]? = some x := ⟨_, List.getElem?_eq_getElem hlt⟩
   have hxm : x ∈ X := List.mem_of_getElem? hx
   obtain ⟨b, o, rfl, hbl, hrr⟩ := rowN_range (HH.out.below HW.out).row hx
   have HX := Lib.hid ((HH.out.tx x hxm).below HW.out)
   have HMX := Lib.hid (HM.out x hxm)
   have HXM := Lib.hid hxm
   have HXK := Lib.hid hx
   have hsz : w.heap.size ≤ wr.heap.size := HW.out.size
   obtain ⟨A1, c1, ea⟩ := rowN_sliceOf HX.out.rs
   obtain ⟨A2, c2, eb⟩ := rowN_sliceOf HX.out.ws
   obtain ⟨r, va, vb⟩ := x
   dsimp only at ea eb
   subst ea eb
   have HRR := Lib.hid (show wr.rangeAt b (o + k * 25) [.int .i64 r.ir,.int .i64 r.is,.int .i64 r.st,.int .i64 r.pn,.int .i64 r.pr,.int .i64 r.bn,.int .i64 r.br,.int .i64 r.c.k,.int .i64 r.c.tc,.int .i64 r.c.tn,.int .i64 r.c.tt,.int .i64 r.c.tk,.int .i64 r.c.sh, (.slice A1 r.c.rs.length c1), (.slice A2 r.c.ws.length c2),.bool r.c.cm,.int .i64 r.sq,.int .i64 r.d0,.int .i64 r.d1,.int .i64 r.d2,.int .i64 r.d3,.int .i64 r.d4,.int .i64 r.d5,.int .i64 r.d6,.bool r.kp] from hrr)
   have hba : Below wr.heap.size wr (wr.alloc (.cells #[.int .i64 r.ir,.int .i64 r.is,.int .i64 r.st,.int .i64 r.pn,.int .i64 r.pr,.int .i64 r.bn,.int .i64 r.br,.int .i64 r.c.k,.int .i64 r.c.tc,.int .i64 r.c.tn,.int .i64 r.c.tt,.int .i64 r.c.tk,.int .i64 r.c.sh, (.slice A1 r.c.rs.length c1), (.slice A2 r.c.ws.length c2),.bool r.c.cm,.int .i64 r.sq,.int .i64 r.d0,.int .i64 r.d1,.int .i64 r.d2,.int .i64 r.d3,.int .i64 r.d4,.int .i64 r.d5,.int .i64 r.d6,.bool r.kp] 67)) := (Below.refl _ _).alloc (Nat.le_refl _) _
   have HBA := Lib.hid (below_on HW.out hba)
   have CW := Lib.hid ((Wi.Hold.new wr [.int .i64 r.ir,.int .i64 r.is,.int .i64 r.st,.int .i64 r.pn,.int .i64 r.pr,.int .i64 r.bn,.int .i64 r.br,.int .i64 r.c.k,.int .i64 r.c.tc,.int .i64 r.c.tn,.int .i64 r.c.tt,.int .i64 r.c.tk,.int .i64 r.c.sh, (.slice A1 r.c.rs.length c1), (.slice A2 r.c.ws.length c2),.bool r.c.cm,.int .i64 r.sq,.int .i64 r.d0,.int .i64 r.d1,.int .i64 r.d2,.int .i64 r.d3,.int .i64 r.d4,.int .i64 r.d5,.int .i64 r.d6,.bool r.kp] 67).cel.whole)
   have HE := Lib.hid (Wi.encode_rec r (HX.out.below hba).rs (HX.out.below hba).ws HMX.out)
   have HO1 := Lib.hid (Wi.ownsRow_on HO.out hba)
   clear hx hxm hrr hba hbl
   have hk1 : (k : Int) < (X.length : Int) := by omega
   go_wp2_with (first
    | (with_reducible refine wpList_load_mid rfl 67 _ rfl b (o + k * 25) rfl [.int .i64 r.ir,.int .i64 r.is,.int .i64 r.st,.int .i64 r.pn,.int .i64 r.pr,.int .i64 r.bn,.int .i64 r.br,.int .i64 r.c.k,.int .i64 r.c.tc,.int .i64 r.c.tn,.int .i64 r.c.tt,.int .i64 r.c.tk,.int .i64 r.c.sh, (.slice A1 r.c.rs.length c1), (.slice A2 r.c.ws.length c2),.bool r.c.cm,.int .i64 r.sq,.int .i64 r.d0,.int .i64 r.d1,.int .i64 r.d2,.int .i64 r.d3,.int .i64 r.d4,.int .i64 r.d5,.int .i64 r.d6,.bool r.kp] _ HRR.out Tryz.underlying67 rfl (by kernel_rfl) ?_)
    | (with_reducible refine Wi.wpList_store_fresh rfl 67 _ _ rfl wr.heap.size rfl 67 _ [.int .i64 r.ir,.int .i64 r.is,.int .i64 r.st,.int .i64 r.pn,.int .i64 r.pr,.int .i64 r.bn,.int .i64 r.br,.int .i64 r.c.k,.int .i64 r.c.tc,.int .i64 r.c.tn,.int .i64 r.c.tt,.int .i64 r.c.tk,.int .i64 r.c.sh, (.slice A1 r.c.rs.length c1), (.slice A2 r.c.ws.length c2),.bool r.c.cm,.int .i64 r.sq,.int .i64 r.d0,.int .i64 r.d1,.int .i64 r.d2,.int .i64 r.d3,.int .i64 r.d4,.int .i64 r.d5,.int .i64 r.d6,.bool r.kp] rfl rfl rfl (by kernel_rfl) rfl ?_)
    | (with_reducible refine wpList_load_mid rfl 67 _ rfl _ 0 rfl _ _ CW.out Tryz.underlying67 rfl (by kernel_rfl) ?_)
    | fail)
   refine HE.out.mono ?_
   rintro e w1 ⟨u1, rfl, ho, hb1⟩
   have HB1 := Lib.hid (below_on HBA.out hb1)
   have HO2 := Lib.hid (Wi.ownsRow_on HO1.out hb1)
   have HS1 := Lib.hid (show w.heap.size ≤ w1.heap.size from HB1.out.size)
   cases hg : Wi.M.rightR r with
   | false =>
     have HRF := Lib.hid (rgB_bad HXM.out hg)
     clear hg hb1 ho CW HRR HX HMX
     simp only [Bool.false_eq_true, if_false]
     go_wp2
     go_ret2
     exact ⟨_, by rw [HRF.out]; rfl, by rw [HRF.out]; exact World.ownsRow_nil _ _ _ _, HB1.out⟩
   | true =>
     rw [hg] at ho
     simp only [if_true] at ho ⊢
     have HGN := Lib.hid (rgB_take HXK.out HG.out hg)
     have hlen := K.enc_len hg
     have HP := Lib.hid (Fr.put_ok (HT.out.below HB1.out) (Fr.Bts.nil w1 none 0) (show Fr.Bts w1 u1 (K.enc r) from ho.bts) (by simp) hlen.1 (by have := hlen.2; omega))
     have HNX := Lib.hid (show K.fb ((rcs X).take (k + 1)) = K.fb ((rcs X).take k) ++ Fr.M.frm (K.enc r) by
      rw [List.take_add_one]
      have : (rcs X)[k]? = some r := by unfold rcs; rw [List.getElem?_map, HXK.out]; rfl
      rw [this, K.fb_append]
      congr 1
      exact (K.fb_cons r []).trans (List.append_nil _))
     have HFL := Lib.hid (show (K.fb ((rcs X).take k)).length ≤ 900000 by
      have h1 : ∀ A : List K.Rec, K.Rg A → (K.fb A).length ≤ 808 * A.length := by
       intro A
       induction A with
       | nil => intro _; simp [K.fb_nil]
       | cons q A ih =>
         intro hA
         have := ih hA.cons.2
         have := (K.enc_len hA.cons.1).2
         rw [K.fb_len_cons, K.len, List.length_cons]
         omega
      have := h1 _ HG.out
      rw [List.length_take, rcs_len] at this
      omega)
     clear hg hb1 ho CW HRR HX HMX
     go_wp2_with (fail)
     refine HP.out.mono ?_
     rintro e w2 ⟨rfl, hbk, hb2⟩
     rw [List.nil_append] at hbk
     have HO3 := Wi.ownsRow_on HO2.out hb2
     have HB2 := Lib.hid (below_on HB1.out hb2)
     have hbt : Fr.Bts w2 (.slice (some ⟨w1.heap.size, 0, none⟩) ((K.enc r).length + 8) ((K.enc r).length + 8)) (Fr.M.frm (K.enc r)) := Fr.Blk.bts hbk (by rw [List.drop_zero, List.take_of_length_le (by rw [Fr.M.frm_len]; exact Nat.le_refl _)]) (by rw [Fr.M.frm_len]; omega) (Nat.le_refl _)
     have hlr := hlen.2
     obtain ⟨v3, w3, hr3, ho3, hg3⟩ := Fr.append_any HO3 hbt (by have := HFL.out; have := Fr.M.frm_len (K.enc r); omega) (HB2.out.size)
     have HR3 := hr3
     have HB3 := Lib.hid (HB2.out.grown hg3 HB2.out.size (fun k hk => (HO3.lt k hk).1))
     have HO4 := Lib.hid ho3
     simp only [List.length_nil, Nat.zero_add]
     clear hbk hb2 HO3 hbt hr3 ho3 hg3 hlen
     go_wp2_with (at_builtin; refine Lib.wpList_append_run _ rfl _ _ _ _ rfl _ _ rfl rfl _ _ HR3 ?_)
     go_roundw
     case rel => exact ⟨k + 1, by go_num, hlt, Lib.hid (by rw [HNX.out]; exact HO4.out), HB3, HGN⟩
     case measure => simp [intOf]; omega
  ·obtain rfl : k = X.length := by omega
   have HA := Lib.hid (show (rcs X).take X.length = rcs X by rw [← rcs_len, List.take_length])
   rw [HA.out] at HO HG
   have HRT := Lib.hid (rgB_iff.2 HG.out)
   go_wp2
   go_ret2
   exact ⟨_, by rw [HRT.out]; rfl, by rw [HRT.out]; exact HO.out, HW.out⟩
end Go.Proofs.YtdachohcjpjblaaGreatDoor
