/- WalLast: the law's walk; conditions: the table of sixteen, arguments that read as records. -/
import Derived.Test.YtdachohcjpjblaaGreatDoorLLst
import Derived.Test.YtdachohcjpjblaaGreatDoorLLawW
import Derived.Test.YtdachohcjpjblaaGreatDoorLRow
set_option maxHeartbeats 8000000
set_option maxRecDepth 100000
namespace Go.Proofs.YtdachohcjpjblaaGreatDoor
open Go.ChangeShapes Go.WideShapes Go.ChangeAt Go.RowKit
open Di (Keeps In below_on below_new)
open Wi (Hold)
open Ls
theorem Ranging.kept' {w w' : World} {gm r : Nat} {m : List (Ky × Rv)} {L : List MapEntry} {G : Nat → Prop} (h : Rg.Ranging w gm r m L) (k : Keeps G w w') (h1 : ¬ G gm) (h2 : ¬ G r) : Rg.Ranging w' gm r m L := by
 obtain ⟨es, ck, since, seen, c0, hb, a, b, c, hr, rest⟩ := h
 exact ⟨es, ck, since, seen, c0, (k.block gm (Array.getElem?_eq_some_iff.1 hb).1 h1).trans hb, a, b, c, (k.block r (Array.getElem?_eq_some_iff.1 hr).1 h2).trans hr, rest⟩
structure Lap (w0 w : World) (gl gd gm : Nat) (Z : List Rv) : Prop where
 log : ∃ F s, Log w gl gd F s ∧ s.bs = K.fb (rcs Z) ∧ s.z = 1048576 ∧ s.bs.length ≤ 100000 ∧ (∀ x, F x → w0.heap.size ≤ x) ∧ ¬ F gm
 rg : K.Rg (rcs Z)
 mp : MapIs w gm (cur Z)
 low : Below w0.heap.size w0 w
 gml : w0.heap.size ≤ gm
 tx : ∀ x ∈ Z, Txt w0 x
theorem flat_bound : ∀ (Z : List Rv), K.Rg (rcs Z) → (K.fb (rcs Z)).length ≤ Z.length * 808
 | [], _ => by simp [rcs, K.fb_nil]
 | x :: Z, h => by
   have h1 := flat_bound Z (K.Rg.cons h).2
   have h2 : (K.enc x.r).length ≤ 800 := (K.enc_len (show Wi.M.rightR x.r = true from (K.Rg.cons h).1)).2
   show (K.fb (x.r :: rcs Z)).length ≤ _
   rw [K.fb_len_cons]
   simp only [List.length_cons]
   unfold K.len
   omega
theorem rcs_snoc1 (Z : List Rv) (x : Rv) : rcs (Z ++ [x]) = rcs Z ++ [x.r] := by simp [rcs]
theorem last_law {w : World} {v : Value} {X : List Rv} (hT : Fr.Tab w) (hX : Rows w v X) : Calls Tryz.prog 7 #[v] w fun e w' => e = .returned (.bool true) ∧ Below w.heap.size w w' := by
 have HT := Lib.hid hT
 have HX := Lib.hid hX
 obtain ⟨A1, c1, rfl⟩ := rows_len hX
 clear hT hX
 by_cases hl : X.length ≤ 30
 ·have hz : ¬ ((30 : Int) < (X.length : Int)) := by omega
  have HXL := Lib.hid hl
  clear hl
  go_enter Tryz.func7, Tryz.ntmps7
  go_wp2_with (fail)
  refine (Di.new_any 1048576 w (by omega)).mono ?_
  rintro e w1 ⟨rfl, hd, hb⟩
  have HDK := Lib.hid hd
  have HB1 := Lib.hid hb
  have HF0 := Lib.hid (show ∀ x, (x = w.heap.size) → w.heap.size ≤ x from fun x e => by omega)
  have HN := Lib.hid (show ¬ (0 = w.heap.size) from by have := HT.out.1; omega)
  clear hd hb
  go_wp2_with (fail)
  refine (open_any HDK.out (HT.out.below HB1.out) HN.out (by simp [Di.M.nil])).mono ?_
  rintro e w2 ⟨gl, F2, rfl, hL, hk, hg⟩
  rw [show K.opn (Di.M.nil 1048576) = Di.M.nil 1048576 by unfold K.opn Di.M.nil; rw [K.rd_nil, K.fb_nil]; rfl] at hL
  obtain ⟨hb2, hF2⟩ := since HB1.out HF0.out hk hg
  have hgm : ¬ F2 w2.heap.size := fun f => Nat.lt_irrefl _ (hL.lt _ f)
  have hb3 : Below w2.heap.size w2 (w2.alloc (.map #[] 0)) := below_new (Below.refl _ _)
  have HLAP : Hid (Lap w (w2.alloc (.map #[] 0)) gl w.heap.size w2.heap.size []) := Lib.hid ⟨⟨F2, _, hL.below hb3, rfl, rfl, by simp [Di.M.nil], hF2, hgm⟩, K.Rg.nil, MapIs.new w2, below_on hb2 hb3, hb2.size, fun x hx => (List.not_mem_nil hx).elim⟩
  generalize hgm2 : w2.heap.size = gm at *
  clear hL hk hg hb2 hF2 hb3 hgm HDK HN
  have hmm := @run_makeMap Tryz.prog
  go_wp2
  go_loopw [30] (fun i wr => ∃ (k : Nat) (Z : List Rv), i = .int .i64 k ∧ k ≤ X.length ∧ Z.length ≤ k ∧ Hid (Lap w wr gl w.heap.size gm Z)) (fun i _ => X.length - (intOf i).toNat)
  case atStart => exact ⟨0, [], rfl, Nat.zero_le _, Nat.zero_le _, HLAP⟩
  case round =>
   obtain ⟨k, Z, rfl, hk, hzl, HL⟩ := hrel
   by_cases hlt : k < X.length
   ·obtain ⟨x, hx⟩ : ∃ x, X[k]? = some x := ⟨_, List.getElem?_eq_getElem hlt⟩
    have hxm : x ∈ X := List.mem_of_getElem? hx
    obtain ⟨b2, o2, rfl, hbl2, hrr⟩ := rowN_range (HX.out.below HL.out.low).row hx
    have HXx := Lib.hid (HX.out.tx x hxm)
    have HOT := Lib.hid (show ∀ F : Nat → Prop, (∀ x, F x → w.heap.size ≤ x) → OutT F w x from fun F hF => (HX.out.rws hF).ot x hxm)
    obtain ⟨r, va, vb'⟩ := x
    obtain ⟨A3, c3, ea⟩ := rowN_sliceOf HXx.out.rs
    obtain ⟨A4, c4, eb⟩ := rowN_sliceOf HXx.out.ws
    dsimp only at ea eb
    subst ea eb
    have HRR := Lib.hid (show wr.rangeAt b2 (o2 + k * 25) [.int .i64 r.ir,.int .i64 r.is,.int .i64 r.st,.int .i64 r.pn,.int .i64 r.pr,.int .i64 r.bn,.int .i64 r.br,.int .i64 r.c.k,.int .i64 r.c.tc,.int .i64 r.c.tn,.int .i64 r.c.tt,.int .i64 r.c.tk,.int .i64 r.c.sh, (.slice A3 r.c.rs.length c3), (.slice A4 r.c.ws.length c4),.bool r.c.cm,.int .i64 r.sq,.int .i64 r.d0,.int .i64 r.d1,.int .i64 r.d2,.int .i64 r.d3,.int .i64 r.d4,.int .i64 r.d5,.int .i64 r.d6,.bool r.kp] from hrr)
    have hb3 : Below wr.heap.size wr (wr.alloc (.cells #[.int .i64 r.ir,.int .i64 r.is,.int .i64 r.st,.int .i64 r.pn,.int .i64 r.pr,.int .i64 r.bn,.int .i64 r.br,.int .i64 r.c.k,.int .i64 r.c.tc,.int .i64 r.c.tn,.int .i64 r.c.tt,.int .i64 r.c.tk,.int .i64 r.c.sh, (.slice A3 r.c.rs.length c3), (.slice A4 r.c.ws.length c4),.bool r.c.cm,.int .i64 r.sq,.int .i64 r.d0,.int .i64 r.d1,.int .i64 r.d2,.int .i64 r.d3,.int .i64 r.d4,.int .i64 r.d5,.int .i64 r.d6,.bool r.kp] 67)) := below_new (Below.refl _ _)
    have HHO := Lib.hid (Wi.Hold.new wr [.int .i64 r.ir,.int .i64 r.is,.int .i64 r.st,.int .i64 r.pn,.int .i64 r.pr,.int .i64 r.bn,.int .i64 r.br,.int .i64 r.c.k,.int .i64 r.c.tc,.int .i64 r.c.tn,.int .i64 r.c.tt,.int .i64 r.c.tk,.int .i64 r.c.sh, (.slice A3 r.c.rs.length c3), (.slice A4 r.c.ws.length c4),.bool r.c.cm,.int .i64 r.sq,.int .i64 r.d0,.int .i64 r.d1,.int .i64 r.d2,.int .i64 r.d3,.int .i64 r.d4,.int .i64 r.d5,.int .i64 r.d6,.bool r.kp] 67)
    have HX1 := Lib.hid ((HXx.out.below HL.out.low).below hb3)
    have hcw : (wr.alloc (.cells #[.int .i64 r.ir,.int .i64 r.is,.int .i64 r.st,.int .i64 r.pn,.int .i64 r.pr,.int .i64 r.bn,.int .i64 r.br,.int .i64 r.c.k,.int .i64 r.c.tc,.int .i64 r.c.tn,.int .i64 r.c.tt,.int .i64 r.c.tk,.int .i64 r.c.sh, (.slice A3 r.c.rs.length c3), (.slice A4 r.c.ws.length c4),.bool r.c.cm,.int .i64 r.sq,.int .i64 r.d0,.int .i64 r.d1,.int .i64 r.d2,.int .i64 r.d3,.int .i64 r.d4,.int .i64 r.d5,.int .i64 r.d6,.bool r.kp] 67)).rangeAt wr.heap.size 7 [.int .i64 r.c.k,.int .i64 r.c.tc,.int .i64 r.c.tn,.int .i64 r.c.tt,.int .i64 r.c.tk,.int .i64 r.c.sh,.slice A3 r.c.rs.length c3,.slice A4 r.c.ws.length c4,.bool r.c.cm] := fun i u hi => by
     refine hold_cell HHO.out (7 + i) ?_
     match i, hi with
     | 0, hi => exact hi
     | 1, hi => exact hi
     | 2, hi => exact hi
     | 3, hi => exact hi
     | 4, hi => exact hi
     | 5, hi => exact hi
     | 6, hi => exact hi
     | 7, hi => exact hi
     | 8, hi => exact hi
    have HCW := Lib.hid hcw
    have hj1 : (k : Int) < (X.length : Int) := by omega
    have HLT := Lib.hid hlt
    have HZL := Lib.hid hzl
    have HFW := Lib.hid (Wi.few_one (w := wr.alloc (.cells #[.int .i64 r.ir,.int .i64 r.is,.int .i64 r.st,.int .i64 r.pn,.int .i64 r.pr,.int .i64 r.bn,.int .i64 r.br,.int .i64 r.c.k,.int .i64 r.c.tc,.int .i64 r.c.tn,.int .i64 r.c.tt,.int .i64 r.c.tk,.int .i64 r.c.sh, (.slice A3 r.c.rs.length c3), (.slice A4 r.c.ws.length c4),.bool r.c.cm,.int .i64 r.sq,.int .i64 r.d0,.int .i64 r.d1,.int .i64 r.d2,.int .i64 r.d3,.int .i64 r.d4,.int .i64 r.d5,.int .i64 r.d6,.bool r.kp] 67)) (b := wr.heap.size + 1) (by simp) r.c HX1.out.rs HX1.out.ws)
    have hb4 : Below (wr.alloc (.cells #[.int .i64 r.ir,.int .i64 r.is,.int .i64 r.st,.int .i64 r.pn,.int .i64 r.pr,.int .i64 r.bn,.int .i64 r.br,.int .i64 r.c.k,.int .i64 r.c.tc,.int .i64 r.c.tn,.int .i64 r.c.tt,.int .i64 r.c.tk,.int .i64 r.c.sh, (.slice A3 r.c.rs.length c3), (.slice A4 r.c.ws.length c4),.bool r.c.cm,.int .i64 r.sq,.int .i64 r.d0,.int .i64 r.d1,.int .i64 r.d2,.int .i64 r.d3,.int .i64 r.d4,.int .i64 r.d5,.int .i64 r.d6,.bool r.kp] 67)).heap.size (wr.alloc (.cells #[.int .i64 r.ir,.int .i64 r.is,.int .i64 r.st,.int .i64 r.pn,.int .i64 r.pr,.int .i64 r.bn,.int .i64 r.br,.int .i64 r.c.k,.int .i64 r.c.tc,.int .i64 r.c.tn,.int .i64 r.c.tt,.int .i64 r.c.tk,.int .i64 r.c.sh, (.slice A3 r.c.rs.length c3), (.slice A4 r.c.ws.length c4),.bool r.c.cm,.int .i64 r.sq,.int .i64 r.d0,.int .i64 r.d1,.int .i64 r.d2,.int .i64 r.d3,.int .i64 r.d4,.int .i64 r.d5,.int .i64 r.d6,.bool r.kp] 67)) ((wr.alloc (.cells #[.int .i64 r.ir,.int .i64 r.is,.int .i64 r.st,.int .i64 r.pn,.int .i64 r.pr,.int .i64 r.bn,.int .i64 r.br,.int .i64 r.c.k,.int .i64 r.c.tc,.int .i64 r.c.tn,.int .i64 r.c.tt,.int .i64 r.c.tk,.int .i64 r.c.sh, (.slice A3 r.c.rs.length c3), (.slice A4 r.c.ws.length c4),.bool r.c.cm,.int .i64 r.sq,.int .i64 r.d0,.int .i64 r.d1,.int .i64 r.d2,.int .i64 r.d3,.int .i64 r.d4,.int .i64 r.d5,.int .i64 r.d6,.bool r.kp] 67)).alloc (.cells #[.int .i64 r.c.k,.int .i64 r.c.tc,.int .i64 r.c.tn,.int .i64 r.c.tt,.int .i64 r.c.tk,.int .i64 r.c.sh,.slice A3 r.c.rs.length c3,.slice A4 r.c.ws.length c4,.bool r.c.cm] 63)) := below_new (Below.refl _ _)
    have HB3 := Lib.hid hb3
    have HB4 := Lib.hid (below_on hb3 hb4)
    have HH4 := Lib.hid (HHO.out.on hb4)
    clear hx hxm hbl2 hrr hb3 hcw hb4 HX1 hlt hzl HHO
    go_wp2_with (first
     | (with_reducible refine wpList_load_mid rfl 67 _ rfl b2 (o2 + k * 25) rfl [.int .i64 r.ir,.int .i64 r.is,.int .i64 r.st,.int .i64 r.pn,.int .i64 r.pr,.int .i64 r.bn,.int .i64 r.br,.int .i64 r.c.k,.int .i64 r.c.tc,.int .i64 r.c.tn,.int .i64 r.c.tt,.int .i64 r.c.tk,.int .i64 r.c.sh, (.slice A3 r.c.rs.length c3), (.slice A4 r.c.ws.length c4),.bool r.c.cm,.int .i64 r.sq,.int .i64 r.d0,.int .i64 r.d1,.int .i64 r.d2,.int .i64 r.d3,.int .i64 r.d4,.int .i64 r.d5,.int .i64 r.d6,.bool r.kp] _ HRR.out Tryz.underlying67 rfl (by kernel_rfl) ?_)
     | (with_reducible refine Wi.wpList_store_fresh rfl 67 _ _ rfl wr.heap.size rfl 67 _ [.int .i64 r.ir,.int .i64 r.is,.int .i64 r.st,.int .i64 r.pn,.int .i64 r.pr,.int .i64 r.bn,.int .i64 r.br,.int .i64 r.c.k,.int .i64 r.c.tc,.int .i64 r.c.tn,.int .i64 r.c.tt,.int .i64 r.c.tk,.int .i64 r.c.sh, (.slice A3 r.c.rs.length c3), (.slice A4 r.c.ws.length c4),.bool r.c.cm,.int .i64 r.sq,.int .i64 r.d0,.int .i64 r.d1,.int .i64 r.d2,.int .i64 r.d3,.int .i64 r.d4,.int .i64 r.d5,.int .i64 r.d6,.bool r.kp] rfl rfl rfl (by kernel_rfl) rfl ?_)
     | (with_reducible refine wpList_load_mid rfl 63 _ rfl wr.heap.size 7 rfl _ _ HCW.out Tryz.underlying63 rfl (by kernel_rfl) ?_)
     | fail)
    refine HFW.out.mono ?_
    rintro e w5 ⟨rfl, hb5⟩
    have HH5 := Lib.hid (HH4.out.on hb5)
    have HB5 := Lib.hid (below_on HB4.out hb5)
    clear hb5 HCW HRR HFW HH4
    cases hm : Wi.M.modB r.c with
    | false =>
      clear hm
      have HBW := Lib.hid (below_on HL.out.low HB5.out)
      go_wp2_with (fail)
      refine (awake_any (HT.out.below HBW.out)).mono ?_
      rintro e w6 ⟨rfl, hb⟩
      have HBX := Lib.hid (below_on HBW.out hb)
      clear hb
      go_wp2
      go_ret
      exact ⟨rfl, HBX.out⟩
    | true =>
      have HMD := Lib.hid (Wi.M.modB_iff.1 hm)
      clear hm
      obtain ⟨F, s, hlg, hbs, hz9, hsl, hF, hgm⟩ := HL.out.log
      have hb6 : Below w5.heap.size w5 (w5.alloc (.cells (Rv.cells ⟨r,.slice A3 r.c.rs.length c3,.slice A4 r.c.ws.length c4⟩).toArray 67)) := below_new (Below.refl _ _)
      have hlow6 := below_on (below_on HL.out.low HB5.out) hb6
      have hl5 := hlg.below HB5.out
      have hl6 := hl5.below hb6
      have hx5 : Txt w5 ⟨r,.slice A3 r.c.rs.length c3,.slice A4 r.c.ws.length c4⟩ := HXx.out.below (below_on HL.out.low HB5.out)
      have hot : OutT F (w5.alloc (.cells (Rv.cells ⟨r,.slice A3 r.c.rs.length c3,.slice A4 r.c.ws.length c4⟩).toArray 67)) ⟨r,.slice A3 r.c.rs.length c3,.slice A4 r.c.ws.length c4⟩ := (HOT.out F hF).step hlow6.size (fun x f => .inl f)
      have hh6 := Wi.Hold.new w5 (Rv.cells ⟨r,.slice A3 r.c.rs.length c3,.slice A4 r.c.ws.length c4⟩) 67
      have hrw : Rws F (w5.alloc (.cells (Rv.cells ⟨r,.slice A3 r.c.rs.length c3,.slice A4 r.c.ws.length c4⟩).toArray 67)) (.slice (some ⟨w5.heap.size, 0, none⟩) 1 1) [⟨r,.slice A3 r.c.rs.length c3,.slice A4 r.c.ws.length c4⟩] := by
       refine ⟨⟨⟨by rw [flat_len], _, 1, rfl, Nat.le_refl _, fun _ => ⟨w5.heap.size, 0, rfl, by simp, fun j v hj => ?_⟩⟩, fun y hy => ?_⟩, ?_, fun y hy => ?_⟩
       ·rw [List.flatMap_singleton] at hj
        exact hh6.cel.whole j v hj
       ·rw [List.mem_singleton.1 hy]; exact hx5.below hb6
       ·intro _ b e
        cases e
        exact ⟨fun f => Nat.lt_irrefl _ (hl5.lt _ f), by simp⟩
       ·rw [List.mem_singleton.1 hy]; exact hot
      have HAP := Lib.hid (appendL_any (A0 := rcs Z) hl6 hbs HL.out.rg hsl hrw (fun y hy => by rw [List.mem_singleton.1 hy]; exact HMD.out) (by simp))
      have HST := Lib.hid (K.ap_state (s := s) (A := rcs Z) (X := [⟨r,.slice A3 r.c.rs.length c3,.slice A4 r.c.ws.length c4⟩]) hbs HL.out.rg)
      have HSZ := Lib.hid (show (K.apS [⟨r,.slice A3 r.c.rs.length c3,.slice A4 r.c.ws.length c4⟩] s).z = 1048576 by rw [K.ap_z, hz9])
      have HR5 := Lib.hid (show w5.rangeAt wr.heap.size 0 [.int .i64 r.ir,.int .i64 r.is,.int .i64 r.st,.int .i64 r.pn,.int .i64 r.pr,.int .i64 r.bn,.int .i64 r.br,.int .i64 r.c.k,.int .i64 r.c.tc,.int .i64 r.c.tn,.int .i64 r.c.tt,.int .i64 r.c.tk,.int .i64 r.c.sh, (.slice A3 r.c.rs.length c3), (.slice A4 r.c.ws.length c4),.bool r.c.cm,.int .i64 r.sq,.int .i64 r.d0,.int .i64 r.d1,.int .i64 r.d2,.int .i64 r.d3,.int .i64 r.d4,.int .i64 r.d5,.int .i64 r.d6,.bool r.kp] from fun j u hj => hold_cell HH5.out (0 + j) (by rw [Nat.zero_add]; exact hj))
      have HH6 := Lib.hid (HH5.out.on hb6)
      have HMP6 := Lib.hid (HL.out.mp.keeps (F := fun _ => False) (Di.Keeps.of_below (below_on HB5.out hb6)) id)
      have HLOW := Lib.hid hlow6
      have HF := Lib.hid hF
      have HGM := Lib.hid hgm
      have HBS := Lib.hid hbs
      have HSL := Lib.hid hsl
      have HZ9 := Lib.hid hz9
      have HRG := Lib.hid HL.out.rg
      have HTX := Lib.hid HL.out.tx
      have HGL := Lib.hid HL.out.gml
      have HGS := Lib.hid HMP6.out.lt
      have HNW := Lib.hid (show ¬ F wr.heap.size from fun f => Nat.lt_irrefl _ (hlg.lt _ f))
      clear hlg hbs hz9 hsl hF hgm hb6 hlow6 hl5 hl6 hx5 hot hh6 hrw HL HMD
      go_wp2_with (first
       | (with_reducible refine wpList_load_mid rfl 67 _ rfl wr.heap.size 0 rfl [.int .i64 r.ir,.int .i64 r.is,.int .i64 r.st,.int .i64 r.pn,.int .i64 r.pr,.int .i64 r.bn,.int .i64 r.br,.int .i64 r.c.k,.int .i64 r.c.tc,.int .i64 r.c.tn,.int .i64 r.c.tt,.int .i64 r.c.tk,.int .i64 r.c.sh, (.slice A3 r.c.rs.length c3), (.slice A4 r.c.ws.length c4),.bool r.c.cm,.int .i64 r.sq,.int .i64 r.d0,.int .i64 r.d1,.int .i64 r.d2,.int .i64 r.d3,.int .i64 r.d4,.int .i64 r.d5,.int .i64 r.d6,.bool r.kp] _ HR5.out Tryz.underlying67 rfl (by kernel_rfl) ?_)
       | (with_reducible refine wpList_build67 rfl (.tmp 41) rfl ⟨r,.slice A3 r.c.rs.length c3,.slice A4 r.c.ws.length c4⟩ rfl ?_)
       | fail)
      generalize hW6 : w5.alloc (.cells (Rv.cells ⟨r,.slice A3 r.c.rs.length c3,.slice A4 r.c.ws.length c4⟩).toArray 67) = w6 at *
      refine HAP.out.mono ?_
      rintro e w7 ⟨rfl, F7, hL7, hk7, hg7⟩
      obtain ⟨hb7, hF7⟩ := since HLOW.out HF.out hk7 hg7
      have hmp7 : MapIs w7 gm (cur Z) := HMP6.out.keeps hk7 HGM.out
      have hgm7 : ¬ F7 gm := fun f => (hg7.1 gm f).elim HGM.out (fun e => by have := HGS.out; omega)
      have hh7 : Hold w7 wr.heap.size 67 [.int .i64 r.ir,.int .i64 r.is,.int .i64 r.st,.int .i64 r.pn,.int .i64 r.pr,.int .i64 r.bn,.int .i64 r.br,.int .i64 r.c.k,.int .i64 r.c.tc,.int .i64 r.c.tn,.int .i64 r.c.tt,.int .i64 r.c.tk,.int .i64 r.c.sh, (.slice A3 r.c.rs.length c3), (.slice A4 r.c.ws.length c4),.bool r.c.cm,.int .i64 r.sq,.int .i64 r.d0,.int .i64 r.d1,.int .i64 r.d2,.int .i64 r.d3,.int .i64 r.d4,.int .i64 r.d5,.int .i64 r.d6,.bool r.kp]  := hold_keeps HH6.out hk7 HNW.out
      rcases HST.out with ⟨he, hrg, hbb⟩ | ⟨he, hbb⟩
      ·rw [he]
       have HL7 := Lib.hid hL7
       have HB7 := Lib.hid hb7
       have HF7 := Lib.hid hF7
       have HM7 := Lib.hid hmp7
       have HG7 := Lib.hid hgm7
       have HRG7 := Lib.hid hrg
       have HBB := Lib.hid hbb
       have HR7 := Lib.hid (show w7.rangeAt wr.heap.size 0 [.int .i64 r.ir,.int .i64 r.is,.int .i64 r.st,.int .i64 r.pn,.int .i64 r.pr,.int .i64 r.bn,.int .i64 r.br,.int .i64 r.c.k,.int .i64 r.c.tc,.int .i64 r.c.tn,.int .i64 r.c.tt,.int .i64 r.c.tk,.int .i64 r.c.sh, (.slice A3 r.c.rs.length c3), (.slice A4 r.c.ws.length c4),.bool r.c.cm,.int .i64 r.sq,.int .i64 r.d0,.int .i64 r.d1,.int .i64 r.d2,.int .i64 r.d3,.int .i64 r.d4,.int .i64 r.d5,.int .i64 r.d6,.bool r.kp] from fun j u hj => hold_cell hh7 (0 + j) (by rw [Nat.zero_add]; exact hj))
       have c0 := hold_cell hh7 0 rfl
       have c1' := hold_cell hh7 1 rfl
       clear hL7 hk7 hg7 hb7 hF7 hmp7 hgm7 hh7 he hrg hbb HST
       generalize K.apS [⟨r,.slice A3 r.c.rs.length c3,.slice A4 r.c.ws.length c4⟩] s = s7 at *
       go_wp2_with (first
        | (with_reducible refine wpList_load_mid rfl 67 _ rfl wr.heap.size 0 rfl [.int .i64 r.ir,.int .i64 r.is,.int .i64 r.st,.int .i64 r.pn,.int .i64 r.pr,.int .i64 r.bn,.int .i64 r.br,.int .i64 r.c.k,.int .i64 r.c.tc,.int .i64 r.c.tn,.int .i64 r.c.tt,.int .i64 r.c.tk,.int .i64 r.c.sh, (.slice A3 r.c.rs.length c3), (.slice A4 r.c.ws.length c4),.bool r.c.cm,.int .i64 r.sq,.int .i64 r.d0,.int .i64 r.d1,.int .i64 r.d2,.int .i64 r.d3,.int .i64 r.d4,.int .i64 r.d5,.int .i64 r.d6,.bool r.kp] _ HR7.out Tryz.underlying67 rfl (by kernel_rfl) ?_)
        | (refine Ls.wpList_put _ rfl _ _ _ rfl gm (cur Z) rfl HM7.out (r.ir, r.is) ⟨r,.slice A3 r.c.rs.length c3,.slice A4 r.c.ws.length c4⟩ rfl rfl ?_; intro w8 hm8 ht8 hs8)
        | fail)
       go_roundw
       case rel => exact ⟨k + 1, Z ++ [⟨r,.slice A3 r.c.rs.length c3,.slice A4 r.c.ws.length c4⟩], by go_num, HLT.out, by simp; have := HZL.out; omega, Lib.hid ⟨⟨F7, s7, ht8.log HL7.out HG7.out (by have := HGL.out; have := HT.out.1; omega), by rw [HBB.out, rcs_snoc1]; rfl, HSZ.out, by
        have h1 := flat_bound (Z ++ [⟨r,.slice A3 r.c.rs.length c3,.slice A4 r.c.ws.length c4⟩]) (by rw [rcs_snoc1]; exact HRG7.out)
        have h2 : s7.bs = K.fb (rcs (Z ++ [⟨r,.slice A3 r.c.rs.length c3,.slice A4 r.c.ws.length c4⟩])) := by rw [HBB.out, rcs_snoc1]; rfl
        rw [h2]
        have h3 := HZL.out; have h4 := HLT.out; have h5 := HXL.out
        simp only [List.length_append, List.length_cons, List.length_nil] at h1
        omega, HF7.out, HG7.out⟩, by rw [rcs_snoc1]; exact HRG7.out, by rw [cur_snoc]; exact hm8, HB7.out.trans (ht8.k.below (fun x f => by rw [f]; exact HGL.out) HB7.out.size), HGL.out, fun y hy => (List.mem_append.1 hy).elim (HTX.out y) (fun e => by rw [List.mem_singleton.1 e]; exact HXx.out)⟩⟩
       case measure => simp [intOf]; have := HLT.out; omega
      ·have q1 : (K.apE [⟨r,.slice A3 r.c.rs.length c3,.slice A4 r.c.ws.length c4⟩] s == 0) = false := by rw [beq_eq_false_iff_ne]; exact he
       rw [hbb] at hL7
       have HLN := Lib.hid (show Lap w w7 gl w.heap.size gm Z from ⟨⟨F7, s, hL7, HBS.out, HZ9.out, HSL.out, hF7, hgm7⟩, HRG.out, hmp7, hb7, HGL.out, HTX.out⟩)
       clear hL7 hk7 hg7 hb7 hF7 hmp7 hgm7 hh7 he hbb HST
       generalize K.apE [⟨r,.slice A3 r.c.rs.length c3,.slice A4 r.c.ws.length c4⟩] s = e7 at *
       go_wp2
       go_roundw
       case rel => exact ⟨k + 1, Z, by go_num, HLT.out, by have := HZL.out; omega, HLN⟩
       case measure => simp [intOf]; have := HLT.out; omega
   ·obtain rfl : k = X.length := by omega
    obtain ⟨F, s, hlg, hbs, hz9, hsl, hF, hgm⟩ := HL.out.log
    have HSL := Lib.hid hsl
    have HRD := Lib.hid (show K.rd s.bs = rcs Z by rw [hbs, K.rd_of_fb HL.out.rg])
    have HRG := Lib.hid HL.out.rg
    have HTX := Lib.hid HL.out.tx
    have HMP := Lib.hid HL.out.mp
    have HGL := Lib.hid HL.out.gml
    have HLG := Lib.hid hlg
    have HF := Lib.hid hF
    have HGM := Lib.hid hgm
    have HLOW := Lib.hid HL.out.low
    have HNR := Lib.hid (show ¬ F wr.heap.size from fun f => Nat.lt_irrefl _ (hlg.lt _ f))
    clear hbs hz9 hsl hF hgm hlg HL hzl hk HX HLAP
    go_wp2_with (first
     | (refine Ls.wpList_range _ rfl _ rfl gm (cur Z) rfl HMP.out ?_; intro w0 L0 hr0 hL0 hg0 hs0)
     | fail)
    go_frame
    have hk0 : Keeps (fun _ => False) wr w0 := ⟨hg0.os, hg0.tape, hg0.output, hg0.size, fun k hk _ => hg0.block k hk (by simp)⟩
    have HREL : Hid (∃ F, Rg.Ranging w0 gm wr.heap.size (cur Z) L0 ∧ Log w0 gl w.heap.size F s ∧ (∀ x, F x → w.heap.size ≤ x) ∧ ¬ F gm ∧ ¬ F wr.heap.size ∧ Below w.heap.size w w0) := Lib.hid ⟨F, hr0, HLG.out.below (hk0.below (fun _ f => f.elim) (Nat.le_refl _)), HF.out, HGM.out, HNR.out, HLOW.out.trans (hk0.below (fun _ f => f.elim) HLOW.out.size)⟩
    have HRR := Lib.hid (show w.heap.size ≤ wr.heap.size from HLOW.out.size)
    generalize hR : wr.heap.size = R at *
    clear hr0 hL0 hg0 hs0 hk0 HLG HF HGM HNR HLOW hR
    go_loopw [] (fun wr => ∃ L, Hid (∃ F, Rg.Ranging wr gm R (cur Z) L ∧ Log wr gl w.heap.size F s ∧ (∀ x, F x → w.heap.size ≤ x) ∧ ¬ F gm ∧ ¬ F R ∧ Below w.heap.size w wr)) (fun wr => wr.rangeLeft gm R)
    case atStart => exact ⟨L0, HREL⟩
    case round =>
     obtain ⟨L, HH⟩ := hrel
     obtain ⟨F, hrg, hlg, hF, hgm, hnr, hlow⟩ := HH.out
     have HLG := Lib.hid hlg
     have HF := Lib.hid hF
     have HGM := Lib.hid hgm
     have HNR := Lib.hid hnr
     have HLOW := Lib.hid hlow
     have HRN := Lib.hid hrg
     clear hlg hF hgm hnr hlow hrg HH
     go_wp2_with (first
      | (refine Ls.wpList_next _ rfl _ rfl gm R (cur Z) L rfl HRN.out ?_ ?_)
      | fail)
     ·intro hl0
      have HI := Lib.hid (Sr.instsL_any HLG.out HSL.out)
      clear hl0
      go_wp2_with (fail)
      refine HI.out.mono ?_
      rintro e w3 ⟨v3, ks, X3, rfl, hX3, hp3, hrow3, F3, hL3, hk3, hg3⟩
      obtain ⟨A3, c3, rfl⟩ : ∃ A c, v3 = .slice A ks.length c := by
       rcases hrow3.2 with ⟨rfl, hz0⟩ | ⟨g, cap, cr, rfl, -⟩
       ·exact ⟨_, _, by rw [hz0]⟩
       ·exact ⟨_, _, rfl⟩
      have hkl : ks.length = (cur Z).length := by
       have h1 := hp3.length_eq
       have h2 := cur_keys X3 Z (hX3.trans HRD.out)
       have h3 := congrArg List.length h2
       simp only [List.length_map] at h1 h3
       omega
      have hmp3 : MapIs w3 gm (cur Z) := HRN.out.map.keeps hk3 HGM.out
      obtain ⟨hb3, hF3⟩ := since HLOW.out HF.out hk3 hg3
      have HMP3 := Lib.hid hmp3
      have HB3 := Lib.hid hb3
      rw [hkl]
      clear hX3 hp3 hrow3 hL3 hk3 hg3 hkl hmp3 hb3 hF3 HI
      have HQ := Lib.hid (rfl : (cur Z).length = (cur Z).length)
      go_wp2_with (first
       | (refine Ls.wpList_len _ rfl _ rfl gm (cur Z) rfl HMP3.out ?_)
       | fail)
      refine (awake_any (HT.out.below HB3.out)).mono ?_
      rintro e w4 ⟨rfl, hb⟩
      have HB4 := Lib.hid (below_on HB3.out hb)
      clear hb
      go_wp2
      go_ret
      exact ⟨rfl, HB4.out⟩
     ·intro k1 k2 y L' w2 hmem hperm hlt2 hrg2 hg2 hs2 hen
      obtain ⟨hyZ, hky⟩ := cur_mem Z _ hmem
      have hlast := cur_last hmem
      have hty := HTX.out y hyZ
      have hrr := HRG.out y.r (List.mem_map.2 ⟨y, hyZ, rfl⟩)
      obtain ⟨r, va, vb⟩ := y
      obtain ⟨A3, c3, ea⟩ := rowN_sliceOf hty.rs
      obtain ⟨A4, c4, eb⟩ := rowN_sliceOf hty.ws
      dsimp only at ea eb hlast
      subst ea eb
      have hv : (⟨r,.slice A3 r.c.rs.length c3,.slice A4 r.c.ws.length c4⟩ : Rv).val = .agg #[.int .i64 r.ir,.int .i64 r.is,.int .i64 r.st,.int .i64 r.pn,.int .i64 r.pr,.int .i64 r.bn,.int .i64 r.br,.int .i64 r.c.k,.int .i64 r.c.tc,.int .i64 r.c.tn,.int .i64 r.c.tt,.int .i64 r.c.tk,.int .i64 r.c.sh, (.slice A3 r.c.rs.length c3), (.slice A4 r.c.ws.length c4),.bool r.c.cm,.int .i64 r.sq,.int .i64 r.d0,.int .i64 r.d1,.int .i64 r.d2,.int .i64 r.d3,.int .i64 r.d4,.int .i64 r.d5,.int .i64 r.d6,.bool r.kp] := rfl
      rw [hv] at hen ⊢
      have hk2 : Keeps (fun j => j = R) wr w2 := ⟨hg2.os, hg2.tape, hg2.output, hg2.size, fun k hk hne => hg2.block k hk (fun e => hne (Option.some.inj e))⟩
      have hlow2 : Below w.heap.size w w2 := HLOW.out.trans (hk2.below (fun x f => by rw [f]; exact HRR.out) HLOW.out.size)
      have hlg2 : Log w2 gl w.heap.size F s := Ls.Turn.log ⟨hk2, HRN.out.walk⟩ HLG.out HNR.out (by have := HRR.out; have := HT.out.1; omega)
      have hb4 : Below w2.heap.size w2 ((w2.alloc (.cells #[.int .i64 k1,.int .i64 k2] 53)).alloc (.cells #[.int .i64 r.ir,.int .i64 r.is,.int .i64 r.st,.int .i64 r.pn,.int .i64 r.pr,.int .i64 r.bn,.int .i64 r.br,.int .i64 r.c.k,.int .i64 r.c.tc,.int .i64 r.c.tn,.int .i64 r.c.tt,.int .i64 r.c.tk,.int .i64 r.c.sh, (.slice A3 r.c.rs.length c3), (.slice A4 r.c.ws.length c4),.bool r.c.cm,.int .i64 r.sq,.int .i64 r.d0,.int .i64 r.d1,.int .i64 r.d2,.int .i64 r.d3,.int .i64 r.d4,.int .i64 r.d5,.int .i64 r.d6,.bool r.kp] 67)) := below_new (below_new (Below.refl _ _))
      have HL4 := Lib.hid (hlg2.below hb4)
      have HLOW4 := Lib.hid (below_on hlow2 hb4)
      have HRN4 := Lib.hid (Ranging.kept' (G := fun _ => False) hrg2 (Di.Keeps.of_below hb4) id id)
      have HLT2 := Lib.hid (show L'.length < L.length from hlt2)
      have HTY := Lib.hid hty
      have HLA := Lib.hid (show K.lastR (K.rd s.bs) (k1, k2) = some r by rw [HRD.out]; exact hlast)
      have HSM := Lib.hid (K.tiny hrr)
      have HH4 := Lib.hid (Wi.Hold.new (w2.alloc (.cells #[.int .i64 k1,.int .i64 k2] 53)) [.int .i64 r.ir,.int .i64 r.is,.int .i64 r.st,.int .i64 r.pn,.int .i64 r.pr,.int .i64 r.bn,.int .i64 r.br,.int .i64 r.c.k,.int .i64 r.c.tc,.int .i64 r.c.tn,.int .i64 r.c.tt,.int .i64 r.c.tk,.int .i64 r.c.sh, (.slice A3 r.c.rs.length c3), (.slice A4 r.c.ws.length c4),.bool r.c.cm,.int .i64 r.sq,.int .i64 r.d0,.int .i64 r.d1,.int .i64 r.d2,.int .i64 r.d3,.int .i64 r.d4,.int .i64 r.d5,.int .i64 r.d6,.bool r.kp] 67)
      have HNC := Lib.hid (show ¬ F (w2.alloc (.cells #[.int .i64 k1,.int .i64 k2] 53)).heap.size from fun f => by have := hlg2.lt _ f; rw [World.size_alloc] at this; omega)
      have HGT := Lib.hid (getL_any (k1, k2) HL4.out HSL.out)
      rw [HLA.out] at HGT
      clear hmem hperm hlt2 hrg2 hg2 hs2 hyZ hky hlast hty hrr hv hk2 hlow2 hlg2 hb4
      go_wp2_with (first
       | (with_reducible refine Wi.wpList_store_fresh rfl 67 _ _ rfl (w2.heap.size + 1) (by simp) 67 _ [.int .i64 r.ir,.int .i64 r.is,.int .i64 r.st,.int .i64 r.pn,.int .i64 r.pr,.int .i64 r.bn,.int .i64 r.br,.int .i64 r.c.k,.int .i64 r.c.tc,.int .i64 r.c.tn,.int .i64 r.c.tt,.int .i64 r.c.tk,.int .i64 r.c.sh, (.slice A3 r.c.rs.length c3), (.slice A4 r.c.ws.length c4),.bool r.c.cm,.int .i64 r.sq,.int .i64 r.d0,.int .i64 r.d1,.int .i64 r.d2,.int .i64 r.d3,.int .i64 r.d4,.int .i64 r.d5,.int .i64 r.d6,.bool r.kp] rfl rfl rfl (by kernel_rfl) rfl ?_)
       | fail)
      refine HGT.out.mono ?_
      rintro e w5 ⟨⟨r', va', vb'⟩, rfl, hy, ⟨B1, -, o1⟩, ⟨B2, -, o2⟩, F5, hL5, hk5, hg5⟩
      simp only [Option.getD_some] at hy
      have hy2 := hy.symm
      subst hy2
      clear hy
      dsimp only at o1 o2
      obtain ⟨A5, c5, rfl⟩ := Wi.ownsRow_slice o1
      obtain ⟨A6, c6, rfl⟩ := Wi.ownsRow_slice o2
      have hv5 : (⟨r,.slice A5 r.c.rs.length c5,.slice A6 r.c.ws.length c6⟩ : Rv).val = .agg #[.int .i64 r.ir,.int .i64 r.is,.int .i64 r.st,.int .i64 r.pn,.int .i64 r.pr,.int .i64 r.bn,.int .i64 r.br,.int .i64 r.c.k,.int .i64 r.c.tc,.int .i64 r.c.tn,.int .i64 r.c.tt,.int .i64 r.c.tk,.int .i64 r.c.sh, (.slice A5 r.c.rs.length c5), (.slice A6 r.c.ws.length c6),.bool r.c.cm,.int .i64 r.sq,.int .i64 r.d0,.int .i64 r.d1,.int .i64 r.d2,.int .i64 r.d3,.int .i64 r.d4,.int .i64 r.d5,.int .i64 r.d6,.bool r.kp] := rfl
      rw [hv5]
      simp only [Option.isSome_some]
      obtain ⟨hb5, hF5⟩ := since HLOW4.out HF.out hk5 hg5
      have hb6 : Below w5.heap.size w5 (w5.alloc (.cells #[.int .i64 r.ir,.int .i64 r.is,.int .i64 r.st,.int .i64 r.pn,.int .i64 r.pr,.int .i64 r.bn,.int .i64 r.br,.int .i64 r.c.k,.int .i64 r.c.tc,.int .i64 r.c.tn,.int .i64 r.c.tt,.int .i64 r.c.tk,.int .i64 r.c.sh, (.slice A5 r.c.rs.length c5), (.slice A6 r.c.ws.length c6),.bool r.c.cm,.int .i64 r.sq,.int .i64 r.d0,.int .i64 r.d1,.int .i64 r.d2,.int .i64 r.d3,.int .i64 r.d4,.int .i64 r.d5,.int .i64 r.d6,.bool r.kp] 67)) := below_new (Below.refl _ _)
      have hgm5 : ¬ F5 gm := fun f => (hg5.1 gm f).elim HGM.out (fun e => by have := HRN4.out.map.lt; omega)
      have hnr5 : ¬ F5 R := fun f => (hg5.1 R f).elim HNR.out (fun e => by have := HRN4.out.rlt; omega)
      have HRN6 := Lib.hid (Ranging.kept' (G := fun _ => False) (Ranging.kept' HRN4.out hk5 HGM.out HNR.out) (Di.Keeps.of_below hb6) id id)
      have HL6 := Lib.hid (hL5.below hb6)
      have HF6 := Lib.hid hF5
      have HGM6 := Lib.hid hgm5
      have HNR6 := Lib.hid hnr5
      have HLOW6 := Lib.hid (below_on hb5 hb6)
      have HH6 := Lib.hid ((hold_keeps HH4.out hk5 (fun f => HNC.out f)).on hb6)
      have HK6 := Lib.hid (Wi.Hold.new w5 [.int .i64 r.ir,.int .i64 r.is,.int .i64 r.st,.int .i64 r.pn,.int .i64 r.pr,.int .i64 r.bn,.int .i64 r.br,.int .i64 r.c.k,.int .i64 r.c.tc,.int .i64 r.c.tn,.int .i64 r.c.tt,.int .i64 r.c.tk,.int .i64 r.c.sh, (.slice A5 r.c.rs.length c5), (.slice A6 r.c.ws.length c6),.bool r.c.cm,.int .i64 r.sq,.int .i64 r.d0,.int .i64 r.d1,.int .i64 r.d2,.int .i64 r.d3,.int .i64 r.d4,.int .i64 r.d5,.int .i64 r.d6,.bool r.kp] 67)
      have HTP := Lib.hid (show Txt (w5.alloc (.cells #[.int .i64 r.ir,.int .i64 r.is,.int .i64 r.st,.int .i64 r.pn,.int .i64 r.pr,.int .i64 r.bn,.int .i64 r.br,.int .i64 r.c.k,.int .i64 r.c.tc,.int .i64 r.c.tn,.int .i64 r.c.tt,.int .i64 r.c.tk,.int .i64 r.c.sh, (.slice A5 r.c.rs.length c5), (.slice A6 r.c.ws.length c6),.bool r.c.cm,.int .i64 r.sq,.int .i64 r.d0,.int .i64 r.d1,.int .i64 r.d2,.int .i64 r.d3,.int .i64 r.d4,.int .i64 r.d5,.int .i64 r.d6,.bool r.kp] 67)) ⟨r,.slice A5 r.c.rs.length c5,.slice A6 r.c.ws.length c6⟩ from ⟨(Wi.RowN.of_owns o1).below hb6, (Wi.RowN.of_owns o2).below hb6⟩)
      have HTQ := Lib.hid (HTY.out.below (below_on hb5 hb6))
      have hh6 : Hold (w5.alloc (.cells #[.int .i64 r.ir,.int .i64 r.is,.int .i64 r.st,.int .i64 r.pn,.int .i64 r.pr,.int .i64 r.bn,.int .i64 r.br,.int .i64 r.c.k,.int .i64 r.c.tc,.int .i64 r.c.tn,.int .i64 r.c.tt,.int .i64 r.c.tk,.int .i64 r.c.sh, (.slice A5 r.c.rs.length c5), (.slice A6 r.c.ws.length c6),.bool r.c.cm,.int .i64 r.sq,.int .i64 r.d0,.int .i64 r.d1,.int .i64 r.d2,.int .i64 r.d3,.int .i64 r.d4,.int .i64 r.d5,.int .i64 r.d6,.bool r.kp] 67)) (w2.heap.size + 1) 67 [.int .i64 r.ir,.int .i64 r.is,.int .i64 r.st,.int .i64 r.pn,.int .i64 r.pr,.int .i64 r.bn,.int .i64 r.br,.int .i64 r.c.k,.int .i64 r.c.tc,.int .i64 r.c.tn,.int .i64 r.c.tt,.int .i64 r.c.tk,.int .i64 r.c.sh, (.slice A3 r.c.rs.length c3), (.slice A4 r.c.ws.length c4),.bool r.c.cm,.int .i64 r.sq,.int .i64 r.d0,.int .i64 r.d1,.int .i64 r.d2,.int .i64 r.d3,.int .i64 r.d4,.int .i64 r.d5,.int .i64 r.d6,.bool r.kp] := by
       have e : (w2.alloc (.cells #[.int .i64 k1,.int .i64 k2] 53)).heap.size = w2.heap.size + 1 := by simp
       rw [← e]; exact HH6.out
      have HQ6 := Lib.hid (show (w5.alloc (.cells #[.int .i64 r.ir,.int .i64 r.is,.int .i64 r.st,.int .i64 r.pn,.int .i64 r.pr,.int .i64 r.bn,.int .i64 r.br,.int .i64 r.c.k,.int .i64 r.c.tc,.int .i64 r.c.tn,.int .i64 r.c.tt,.int .i64 r.c.tk,.int .i64 r.c.sh, (.slice A5 r.c.rs.length c5), (.slice A6 r.c.ws.length c6),.bool r.c.cm,.int .i64 r.sq,.int .i64 r.d0,.int .i64 r.d1,.int .i64 r.d2,.int .i64 r.d3,.int .i64 r.d4,.int .i64 r.d5,.int .i64 r.d6,.bool r.kp] 67)).rangeAt (w2.heap.size + 1) 0 [.int .i64 r.ir,.int .i64 r.is,.int .i64 r.st,.int .i64 r.pn,.int .i64 r.pr,.int .i64 r.bn,.int .i64 r.br,.int .i64 r.c.k,.int .i64 r.c.tc,.int .i64 r.c.tn,.int .i64 r.c.tt,.int .i64 r.c.tk,.int .i64 r.c.sh, (.slice A3 r.c.rs.length c3), (.slice A4 r.c.ws.length c4),.bool r.c.cm,.int .i64 r.sq,.int .i64 r.d0,.int .i64 r.d1,.int .i64 r.d2,.int .i64 r.d3,.int .i64 r.d4,.int .i64 r.d5,.int .i64 r.d6,.bool r.kp] from fun j u hj => hold_cell hh6 (0 + j) (by rw [Nat.zero_add]; exact hj))
      have HQ5 := Lib.hid (show (w5.alloc (.cells #[.int .i64 r.ir,.int .i64 r.is,.int .i64 r.st,.int .i64 r.pn,.int .i64 r.pr,.int .i64 r.bn,.int .i64 r.br,.int .i64 r.c.k,.int .i64 r.c.tc,.int .i64 r.c.tn,.int .i64 r.c.tt,.int .i64 r.c.tk,.int .i64 r.c.sh, (.slice A5 r.c.rs.length c5), (.slice A6 r.c.ws.length c6),.bool r.c.cm,.int .i64 r.sq,.int .i64 r.d0,.int .i64 r.d1,.int .i64 r.d2,.int .i64 r.d3,.int .i64 r.d4,.int .i64 r.d5,.int .i64 r.d6,.bool r.kp] 67)).rangeAt w5.heap.size 0 [.int .i64 r.ir,.int .i64 r.is,.int .i64 r.st,.int .i64 r.pn,.int .i64 r.pr,.int .i64 r.bn,.int .i64 r.br,.int .i64 r.c.k,.int .i64 r.c.tc,.int .i64 r.c.tn,.int .i64 r.c.tt,.int .i64 r.c.tk,.int .i64 r.c.sh, (.slice A5 r.c.rs.length c5), (.slice A6 r.c.ws.length c6),.bool r.c.cm,.int .i64 r.sq,.int .i64 r.d0,.int .i64 r.d1,.int .i64 r.d2,.int .i64 r.d3,.int .i64 r.d4,.int .i64 r.d5,.int .i64 r.d6,.bool r.kp] from fun j u hj => hold_cell HK6.out (0 + j) (by rw [Nat.zero_add]; exact hj))
      have HSAME := Lib.hid (Wi.dsame_rec r r HTP.out.rs HTP.out.ws HTQ.out.rs HTQ.out.ws (by have := HSM.out.rl; omega) (by have := HSM.out.wl; omega))
      rw [sameRec_refl] at HSAME
      clear hh6 hv5 hb5 hF5 hb6 hgm5 hnr5 hL5 hk5 hg5 o1 o2 HGT
      go_wp2_with (first
       | (with_reducible refine Wi.wpList_store_fresh rfl 67 _ _ rfl w5.heap.size rfl 67 _ [.int .i64 r.ir,.int .i64 r.is,.int .i64 r.st,.int .i64 r.pn,.int .i64 r.pr,.int .i64 r.bn,.int .i64 r.br,.int .i64 r.c.k,.int .i64 r.c.tc,.int .i64 r.c.tn,.int .i64 r.c.tt,.int .i64 r.c.tk,.int .i64 r.c.sh, (.slice A5 r.c.rs.length c5), (.slice A6 r.c.ws.length c6),.bool r.c.cm,.int .i64 r.sq,.int .i64 r.d0,.int .i64 r.d1,.int .i64 r.d2,.int .i64 r.d3,.int .i64 r.d4,.int .i64 r.d5,.int .i64 r.d6,.bool r.kp] rfl rfl rfl (by kernel_rfl) rfl ?_)
       | (refine Wi.wpList_load_mid_g ?_ 67 (.tmp 10) rfl w5.heap.size 0 rfl _ _ HQ5.out Tryz.underlying67 rfl (by kernel_rfl) ?_; rfl)
       | (refine Wi.wpList_load_mid_g ?_ 67 (.tmp 9) rfl (w2.heap.size + 1) 0 rfl _ _ HQ6.out Tryz.underlying67 rfl (by kernel_rfl) ?_; rfl)
       | fail)
      refine HSAME.out.mono ?_
      rintro e w7 ⟨rfl, hb7⟩
      have HRN7 := Lib.hid (Ranging.kept' (G := fun _ => False) HRN6.out (Di.Keeps.of_below hb7) id id)
      have HL7 := Lib.hid (HL6.out.below hb7)
      have HLOW7 := Lib.hid (below_on HLOW6.out hb7)
      clear hb7 HSAME
      go_wp2
      go_roundw
      case rel => exact ⟨L', Lib.hid ⟨F5, HRN7.out, HL7.out, HF6.out, HGM6.out, HNR6.out, HLOW7.out⟩⟩
      case measure => rw [HRN7.out.left, HRN.out.left]; exact HLT2.out
 ·have hz : (30 : Int) < (X.length : Int) := by omega
  go_enter Tryz.func7, Tryz.ntmps7
  go_wp2_with (fail)
  refine (awake_any HT.out).mono ?_
  rintro e w2 ⟨rfl, hb⟩
  have HB3 := Lib.hid hb
  clear hb
  go_wp2
  go_ret
  exact ⟨rfl, HB3.out⟩
end Go.Proofs.YtdachohcjpjblaaGreatDoor
