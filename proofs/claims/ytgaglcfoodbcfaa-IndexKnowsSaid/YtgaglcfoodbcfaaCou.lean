/- Contract of counting: the records of a view that count; no conditions but those that it names. -/
import Derived.Test.YtgaglcfoodbcfaaMpl
namespace Go.Proofs.Ytgaglcfoodbcfaa
open Go.ChangeShapes Go.WideShapes Go.ChangeAt Go.RowKit

/-- A list of records in a row of one's own, their texts where they were. -/
def MadeX (Y : List Rv) (w : World) (e : Ending) (w' : World) : Prop := ∃ u, e = .returned u ∧ w'.ownsRow w.heap.size 44 25 u Y.length (Y.flatMap Rv.cells) ∧ Below w.heap.size w w'
theorem flat_snoc (Y : List Rv) (x : Rv) : (Y ++ [x]).flatMap Rv.cells = Y.flatMap Rv.cells ++ x.cells := by simp
theorem take_snoc {X : List Rv} {k : Nat} {x : Rv} (h : X[k]? = some x) : X.take (k + 1) = X.take k ++ [x] := by rw [List.take_add_one, h]; rfl
theorem one_of (n : Nat) (A : Option Addr) (c : Nat) : (Value.slice A n c).oneCell' = true := rfl
set_option maxHeartbeats 4000000 in
set_option maxRecDepth 100000 in
theorem counting_any {w : World} {v : Value} {X : List Rv} (h : Rows w v X) (hl : X.length ≤ 1000) : Calls Try.prog 32 #[v] w (MadeX (known X) w) := by
  obtain ⟨i0, hi, hz0, hz1, hz2⟩ := info_parts info44
  obtain ⟨A, c, rfl⟩ := rowN_sliceOf h.row
  have HH := Lib.hid h
  clear h
  have hmm := @run_makeMap Try.prog
  go_enter Try.func32, Try.ntmps32
  go_wp2
  go_loopw [12] (fun i wr => ∃ k : Nat, i = .int .i64 k ∧ k ≤ X.length ∧ Hid (Below w.heap.size w wr) ∧ Hid (MapIs wr w.heap.size (lastM ((keysOf X).take k)))) (fun i _ => X.length - (intOf i).toNat)
  case atStart => exact ⟨0, rfl, Nat.zero_le _, Lib.hid (below_new (Below.refl _ _)), Lib.hid (MapIs.new w)⟩
  case round =>
    obtain ⟨k, rfl, hk, HW, HM⟩ := hrel
    by_cases hlt : k < X.length
    · obtain ⟨x, hx⟩ : ∃ x, X[k]? = some x := ⟨_, List.getElem?_eq_getElem hlt⟩
      have hxm : x ∈ X := List.mem_of_getElem? hx
      obtain ⟨b, o, rfl, hbl, hrr⟩ := rowN_range (HH.out.below HW.out).row hx
      have HX := Lib.hid ((HH.out.tx x hxm).below HW.out)
      have HKS := Lib.hid (show lastM ((keysOf X).take (k + 1)) = mput (lastM ((keysOf X).take k)) x.key k by
        have := keysOf_at hx
        rw [List.take_add_one, this, Option.toList_some, lastM_snoc, List.length_take]
        congr 1
        have : (keysOf X).length = X.length := by unfold keysOf; simp
        omega)
      obtain ⟨r, va, vb⟩ := x
      obtain ⟨A3, c3, ea⟩ := rowN_sliceOf HX.out.rs
      obtain ⟨A4, c4, eb⟩ := rowN_sliceOf HX.out.ws
      dsimp only at ea eb
      subst ea eb
      have HRR := Lib.hid (show wr.rangeAt b (o + k * 25) [.int .i64 r.ir, .int .i64 r.is, .int .i64 r.st, .int .i64 r.pn, .int .i64 r.pr, .int .i64 r.bn, .int .i64 r.br, .int .i64 r.c.k, .int .i64 r.c.tc, .int .i64 r.c.tn, .int .i64 r.c.tt, .int .i64 r.c.tk, .int .i64 r.c.sh, (.slice A3 r.c.rs.length c3), (.slice A4 r.c.ws.length c4), .bool r.c.cm, .int .i64 r.sq, .int .i64 r.d0, .int .i64 r.d1, .int .i64 r.d2, .int .i64 r.d3, .int .i64 r.d4, .int .i64 r.d5, .int .i64 r.d6, .bool r.kp] from hrr)
      have hk1 : (k : Int) < (X.length : Int) := by omega
      have hb3 : Below wr.heap.size wr (wr.alloc (.cells #[.int .i64 r.ir, .int .i64 r.is, .int .i64 r.st, .int .i64 r.pn, .int .i64 r.pr, .int .i64 r.bn, .int .i64 r.br, .int .i64 r.c.k, .int .i64 r.c.tc, .int .i64 r.c.tn, .int .i64 r.c.tt, .int .i64 r.c.tk, .int .i64 r.c.sh, (.slice A3 r.c.rs.length c3), (.slice A4 r.c.ws.length c4), .bool r.c.cm, .int .i64 r.sq, .int .i64 r.d0, .int .i64 r.d1, .int .i64 r.d2, .int .i64 r.d3, .int .i64 r.d4, .int .i64 r.d5, .int .i64 r.d6, .bool r.kp] 44)) := below_new (Below.refl _ _)
      have HI := Lib.hid (hold_range (Hold.new wr [.int .i64 r.ir, .int .i64 r.is, .int .i64 r.st, .int .i64 r.pn, .int .i64 r.pr, .int .i64 r.bn, .int .i64 r.br, .int .i64 r.c.k, .int .i64 r.c.tc, .int .i64 r.c.tn, .int .i64 r.c.tt, .int .i64 r.c.tk, .int .i64 r.c.sh, (.slice A3 r.c.rs.length c3), (.slice A4 r.c.ws.length c4), .bool r.c.cm, .int .i64 r.sq, .int .i64 r.d0, .int .i64 r.d1, .int .i64 r.d2, .int .i64 r.d3, .int .i64 r.d4, .int .i64 r.d5, .int .i64 r.d6, .bool r.kp] 44) 0 [.int .i64 r.ir, .int .i64 r.is] (fun j v hj => by
        match j, hj with
        | 0, hj => exact hj
        | 1, hj => exact hj))
      have HM3 := Lib.hid (HM.out.on hb3)
      have HW3 := Lib.hid (below_on HW.out hb3)
      clear hx hxm hbl hrr hb3 HX HM
      go_wp2_with (first
        | (with_reducible refine wpList_load_mid rfl 44 _ rfl b (o + k * 25) rfl [.int .i64 r.ir, .int .i64 r.is, .int .i64 r.st, .int .i64 r.pn, .int .i64 r.pr, .int .i64 r.bn, .int .i64 r.br, .int .i64 r.c.k, .int .i64 r.c.tc, .int .i64 r.c.tn, .int .i64 r.c.tt, .int .i64 r.c.tk, .int .i64 r.c.sh, (.slice A3 r.c.rs.length c3), (.slice A4 r.c.ws.length c4), .bool r.c.cm, .int .i64 r.sq, .int .i64 r.d0, .int .i64 r.d1, .int .i64 r.d2, .int .i64 r.d3, .int .i64 r.d4, .int .i64 r.d5, .int .i64 r.d6, .bool r.kp] _ HRR.out Try.underlying44 rfl (by kernel_rfl) ?_)
        | (with_reducible refine wpList_store_fresh rfl 44 _ _ rfl wr.heap.size rfl 44 _ [.int .i64 r.ir, .int .i64 r.is, .int .i64 r.st, .int .i64 r.pn, .int .i64 r.pr, .int .i64 r.bn, .int .i64 r.br, .int .i64 r.c.k, .int .i64 r.c.tc, .int .i64 r.c.tn, .int .i64 r.c.tt, .int .i64 r.c.tk, .int .i64 r.c.sh, (.slice A3 r.c.rs.length c3), (.slice A4 r.c.ws.length c4), .bool r.c.cm, .int .i64 r.sq, .int .i64 r.d0, .int .i64 r.d1, .int .i64 r.d2, .int .i64 r.d3, .int .i64 r.d4, .int .i64 r.d5, .int .i64 r.d6, .bool r.kp] rfl rfl rfl (by kernel_rfl) rfl ?_)
        | (with_reducible refine wpList_load_mid rfl 24 _ rfl wr.heap.size 0 rfl [.int .i64 r.ir, .int .i64 r.is] _ HI.out Try.underlying24 rfl (by kernel_rfl) ?_)
        | (refine wpList_put _ rfl _ _ _ rfl w.heap.size _ rfl HM3.out (r.ir, r.is) (k : Int) rfl rfl ?_; intro w8 hm8 ht8 hs8)
        | fail)
      have HM8 := Lib.hid (show MapIs w8 w.heap.size (lastM ((keysOf X).take (k + 1))) by rw [HKS.out]; exact hm8)
      have HW8 := Lib.hid (HW3.out.trans ht8)
      clear hm8 ht8
      go_roundw
      case rel => exact ⟨k + 1, by go_num, hlt, HW8, HM8⟩
      case measure => simp [intOf]; omega
    · obtain rfl : k = X.length := by omega
      have HMA := Lib.hid (show MapIs wr w.heap.size (lastM (keysOf X)) by
        have := HM.out
        rwa [List.take_of_length_le (by unfold keysOf; simp)] at this)
      have hml : (lastM (keysOf X)).length ≤ X.length := by have := lastM_len (keysOf X); unfold keysOf at *; simpa using this
      have HKL := Lib.hid (show ∀ k, (kept X allB k).length ≤ k from fun k => kept_len k)
      have HSZ := Lib.hid (show w.heap.size + 1 ≤ wr.heap.size from HMA.out.lt)
      clear HM
      go_wp2_with (first
        | (refine wpList_len _ rfl _ rfl w.heap.size _ rfl HMA.out ?_)
        | (at_make; refine wpList_make_own _ rfl _ _ 22 rfl (w.heap.size + 1) 44 i0 Rv.zero.val 25 Try.underlying22 hi hz0 hz1 _ _ _ (lastM (keysOf X)).length rfl rfl rfl (by rw [hz2]; omega) (by unfold maxLen; omega) (by have := HSZ.out; omega) ?_; intro w2 hown2 hgrow2)
        | fail)
      have HM2 := Lib.hid (HMA.out.grown hgrow2 (by simp))
      have HW2 := Lib.hid (HW.out.grown hgrow2 HW.out.size (by simp))
      have HO2 := Lib.hid hown2
      have HS2 := Lib.hid (show w.heap.size + 1 ≤ w2.heap.size from Nat.le_trans HSZ.out hgrow2.size)
      clear hown2 hgrow2 HMA HW HSZ
      go_wp2
      go_loopw [6, 27] (fun u i wr => ∃ k : Nat, i = .int .i64 k ∧ k ≤ X.length ∧ Hid (Below w.heap.size w wr) ∧ Hid (MapIs wr w.heap.size (lastM (keysOf X))) ∧ Hid (wr.ownsRow (w.heap.size + 1) 44 25 u (kept X allB k).length ((kept X allB k).flatMap Rv.cells))) (fun _ i _ => X.length - (intOf i).toNat)
      case atStart => exact ⟨0, rfl, Nat.zero_le _, HW2, HM2, HO2⟩
      case round =>
        clear HW2 HM2 HO2 HS2
        obtain ⟨k, rfl, hk, HW, HM, HO⟩ := hrel
        by_cases hlt : k < X.length
        · obtain ⟨x, hx⟩ : ∃ x, X[k]? = some x := ⟨_, List.getElem?_eq_getElem hlt⟩
          have hxm : x ∈ X := List.mem_of_getElem? hx
          obtain ⟨b, o, rfl, hbl, hrr⟩ := rowN_range (HH.out.below HW.out).row hx
          have HX := Lib.hid ((HH.out.tx x hxm).below HW.out)
          have hls := last_at (keysOf_at hx)
          have HY := Lib.hid (show lastB (keysOf X) k = true → kept X allB (k + 1) = kept X allB k ++ [x] from fun e => kept_yes hx (by rw [e]; rfl))
          have HN := Lib.hid (show lastB (keysOf X) k = false → kept X allB (k + 1) = kept X allB k from fun e => kept_no hx (by rw [e]; rfl))
          have hkl := HKL.out k
          obtain ⟨r, va, vb⟩ := x
          obtain ⟨A3, c3, ea⟩ := rowN_sliceOf HX.out.rs
          obtain ⟨A4, c4, eb⟩ := rowN_sliceOf HX.out.ws
          dsimp only at ea eb
          subst ea eb
          have HRR := Lib.hid (show wr.rangeAt b (o + k * 25) [.int .i64 r.ir, .int .i64 r.is, .int .i64 r.st, .int .i64 r.pn, .int .i64 r.pr, .int .i64 r.bn, .int .i64 r.br, .int .i64 r.c.k, .int .i64 r.c.tc, .int .i64 r.c.tn, .int .i64 r.c.tt, .int .i64 r.c.tk, .int .i64 r.c.sh, (.slice A3 r.c.rs.length c3), (.slice A4 r.c.ws.length c4), .bool r.c.cm, .int .i64 r.sq, .int .i64 r.d0, .int .i64 r.d1, .int .i64 r.d2, .int .i64 r.d3, .int .i64 r.d4, .int .i64 r.d5, .int .i64 r.d6, .bool r.kp] from hrr)
          have hk1 : (k : Int) < (X.length : Int) := by omega
          have hb3 : Below wr.heap.size wr (wr.alloc (.cells #[.int .i64 r.ir, .int .i64 r.is, .int .i64 r.st, .int .i64 r.pn, .int .i64 r.pr, .int .i64 r.bn, .int .i64 r.br, .int .i64 r.c.k, .int .i64 r.c.tc, .int .i64 r.c.tn, .int .i64 r.c.tt, .int .i64 r.c.tk, .int .i64 r.c.sh, (.slice A3 r.c.rs.length c3), (.slice A4 r.c.ws.length c4), .bool r.c.cm, .int .i64 r.sq, .int .i64 r.d0, .int .i64 r.d1, .int .i64 r.d2, .int .i64 r.d3, .int .i64 r.d4, .int .i64 r.d5, .int .i64 r.d6, .bool r.kp] 44)) := below_new (Below.refl _ _)
          have HHO := Lib.hid (Hold.new wr [.int .i64 r.ir, .int .i64 r.is, .int .i64 r.st, .int .i64 r.pn, .int .i64 r.pr, .int .i64 r.bn, .int .i64 r.br, .int .i64 r.c.k, .int .i64 r.c.tc, .int .i64 r.c.tn, .int .i64 r.c.tt, .int .i64 r.c.tk, .int .i64 r.c.sh, (.slice A3 r.c.rs.length c3), (.slice A4 r.c.ws.length c4), .bool r.c.cm, .int .i64 r.sq, .int .i64 r.d0, .int .i64 r.d1, .int .i64 r.d2, .int .i64 r.d3, .int .i64 r.d4, .int .i64 r.d5, .int .i64 r.d6, .bool r.kp] 44)
          have HI := Lib.hid (hold_range HHO.out 0 [.int .i64 r.ir, .int .i64 r.is] (fun j v hj => by
            match j, hj with
            | 0, hj => exact hj
            | 1, hj => exact hj))
          have HBX := Lib.hid (hold_range HHO.out 0 [.int .i64 r.ir, .int .i64 r.is, .int .i64 r.st, .int .i64 r.pn, .int .i64 r.pr, .int .i64 r.bn, .int .i64 r.br, .int .i64 r.c.k, .int .i64 r.c.tc, .int .i64 r.c.tn, .int .i64 r.c.tt, .int .i64 r.c.tk, .int .i64 r.c.sh, (.slice A3 r.c.rs.length c3), (.slice A4 r.c.ws.length c4), .bool r.c.cm, .int .i64 r.sq, .int .i64 r.d0, .int .i64 r.d1, .int .i64 r.d2, .int .i64 r.d3, .int .i64 r.d4, .int .i64 r.d5, .int .i64 r.d6, .bool r.kp] (fun j v hj => by rw [Nat.zero_add]; exact hj))
          have HM3 := Lib.hid (HM.out.on hb3)
          have HW3 := Lib.hid (below_on HW.out hb3)
          have HO3 := Lib.hid (ownsRow_on HO.out hb3)
          have HS3 := Lib.hid (show w.heap.size + 1 ≤ wr.heap.size from HM.out.lt)
          have hkey : (Rv.key ⟨r, .slice A3 r.c.rs.length c3, .slice A4 r.c.ws.length c4⟩) = (r.ir, r.is) := rfl
          rw [hkey] at hls
          clear hx hxm hbl hrr hb3 HX HM HHO hkey HO
          rcases hq : lastB (keysOf X) k with _ | _
          · have HNX := Lib.hid (HN.out hq)
            rw [hq, decide_eq_false_iff_not] at hls
            have hls' : ((mget (lastM (keysOf X)) (r.ir, r.is)).getD 0 == (k : Int)) = false := by rw [beq_eq_false_iff_ne]; exact hls
            clear hls hq
            go_wp2_with (first
              | (with_reducible refine wpList_load_mid rfl 44 _ rfl b (o + k * 25) rfl [.int .i64 r.ir, .int .i64 r.is, .int .i64 r.st, .int .i64 r.pn, .int .i64 r.pr, .int .i64 r.bn, .int .i64 r.br, .int .i64 r.c.k, .int .i64 r.c.tc, .int .i64 r.c.tn, .int .i64 r.c.tt, .int .i64 r.c.tk, .int .i64 r.c.sh, (.slice A3 r.c.rs.length c3), (.slice A4 r.c.ws.length c4), .bool r.c.cm, .int .i64 r.sq, .int .i64 r.d0, .int .i64 r.d1, .int .i64 r.d2, .int .i64 r.d3, .int .i64 r.d4, .int .i64 r.d5, .int .i64 r.d6, .bool r.kp] _ HRR.out Try.underlying44 rfl (by kernel_rfl) ?_)
              | (with_reducible refine wpList_store_fresh rfl 44 _ _ rfl wr.heap.size rfl 44 _ [.int .i64 r.ir, .int .i64 r.is, .int .i64 r.st, .int .i64 r.pn, .int .i64 r.pr, .int .i64 r.bn, .int .i64 r.br, .int .i64 r.c.k, .int .i64 r.c.tc, .int .i64 r.c.tn, .int .i64 r.c.tt, .int .i64 r.c.tk, .int .i64 r.c.sh, (.slice A3 r.c.rs.length c3), (.slice A4 r.c.ws.length c4), .bool r.c.cm, .int .i64 r.sq, .int .i64 r.d0, .int .i64 r.d1, .int .i64 r.d2, .int .i64 r.d3, .int .i64 r.d4, .int .i64 r.d5, .int .i64 r.d6, .bool r.kp] rfl rfl rfl (by kernel_rfl) rfl ?_)
              | (with_reducible refine wpList_load_mid rfl 24 _ rfl wr.heap.size 0 rfl [.int .i64 r.ir, .int .i64 r.is] _ HI.out Try.underlying24 rfl (by kernel_rfl) ?_)
              | (refine wpList_look _ rfl _ _ rfl w.heap.size _ rfl HM3.out (r.ir, r.is) rfl ?_)
              | fail)
            go_roundw
            case rel => exact ⟨k + 1, by go_num, hlt, HW3, HM3, by rw [HNX.out]; exact HO3⟩
            case measure => simp [intOf]; omega
          · have HYX := Lib.hid (HY.out hq)
            rw [hq, decide_eq_true_iff] at hls
            have hls' : ((mget (lastM (keysOf X)) (r.ir, r.is)).getD 0 == (k : Int)) = true := by rw [beq_iff_eq]; exact hls
            clear hls hq
            go_wp2_with (first
              | (with_reducible refine wpList_load_mid rfl 44 _ rfl b (o + k * 25) rfl [.int .i64 r.ir, .int .i64 r.is, .int .i64 r.st, .int .i64 r.pn, .int .i64 r.pr, .int .i64 r.bn, .int .i64 r.br, .int .i64 r.c.k, .int .i64 r.c.tc, .int .i64 r.c.tn, .int .i64 r.c.tt, .int .i64 r.c.tk, .int .i64 r.c.sh, (.slice A3 r.c.rs.length c3), (.slice A4 r.c.ws.length c4), .bool r.c.cm, .int .i64 r.sq, .int .i64 r.d0, .int .i64 r.d1, .int .i64 r.d2, .int .i64 r.d3, .int .i64 r.d4, .int .i64 r.d5, .int .i64 r.d6, .bool r.kp] _ HRR.out Try.underlying44 rfl (by kernel_rfl) ?_)
              | (with_reducible refine wpList_store_fresh rfl 44 _ _ rfl wr.heap.size rfl 44 _ [.int .i64 r.ir, .int .i64 r.is, .int .i64 r.st, .int .i64 r.pn, .int .i64 r.pr, .int .i64 r.bn, .int .i64 r.br, .int .i64 r.c.k, .int .i64 r.c.tc, .int .i64 r.c.tn, .int .i64 r.c.tt, .int .i64 r.c.tk, .int .i64 r.c.sh, (.slice A3 r.c.rs.length c3), (.slice A4 r.c.ws.length c4), .bool r.c.cm, .int .i64 r.sq, .int .i64 r.d0, .int .i64 r.d1, .int .i64 r.d2, .int .i64 r.d3, .int .i64 r.d4, .int .i64 r.d5, .int .i64 r.d6, .bool r.kp] rfl rfl rfl (by kernel_rfl) rfl ?_)
              | (with_reducible refine wpList_load_mid rfl 24 _ rfl wr.heap.size 0 rfl [.int .i64 r.ir, .int .i64 r.is] _ HI.out Try.underlying24 rfl (by kernel_rfl) ?_)
              | (refine wpList_look _ rfl _ _ rfl w.heap.size _ rfl HM3.out (r.ir, r.is) rfl ?_)
              | (with_reducible refine wpList_load_mid rfl 44 _ rfl wr.heap.size 0 rfl [.int .i64 r.ir, .int .i64 r.is, .int .i64 r.st, .int .i64 r.pn, .int .i64 r.pr, .int .i64 r.bn, .int .i64 r.br, .int .i64 r.c.k, .int .i64 r.c.tc, .int .i64 r.c.tn, .int .i64 r.c.tt, .int .i64 r.c.tk, .int .i64 r.c.sh, (.slice A3 r.c.rs.length c3), (.slice A4 r.c.ws.length c4), .bool r.c.cm, .int .i64 r.sq, .int .i64 r.d0, .int .i64 r.d1, .int .i64 r.d2, .int .i64 r.d3, .int .i64 r.d4, .int .i64 r.d5, .int .i64 r.d6, .bool r.kp] _ HBX.out Try.underlying44 rfl (by kernel_rfl) ?_)
              | (with_reducible refine wpList_build44 rfl (.tmp 39) rfl ⟨r, .slice A3 r.c.rs.length c3, .slice A4 r.c.ws.length c4⟩ rfl ?_)
              | (at_builtin; refine wpList_append_own _ rfl _ _ 22 rfl (w.heap.size + 1) 44 i0 Rv.zero.val 25 232 Try.underlying22 hi hz0 hz1 hz2 rfl (by decide) _ _ _ rfl (HO3.out.alloc _) ⟨(wr.alloc (.cells #[.int .i64 r.ir, .int .i64 r.is, .int .i64 r.st, .int .i64 r.pn, .int .i64 r.pr, .int .i64 r.bn, .int .i64 r.br, .int .i64 r.c.k, .int .i64 r.c.tc, .int .i64 r.c.tn, .int .i64 r.c.tt, .int .i64 r.c.tk, .int .i64 r.c.sh, (.slice A3 r.c.rs.length c3), (.slice A4 r.c.ws.length c4), .bool r.c.cm, .int .i64 r.sq, .int .i64 r.d0, .int .i64 r.d1, .int .i64 r.d2, .int .i64 r.d3, .int .i64 r.d4, .int .i64 r.d5, .int .i64 r.d6, .bool r.kp] 44)).heap.size, 0, none⟩ 1 1 (Rv.cells ⟨r, .slice A3 r.c.rs.length c3, .slice A4 r.c.ws.length c4⟩) (by simp; rfl) rfl (rec_new _ ⟨r, .slice A3 r.c.rs.length c3, .slice A4 r.c.ws.length c4⟩) (rec_one rfl rfl) (by unfold maxLen; omega) (by omega) (by simp; have := HS3.out; omega) ?_; intro v' w4 hown' hgrow hnil)
              | fail)
            have HO4 := Lib.hid (show w4.ownsRow (w.heap.size + 1) 44 25 v' (kept X allB (k + 1)).length ((kept X allB (k + 1)).flatMap Rv.cells) by rw [HYX.out, flat_snoc, List.length_append]; exact hown')
            have hal : Below (wr.alloc (.cells #[.int .i64 r.ir, .int .i64 r.is, .int .i64 r.st, .int .i64 r.pn, .int .i64 r.pr, .int .i64 r.bn, .int .i64 r.br, .int .i64 r.c.k, .int .i64 r.c.tc, .int .i64 r.c.tn, .int .i64 r.c.tt, .int .i64 r.c.tk, .int .i64 r.c.sh, (.slice A3 r.c.rs.length c3), (.slice A4 r.c.ws.length c4), .bool r.c.cm, .int .i64 r.sq, .int .i64 r.d0, .int .i64 r.d1, .int .i64 r.d2, .int .i64 r.d3, .int .i64 r.d4, .int .i64 r.d5, .int .i64 r.d6, .bool r.kp] 44)).heap.size (wr.alloc (.cells #[.int .i64 r.ir, .int .i64 r.is, .int .i64 r.st, .int .i64 r.pn, .int .i64 r.pr, .int .i64 r.bn, .int .i64 r.br, .int .i64 r.c.k, .int .i64 r.c.tc, .int .i64 r.c.tn, .int .i64 r.c.tt, .int .i64 r.c.tk, .int .i64 r.c.sh, (.slice A3 r.c.rs.length c3), (.slice A4 r.c.ws.length c4), .bool r.c.cm, .int .i64 r.sq, .int .i64 r.d0, .int .i64 r.d1, .int .i64 r.d2, .int .i64 r.d3, .int .i64 r.d4, .int .i64 r.d5, .int .i64 r.d6, .bool r.kp] 44)) ((wr.alloc (.cells #[.int .i64 r.ir, .int .i64 r.is, .int .i64 r.st, .int .i64 r.pn, .int .i64 r.pr, .int .i64 r.bn, .int .i64 r.br, .int .i64 r.c.k, .int .i64 r.c.tc, .int .i64 r.c.tn, .int .i64 r.c.tt, .int .i64 r.c.tk, .int .i64 r.c.sh, (.slice A3 r.c.rs.length c3), (.slice A4 r.c.ws.length c4), .bool r.c.cm, .int .i64 r.sq, .int .i64 r.d0, .int .i64 r.d1, .int .i64 r.d2, .int .i64 r.d3, .int .i64 r.d4, .int .i64 r.d5, .int .i64 r.d6, .bool r.kp] 44)).alloc (.cells (Rv.cells ⟨r, .slice A3 r.c.rs.length c3, .slice A4 r.c.ws.length c4⟩).toArray 44)) := below_new (Below.refl _ _)
            have HM4 := Lib.hid ((HM3.out.on hal).grown hgrow (fun e => by have := ((ownsRow_on HO3.out hal).lt _ e.symm).1; omega))
            have HW4 := Lib.hid ((below_on HW3.out hal).grown hgrow (below_on HW3.out hal).size (fun i hi => by have := ((ownsRow_on HO3.out hal).lt i hi).1; omega))
            clear hown' hgrow hnil hal
            go_wp2
            go_roundw
            case rel => exact ⟨k + 1, by go_num, hlt, HW4, HM4, HO4⟩
            case measure => simp [intOf]; omega
        · obtain rfl : k = X.length := by omega
          go_wp2
          go_ret
          exact ⟨_, rfl, ownsRow_baseN HO.out (by omega), HW.out⟩
end Go.Proofs.Ytgaglcfoodbcfaa
