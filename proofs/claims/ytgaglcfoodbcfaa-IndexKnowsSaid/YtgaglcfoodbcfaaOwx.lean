/- Contract of the law's own; no conditions but those that it names. -/
import Derived.Test.YtgaglcfoodbcfaaOwn
namespace Go.Proofs.Ytgaglcfoodbcfaa
open Go.ChangeShapes Go.WideShapes Go.ChangeAt Go.RowKit

theorem puts_append {b : Nat} : ∀ (L M : List Value) (o : Nat) (w : World), w.setCells b o (L ++ M) = (w.setCells b o L).setCells b (o + L.length) M
  | [], M, o, w => rfl
  | x :: L, M, o, w => by
    rw [List.cons_append, World.setCells, World.setCells, puts_append L M (o + 1)]
    rw [List.length_cons, show o + 1 + L.length = o + (L.length + 1) by omega]
set_option maxHeartbeats 8000000 in
set_option maxRecDepth 100000 in
theorem own_any {w : World} {v : Value} {X : List Rv} (h : Rows w v X) (hl : X.length ≤ 1000) (hm : ∀ x ∈ X, M.Mod x.r.c) : Calls Try.prog 13 #[v] w (OwnX X w) := by
  obtain ⟨i0, hi, hz0, hz1, hz2⟩ := info_parts info44
  obtain ⟨A, c, rfl⟩ := rowN_sliceOf h.row
  have HH := Lib.hid h
  have HMO := Lib.hid hm
  clear h hm
  go_enter Try.func13, Try.ntmps13
  go_wp2
  go_loopw [3, 8] (fun u i wr => ∃ (k : Nat) (Y : List Rv), i = .int .i64 k ∧ k ≤ X.length ∧ Y.length = k ∧ Hid (Below w.heap.size w wr) ∧ Hid (rcs Y = rcs (X.take k)) ∧ Hid (OwnRows wr w.heap.size u Y)) (fun _ i _ => X.length - (intOf i).toNat)
  case atStart => exact ⟨0, [], rfl, Nat.zero_le _, rfl, Lib.hid (Below.refl _ _), Lib.hid rfl, Lib.hid (OwnRows.nil _ _)⟩
  case round =>
    obtain ⟨k, Y, rfl, hk, hyl, HW, HR, HO⟩ := hrel
    by_cases hlt : k < X.length
    · obtain ⟨x, hx⟩ : ∃ x, X[k]? = some x := ⟨_, List.getElem?_eq_getElem hlt⟩
      have hxm : x ∈ X := List.mem_of_getElem? hx
      obtain ⟨b, o, rfl, hbl, hrr⟩ := rowN_range (HH.out.below HW.out).row hx
      have HX := Lib.hid ((HH.out.tx x hxm).below HW.out)
      have hmx := HMO.out x hxm
      have HRN := Lib.hid (show ∀ z : Rv, z.r = x.r → rcs (Y ++ [z]) = rcs (X.take (k + 1)) from fun z e => by
        rw [take_snoc hx]
        have := HR.out
        unfold rcs at *
        rw [List.map_append, List.map_append, this]
        simp [e])
      obtain ⟨r, va, vb⟩ := x
      obtain ⟨A3, c3, ea⟩ := rowN_sliceOf HX.out.rs
      obtain ⟨A4, c4, eb⟩ := rowN_sliceOf HX.out.ws
      dsimp only at ea eb hmx
      subst ea eb
      have HMX := Lib.hid hmx
      clear hmx
      have HRR := Lib.hid (show wr.rangeAt b (o + k * 25) [.int .i64 r.ir, .int .i64 r.is, .int .i64 r.st, .int .i64 r.pn, .int .i64 r.pr, .int .i64 r.bn, .int .i64 r.br, .int .i64 r.c.k, .int .i64 r.c.tc, .int .i64 r.c.tn, .int .i64 r.c.tt, .int .i64 r.c.tk, .int .i64 r.c.sh, (.slice A3 r.c.rs.length c3), (.slice A4 r.c.ws.length c4), .bool r.c.cm, .int .i64 r.sq, .int .i64 r.d0, .int .i64 r.d1, .int .i64 r.d2, .int .i64 r.d3, .int .i64 r.d4, .int .i64 r.d5, .int .i64 r.d6, .bool r.kp] from hrr)
      have hk1 : (k : Int) < (X.length : Int) := by omega
      have hb3 : Below wr.heap.size wr (wr.alloc (.cells #[.int .i64 r.ir, .int .i64 r.is, .int .i64 r.st, .int .i64 r.pn, .int .i64 r.pr, .int .i64 r.bn, .int .i64 r.br, .int .i64 r.c.k, .int .i64 r.c.tc, .int .i64 r.c.tn, .int .i64 r.c.tt, .int .i64 r.c.tk, .int .i64 r.c.sh, (.slice A3 r.c.rs.length c3), (.slice A4 r.c.ws.length c4), .bool r.c.cm, .int .i64 r.sq, .int .i64 r.d0, .int .i64 r.d1, .int .i64 r.d2, .int .i64 r.d3, .int .i64 r.d4, .int .i64 r.d5, .int .i64 r.d6, .bool r.kp] 44)) := below_new (Below.refl _ _)
      have HHO := Lib.hid (Hold.new wr [.int .i64 r.ir, .int .i64 r.is, .int .i64 r.st, .int .i64 r.pn, .int .i64 r.pr, .int .i64 r.bn, .int .i64 r.br, .int .i64 r.c.k, .int .i64 r.c.tc, .int .i64 r.c.tn, .int .i64 r.c.tt, .int .i64 r.c.tk, .int .i64 r.c.sh, (.slice A3 r.c.rs.length c3), (.slice A4 r.c.ws.length c4), .bool r.c.cm, .int .i64 r.sq, .int .i64 r.d0, .int .i64 r.d1, .int .i64 r.d2, .int .i64 r.d3, .int .i64 r.d4, .int .i64 r.d5, .int .i64 r.d6, .bool r.kp] 44)
      have HC := Lib.hid (hold_range HHO.out 7 [.int .i64 r.c.k, .int .i64 r.c.tc, .int .i64 r.c.tn, .int .i64 r.c.tt, .int .i64 r.c.tk, .int .i64 r.c.sh, (.slice A3 r.c.rs.length c3), (.slice A4 r.c.ws.length c4), .bool r.c.cm] (fun j v hj => by
        match j, hj with
        | 0, hj => exact hj
        | 1, hj => exact hj
        | 2, hj => exact hj
        | 3, hj => exact hj
        | 4, hj => exact hj
        | 5, hj => exact hj
        | 6, hj => exact hj
        | 7, hj => exact hj
        | 8, hj => exact hj))
      have HW3 := Lib.hid (below_on HW.out hb3)
      have HB3 := Lib.hid hb3
      have HCL := Lib.hid (cloned_any (w := wr.alloc (.cells #[.int .i64 r.ir, .int .i64 r.is, .int .i64 r.st, .int .i64 r.pn, .int .i64 r.pr, .int .i64 r.bn, .int .i64 r.br, .int .i64 r.c.k, .int .i64 r.c.tc, .int .i64 r.c.tn, .int .i64 r.c.tt, .int .i64 r.c.tk, .int .i64 r.c.sh, (.slice A3 r.c.rs.length c3), (.slice A4 r.c.ws.length c4), .bool r.c.cm, .int .i64 r.sq, .int .i64 r.d0, .int .i64 r.d1, .int .i64 r.d2, .int .i64 r.d3, .int .i64 r.d4, .int .i64 r.d5, .int .i64 r.d6, .bool r.kp] 44)) r.c (HX.out.below hb3).rs (HX.out.below hb3).ws (by have := HMX.out.r; omega) (by have := HMX.out.w; omega))
      have hs3 : (wr.alloc (.cells #[.int .i64 r.ir, .int .i64 r.is, .int .i64 r.st, .int .i64 r.pn, .int .i64 r.pr, .int .i64 r.bn, .int .i64 r.br, .int .i64 r.c.k, .int .i64 r.c.tc, .int .i64 r.c.tn, .int .i64 r.c.tt, .int .i64 r.c.tk, .int .i64 r.c.sh, (.slice A3 r.c.rs.length c3), (.slice A4 r.c.ws.length c4), .bool r.c.cm, .int .i64 r.sq, .int .i64 r.d0, .int .i64 r.d1, .int .i64 r.d2, .int .i64 r.d3, .int .i64 r.d4, .int .i64 r.d5, .int .i64 r.d6, .bool r.kp] 44)).heap.size = wr.heap.size + 1 := by simp
      clear hx hxm hbl hrr hb3 HX
      go_wp2_with (first
        | (with_reducible refine wpList_load_mid rfl 44 _ rfl b (o + k * 25) rfl [.int .i64 r.ir, .int .i64 r.is, .int .i64 r.st, .int .i64 r.pn, .int .i64 r.pr, .int .i64 r.bn, .int .i64 r.br, .int .i64 r.c.k, .int .i64 r.c.tc, .int .i64 r.c.tn, .int .i64 r.c.tt, .int .i64 r.c.tk, .int .i64 r.c.sh, (.slice A3 r.c.rs.length c3), (.slice A4 r.c.ws.length c4), .bool r.c.cm, .int .i64 r.sq, .int .i64 r.d0, .int .i64 r.d1, .int .i64 r.d2, .int .i64 r.d3, .int .i64 r.d4, .int .i64 r.d5, .int .i64 r.d6, .bool r.kp] _ HRR.out Try.underlying44 rfl (by kernel_rfl) ?_)
        | (with_reducible refine wpList_store_fresh rfl 44 _ _ rfl wr.heap.size rfl 44 _ [.int .i64 r.ir, .int .i64 r.is, .int .i64 r.st, .int .i64 r.pn, .int .i64 r.pr, .int .i64 r.bn, .int .i64 r.br, .int .i64 r.c.k, .int .i64 r.c.tc, .int .i64 r.c.tn, .int .i64 r.c.tt, .int .i64 r.c.tk, .int .i64 r.c.sh, (.slice A3 r.c.rs.length c3), (.slice A4 r.c.ws.length c4), .bool r.c.cm, .int .i64 r.sq, .int .i64 r.d0, .int .i64 r.d1, .int .i64 r.d2, .int .i64 r.d3, .int .i64 r.d4, .int .i64 r.d5, .int .i64 r.d6, .bool r.kp] rfl rfl rfl (by kernel_rfl) rfl ?_)
        | (with_reducible refine wpList_load_mid rfl 32 _ rfl wr.heap.size 7 rfl [.int .i64 r.c.k, .int .i64 r.c.tc, .int .i64 r.c.tn, .int .i64 r.c.tt, .int .i64 r.c.tk, .int .i64 r.c.sh, (.slice A3 r.c.rs.length c3), (.slice A4 r.c.ws.length c4), .bool r.c.cm] _ HC.out Try.underlying32 rfl (by kernel_rfl) ?_)
        | fail)
      generalize wr.alloc (.cells #[.int .i64 r.ir, .int .i64 r.is, .int .i64 r.st, .int .i64 r.pn, .int .i64 r.pr, .int .i64 r.bn, .int .i64 r.br, .int .i64 r.c.k, .int .i64 r.c.tc, .int .i64 r.c.tn, .int .i64 r.c.tt, .int .i64 r.c.tk, .int .i64 r.c.sh, (.slice A3 r.c.rs.length c3), (.slice A4 r.c.ws.length c4), .bool r.c.cm, .int .i64 r.sq, .int .i64 r.d0, .int .i64 r.d1, .int .i64 r.d2, .int .i64 r.d3, .int .i64 r.d4, .int .i64 r.d5, .int .i64 r.d6, .bool r.kp] 44) = w3 at *
      refine HCL.out.mono ?_
      rintro e w5 ⟨va', vb', rfl, o1, o2, hb5⟩
      obtain ⟨A1, j1, rfl⟩ := ownsRow_slice o1
      obtain ⟨A2, j2, rfl⟩ := ownsRow_slice o2
      have HH5 := Lib.hid (HHO.out.on hb5)
      have HT5 := Lib.hid (show w5.there wr.heap.size 7 ([.int .i64 r.c.k, .int .i64 r.c.tc, .int .i64 r.c.tn, .int .i64 r.c.tt, .int .i64 r.c.tk, .int .i64 r.c.sh, (.slice A1 r.c.rs.length j1), (.slice A2 r.c.ws.length j2), .bool r.c.cm] : List Value).length from HH5.out.there (Nat.le_add_right 16 9))
      have hi32 : (Try.prog.info? 32).map (·.size) = some ([.int .i64 r.c.k, .int .i64 r.c.tc, .int .i64 r.c.tn, .int .i64 r.c.tt, .int .i64 r.c.tk, .int .i64 r.c.sh, (.slice A1 r.c.rs.length j1), (.slice A2 r.c.ws.length j2), .bool r.c.cm] : List Value).length := by kernel_rfl
      have h1c : ([.int .i64 r.c.k, .int .i64 r.c.tc, .int .i64 r.c.tn, .int .i64 r.c.tt, .int .i64 r.c.tk, .int .i64 r.c.sh, (.slice A1 r.c.rs.length j1), (.slice A2 r.c.ws.length j2), .bool r.c.cm] : List Value).all (·.oneCell') = true := rfl
      have HH6 := Lib.hid (show Hold (w5.setCells wr.heap.size 7 [.int .i64 r.c.k, .int .i64 r.c.tc, .int .i64 r.c.tn, .int .i64 r.c.tt, .int .i64 r.c.tk, .int .i64 r.c.sh, (.slice A1 r.c.rs.length j1), (.slice A2 r.c.ws.length j2), .bool r.c.cm]) wr.heap.size 44 [.int .i64 r.ir, .int .i64 r.is, .int .i64 r.st, .int .i64 r.pn, .int .i64 r.pr, .int .i64 r.bn, .int .i64 r.br, .int .i64 r.c.k, .int .i64 r.c.tc, .int .i64 r.c.tn, .int .i64 r.c.tt, .int .i64 r.c.tk, .int .i64 r.c.sh, (.slice A1 r.c.rs.length j1), (.slice A2 r.c.ws.length j2), .bool r.c.cm, .int .i64 r.sq, .int .i64 r.d0, .int .i64 r.d1, .int .i64 r.d2, .int .i64 r.d3, .int .i64 r.d4, .int .i64 r.d5, .int .i64 r.d6, .bool r.kp] from Hold.set [.int .i64 r.c.k, .int .i64 r.c.tc, .int .i64 r.c.tn, .int .i64 r.c.tt, .int .i64 r.c.tk, .int .i64 r.c.sh, (.slice A1 r.c.rs.length j1), (.slice A2 r.c.ws.length j2), .bool r.c.cm] [.int .i64 r.ir, .int .i64 r.is, .int .i64 r.st, .int .i64 r.pn, .int .i64 r.pr, .int .i64 r.bn, .int .i64 r.br] [.int .i64 r.c.k, .int .i64 r.c.tc, .int .i64 r.c.tn, .int .i64 r.c.tt, .int .i64 r.c.tk, .int .i64 r.c.sh, (.slice A3 r.c.rs.length c3), (.slice A4 r.c.ws.length c4), .bool r.c.cm] [.int .i64 r.sq, .int .i64 r.d0, .int .i64 r.d1, .int .i64 r.d2, .int .i64 r.d3, .int .i64 r.d4, .int .i64 r.d5, .int .i64 r.d6, .bool r.kp] rfl w5 HH5.out)
      have HBX := Lib.hid (hold_range HH6.out 0 [.int .i64 r.ir, .int .i64 r.is, .int .i64 r.st, .int .i64 r.pn, .int .i64 r.pr, .int .i64 r.bn, .int .i64 r.br, .int .i64 r.c.k, .int .i64 r.c.tc, .int .i64 r.c.tn, .int .i64 r.c.tt, .int .i64 r.c.tk, .int .i64 r.c.sh, (.slice A1 r.c.rs.length j1), (.slice A2 r.c.ws.length j2), .bool r.c.cm, .int .i64 r.sq, .int .i64 r.d0, .int .i64 r.d1, .int .i64 r.d2, .int .i64 r.d3, .int .i64 r.d4, .int .i64 r.d5, .int .i64 r.d6, .bool r.kp] (fun j v hj => by rw [Nat.zero_add]; exact hj))
      have O1 := Lib.hid (ownsRow_setCells o1 (show wr.heap.size < w3.heap.size by omega) [.int .i64 r.c.k, .int .i64 r.c.tc, .int .i64 r.c.tn, .int .i64 r.c.tt, .int .i64 r.c.tk, .int .i64 r.c.sh, (.slice A1 r.c.rs.length j1), (.slice A2 r.c.ws.length j2), .bool r.c.cm] 7)
      have O2 := Lib.hid (ownsRow_setCells o2 (show wr.heap.size < w3.heap.size by omega) [.int .i64 r.c.k, .int .i64 r.c.tc, .int .i64 r.c.tn, .int .i64 r.c.tt, .int .i64 r.c.tk, .int .i64 r.c.sh, (.slice A1 r.c.rs.length j1), (.slice A2 r.c.ws.length j2), .bool r.c.cm] 7)
      have HO6 := Lib.hid (HO.out.puts (below_on HB3.out hb5) [.int .i64 r.c.k, .int .i64 r.c.tc, .int .i64 r.c.tn, .int .i64 r.c.tt, .int .i64 r.c.tk, .int .i64 r.c.sh, (.slice A1 r.c.rs.length j1), (.slice A2 r.c.ws.length j2), .bool r.c.cm] 7)
      have HW6 := Lib.hid (below_setCells (B := w.heap.size) (b := wr.heap.size) HW.out.size [.int .i64 r.c.k, .int .i64 r.c.tc, .int .i64 r.c.tn, .int .i64 r.c.tt, .int .i64 r.c.tk, .int .i64 r.c.sh, (.slice A1 r.c.rs.length j1), (.slice A2 r.c.ws.length j2), .bool r.c.cm] 7 _ _ (below_on HW3.out hb5))
      have HS3 := Lib.hid (show w.heap.size ≤ w3.heap.size from HW3.out.size)
      clear o1 o2 hb5 HC HRR HHO HB3 HW3 HW HO hs3 HCL
      have hal : Below (w5.setCells wr.heap.size 7 [.int .i64 r.c.k, .int .i64 r.c.tc, .int .i64 r.c.tn, .int .i64 r.c.tt, .int .i64 r.c.tk, .int .i64 r.c.sh, (.slice A1 r.c.rs.length j1), (.slice A2 r.c.ws.length j2), .bool r.c.cm]).heap.size (w5.setCells wr.heap.size 7 [.int .i64 r.c.k, .int .i64 r.c.tc, .int .i64 r.c.tn, .int .i64 r.c.tt, .int .i64 r.c.tk, .int .i64 r.c.sh, (.slice A1 r.c.rs.length j1), (.slice A2 r.c.ws.length j2), .bool r.c.cm]) ((w5.setCells wr.heap.size 7 [.int .i64 r.c.k, .int .i64 r.c.tc, .int .i64 r.c.tn, .int .i64 r.c.tt, .int .i64 r.c.tk, .int .i64 r.c.sh, (.slice A1 r.c.rs.length j1), (.slice A2 r.c.ws.length j2), .bool r.c.cm]).alloc (.cells (Rv.cells ⟨r, .slice A1 r.c.rs.length j1, .slice A2 r.c.ws.length j2⟩).toArray 44)) := below_new (Below.refl _ _)
      have hs6 := HW6.out.size
      clear HH5
      go_wp2_with (first
        | (with_reducible refine store_list rfl 32 (.tmp 15) (.tmp 14) rfl wr.heap.size 7 [.int .i64 r.c.k, .int .i64 r.c.tc, .int .i64 r.c.tn, .int .i64 r.c.tt, .int .i64 r.c.tk, .int .i64 r.c.sh, (.slice A1 r.c.rs.length j1), (.slice A2 r.c.ws.length j2), .bool r.c.cm] rfl rfl HT5.out hi32 h1c ?_)
        | (with_reducible refine wpList_load_mid rfl 44 _ rfl wr.heap.size 0 rfl [.int .i64 r.ir, .int .i64 r.is, .int .i64 r.st, .int .i64 r.pn, .int .i64 r.pr, .int .i64 r.bn, .int .i64 r.br, .int .i64 r.c.k, .int .i64 r.c.tc, .int .i64 r.c.tn, .int .i64 r.c.tt, .int .i64 r.c.tk, .int .i64 r.c.sh, (.slice A1 r.c.rs.length j1), (.slice A2 r.c.ws.length j2), .bool r.c.cm, .int .i64 r.sq, .int .i64 r.d0, .int .i64 r.d1, .int .i64 r.d2, .int .i64 r.d3, .int .i64 r.d4, .int .i64 r.d5, .int .i64 r.d6, .bool r.kp] _ HBX.out Try.underlying44 rfl (by kernel_rfl) ?_)
        | (with_reducible refine wpList_build44 rfl (.tmp 17) rfl ⟨r, .slice A1 r.c.rs.length j1, .slice A2 r.c.ws.length j2⟩ rfl ?_)
        | (at_builtin; refine wpList_append_own _ rfl _ _ 22 rfl w.heap.size 44 i0 Rv.zero.val 25 232 Try.underlying22 hi hz0 hz1 hz2 rfl (by decide) _ _ _ rfl (HO6.out.row.alloc _) ⟨(w5.setCells wr.heap.size 7 [.int .i64 r.c.k, .int .i64 r.c.tc, .int .i64 r.c.tn, .int .i64 r.c.tt, .int .i64 r.c.tk, .int .i64 r.c.sh, (.slice A1 r.c.rs.length j1), (.slice A2 r.c.ws.length j2), .bool r.c.cm]).heap.size, 0, none⟩ 1 1 (Rv.cells ⟨r, .slice A1 r.c.rs.length j1, .slice A2 r.c.ws.length j2⟩) rfl rfl (rec_new _ ⟨r, .slice A1 r.c.rs.length j1, .slice A2 r.c.ws.length j2⟩) (rec_one rfl rfl) (by unfold maxLen; omega) (by omega) (by simp; omega) ?_; intro v' w7 hown' hgrow hnil)
        | fail)
      have HO7 := Lib.hid (OwnRows.snoc (HO6.out.below hal) (x := ⟨r, .slice A1 r.c.rs.length j1, .slice A2 r.c.ws.length j2⟩) ⟨_, HS3.out, ownsRow_on O1.out hal⟩ ⟨_, HS3.out, ownsRow_on O2.out hal⟩ hown' hgrow)
      have HW7 := Lib.hid ((below_on HW6.out hal).grown hgrow (below_on HW6.out hal).size (fun i hi => (((HO6.out.below hal).row).lt i hi).1))
      have HR7 := Lib.hid (HRN.out ⟨r, .slice A1 r.c.rs.length j1, .slice A2 r.c.ws.length j2⟩ rfl)
      clear hown' hgrow hnil hal
      go_wp2
      go_roundw
      case rel => exact ⟨k + 1, _, by go_num, hlt, by simp [hyl], HW7, HR7, HO7⟩
      case measure => simp [intOf]; omega
    · obtain rfl : k = X.length := by omega
      rw [List.take_length] at HR
      go_wp2
      go_ret
      exact ⟨_, Y, rfl, HR, HO.out, HW.out⟩
end Go.Proofs.Ytgaglcfoodbcfaa
