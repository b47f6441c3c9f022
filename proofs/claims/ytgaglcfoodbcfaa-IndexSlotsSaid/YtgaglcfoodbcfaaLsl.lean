/- The walk of IndexSlots; no conditions. -/
import Derived.Test.YtgaglcfoodbcfaaRgS
import Derived.Test.YtgaglcfoodbcfaaBgd
import Derived.Test.YtgaglcfoodbcfaaOdr
import Derived.Test.YtgaglcfoodbcfaaArg
namespace Go.Proofs.Ytgaglcfoodbcfaa
open Go.ChangeShapes Go.WideShapes Go.ChangeAt Go.RowKit

theorem slots_mem (p : Int) : ∀ (l : List M.Rec) (n : Int), n ≤ slotsL p n l ∧ ∀ r ∈ l, r.ir = p → r.is ≤ slotsL p n l
  | [], n => ⟨Int.le_refl n, fun _ h => (List.not_mem_nil h).elim⟩
  | r :: l, n => by
    obtain ⟨h1, h2⟩ := slots_mem p l (slot1 p n r)
    have h3 : n ≤ slot1 p n r := by unfold slot1 Dp.M.mx; split <;> (try split) <;> omega
    refine ⟨Int.le_trans h3 h1, fun q hq e => ?_⟩
    rcases List.mem_cons.1 hq with rfl | hq
    · have : q.is ≤ slot1 p n q := by unfold slot1 Dp.M.mx; rw [if_pos e]; split <;> omega
      exact Int.le_trans this h1
    · exact h2 q hq e
theorem slots_mono (p : Int) (l l' : List M.Rec) : slotsL p 0 l ≤ slotsL p 0 (l ++ l') := by
  unfold slotsL
  rw [List.foldl_append]
  exact (slots_mem p l' (List.foldl (slot1 p) 0 l)).1
theorem next_mem {p : Int} {l : List M.Rec} {r : M.Rec} (hr : r ∈ l) (e : r.ir = p) : ¬ (nextSlot p l ≤ r.is ∧ r.is ≤ 1048576) := by
  have h := (slots_mem p l 0).2 r hr e
  unfold nextSlot Dp.M.mn
  split <;> omega
theorem next_one (p : Int) (l : List M.Rec) : 1 ≤ nextSlot p l := by
  have h := (slots_mem p l 0).1
  unfold nextSlot Dp.M.mn
  split <;> omega
theorem next_mono (p : Int) (l l' : List M.Rec) : nextSlot p l ≤ nextSlot p (l ++ l') := by
  have h := slots_mono p l l'
  unfold nextSlot Dp.M.mn
  split <;> split <;> omega
theorem next_same {p : Int} {l : List M.Rec} {r : M.Rec} (e : ¬ r.ir = p) : nextSlot p (l ++ [r]) = nextSlot p l := by
  unfold nextSlot slotsL
  rw [List.foldl_append]
  simp only [List.foldl_cons, List.foldl_nil, slot1, if_neg e]
set_option maxHeartbeats 8000000 in
set_option maxRecDepth 100000 in
theorem slots_law (r : M.Rec) (p : Int) (w : World) {v va vb : Value} {X : List Rv} (h : Rows w v X) (_hq : Sqs X) (t : Txt w ⟨r, va, vb⟩) :
    Calls Try.prog 8 #[v, .agg #[.int .i64 r.ir, .int .i64 r.is, .int .i64 r.st, .int .i64 r.pn, .int .i64 r.pr, .int .i64 r.bn, .int .i64 r.br, .int .i64 r.c.k, .int .i64 r.c.tc, .int .i64 r.c.tn, .int .i64 r.c.tt, .int .i64 r.c.tk, .int .i64 r.c.sh, va, vb, .bool r.c.cm, .int .i64 r.sq, .int .i64 r.d0, .int .i64 r.d1, .int .i64 r.d2, .int .i64 r.d3, .int .i64 r.d4, .int .i64 r.d5, .int .i64 r.d6, .bool r.kp], .int .i64 p] w fun e w' => e = .returned (.bool true) ∧ Below w.heap.size w w' := by
  obtain ⟨A, cc, rfl⟩ := rowN_sliceOf h.row
  obtain ⟨A3, c3, ea⟩ := rowN_sliceOf t.rs
  obtain ⟨A4, c4, eb⟩ := rowN_sliceOf t.ws
  dsimp only at ea eb
  subst ea eb
  have hb0 : Below w.heap.size w (w.alloc (.cells #[.int .i64 r.ir, .int .i64 r.is, .int .i64 r.st, .int .i64 r.pn, .int .i64 r.pr, .int .i64 r.bn, .int .i64 r.br, .int .i64 r.c.k, .int .i64 r.c.tc, .int .i64 r.c.tn, .int .i64 r.c.tt, .int .i64 r.c.tk, .int .i64 r.c.sh, (.slice A3 r.c.rs.length c3), (.slice A4 r.c.ws.length c4), .bool r.c.cm, .int .i64 r.sq, .int .i64 r.d0, .int .i64 r.d1, .int .i64 r.d2, .int .i64 r.d3, .int .i64 r.d4, .int .i64 r.d5, .int .i64 r.d6, .bool r.kp] 44)) := below_new (Below.refl _ _)
  have HX := Lib.hid (h.below hb0)
  have HT := Lib.hid (t.below hb0)
  have HB := Lib.hid hb0
  have H1 := Lib.hid (Hold.new w [.int .i64 r.ir, .int .i64 r.is, .int .i64 r.st, .int .i64 r.pn, .int .i64 r.pr, .int .i64 r.bn, .int .i64 r.br, .int .i64 r.c.k, .int .i64 r.c.tc, .int .i64 r.c.tn, .int .i64 r.c.tt, .int .i64 r.c.tk, .int .i64 r.c.sh, (.slice A3 r.c.rs.length c3), (.slice A4 r.c.ws.length c4), .bool r.c.cm, .int .i64 r.sq, .int .i64 r.d0, .int .i64 r.d1, .int .i64 r.d2, .int .i64 r.d3, .int .i64 r.d4, .int .i64 r.d5, .int .i64 r.d6, .bool r.kp] 44)
  clear h t hb0 _hq
  go_enter Try.func8, Try.ntmps8
  go_wp2_with (fail)
  generalize w.alloc (.cells #[.int .i64 r.ir, .int .i64 r.is, .int .i64 r.st, .int .i64 r.pn, .int .i64 r.pr, .int .i64 r.bn, .int .i64 r.br, .int .i64 r.c.k, .int .i64 r.c.tc, .int .i64 r.c.tn, .int .i64 r.c.tt, .int .i64 r.c.tk, .int .i64 r.c.sh, (.slice A3 r.c.rs.length c3), (.slice A4 r.c.ws.length c4), .bool r.c.cm, .int .i64 r.sq, .int .i64 r.d0, .int .i64 r.d1, .int .i64 r.d2, .int .i64 r.d3, .int .i64 r.d4, .int .i64 r.d5, .int .i64 r.d6, .bool r.kp] 44) = w0 at *
  refine (few_rows HX.out).mono ?_
  rintro e w1 ⟨rfl, hb1⟩
  have HB1 := Lib.hid (below_on HB.out hb1)
  rcases hf : fewX X with _ | _
  · clear hb1
    go_wp2_with (fail)
    refine (awake_any w1).mono ?_
    rintro e w2 ⟨rfl, hb2⟩
    have HB2 := Lib.hid (below_on HB1.out hb2)
    clear hb2
    go_wp2
    go_ret
    exact ⟨rfl, HB2.out⟩
  have hl := fewX_len hf
  have hm := fewX_mod hf
  have HX1 := Lib.hid (HX.out.below hb1)
  have HT1 := Lib.hid (HT.out.below hb1)
  have H11 := Lib.hid (H1.out.on hb1)
  have HR1 := Lib.hid (hold_rec H11.out)
  have HF := Lib.hid (few_rows (rows_one HT1.out))
  have HB2 := Lib.hid (below_new (o := .cells (Rv.cells ⟨r, .slice A3 r.c.rs.length c3, .slice A4 r.c.ws.length c4⟩).toArray 44) (Below.refl w1.heap.size w1))
  clear hb1 HX HT H1 HB
  go_wp2_with (first
    | (with_reducible refine wpList_load_mid_g ?_ 44 _ rfl w.heap.size 0 rfl [.int .i64 r.ir, .int .i64 r.is, .int .i64 r.st, .int .i64 r.pn, .int .i64 r.pr, .int .i64 r.bn, .int .i64 r.br, .int .i64 r.c.k, .int .i64 r.c.tc, .int .i64 r.c.tn, .int .i64 r.c.tt, .int .i64 r.c.tk, .int .i64 r.c.sh, (.slice A3 r.c.rs.length c3), (.slice A4 r.c.ws.length c4), .bool r.c.cm, .int .i64 r.sq, .int .i64 r.d0, .int .i64 r.d1, .int .i64 r.d2, .int .i64 r.d3, .int .i64 r.d4, .int .i64 r.d5, .int .i64 r.d6, .bool r.kp] _ HR1.out Try.underlying44 rfl (by kernel_rfl) ?_; kernel_rfl)
    | (with_reducible refine wpList_build44_g ?_ (.tmp 15) rfl ⟨r, .slice A3 r.c.rs.length c3, .slice A4 r.c.ws.length c4⟩ rfl ?_; kernel_rfl)
    | fail)
  refine HF.out.mono ?_
  rintro e w2 ⟨rfl, hb2⟩
  have hb12 := below_on HB2.out hb2
  have HB3 := Lib.hid (below_on HB1.out hb12)
  rcases hfr : fewX [⟨r, .slice A3 r.c.rs.length c3, .slice A4 r.c.ws.length c4⟩] with _ | _
  · clear hb2 hb12
    go_wp2_with (fail)
    refine (awake_any w2).mono ?_
    rintro e w3 ⟨rfl, hb3⟩
    have HB4 := Lib.hid (below_on HB3.out hb3)
    clear hb3
    go_wp2
    go_ret
    exact ⟨rfl, HB4.out⟩
  have hmr : M.Mod r.c := fewX_mod hfr ⟨r, .slice A3 r.c.rs.length c3, .slice A4 r.c.ws.length c4⟩ (by simp)
  have HX2 := Lib.hid (HX1.out.below hb12)
  have HT2 := Lib.hid (HT1.out.below hb12)
  have H12 := Lib.hid (H11.out.on hb12)
  have HMM := Lib.hid (show ∀ y ∈ X ++ [⟨r, .slice A3 r.c.rs.length c3, .slice A4 r.c.ws.length c4⟩], M.Mod y.r.c from fun y hy => by
    rcases List.mem_append.1 hy with hy | hy
    · exact hm y hy
    · rw [List.mem_singleton.1 hy]; exact hmr)
  obtain ⟨n, hn⟩ : ∃ n, n = nextSlot p (rcs X) := ⟨_, rfl⟩
  have HSL := slot_any p HX2.out (by omega)
  rw [← hn] at HSL
  have HS := Lib.hid HSL
  have HN := Lib.hid hn
  have hn1 : 1 ≤ n := by rw [hn]; exact next_one p _
  have HNM := Lib.hid (show ∀ x ∈ X, x.r.ir = p → ¬ (n ≤ x.r.is ∧ x.r.is ≤ 1048576) from fun x hx e => by rw [hn]; exact next_mem (List.mem_map.2 ⟨x, hx, rfl⟩) e)
  clear hb2 hb12 HX1 HT1 H11 HR1 HF HB2 HB1 hn HSL hf hfr hm hmr
  go_wp2_with (fail)
  refine HS.out.mono ?_
  rintro e w3 ⟨rfl, hb3⟩
  have HX3 := Lib.hid (HX2.out.below hb3)
  have HT3 := Lib.hid (HT2.out.below hb3)
  have H13 := Lib.hid (H12.out.on hb3)
  have HB5 := Lib.hid (below_on HB3.out hb3)
  clear hb3 HX2 HT2 H12 HB3 HS
  go_wp2
  go_loopw [26] (fun i wr => ∃ k : Nat, i = .int .i64 k ∧ k ≤ X.length ∧ Hid (Below w3.heap.size w3 wr)) (fun i _ => X.length - (intOf i).toNat)
  case atStart => exact ⟨0, rfl, Nat.zero_le _, Lib.hid (Below.refl _ _)⟩
  case round =>
    obtain ⟨k, rfl, hk, HW⟩ := hrel
    by_cases hlt : k < X.length
    · obtain ⟨x, hx⟩ : ∃ x, X[k]? = some x := ⟨_, List.getElem?_eq_getElem hlt⟩
      have hxm : x ∈ X := List.mem_of_getElem? hx
      obtain ⟨b, o, rfl, hbl, hrr⟩ := rowN_range (HX3.out.below HW.out).row hx
      have HX := Lib.hid ((HX3.out.tx x hxm).below HW.out)
      have hne := HNM.out x hxm
      obtain ⟨y, ya, yb⟩ := x
      obtain ⟨A7, c7, ea⟩ := rowN_sliceOf HX.out.rs
      obtain ⟨A8, c8, eb⟩ := rowN_sliceOf HX.out.ws
      dsimp only at ea eb hne
      subst ea eb
      have HRR := Lib.hid (show wr.rangeAt b (o + k * 25) [.int .i64 y.ir, .int .i64 y.is, .int .i64 y.st, .int .i64 y.pn, .int .i64 y.pr, .int .i64 y.bn, .int .i64 y.br, .int .i64 y.c.k, .int .i64 y.c.tc, .int .i64 y.c.tn, .int .i64 y.c.tt, .int .i64 y.c.tk, .int .i64 y.c.sh, (.slice A7 y.c.rs.length c7), (.slice A8 y.c.ws.length c8), .bool y.c.cm, .int .i64 y.sq, .int .i64 y.d0, .int .i64 y.d1, .int .i64 y.d2, .int .i64 y.d3, .int .i64 y.d4, .int .i64 y.d5, .int .i64 y.d6, .bool y.kp] from hrr)
      have hk1 : (k : Int) < (X.length : Int) := by omega
      have HW3 := Lib.hid (below_on HW.out (below_new (o := .cells #[.int .i64 y.ir, .int .i64 y.is, .int .i64 y.st, .int .i64 y.pn, .int .i64 y.pr, .int .i64 y.bn, .int .i64 y.br, .int .i64 y.c.k, .int .i64 y.c.tc, .int .i64 y.c.tn, .int .i64 y.c.tt, .int .i64 y.c.tk, .int .i64 y.c.sh, (.slice A7 y.c.rs.length c7), (.slice A8 y.c.ws.length c8), .bool y.c.cm, .int .i64 y.sq, .int .i64 y.d0, .int .i64 y.d1, .int .i64 y.d2, .int .i64 y.d3, .int .i64 y.d4, .int .i64 y.d5, .int .i64 y.d6, .bool y.kp] 44) (Below.refl wr.heap.size wr)))
      clear hx hxm hbl hrr HX
      by_cases e1 : y.ir = p
      · have hne' := hne e1
        have q1 : (y.ir == p) = true := by rw [e1]; simp
        by_cases e2 : n ≤ y.is
        · have e3 : ¬ y.is ≤ 1048576 := fun e3 => hne' ⟨e2, e3⟩
          have q2 : decide (n ≤ y.is) = true := decide_eq_true e2
          have q3 : decide (y.is ≤ 1048576) = false := decide_eq_false e3
          clear hne hne' e1 e2 e3
          go_wp2_with (first
            | (with_reducible refine wpList_load_mid rfl 44 _ rfl b (o + k * 25) rfl [.int .i64 y.ir, .int .i64 y.is, .int .i64 y.st, .int .i64 y.pn, .int .i64 y.pr, .int .i64 y.bn, .int .i64 y.br, .int .i64 y.c.k, .int .i64 y.c.tc, .int .i64 y.c.tn, .int .i64 y.c.tt, .int .i64 y.c.tk, .int .i64 y.c.sh, (.slice A7 y.c.rs.length c7), (.slice A8 y.c.ws.length c8), .bool y.c.cm, .int .i64 y.sq, .int .i64 y.d0, .int .i64 y.d1, .int .i64 y.d2, .int .i64 y.d3, .int .i64 y.d4, .int .i64 y.d5, .int .i64 y.d6, .bool y.kp] _ HRR.out Try.underlying44 rfl (by kernel_rfl) ?_)
            | (with_reducible refine wpList_store_fresh rfl 44 _ _ rfl wr.heap.size rfl 44 _ [.int .i64 y.ir, .int .i64 y.is, .int .i64 y.st, .int .i64 y.pn, .int .i64 y.pr, .int .i64 y.bn, .int .i64 y.br, .int .i64 y.c.k, .int .i64 y.c.tc, .int .i64 y.c.tn, .int .i64 y.c.tt, .int .i64 y.c.tk, .int .i64 y.c.sh, (.slice A7 y.c.rs.length c7), (.slice A8 y.c.ws.length c8), .bool y.c.cm, .int .i64 y.sq, .int .i64 y.d0, .int .i64 y.d1, .int .i64 y.d2, .int .i64 y.d3, .int .i64 y.d4, .int .i64 y.d5, .int .i64 y.d6, .bool y.kp] rfl rfl rfl (by kernel_rfl) rfl ?_)
            | fail)
          go_roundw
          case rel => exact ⟨k + 1, by go_num, hlt, HW3⟩
          case measure => simp [intOf]; omega
        · have q2 : decide (n ≤ y.is) = false := decide_eq_false e2
          clear hne hne' e1 e2
          go_wp2_with (first
            | (with_reducible refine wpList_load_mid rfl 44 _ rfl b (o + k * 25) rfl [.int .i64 y.ir, .int .i64 y.is, .int .i64 y.st, .int .i64 y.pn, .int .i64 y.pr, .int .i64 y.bn, .int .i64 y.br, .int .i64 y.c.k, .int .i64 y.c.tc, .int .i64 y.c.tn, .int .i64 y.c.tt, .int .i64 y.c.tk, .int .i64 y.c.sh, (.slice A7 y.c.rs.length c7), (.slice A8 y.c.ws.length c8), .bool y.c.cm, .int .i64 y.sq, .int .i64 y.d0, .int .i64 y.d1, .int .i64 y.d2, .int .i64 y.d3, .int .i64 y.d4, .int .i64 y.d5, .int .i64 y.d6, .bool y.kp] _ HRR.out Try.underlying44 rfl (by kernel_rfl) ?_)
            | (with_reducible refine wpList_store_fresh rfl 44 _ _ rfl wr.heap.size rfl 44 _ [.int .i64 y.ir, .int .i64 y.is, .int .i64 y.st, .int .i64 y.pn, .int .i64 y.pr, .int .i64 y.bn, .int .i64 y.br, .int .i64 y.c.k, .int .i64 y.c.tc, .int .i64 y.c.tn, .int .i64 y.c.tt, .int .i64 y.c.tk, .int .i64 y.c.sh, (.slice A7 y.c.rs.length c7), (.slice A8 y.c.ws.length c8), .bool y.c.cm, .int .i64 y.sq, .int .i64 y.d0, .int .i64 y.d1, .int .i64 y.d2, .int .i64 y.d3, .int .i64 y.d4, .int .i64 y.d5, .int .i64 y.d6, .bool y.kp] rfl rfl rfl (by kernel_rfl) rfl ?_)
            | fail)
          go_roundw
          case rel => exact ⟨k + 1, by go_num, hlt, HW3⟩
          case measure => simp [intOf]; omega
      · have q1 : (y.ir == p) = false := by rw [beq_eq_false_iff_ne]; exact e1
        clear hne e1
        go_wp2_with (first
          | (with_reducible refine wpList_load_mid rfl 44 _ rfl b (o + k * 25) rfl [.int .i64 y.ir, .int .i64 y.is, .int .i64 y.st, .int .i64 y.pn, .int .i64 y.pr, .int .i64 y.bn, .int .i64 y.br, .int .i64 y.c.k, .int .i64 y.c.tc, .int .i64 y.c.tn, .int .i64 y.c.tt, .int .i64 y.c.tk, .int .i64 y.c.sh, (.slice A7 y.c.rs.length c7), (.slice A8 y.c.ws.length c8), .bool y.c.cm, .int .i64 y.sq, .int .i64 y.d0, .int .i64 y.d1, .int .i64 y.d2, .int .i64 y.d3, .int .i64 y.d4, .int .i64 y.d5, .int .i64 y.d6, .bool y.kp] _ HRR.out Try.underlying44 rfl (by kernel_rfl) ?_)
          | (with_reducible refine wpList_store_fresh rfl 44 _ _ rfl wr.heap.size rfl 44 _ [.int .i64 y.ir, .int .i64 y.is, .int .i64 y.st, .int .i64 y.pn, .int .i64 y.pr, .int .i64 y.bn, .int .i64 y.br, .int .i64 y.c.k, .int .i64 y.c.tc, .int .i64 y.c.tn, .int .i64 y.c.tt, .int .i64 y.c.tk, .int .i64 y.c.sh, (.slice A7 y.c.rs.length c7), (.slice A8 y.c.ws.length c8), .bool y.c.cm, .int .i64 y.sq, .int .i64 y.d0, .int .i64 y.d1, .int .i64 y.d2, .int .i64 y.d3, .int .i64 y.d4, .int .i64 y.d5, .int .i64 y.d6, .bool y.kp] rfl rfl rfl (by kernel_rfl) rfl ?_)
          | fail)
        go_roundw
        case rel => exact ⟨k + 1, by go_num, hlt, HW3⟩
        case measure => simp [intOf]; omega
    · obtain rfl : k = X.length := by omega
      obtain ⟨m, hmv⟩ : ∃ m, m = nextSlot p (rcs (X ++ [⟨r, .slice A3 r.c.rs.length c3, .slice A4 r.c.ws.length c4⟩])) := ⟨_, rfl⟩
      have HMV := Lib.hid hmv
      have hcat : rcs (X ++ [⟨r, .slice A3 r.c.rs.length c3, .slice A4 r.c.ws.length c4⟩]) = rcs X ++ [r] := by unfold rcs; simp
      have hnm : n ≤ m := by rw [hmv, hcat, HN.out]; exact next_mono _ _ _
      have HSA := Lib.hid (show ¬ r.ir = p → m = n from fun e => by rw [hmv, hcat, HN.out]; exact next_same e)
      have HX4 := Lib.hid (HX3.out.below HW.out)
      have HT4 := Lib.hid (HT3.out.below HW.out)
      have H14 := Lib.hid (H13.out.on HW.out)
      have HB6 := Lib.hid (below_on HB5.out HW.out)
      clear hmv hcat HW
      go_wp2
      refine reg8 (i1 := 0) (i2 := 0) (c := r.c) (A5 := none) (A6 := none) (c5 := 0) (c6 := 0) (d := fun _ => 0) (nd := fun _ => 0) HX4.out (by omega) HMM.out (hold_rec H14.out) (hold_lt H14.out) HT4.out HMV.out ?_
      intro x49 x50 x51 x52 x53 x54 x55 W hbW
      have HB7 := Lib.hid (below_on HB6.out hbW)
      have c0 := hold_cell (H14.out.on hbW) 0 rfl
      have hd1 : decide (1 ≤ n) = true := decide_eq_true hn1
      have hd2 : decide (n ≤ m) = true := decide_eq_true hnm
      have HAW := Lib.hid (awake_any W)
      by_cases e1 : r.ir = p
      · have q1 : (r.ir == p) = true := by rw [e1]; simp
        clear hbW e1 hn1 hnm HX4 HT4 H14 HMV HSA
        go_wp2_with (fail)
        refine HAW.out.mono ?_
        rintro e w7 ⟨rfl, hb7⟩
        have HB8 := Lib.hid (below_on HB7.out hb7)
        clear hb7
        go_wp2
        go_ret
        exact ⟨rfl, HB8.out⟩
      · have q1 : (r.ir == p) = false := by rw [beq_eq_false_iff_ne]; exact e1
        have q2 : (m == n) = true := by rw [HSA.out e1]; simp
        clear hbW e1 hn1 hnm HX4 HT4 H14 HMV HSA
        go_wp2_with (fail)
        refine HAW.out.mono ?_
        rintro e w7 ⟨rfl, hb7⟩
        have HB8 := Lib.hid (below_on HB7.out hb7)
        clear hb7
        go_wp2
        go_ret
        exact ⟨rfl, HB8.out⟩
end Go.Proofs.Ytgaglcfoodbcfaa
