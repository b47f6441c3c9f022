/- The walk of WireAgain; no conditions but a byte's range. -/
import Derived.Test.YtagngbdlpdilnaaRd
import Derived.Test.YtagngbdlpdilnaaFewN
namespace Go.Proofs.Ytagngbdlpdilnaa
open Go.ChangeShapes Go.WideShapes Go.ChangeAt Go.RowKit

theorem encode_val {w : World} {base : Nat} {v : P.Val} {x : Value} (h : OwnV w base v x) (S : P.smlV v) : Calls Try.prog 18 #[x] w (Enc (P.rightV v) (P.encV v) w) := by
  rcases v with c | r | m
  · obtain ⟨va, vb, rfl, h1, h2, h3, h4⟩ := h
    exact encode_cmd c (RowN.of_owns h1) (RowN.of_owns h2) (P.Sml.mod S)
  · obtain ⟨va, vb, rfl, h1, h2, h3, h4⟩ := h
    exact encode_rec r (RowN.of_owns h1) (RowN.of_owns h2) (P.Sml.mod S.2)
  · obtain ⟨va, vb, rfl, h1, h2, h3, h4⟩ := h
    exact encode_msg m (RowN.of_owns h1) (RowN.of_owns h2) (P.Sml.mod S.2)
/-- Encode of what may be. -/
theorem encode_yes {w : World} {base : Nat} {v : P.Val} {x : Value} (h : OwnV w base v x) (S : P.smlV v) (hr : P.rightV v = true) : Calls Try.prog 18 #[x] w fun e w' => ∃ u, e = .returned (.tuple #[u, .int .i64 0]) ∧ Own w' w.heap.size u (P.encV v) ∧ Below w.heap.size w w' := by
  have := encode_val h S
  rw [hr] at this
  exact this
/-- Decode of what is of something, and of what isn't. -/
theorem decode_yes {w : World} {u : Value} {xs : List UInt8} {v : P.Val} (h : Bts w u xs) (hd : P.dec xs = .ok v) : Calls Try.prog 25 #[u] w fun e w' => ∃ x, e = .returned (.tuple #[x, .int .i64 0]) ∧ OwnV w' w.heap.size v x ∧ Below w.heap.size w w' := by
  have := decode_any h
  rw [hd] at this
  exact this.mono fun e w' ⟨hb, x, he, ho⟩ => ⟨x, he, ho, hb⟩
theorem decode_no {w : World} {u : Value} {xs : List UInt8} {n : Nat} (h : Bts w u xs) (hd : P.dec xs = .error n) : Calls Try.prog 25 #[u] w fun e w' => e = .returned (.tuple #[.nilIface, .int .i64 (n : Int)]) ∧ Below w.heap.size w w' := by
  have := decode_any h
  rw [hd] at this
  exact this.mono fun e w' ⟨hb, he⟩ => ⟨he, hb⟩
theorem Bts.take {w : World} {A : Option Addr} {n c : Nat} {xs : List UInt8} (h : Bts w (.slice A n c) xs) (m : Nat) (hm : m ≤ n) : Bts w (.slice A m c) (xs.take m) := by
  obtain ⟨A', c', e, hl, hx⟩ := h
  cases e
  rw [List.length_map] at hm hl hx
  refine ⟨A, c, by rw [List.length_map, List.length_take, Nat.min_eq_left hm], by rw [List.length_map, List.length_take]; omega, fun h0 => ?_⟩
  rw [List.length_map, List.length_take] at h0
  obtain ⟨b, o, e, hb, hy⟩ := hx (by omega)
  refine ⟨b, o, e, hb, fun k x hk => hy k x ?_⟩
  rw [List.map_take] at hk
  have := (List.getElem?_eq_some_iff.1 hk).1
  rw [List.length_take] at this
  rw [← hk, List.getElem?_take_of_lt (by omega)]

set_option maxHeartbeats 8000000 in
set_option maxRecDepth 100000 in
theorem again_law {u : Value} {xs : List UInt8} {y : Int} (w : World) (h : Bts w u xs) (hy0 : (Lit.int .u8 y).wf = true) : Calls Try.prog 7 #[u, .int .u8 y] w (Yes w) := by
  have hy : 0 ≤ y ∧ y < 256 := by have := bounds_u8 hy0; omega
  clear hy0
  obtain ⟨A, c, rfl, hc, -⟩ := h.opened
  have HV := Lib.hid h
  have HC := Lib.hid hc
  obtain ⟨L, hL⟩ : ∃ L, L = xs.length := ⟨_, rfl⟩
  rw [← hL] at HV ⊢
  have HL := Lib.hid hL
  have HY := Lib.hid hy
  clear h hc hL hy
  have aw : ∀ (w1 : World), Below w.heap.size w w1 → Calls Try.prog 11 #[] w1 fun e w' => e = .returned (.bool true) ∧ Below w.heap.size w w' := fun w1 hb => (awake_any w1).mono fun e w' ⟨he, hk⟩ => ⟨he, below_on hb hk⟩
  have AW := Lib.hid aw
  clear aw
  by_cases h3 : 3000 < L
  · go_enter Try.func7, Try.ntmps7
    go_wp2_with (fail)
    refine (AW.out _ (Below.refl _ _)).mono ?_
    rintro e w1 ⟨rfl, hb⟩
    have B1 := Lib.hid hb
    clear hb
    go_wp2
    go_ret
    exact ⟨rfl, B1.out⟩
  · have H3 := Lib.hid h3
    go_enter Try.func7, Try.ntmps7
    go_wp2_with (fail)
    refine (own8_any HV.out (by have := HL.out; omega)).mono ?_
    rintro e w1 ⟨v1, rfl, ho, hb⟩
    have O1 := Lib.hid ho
    have B1 := Lib.hid hb
    have V1 := Lib.hid (HV.out.below hb)
    clear ho hb HV
    cases hd : P.dec xs with
    | error n =>
      have hn := P.dec_err hd
      go_wp2_with (fail)
      refine (decode_no O1.out.bts hd).mono ?_
      rintro e w2 ⟨rfl, hb⟩
      have B2 := Lib.hid (below_on B1.out hb)
      have q1 : ((n : Int) == 0) = false := by rw [beq_eq_false_iff_ne]; omega
      have q2 : ((n : Int) != 0) = true := by rw [bne, q1]; rfl
      clear hb hd hn
      go_wp2_with (fail)
      refine (AW.out _ B2.out).mono ?_
      rintro e w3 ⟨rfl, hb⟩
      have B3 := Lib.hid hb
      clear hb
      go_wp2
      go_ret
      exact ⟨rfl, B3.out⟩
    | ok v =>
      have HD := Lib.hid hd
      clear hd
      go_wp2_with (fail)
      refine (decode_yes O1.out.bts HD.out).mono ?_
      rintro e w2 ⟨x, rfl, ho, hb⟩
      have B2 := Lib.hid (below_on B1.out hb)
      have X2 := Lib.hid ho
      have V2 := Lib.hid (V1.out.below hb)
      clear ho hb
      go_wp2_with (fail)
      refine (encode_yes X2.out (P.dec_ok HD.out).2.2.1 (P.dec_ok HD.out).2.2.2).mono ?_
      rintro e w3 ⟨u3, rfl, ho, hb⟩
      rw [← (P.dec_ok HD.out).2.1] at ho
      have B3 := Lib.hid (below_on B2.out hb)
      have O3 := Lib.hid ho
      have V3 := Lib.hid (V2.out.below hb)
      clear ho hb
      go_wp2_with (fail)
      refine (own8_any V3.out (by have := HL.out; have := H3.out; omega)).mono ?_
      rintro e w4 ⟨v4, rfl, ho, hb⟩
      have B4 := Lib.hid (below_on B3.out hb)
      have O4 := Lib.hid (O3.out.bts.below hb)
      have V4 := Lib.hid (V3.out.below hb)
      have ey : enc8 (UInt8.ofNat y.toNat) = .int .u8 y := by rw [byte_of _ (by have := HY.out; omega), Int.toNat_of_nonneg HY.out.1]
      obtain ⟨v5, w5, hrun, ho5, hg5⟩ := append_bts (ho.alloc (.cells #[.int .u8 y] 5)) (u := .slice (some ⟨w4.heap.size, 0, none⟩) 1 1) (new := [UInt8.ofNat y.toNat]) (by have := Bts.lit w4 [UInt8.ofNat y.toNat]; simpa [ey] using this) (by have := HL.out; have := H3.out; simp; omega) (by have := hb.size; simp; omega)
      have K5 := hg5.below (hb.alloc hb.size (.cells #[.int .u8 y] 5)) (by have := hb.size; simp; omega) (fun k e => (ho.lt e).1)
      have B5 := Lib.hid (below_on B3.out K5)
      have O5 := Lib.hid (O3.out.bts.below K5)
      have V5 := Lib.hid (V3.out.below K5)
      have D5 := Lib.hid (decode_no ho5.bts (P.dec_more HD.out _))
      clear ho hb ho5 hg5 K5 ey O4 V4 B4
      go_wp2_with (at_builtin; refine Lib.wpList_append_run _ rfl _ _ _ _ rfl _ _ rfl rfl _ _ hrun ?_)
      refine D5.out.mono ?_
      rintro e w6 ⟨rfl, hb⟩
      have B6 := Lib.hid (below_on B5.out hb)
      have O6 := Lib.hid (O5.out.below hb)
      have V6 := Lib.hid (V5.out.below hb)
      clear hb D5 hrun
      go_wp2_with (fail)
      refine (own8_any V6.out (by have := HL.out; have := H3.out; omega)).mono ?_
      rintro e w7 ⟨v7, rfl, ho, hb⟩
      have B7 := Lib.hid (below_on B6.out hb)
      have O7 := Lib.hid (O6.out.below hb)
      have V7 := Lib.hid (V6.out.below hb)
      have ne : 0 < xs.length := by
        rcases Nat.eq_zero_or_pos xs.length with h0 | h0
        · have e0 : xs = [] := List.length_eq_zero_iff.1 h0
          have := (P.dec_ok HD.out).1
          rw [e0] at this
          cases this
        · exact h0
      obtain ⟨A7, c7, rfl, hc7⟩ := ho.slice
      have T7 := Lib.hid (ho.bts.take (xs.length - 1) (by omega))
      rw [← List.dropLast_eq_take] at T7
      have D7 := Lib.hid (decode_no T7.out (P.dec_less HD.out))
      clear ho hb B6 O6 V6
      rw [← HL.out] at ne hc7 D7 ⊢
      obtain ⟨m, rfl⟩ : ∃ m, L = m + 1 := ⟨L - 1, by omega⟩
      rw [Nat.add_sub_cancel] at D7
      have hmc : m ≤ c7 := by omega
      have hc0 : ¬ c7 = 0 := by omega
      clear ne
      go_wp2_with (fail)
      refine D7.out.mono ?_
      rintro e w8 ⟨rfl, hb⟩
      have B8 := Lib.hid (below_on B7.out hb)
      have O8 := Lib.hid (O7.out.below hb)
      have VE := Lib.hid (V7.out.below hb)
      clear hb D7
      go_wp2_with (fail)
      refine (same8_any O8.out VE.out (by have := HL.out; have := H3.out; omega)).mono ?_
      rintro e w9 ⟨rfl, hb⟩
      rw [V8.sameB_refl]
      have B9 := Lib.hid (below_on B8.out hb)
      clear hb
      go_wp2_with (fail)
      refine (AW.out _ B9.out).mono ?_
      rintro e w10 ⟨rfl, hb⟩
      have B10 := Lib.hid hb
      clear hb
      go_wp2
      go_ret
      exact ⟨rfl, B10.out⟩
end Go.Proofs.Ytagngbdlpdilnaa
