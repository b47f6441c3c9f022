/- Contract of the document's Get; no conditions but the lengths that it names. -/
import Derived.Test.YtmjkcbcenpdcnaaDoorWalksH
namespace Go.Proofs.YtmjkcbcenpdcnaaDoor
open Go.RowKit

/-- What the document's Get tells: a payload is where it was. -/
def DGot (w : World) (arg : Value) (xs : List UInt8) (e : Ending) (w' : World) : Prop :=
  ∃ v, e = .returned (.tuple #[v, .int .i64 (M.gs xs : Nat), .int .i64 (M.ge xs : Nat)]) ∧ (∀ W, Bts W arg xs → Bts W v (M.gp xs)) ∧ Below w.heap.size w w'
theorem DGot.bad {w w' : World} {arg : Value} {xs : List UInt8} {k : Nat} {z : Int} (h : M.ge xs = k) (hk : k ≠ 0) (hz : z = k) (hb : Below w.heap.size w w') : DGot w arg xs (.returned (.tuple #[.slice none 0 0, .int .i64 0, .int .i64 z])) w' := by
  have hs : M.gs xs = 0 := by rw [M.gs, if_neg (by omega)]
  have hp : M.gp xs = [] := by rw [M.gp, if_neg (by omega)]
  exact ⟨.slice none 0 0, by rw [hs, h, hz]; rfl, fun W _ => by rw [hp]; exact Bts.nil _ _ _, hb⟩

namespace M
/-- The head, as the document words it. -/
theorem hd_doc {xs : List UInt8} (h : 4 ≤ xs.length) : hdB xs = true ↔ (xs.getD 0 0).toNat + (xs.getD 2 0).toNat = 255 ∧ (xs.getD 1 0).toNat + (xs.getD 3 0).toNat = 255 ∧ 1 ≤ gn xs ∧ gn xs ≤ 4096 := by
  rw [hd_iff]
  match xs, h with
  | a :: b :: c :: d :: r, _ =>
    have ha := byte_lt a
    have hb := byte_lt b
    have hc := byte_lt c
    have hd := byte_lt d
    simp only [gn, head, List.getD_cons_zero, List.getD_cons_succ, List.take_succ_cons, List.take_zero, List.cons.injEq, and_true, ← UInt8.toNat_inj, b8_nat]
    omega
theorem take_both {xs ys : List UInt8} {k : Nat} (hk : k < xs.length) (hl : k < ys.length) (h : xs.take k = ys.take k) (hx : (xs.getD k 0).toNat = (ys.getD k 0).toNat) : xs.take (k + 1) = ys.take (k + 1) := by
  rw [take_snoc xs k hk, take_snoc ys k hl, h, UInt8.toNat_inj.1 hx]
theorem getD_take {xs : List UInt8} {k n : Nat} (h : k < n) : (xs.take n).getD k 0 = xs.getD k 0 := by
  rw [List.getD, List.getD, List.getElem?_take_of_lt h]
theorem sm_iff {xs : List UInt8} (h1 : hdB xs = true) (h2 : gn xs + 8 ≤ xs.length) : smB xs = true ↔ frm ((xs.drop 4).take (gn xs)) = xs.take (gn xs + 8) := by
  have h := (hd_iff.1 h1).2
  have hl : ((xs.drop 4).take (gn xs)).length = gn xs := by simp; omega
  have e4 : xs.take (gn xs + 4) = head (gn xs) ++ (xs.drop 4).take (gn xs) := by rw [Nat.add_comm, List.take_add, h]
  have e8 : xs.take (gn xs + 8) = head (gn xs) ++ (xs.drop 4).take (gn xs) ++ (xs.drop (gn xs + 4)).take 4 := by rw [show gn xs + 8 = (gn xs + 4) + 4 by omega, List.take_add, e4]
  rw [smB, sameB_iff, frm, hl, e8, e4]
  constructor
  · intro e; rw [e]
  · intro e; exact (List.append_cancel_left e).symm
end M

set_option maxHeartbeats 4000000 in
set_option maxRecDepth 100000 in
theorem dget_any {w : World} {v : Value} {xs : List UInt8} (h : Bts w v xs) (hl : xs.length ≤ 1000000) : Calls Tryd.prog 18 #[v] w (DGot w v xs) := by
  have HV := Lib.hid h
  obtain ⟨A, c, rfl, hc, hx⟩ := h.opened
  have HX := Lib.hid hx
  clear h hx
  by_cases h4 : xs.length < 4
  · have HE := Lib.hid (M.ge_short h4)
    go_enter Tryd.func18, Tryd.ntmps18
    go_wp2
    go_ret3
    exact DGot.bad (k := 3) HE.out (by omega) rfl (Below.refl _ _)
  · obtain ⟨b, o, rfl, hb, hy⟩ := HX.out (by omega)
    have hc0 := hy 0 (by omega)
    have hc1 := hy 1 (by omega)
    have hc2 := hy 2 (by omega)
    have hc3 := hy 3 (by omega)
    have hg : (xs.getD 0 0).toNat + 256 * (xs.getD 1 0).toNat = M.gn xs := rfl
    have HD := Lib.hid (M.hd_doc (xs := xs) (by omega))
    have hb0 := M.byte_lt (xs.getD 0 0)
    have hb1 := M.byte_lt (xs.getD 1 0)
    have hb2 := M.byte_lt (xs.getD 2 0)
    have hb3 := M.byte_lt (xs.getD 3 0)
    have hn := M.gn_lt xs
    generalize (xs.getD 0 0).toNat = x0 at *
    generalize (xs.getD 1 0).toNat = x1 at *
    generalize (xs.getD 2 0).toNat = x2 at *
    generalize (xs.getD 3 0).toNat = x3 at *
    obtain ⟨n, hnn⟩ : ∃ n, n = M.gn xs := ⟨_, rfl⟩
    rw [← hnn] at hn hg HD
    have HN := Lib.hid hnn
    clear hnn
    rw [Nat.add_zero] at hc0
    clear hy HX
    have s1 : IntKind.i64.wrap (256 * (x1 : Int)) = 256 * (x1 : Int) := by rw [IntKind.wrap_i64]; omega
    have s2 : IntKind.i64.wrap ((x0 : Int) + 256 * (x1 : Int)) = (n : Int) := by rw [IntKind.wrap_i64]; omega
    have HG := Lib.hid hg
    clear hg
    go_enter Tryd.func18, Tryd.ntmps18
    go_wp2
    go_quiet (fail)
    clear s1 s2
    have HB := Lib.hid (show Below w.heap.size w (w.drewN nq) from below_drewN (Below.refl _ _) _)
    have HV0 := Lib.hid (HV.out.below HB.out)
    have hc0' := (HB.out.cell (p := ⟨b, o, none⟩) hb).trans hc0
    have hc1' := (HB.out.cell (p := ⟨b, o + 1, none⟩) hb).trans hc1
    have hc2' := (HB.out.cell (p := ⟨b, o + 2, none⟩) hb).trans hc2
    have hc3' := (HB.out.cell (p := ⟨b, o + 3, none⟩) hb).trans hc3
    clear hc0 hc1 hc2 hc3
    generalize w.drewN nq = w0 at *
    go_wp2
    by_cases ha : x0 + x2 ≠ 255
    · have HE := Lib.hid (M.ge_form h4 (by cases e : M.hdB xs with | false => rfl | true => have := HD.out.1 e; omega))
      have qa : ((x0 : Int) + (x2 : Int) != 255) = true := by rw [bne, Bool.not_eq_true', beq_eq_false_iff_ne]; omega
      have s1 : IntKind.i64.wrap ((x0 : Int) + (x2 : Int)) = (x0 : Int) + (x2 : Int) := by rw [IntKind.wrap_i64]; omega
      clear ha
      clear HD HG
      go_quiet (fail)
      have HB' := Lib.hid (below_drewN HB.out nq)
      go_wp2
      go_ret3
      exact DGot.bad (k := 4) HE.out (by omega) rfl HB'.out
    · by_cases hb' : x1 + x3 ≠ 255
      · have HE := Lib.hid (M.ge_form h4 (by cases e : M.hdB xs with | false => rfl | true => have := HD.out.1 e; omega))
        have qa : ((x0 : Int) + (x2 : Int) != 255) = false := by rw [bne, Bool.not_eq_false', beq_iff_eq]; omega
        have qb : ((x1 : Int) + (x3 : Int) != 255) = true := by rw [bne, Bool.not_eq_true', beq_eq_false_iff_ne]; omega
        have s1 : IntKind.i64.wrap ((x0 : Int) + (x2 : Int)) = (x0 : Int) + (x2 : Int) := by rw [IntKind.wrap_i64]; omega
        have s2 : IntKind.i64.wrap ((x1 : Int) + (x3 : Int)) = (x1 : Int) + (x3 : Int) := by rw [IntKind.wrap_i64]; omega
        clear ha hb'
        clear HD HG
        go_quiet (fail)
        have HB' := Lib.hid (below_drewN HB.out nq)
        go_wp2
        go_ret3
        exact DGot.bad (k := 4) HE.out (by omega) rfl HB'.out
      · by_cases hc' : n < 1
        · have HE := Lib.hid (M.ge_form h4 (by cases e : M.hdB xs with | false => rfl | true => have := HD.out.1 e; omega))
          have qa : ((x0 : Int) + (x2 : Int) != 255) = false := by rw [bne, Bool.not_eq_false', beq_iff_eq]; omega
          have qb : ((x1 : Int) + (x3 : Int) != 255) = false := by rw [bne, Bool.not_eq_false', beq_iff_eq]; omega
          have qc : decide ((n : Int) < 1) = true := by simp; omega
          have s1 : IntKind.i64.wrap ((x0 : Int) + (x2 : Int)) = (x0 : Int) + (x2 : Int) := by rw [IntKind.wrap_i64]; omega
          have s2 : IntKind.i64.wrap ((x1 : Int) + (x3 : Int)) = (x1 : Int) + (x3 : Int) := by rw [IntKind.wrap_i64]; omega
          clear ha hb'
          clear HD HG
          go_quiet (fail)
          have HB' := Lib.hid (below_drewN HB.out nq)
          go_wp2
          go_ret3
          exact DGot.bad (k := 4) HE.out (by omega) rfl HB'.out
        · by_cases hd' : 4096 < n
          · have HE := Lib.hid (M.ge_form h4 (by cases e : M.hdB xs with | false => rfl | true => have := HD.out.1 e; omega))
            have qa : ((x0 : Int) + (x2 : Int) != 255) = false := by rw [bne, Bool.not_eq_false', beq_iff_eq]; omega
            have qb : ((x1 : Int) + (x3 : Int) != 255) = false := by rw [bne, Bool.not_eq_false', beq_iff_eq]; omega
            have qc : decide ((n : Int) < 1) = false := by simp; omega
            have qd : decide (4096 < (n : Int)) = true := by simp; omega
            have s1 : IntKind.i64.wrap ((x0 : Int) + (x2 : Int)) = (x0 : Int) + (x2 : Int) := by rw [IntKind.wrap_i64]; omega
            have s2 : IntKind.i64.wrap ((x1 : Int) + (x3 : Int)) = (x1 : Int) + (x3 : Int) := by rw [IntKind.wrap_i64]; omega
            clear ha hb'
            clear HD HG
            go_quiet (fail)
            have HB' := Lib.hid (below_drewN HB.out nq)
            go_wp2
            go_ret3
            exact DGot.bad (k := 4) HE.out (by omega) rfl HB'.out
          · have HH := Lib.hid (show M.hdB xs = true from HD.out.2 (by omega))
            have qa : ((x0 : Int) + (x2 : Int) != 255) = false := by rw [bne, Bool.not_eq_false', beq_iff_eq]; omega
            have qb : ((x1 : Int) + (x3 : Int) != 255) = false := by rw [bne, Bool.not_eq_false', beq_iff_eq]; omega
            have qc : decide ((n : Int) < 1) = false := by simp; omega
            have qd : decide (4096 < (n : Int)) = false := by simp; omega
            have s1 : IntKind.i64.wrap ((x0 : Int) + (x2 : Int)) = (x0 : Int) + (x2 : Int) := by rw [IntKind.wrap_i64]; omega
            have s2 : IntKind.i64.wrap ((x1 : Int) + (x3 : Int)) = (x1 : Int) + (x3 : Int) := by rw [IntKind.wrap_i64]; omega
            have hn1 : 1 ≤ n := by omega
            have hn2 : n ≤ 4096 := by omega
            clear ha hb' hc' hd' HD HG hn
            go_quiet (fail)
            have HB' := Lib.hid (below_drewN HB.out nq)
            have HV' := Lib.hid (HV0.out.below (below_drewN (Below.refl _ _) nq))
            clear s1 s2 qa qb HB HV0 hc0' hc1' hc2' hc3'
            generalize w0.drewN nq = w1 at *
            by_cases h8 : xs.length < n + 8
            · have HE := Lib.hid (M.ge_long h4 HH.out (by rw [← HN.out]; exact h8))
              go_wp2
              go_ret3
              exact DGot.bad (k := 3) HE.out (by omega) rfl HB'.out
            · have T3 := Lib.hid ((HV'.out.drop 4 (by omega)).take n (by omega))
              have z1 : (4 + (n : Int)).toNat = n + 4 := by omega
              have z3 : 4 ≤ 4 + (n : Int) := by omega
              have z6 : 4 + (n : Int) ≤ (c : Int) := by omega
              have hcc : ¬ c = 4 := by omega
              go_wp2_with (fail)
              refine (frame_any T3.out (by simp; omega)).mono ?_
              rintro e w2 ⟨v2, rfl, ho, hbl⟩
              have hs := M.sm_iff HH.out (by rw [← HN.out]; omega)
              rw [← HN.out] at hs
              have hfl : (M.frm ((xs.drop 4).take n)).length = n + 8 := by rw [M.frm_len]; simp; omega
              have HV2 := Lib.hid (show Bts w2 v2 (M.frm ((xs.drop 4).take n)) from Row.of_owns ho)
              have HB2 := Lib.hid (below_on HB'.out hbl)
              have HX2 := Lib.hid (HV'.out.below hbl)
              clear ho hbl HB' HV' T3
              generalize M.frm ((xs.drop 4).take n) = fs at *
              have HS := Lib.hid hs
              have HFL := Lib.hid hfl
              obtain ⟨A2, c2, e2, hc2, hx2⟩ := HV2.out.opened
              rw [hfl] at e2 hc2 hx2
              have HX3 := Lib.hid hx2
              obtain ⟨A3, c3, e3, hc3, hx3⟩ := HX2.out.opened
              cases e3
              have HX4 := Lib.hid hx3
              clear hs hfl hx2 hx3 z1 z3 z6
              subst e2
              go_wp2
              go_loopw [7] (fun i wr => ∃ k m : Nat, k ≤ n + 8 ∧ i = .int .i64 k ∧ wr = w2.drewN m ∧ fs.take k = xs.take k) (fun i _ => n + 8 - (intOf i).toNat)
              case atStart => exact ⟨0, 0, Nat.zero_le _, rfl, rfl, rfl⟩
              case round =>
                obtain ⟨k, m, hk, rfl, rfl, htk⟩ := hrel
                have HTK := Lib.hid htk
                clear htk
                by_cases hlt : k < n + 8
                · obtain ⟨b', o', rfl, hb', hy'⟩ := HX3.out (by omega)
                  obtain ⟨b'', o'', eb, hb'', hy''⟩ := HX4.out (by omega)
                  cases eb
                  have hcell := hy' k hlt
                  have hcell' := hy'' k (by omega)
                  obtain ⟨y, hyk⟩ : ∃ y, y = (fs.getD k 0).toNat := ⟨_, rfl⟩
                  obtain ⟨z, hzk⟩ : ∃ z, z = (xs.getD k 0).toNat := ⟨_, rfl⟩
                  rw [← hyk] at hcell
                  rw [← hzk] at hcell'
                  have HY := Lib.hid hyk
                  have HZ := Lib.hid hzk
                  clear hy' hyk hy'' hzk
                  have hi1 : (k : Int) < (n : Int) + 8 := by omega
                  have hi2 : (k : Int) < (xs.length : Int) := by omega
                  have hi3 : k < n + 8 := hlt
                  by_cases e : y = z
                  · subst e
                    go_wp2
                    go_quiet (fail)
                    go_wp2
                    go_roundw
                    case rel => exact ⟨k + 1, _, by omega, by go_num, rfl, M.take_both (by have := HFL.out; omega) (by omega) HTK.out (by rw [← HY.out, ← HZ.out])⟩
                    case measure => simp [intOf]; omega
                  · have q1 : ((y : Int) == (z : Int)) = false := by rw [beq_eq_false_iff_ne]; omega
                    have q2 : ((y : Int) != (z : Int)) = true := by rw [bne, q1]; rfl
                    have q3 : (y == z) = false := by rw [beq_eq_false_iff_ne]; exact e
                    have q4 : (y != z) = true := by rw [bne, q3]; rfl
                    have HE := Lib.hid (M.ge_sum h4 HH.out (by rw [← HN.out]; exact h8) (by
                      cases es : M.smB xs with
                      | false => rfl
                      | true => exact absurd (by rw [HY.out, HZ.out, HS.out.1 es, M.getD_take hlt]) e))
                    clear e
                    go_wp2
                    go_quiet (fail)
                    have HB3 := Lib.hid (below_drewN (below_drewN HB2.out m) nq)
                    go_wp2
                    go_ret3
                    exact DGot.bad (k := 6) HE.out (by omega) rfl HB3.out
                · obtain rfl : k = n + 8 := by omega
                  have HE := Lib.hid (M.ge_ok h4 HH.out (by rw [← HN.out]; exact h8) (HS.out.2 (by have := HTK.out; rw [List.take_of_length_le (by have := HFL.out; omega)] at this; exact this)))
                  have HP := Lib.hid (show M.gp xs = (xs.drop 4).take n by rw [M.gp, if_pos HE.out, ← HN.out])
                  have HG := Lib.hid (show M.gs xs = n + 8 by rw [M.gs, if_pos HE.out, ← HN.out])
                  have HB3 := Lib.hid (below_drewN HB2.out m)
                  have z1 : (4 + (n : Int)).toNat = n + 4 := by omega
                  have z3 : 4 ≤ 4 + (n : Int) := by omega
                  have z6 : 4 + (n : Int) ≤ (c : Int) := by omega
                  go_wp2
                  go_ret3
                  exact ⟨_, by rw [HG.out, HE.out]; rfl, fun W hW => by rw [HP.out]; exact (hW.drop 4 (by omega)).take n (by omega), HB3.out⟩
end Go.Proofs.YtmjkcbcenpdcnaaDoor
