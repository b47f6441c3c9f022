/- Contracts of number, of count; no conditions but those that they name. -/
import Derived.Test.YtagngbdlpdilnaaRda
import Derived.Deep.LoopGhost
namespace Go.Proofs.Ytagngbdlpdilnaa
open Go.ChangeShapes Go.WideShapes Go.ChangeAt Go.RowKit

theorem pow128 (k : Nat) : 128 ^ k = 2 ^ (7 * k) := by rw [Nat.pow_mul]
theorem pow_le5 {k : Nat} (hk : k ≤ 5) : 128 ^ k ≤ 34359738368 := by
  have := Nat.pow_le_pow_right (n := 128) (by omega) hk
  simpa using this
theorem wrap_nat (m : Nat) (h : m < 9223372036854775808) : IntKind.i64.wrap (m : Int) = (m : Int) := by
  simp [IntKind.wrap, IntKind.bits, IntKind.signed]
  split <;> omega
theorem and127 (a : Nat) (ha : a < 256) : bits .and .u8 (a : Int) 127 = ((a % 128 : Nat) : Int) := by
  have e : bits .and .u8 (a : Int) 127 = IntKind.u8.wrap ((BitVec.ofInt 8 (a : Int) &&& BitVec.ofInt 8 ((127 : Nat) : Int)).toNat : Int) := rfl
  rw [e, wrap8, BitVec.toNat_and, BitVec.ofInt_natCast, BitVec.ofInt_natCast, BitVec.toNat_ofNat, BitVec.toNat_ofNat, Nat.mod_eq_of_lt (by omega : a < 2 ^ 8)]
  rw [show 127 % 2 ^ 8 = 2 ^ 7 - 1 by rfl, Nat.and_two_pow_sub_one_eq_mod]
  omega
theorem or_high {k n y : Nat} (hk : k ≤ 5) (hn : n < 128 ^ k) (hy : y < 128) : bits .or .i64 (n : Int) ((y * 128 ^ k : Nat) : Int) = ((n + y * 128 ^ k : Nat) : Int) := by
  have e : bits .or .i64 (n : Int) ((y * 128 ^ k : Nat) : Int) = IntKind.i64.wrap ((BitVec.ofInt 64 (n : Int) ||| BitVec.ofInt 64 ((y * 128 ^ k : Nat) : Int)).toNat : Int) := rfl
  have h1 := pow_le5 hk
  have h2 : y * 128 ^ k ≤ 127 * 34359738368 := Nat.mul_le_mul (by omega) h1
  rw [e, BitVec.toNat_or, BitVec.ofInt_natCast, BitVec.ofInt_natCast, BitVec.toNat_ofNat, BitVec.toNat_ofNat, Nat.mod_eq_of_lt (by omega : n < 2 ^ 64), Nat.mod_eq_of_lt (by omega : y * 128 ^ k < 2 ^ 64)]
  rw [Nat.or_comm, Nat.mul_comm y, pow128, ← Nat.two_pow_add_eq_or_of_lt (by rw [← pow128]; exact hn)]
  rw [← pow128, Nat.mul_comm _ y]
  rw [wrap_nat _ (by omega), Nat.add_comm]
theorem or_all {k n x : Nat} (hk : k ≤ 5) (hn : n < 128 ^ k) (hx : x < 256) : bits .or .i64 (n : Int) (wrap64 (wrap64 (bits .and .u8 (x : Int) 127) * 2 ^ (7 * k))) = ((n + x % 128 * 128 ^ k : Nat) : Int) := by
  have h1 := pow_le5 hk
  have hy : x % 128 < 128 := by omega
  have h2 : x % 128 * 128 ^ k ≤ 127 * 34359738368 := Nat.mul_le_mul (by omega) h1
  rw [and127 x hx, show wrap64 ((x % 128 : Nat) : Int) = ((x % 128 : Nat) : Int) by unfold wrap64; omega]
  rw [show ((x % 128 : Nat) : Int) * 2 ^ (7 * k) = ((x % 128 * 128 ^ k : Nat) : Int) by rw [pow128]; simp]
  rw [show wrap64 ((x % 128 * 128 ^ k : Nat) : Int) = ((x % 128 * 128 ^ k : Nat) : Int) by unfold wrap64; omega]
  exact or_high hk hn hy

theorem P.numL_succ (f k n : Nat) : P.numL (f + 1) k n = P.bind P.one fun x => if x < 128 then (if x = 0 ∧ 0 < k then P.err 4 else if 1099511627776 < n + x * 128 ^ k then P.err 2 else P.ret (n + x * 128 ^ k)) else P.numL f (k + 1) (n + (x - 128) * 128 ^ k) := rfl

set_option maxHeartbeats 4000000 in
set_option maxRecDepth 100000 in
theorem number_any {w : World} {g : Nat} {s : P.Sr} (h : Rdr w g s) : Calls Try.prog 96 #[.pointer (some ⟨g, 0, none⟩)] w (Rn P.num encN (· ≤ 1099511627776) g s w) := by
  have hR := Lib.hid h
  clear h
  go_enter Try.func96, Try.ntmps96
  go_wp2
  go_loopw [3, 6] (fun a i wr => ∃ (k n : Nat) (s1 : P.Sr), k ≤ 6 ∧ i = .int .i64 k ∧ a = .int .i64 n ∧ n < 128 ^ k ∧ Rdr wr g s1 ∧ Bel g w.heap.size w wr ∧ ∀ s2 v, P.Ran (P.numL (6 - k) k n) s1 s2 v → P.Ran P.num s s2 v) (fun _ i _ => 6 - (intOf i).toNat)
  case atStart => exact ⟨0, 0, s, Nat.zero_le _, rfl, rfl, by omega, hR.out, Bel.refl _ _ _, fun _ _ h => h⟩
  case round =>
    obtain ⟨k, n, s1, hk, rfl, rfl, hn, hr, hb, hp⟩ := hrel
    by_cases h6 : k < 6
    · obtain ⟨f, hf⟩ : ∃ f, 6 - k = f + 1 := ⟨5 - k, by omega⟩
      rw [hf, P.numL_succ] at hp
      have HR := Lib.hid hr
      have HB := Lib.hid hb
      have HP := Lib.hid hp
      have HN := Lib.hid hn
      have HF := Lib.hid hf
      clear hr hb hp hn hf
      go_wp2_with (fail)
      refine (one_any HR.out).mono ?_
      rintro e w1 ⟨s2, x, rfl, hx, hr1, hb1, hp1⟩
      have E := or_all (by omega : k ≤ 5) HN.out hx
      obtain ⟨q, hq⟩ : ∃ q, q = n + x % 128 * 128 ^ k := ⟨_, rfl⟩
      rw [← hq] at E
      have HR1 := Lib.hid hr1
      have HB1 := Lib.hid (HB.out.trans hb1 (by have := HB.out.size; omega))
      have HP1 := Lib.hid hp1
      have HQ := Lib.hid hq
      have HX := Lib.hid hx
      clear hr1 hb1 hp1 hq HR HB hx
      by_cases h1 : x < 128
      · have hm : x % 128 = x := by omega
        by_cases h2 : x = 0 ∧ 0 < k
        · obtain ⟨rfl, h3⟩ := h2
          rw [show ((0 : Nat) : Int) = 0 from rfl] at E
          go_wp2_with (fail)
          refine (fail_any 4 rfl HR1.out).mono ?_
          rintro e w2 ⟨rfl, hr2, hb2⟩
          have HR2 := Lib.hid hr2
          have HB2 := Lib.hid (HB1.out.trans hb2 (by have := HB1.out.size; omega))
          clear hr2 hb2 HR1 HB1
          go_wp2_with (fail)
          refine (upTo_any q 1099511627776 rfl (by omega) HR2.out).mono ?_
          rintro e w3 ⟨s4, v, rfl, hv, hr3, hb3, hp3⟩
          have HR3 := Lib.hid hr3
          have HB3 := Lib.hid (HB2.out.trans hb3 (by have := HB2.out.size; omega))
          have HP3 := Lib.hid hp3
          have HV := Lib.hid hv
          clear hr3 hb3 hp3 hv HR2 HB2
          go_wp2
          go_ret
          refine ⟨s4, v, rfl, HV.out, HR3.out, HB3.out, HP.out s4 v (P.Ran.bind P.errs_one HP1.out ?_)⟩
          rw [if_pos (by omega), if_pos ⟨rfl, h3⟩]
          exact (P.Ran.err s2 0).on (P.fail_er (by omega)) HP3.out v
        · have key : ∀ (w2 : World), w2 = w1 → Calls Try.prog 113 #[.pointer (some ⟨g, 0, none⟩), .int .i64 q, .int .i64 1099511627776] w2 (Rn (if 1099511627776 < q then P.err 2 else P.ret q) encN (· ≤ 1099511627776) g s2 w2) := fun w2 e => by
            subst e
            exact upTo_any q 1099511627776 (x := (q : Int)) (y := 1099511627776) rfl (by omega) HR1.out
          have KEY := Lib.hid (key w1 rfl)
          clear key
          have fin : ∀ s4 v, P.Ran (if 1099511627776 < q then P.err 2 else P.ret q) s2 s4 v → P.Ran P.num s s4 v := fun s4 v hp3 => by
            refine HP.out s4 v (P.Ran.bind P.errs_one HP1.out ?_)
            rw [if_pos h1, if_neg h2, ← hm, ← HQ.out]
            exact hp3
          have FIN := Lib.hid fin
          clear fin
          by_cases hx0 : x = 0
          · obtain rfl : k = 0 := by omega
            subst hx0
            obtain rfl : n = 0 := by have := HN.out; omega
            obtain rfl : q = 0 := by have := HQ.out; omega
            have a0 : bits .and .u8 0 127 = 0 := by kernel_rfl
            have o0 : bits .or .i64 0 0 = 0 := by kernel_rfl
            clear h1 h2 hm E
            go_wp2_with (fail)
            refine KEY.out.mono ?_
            rintro e w3 ⟨s4, v, rfl, hv, hr3, hb3, hp3⟩
            have HR3 := Lib.hid hr3
            have HB3 := Lib.hid (HB1.out.trans hb3 (by have := HB1.out.size; omega))
            have HP3 := Lib.hid hp3
            have HV := Lib.hid hv
            clear hr3 hb3 hp3 hv
            go_wp2
            go_ret
            exact ⟨s4, v, rfl, HV.out, HR3.out, HB3.out, FIN.out s4 v HP3.out⟩
          · have hx1 : ((x : Int) == 0) = false := by rw [beq_eq_false_iff_ne]; omega
            clear h2 hm
            go_wp2_with (fail)
            refine KEY.out.mono ?_
            rintro e w3 ⟨s4, v, rfl, hv, hr3, hb3, hp3⟩
            have HR3 := Lib.hid hr3
            have HB3 := Lib.hid (HB1.out.trans hb3 (by have := HB1.out.size; omega))
            have HP3 := Lib.hid hp3
            have HV := Lib.hid hv
            clear hr3 hb3 hp3 hv
            go_wp2
            go_ret
            exact ⟨s4, v, rfl, HV.out, HR3.out, HB3.out, FIN.out s4 v HP3.out⟩
      · have hm : x % 128 = x - 128 := by have := HX.out; omega
        have HM := Lib.hid hm
        have H1 := Lib.hid h1
        clear hm
        go_wp2
        go_roundw
        case rel =>
          refine ⟨k + 1, q, s2, by omega, by go_num, rfl, ?_, HR1.out, HB1.out, fun s4 v hp => ?_⟩
          · have := HN.out
            have h3 : x % 128 * 128 ^ k ≤ 127 * 128 ^ k := Nat.mul_le_mul_right _ (by omega)
            rw [HQ.out, Nat.pow_succ]
            omega
          · refine HP.out s4 v (P.Ran.bind P.errs_one HP1.out ?_)
            rw [if_neg H1.out, ← HM.out, ← HQ.out]
            rw [show 6 - (k + 1) = f by have := HF.out; omega] at hp
            exact hp
        case measure => simp [intOf]; omega
    · obtain rfl : k = 6 := by omega
      have HR := Lib.hid hr
      have HB := Lib.hid hb
      have HP := Lib.hid hp
      clear hr hb hp hn
      go_wp2_with (fail)
      refine (fail_any 2 rfl HR.out).mono ?_
      rintro e w2 ⟨rfl, hr2, hb2⟩
      have HR2 := Lib.hid hr2
      have HB2 := Lib.hid (HB.out.trans hb2 (by have := HB.out.size; omega))
      clear hr2 hb2
      go_wp2
      go_ret
      exact ⟨_, 0, rfl, by omega, HR2.out, HB2.out, HP.out _ 0 (P.Ran.err _ _)⟩

set_option maxHeartbeats 4000000 in
theorem count_any {w : World} {g : Nat} {s : P.Sr} (h : Rdr w g s) : Calls Try.prog 114 #[.pointer (some ⟨g, 0, none⟩), .int .i64 8] w (Rn P.few encN (· ≤ 8) g s w) := by
  have hR := Lib.hid h
  clear h
  go_enter Try.func114, Try.ntmps114
  go_wp2_with (fail)
  refine (number_any hR.out).mono ?_
  rintro e w1 ⟨s1, n, rfl, hn, hr, hb, hp⟩
  have HR := Lib.hid hr
  have HB := Lib.hid hb
  have HP := Lib.hid hp
  clear hr hb hp hn
  go_wp2_with (fail)
  refine (upTo_any n 8 rfl rfl HR.out).mono ?_
  rintro e w2 ⟨s2, v, rfl, hv, hr, hb, hp⟩
  have HR2 := Lib.hid hr
  have HB2 := Lib.hid (HB.out.trans hb (by have := HB.out.size; omega))
  have HP2 := Lib.hid hp
  have HV := Lib.hid hv
  clear hr hb hp hv
  go_wp2
  go_ret
  exact ⟨s2, v, rfl, HV.out, HR2.out, HB2.out, P.Ran.bind P.errs_num HP.out HP2.out⟩
end Go.Proofs.Ytagngbdlpdilnaa
