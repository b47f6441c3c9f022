/- Contracts of the document's Sum, of same, own and Size; no conditions but the lengths that they name. -/
import Derived.Test.YtmjkcbcenpdcnaaDoorWalks
namespace Go.Proofs.YtmjkcbcenpdcnaaDoor
open Go.RowKit

theorem xorP (a : Nat) (ha : a < 4294967296) : bits .xor .u32 ((a : Int) / 2) 3988292384 = ((a / 2 ^^^ 3988292384 : Nat) : Int) := by
  have h := xor32 (a / 2) 3988292384 (by omega) (by omega)
  rw [Int.natCast_ediv] at h
  exact h
theorem dloop_step {j n c T : Nat} (hj : j < 8) (h : M.dloop (8 - j) n c = T) : M.dloop (8 - (j + 1)) (M.dstep n c) (c / 2) = T := by
  rw [show 8 - j = (8 - (j + 1)) + 1 by omega, M.dloop] at h
  exact h
theorem dstep_one {n c : Nat} (h : (n % 2 + c % 2) % 2 = 1) : M.dstep n c = n / 2 ^^^ 3988292384 := by simp [M.dstep, h]
theorem dstep_zero {n c : Nat} (h : (n % 2 + c % 2) % 2 = 0) : M.dstep n c = n / 2 := by simp [M.dstep, h]

set_option maxHeartbeats 1000000 in
set_option maxRecDepth 100000 in
theorem dsum_any {w : World} {v : Value} {xs : List UInt8} (h : Bts w v xs) (hl : xs.length ≤ 1000000) : Calls Tryd.prog 12 #[v] w fun e w' => e = .returned (.int .u32 (M.crc xs : Nat)) ∧ w = w' := by
  obtain ⟨A, c, rfl, hc, hx⟩ := h.opened
  have HX := Lib.hid hx
  clear hx h
  go_enter Tryd.func12, Tryd.ntmps12
  go_wp2
  go_loop [3, 4] (fun s i => ∃ k : Nat, k ≤ xs.length ∧ i = .int .i64 k ∧ s = .int .u32 (M.crcFrom 4294967295 (xs.take k) : Nat)) (fun _ i => xs.length - (intOf i).toNat)
  case atStart => exact ⟨0, Nat.zero_le _, rfl, rfl⟩
  case round =>
    obtain ⟨k, hk, rfl, rfl⟩ := hrel
    have hn := M.crcFrom_lt (xs.take k) 4294967295 (by omega)
    by_cases hlt : k < xs.length
    · obtain ⟨b, o, rfl, hb, hy⟩ := HX.out (by omega)
      have hcell := hy k hlt
      have HS := Lib.hid (show M.crcFrom 4294967295 (xs.take (k + 1)) = M.bt (M.crcFrom 4294967295 (xs.take k)) (xs.getD k 0).toNat by rw [take_snoc xs k hlt, M.crcFrom_append]; rfl)
      have hxb := M.byte_lt (xs.getD k 0)
      obtain ⟨x, hxx⟩ : ∃ x, x = (xs.getD k 0).toNat := ⟨_, rfl⟩
      rw [← hxx] at hcell HS hxb
      clear hy hxx
      generalize M.crcFrom 4294967295 (xs.take k) = n at *
      have HD := Lib.hid (M.dloop_byte n x hxb)
      go_wp2
      go_loop [3, 5, 6] (fun s d i => ∃ j n' c' : Nat, j ≤ 8 ∧ i = .int .i64 j ∧ n' < 4294967296 ∧ c' < 256 ∧ s = .int .u32 n' ∧ d = .int .u8 c' ∧ Hid (M.dloop (8 - j) n' c' = M.bt n x)) (fun _ _ i => 8 - (intOf i).toNat)
      case atStart => exact ⟨0, n, x, by omega, rfl, hn, hxb, rfl, rfl, HD⟩
      case round =>
        obtain ⟨j, n', c', hj, rfl, hn', hc', rfl, rfl, HL⟩ := hrel
        clear hcell HD HX
        by_cases hj8 : j < 8
        · have HE := Lib.hid (dloop_step hj8 HL.out)
          have hds := M.dstep_lt c' hn'
          have e1 := xorP n' hn'
          rcases M.two_or (n' % 2 + c' % 2) with h1 | h1
          · have HV := Lib.hid (dstep_zero h1)
            have q : decide (((n' : Int) % 2 + (c' : Int) % 2) % 2 = 1) = false := by simp; omega
            have q' : ((((n' : Int) % 2 + (c' : Int) % 2) % 2) == 1) = false := by rw [beq_eq_false_iff_ne]; omega
            go_wp2
            go_round
            case rel => exact ⟨j + 1, M.dstep n' c', c' / 2, by omega, by go_num, hds, by omega, by rw [HV.out]; rfl, rfl, HE⟩
            case measure => simp [intOf]; omega
          · have HV := Lib.hid (dstep_one h1)
            have q : decide (((n' : Int) % 2 + (c' : Int) % 2) % 2 = 1) = true := by simp; omega
            have q' : ((((n' : Int) % 2 + (c' : Int) % 2) % 2) == 1) = true := by rw [beq_iff_eq]; omega
            go_wp2
            go_round
            case rel => exact ⟨j + 1, M.dstep n' c', c' / 2, by omega, by go_num, hds, by omega, by rw [HV.out], rfl, HE⟩
            case measure => simp [intOf]; omega
        · obtain rfl : j = 8 := by omega
          have HV := Lib.hid (show n' = M.bt n x from HL.out)
          go_wp2
          go_round
          case rel => exact ⟨k + 1, by omega, by go_num, by rw [HS.out, ← HV.out]⟩
          case measure => simp [intOf]; omega
    · go_wp2
      go_ret
      refine ⟨ret_int ?_, rfl⟩
      rw [List.take_of_length_le (by omega)] at hn ⊢
      unfold M.crc
      omega
end Go.Proofs.YtmjkcbcenpdcnaaDoor
