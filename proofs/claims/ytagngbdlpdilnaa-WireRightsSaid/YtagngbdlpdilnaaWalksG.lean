/- Contracts of same and of the document's Before; no conditions but the lengths that they name. -/
import Derived.Test.YtagngbdlpdilnaaWalksF
namespace Go.Proofs.Ytagngbdlpdilnaa
open Go.RowKit

theorem byte_at (a : List UInt8) (s : ByteArray) (hs : s = ⟨a.toArray⟩) (k : Nat) (h : k < s.size) (h' : k < a.length) : (s[k]'h).toNat = (a[k]'h').toNat := by
  subst hs; rfl

set_option maxHeartbeats 1000000 in
theorem before_any (a b : List UInt8) (w : World) (ha : a.length ≤ 1000000) (hb : b.length ≤ 1000000) : Calls Try.prog 78 #[.string ⟨a.toArray⟩, .string ⟨b.toArray⟩] w fun e w' => e = .returned (.bool (M.ltB a b)) ∧ ∃ n, w' = w.drewN n := by
  obtain ⟨s, hs⟩ : ∃ s : ByteArray, s = ⟨a.toArray⟩ := ⟨_, rfl⟩
  obtain ⟨t, ht⟩ : ∃ t : ByteArray, t = ⟨b.toArray⟩ := ⟨_, rfl⟩
  rw [← hs, ← ht]
  have HS := Lib.hid hs
  have HT := Lib.hid ht
  have hsz : s.size = a.length := by rw [hs, size_mk]
  have htz : t.size = b.length := by rw [ht, size_mk]
  have ZS := Lib.hid hsz
  have ZT := Lib.hid htz
  have ha' : s.size ≤ 1000000 := by omega
  have hb' : t.size ≤ 1000000 := by omega
  clear hs ht hsz htz
  go_enter Try.func78, Try.ntmps78
  go_wp2
  go_loopw [5] (fun i wr => ∃ k n : Nat, k ≤ t.size ∧ k ≤ s.size ∧ i = .int .i64 k ∧ wr = w.drewN n ∧ a.take k = b.take k) (fun i _ => t.size - (intOf i).toNat)
  case atStart => exact ⟨0, 0, Nat.zero_le _, Nat.zero_le _, rfl, rfl, rfl⟩
  case round =>
    obtain ⟨k, n, hk, hk2, rfl, rfl, htk⟩ := hrel
    have HK := Lib.hid htk
    clear htk
    by_cases hlt : k < t.size
    · by_cases hks : k = s.size
      · have q1 : ((k : Int) == (s.size : Int)) = true := by rw [beq_iff_eq]; omega
        go_wp2
        go_ret
        exact ⟨ret_bool (M.lt_short HK.out (by have := ZS.out; omega) (by have := ZT.out; omega)), _, rfl⟩
      · have q1 : ((k : Int) == (s.size : Int)) = false := by rw [beq_eq_false_iff_ne]; omega
        have q2 : (k == s.size) = false := by rw [beq_eq_false_iff_ne]; exact hks
        have hls : k < s.size := by omega
        have ka : k < a.length := by have := ZS.out; omega
        have kb : k < b.length := by have := ZT.out; omega
        have e1 := byte_at a s HS.out k hls ka
        have e2 := byte_at b t HT.out k hlt kb
        obtain ⟨x, hx⟩ : ∃ x, x = (a[k]'ka).toNat := ⟨_, rfl⟩
        obtain ⟨y, hy⟩ : ∃ y, y = (b[k]'kb).toNat := ⟨_, rfl⟩
        rw [← hx] at e1
        rw [← hy] at e2
        have X := Lib.hid hx
        have Y := Lib.hid hy
        have x256 : x < 256 := by rw [hx]; exact (a[k]'ka).toNat_lt
        have y256 : y < 256 := by rw [hy]; exact (b[k]'kb).toNat_lt
        clear hx hy
        have i1 : (k : Int) < (s.size : Int) := by omega
        have i2 : (k : Int) < (t.size : Int) := by omega
        by_cases hxy : x = y
        · have heq : (a[k]'ka) = (b[k]'kb) := UInt8.toNat_inj.1 (by rw [← X.out, ← Y.out, hxy])
          have HE := Lib.hid heq
          clear heq
          go_wp2
          go_quiet (fail)
          go_wp2
          go_roundw
          case rel => exact ⟨k + 1, _, by omega, by omega, by go_num, rfl, M.take_byte HK.out ka kb HE.out⟩
          case measure => simp [intOf]; omega
        · have q3 : ((x : Int) == (y : Int)) = false := by rw [beq_eq_false_iff_ne]; omega
          have q4 : ((x : Int) != (y : Int)) = true := by rw [bne, q3]; rfl
          have q5 : (x == y) = false := by rw [beq_eq_false_iff_ne]; exact hxy
          have q6 : (x != y) = true := by rw [bne, q5]; rfl
          have hne : (a[k]'ka) ≠ (b[k]'kb) := fun h => hxy (by rw [X.out, Y.out, h])
          go_wp2
          go_quiet (fail)
          go_wp2
          go_quiet (fail)
          go_wp2
          go_ret
          refine ⟨ret_bool ?_, _, by rw [World.drewN_drewN, World.drewN_drewN]⟩
          rw [← M.lt_byte HK.out ka kb hne]
          exact decide_eq_decide.2 (by rw [UInt8.lt_iff_toNat_lt, ← X.out, ← Y.out])
    · go_wp2
      go_ret
      exact ⟨ret_bool (M.lt_long HK.out (by have := ZS.out; omega) (by have := ZT.out; omega)), _, rfl⟩
end Go.Proofs.Ytagngbdlpdilnaa
