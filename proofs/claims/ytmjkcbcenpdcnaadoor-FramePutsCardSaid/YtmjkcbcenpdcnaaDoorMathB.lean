/- Plain facts on frames: what is read at the beginning of some bytes; no conditions but those that each theorem names. -/
import Derived.Test.YtmjkcbcenpdcnaaDoorWalksD
namespace Go.Proofs.YtmjkcbcenpdcnaaDoor
namespace M

/-- The length that some bytes tell. -/
def gn (xs : List UInt8) : Nat := (xs.getD 0 0).toNat + 256 * (xs.getD 1 0).toNat
/-- Do they begin as a frame does? -/
def hdB (xs : List UInt8) : Bool := decide (1 ≤ gn xs ∧ gn xs ≤ 4096) && sameB (xs.take 4) (head (gn xs))
/-- Is the checksum right? -/
def smB (xs : List UInt8) : Bool := sameB ((xs.drop (gn xs + 4)).take 4) (tail (crc (xs.take (gn xs + 4))))
/-- Why there is no frame; 0: there is one. -/
def ge (xs : List UInt8) : Nat := if xs.length < 4 then 3 else if hdB xs = false then 4 else if xs.length < gn xs + 8 then 3 else if smB xs = false then 6 else 0
def gp (xs : List UInt8) : List UInt8 := if ge xs = 0 then (xs.drop 4).take (gn xs) else []
def gs (xs : List UInt8) : Nat := if ge xs = 0 then gn xs + 8 else 0

theorem gn_lt (xs : List UInt8) : gn xs ≤ 65535 := by
  have h0 := byte_lt (xs.getD 0 0)
  have h1 := byte_lt (xs.getD 1 0)
  unfold gn; omega
theorem ge_short {xs : List UInt8} (h : xs.length < 4) : ge xs = 3 := by simp [ge, h]
theorem ge_form {xs : List UInt8} (h : ¬ xs.length < 4) (h1 : hdB xs = false) : ge xs = 4 := by simp [ge, h, h1]
theorem ge_long {xs : List UInt8} (h : ¬ xs.length < 4) (h1 : hdB xs = true) (h2 : xs.length < gn xs + 8) : ge xs = 3 := by simp [ge, h, h1, h2]
theorem ge_sum {xs : List UInt8} (h : ¬ xs.length < 4) (h1 : hdB xs = true) (h2 : ¬ xs.length < gn xs + 8) (h3 : smB xs = false) : ge xs = 6 := by simp [ge, h, h1, h2, h3]
theorem ge_ok {xs : List UInt8} (h : ¬ xs.length < 4) (h1 : hdB xs = true) (h2 : ¬ xs.length < gn xs + 8) (h3 : smB xs = true) : ge xs = 0 := by simp [ge, h, h1, h2, h3]
theorem ge_ok_iff {xs : List UInt8} : ge xs = 0 ↔ ¬ xs.length < 4 ∧ hdB xs = true ∧ ¬ xs.length < gn xs + 8 ∧ smB xs = true := by
  constructor
  · intro h
    by_cases a : xs.length < 4
    · rw [ge_short a] at h; omega
    · cases b : hdB xs with
      | false => rw [ge_form a b] at h; omega
      | true =>
        by_cases c : xs.length < gn xs + 8
        · rw [ge_long a b c] at h; omega
        · cases d : smB xs with
          | false => rw [ge_sum a b c d] at h; omega
          | true => exact ⟨a, rfl, c, rfl⟩
  · rintro ⟨a, b, c, d⟩; exact ge_ok a b c d
theorem hd_iff {xs : List UInt8} : hdB xs = true ↔ (1 ≤ gn xs ∧ gn xs ≤ 4096) ∧ xs.take 4 = head (gn xs) := by
  simp [hdB, sameB]
end M
theorem or_shift (a b : Nat) (ha : a < 256) (hb : b < 256) : bits .or .i64 (a : Int) ((b : Int) * 256) = ((a + 256 * b : Nat) : Int) := by
  have e : bits .or .i64 (a : Int) ((b : Int) * 256) = IntKind.i64.wrap ((BitVec.ofInt 64 (a : Int) ||| BitVec.ofInt 64 ((b * 256 : Nat) : Int)).toNat : Int) := by rw [Int.natCast_mul]; rfl
  rw [e, BitVec.toNat_or, BitVec.ofInt_natCast, BitVec.ofInt_natCast, BitVec.toNat_ofNat, BitVec.toNat_ofNat, Nat.mod_eq_of_lt (by omega), Nat.mod_eq_of_lt (by omega)]
  rw [show a ||| b * 256 = a + 256 * b by
    have := Nat.two_pow_add_eq_or_of_lt (i := 8) (b := a) ha b
    rw [show (2 : Nat) ^ 8 = 256 from rfl] at this
    rw [Nat.or_comm, Nat.mul_comm]
    omega]
  rw [IntKind.wrap_i64]
  omega
end Go.Proofs.YtmjkcbcenpdcnaaDoor
