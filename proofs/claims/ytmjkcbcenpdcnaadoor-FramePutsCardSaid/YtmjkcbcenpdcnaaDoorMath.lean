/- Plain facts on the checksum: by halves of a byte, by bits, and that one byte turned turns it; no conditions but those that each theorem names. -/
import Derived.Lib.Hide
namespace Go.Proofs.YtmjkcbcenpdcnaaDoor
namespace M

/-- The number that is exclusive-ored in. -/
def PP : Nat := 3988292384
/-- One shift. -/
def S (n : Nat) : Nat := n / 2 ^^^ (n % 2) * 3988292384
def S4 (n : Nat) : Nat := S (S (S (S n)))
/-- A byte's part. -/
def bt (n c : Nat) : Nat := S4 (S4 (n ^^^ c))

theorem half_xor (a b : Nat) : (a ^^^ b) / 2 = a / 2 ^^^ b / 2 := by
  apply Nat.eq_of_testBit_eq; intro i
  simp [Nat.testBit_div_two, Nat.testBit_xor]
theorem par_xor (a b : Nat) : (a ^^^ b) % 2 = (a % 2 + b % 2) % 2 := by
  have h : ((a ^^^ b) % 2 = 1) ↔ ¬ (a % 2 = 1 ↔ b % 2 = 1) := by
    have := Nat.testBit_xor a b 0
    simp only [Nat.testBit_zero] at this
    by_cases h1 : a % 2 = 1 <;> by_cases h2 : b % 2 = 1 <;> simp_all
  omega
theorem two_or (n : Nat) : n % 2 = 0 ∨ n % 2 = 1 := by omega
theorem S_even {n : Nat} (h : n % 2 = 0) : S n = n / 2 := by simp [S, h]
theorem S_odd {n : Nat} (h : n % 2 = 1) : S n = n / 2 ^^^ 3988292384 := by simp [S, h]
theorem S_xor (a b : Nat) : S (a ^^^ b) = S a ^^^ S b := by
  rcases two_or a with ha | ha <;> rcases two_or b with hb | hb
  · rw [S_even (by rw [par_xor]; omega), S_even ha, S_even hb, half_xor]
  · rw [S_odd (by rw [par_xor]; omega), S_even ha, S_odd hb, half_xor, Nat.xor_assoc]
  · rw [S_odd (by rw [par_xor]; omega), S_odd ha, S_even hb, half_xor]
    rw [Nat.xor_assoc, Nat.xor_assoc, Nat.xor_comm (b / 2)]
  · rw [S_even (by rw [par_xor]; omega), S_odd ha, S_odd hb, half_xor]
    rw [Nat.xor_assoc (a / 2), Nat.xor_comm (b / 2), ← Nat.xor_assoc 3988292384, Nat.xor_self, Nat.zero_xor]
theorem S4_xor (a b : Nat) : S4 (a ^^^ b) = S4 a ^^^ S4 b := by simp only [S4, S_xor]

/-- The table of sixteen. -/
def tb (k : Nat) : Nat := [0, 498536548, 997073096, 651767980, 1994146192, 1802195444, 1303535960, 1342533948, 3988292384, 4027552580, 3604390888, 3412177804, 2607071920, 2262029012, 2685067896, 3183342108].getD k 0
theorem sixteen {k : Nat} (h : k < 16) : k = 0 ∨ k = 1 ∨ k = 2 ∨ k = 3 ∨ k = 4 ∨ k = 5 ∨ k = 6 ∨ k = 7 ∨ k = 8 ∨ k = 9 ∨ k = 10 ∨ k = 11 ∨ k = 12 ∨ k = 13 ∨ k = 14 ∨ k = 15 := by omega
theorem S4_low {r : Nat} (h : r < 16) : S4 r = tb r := by
  rcases sixteen h with rfl | rfl | rfl | rfl | rfl | rfl | rfl | rfl | rfl | rfl | rfl | rfl | rfl | rfl | rfl | rfl <;> rfl
theorem tb_lt (r : Nat) : tb r < 4294967296 := by
  by_cases h : r < 16
  · rcases sixteen h with rfl | rfl | rfl | rfl | rfl | rfl | rfl | rfl | rfl | rfl | rfl | rfl | rfl | rfl | rfl | rfl <;> decide
  · unfold tb; rw [List.getD, List.getElem?_eq_none (by simp; omega)]; decide
theorem S_two (q : Nat) : S (2 * q) = q := by rw [S_even (by omega)]; omega
theorem S4_high (q : Nat) : S4 (16 * q) = q := by
  unfold S4
  rw [show 16 * q = 2 * (8 * q) by omega, S_two, show 8 * q = 2 * (4 * q) by omega, S_two, show 4 * q = 2 * (2 * q) by omega, S_two, S_two]
theorem parts16 (m : Nat) : m = 16 * (m / 16) ^^^ m % 16 := by
  apply Nat.eq_of_testBit_eq; intro i
  rw [Nat.testBit_xor, show (16 : Nat) = 2 ^ 4 by rfl, Nat.testBit_two_pow_mul, Nat.testBit_div_two_pow, Nat.testBit_mod_two_pow]
  by_cases h : i < 4
  · simp [h, show ¬ 4 ≤ i by omega]
  · have h' : 4 ≤ i := by omega
    have e : i - 4 + 4 = i := by omega
    simp [h, h', e]
theorem S4_eq (m : Nat) : S4 m = m / 16 ^^^ tb (m % 16) := by
  have h := S4_xor (16 * (m / 16)) (m % 16)
  rw [← parts16, S4_high, S4_low (Nat.mod_lt _ (by omega))] at h
  exact h

theorem xor_lt {a b : Nat} (ha : a < 4294967296) (hb : b < 4294967296) : a ^^^ b < 4294967296 := Nat.xor_lt_two_pow (n := 32) ha hb
theorem S_lt {n : Nat} (h : n < 4294967296) : S n < 4294967296 := by
  rcases two_or n with e | e
  · rw [S_even e]; omega
  · rw [S_odd e]; exact xor_lt (by omega) (by decide)
theorem S4_lt {n : Nat} (h : n < 4294967296) : S4 n < 4294967296 := S_lt (S_lt (S_lt (S_lt h)))
theorem bt_lt {n c : Nat} (h : n < 4294967296) (hc : c < 256) : bt n c < 4294967296 := S4_lt (S4_lt (xor_lt h (by omega)))

theorem odd_high {n : Nat} (h : n < 4294967296) (e : n % 2 = 1) : 2147483648 ≤ S n := by
  rw [S_odd e]
  have hb : (n / 2 ^^^ 3988292384).testBit 31 = true := by
    rw [Nat.testBit_xor, Nat.testBit_lt_two_pow (show n / 2 < 2 ^ 31 by omega)]; decide
  exact Nat.ge_two_pow_of_testBit hb
theorem xor_cancel {a b c : Nat} (h : a ^^^ c = b ^^^ c) : a = b := by
  have := congrArg (· ^^^ c) h
  simpa [Nat.xor_assoc] using this
theorem xor_cancel' {a b c : Nat} (h : c ^^^ a = c ^^^ b) : a = b := xor_cancel (by rw [Nat.xor_comm a c, Nat.xor_comm b c]; exact h)
theorem S_inj {a b : Nat} (ha : a < 4294967296) (hb : b < 4294967296) (h : S a = S b) : a = b := by
  rcases two_or a with ea | ea <;> rcases two_or b with eb | eb
  · rw [S_even ea, S_even eb] at h; omega
  · have := odd_high hb eb; rw [← h, S_even ea] at this; omega
  · have := odd_high ha ea; rw [h, S_even eb] at this; omega
  · rw [S_odd ea, S_odd eb] at h
    have := xor_cancel h
    omega
theorem S4_inj {a b : Nat} (ha : a < 4294967296) (hb : b < 4294967296) (h : S4 a = S4 b) : a = b :=
  S_inj ha hb (S_inj (S_lt ha) (S_lt hb) (S_inj (S_lt (S_lt ha)) (S_lt (S_lt hb)) (S_inj (S_lt (S_lt (S_lt ha))) (S_lt (S_lt (S_lt hb))) h)))
theorem bt_inj {a b c d : Nat} (ha : a < 4294967296) (hb : b < 4294967296) (hc : c < 256) (hd : d < 256) (h : bt a c = bt b d) : a ^^^ c = b ^^^ d :=
  S4_inj (xor_lt ha (by omega)) (xor_lt hb (by omega)) (S4_inj (S4_lt (xor_lt ha (by omega))) (S4_lt (xor_lt hb (by omega))) h)

/-- The number behind some bytes. -/
def crcFrom (n : Nat) (l : List UInt8) : Nat := l.foldl (fun n x => bt n x.toNat) n
def crc (l : List UInt8) : Nat := 4294967295 - crcFrom 4294967295 l
theorem byte_lt (x : UInt8) : x.toNat < 256 := x.toNat_lt
theorem crcFrom_cons (n : Nat) (x : UInt8) (l : List UInt8) : crcFrom n (x :: l) = crcFrom (bt n x.toNat) l := rfl
theorem crcFrom_append (n : Nat) (l m : List UInt8) : crcFrom n (l ++ m) = crcFrom (crcFrom n l) m := by simp [crcFrom, List.foldl_append]
theorem crcFrom_lt : ∀ (l : List UInt8) (n : Nat), n < 4294967296 → crcFrom n l < 4294967296
  | [], n, h => h
  | x :: l, n, h => by rw [crcFrom_cons]; exact crcFrom_lt l _ (bt_lt h (byte_lt x))
theorem crc_lt (l : List UInt8) : crc l < 4294967296 := by unfold crc; omega
theorem crcFrom_inj : ∀ (l : List UInt8) (a b : Nat), a < 4294967296 → b < 4294967296 → crcFrom a l = crcFrom b l → a = b
  | [], a, b, _, _, h => h
  | x :: l, a, b, ha, hb, h => by
    rw [crcFrom_cons, crcFrom_cons] at h
    have h1 := crcFrom_inj l _ _ (bt_lt ha (byte_lt x)) (bt_lt hb (byte_lt x)) h
    have h2 := bt_inj ha hb (byte_lt x) (byte_lt x) h1
    exact xor_cancel h2
/-- One byte turned turns the checksum. -/
theorem crc_turned (l m : List UInt8) (x y : UInt8) (h : crc (l ++ x :: m) = crc (l ++ y :: m)) : x = y := by
  have hx := crcFrom_lt (l ++ x :: m) 4294967295 (by omega)
  have hy := crcFrom_lt (l ++ y :: m) 4294967295 (by omega)
  have hl := crcFrom_lt l 4294967295 (by omega)
  have e : crcFrom 4294967295 (l ++ x :: m) = crcFrom 4294967295 (l ++ y :: m) := by unfold crc at h; omega
  rw [crcFrom_append, crcFrom_append, crcFrom_cons, crcFrom_cons] at e
  have e1 := crcFrom_inj m _ _ (bt_lt hl (byte_lt x)) (bt_lt hl (byte_lt y)) e
  have e2 := bt_inj hl hl (byte_lt x) (byte_lt y) e1
  exact UInt8.toNat_inj.1 (xor_cancel' e2)

/-- The document's rounds: the number, and the byte. -/
def dstep (n c : Nat) : Nat := n / 2 ^^^ ((n % 2 + c % 2) % 2) * 3988292384
def dloop : Nat → Nat → Nat → Nat
  | 0, n, _ => n
  | k + 1, n, c => dloop k (dstep n c) (c / 2)
theorem dstep_xor (n c : Nat) : dstep n c ^^^ c / 2 = S (n ^^^ c) := by
  unfold dstep S
  rw [half_xor, par_xor, Nat.xor_assoc, Nat.xor_comm _ (c / 2), ← Nat.xor_assoc]
theorem dloop_byte (n c : Nat) (h : c < 256) : dloop 8 n c = bt n c := by
  unfold bt S4
  simp only [dloop]
  rw [← dstep_xor n c, ← dstep_xor, ← dstep_xor, ← dstep_xor, ← dstep_xor, ← dstep_xor, ← dstep_xor, ← dstep_xor]
  rw [show c / 2 / 2 / 2 / 2 / 2 / 2 / 2 / 2 = 0 by omega, Nat.xor_zero]
theorem dstep_lt {n : Nat} (c : Nat) (h : n < 4294967296) : dstep n c < 4294967296 := by
  unfold dstep
  have : (n % 2 + c % 2) % 2 = 0 ∨ (n % 2 + c % 2) % 2 = 1 := by omega
  rcases this with e | e <;> rw [e]
  · simp; omega
  · exact xor_lt (by omega) (by decide)
end M
end Go.Proofs.YtmjkcbcenpdcnaaDoor
