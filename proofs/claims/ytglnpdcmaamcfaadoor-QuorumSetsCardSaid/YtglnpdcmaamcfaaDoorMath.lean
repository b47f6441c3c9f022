/- Plain facts on the bits of int64 numbers, and on how many of the first seven are set; no conditions but those that each theorem names. -/
import Derived.Laws.Entries
import Derived.Laws.BitsAllLaws
namespace Go.Proofs.YtglnpdcmaamcfaaDoor
namespace M

/-- Bit k of a number in two's complement. -/
def bt (x : Int) (k : Nat) : Int := x / 2 ^ k % 2

theorem bt_01 (x : Int) (k : Nat) : 0 ≤ bt x k ∧ bt x k ≤ 1 := by unfold bt; omega

theorem seven {k : Nat} (h : k < 7) : k = 0 ∨ k = 1 ∨ k = 2 ∨ k = 3 ∨ k = 4 ∨ k = 5 ∨ k = 6 := by omega

theorem lsb (x : Int) (k : Nat) (h : k < 7) : (BitVec.ofInt 64 x).getLsbD k = decide (bt x k = 1) := by
  rw [← BitVec.testBit_toNat, BitVec.toNat_ofInt, Nat.testBit_eq_decide_div_mod_eq]
  unfold bt
  rcases seven h with rfl | rfl | rfl | rfl | rfl | rfl | rfl <;> (apply decide_eq_decide.mpr; simp only [Nat.reducePow, Int.reducePow]; omega)

theorem wrap_alt (n : Int) : IntKind.i64.wrap n = n % 18446744073709551616 ∨ IntKind.i64.wrap n = n % 18446744073709551616 - 18446744073709551616 := by
  simp only [IntKind.wrap]
  split
  · exact Or.inr rfl
  · exact Or.inl rfl
theorem wrap_bt (n : Nat) (k : Nat) (h : k < 7) : bt (IntKind.i64.wrap n) k = if n.testBit k then 1 else 0 := by
  rw [Nat.testBit_eq_decide_div_mod_eq]
  unfold bt
  simp only [decide_eq_true_eq]
  rcases wrap_alt n with e | e <;> rw [e] <;> clear e <;>
  rcases seven h with rfl | rfl | rfl | rfl | rfl | rfl | rfl <;> (simp only [Nat.reducePow, Int.reducePow]; split <;> omega)

theorem of_lsb (v : BitVec 64) (k : Nat) (h : k < 7) : bt (IntKind.i64.wrap v.toNat) k = if v.getLsbD k then 1 else 0 := by
  rw [wrap_bt _ _ h, BitVec.testBit_toNat]

theorem and_bt (x y : Int) (k : Nat) (h : k < 7) : bt (bits .and .i64 x y) k = if bt x k = 1 ∧ bt y k = 1 then 1 else 0 := by
  have e : bits .and .i64 x y = IntKind.i64.wrap ((BitVec.ofInt 64 x &&& BitVec.ofInt 64 y).toNat) := rfl
  rw [e, of_lsb _ _ h, BitVec.getLsbD_and, lsb x k h, lsb y k h]
  simp

theorem andNot_bt (x y : Int) (k : Nat) (h : k < 7) : bt (bits .andNot .i64 x y) k = if bt x k = 1 ∧ bt y k = 0 then 1 else 0 := by
  have e : bits .andNot .i64 x y = IntKind.i64.wrap ((BitVec.ofInt 64 x &&& ~~~(BitVec.ofInt 64 y)).toNat) := rfl
  have hk : k < 64 := by omega
  have := bt_01 y k
  rw [e, of_lsb _ _ h, BitVec.getLsbD_and, BitVec.getLsbD_not, lsb x k h, lsb y k h]
  simp only [hk, decide_true, Bool.true_and, Bool.and_eq_true, decide_eq_true_eq, Bool.not_eq_true', decide_eq_false_iff_not]
  by_cases h1 : bt y k = 1 <;> by_cases h2 : bt x k = 1 <;> simp [h1, h2] <;> omega

theorem or_bt (x y : Int) (k : Nat) (h : k < 7) : bt (bits .or .i64 x y) k = if bt x k = 1 ∨ bt y k = 1 then 1 else 0 := by
  have e : bits .or .i64 x y = IntKind.i64.wrap ((BitVec.ofInt 64 x ||| BitVec.ofInt 64 y).toNat) := rfl
  rw [e, of_lsb _ _ h, BitVec.getLsbD_or, lsb x k h, lsb y k h]
  simp

/-- How many of the first seven bits are set. -/
def cnt (x : Int) : Int := bt x 0 + bt x 1 + bt x 2 + bt x 3 + bt x 4 + bt x 5 + bt x 6
/-- How many of the first k, k at most 7. -/
def cntTo (x : Int) : Nat → Int
  | 0 => 0
  | k + 1 => cntTo x k + bt x k
theorem cntTo_seven (x : Int) : cntTo x 7 = cnt x := by simp [cntTo, cnt]
theorem cntTo_bd (x : Int) : ∀ k, 0 ≤ cntTo x k ∧ cntTo x k ≤ k
  | 0 => by simp [cntTo]
  | k + 1 => by have := cntTo_bd x k; have := bt_01 x k; simp only [cntTo]; omega
theorem cnt_bd (x : Int) : 0 ≤ cnt x ∧ cnt x ≤ 7 := by rw [← cntTo_seven]; exact cntTo_bd x 7

/-- The document's numbers. -/
def sizeOf (f : Int) : Int := if f = 1 then 3 else if f = 2 then 5 else if f = 3 then 7 else 0
def slowOf (f : Int) : Int := if f = 1 then 2 else if f = 2 then 3 else if f = 3 then 4 else 0
def fastOf (f : Int) : Int := if f = 1 then 2 else if f = 2 then 4 else if f = 3 then 6 else 0
def allOf (f : Int) : Int := if f = 1 then 7 else if f = 2 then 31 else if f = 3 then 127 else 0
def shardB (f : Int) : Bool := decide (1 ≤ f ∧ f ≤ 3)
def repB (k : Int) : Bool := decide (0 ≤ k ∧ k < 7)
def hasB (set k : Int) : Bool := repB k && decide (bt set k.toNat = 1)
def withOf (set k : Int) : Int := if repB k then bits .or .i64 set (2 ^ k.toNat) else set
def withoutOf (set k : Int) : Int := if repB k then bits .andNot .i64 set (2 ^ k.toNat) else set
def majB (f set : Int) : Bool := shardB f && decide (slowOf f ≤ cnt (bits .and .i64 set (allOf f)))

/- WHAT THE LAWS ASK, on plain numbers. -/
theorem meet_bt (a b m : Int) (k : Nat) (h : k < 7) : bt (bits .and .i64 a m) k + bt (bits .and .i64 b m) k - bt m k ≤ bt (bits .and .i64 (bits .and .i64 a b) m) k := by
  rw [and_bt _ m k h, and_bt _ m k h, and_bt _ m k h, and_bt a b k h]
  have := bt_01 a k; have := bt_01 b k; have := bt_01 m k
  split <;> split <;> split <;> simp_all <;> omega
theorem meet_cnt (a b m : Int) : cnt (bits .and .i64 a m) + cnt (bits .and .i64 b m) - cnt m ≤ cnt (bits .and .i64 (bits .and .i64 a b) m) := by
  have h0 := meet_bt a b m 0 (by decide)
  have h1 := meet_bt a b m 1 (by decide)
  have h2 := meet_bt a b m 2 (by decide)
  have h3 := meet_bt a b m 3 (by decide)
  have h4 := meet_bt a b m 4 (by decide)
  have h5 := meet_bt a b m 5 (by decide)
  have h6 := meet_bt a b m 6 (by decide)
  unfold cnt
  omega
theorem shards {f : Int} (h : shardB f = true) : f = 1 ∨ f = 2 ∨ f = 3 := by unfold shardB at h; simp at h; omega
theorem cnt_all (f : Int) : cnt (allOf f) = sizeOf f := by
  unfold allOf sizeOf
  split
  · decide
  · split
    · decide
    · split <;> decide
theorem majB_split {f s : Int} (h : majB f s = true) : (f = 1 ∨ f = 2 ∨ f = 3) ∧ slowOf f ≤ cnt (bits .and .i64 s (allOf f)) := by
  unfold majB at h
  simp only [Bool.and_eq_true, decide_eq_true_eq] at h
  exact ⟨shards h.1, h.2⟩
theorem meet (f a b : Int) (ha : majB f a = true) (hb : majB f b = true) : 1 ≤ cnt (bits .and .i64 (bits .and .i64 a b) (allOf f)) := by
  obtain ⟨hf, ha⟩ := majB_split ha
  obtain ⟨_, hb⟩ := majB_split hb
  have := meet_cnt a b (allOf f)
  have e := cnt_all f
  rcases hf with rfl | rfl | rfl <;> simp only [slowOf, sizeOf] at * <;> simp at * <;> omega

/- THE k-TH BIT ALONE. -/
theorem ofInt_pow (k : Nat) (h : k < 7) : BitVec.ofInt 64 (2 ^ k) = BitVec.twoPow 64 k := by
  rcases seven h with rfl | rfl | rfl | rfl | rfl | rfl | rfl <;> rfl
theorem wrap_pow (k : Nat) (h : k < 7) : IntKind.i64.wrap (2 ^ k) = 2 ^ k := by
  rcases seven h with rfl | rfl | rfl | rfl | rfl | rfl | rfl <;> rfl
theorem wrap_zero : IntKind.i64.wrap 0 = 0 := rfl
theorem and_pow_zero (s : Int) (k : Nat) (h : k < 7) : (bits .and .i64 s (2 ^ k) = 0) ↔ bt s k = 0 := by
  have e : bits .and .i64 s (2 ^ k) = IntKind.i64.wrap ((BitVec.ofInt 64 s &&& BitVec.ofInt 64 (2 ^ k)).toNat) := rfl
  have hb := bt_01 s k
  constructor
  · intro h0
    have h1 := and_bt s (2 ^ k) k h
    rw [h0] at h1
    have h2 : bt 0 k = 0 := by simp [bt]
    have h3 : bt (2 ^ k) k = 1 := by rcases seven h with rfl | rfl | rfl | rfl | rfl | rfl | rfl <;> rfl
    rw [h2, h3] at h1
    simp at h1
    omega
  · intro h0
    rw [e, ofInt_pow k h, BitVec.and_twoPow, lsb s k h, h0]
    rfl
theorem has_eq (s k : Int) (h1 : 0 ≤ k) (h2 : k < 7) : (bits .and .i64 s (IntKind.i64.wrap (2 ^ k.toNat)) != 0) = hasB s k := by
  have hk : k.toNat < 7 := by omega
  have hb := bt_01 s k.toNat
  rw [wrap_pow _ hk]
  have := and_pow_zero s k.toNat hk
  have hr : repB k = true := by simp [repB, h1, h2]
  unfold hasB
  rw [hr, Bool.true_and]
  by_cases h0 : bt s k.toNat = 0
  · have h3 := this.2 h0
    rw [h3, h0]; rfl
  · have h3 : ¬ bits .and .i64 s (2 ^ k.toNat) = 0 := fun h => h0 (this.1 h)
    have h4 : bt s k.toNat = 1 := by omega
    simp [h3, h4]
theorem in64 (n : Int) (h1 : -9223372036854775808 ≤ n) (h2 : n < 9223372036854775808) : IntKind.i64.wrap n = n := by
  have e := wrap_alt n
  have l : -9223372036854775808 ≤ IntKind.i64.wrap n ∧ IntKind.i64.wrap n < 9223372036854775808 := by
    simp only [IntKind.wrap]
    split
    · rename_i h
      have h' : (9223372036854775808 : Int) ≤ n % 18446744073709551616 := by simpa [IntKind.bits, IntKind.signed] using h
      have e2 : n % (2 ^ IntKind.i64.bits : Int) - 2 ^ IntKind.i64.bits = n % 18446744073709551616 - 18446744073709551616 := rfl
      rw [e2]; omega
    · rename_i h
      have h' : n % 18446744073709551616 < (9223372036854775808 : Int) := by simpa [IntKind.bits, IntKind.signed] using h
      have e2 : n % (2 ^ IntKind.i64.bits : Int) = n % 18446744073709551616 := rfl
      rw [e2]; omega
  omega
theorem wrap_congr (a b : Int) (h : a % 18446744073709551616 = b % 18446744073709551616) : IntKind.i64.wrap a = IntKind.i64.wrap b := by
  have e : ∀ n : Int, IntKind.i64.wrap n = if (9223372036854775808 : Int) ≤ n % 18446744073709551616 then n % 18446744073709551616 - 18446744073709551616 else n % 18446744073709551616 := by
    intro n
    simp only [IntKind.wrap]
    split
    · rename_i h
      have h' : (9223372036854775808 : Int) ≤ n % 18446744073709551616 := by simpa [IntKind.bits, IntKind.signed] using h
      rw [if_pos h']; rfl
    · rename_i h
      have h' : ¬ (9223372036854775808 : Int) ≤ n % 18446744073709551616 := by simpa [IntKind.bits, IntKind.signed] using h
      rw [if_neg h']; rfl
  rw [e a, e b, h]
theorem or_set (s : Int) (k : Nat) (h : k < 7) (hb : bt s k = 1) (h1 : -9223372036854775808 ≤ s) (h2 : s < 9223372036854775808) : bits .or .i64 s (2 ^ k) = s := by
  have e : bits .or .i64 s (2 ^ k) = IntKind.i64.wrap ((BitVec.ofInt 64 s ||| BitVec.ofInt 64 (2 ^ k)).toNat) := rfl
  have o : BitVec.ofInt 64 s ||| BitVec.twoPow 64 k = BitVec.ofInt 64 s := by
    apply BitVec.eq_of_getLsbD_eq
    intro i hi
    rw [BitVec.getLsbD_or, BitVec.getLsbD_twoPow]
    by_cases hik : k = i
    · subst hik; simp [lsb s k h, hb]
    · simp [hik]
  rw [e, ofInt_pow k h, o, BitVec.toNat_ofInt]
  refine Eq.trans (wrap_congr _ s ?_) (in64 s h1 h2)
  simp only [Nat.reducePow]
  omega
theorem or_add (s : Int) (k : Nat) (h : k < 7) (hb : bt s k = 0) : bits .or .i64 s (2 ^ k) = IntKind.i64.wrap (s + 2 ^ k) := by
  have e : bits .or .i64 s (2 ^ k) = IntKind.i64.wrap ((BitVec.ofInt 64 s ||| BitVec.ofInt 64 (2 ^ k)).toNat) := rfl
  have z : BitVec.ofInt 64 s &&& BitVec.twoPow 64 k = 0#64 := by rw [BitVec.and_twoPow, lsb s k h, hb]; rfl
  rw [e, ofInt_pow k h, ← BitVec.add_eq_or_of_and_eq_zero _ _ z, BitVec.toNat_add, BitVec.toNat_ofInt, BitVec.toNat_twoPow]
  apply wrap_congr
  rcases seven h with rfl | rfl | rfl | rfl | rfl | rfl | rfl <;> (simp only [Nat.reducePow, Nat.reduceMod, Int.reducePow]; omega)
theorem andNot_clear (s : Int) (k : Nat) (h : k < 7) (hb : bt s k = 0) (h1 : -9223372036854775808 ≤ s) (h2 : s < 9223372036854775808) : bits .andNot .i64 s (2 ^ k) = s := by
  have e : bits .andNot .i64 s (2 ^ k) = IntKind.i64.wrap ((BitVec.ofInt 64 s &&& ~~~ BitVec.ofInt 64 (2 ^ k)).toNat) := rfl
  have o : BitVec.ofInt 64 s &&& ~~~ BitVec.twoPow 64 k = BitVec.ofInt 64 s := by
    apply BitVec.eq_of_getLsbD_eq
    intro i hi
    rw [BitVec.getLsbD_and, BitVec.getLsbD_not, BitVec.getLsbD_twoPow]
    by_cases hik : k = i
    · subst hik; simp [lsb s k h, hb]
    · simp [hik, hi]
  rw [e, ofInt_pow k h, o, BitVec.toNat_ofInt]
  refine Eq.trans (wrap_congr _ s ?_) (in64 s h1 h2)
  simp only [Nat.reducePow]
  omega
theorem andNot_sub (s : Int) (k : Nat) (h : k < 7) (hb : bt s k = 1) : bits .andNot .i64 s (2 ^ k) = IntKind.i64.wrap (s - 2 ^ k) := by
  have e : bits .andNot .i64 s (2 ^ k) = IntKind.i64.wrap ((BitVec.ofInt 64 s &&& ~~~ BitVec.ofInt 64 (2 ^ k)).toNat) := rfl
  have z : (BitVec.ofInt 64 s &&& ~~~ BitVec.twoPow 64 k) &&& BitVec.twoPow 64 k = 0#64 := by
    apply BitVec.eq_of_getLsbD_eq
    intro i hi
    simp only [BitVec.getLsbD_and, BitVec.getLsbD_not, BitVec.getLsbD_twoPow]
    by_cases hik : k = i <;> simp [hik]
  have o : (BitVec.ofInt 64 s &&& ~~~ BitVec.twoPow 64 k) ||| BitVec.twoPow 64 k = BitVec.ofInt 64 s := by
    apply BitVec.eq_of_getLsbD_eq
    intro i hi
    simp only [BitVec.getLsbD_or, BitVec.getLsbD_and, BitVec.getLsbD_not, BitVec.getLsbD_twoPow]
    by_cases hik : k = i
    · subst hik; simp [lsb s k h, hb]; omega
    · simp [hik, hi]
  rw [← BitVec.add_eq_or_of_and_eq_zero _ _ z] at o
  have q := congrArg BitVec.toNat o
  rw [BitVec.toNat_add, BitVec.toNat_ofInt, BitVec.toNat_twoPow] at q
  have lt := (BitVec.ofInt 64 s &&& ~~~ BitVec.twoPow 64 k).isLt
  rw [e, ofInt_pow k h]
  apply wrap_congr
  generalize (BitVec.ofInt 64 s &&& ~~~ BitVec.twoPow 64 k).toNat = g at *
  clear o z e hb
  rcases seven h with rfl | rfl | rfl | rfl | rfl | rfl | rfl <;> (simp only [Nat.reducePow, Nat.reduceMod, Int.reducePow] at *; omega)

/- WHAT IS PUT IN, AND TAKEN OUT. -/
theorem pow_bt (k j : Nat) (hk : k < 7) (hj : j < 7) : bt (2 ^ k) j = if j = k then 1 else 0 := by
  rcases seven hk with rfl | rfl | rfl | rfl | rfl | rfl | rfl <;> rcases seven hj with rfl | rfl | rfl | rfl | rfl | rfl | rfl <;> rfl
theorem rep_iff {k : Int} : repB k = true ↔ 0 ≤ k ∧ k < 7 := by simp [repB]
theorem has_with (s k j : Int) : hasB (withOf s k) j = (repB j && (decide (j = k) || hasB s j)) := by
  unfold hasB
  cases hj : repB j
  · simp
  · rw [rep_iff] at hj
    unfold withOf
    cases hk : repB k
    · have : ¬ j = k := by rintro rfl; have := rep_iff.2 hj; simp [this] at hk
      simp [this]
    · rw [rep_iff] at hk
      simp only [if_true, Bool.true_and]
      rw [or_bt _ _ _ (by omega), pow_bt _ _ (by omega) (by omega)]
      by_cases e : j = k
      · subst e; simp
      · have : ¬ j.toNat = k.toNat := by omega
        simp [e, this]
theorem has_without (s k j : Int) : hasB (withoutOf s k) j = (repB j && (decide (j ≠ k) && hasB s j)) := by
  unfold hasB
  cases hj : repB j
  · simp
  · rw [rep_iff] at hj
    unfold withoutOf
    cases hk : repB k
    · have : ¬ j = k := by rintro rfl; have := rep_iff.2 hj; simp [this] at hk
      simp [this]
    · rw [rep_iff] at hk
      have hb := bt_01 s j.toNat
      simp only [if_true, Bool.true_and]
      rw [andNot_bt _ _ _ (by omega), pow_bt _ _ (by omega) (by omega)]
      by_cases e : j = k
      · subst e; simp
      · have : ¬ j.toNat = k.toNat := by omega
        simp [e, this]
theorem has_small (s k : Int) (h : hasB s k = true) : 0 ≤ k ∧ k < 7 := by
  unfold hasB at h
  simp only [Bool.and_eq_true] at h
  exact rep_iff.1 h.1

/- A FAST QUORUM AND A MAJORITY. -/
theorem and_idem_bt (a m : Int) (k : Nat) (h : k < 7) : bt (bits .and .i64 (bits .and .i64 a m) m) k = bt (bits .and .i64 a m) k := by
  rw [and_bt _ m k h, and_bt a m k h]
  have := bt_01 a k; have := bt_01 m k
  split <;> split <;> simp_all
theorem and_idem_cnt (a m : Int) : cnt (bits .and .i64 (bits .and .i64 a m) m) = cnt (bits .and .i64 a m) := by
  unfold cnt
  rw [and_idem_bt a m 0 (by decide), and_idem_bt a m 1 (by decide), and_idem_bt a m 2 (by decide), and_idem_bt a m 3 (by decide), and_idem_bt a m 4 (by decide), and_idem_bt a m 5 (by decide), and_idem_bt a m 6 (by decide)]
theorem both_bt (a b m : Int) (k : Nat) (h : k < 7) : bt (bits .and .i64 a m) k + bt (bits .and .i64 b m) k - bt m k ≤ bt (bits .and .i64 (bits .and .i64 a m) (bits .and .i64 b m)) k := by
  rw [and_bt (bits .and .i64 a m) _ k h, and_bt a m k h, and_bt b m k h]
  have := bt_01 a k; have := bt_01 b k; have := bt_01 m k
  split <;> split <;> split <;> simp_all <;> omega
theorem both_cnt (a b m : Int) : cnt (bits .and .i64 a m) + cnt (bits .and .i64 b m) - cnt m ≤ cnt (bits .and .i64 (bits .and .i64 a m) (bits .and .i64 b m)) := by
  have h0 := both_bt a b m 0 (by decide)
  have h1 := both_bt a b m 1 (by decide)
  have h2 := both_bt a b m 2 (by decide)
  have h3 := both_bt a b m 3 (by decide)
  have h4 := both_bt a b m 4 (by decide)
  have h5 := both_bt a b m 5 (by decide)
  have h6 := both_bt a b m 6 (by decide)
  unfold cnt
  omega
theorem fast (f a b : Int) (ha : fastOf f ≤ cnt (bits .and .i64 a (allOf f))) (hb : majB f (bits .and .i64 b (allOf f)) = true) :
    f ≤ cnt (bits .and .i64 (bits .and .i64 a (allOf f)) (bits .and .i64 b (allOf f))) := by
  obtain ⟨hf, hb⟩ := majB_split hb
  rw [and_idem_cnt] at hb
  have := both_cnt a b (allOf f)
  have e := cnt_all f
  rcases hf with rfl | rfl | rfl <;> simp only [slowOf, sizeOf, fastOf] at * <;> simp at * <;> omega

/- A SET AND WHAT IS NOT OF IT. -/
theorem parts_bt (s m : Int) (k : Nat) (h : k < 7) : bt (bits .and .i64 s m) k + bt (bits .andNot .i64 m s) k = bt m k := by
  rw [and_bt s m k h, andNot_bt m s k h]
  have := bt_01 s k; have := bt_01 m k
  split <;> split <;> simp_all <;> omega
theorem parts_cnt (s m : Int) : cnt (bits .and .i64 s m) + cnt (bits .andNot .i64 m s) = cnt m := by
  have h0 := parts_bt s m 0 (by decide)
  have h1 := parts_bt s m 1 (by decide)
  have h2 := parts_bt s m 2 (by decide)
  have h3 := parts_bt s m 3 (by decide)
  have h4 := parts_bt s m 4 (by decide)
  have h5 := parts_bt s m 5 (by decide)
  have h6 := parts_bt s m 6 (by decide)
  unfold cnt
  omega
theorem apart_bt (s m : Int) (k : Nat) (h : k < 7) : bt (bits .and .i64 (bits .and .i64 s m) (bits .andNot .i64 m s)) k = 0 := by
  rw [and_bt _ _ k h, and_bt s m k h, andNot_bt m s k h]
  have := bt_01 s k; have := bt_01 m k
  split <;> simp_all
theorem apart_cnt (s m : Int) : cnt (bits .and .i64 (bits .and .i64 s m) (bits .andNot .i64 m s)) = 0 := by
  unfold cnt
  rw [apart_bt s m 0 (by decide), apart_bt s m 1 (by decide), apart_bt s m 2 (by decide), apart_bt s m 3 (by decide), apart_bt s m 4 (by decide), apart_bt s m 5 (by decide), apart_bt s m 6 (by decide)]
  rfl
theorem rest_idem_bt (s m : Int) (k : Nat) (h : k < 7) : bt (bits .and .i64 (bits .andNot .i64 m s) m) k = bt (bits .andNot .i64 m s) k := by
  rw [and_bt _ m k h, andNot_bt m s k h]
  have := bt_01 s k; have := bt_01 m k
  split <;> split <;> simp_all
theorem rest_idem_cnt (s m : Int) : cnt (bits .and .i64 (bits .andNot .i64 m s) m) = cnt (bits .andNot .i64 m s) := by
  unfold cnt
  rw [rest_idem_bt s m 0 (by decide), rest_idem_bt s m 1 (by decide), rest_idem_bt s m 2 (by decide), rest_idem_bt s m 3 (by decide), rest_idem_bt s m 4 (by decide), rest_idem_bt s m 5 (by decide), rest_idem_bt s m 6 (by decide)]
theorem parts_major (f s : Int) (hf : f = 1 ∨ f = 2 ∨ f = 3) : majB f (bits .andNot .i64 (allOf f) s) = !majB f (bits .and .i64 s (allOf f)) := by
  have e := parts_cnt s (allOf f)
  have ea := cnt_all f
  have b1 : shardB f = true := by rcases hf with rfl | rfl | rfl <;> rfl
  unfold majB
  rw [b1, Bool.true_and, Bool.true_and, and_idem_cnt, rest_idem_cnt]
  generalize cnt (bits .and .i64 s (allOf f)) = x at *
  generalize cnt (bits .andNot .i64 (allOf f) s) = y at *
  by_cases h : slowOf f ≤ x
  · have : ¬ slowOf f ≤ y := by rcases hf with rfl | rfl | rfl <;> simp [slowOf, sizeOf] at * <;> omega
    simp [h, this]
  · have : slowOf f ≤ y := by rcases hf with rfl | rfl | rfl <;> simp [slowOf, sizeOf] at * <;> omega
    simp [h, this]

end M
end Go.Proofs.YtglnpdcmaamcfaaDoor
