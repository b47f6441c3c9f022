/- Plain facts on runes, weights and shards; no dump, no conditions. -/
import Derived.Laws.RangeString
import Derived.Laws.RangeAny
namespace Go.Proofs.Ytagngbdlpdilnaa
namespace M

/-- May a text of n bytes be a key? -/
def rightB (n : Nat) : Bool := decide (1 ≤ n) && decide (n ≤ 8)
theorem rightB_iff {n : Nat} : rightB n = true ↔ 1 ≤ n ∧ n ≤ 8 := by simp [rightB]

/-- The rune at a place, and its width. -/
def rn (s : ByteArray) (p : Nat) : Nat := (Utf8.decode s p).1
def wd (s : ByteArray) (p : Nat) : Nat := (Utf8.decode s p).2

theorem wd_pos (s : ByteArray) (p : Nat) (h : p < s.size) : 1 ≤ wd s p := by
  unfold wd
  by_cases ha : (s[p]'h).toNat < 128
  · rw [decode_ascii s p h ha]; exact Nat.le_refl _
  · exact (decode_high s p h (by omega)).2

theorem wd_le (s : ByteArray) (p : Nat) (h : p < s.size) : p + wd s p ≤ s.size := by
  unfold wd Utf8.decode
  simp only []
  repeat' split
  all_goals simp_all
  all_goals omega

theorem valid_le (c : Nat) (h : Utf8.valid (c : Int) = true) : c ≤ 1114111 := by
  unfold Utf8.valid at h
  rw [Bool.or_eq_true, Bool.and_eq_true, Bool.and_eq_true, decide_eq_true_eq, decide_eq_true_eq, decide_eq_true_eq, decide_eq_true_eq] at h
  omega
theorem err_le : Utf8.runeError ≤ 1114111 := by decide
theorem rn_le (s : ByteArray) (p : Nat) : rn s p ≤ 1114111 := by
  unfold rn Utf8.decode
  simp only []
  split
  · dsimp only; omega
  split
  · split
    · dsimp only; omega
    · exact err_le
  split
  · split
    · rename_i h; rw [Bool.and_eq_true] at h; exact valid_le _ h.2
    · exact err_le
  split
  · split
    · rename_i h; rw [Bool.and_eq_true] at h; exact valid_le _ h.2
    · exact err_le
  · exact err_le

/-- The runes from a place on. -/
def runesFrom (s : ByteArray) : Nat → Nat → List Nat
  | 0, _ => []
  | f + 1, p => if p < s.size then rn s p :: runesFrom s f (p + wd s p) else []
def runes (s : ByteArray) : List Nat := runesFrom s s.size 0

theorem runesFrom_end (s : ByteArray) (f p : Nat) (h : ¬ p < s.size) : runesFrom s f p = [] := by
  cases f with
  | zero => rfl
  | succ f => simp [runesFrom, h]
theorem runesFrom_step (s : ByteArray) (f p : Nat) (h : p < s.size) : runesFrom s (f + 1) p = rn s p :: runesFrom s f (p + wd s p) := by simp [runesFrom, h]
theorem runesFrom_len (s : ByteArray) : ∀ f p, (runesFrom s f p).length ≤ f
  | 0, _ => by simp [runesFrom]
  | f + 1, p => by
    unfold runesFrom
    split
    · have := runesFrom_len s f (p + wd s p)
      simp; omega
    · simp
theorem runesFrom_le (s : ByteArray) : ∀ f p, ∀ r ∈ runesFrom s f p, r ≤ 1114111
  | 0, _ => by simp [runesFrom]
  | f + 1, p => by
    unfold runesFrom
    split
    · intro r hr
      rcases List.mem_cons.1 hr with rfl | hr
      · exact rn_le s p
      · exact runesFrom_le s f _ r hr
    · simp
theorem runes_len (s : ByteArray) : (runes s).length ≤ s.size := runesFrom_len s _ _
theorem runes_le (s : ByteArray) : ∀ r ∈ runes s, r ≤ 1114111 := runesFrom_le s _ _

/-- The weight of runes, those ahead of them counted. -/
def weigh : Nat → List Nat → Nat
  | _, [] => 0
  | k, r :: l => (k + 1) * r + weigh (k + 1) l
theorem weigh_append : ∀ (l m : List Nat) (k : Nat), weigh k (l ++ m) = weigh k l + weigh (k + l.length) m
  | [], m, k => by simp [weigh]
  | r :: l, m, k => by
    simp only [List.cons_append, weigh, weigh_append l m (k + 1), List.length_cons]
    rw [show k + 1 + l.length = k + (l.length + 1) by omega]; omega
theorem weigh_snoc (l : List Nat) (r : Nat) : weigh 0 (l ++ [r]) = weigh 0 l + (l.length + 1) * r := by
  rw [weigh_append]; simp [weigh]
theorem weigh_le : ∀ (l : List Nat) (k : Nat), (∀ r ∈ l, r ≤ 1114111) → weigh k l ≤ 1114111 * ((k + l.length) * l.length)
  | [], k, _ => by simp [weigh]
  | r :: l, k, h => by
    have ih := weigh_le l (k + 1) (fun x hx => h x (by simp [hx]))
    have hr := h r (by simp)
    have h1 : (k + 1) * r ≤ (k + 1) * 1114111 := Nat.mul_le_mul_left _ hr
    simp only [weigh, List.length_cons]
    have e : (k + (l.length + 1)) * (l.length + 1) = (k + 1 + l.length) * l.length + (k + 1 + l.length) := by
      rw [show k + (l.length + 1) = k + 1 + l.length by omega, Nat.mul_add, Nat.mul_one]
    rw [e, Nat.mul_add]
    omega
def weight (s : ByteArray) : Nat := weigh 0 (runes s)
theorem weigh_small (l : List Nat) (h : ∀ r ∈ l, r ≤ 1114111) (hl : l.length ≤ 2000) : weigh 0 l ≤ 4456444000000 := by
  have h1 := weigh_le l 0 h
  have h2 : (0 + l.length) * l.length ≤ 2000 * 2000 := Nat.mul_le_mul (by omega) hl
  have h3 : 1114111 * ((0 + l.length) * l.length) ≤ 1114111 * (2000 * 2000) := Nat.mul_le_mul_left _ h2
  omega
theorem weight_le (s : ByteArray) (h : s.size ≤ 2000) : weight s ≤ 4456444000000 := weigh_small _ (runes_le s) (Nat.le_trans (runes_len s) h)

/-- What is cut off behind a place. -/
theorem get_cut (s : ByteArray) (p k : Nat) : (s.extract p s.size).get! k = s.get! (p + k) := by
  show (s.extract p s.size).data[k]! = s.data[p + k]!
  rw [ByteArray.data_extract]
  by_cases h : p + k < s.data.size
  · have hs : s.size = s.data.size := rfl
    rw [getElem!_pos _ k (by simp; omega), getElem!_pos s.data (p + k) h, Array.getElem_extract]
  · have hs : s.size = s.data.size := rfl
    rw [getElem!_neg _ k (by simp; omega), getElem!_neg s.data (p + k) h]
theorem decode_cut (s : ByteArray) (p : Nat) (h : p ≤ s.size) : Utf8.decode (s.extract p s.size) 0 = Utf8.decode s p := by
  have hs : (s.extract p s.size).size = s.size - p := by rw [ByteArray.size_extract]; omega
  have hc : ∀ k, (k < s.size - p) = (p + k < s.size) := fun k => propext (by omega)
  simp only [Utf8.decode, get_cut, hs, Nat.zero_add, hc, Nat.add_zero]
theorem rn_cut (s : ByteArray) (p : Nat) (h : p ≤ s.size) : rn (s.extract p s.size) 0 = rn s p := by unfold rn; rw [decode_cut s p h]
theorem wd_cut (s : ByteArray) (p : Nat) (h : p ≤ s.size) : wd (s.extract p s.size) 0 = wd s p := by unfold wd; rw [decode_cut s p h]
end M
end Go.Proofs.Ytagngbdlpdilnaa
