/- Plain facts on the ranges and the order of layer 2, with no program in them. -/
import Derived.WalkKit
namespace Go.Proofs.Ytccokdhobkcnpaa
namespace M
/-- Between two numbers, both let in. -/
def within (n lo hi : Int) : Bool := decide (lo ≤ n) && decide (n ≤ hi)
theorem within_true {n lo hi : Int} (h1 : lo ≤ n) (h2 : n ≤ hi) : within n lo hi = true := by simp [within, h1, h2]
theorem within_low {n lo hi : Int} (h : ¬ lo ≤ n) : within n lo hi = false := by simp [within, h]
theorem within_high {n lo hi : Int} (h : ¬ n ≤ hi) : within n lo hi = false := by simp [within, h]
theorem within_iff {n lo hi : Int} : within n lo hi = true ↔ lo ≤ n ∧ n ≤ hi := by simp [within]
theorem within_no {n lo hi : Int} (h : within n lo hi = false) : n < lo ∨ hi < n := by
  by_cases h1 : lo ≤ n
  · by_cases h2 : n ≤ hi
    · rw [within_true h1 h2] at h; cases h
    · omega
  · omega

/-- A pair whose first number is up to a and from lo on, the second from lo' up to b. -/
def pairB (x y lo a lo' b : Int) : Bool := within x lo a && within y lo' b
theorem pair_true {x y lo a lo' b : Int} (h1 : within x lo a = true) (h2 : within y lo' b = true) : pairB x y lo a lo' b = true := by simp [pairB, h1, h2]
theorem pair_one {x y lo a lo' b : Int} (h1 : within x lo a = false) : pairB x y lo a lo' b = false := by simp [pairB, h1]
theorem pair_two {x y lo a lo' b : Int} (h2 : within y lo' b = false) : pairB x y lo a lo' b = false := by simp [pairB, h2]
theorem pair_iff {x y lo a lo' b : Int} : pairB x y lo a lo' b = true ↔ (lo ≤ x ∧ x ≤ a) ∧ (lo' ≤ y ∧ y ≤ b) := by simp [pairB, within_iff]

/-- The order of two pairs. -/
def ord (a b c d : Int) : Int := if a < c then -1 else if c < a then 1 else if b < d then -1 else if d < b then 1 else 0
theorem ord_lt {a b c d : Int} (h : a < c) : ord a b c d = -1 := by simp [ord, h]
theorem ord_gt {a b c d : Int} (h : c < a) : ord a b c d = 1 := by
  have : ¬ a < c := by omega
  simp [ord, h, this]
theorem ord_lt2 {a b d : Int} (h : b < d) : ord a b a d = -1 := by simp [ord, h]
theorem ord_gt2 {a b d : Int} (h : d < b) : ord a b a d = 1 := by
  have : ¬ b < d := by omega
  simp [ord, h, this]
theorem ord_same (a b : Int) : ord a b a b = 0 := by simp [ord]

/-- The next of a pair: its first number, its second, and why there is none. 'b': the last second number. -/
def okB (x y k b : Int) : Bool := pairB x y 0 1099511627776 0 b && within k 0 b
def topB (x : Int) : Bool := decide (x = 1099511627776)
def nx (x y k b : Int) : Int := if okB x y k b then (if topB x then 0 else x + 1) else 0
def ny (x y k b : Int) : Int := if okB x y k b then (if topB x then 0 else k) else 0
def ne (x y k b : Int) : Int := if okB x y k b then (if topB x then 2 else 0) else 1
theorem n_arg {x y k b : Int} (h : okB x y k b = false) : nx x y k b = 0 ∧ ny x y k b = 0 ∧ ne x y k b = 1 := by simp [nx, ny, ne, h]
theorem n_top {x y k b : Int} (h : okB x y k b = true) (t : topB x = true) : nx x y k b = 0 ∧ ny x y k b = 0 ∧ ne x y k b = 2 := by simp [nx, ny, ne, h, t]
theorem n_ok {x y k b : Int} (h : okB x y k b = true) (t : topB x = false) : nx x y k b = x + 1 ∧ ny x y k b = k ∧ ne x y k b = 0 := by simp [nx, ny, ne, h, t]
theorem ok_iff {x y k b : Int} : okB x y k b = true ↔ ((0 ≤ x ∧ x ≤ 1099511627776) ∧ (0 ≤ y ∧ y ≤ b)) ∧ (0 ≤ k ∧ k ≤ b) := by simp [okB, pair_iff, within_iff]
theorem ok_pair {x y k b : Int} (h : pairB x y 0 1099511627776 0 b = false) : okB x y k b = false := by simp [okB, h]
theorem ok_who {x y k b : Int} (h : within k 0 b = false) : okB x y k b = false := by simp [okB, h]
theorem ok_both {x y k b : Int} (h : pairB x y 0 1099511627776 0 b = true) (h' : within k 0 b = true) : okB x y k b = true := by simp [okB, h, h']
end M
end Go.Proofs.Ytccokdhobkcnpaa
