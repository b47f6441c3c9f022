/- Contracts of the document's own Has, With, Without; no conditions. -/
import Derived.Test.YtcombmifjimkoaaWalksE
namespace Go.Proofs.Ytcombmifjimkoaa
open Go.RowKit

namespace M
/-- Not among the first k. -/
def nope (a : Nat → Int) (r s : Int) (k : Nat) : Prop := ∀ j : Nat, j < k → ¬ (r = j ∧ 1 ≤ s ∧ s ≤ a j)
theorem nope_zero (a : Nat → Int) (r s : Int) : nope a r s 0 := fun j h => by omega
theorem nope_succ {a : Nat → Int} {r s : Int} {k : Nat} (h : nope a r s k) (h0 : ¬ (r = k ∧ 1 ≤ s ∧ s ≤ a k)) : nope a r s (k + 1) := fun j hj => by
  by_cases e : j = k
  · subst e; exact h0
  · exact h j (by omega)
theorem has_nope {a : Nat → Int} {r s : Int} (h : nope a r s 7) : has a r s = false := by
  cases e : has a r s
  · rfl
  · have g := has_iff.1 e
    exact absurd ⟨by omega, g.2.1, g.2.2⟩ (h r.toNat (by omega))
theorem has_yes {a : Nat → Int} {k : Nat} {s : Int} (hk : k < 7) (h : 1 ≤ s) (h1 : s ≤ a k) : has a k s = true := by
  rw [has_at hk h]; simpa using h1
/-- The first k as in g, the others as in f. -/
def part (f g : Nat → Int) (k j : Nat) : Int := if j < k then g j else f j
theorem part_zero (f g : Nat → Int) : part f g 0 = f := by funext j; simp [part]
theorem part_at (f g : Nat → Int) (k : Nat) : part f g k k = f k := by simp [part]
def upd (f : Nat → Int) (k : Nat) (v : Int) (j : Nat) : Int := if j = k then v else f j
theorem part_upd (f g : Nat → Int) (k : Nat) : upd (part f g k) k (g k) = part f g (k + 1) := by
  funext j
  unfold upd part
  by_cases e : j = k
  · subst e; simp
  · rw [if_neg e]
    by_cases l : j < k
    · rw [if_pos l, if_pos (by omega)]
    · rw [if_neg l, if_neg (by omega)]
theorem part_same {f g : Nat → Int} {k : Nat} (h : g k = f k) : part f g k = part f g (k + 1) := by
  funext j
  unfold part
  by_cases e : j = k
  · subst e; simp [h]
  · by_cases l : j < k
    · rw [if_pos l, if_pos (by omega)]
    · rw [if_neg l, if_neg (by omega)]
theorem part_all (f g : Nat → Int) {j : Nat} (h : j < 7) : part f g 7 j = g j := by simp [part, h]
theorem wit_up {a : Nat → Int} {k : Nat} {s : Int} (h : a k < s) : wit a k s k = s := by simp [wit, mx, h]
theorem wit_is {a : Nat → Int} {r s : Int} {k : Nat} (h : ¬ (r = k ∧ a k < s)) : wit a r s k = a k := by
  unfold wit mx
  split
  · split <;> omega
  · rfl
theorem out_up {a : Nat → Int} {k : Nat} {s : Int} (h0 : 1 ≤ s) (h : s ≤ a k) : out a k s k = s - 1 := by
  unfold out mn
  rw [if_pos ⟨rfl, h0⟩, if_pos (by omega)]
theorem out_is {a : Nat → Int} {r s : Int} {k : Nat} (h : ¬ (r = k ∧ 1 ≤ s ∧ s ≤ a k)) : out a r s k = a k := by
  unfold out mn
  split
  · split <;> omega
  · rfl
end M

/-- Seven numbers, a pair, a place for the answer. -/
def Wl (w : World) (f : Nat → Int) (r s : Int) : World := ((w.alloc (.cells #[.int .i64 (f 0), .int .i64 (f 1), .int .i64 (f 2), .int .i64 (f 3), .int .i64 (f 4), .int .i64 (f 5), .int .i64 (f 6)] 23)).alloc (.cells #[.int .i64 r, .int .i64 s] 25)).alloc (.cells #[.int .i64 0, .int .i64 0, .int .i64 0, .int .i64 0, .int .i64 0, .int .i64 0, .int .i64 0] 23)
theorem Wl_below (w : World) (f : Nat → Int) (r s : Int) : Below w.heap.size w (Wl w f r s) := below_new (below_new (below_new (Below.refl _ _)))
theorem Wl_cell (w : World) (f : Nat → Int) (r s : Int) (k : Nat) (h : k < 7) : (Wl w f r s).cell? ⟨w.heap.size, k, none⟩ = some (.int .i64 (f k)) := by
  unfold Wl
  rw [World.cell?_alloc_lt _ _ _ (by simp; omega), World.cell?_alloc_lt _ _ _ (by simp)]
  exact cell7 w f k h
theorem Wl_frozen (w : World) (f : Nat → Int) (r s : Int) (k : Nat) (h : k < 7) : (Wl w f r s).frozen? ⟨w.heap.size, k, none⟩ = false := by
  unfold Wl
  rcases M.seven h with rfl | rfl | rfl | rfl | rfl | rfl | rfl <;> simp [go_sem]
theorem Wl_r (w : World) (f : Nat → Int) (r s : Int) : (Wl w f r s).cell? ⟨w.heap.size + 1, 0, none⟩ = some (.int .i64 r) := by
  unfold Wl; simp [go_sem]
theorem Wl_s (w : World) (f : Nat → Int) (r s : Int) : (Wl w f r s).cell? ⟨w.heap.size + 1, 1, none⟩ = some (.int .i64 s) := by
  unfold Wl; simp [go_sem]
theorem Wl_set (w : World) (f : Nat → Int) (r s v : Int) (k : Nat) (h : k < 7) : (Wl w f r s).setCell ⟨w.heap.size, k, none⟩ (.int .i64 v) = Wl w (M.upd f k v) r s := by
  unfold Wl
  rcases M.seven h with rfl | rfl | rfl | rfl | rfl | rfl | rfl <;> simp [M.upd, go_sem]
theorem Wl_drewN (w : World) (f : Nat → Int) (r s : Int) (n : Nat) : (Wl w f r s).drewN n = Wl (w.drewN n) f r s := rfl

set_option maxHeartbeats 1000000 in
theorem refHas_any (a : Nat → Int) (r s : Int) (w : World) :
    Calls Try.prog 12 #[.agg #[.int .i64 (a 0), .int .i64 (a 1), .int .i64 (a 2), .int .i64 (a 3), .int .i64 (a 4), .int .i64 (a 5), .int .i64 (a 6)], .agg #[.int .i64 r, .int .i64 s]] w fun e w' => e = .returned (.bool (M.has a r s)) ∧ Below w.heap.size w w' := by
  have HB := Lib.hid (show Below w.heap.size w ((w.alloc (.cells #[.int .i64 (a 0), .int .i64 (a 1), .int .i64 (a 2), .int .i64 (a 3), .int .i64 (a 4), .int .i64 (a 5), .int .i64 (a 6)] 23)).alloc (.cells #[.int .i64 r, .int .i64 s] 25)) from below_new (below_new (Below.refl _ _)))
  have HC := Lib.hid (show ∀ k, k < 7 → ((w.alloc (.cells #[.int .i64 (a 0), .int .i64 (a 1), .int .i64 (a 2), .int .i64 (a 3), .int .i64 (a 4), .int .i64 (a 5), .int .i64 (a 6)] 23)).alloc (.cells #[.int .i64 r, .int .i64 s] 25)).cell? ⟨w.heap.size, k, none⟩ = some (.int .i64 (a k)) from fun k hk => (World.cell?_alloc_lt _ _ _ (by simp)).trans (cell7 w a k hk))
  have HR := Lib.hid (show ((w.alloc (.cells #[.int .i64 (a 0), .int .i64 (a 1), .int .i64 (a 2), .int .i64 (a 3), .int .i64 (a 4), .int .i64 (a 5), .int .i64 (a 6)] 23)).alloc (.cells #[.int .i64 r, .int .i64 s] 25)).cell? ⟨w.heap.size + 1, 0, none⟩ = some (.int .i64 r) by simp)
  have HS := Lib.hid (show ((w.alloc (.cells #[.int .i64 (a 0), .int .i64 (a 1), .int .i64 (a 2), .int .i64 (a 3), .int .i64 (a 4), .int .i64 (a 5), .int .i64 (a 6)] 23)).alloc (.cells #[.int .i64 r, .int .i64 s] 25)).cell? ⟨w.heap.size + 1, 1, none⟩ = some (.int .i64 s) by simp)
  go_enter Try.func12, Try.ntmps12
  go_wp2
  generalize (w.alloc (.cells #[.int .i64 (a 0), .int .i64 (a 1), .int .i64 (a 2), .int .i64 (a 3), .int .i64 (a 4), .int .i64 (a 5), .int .i64 (a 6)] 23)).alloc (.cells #[.int .i64 r, .int .i64 s] 25) = w0 at HC HR HS HB ⊢
  go_loopw [5] (fun i wr => ∃ k n : Nat, k ≤ 7 ∧ i = .int .i64 k ∧ M.nope a r s k ∧ wr = w0.drewN n) (fun i _ => 7 - (intOf i).toNat)
  case atStart => exact ⟨0, 0, by omega, rfl, M.nope_zero a r s, rfl⟩
  case round =>
    obtain ⟨k, n, hk, rfl, hr, rfl⟩ := hrel
    have HN := Lib.hid hr
    clear hr
    by_cases hlt : k < 7
    · have hcell := HC.out k hlt
      have hr := HR.out
      have hs := HS.out
      by_cases h0 : r = k
      · subst h0
        by_cases h1 : 0 < s
        · by_cases h2 : s ≤ a k
          · go_wp2
            go_quiet (fail)
            go_wp2
            go_ret
            exact ⟨ret_bool (M.has_yes hlt (by omega) (by omega)).symm, below_drewN (below_drewN HB.out _) _⟩
          · have h3 : decide (s ≤ a k) = false := by simpa using h2
            go_wp2
            go_quiet (fail)
            go_wp2
            go_roundw
            case rel => exact ⟨k + 1, _, by omega, by go_num, M.nope_succ HN.out (by omega), rfl⟩
            case measure => simp [intOf]; omega
        · have h3 : decide (0 < s) = false := by simpa using h1
          go_wp2
          go_quiet (fail)
          go_wp2
          go_roundw
          case rel => exact ⟨k + 1, _, by omega, by go_num, M.nope_succ HN.out (by omega), rfl⟩
          case measure => simp [intOf]; omega
      · have h3 : (r == (k : Int)) = false := by simpa using h0
        go_wp2
        go_quiet (fail)
        go_wp2
        go_roundw
        case rel => exact ⟨k + 1, _, by omega, by go_num, M.nope_succ HN.out (by omega), rfl⟩
        case measure => simp [intOf]; omega
    · obtain rfl : k = 7 := by omega
      go_wp2
      go_ret
      exact ⟨ret_bool (M.has_nope HN.out).symm, below_drewN HB.out _⟩

set_option maxHeartbeats 1000000 in
theorem refWith_any (a : Nat → Int) (r s : Int) (w : World) :
    Calls Try.prog 18 #[.agg #[.int .i64 (a 0), .int .i64 (a 1), .int .i64 (a 2), .int .i64 (a 3), .int .i64 (a 4), .int .i64 (a 5), .int .i64 (a 6)], .agg #[.int .i64 r, .int .i64 s]] w fun e w' => e = .returned (.agg #[.int .i64 (M.wit a r s 0), .int .i64 (M.wit a r s 1), .int .i64 (M.wit a r s 2), .int .i64 (M.wit a r s 3), .int .i64 (M.wit a r s 4), .int .i64 (M.wit a r s 5), .int .i64 (M.wit a r s 6)]) ∧ Below w.heap.size w w' := by
  go_enter Try.func18, Try.ntmps18
  go_wp2
  go_loopw [5] (fun i wr => ∃ k n : Nat, k ≤ 7 ∧ i = .int .i64 k ∧ wr = (Wl w (M.part a (M.wit a r s) k) r s).drewN n) (fun i _ => 7 - (intOf i).toNat)
  case atStart => exact ⟨0, 0, by omega, rfl, by rw [M.part_zero]; rfl⟩
  case round =>
    obtain ⟨k, n, hk, rfl, rfl⟩ := hrel
    by_cases hlt : k < 7
    · have hcell := Wl_cell w (M.part a (M.wit a r s) k) r s k hlt
      have hfz := Wl_frozen w (M.part a (M.wit a r s) k) r s k hlt
      rw [M.part_at] at hcell
      have hr := Wl_r w (M.part a (M.wit a r s) k) r s
      have hs := Wl_s w (M.part a (M.wit a r s) k) r s
      by_cases h0 : r = k
      · subst h0
        by_cases h1 : a k < s
        · have HW := Lib.hid (Wl_set w (M.part a (M.wit a k s) k) k s s k hlt)
          have HU := Lib.hid (M.part_upd a (M.wit a k s) k)
          rw [M.wit_up h1] at HU
          go_wp2
          go_quiet (fail)
          go_wp2
          go_roundw
          case rel => exact ⟨k + 1, _, by omega, by go_num, by rw [← HU.out, ← HW.out]; rfl⟩
          case measure => simp [intOf]; omega
        · have h3 : decide (a k < s) = false := by simpa using h1
          have HU := Lib.hid (M.part_same (M.wit_is (a := a) (r := k) (s := s) (k := k) (by omega)))
          go_wp2
          go_quiet (fail)
          go_wp2
          go_roundw
          case rel => exact ⟨k + 1, _, by omega, by go_num, by rw [← HU.out]⟩
          case measure => simp [intOf]; omega
      · have h3 : (r == (k : Int)) = false := by simpa using h0
        have HU := Lib.hid (M.part_same (M.wit_is (a := a) (r := r) (s := s) (k := k) (by omega)))
        go_wp2
        go_quiet (fail)
        go_wp2
        go_roundw
        case rel => exact ⟨k + 1, _, by omega, by go_num, by rw [← HU.out]⟩
        case measure => simp [intOf]; omega
    · obtain rfl : k = 7 := by omega
      have HB := Lib.hid (show Below w.heap.size w (w.drewN n) from below_drewN (Below.refl _ _) n)
      rw [Wl_drewN, show w.heap.size = (w.drewN n).heap.size from rfl]
      generalize w.drewN n = w0 at HB ⊢
      unfold Wl
      simp only [M.part_all _ _ (show 0 < 7 by omega), M.part_all _ _ (show 1 < 7 by omega), M.part_all _ _ (show 2 < 7 by omega), M.part_all _ _ (show 3 < 7 by omega), M.part_all _ _ (show 4 < 7 by omega), M.part_all _ _ (show 5 < 7 by omega), M.part_all _ _ (show 6 < 7 by omega)]
      go_wp2
      exact bodyPost_ret (v := .agg #[.int .i64 (M.wit a r s 0), .int .i64 (M.wit a r s 1), .int .i64 (M.wit a r s 2), .int .i64 (M.wit a r s 3), .int .i64 (M.wit a r s 4), .int .i64 (M.wit a r s 5), .int .i64 (M.wit a r s 6)]) (by simp [results, Try.results18, go_sem]) rfl ⟨rfl, below_new (below_new (below_new HB.out))⟩

set_option maxHeartbeats 1000000 in
theorem refWithout_any (a : Nat → Int) (r s : Int) (w : World) (hs : s ≤ 9223372036854775807) :
    Calls Try.prog 20 #[.agg #[.int .i64 (a 0), .int .i64 (a 1), .int .i64 (a 2), .int .i64 (a 3), .int .i64 (a 4), .int .i64 (a 5), .int .i64 (a 6)], .agg #[.int .i64 r, .int .i64 s]] w fun e w' => e = .returned (.agg #[.int .i64 (M.out a r s 0), .int .i64 (M.out a r s 1), .int .i64 (M.out a r s 2), .int .i64 (M.out a r s 3), .int .i64 (M.out a r s 4), .int .i64 (M.out a r s 5), .int .i64 (M.out a r s 6)]) ∧ Below w.heap.size w w' := by
  go_enter Try.func20, Try.ntmps20
  go_wp2
  go_loopw [5] (fun i wr => ∃ k n : Nat, k ≤ 7 ∧ i = .int .i64 k ∧ wr = (Wl w (M.part a (M.out a r s) k) r s).drewN n) (fun i _ => 7 - (intOf i).toNat)
  case atStart => exact ⟨0, 0, by omega, rfl, by rw [M.part_zero]; rfl⟩
  case round =>
    obtain ⟨k, n, hk, rfl, rfl⟩ := hrel
    by_cases hlt : k < 7
    · have hcell := Wl_cell w (M.part a (M.out a r s) k) r s k hlt
      have hfz := Wl_frozen w (M.part a (M.out a r s) k) r s k hlt
      rw [M.part_at] at hcell
      have hr := Wl_r w (M.part a (M.out a r s) k) r s
      have hsc := Wl_s w (M.part a (M.out a r s) k) r s
      by_cases h0 : r = k
      · subst h0
        by_cases h0 : 1 ≤ s
        · by_cases h1 : s ≤ a k
          · have HW := Lib.hid (Wl_set w (M.part a (M.out a k s) k) k s (s - 1) k hlt)
            have HU := Lib.hid (M.part_upd a (M.out a k s) k)
            rw [M.out_up h0 h1] at HU
            go_wp2
            go_quiet (fail)
            go_wp2
            go_roundw
            case rel => exact ⟨k + 1, _, by omega, by go_num, by rw [← HU.out, ← HW.out]; rfl⟩
            case measure => simp [intOf]; omega
          · have h3 : decide (s ≤ a k) = false := by simpa using h1
            have HU := Lib.hid (M.part_same (M.out_is (a := a) (r := k) (s := s) (k := k) (by omega)))
            go_wp2
            go_quiet (fail)
            go_wp2
            go_roundw
            case rel => exact ⟨k + 1, _, by omega, by go_num, by rw [← HU.out]⟩
            case measure => simp [intOf]; omega
        · have h3 : decide (1 ≤ s) = false := by simpa using h0
          have HU := Lib.hid (M.part_same (M.out_is (a := a) (r := k) (s := s) (k := k) (by omega)))
          go_wp2
          go_quiet (fail)
          go_wp2
          go_roundw
          case rel => exact ⟨k + 1, _, by omega, by go_num, by rw [← HU.out]⟩
          case measure => simp [intOf]; omega
      · have h3 : (r == (k : Int)) = false := by simpa using h0
        have HU := Lib.hid (M.part_same (M.out_is (a := a) (r := r) (s := s) (k := k) (by omega)))
        go_wp2
        go_quiet (fail)
        go_wp2
        go_roundw
        case rel => exact ⟨k + 1, _, by omega, by go_num, by rw [← HU.out]⟩
        case measure => simp [intOf]; omega
    · obtain rfl : k = 7 := by omega
      have HB := Lib.hid (show Below w.heap.size w (w.drewN n) from below_drewN (Below.refl _ _) n)
      rw [Wl_drewN, show w.heap.size = (w.drewN n).heap.size from rfl]
      generalize w.drewN n = w0 at HB ⊢
      unfold Wl
      simp only [M.part_all _ _ (show 0 < 7 by omega), M.part_all _ _ (show 1 < 7 by omega), M.part_all _ _ (show 2 < 7 by omega), M.part_all _ _ (show 3 < 7 by omega), M.part_all _ _ (show 4 < 7 by omega), M.part_all _ _ (show 5 < 7 by omega), M.part_all _ _ (show 6 < 7 by omega)]
      go_wp2
      exact bodyPost_ret (v := .agg #[.int .i64 (M.out a r s 0), .int .i64 (M.out a r s 1), .int .i64 (M.out a r s 2), .int .i64 (M.out a r s 3), .int .i64 (M.out a r s 4), .int .i64 (M.out a r s 5), .int .i64 (M.out a r s 6)]) (by simp [results, Try.results20, go_sem]) rfl ⟨rfl, below_new (below_new (below_new HB.out))⟩
end Go.Proofs.Ytcombmifjimkoaa
