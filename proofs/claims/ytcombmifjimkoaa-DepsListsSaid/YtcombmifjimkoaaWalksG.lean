/- Contract of the document's own Join; no conditions. -/
import Derived.Test.YtcombmifjimkoaaWalksF
namespace Go.Proofs.Ytcombmifjimkoaa
open Go.RowKit

theorem M.join_up {a b : Nat → Int} {k : Nat} (h : a k < b k) : M.join a b k = b k := by simp [M.join, M.mx, h]
theorem M.join_is {a b : Nat → Int} {k : Nat} (h : ¬ a k < b k) : M.join a b k = a k := by simp [M.join, M.mx, h]

/-- Seven and seven, a place for the answer, and seven. -/
def Jl (w : World) (a b f : Nat → Int) : World := (((w.alloc (.cells #[.int .i64 (a 0), .int .i64 (a 1), .int .i64 (a 2), .int .i64 (a 3), .int .i64 (a 4), .int .i64 (a 5), .int .i64 (a 6)] 23)).alloc (.cells #[.int .i64 (b 0), .int .i64 (b 1), .int .i64 (b 2), .int .i64 (b 3), .int .i64 (b 4), .int .i64 (b 5), .int .i64 (b 6)] 23)).alloc (.cells #[.int .i64 0, .int .i64 0, .int .i64 0, .int .i64 0, .int .i64 0, .int .i64 0, .int .i64 0] 23)).alloc (.cells #[.int .i64 (f 0), .int .i64 (f 1), .int .i64 (f 2), .int .i64 (f 3), .int .i64 (f 4), .int .i64 (f 5), .int .i64 (f 6)] 23)
theorem Jl_a (w : World) (a b f : Nat → Int) (k : Nat) (h : k < 7) : (Jl w a b f).cell? ⟨w.heap.size, k, none⟩ = some (.int .i64 (a k)) := by
  unfold Jl
  rcases M.seven h with rfl | rfl | rfl | rfl | rfl | rfl | rfl <;> simp [go_sem]
theorem Jl_b (w : World) (a b f : Nat → Int) (k : Nat) (h : k < 7) : (Jl w a b f).cell? ⟨w.heap.size + 1, k, none⟩ = some (.int .i64 (b k)) := by
  unfold Jl
  rcases M.seven h with rfl | rfl | rfl | rfl | rfl | rfl | rfl <;> simp [go_sem]
theorem Jl_c (w : World) (a b f : Nat → Int) (k : Nat) (h : k < 7) : (Jl w a b f).cell? ⟨w.heap.size + 3, k, none⟩ = some (.int .i64 (f k)) := by
  unfold Jl
  rcases M.seven h with rfl | rfl | rfl | rfl | rfl | rfl | rfl <;> simp [go_sem]
theorem Jl_frozen (w : World) (a b f : Nat → Int) (k : Nat) (h : k < 7) : (Jl w a b f).frozen? ⟨w.heap.size + 3, k, none⟩ = false := by
  unfold Jl
  rcases M.seven h with rfl | rfl | rfl | rfl | rfl | rfl | rfl <;> simp [go_sem]
theorem Jl_set (w : World) (a b f : Nat → Int) (v : Int) (k : Nat) (h : k < 7) : (Jl w a b f).setCell ⟨w.heap.size + 3, k, none⟩ (.int .i64 v) = Jl w a b (M.upd f k v) := by
  unfold Jl
  rcases M.seven h with rfl | rfl | rfl | rfl | rfl | rfl | rfl <;> simp [M.upd, go_sem]
theorem Jl_drewN (w : World) (a b f : Nat → Int) (n : Nat) : (Jl w a b f).drewN n = Jl (w.drewN n) a b f := rfl
theorem set_drewN (w : World) (n : Nat) (p : Addr) (v : Value) : (w.drewN n).setCell p v = (w.setCell p v).drewN n := rfl
theorem M.upd_upd (f : Nat → Int) (k : Nat) (u v : Int) : M.upd (M.upd f k u) k v = M.upd f k v := by
  funext j
  unfold M.upd
  split <;> rfl

set_option maxHeartbeats 1000000 in
theorem refJoin_any (a b : Nat → Int) (w : World) :
    Calls Try.prog 14 #[.agg #[.int .i64 (a 0), .int .i64 (a 1), .int .i64 (a 2), .int .i64 (a 3), .int .i64 (a 4), .int .i64 (a 5), .int .i64 (a 6)], .agg #[.int .i64 (b 0), .int .i64 (b 1), .int .i64 (b 2), .int .i64 (b 3), .int .i64 (b 4), .int .i64 (b 5), .int .i64 (b 6)]] w fun e w' => e = .returned (.agg #[.int .i64 (M.join a b 0), .int .i64 (M.join a b 1), .int .i64 (M.join a b 2), .int .i64 (M.join a b 3), .int .i64 (M.join a b 4), .int .i64 (M.join a b 5), .int .i64 (M.join a b 6)]) ∧ Below w.heap.size w w' := by
  go_enter Try.func14, Try.ntmps14
  go_wp2
  go_loopw [6] (fun i wr => ∃ k n : Nat, k ≤ 7 ∧ i = .int .i64 k ∧ wr = (Jl w a b (M.part M.zf (M.join a b) k)).drewN n) (fun i _ => 7 - (intOf i).toNat)
  case atStart => exact ⟨0, 0, by omega, rfl, by rw [M.part_zero]; rfl⟩
  case round =>
    obtain ⟨k, n, hk, rfl, rfl⟩ := hrel
    by_cases hlt : k < 7
    · have hca := Jl_a w a b (M.part M.zf (M.join a b) k) k hlt
      have hcb := Jl_b w a b (M.part M.zf (M.join a b) k) k hlt
      have hcc := Jl_c w a b (M.part M.zf (M.join a b) k) k hlt
      have hfz := Jl_frozen w a b (M.part M.zf (M.join a b) k) k hlt
      have HU := Lib.hid (M.part_upd M.zf (M.join a b) k)
      have HA := Lib.hid (Jl_set w a b (M.part M.zf (M.join a b) k) (a k) k hlt)
      have HB := Lib.hid (Jl_set w a b (M.upd (M.part M.zf (M.join a b) k) k (a k)) (b k) k hlt)
      by_cases h1 : a k < b k
      · rw [M.join_up h1] at HU
        go_wp2
        go_quiet (fail)
        go_wp2
        go_roundw
        case rel => exact ⟨k + 1, n + nq, by omega, by go_num, by rw [← HU.out, ← M.upd_upd _ k (a k), ← HB.out, ← HA.out]; simp only [set_drewN, World.drewN_drewN]⟩
        case measure => simp [intOf]; omega
      · rw [M.join_is h1] at HU
        have h2 : decide (a k < b k) = false := by simpa using h1
        go_wp2
        go_quiet (fail)
        go_wp2
        go_roundw
        case rel => exact ⟨k + 1, n + nq, by omega, by go_num, by rw [← HU.out, ← HA.out]; simp only [set_drewN, World.drewN_drewN]⟩
        case measure => simp [intOf]; omega
    · obtain rfl : k = 7 := by omega
      have HB := Lib.hid (show Below w.heap.size w (w.drewN n) from below_drewN (Below.refl _ _) n)
      rw [Jl_drewN, show w.heap.size = (w.drewN n).heap.size from rfl]
      generalize w.drewN n = w0 at HB ⊢
      unfold Jl
      simp only [M.part_all _ _ (show 0 < 7 by omega), M.part_all _ _ (show 1 < 7 by omega), M.part_all _ _ (show 2 < 7 by omega), M.part_all _ _ (show 3 < 7 by omega), M.part_all _ _ (show 4 < 7 by omega), M.part_all _ _ (show 5 < 7 by omega), M.part_all _ _ (show 6 < 7 by omega)]
      go_wp2
      exact bodyPost_ret (v := .agg #[.int .i64 (M.join a b 0), .int .i64 (M.join a b 1), .int .i64 (M.join a b 2), .int .i64 (M.join a b 3), .int .i64 (M.join a b 4), .int .i64 (M.join a b 5), .int .i64 (M.join a b 6)]) (by simp [results, Try.results14, go_sem]) rfl ⟨rfl, below_new (below_new (below_new (below_new HB.out)))⟩
end Go.Proofs.Ytcombmifjimkoaa
