/- The walk of QuorumGrows: it returns true, and nothing that was there changes, over the table as the text lays it; no further conditions. -/
import Derived.Test.YtglnpdcmaamcfaaDoorWalksF
namespace Go.Proofs.YtglnpdcmaamcfaaDoor
open Go.RowKit

namespace M
theorem with_ge (s k : Int) (j : Nat) (hj : j < 7) : bt s j ≤ bt (withOf s k) j := by
  have h1 := bt_01 s j
  unfold withOf
  cases hr : repB k
  · simp
  · rw [if_pos rfl, or_bt _ _ _ hj]
    split
    · omega
    · rename_i h
      have : ¬ bt s j = 1 := fun e => h (Or.inl e)
      omega
theorem with_cnt_ge (s k : Int) : cnt s ≤ cnt (withOf s k) := by
  have h0 := with_ge s k 0 (by decide)
  have h1 := with_ge s k 1 (by decide)
  have h2 := with_ge s k 2 (by decide)
  have h3 := with_ge s k 3 (by decide)
  have h4 := with_ge s k 4 (by decide)
  have h5 := with_ge s k 5 (by decide)
  have h6 := with_ge s k 6 (by decide)
  unfold cnt
  omega
theorem with_le (s k : Int) (hk : repB k = true) (j : Nat) (hj : j < 7) : bt (withOf s k) j ≤ bt s j + (if j = k.toNat then 1 else 0) := by
  have h1 := bt_01 s j
  obtain ⟨a, b⟩ := rep_iff.1 hk
  unfold withOf
  rw [hk, if_pos rfl, or_bt _ _ _ hj, pow_bt _ _ (by omega) hj]
  by_cases e : j = k.toNat
  · subst e
    simp only [if_true]
    split <;> omega
  · simp only [e, if_false]
    split
    · rename_i h
      rcases h with h | h
      · omega
      · cases h
    · omega
theorem with_cnt_le (s k : Int) : cnt (withOf s k) ≤ cnt s + 1 := by
  cases hr : repB k
  · rw [with_not s k hr]; omega
  · have h0 := with_le s k hr 0 (by decide)
    have h1 := with_le s k hr 1 (by decide)
    have h2 := with_le s k hr 2 (by decide)
    have h3 := with_le s k hr 3 (by decide)
    have h4 := with_le s k hr 4 (by decide)
    have h5 := with_le s k hr 5 (by decide)
    have h6 := with_le s k hr 6 (by decide)
    obtain ⟨a, b⟩ := rep_iff.1 hr
    unfold cnt
    have hq : k.toNat < 7 := by omega
    generalize k.toNat = q at *
    rcases seven hq with rfl | rfl | rfl | rfl | rfl | rfl | rfl <;> simp at h0 h1 h2 h3 h4 h5 h6 <;> omega
theorem with_and_ge (s k m : Int) (j : Nat) (hj : j < 7) : bt (bits .and .i64 s m) j ≤ bt (bits .and .i64 (withOf s k) m) j := by
  have h := with_ge s k j hj
  have h1 := bt_01 s j
  have h2 := bt_01 (withOf s k) j
  rw [and_bt _ _ _ hj, and_bt _ _ _ hj]
  split
  · rename_i e
    rw [if_pos ⟨by omega, e.2⟩]
    omega
  · split <;> omega
theorem with_and_cnt (s k m : Int) : cnt (bits .and .i64 s m) ≤ cnt (bits .and .i64 (withOf s k) m) := by
  have h0 := with_and_ge s k m 0 (by decide)
  have h1 := with_and_ge s k m 1 (by decide)
  have h2 := with_and_ge s k m 2 (by decide)
  have h3 := with_and_ge s k m 3 (by decide)
  have h4 := with_and_ge s k m 4 (by decide)
  have h5 := with_and_ge s k m 5 (by decide)
  have h6 := with_and_ge s k m 6 (by decide)
  unfold cnt
  omega
theorem with_major (f s k : Int) (h : majB f s = true) : majB f (withOf s k) = true := by
  have c := with_and_cnt s k (allOf f)
  unfold majB at h ⊢
  simp only [Bool.and_eq_true, decide_eq_true_eq] at h ⊢
  exact ⟨h.1, by omega⟩
theorem with_has (s k x : Int) (h : hasB s x = true) : hasB (withOf s k) x = true := by
  have hr := rep_iff.2 (has_small s x h)
  rw [has_with, hr, h]
  simp
end M

theorem Tab.lt {w : World} (h : Tab w) : 0 < w.heap.size := by
  have h1 := h.1.1
  unfold World.cell? at h1
  cases hs : w.heap.size with
  | zero =>
    have : w.heap[0]? = none := by simp [hs]
    simp [this] at h1
  | succ n => omega
theorem Tab.below {w w' : World} (h : Tab w) (hb : Below w.heap.size w w') : Tab w' := by
  have hl := h.lt
  have e : ∀ o, w'.cell? ⟨0, o, none⟩ = w.cell? ⟨0, o, none⟩ := fun o => hb.cell (p := ⟨0, o, none⟩) hl
  unfold Tab at h ⊢
  simp only [e]
  exact h

/-- An owned row, as a caller reads it: nil and nothing in it, or its cells one by one. -/
theorem row_cases {w : World} {base : Nat} {v : Value} {L : List Int} (h : w.ownsRow base 3 1 v L.length (L.map (Value.int .i64))) :
    (v = .slice none 0 0 ∧ L = []) ∨ ∃ g cap, v = .slice (some ⟨g, 0, none⟩) L.length cap ∧ base ≤ g ∧ L.length ≤ cap ∧ ∀ j (hj : j < L.length), w.cell? ⟨g, j, none⟩ = some (.int .i64 L[j]) := by
  have h' := h
  obtain ⟨_, ⟨rfl, hn⟩ | ⟨g, cap, cur, rfl, hb, hg, hc, _, _, _⟩⟩ := h
  · exact Or.inl ⟨rfl, List.length_eq_zero_iff.1 hn⟩
  · refine Or.inr ⟨g, cap, rfl, hb, hc, fun j hj => ?_⟩
    have := h'.cells (g := g) rfl j (.int .i64 L[j]) (by simp [hj])
    by_cases h0 : j = 0
    · subst h0; simpa [Addr.add] using this
    · simpa [Addr.add, h0] using this

/-- The list of a set's replicas, as QuorumGrows reads it. -/
theorem row_grows {w : World} {base : Nat} {v : Value} {s : Int} (h : w.ownsRow base 3 1 v (M.mem s 7).length ((M.mem s 7).map (Value.int .i64))) :
    v = .slice none 0 0 ∨ ∃ g cap n, v = .slice (some ⟨g, 0, none⟩) n cap ∧ n ≤ 7 ∧ n ≤ cap ∧ ∀ j, j < n → ∃ x, M.hasB s x = true ∧ w.cell? ⟨g, j, none⟩ = some (.int .i64 x) := by
  rcases row_cases h with ⟨rfl, _⟩ | ⟨g, cap, rfl, _, hc, hcells⟩
  · exact Or.inl rfl
  · exact Or.inr ⟨g, cap, _, rfl, M.mem_le s 7, hc, fun j hj => ⟨_, M.mem_in s 7 (by decide) _ (List.getElem_mem hj), hcells j hj⟩⟩

set_option maxHeartbeats 2000000 in
theorem grows_law (f s k : Int) (w : World) (hT : Tab w) :
    Calls Tryd.prog 9 #[.int .i64 f, .int .i64 s, .int .i64 k] w fun e w' => e = .returned (.bool true) ∧ Below w.heap.size w w' := by
  have HT := Lib.hid hT
  clear hT
  have hc1 := M.with_cnt_ge s k
  have hc2 := M.with_cnt_le s k
  have hb1 := M.cnt_bd s
  have hb2 := M.cnt_bd (M.withOf s k)
  have hm : (M.majB f s = true ∧ M.majB f (M.withOf s k) = true) ∨ M.majB f s = false := by
    cases h : M.majB f s
    · exact Or.inr rfl
    · exact Or.inl ⟨rfl, M.with_major f s k h⟩
  go_enter Tryd.func9, Tryd.ntmps9
  go_wp2_with (go_at_call 23; refine (with_any _ _ _).mono ?_; rintro e w' ⟨rfl, rfl⟩)
  refine (members_any _ _).mono ?_
  rintro e w1 ⟨v, rfl, hown, hbel⟩
  have HT1 := Lib.hid (HT.out.below hbel)
  have HB := Lib.hid hbel
  clear hbel
  rcases row_grows hown with rfl | ⟨g, cap, n, rfl, hn, hcap, hcells⟩
  · clear hown
    go_wp2_with (fail)
    go_loop [16] (fun i => i = .int .i64 0) (fun _ => 0)
    case atStart => rfl
    case round =>
      obtain rfl := hrel
      rcases hm with ⟨m1, m2⟩ | m1 <;>
      · go_wp2_with (first
          | (go_at_call 28; refine (major_any _ _ _ HT1.out).mono ?_; rintro e w' ⟨rfl, rfl⟩)
          | (go_at_call 16; refine (count_any _ _).mono ?_; rintro e w' ⟨rfl, rfl⟩)
          | (go_at_call 18; refine (awake_any _ HT1.out).mono ?_; rintro e w' ⟨rfl, rfl⟩))
        go_ret
        exact ⟨rfl, HB.out⟩
  · clear hown
    have HC := Lib.hid hcells
    clear hcells
    go_wp2_with (fail)
    go_loop [16] (fun i => ∃ j : Nat, j ≤ n ∧ i = .int .i64 j) (fun i => n - (intOf i).toNat)
    case atStart => exact ⟨0, Nat.zero_le _, rfl⟩
    case round =>
      obtain ⟨j, hj, rfl⟩ := hrel
      by_cases hlt : j < n
      · obtain ⟨x, hx, hcell⟩ := HC.out j hlt
        have hx' := M.with_has s k x hx
        clear hx hm hc1 hc2 hb1 hb2
        go_wp2_with (go_at_call 21; refine (has_any _ _ _).mono ?_; rintro e w' ⟨rfl, rfl⟩)
        go_round
        case rel => exact ⟨j + 1, by omega, by go_num⟩
        case measure => simp [intOf]; omega
      · rcases hm with ⟨m1, m2⟩ | m1 <;>
        · go_wp2_with (first
            | (go_at_call 28; refine (major_any _ _ _ HT1.out).mono ?_; rintro e w' ⟨rfl, rfl⟩)
            | (go_at_call 16; refine (count_any _ _).mono ?_; rintro e w' ⟨rfl, rfl⟩)
            | (go_at_call 18; refine (awake_any _ HT1.out).mono ?_; rintro e w' ⟨rfl, rfl⟩))
          go_ret
          exact ⟨rfl, HB.out⟩
end Go.Proofs.YtglnpdcmaamcfaaDoor
