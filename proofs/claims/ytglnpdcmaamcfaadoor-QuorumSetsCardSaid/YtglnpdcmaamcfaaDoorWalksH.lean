/- The walk of QuorumSets: it returns true, and nothing that was there changes, over the table as the text lays it; condition: the set is an int. -/
import Derived.Test.YtglnpdcmaamcfaaDoorWalksG
import Derived.OpenShut
import Derived.Deep.QuietTactic
import Derived.BigQuiet
import Derived.WalkSmall
namespace Go.Proofs.YtglnpdcmaamcfaaDoor
open Go.RowKit

set_option maxHeartbeats 1000000 in
theorem refCount_any (s : Int) (w : World) : Calls Tryd.prog 27 #[.int .i64 s] w fun e w' => e = .returned (.int .i64 (M.cnt s)) ∧ Below w.heap.size w w' := by
  have HL := Lib.hid (M.mem_len s 7)
  go_enter Tryd.func27, Tryd.ntmps27
  go_wp2_with (fail)
  refine (refMembers_any _ _).mono ?_
  rintro e w1 ⟨v, rfl, hown, hbel⟩
  have HB := Lib.hid hbel
  clear hbel
  rcases row_cases hown with ⟨rfl, hnil⟩ | ⟨g, cap, rfl, hg, hcap, hcells⟩
  · have HN := Lib.hid hnil
    clear hown hnil
    go_wp2
    go_ret
    exact ⟨ret_int (by rw [← M.cntTo_seven, ← HL.out, HN.out]; rfl), HB.out⟩
  · clear hown hcells
    go_wp2
    go_ret
    exact ⟨ret_int (by rw [← M.cntTo_seven, ← HL.out]), HB.out⟩

/-- Both lists of a set's replicas, the second laid behind the first, as QuorumSets reads them. -/
theorem two_rows {w w1 w2 : World} {v1 v2 : Value} {s : Int} (h1 : w1.ownsRow w.heap.size 3 1 v1 (M.mem s 7).length ((M.mem s 7).map (Value.int .i64)))
    (h2 : w2.ownsRow w1.heap.size 3 1 v2 (M.mem s 7).length ((M.mem s 7).map (Value.int .i64))) (hb : Below w1.heap.size w1 w2) :
    (∃ a1 c1 a2 c2, v1 = .slice a1 0 c1 ∧ v2 = .slice a2 0 c2) ∨
    ∃ g1 c1 g2 c2 n, v1 = .slice (some ⟨g1, 0, none⟩) n c1 ∧ v2 = .slice (some ⟨g2, 0, none⟩) n c2 ∧ n ≤ 7 ∧ n ≤ c1 ∧ n ≤ c2 ∧
      ∀ j, j < n → ∃ x, w2.cell? ⟨g1, j, none⟩ = some (.int .i64 x) ∧ w2.cell? ⟨g2, j, none⟩ = some (.int .i64 x) := by
  have hle := M.mem_le s 7
  have hlt := h1.lt
  rcases row_cases h1 with ⟨rfl, hnil⟩ | ⟨g1, c1, rfl, _, k1, e1⟩
  · rcases row_cases h2 with ⟨rfl, _⟩ | ⟨g2, c2, rfl, _, _, _⟩
    · exact Or.inl ⟨_, _, _, _, rfl, rfl⟩
    · exact Or.inl ⟨_, _, _, _, rfl, by rw [hnil]; rfl⟩
  · rcases row_cases h2 with ⟨rfl, hnil⟩ | ⟨g2, c2, rfl, _, k2, e2⟩
    · exact Or.inl ⟨_, _, _, _, by rw [hnil]; rfl, rfl⟩
    · refine Or.inr ⟨g1, c1, g2, c2, _, rfl, rfl, hle, k1, k2, fun j hj => ⟨_, ?_, e2 j hj⟩⟩
      have := (hlt g1 rfl).2
      exact (hb.cell (p := ⟨g1, j, none⟩) this).trans (e1 j hj)

set_option maxHeartbeats 4000000 in
theorem sets_law (f s k : Int) (w : World) (hT : Tab w) (hs : (Lit.int .i64 s).wf = true) :
    Calls Tryd.prog 4 #[.int .i64 f, .int .i64 s, .int .i64 k] w fun e w' => e = .returned (.bool true) ∧ Below w.heap.size w w' := by
  have hrng := bounds_i64 hs
  have HW := Lib.hid (show ∀ w, Calls Tryd.prog 24 #[.int .i64 s, .int .i64 k] w fun e w' => e = .returned (.int .i64 (M.withOf s k)) ∧ w = w' from fun w => refWith_any s k w hrng.1 (by omega))
  have HO := Lib.hid (show ∀ w, Calls Tryd.prog 26 #[.int .i64 s, .int .i64 k] w fun e w' => e = .returned (.int .i64 (M.withoutOf s k)) ∧ w = w' from fun w => refWithout_any s k w hrng.1 (by omega))
  have HT := Lib.hid hT
  clear hT hrng hs
  go_enter Tryd.func4, Tryd.ntmps4
  go_wp2_with (fail)
  refine (members_any _ _).mono ?_
  rintro e w1 ⟨v1, rfl, hown1, hbel1⟩
  have H1 := Lib.hid (And.intro hown1 hbel1)
  clear hown1 hbel1
  go_wp2_with (fail)
  refine (refMembers_any _ _).mono ?_
  rintro e w2 ⟨v2, rfl, hown2, hbel2⟩
  have HB := Lib.hid (show Below w.heap.size w w2 from H1.out.2.trans (hbel2.mono H1.out.2.size))
  rcases two_rows H1.out.1 hown2 hbel2 with ⟨a1, c1, a2, c2, rfl, rfl⟩ | ⟨g1, c1, g2, c2, n, rfl, rfl, hn, k1, k2, hcells⟩
  · clear hown2 hbel2
    go_wp2_with (fail)
    go_loop [21] (fun i => i = .int .i64 0) (fun _ => 0)
    case atStart => rfl
    case round =>
      obtain rfl := hrel
      go_wp2_with (first
        | (go_at_call 21; refine (has_any _ _ _).mono ?_; rintro e w' ⟨rfl, rfl⟩)
        | (go_at_call 22; refine (refHas_any _ _ _).mono ?_; rintro e w' ⟨rfl, rfl⟩)
        | (go_at_call 23; refine (with_any _ _ _).mono ?_; rintro e w' ⟨rfl, rfl⟩)
        | (go_at_call 24; refine (HW.out _).mono ?_; rintro e w' ⟨rfl, rfl⟩)
        | (go_at_call 25; refine (without_any _ _ _).mono ?_; rintro e w' ⟨rfl, rfl⟩)
        | (go_at_call 26; refine (HO.out _).mono ?_; rintro e w' ⟨rfl, rfl⟩)
        | (go_at_call 16; refine (count_any _ _).mono ?_; rintro e w' ⟨rfl, rfl⟩))
      refine (refCount_any _ _).mono ?_
      rintro e w3 ⟨rfl, hbel3⟩
      have HB3 := Lib.hid (show Below w.heap.size w w3 from HB.out.trans (hbel3.mono HB.out.size))
      have HT3 := Lib.hid (HT.out.below HB3.out)
      clear hbel3
      go_wp2_with (first
        | (go_at_call 28; refine (major_any _ _ _ HT3.out).mono ?_; rintro e w' ⟨rfl, rfl⟩)
        | (go_at_call 29; refine (refMajor_any _ _ _).mono ?_; rintro e w' ⟨rfl, rfl⟩)
        | (go_at_call 18; refine (awake_any _ HT3.out).mono ?_; rintro e w' ⟨rfl, rfl⟩))
      go_ret
      exact ⟨rfl, HB3.out⟩
  · clear hown2 hbel2
    have HC := Lib.hid hcells
    clear hcells
    go_wp2_with (fail)
    go_loopw [21] (fun i wr => ∃ j : Nat, j ≤ n ∧ i = .int .i64 j ∧ ∃ q, wr = w2.drewN q) (fun i _ => n - (intOf i).toNat)
    case atStart => exact ⟨0, Nat.zero_le _, rfl, 0, rfl⟩
    case round =>
      obtain ⟨j, hj, rfl, q, rfl⟩ := hrel
      by_cases hlt : j < n
      · obtain ⟨x, hx1, hx2⟩ := HC.out j hlt
        go_wp2
        go_quiet (fail)
        go_wp2
        go_roundw
        case rel => exact ⟨j + 1, by omega, by go_num, _, rfl⟩
        case measure => simp [intOf]; omega
      · go_wp2_with (first
          | (go_at_call 21; refine (has_any _ _ _).mono ?_; rintro e w' ⟨rfl, rfl⟩)
          | (go_at_call 22; refine (refHas_any _ _ _).mono ?_; rintro e w' ⟨rfl, rfl⟩)
          | (go_at_call 23; refine (with_any _ _ _).mono ?_; rintro e w' ⟨rfl, rfl⟩)
          | (go_at_call 24; refine (HW.out _).mono ?_; rintro e w' ⟨rfl, rfl⟩)
          | (go_at_call 25; refine (without_any _ _ _).mono ?_; rintro e w' ⟨rfl, rfl⟩)
          | (go_at_call 26; refine (HO.out _).mono ?_; rintro e w' ⟨rfl, rfl⟩)
          | (go_at_call 16; refine (count_any _ _).mono ?_; rintro e w' ⟨rfl, rfl⟩))
        refine (refCount_any _ _).mono ?_
        rintro e w3 ⟨rfl, hbel3⟩
        have HB3 := Lib.hid (show Below w.heap.size w w3 from (below_drewN HB.out q).trans (hbel3.mono HB.out.size))
        have HT3 := Lib.hid (HT.out.below HB3.out)
        clear hbel3
        go_wp2_with (first
          | (go_at_call 28; refine (major_any _ _ _ HT3.out).mono ?_; rintro e w' ⟨rfl, rfl⟩)
          | (go_at_call 29; refine (refMajor_any _ _ _).mono ?_; rintro e w' ⟨rfl, rfl⟩)
          | (go_at_call 18; refine (awake_any _ HT3.out).mono ?_; rintro e w' ⟨rfl, rfl⟩))
        go_ret
        exact ⟨rfl, HB3.out⟩
end Go.Proofs.YtglnpdcmaamcfaaDoor
