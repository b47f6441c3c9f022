/- The walks of KeysShards, KeysAlone and KeysRunes; no conditions. -/
import Derived.Test.YthjahiaomllneaaWalksE
namespace Go.Proofs.Ythjahiaomllneaa
open Go.RowKit

/-- True, and nothing that was there has changed. -/
def Yes (w : World) (e : Ending) (w' : World) : Prop := e = .returned (.bool true) ∧ Below w.heap.size w w'

set_option maxHeartbeats 1000000 in
theorem shards_law (s : ByteArray) (n : Int) (w : World) : Calls Try.prog 4 #[.string s, .int .i64 n] w (Yes w) := by
  by_cases hs : s.size ≤ 2000
  · go_enter Try.func4, Try.ntmps4
    go_wp2_with (fail)
    refine (shard_any _ _ _).mono ?_
    rintro e w1 ⟨rfl, hb⟩
    have H1 := Lib.hid hb
    clear hb
    go_wp2_with (fail)
    refine (dshard_any _ _ _).mono ?_
    rintro e w2 ⟨rfl, hb⟩
    have H2 := Lib.hid (below_on H1.out hb)
    clear hb H1
    go_wp2_with (first
      | (go_at_call 16; refine (right_any _ _).mono ?_; rintro e w' ⟨rfl, rfl⟩)
      | (go_at_call 17; refine (dright_any _ _).mono ?_; rintro e w' ⟨rfl, rfl⟩))
    refine (awake_any _).mono ?_
    rintro e w3 ⟨rfl, hb⟩
    have H3 := Lib.hid (below_on H2.out hb)
    clear hb H2
    go_wp2
    go_ret
    exact ⟨rfl, H3.out⟩
  · go_enter Try.func4, Try.ntmps4
    go_wp2_with (fail)
    refine (awake_any _).mono ?_
    rintro e w3 ⟨rfl, hb⟩
    have H3 := Lib.hid hb
    clear hb
    go_wp2
    go_ret
    exact ⟨rfl, H3.out⟩

set_option maxHeartbeats 1000000 in
set_option maxRecDepth 100000 in
theorem alone_yes (a b : ByteArray) (n : Int) (w : World) (ha : M.rightB a.size = true) (hb : M.rightB b.size = true) (h1 : 1 ≤ n) (h2 : n ≤ 4) : Calls Try.prog 8 #[.string a, .string b, .int .i64 n] w (Yes w) := by
  obtain ⟨ea, fa⟩ := M.sh_ok (M.okB_yes ha h1 h2)
  obtain ⟨eb, fb⟩ := M.sh_ok (M.okB_yes hb h1 h2)
  obtain ⟨eo, fo⟩ := M.sh_ok (M.okB_yes ha (n := 1) (by omega) (by omega))
  have eo' : M.sh a 1 = 0 := by rw [eo]; omega
  have k1 : 0 ≤ M.sh a n := by rw [ea]; exact Int.emod_nonneg _ (by omega)
  have k2 : M.sh a n < n := by rw [ea]; exact Int.emod_lt_of_pos _ (by omega)
  have sa := (M.rightB_iff.1 ha).2
  have sb := (M.rightB_iff.1 hb).2
  by_cases he : M.weight a = M.weight b
  · have es : M.sh a n = M.sh b n := by rw [ea, eb, he]
    rw [es] at k1 k2
    clear ea eb eo
    go_enter Try.func8, Try.ntmps8
    go_wp2_with (go_at_call 17; refine (dright_any _ _).mono ?_; rintro e w' ⟨rfl, rfl⟩)
    refine (shard_any _ _ _).mono ?_
    rintro e w1 ⟨rfl, hb⟩
    have H1 := Lib.hid hb
    clear hb
    go_wp2_with (fail)
    refine (shard_any _ _ _).mono ?_
    rintro e w2 ⟨rfl, hb⟩
    have H2 := Lib.hid (below_on H1.out hb)
    clear hb H1
    go_wp2_with (fail)
    refine (shard_any _ _ _).mono ?_
    rintro e w3 ⟨rfl, hb⟩
    have H3 := Lib.hid (below_on H2.out hb)
    clear hb H2
    go_wp2_with (fail)
    refine (weight_any _ _ (by omega)).mono ?_
    rintro e w4 ⟨rfl, hb⟩
    have H4 := Lib.hid (below_on H3.out hb)
    clear hb H3
    go_wp2_with (fail)
    refine (weight_any _ _ (by omega)).mono ?_
    rintro e w5 ⟨rfl, hb⟩
    have H5 := Lib.hid (below_on H4.out hb)
    clear hb H4
    go_wp2_with (fail)
    refine (awake_any _).mono ?_
    rintro e w6 ⟨rfl, hb⟩
    have H6 := Lib.hid (below_on H5.out hb)
    clear hb H5
    go_wp2
    go_ret
    exact ⟨rfl, H6.out⟩
  · have q1 : (M.weight a == M.weight b) = false := by simpa using he
    have q2 : ((M.weight a : Int) == (M.weight b : Int)) = false := by rw [beq_eq_false_iff_ne]; omega
    have q3 : ((M.weight a : Int) != (M.weight b : Int)) = true := by rw [bne, q2]; rfl
    have q4 : (M.weight a != M.weight b) = true := by rw [bne, q1]; rfl
    clear ea eb eo
    go_enter Try.func8, Try.ntmps8
    go_wp2_with (go_at_call 17; refine (dright_any _ _).mono ?_; rintro e w' ⟨rfl, rfl⟩)
    refine (shard_any _ _ _).mono ?_
    rintro e w1 ⟨rfl, hb⟩
    have H1 := Lib.hid hb
    clear hb
    go_wp2_with (fail)
    refine (shard_any _ _ _).mono ?_
    rintro e w2 ⟨rfl, hb⟩
    have H2 := Lib.hid (below_on H1.out hb)
    clear hb H1
    go_wp2_with (fail)
    refine (shard_any _ _ _).mono ?_
    rintro e w3 ⟨rfl, hb⟩
    have H3 := Lib.hid (below_on H2.out hb)
    clear hb H2
    go_wp2_with (fail)
    refine (weight_any _ _ (by omega)).mono ?_
    rintro e w4 ⟨rfl, hb⟩
    have H4 := Lib.hid (below_on H3.out hb)
    clear hb H3
    go_wp2_with (fail)
    refine (weight_any _ _ (by omega)).mono ?_
    rintro e w5 ⟨rfl, hb⟩
    have H5 := Lib.hid (below_on H4.out hb)
    clear hb H4
    go_wp2_with (fail)
    refine (awake_any _).mono ?_
    rintro e w6 ⟨rfl, hb⟩
    have H6 := Lib.hid (below_on H5.out hb)
    clear hb H5
    go_wp2
    go_ret
    exact ⟨rfl, H6.out⟩

set_option maxHeartbeats 1000000 in
set_option maxRecDepth 100000 in
theorem alone_law (a b : ByteArray) (n : Int) (w : World) : Calls Try.prog 8 #[.string a, .string b, .int .i64 n] w (Yes w) := by
  have fin : ∀ (w : World), Calls Try.prog 9 #[] w (Yes w) := awake_any
  rcases two (M.rightB a.size) with ha | ha
  · rcases two (M.rightB b.size) with hb | hb
    · by_cases h1 : 1 ≤ n
      · by_cases h2 : n ≤ 4
        · exact alone_yes a b n w ha hb h1 h2
        · go_enter Try.func8, Try.ntmps8
          go_wp2_with (first
            | (go_at_call 17; refine (dright_any _ _).mono ?_; rintro e w' ⟨rfl, rfl⟩)
            | (go_at_call 9; refine (awake_any _).mono ?_; rintro e w1 ⟨rfl, hb1⟩))
          go_ret
          exact ⟨rfl, hb1⟩
      · go_enter Try.func8, Try.ntmps8
        go_wp2_with (first
          | (go_at_call 17; refine (dright_any _ _).mono ?_; rintro e w' ⟨rfl, rfl⟩)
          | (go_at_call 9; refine (awake_any _).mono ?_; rintro e w1 ⟨rfl, hb1⟩))
        go_ret
        exact ⟨rfl, hb1⟩
    · go_enter Try.func8, Try.ntmps8
      go_wp2_with (first
        | (go_at_call 17; refine (dright_any _ _).mono ?_; rintro e w' ⟨rfl, rfl⟩)
        | (go_at_call 9; refine (awake_any _).mono ?_; rintro e w1 ⟨rfl, hb1⟩))
      go_ret
      exact ⟨rfl, hb1⟩
  · go_enter Try.func8, Try.ntmps8
    go_wp2_with (first
      | (go_at_call 17; refine (dright_any _ _).mono ?_; rintro e w' ⟨rfl, rfl⟩)
      | (go_at_call 9; refine (awake_any _).mono ?_; rintro e w1 ⟨rfl, hb1⟩))
    go_ret
    exact ⟨rfl, hb1⟩
end Go.Proofs.Ythjahiaomllneaa
