/- Contract of Insts; no conditions. -/
import Derived.Test.YtcombmifjimkoaaWalksH
namespace Go.Proofs.Ytcombmifjimkoaa
open Go.RowKit
attribute [local go_sem ↓] run_max_mx run_min_mn run_same7

theorem info25 : (Try.prog.info? 25).map (fun i => (i.zero, i.size, i.bytes)) = some (some (.agg #[.int .i64 0, .int .i64 0]), 2, 16) := by kernel_rfl

/-- The cells of a list of pairs. -/
def flat (l : List (Int × Int)) : List Value := l.flatMap fun p => [.int .i64 p.1, .int .i64 p.2]
theorem flat_snoc (l : List (Int × Int)) (p : Int × Int) : flat (l ++ [p]) = flat l ++ [.int .i64 p.1, .int .i64 p.2] := by simp [flat, List.flatMap_append]
theorem flat_at : ∀ (l : List (Int × Int)) (j : Nat) (h : j < l.length), (flat l)[2 * j]? = some (.int .i64 (l[j]'h).1) ∧ (flat l)[2 * j + 1]? = some (.int .i64 (l[j]'h).2)
  | p :: l, 0, _ => by simp [flat]
  | p :: l, j + 1, h => by
    have ih := flat_at l j (by simpa using h)
    have e : flat (p :: l) = .int .i64 p.1 :: .int .i64 p.2 :: flat l := rfl
    rw [e, show 2 * (j + 1) = 2 * j + 1 + 1 by omega]
    simpa using ih

theorem two_new (w : World) (x y : Int) : ∀ j u, ([.int .i64 x, .int .i64 y] : List Value)[j]? = some u → (w.alloc (.cells #[.int .i64 x, .int .i64 y] 25)).cell? ((⟨w.heap.size, 0, none⟩ : Addr).add j) = some u
  | 0, u, h => by simp at h; subst h; simp [Addr.add]
  | 1, u, h => by simp at h; subst h; simp [Addr.add]
theorem two_one (x y : Int) : ∀ u ∈ ([.int .i64 x, .int .i64 y] : List Value), u.oneCell' = true := fun u hu => by
  simp at hu
  rcases hu with rfl | rfl <;> rfl
/-- A new row of all instances. -/
def Made (a : Nat → Int) (w : World) (e : Ending) (w' : World) : Prop := ∃ g : Nat, e = .returned (.slice (some ⟨g, 0, none⟩) (M.ln a 7) (M.ln a 7)) ∧ w'.ownsRow g 25 2 (.slice (some ⟨g, 0, none⟩) (M.ln a 7) (M.ln a 7)) (M.ln a 7) (flat (M.upto a 7)) ∧ Below w.heap.size w w'

set_option maxHeartbeats 1000000 in
theorem insts_no (a : Nat → Int) (w : World) (hr : M.right a = false) :
    Calls Try.prog 22 #[.agg #[.int .i64 (a 0), .int .i64 (a 1), .int .i64 (a 2), .int .i64 (a 3), .int .i64 (a 4), .int .i64 (a 5), .int .i64 (a 6)]] w fun e w' => e = .returned (.slice none 0 0) ∧ Below w.heap.size w w' := by
  go_enter Try.func22, Try.ntmps22
  go_wp2_with (fail)
  refine (right_any _ _).mono ?_
  rintro e w1 ⟨rfl, hb⟩
  have H1 := Lib.hid (below_on (below_new (Below.refl _ _)) hb)
  clear hb
  go_wp2
  go_ret
  exact ⟨rfl, H1.out⟩

theorem below_grown {B : Nat} {a w w' : World} {g : Nat} (h : Below B a w) (hg : w.grownBy w' (some g)) (hB : B ≤ w.heap.size) (hr : B ≤ g) : Below B a w' := h.grown hg hB (fun k hk => by cases hk; exact hr)

set_option maxHeartbeats 4000000 in
set_option maxRecDepth 100000 in
theorem insts_yes (a : Nat → Int) (w : World) (hr : M.right a = true) :
    Calls Try.prog 22 #[.agg #[.int .i64 (a 0), .int .i64 (a 1), .int .i64 (a 2), .int .i64 (a 3), .int .i64 (a 4), .int .i64 (a 5), .int .i64 (a 6)]] w (Made a w) := by
  have HR := Lib.hid hr
  obtain ⟨i0, hi, hz0, hz1, hz2⟩ := info_parts info25
  have hN := M.ln_le hr (k := 7) (Nat.le_refl _)
  go_enter Try.func22, Try.ntmps22
  go_wp2_with (fail)
  refine (right_any _ _).mono ?_
  rintro e w1 ⟨rfl, hb⟩
  have H1 := Lib.hid (below_on (below_new (Below.refl _ _)) hb)
  have P1 := Lib.hid ((At7.new w a).on hb)
  clear hb
  obtain ⟨l0, c00, c01, c02, c03, c04, c05, c06⟩ := P1.out
  go_wp2_with (fail)
  refine (count_yes _ _ HR.out).mono ?_
  rintro e w2 ⟨rfl, hb⟩
  have H2 := Lib.hid (below_on H1.out hb)
  have P2 := Lib.hid (P1.out.on hb)
  clear hb l0 c00 c01 c02 c03 c04 c05 c06 H1 P1
  go_wp2_with (at_make; refine wpList_make_own _ rfl _ _ 33 rfl w2.heap.size 25 i0 (.agg #[.int .i64 0, .int .i64 0]) 2 Try.underlying33 hi hz0 hz1 _ _ _ (M.ln a 7) rfl rfl (by omega) ?b2 ?b3 (Nat.le_refl _) ?_)
  case b2 => rw [hz2]; omega
  case b3 => unfold maxLen; omega
  intro w3 hown hg
  have H3 := Lib.hid (H2.out.grown hg H2.out.size (fun k h => by cases h))
  have P3 := Lib.hid (P2.out.on ((Below.refl _ _).grown hg (Nat.le_refl _) (fun k h => by cases h)))
  have HO := Lib.hid hown
  have hz := H2.out.size
  clear hg H2 P2 hown
  obtain ⟨l0, c00, c01, c02, c03, c04, c05, c06⟩ := P3.out
  go_wp2_with (fail)
  clear l0 c00 c01 c02 c03 c04 c05 c06
  generalize w2.heap.size = g at *
  go_loopw [3, 14] (fun v i wr => ∃ k : Nat, k ≤ 7 ∧ i = .int .i64 k ∧ v = .slice (some ⟨g, 0, none⟩) (M.ln a k) (M.ln a 7) ∧ wr.ownsRow g 25 2 (.slice (some ⟨g, 0, none⟩) (M.ln a k) (M.ln a 7)) (M.ln a k) (flat (M.upto a k)) ∧ Below w.heap.size w wr) (fun _ i _ => 7 - (intOf i).toNat)
  case atStart => exact ⟨0, by omega, rfl, rfl, HO.out, H3.out⟩
  case round =>
    obtain ⟨k, hk, rfl, rfl, hown, hbel⟩ := hrel
    have HO2 := Lib.hid hown
    have HB2 := Lib.hid hbel
    clear hown hbel HO H3 P3
    by_cases hlt : k < 7
    · have hix := idx_any a k hlt
      have hkd : decide ((k : Int) < 7) = true := decide_eq_true (by omega)
      have hb := M.right_iff.1 HR.out k hlt
      obtain ⟨hb0, hb1⟩ := hb
      have hl := M.ln_le HR.out hk
      have hm : M.ln a k + (a k).toNat ≤ M.ln a 7 := M.ln_mono a (k := k + 1) (m := 7) (by omega)
      go_wp2_with (fail)
      obtain ⟨wo, rfl⟩ : ∃ wo : World, wo = wr := ⟨_, rfl⟩
      go_loopw [3, 19] (fun v i wr => ∃ j : Nat, (j : Int) ≤ a k ∧ i = .int .i64 j ∧ v = .slice (some ⟨g, 0, none⟩) (M.ln a k + j) (M.ln a 7) ∧ wr.ownsRow g 25 2 (.slice (some ⟨g, 0, none⟩) (M.ln a k + j) (M.ln a 7)) (M.ln a k + j) (flat (M.upto a k ++ M.row k j)) ∧ Below w.heap.size w wr) (fun _ i _ => (a k).toNat - (intOf i).toNat)
      case atStart => exact ⟨0, hb0, rfl, rfl, by simpa [M.row] using HO2.out, HB2.out⟩
      case round =>
        obtain ⟨j, hj, rfl, rfl, hown, hbel⟩ := hrel
        clear HO2 HB2
        by_cases hjl : (j : Int) < a k
        · have HB3 := Lib.hid hbel
          have hsz := hbel.size
          clear hbel
          go_wp2_with (at_builtin; refine wpList_append_fits _ rfl (.tmp 22) (.tmp 27) 33 rfl g 25 i0 2 Try.underlying33 hi hz1 g (M.ln a k + j) (M.ln a 7) _ rfl (hown.alloc _) ⟨wr.heap.size, 0, none⟩ 1 1 [.int .i64 k, .int .i64 (j + 1)] rfl rfl (two_new _ _ _) (two_one _ _) (by omega) ?_; intro wn hown1 hgrow1)
          have HO3 := Lib.hid hown1
          have HB4 := Lib.hid (below_grown (below_new HB3.out) hgrow1 (by simp; omega) hz)
          clear hown hown1 hgrow1 HB3
          go_wp2
          go_roundw
          case rel =>
            refine ⟨j + 1, by omega, by go_num, by rw [Nat.add_assoc], ?_, HB4.out⟩
            rw [M.row_succ, ← List.append_assoc, flat_snoc, ← Nat.add_assoc]
            exact HO3.out
          case measure => simp [intOf]; omega
        · have HO3 := Lib.hid hown
          have HB3 := Lib.hid hbel
          have hja : (j : Int) = a k := by omega
          have HL := Lib.hid (show M.ln a (k + 1) = M.ln a k + j by rw [M.ln]; omega)
          have HU := Lib.hid (show M.upto a (k + 1) = M.upto a k ++ M.row k j by rw [M.upto, show (a k).toNat = j by omega])
          clear hown hbel hja
          go_wp2
          go_roundw
          case rel => exact ⟨k + 1, by omega, by go_num, by rw [HL.out], by rw [HL.out, HU.out]; exact HO3.out, HB3.out⟩
          case measure => simp [intOf]; omega
    · obtain rfl : k = 7 := by omega
      go_wp2
      go_ret
      exact ⟨g, rfl, HO2.out, HB2.out⟩
end Go.Proofs.Ytcombmifjimkoaa
