/- The walk of KeysParts; no conditions. -/
import Derived.Test.YthjahiaomllneaaLawsC
import Derived.Test.YthjahiaomllneaaWalksN
namespace Go.Proofs.Ythjahiaomllneaa
open Go.ChangeShapes Go.WideShapes Go.ChangeAt Go.RowKit

namespace M
theorem okAt_split {l : List (List UInt8)} {j : Nat} (h : okAt l (j + 1) = true) : ltB (l.getD j []) (l.getD (j + 1) []) = true := by
  unfold okAt at h
  simp at h
  simpa using h.2
theorem asc_of {l : List (List UInt8)} (h : okTo l l.length) : Asc l := by
  refine List.pairwise_iff_getElem.2 fun i j hi hj hij => ?_
  have key : ∀ j, j < l.length → ∀ i, i < j → l.getD i [] < l.getD j [] := by
    intro j
    induction j with
    | zero => intro _ i hi; omega
    | succ j ih =>
      intro hj i hi
      have h1 := ltB_iff.1 (okAt_split (h (j + 1) hj))
      by_cases e : i = j
      · rw [e]; exact h1
      · exact List.lt_trans (ih (by omega) i (by omega)) h1
  have := key j hj i hij
  rw [List.getD, List.getD, List.getElem?_eq_getElem hi, List.getElem?_eq_getElem hj] at this
  exact this
theorem right_of {l : List (List UInt8)} (h : okTo l l.length) : ∀ x ∈ l, rightB x.length = true := fun x hx => by
  obtain ⟨i, hi, rfl⟩ := List.getElem_of_mem hx
  have := h i hi
  unfold okAt at this
  rw [Bool.and_eq_true, List.getD, List.getElem?_eq_getElem hi] at this
  exact this.1
/-- What may be keys. -/
def Keys (l : List (List UInt8)) : Prop := l.length ≤ 8 ∧ (∀ x ∈ l, rightB x.length = true) ∧ Asc l
theorem keys_iff {l : List (List UInt8)} : rightsB l = true ↔ Keys l := by
  rw [rightsB_to]
  constructor
  · exact fun h => ⟨h.1, right_of h.2, asc_of h.2⟩
  · rintro ⟨h1, h2, h3⟩
    refine ⟨h1, fun i hi => ?_⟩
    cases i with
    | zero => rw [okAt_zero rfl]; exact h2 _ (getD_mem hi)
    | succ j => rw [okAt_succ rfl rfl, h2 _ (getD_mem hi), asc_at h3 hi]; rfl
theorem Keys.filter {l : List (List UInt8)} (h : Keys l) (p : List UInt8 → Bool) : Keys (l.filter p) :=
  ⟨Nat.le_trans (List.length_filter_le _ _) h.1, fun x hx => h.2.1 x (List.mem_filter.1 hx).1, h.2.2.filter p⟩
theorem Keys.short {l : List (List UInt8)} (h : Keys l) : ∀ x ∈ l, x.length ≤ 1000 := fun x hx => by
  have := (rightB_iff.1 (h.2.1 x hx)).2; omega
/-- Those of the first shards. -/
def parL (l : List (List UInt8)) (n : Int) (k : Nat) : List (List UInt8) := l.filter (fun x => decide (shL x n < k))
theorem par_zero {l : List (List UInt8)} (h : Keys l) {n : Int} (h1 : 1 ≤ n) (h2 : n ≤ 4) : parL l n 0 = [] := by
  unfold parL
  rw [List.filter_eq_nil_iff]
  intro x hx
  have := (shL_ok (h.2.1 x hx) h1 h2).2.1
  simp; omega
theorem par_all {l : List (List UInt8)} (h : Keys l) {n : Int} (h1 : 1 ≤ n) (h2 : n ≤ 4) {k : Nat} (hk : (k : Int) = n) : parL l n k = l := by
  unfold parL
  rw [List.filter_eq_self]
  intro x hx
  have := (shL_ok (h.2.1 x hx) h1 h2).2.2
  simp; omega
theorem par_step {l : List (List UInt8)} (h : Keys l) (n : Int) (k : Nat) : join (parL l n k) (ofL l k n) = parL l n (k + 1) := by
  refine asc_ext (join_asc _ _) (h.filter _).2.2 fun x => ?_
  rw [join_mem]
  unfold parL ofL
  rw [List.mem_filter, List.mem_filter, List.mem_filter, decide_eq_true_eq, decide_eq_true_eq, decide_eq_true_eq]
  constructor
  · rintro (⟨a, b⟩ | ⟨a, b⟩)
    · exact ⟨a, by omega⟩
    · exact ⟨a, by omega⟩
  · rintro ⟨a, b⟩
    by_cases e : shL x n < k
    · exact .inl ⟨a, e⟩
    · exact .inr ⟨a, by omega⟩
theorem par_apart (l : List (List UInt8)) (n : Int) (k : Nat) : meetB (parL l n k) (ofL l k n) = false := by
  cases e : meetB (parL l n k) (ofL l k n)
  · rfl
  · obtain ⟨x, h1, h2⟩ := meetB_iff.1 e
    unfold parL at h2
    unfold ofL at h1
    rw [List.mem_filter, decide_eq_true_eq] at h1 h2
    omega
theorem and_small : ∀ m : Fin 16, ∀ k : Fin 4, bits .and .i64 (((m.val : Nat) : Int) / 2 ^ k.val) 1 = if m.val.testBit k.val then 1 else 0 := by decide +kernel
theorem and_yes {m k : Nat} (hm : m < 16) (hk : k < 4) (h : m.testBit k = true) : bits .and .i64 ((m : Int) / 2 ^ k) 1 = 1 := by
  have := and_small ⟨m, hm⟩ ⟨k, hk⟩
  simpa [h] using this
theorem and_no {m k : Nat} (hm : m < 16) (hk : k < 4) (h : m.testBit k = false) : bits .and .i64 ((m : Int) / 2 ^ k) 1 = 0 := by
  have := and_small ⟨m, hm⟩ ⟨k, hk⟩
  simpa [h] using this
theorem bit_of {l : List (List UInt8)} (h : Keys l) {n : Int} (h1 : 1 ≤ n) (h2 : n ≤ 4) (k : Nat) : (maskL l n).testBit k = true ↔ 0 < (ofL l k n).length := by
  rw [maskL_bit, List.any_eq_true, List.length_pos_iff_exists_mem]
  unfold ofL
  constructor
  · rintro ⟨x, hx, e⟩
    rw [decide_eq_true_eq] at e
    have := (shL_ok (h.2.1 x hx) h1 h2).2.1
    exact ⟨x, List.mem_filter.2 ⟨hx, by rw [decide_eq_true_eq]; omega⟩⟩
  · rintro ⟨x, hx⟩
    rw [List.mem_filter, decide_eq_true_eq] at hx
    exact ⟨x, hx.1, by rw [decide_eq_true_eq]; omega⟩
end M

set_option maxHeartbeats 4000000 in
set_option maxRecDepth 100000 in
theorem parts_go (v : Value) (l : List (List UInt8)) (n : Int) (w : World) (HV : Hid (Words w v l)) (f : M.fewB l = true) (r : M.rightsB l = true) (h1 : 1 ≤ n) (h2 : n ≤ 4) : Calls Try.prog 6 #[v, .int .i64 n] w (Yes w) := by
  have HK := Lib.hid (M.keys_iff.1 r)
  have hl8 := HK.out.1
  have HR := Lib.hid (HK.out.2.1)
  have HS := Lib.hid HK.out.short
  go_enter Try.func6, Try.ntmps6
  go_wp2_with (first
    | (go_at_call 18; ((with_reducible refine (few_any HV.out).mono ?_); rintro e w' ⟨rfl, rfl⟩)))
  refine (drights_any HV.out (by omega) HS.out).mono ?_
  rintro e w1 ⟨rfl, hb⟩
  have B1 := Lib.hid hb
  have V1 := Lib.hid (HV.out.below hb)
  clear hb HV
  go_wp2_with (fail)
  refine (mask_any n V1.out (by omega) HR.out h1 h2).mono ?_
  rintro e w2 ⟨⟨rfl, h16⟩, hb⟩
  have B2 := Lib.hid (below_on B1.out hb)
  have V2 := Lib.hid (V1.out.below hb)
  have HBit := Lib.hid (fun k => M.bit_of HK.out h1 h2 k)
  clear hb B1 V1
  generalize M.maskL l n = m at *
  go_wp2
  go_loopw [5, 34] (fun x i wr => ∃ k : Nat, (k : Int) ≤ n ∧ i = .int .i64 k ∧ Words wr x (M.parL l n k) ∧ Words wr v l ∧ Below w.heap.size w wr) (fun _ i _ => n.toNat - (intOf i).toNat)
  case atStart => exact ⟨0, by omega, rfl, by rw [M.par_zero HK.out h1 h2]; exact ⟨none, 0, rfl, Nat.le_refl _, fun h => absurd h (by simp)⟩, V2.out, B2.out⟩
  case round =>
    clear V2 B2
    obtain ⟨k, hk, rfl, hp, hv, hbw⟩ := hrel
    have PW := Lib.hid hp
    have VW := Lib.hid hv
    have BW := Lib.hid hbw
    clear hp hv hbw
    by_cases hlt : (k : Int) < n
    · go_wp2_with (fail)
      refine (of_any k n VW.out (by omega) HR.out h1 h2).mono ?_
      rintro e w3 ⟨vs, rfl, hown, hb⟩
      have S3 := Lib.hid (Made.words hown)
      have P3 := Lib.hid (PW.out.below hb)
      have V3 := Lib.hid (VW.out.below hb)
      have B3 := Lib.hid (below_on BW.out hb)
      clear hown hb PW VW BW
      obtain ⟨A, c, rfl, hc, -⟩ := S3.out.opened
      have hbk := HBit.out k
      have ko := M.keys_iff.2 (HK.out.filter (fun x => decide (M.shL x n = k)))
      have hko : M.rightsB (M.ofL l k n) = true := ko
      clear ko
      have HM := Lib.hid (M.par_apart l n k)
      have HP := Lib.hid (M.par_step HK.out n k)
      have hpl : (M.parL l n k).length ≤ 8 := (HK.out.filter _).1
      have hol : (M.ofL l k n).length ≤ 8 := (HK.out.filter _).1
      have X1 := Lib.hid (HK.out.filter (fun x => decide (M.shL x n < k))).short
      have X2 := Lib.hid (HK.out.filter (fun x => decide (M.shL x n = k))).short
      have hme := HM.out
      clear HM hbk
      rcases two (m.testBit k) with e | e
      · have hpos : 0 < (M.ofL l k n).length := (HBit.out k).1 e
        have hbit := M.and_yes h16 (show k < 4 by omega) e
        clear e
        go_wp2_with (go_at_call 24; refine (rights_any S3.out).mono ?_; rintro e w' ⟨rfl, rfl⟩)
        refine (meet_any P3.out S3.out (by omega) (by omega) X1.out X2.out).mono ?_
        rintro e w4 ⟨rfl, hb⟩
        have S4 := Lib.hid (S3.out.below hb)
        have P4 := Lib.hid (P3.out.below hb)
        have V4 := Lib.hid (V3.out.below hb)
        have B4 := Lib.hid (below_on B3.out hb)
        clear hb S3 P3 V3 B3
        have hj := join_any P4.out S4.out (by omega) (by omega) X1.out X2.out
        rw [HP.out] at hj
        have HJ := Lib.hid hj
        clear hj
        go_wp2_with (fail)
        refine HJ.out.mono ?_
        rintro e w5 ⟨vj, rfl, hown, hb⟩
        have P5 := Lib.hid (Made.words hown)
        have V5 := Lib.hid (V4.out.below hb)
        have B5 := Lib.hid (below_on B4.out hb)
        clear hown hb S4 P4 V4 B4 HJ
        go_wp2
        go_roundw
        case rel => exact ⟨k + 1, by omega, by go_num, P5.out, V5.out, B5.out⟩
        case measure => simp [intOf]; omega
      · have hpos : ¬ 0 < (M.ofL l k n).length := fun h => by rw [(HBit.out k).2 h] at e; cases e
        have hbit := M.and_no h16 (show k < 4 by omega) e
        clear e
        go_wp2_with (go_at_call 24; refine (rights_any S3.out).mono ?_; rintro e w' ⟨rfl, rfl⟩)
        refine (meet_any P3.out S3.out (by omega) (by omega) X1.out X2.out).mono ?_
        rintro e w4 ⟨rfl, hb⟩
        have S4 := Lib.hid (S3.out.below hb)
        have P4 := Lib.hid (P3.out.below hb)
        have V4 := Lib.hid (V3.out.below hb)
        have B4 := Lib.hid (below_on B3.out hb)
        clear hb S3 P3 V3 B3
        have hj := join_any P4.out S4.out (by omega) (by omega) X1.out X2.out
        rw [HP.out] at hj
        have HJ := Lib.hid hj
        clear hj
        go_wp2_with (fail)
        refine HJ.out.mono ?_
        rintro e w5 ⟨vj, rfl, hown, hb⟩
        have P5 := Lib.hid (Made.words hown)
        have V5 := Lib.hid (V4.out.below hb)
        have B5 := Lib.hid (below_on B4.out hb)
        clear hown hb S4 P4 V4 B4 HJ
        go_wp2
        go_roundw
        case rel => exact ⟨k + 1, by omega, by go_num, P5.out, V5.out, B5.out⟩
        case measure => simp [intOf]; omega
    · have hkn : (k : Int) = n := by omega
      have PA := Lib.hid (M.par_all HK.out h1 h2 hkn)
      have hp := PW.out
      rw [PA.out] at hp
      have P3 := Lib.hid hp
      have hrefl := M.sameB_refl l
      clear hp PW
      go_wp2_with (fail)
      refine (same_any P3.out VW.out (by omega)).mono ?_
      rintro e w3 ⟨rfl, hb⟩
      have B3 := Lib.hid (below_on BW.out hb)
      clear hb
      go_wp2_with (fail)
      refine (awake_any _).mono ?_
      rintro e w4 ⟨rfl, hb⟩
      have B4 := Lib.hid (below_on B3.out hb)
      clear hb
      go_wp2
      go_ret
      exact ⟨rfl, B4.out⟩

set_option maxHeartbeats 1000000 in
theorem parts_law (v : Value) (l : List (List UInt8)) (n : Int) (w : World) (h : Words w v l) (_ : ∀ x ∈ l, x.length ≤ maxLen) : Calls Try.prog 6 #[v, .int .i64 n] w (Yes w) := by
  have HV := Lib.hid h
  rcases two (M.fewB l) with f | f
  · have F := M.fewB_iff.1 f
    have hl : l.length ≤ 1000 := by have := F.1; omega
    have HX := Lib.hid (show ∀ x ∈ l, x.length ≤ 1000 from fun x hx => by have := F.2 x hx; omega)
    rcases two (M.rightsB l) with r | r
    · by_cases h1 : 1 ≤ n
      · by_cases h2 : n ≤ 4
        · exact parts_go v l n w HV f r h1 h2
        · clear h F
          go_enter Try.func6, Try.ntmps6
          go_wp2_with (go_at_call 18; ((with_reducible refine (few_any HV.out).mono ?_); rintro e w' ⟨rfl, rfl⟩))
          refine (drights_any HV.out hl HX.out).mono ?_
          rintro e w1 ⟨rfl, hb⟩
          have B1 := Lib.hid hb
          clear hb
          go_wp2_with (fail)
          refine (awake_any _).mono ?_
          rintro e w2 ⟨rfl, hb⟩
          have B2 := Lib.hid (below_on B1.out hb)
          clear hb
          go_wp2
          go_ret
          exact ⟨rfl, B2.out⟩
      · clear h F
        go_enter Try.func6, Try.ntmps6
        go_wp2_with (go_at_call 18; ((with_reducible refine (few_any HV.out).mono ?_); rintro e w' ⟨rfl, rfl⟩))
        refine (drights_any HV.out hl HX.out).mono ?_
        rintro e w1 ⟨rfl, hb⟩
        have B1 := Lib.hid hb
        clear hb
        go_wp2_with (fail)
        refine (awake_any _).mono ?_
        rintro e w2 ⟨rfl, hb⟩
        have B2 := Lib.hid (below_on B1.out hb)
        clear hb
        go_wp2
        go_ret
        exact ⟨rfl, B2.out⟩
    · clear h F
      go_enter Try.func6, Try.ntmps6
      go_wp2_with (go_at_call 18; ((with_reducible refine (few_any HV.out).mono ?_); rintro e w' ⟨rfl, rfl⟩))
      refine (drights_any HV.out hl HX.out).mono ?_
      rintro e w1 ⟨rfl, hb⟩
      have B1 := Lib.hid hb
      clear hb
      go_wp2_with (fail)
      refine (awake_any _).mono ?_
      rintro e w2 ⟨rfl, hb⟩
      have B2 := Lib.hid (below_on B1.out hb)
      clear hb
      go_wp2
      go_ret
      exact ⟨rfl, B2.out⟩
  · clear h
    go_enter Try.func6, Try.ntmps6
    go_wp2_with (first
      | (go_at_call 18; ((with_reducible refine (few_any HV.out).mono ?_); rintro e w' ⟨rfl, rfl⟩))
      | (go_at_call 9; refine (awake_any _).mono ?_; rintro e w1 ⟨rfl, hb1⟩))
    go_ret
    exact ⟨rfl, hb1⟩
end Go.Proofs.Ythjahiaomllneaa
