/- WalWhole: the law's walk; conditions: the table of sixteen, arguments that read as records. -/
import Derived.Test.YtdachohcjpjblaaGreatDoorAwk
import Derived.Test.YtdachohcjpjblaaGreatDoorFew
namespace Go.Proofs.YtdachohcjpjblaaGreatDoor
open Go.ChangeShapes Go.WideShapes Go.ChangeAt Go.RowKit
open Di (Keeps In below_on below_new)
open Wi (Hold)

/-- A disk whose bytes are records. -/
theorem K.ap_state {s : Di.M.St} {A : List K.Rec} {X : List Rv} (hA : s.bs = K.fb A) (hg : K.Rg A) : (K.apE X s = 0 ∧ K.Rg (A ++ rcs X) ∧ (K.apS X s).bs = K.fb (A ++ rcs X)) ∨ (K.apE X s ≠ 0 ∧ K.apS X s = s) := by
  unfold K.apE K.apS
  cases hr : rgB X with
  | false => exact .inr ⟨by simp, by simp⟩
  | true =>
    simp only [if_true]
    unfold Di.M.appE Di.M.app
    by_cases hf : s.bs.length + (K.fb (rcs X)).length ≤ s.z
    · rw [if_pos hf, if_pos hf]
      exact .inl ⟨rfl, hg.app (rgB_iff.1 hr), by rw [hA, K.fb_append]⟩
    · rw [if_neg hf, if_neg hf]
      exact .inr ⟨by decide, rfl⟩
theorem K.ap_z {s : Di.M.St} {X : List Rv} : (K.apS X s).z = s.z := by
  unfold K.apS Di.M.app
  split
  · split <;> rfl
  · rfl
theorem modX_iff {X : List Rv} (h : modX X = true) : ∀ x ∈ X, Wi.M.Mod x.r.c := fun x hx => Wi.M.modB_iff.1 (List.all_eq_true.1 h x hx)
theorem rows_len {w : World} {v : Value} {X : List Rv} (h : Rows w v X) : ∃ A c, v = .slice A X.length c := rowN_sliceOf h.row
/-- Two steps of records alone. -/
theorem two_steps {w : World} {v u : Value} {X Y : List Rv} (h : Rows w v X) (g : Rows w u Y) : DoRows (w.alloc (.cells #[.int .i64 0, .int .i64 0, .int .i64 0, .int .u8 0, v, .int .i64 0, .int .i64 0, .int .i64 0, .int .u8 0, u] 43)) (.slice (some ⟨w.heap.size, 0, none⟩) 2 2) [⟨0, 0, 0, 0, X, v⟩, ⟨0, 0, 0, 0, Y, u⟩] := by
  have hb : Below w.heap.size w (w.alloc (.cells #[.int .i64 0, .int .i64 0, .int .i64 0, .int .u8 0, v, .int .i64 0, .int .i64 0, .int .i64 0, .int .u8 0, u] 43)) := below_new (Below.refl _ _)
  have hh := Wi.Hold.new w [.int .i64 0, .int .i64 0, .int .i64 0, .int .u8 0, v, .int .i64 0, .int .i64 0, .int .i64 0, .int .u8 0, u] 43
  refine ⟨⟨rfl, _, 2, rfl, Nat.le_refl _, fun _ => ⟨w.heap.size, 0, rfl, by simp, fun j x hj => hh.cel.whole j x hj⟩⟩, fun d hd => ?_⟩
  simp only [List.mem_cons, List.not_mem_nil, or_false] at hd
  rcases hd with rfl | rfl
  · exact h.below hb
  · exact g.below hb

set_option maxHeartbeats 8000000 in
set_option maxRecDepth 100000 in
theorem whole_law {w : World} {v u : Value} {X Y : List Rv} (z : Int) (hT : Fr.Tab w) (hX : Rows w v X) (hY : Rows w u Y) : Calls Tryz.prog 8 #[.int .i64 z, v, u] w fun e w' => e = .returned (.bool true) ∧ Below w.heap.size w w' := by
  have HT := Lib.hid hT
  have HX := Lib.hid hX
  have HY := Lib.hid hY
  obtain ⟨A1, c1, rfl⟩ := rows_len hX
  obtain ⟨A2, c2, rfl⟩ := rows_len hY
  have HD := Lib.hid (two_steps hX hY)
  have hb1 : Below w.heap.size w (w.alloc (.cells #[.int .i64 0, .int .i64 0, .int .i64 0, .int .u8 0, .slice A1 X.length c1, .int .i64 0, .int .i64 0, .int .i64 0, .int .u8 0, .slice A2 Y.length c2] 43)) := below_new (Below.refl _ _)
  have HB1 := Lib.hid hb1
  have HF := Lib.hid (few09_any z HD.out (by simp))
  clear hT hX hY hb1
  by_cases hz : 0 ≤ z ∧ z ≤ 1000
  · obtain ⟨n, rfl⟩ : ∃ n : Nat, z = n := ⟨z.toNat, by omega⟩
    have hz0 : ¬ ((n : Int) < 0) := by omega
    have hz1 : ¬ ((1000 : Int) < (n : Int)) := by omega
    have hn : n ≤ 1000 := by omega
    clear hz
    go_enter Tryz.func8, Tryz.ntmps8
    go_wp2_with (fail)
    refine HF.out.mono ?_
    rintro e w1 ⟨rfl, hb⟩
    have HB2 := Lib.hid (below_on HB1.out hb)
    clear hb
    cases hfw : fewB (n : Int) [⟨0, 0, 0, 0, X, .slice A1 X.length c1⟩, ⟨0, 0, 0, 0, Y, .slice A2 Y.length c2⟩] with
    | false =>
      clear hfw
      go_wp2_with (fail)
      refine (awake_any (HT.out.below HB2.out)).mono ?_
      rintro e w2 ⟨rfl, hb⟩
      have HB3 := Lib.hid (below_on HB2.out hb)
      clear hb
      go_wp2
      go_ret
      exact ⟨rfl, HB3.out⟩
    | true =>
      have hmx : (X.length ≤ 4 ∧ modX X = true) ∧ Y.length ≤ 4 ∧ modX Y = true := by
        unfold fewB at hfw
        simp only [List.all_cons, List.all_nil, Dv.fewB, Bool.and_eq_true, decide_eq_true_eq, Bool.and_true] at hfw
        exact ⟨hfw.1.1, hfw.1.2⟩
      have HMX := Lib.hid hmx
      have hyl : Y.length ≤ 4 := hmx.2.1
      clear hmx hfw
      go_wp2_with (fail)
      refine (Di.new_any n w1 (by omega)).mono ?_
      rintro e w2 ⟨rfl, hd, hb⟩
      have HDK := Lib.hid hd
      have HB3 := Lib.hid (below_on HB2.out hb)
      have HF2 := Lib.hid (show ∀ x, (x = w1.heap.size) → w.heap.size ≤ x from fun x e => by have := HB2.out.size; omega)
      have HN := Lib.hid (show ¬ (0 = w1.heap.size) from by have := HT.out.1; have := HB2.out.size; omega)
      clear hd hb
      go_wp2_with (fail)
      refine (open_any HDK.out (HT.out.below HB3.out) HN.out (by simp [Di.M.nil])).mono ?_
      rintro e w3 ⟨gl, F3, rfl, hL, hk, hg⟩
      rw [show K.opn (Di.M.nil n) = Di.M.nil n by unfold K.opn Di.M.nil; rw [K.rd_nil, K.fb_nil]; rfl] at hL
      obtain ⟨hb3, hF3⟩ := since HB3.out HF2.out hk hg
      have HL3 := Lib.hid hL
      have HB4 := Lib.hid hb3
      have HF3 := Lib.hid hF3
      clear hL hb3 hF3 hk hg
      have hsn : (Di.M.nil n).bs.length ≤ 100000 := by simp [Di.M.nil]
      have HA1 := Lib.hid (appendL_any (A0 := []) HL3.out rfl K.Rg.nil hsn ((HX.out.rws HF3.out).below HB4.out |>.sub (fun x f => f)) (modX_iff HMX.out.1.2) (by have := HMX.out.1.1; omega))
      clear hsn
      go_wp2_with (fail)
      refine HA1.out.mono ?_
      rintro e w4 ⟨rfl, F4, hL, hk, hg⟩
      obtain ⟨hb4, hF4⟩ := since HB4.out HF3.out hk hg
      have HL4 := Lib.hid hL
      have HB5 := Lib.hid hb4
      have HF4 := Lib.hid hF4
      obtain ⟨A1', hA1', hg1'⟩ : ∃ A : List K.Rec, (K.apS X (Di.M.nil n)).bs = K.fb A ∧ K.Rg A := by
        rcases K.ap_state (s := Di.M.nil n) (A := []) (X := X) rfl K.Rg.nil with ⟨-, a, b⟩ | ⟨-, b⟩
        · exact ⟨_, b, a⟩
        · exact ⟨[], by rw [b]; rfl, K.Rg.nil⟩
      have HS1 := Lib.hid hA1'
      have HG1 := Lib.hid hg1'
      have hsz1 : (K.apS X (Di.M.nil n)).bs.length ≤ 1000 := by
        have := hL.ok.1
        rw [K.ap_z] at this
        exact Nat.le_trans this hn
      have HZ1 := Lib.hid hsz1
      clear hL hb4 hF4 hk hg hA1' hg1' hsz1 HA1
      have HZZ := Lib.hid (show (K.apS X (Di.M.nil n)).z ≤ 1000 by rw [K.ap_z]; exact hn)
      generalize hs1 : K.apS X (Di.M.nil n) = s1 at *
      generalize K.apE X (Di.M.nil n) = e1 at *
      clear hs1
      go_wp2_with (fail)
      refine (all_any HL4.out (by have := HZ1.out; omega)).mono ?_
      rintro e w5 ⟨v5, Y5, F5, rfl, hY5, hr5, hL, hk, hg⟩
      obtain ⟨A5, c5, rfl⟩ := rows_len hr5.rows
      obtain ⟨hb5, hF5⟩ := since HB5.out HF4.out hk hg
      have hl5 : Y5.length = A1'.length := by
        have := congrArg List.length hY5
        rw [rcs_len, HS1.out, K.rd_of_fb HG1.out] at this
        exact this
      rw [hl5]
      have HL5 := Lib.hid hL
      have HB6 := Lib.hid hb5
      have HF5 := Lib.hid hF5
      clear hL hb5 hF5 hk hg hY5 hr5 hl5
      have HA2 := Lib.hid (appendL_any HL5.out HS1.out HG1.out (by have := HZ1.out; omega) ((HY.out.rws HF5.out).below HB6.out) (modX_iff HMX.out.2.2) (by have := HMX.out.2.1; omega))
      go_wp2_with (fail)
      refine HA2.out.mono ?_
      rintro e w6 ⟨rfl, F6, hL, hk, hg⟩
      obtain ⟨hb6, hF6⟩ := since HB6.out HF5.out hk hg
      have HL6 := Lib.hid hL
      have HB7 := Lib.hid hb6
      have HF6 := Lib.hid hF6
      have hsz2 : (K.apS Y s1).bs.length ≤ 100000 := by
        have := hL.ok.1
        rw [K.ap_z] at this
        have := HZZ.out
        omega
      have HZ2 := Lib.hid hsz2
      have hal : A1'.length ≤ 1000 := by
        have h1 := HG1.out.count
        have := HZ1.out
        rw [HS1.out] at this
        omega
      clear hL hb6 hF6 hk hg hsz2 HA2
      rcases K.ap_state (s := s1) (A := A1') (X := Y) HS1.out HG1.out with ⟨he, ha, hb⟩ | ⟨he, hb⟩
      · have HRD := Lib.hid (show K.rd (K.apS Y s1).bs = A1' ++ rcs Y by rw [hb, K.rd_of_fb ha])
        rw [he]
        clear he ha hb
        generalize K.apS Y s1 = s2 at *
        go_wp2_with (fail)
        refine (all_any HL6.out HZ2.out).mono ?_
        rintro e w7 ⟨v7, Y7, F7, rfl, hY7, hr7, hL, hk, hg⟩
        obtain ⟨A7, c7, rfl⟩ := rows_len hr7.rows
        have HB8 := Lib.hid (since HB7.out HF6.out hk hg).1
        have hl7 : Y7.length = A1'.length + Y.length := by
          have := congrArg List.length hY7
          rw [rcs_len, HRD.out] at this
          rw [this, List.length_append, rcs_len]
        rw [hl7]
        clear hL hk hg hY7 hr7 hl7
        generalize A1'.length = m at *
        generalize Y.length = j at *
        obtain ⟨q, hq⟩ : ∃ q, q = m + j := ⟨_, rfl⟩
        rw [← hq]
        have q1 : IntKind.i64.wrap ((m : Int) + (j : Int)) = (q : Int) := by
          rw [show (m : Int) + (j : Int) = (q : Int) by omega]
          exact IntWalk.i64_in _ (by omega)
        have HQ := Lib.hid hq
        clear hq
        go_wp2_with (fail)
        refine (awake_any (HT.out.below HB8.out)).mono ?_
        rintro e w8 ⟨rfl, hb⟩
        have HB9 := Lib.hid (below_on HB8.out hb)
        clear hb
        go_wp2
        go_ret
        exact ⟨rfl, HB9.out⟩
      · have HRD := Lib.hid (show K.rd (K.apS Y s1).bs = A1' by rw [hb, HS1.out, K.rd_of_fb HG1.out])
        have q1 : (K.apE Y s1 == 0) = false := by rw [beq_eq_false_iff_ne]; exact he
        have q2 : (K.apE Y s1 != 0) = true := by rw [bne, q1]; rfl
        clear he hb
        generalize K.apS Y s1 = s2 at *
        generalize K.apE Y s1 = e2 at *
        go_wp2_with (fail)
        refine (all_any HL6.out HZ2.out).mono ?_
        rintro e w7 ⟨v7, Y7, F7, rfl, hY7, hr7, hL, hk, hg⟩
        obtain ⟨A7, c7, rfl⟩ := rows_len hr7.rows
        have HB8 := Lib.hid (since HB7.out HF6.out hk hg).1
        have hl7 : Y7.length = A1'.length := by
          have := congrArg List.length hY7
          rw [rcs_len, HRD.out] at this
          exact this
        rw [hl7]
        clear hL hk hg hY7 hr7 hl7
        go_wp2_with (fail)
        refine (awake_any (HT.out.below HB8.out)).mono ?_
        rintro e w8 ⟨rfl, hb⟩
        have HB9 := Lib.hid (below_on HB8.out hb)
        clear hb
        go_wp2
        go_ret
        exact ⟨rfl, HB9.out⟩
  · have hz' : z < 0 ∨ (0 ≤ z ∧ 1000 < z) := by omega
    clear HF HD HB1 HX HY hz
    rcases hz' with hz | ⟨hz, hz2⟩
    all_goals
      go_enter Tryz.func8, Tryz.ntmps8
      go_wp2_with (fail)
      refine (awake_any HT.out).mono ?_
      rintro e w2 ⟨rfl, hb⟩
      have HB3 := Lib.hid hb
      clear hb
      go_wp2
      go_ret
      exact ⟨rfl, HB3.out⟩
end Go.Proofs.YtdachohcjpjblaaGreatDoor
