/- The walk of KeysJoins; no conditions. -/
import Derived.Test.YthjahiaomllneaaLaws
import Derived.Test.YthjahiaomllneaaWalksM
namespace Go.Proofs.Ythjahiaomllneaa
open Go.ChangeShapes Go.WideShapes Go.ChangeAt Go.RowKit

theorem in_s {w : World} {v : Value} {ss : List (List UInt8)} (s : ByteArray) (h : Words w v ss) (hl : ss.length ≤ 1000) : Calls Try.prog 20 #[v, .string s] w fun e w' => e = .returned (.bool (M.inB ss s.data.toList)) ∧ w = w' := by
  have := in_any (v := v) s.data.toList h hl
  have e : (⟨s.data.toList.toArray⟩ : ByteArray) = s := by cases s; simp
  rw [e] at this
  exact this
namespace M
theorem asc_at {l : List (List UInt8)} (h : Asc l) {j : Nat} (hj : j + 1 < l.length) : ltB (l.getD j []) (l.getD (j + 1) []) = true := by
  rw [ltB_iff, List.getD, List.getD, List.getElem?_eq_getElem (by omega), List.getElem?_eq_getElem hj]
  exact (List.pairwise_iff_getElem.1 h) j (j + 1) (by omega) hj (by omega)
theorem join_le {ss ts : List (List UInt8)} {n : Nat} (h : ∀ x ∈ ss, x.length ≤ n) (h' : ∀ x ∈ ts, x.length ≤ n) : ∀ x ∈ join ss ts, x.length ≤ n := fun x hx => by
  rcases (join_mem ss ts x).1 hx with hx | hx
  · exact h x hx
  · exact h' x hx
theorem inB_join (ss ts : List (List UInt8)) (x : List UInt8) : inB (join ss ts) x = (inB ss x || inB ts x) := by
  rw [Bool.eq_iff_iff, Bool.or_eq_true, inB_iff, inB_iff, inB_iff, join_mem]
end M
attribute [local go_sem ↓] run_geq_str

set_option maxHeartbeats 4000000 in
set_option maxRecDepth 100000 in
theorem joins_go (v : Value) (ss : List (List UInt8)) (u : Value) (ts : List (List UInt8)) (s : ByteArray) (w : World) (J : List (List UInt8)) (HV : Hid (Words w v ss)) (HU : Hid (Words w u ts)) (f : M.fewB ss = true) (f' : M.fewB ts = true) (hs : s.size ≤ 100) (hl : ss.length ≤ 1000) (hl' : ts.length ≤ 1000) (hjl : J.length ≤ 80)
    (HA : Hid (M.Asc J)) (HJ : Hid (∀ x ∈ J, x.length ≤ 1000)) (HJC : Hid (∀ W : World, Words W v ss → Words W u ts → Calls Try.prog 19 #[v, u] W (Made J W))) (HJD : Hid (∀ W : World, Words W v ss → Words W u ts → Calls Try.prog 19 #[u, v] W (Made J W))) (HJE : Hid (M.join J J = J))
    (p q r : Bool) (e1 : M.inB ss s.data.toList = p) (e2 : M.inB ts s.data.toList = q) (e3 : M.inB J s.data.toList = r) (hr : r = (p || q)) : Calls Try.prog 7 #[v, u, .string s] w (Yes w) := by
  have hrefl := M.sameB_refl J
  cases p <;> cases q <;> simp only [Bool.or_true, Bool.or_false] at hr <;> subst hr
  all_goals
    go_enter Try.func7, Try.ntmps7
    go_wp2_with (first
      | (go_at_call 18; ((with_reducible refine (few_any HV.out).mono ?_); rintro e w' ⟨rfl, rfl⟩))
      | (go_at_call 18; ((with_reducible refine (few_any HU.out).mono ?_); rintro e w' ⟨rfl, rfl⟩)))
    refine (HJC.out _ HV.out HU.out).mono ?_
    rintro e w1 ⟨vj, rfl, hown, hb⟩
    have HW := Lib.hid (Made.words hown)
    have HB := Lib.hid hb
    have HV1 := Lib.hid (HV.out.below hb)
    have HU1 := Lib.hid (HU.out.below hb)
    clear hown hb
    obtain ⟨A, c, rfl, hc, hx⟩ := HW.out.opened
    have HX := Lib.hid hx
    clear hx
    go_wp2
    go_loopw [8] (fun i wr => ∃ k : Nat, (k + 1 ≤ J.length ∨ k = 0) ∧ i = .int .i64 (k + 1) ∧ Drawn w1 wr) (fun i _ => J.length + 1 - (intOf i).toNat)
    case atStart => exact ⟨0, .inr rfl, rfl, Drawn.refl w1⟩
    case round =>
      obtain ⟨k, hk, rfl, hd⟩ := hrel
      have HD := Lib.hid hd
      clear hd
      by_cases hlt : k + 1 < J.length
      · obtain ⟨b, o, rfl, hb, hy⟩ := HX.out (by omega)
        have z1 := (HD.out.cell _).trans (hy k (by omega))
        have z2 := (HD.out.cell _).trans (hy (k + 1) hlt)
        have hlt' := M.asc_at HA.out hlt
        generalize J.getD k [] = x at *
        generalize J.getD (k + 1) [] = y at *
        clear hy
        have i1 : (k : Int) + 1 < (J.length : Int) := by omega
        have i2 : (k : Int) < (J.length : Int) := by omega
        have j1 : IntKind.i64.wrap ((k : Int) + 1 - 1) = (k : Int) := by rw [IntKind.wrap_i64]; omega
        go_wp2
        go_quiet (fail)
        go_wp2
        go_roundw
        case rel => exact ⟨k + 1, .inl (by omega), by go_num, HD.out.on _⟩
        case measure => simp [intOf]; omega
      · have hlt2 : ¬ ((k : Int) + 1 < (J.length : Int)) := by omega
        have G1 := Lib.hid (HW.out.below HD.out.below)
        have G2 := Lib.hid (HV1.out.below HD.out.below)
        have G3 := Lib.hid (HU1.out.below HD.out.below)
        have B1 := Lib.hid (below_on HB.out HD.out.below)
        clear HW HV1 HU1 HB HX HD
        go_wp2_with (fail)
        refine (HJD.out _ G2.out G3.out).mono ?_
        rintro e w2 ⟨vk, rfl, hown, hb⟩
        have W2 := Lib.hid (Made.words hown)
        have B2 := Lib.hid (below_on B1.out hb)
        have J2 := Lib.hid (G1.out.below hb)
        have V2 := Lib.hid (G2.out.below hb)
        have U2 := Lib.hid (G3.out.below hb)
        clear hown hb G1 G2 G3 B1
        go_wp2_with (fail)
        refine (same_any J2.out W2.out (by omega)).mono ?_
        rintro e w3 ⟨rfl, hb⟩
        have B3 := Lib.hid (below_on B2.out hb)
        have J3 := Lib.hid (J2.out.below hb)
        have V3 := Lib.hid (V2.out.below hb)
        have U3 := Lib.hid (U2.out.below hb)
        clear hb B2 J2 V2 U2 W2
        have hjj := join_any J3.out J3.out (by omega) (by omega) HJ.out HJ.out
        rw [HJE.out] at hjj
        have HJJ := Lib.hid hjj
        clear hjj
        go_wp2_with (fail)
        refine HJJ.out.mono ?_
        rintro e w4 ⟨vm, rfl, hown, hb⟩
        have W4 := Lib.hid (Made.words hown)
        have B4 := Lib.hid (below_on B3.out hb)
        have J4 := Lib.hid (J3.out.below hb)
        have V4 := Lib.hid (V3.out.below hb)
        have U4 := Lib.hid (U3.out.below hb)
        clear hown hb B3 J3 V3 U3 HJJ
        go_wp2_with (fail)
        refine (same_any W4.out J4.out (by omega)).mono ?_
        rintro e w5 ⟨rfl, hb⟩
        have B5 := Lib.hid (below_on B4.out hb)
        have J5 := Lib.hid (J4.out.below hb)
        have V5 := Lib.hid (V4.out.below hb)
        have U5 := Lib.hid (U4.out.below hb)
        clear hb B4 J4 V4 U4 W4
        go_wp2_with (first
          | (go_at_call 20; ((with_reducible refine (in_s s J5.out (by omega)).mono ?_); rintro e w' ⟨rfl, rfl⟩))
          | (go_at_call 20; ((with_reducible refine (in_s s V5.out (by omega)).mono ?_); rintro e w' ⟨rfl, rfl⟩))
          | (go_at_call 20; ((with_reducible refine (in_s s U5.out (by omega)).mono ?_); rintro e w' ⟨rfl, rfl⟩)))
        refine (awake_any _).mono ?_
        rintro e w6 ⟨rfl, hb⟩
        have B6 := Lib.hid (below_on B5.out hb)
        clear hb
        go_wp2
        go_ret
        exact ⟨rfl, B6.out⟩

set_option maxHeartbeats 1000000 in
theorem joins_law (v : Value) (ss : List (List UInt8)) (u : Value) (ts : List (List UInt8)) (s : ByteArray) (w : World) (h : Words w v ss) (_ : ∀ x ∈ ss, x.length ≤ maxLen) (h' : Words w u ts) (_ : ∀ x ∈ ts, x.length ≤ maxLen) (_ : s.size ≤ maxLen) : Calls Try.prog 7 #[v, u, .string s] w (Yes w) := by
  have HV := Lib.hid h
  have HU := Lib.hid h'
  rcases two (M.fewB ss) with f | f
  · rcases two (M.fewB ts) with f' | f'
    · by_cases hs : s.size ≤ 100
      · have F := M.fewB_iff.1 f
        have F' := M.fewB_iff.1 f'
        have hl : ss.length ≤ 1000 := by have := F.1; omega
        have hl' : ts.length ≤ 1000 := by have := F'.1; omega
        have hx : ∀ x ∈ ss, x.length ≤ 1000 := fun x hx => by have := F.2 x hx; omega
        have hx' : ∀ x ∈ ts, x.length ≤ 1000 := fun x hx => by have := F'.2 x hx; omega
        exact joins_go v ss u ts s w (M.join ss ts) HV HU f f' hs hl hl' (by have := M.join_len ss ts; have := F.1; have := F'.1; omega) (Lib.hid (M.join_asc ss ts)) (Lib.hid (M.join_le hx hx'))
          (Lib.hid fun W hv hu => join_any hv hu hl hl' hx hx') (Lib.hid fun W hv hu => by rw [M.join_comm]; exact join_any hu hv hl' hl hx' hx) (Lib.hid (M.join_self (M.join_asc ss ts))) _ _ _ rfl rfl rfl (M.inB_join ss ts _)
      · clear h h'
        go_enter Try.func7, Try.ntmps7
        go_wp2_with (first
          | (go_at_call 18; ((with_reducible refine (few_any HV.out).mono ?_); rintro e w' ⟨rfl, rfl⟩))
          | (go_at_call 18; ((with_reducible refine (few_any HU.out).mono ?_); rintro e w' ⟨rfl, rfl⟩))
          | (go_at_call 9; refine (awake_any _).mono ?_; rintro e w1 ⟨rfl, hb1⟩))
        go_ret
        exact ⟨rfl, hb1⟩
    · clear h h'
      go_enter Try.func7, Try.ntmps7
      go_wp2_with (first
        | (go_at_call 18; ((with_reducible refine (few_any HV.out).mono ?_); rintro e w' ⟨rfl, rfl⟩))
        | (go_at_call 18; ((with_reducible refine (few_any HU.out).mono ?_); rintro e w' ⟨rfl, rfl⟩))
        | (go_at_call 9; refine (awake_any _).mono ?_; rintro e w1 ⟨rfl, hb1⟩))
      go_ret
      exact ⟨rfl, hb1⟩
  · clear h h'
    go_enter Try.func7, Try.ntmps7
    go_wp2_with (first
      | (go_at_call 18; ((with_reducible refine (few_any HV.out).mono ?_); rintro e w' ⟨rfl, rfl⟩))
      | (go_at_call 9; refine (awake_any _).mono ?_; rintro e w1 ⟨rfl, hb1⟩))
    go_ret
    exact ⟨rfl, hb1⟩
end Go.Proofs.Ythjahiaomllneaa
