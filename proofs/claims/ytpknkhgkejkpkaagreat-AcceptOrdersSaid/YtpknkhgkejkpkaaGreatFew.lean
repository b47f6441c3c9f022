/- Contract of the law's Few; no conditions but those that they name. -/
import Derived.Test.YtpknkhgkejkpkaaGreatPx
import Derived.Test.YtpknkhgkejkpkaaGreatWiF

namespace Go.Proofs.YtpknkhgkejkpkaaGreat
open Go.ChangeShapes Go.WideShapes Go.ChangeAt Go.RowKit

def modX (X : List Rv) : Bool := X.all fun x => M.modB x.r.c
def fewX (X : List Rv) : Bool := decide (X.length ≤ 20) && modX X
theorem fewX_len {X : List Rv} (h : fewX X = true) : X.length ≤ 20 := by
  unfold fewX at h
  simp only [Bool.and_eq_true, decide_eq_true_eq] at h
  exact h.1
theorem fewX_mod {X : List Rv} (h : fewX X = true) : ∀ x ∈ X, M.Mod x.r.c := by
  unfold fewX modX at h
  simp only [Bool.and_eq_true, List.all_eq_true] at h
  exact fun x hx => M.modB_iff.1 (h.2 x hx)
theorem rowRange_cmd {w : World} {b o : Nat} {r : M.Rec} {va vb : Value} (h : w.rangeAt b o [.int .i64 r.ir, .int .i64 r.is, .int .i64 r.st, .int .i64 r.pn, .int .i64 r.pr, .int .i64 r.bn, .int .i64 r.br, .int .i64 r.c.k, .int .i64 r.c.tc, .int .i64 r.c.tn, .int .i64 r.c.tt, .int .i64 r.c.tk, .int .i64 r.c.sh, va, vb, .bool r.c.cm, .int .i64 r.sq, .int .i64 r.d0, .int .i64 r.d1, .int .i64 r.d2, .int .i64 r.d3, .int .i64 r.d4, .int .i64 r.d5, .int .i64 r.d6, .bool r.kp]) : w.rangeAt b (o + 7) [.int .i64 r.c.k, .int .i64 r.c.tc, .int .i64 r.c.tn, .int .i64 r.c.tt, .int .i64 r.c.tk, .int .i64 r.c.sh, va, vb, .bool r.c.cm] := fun j v hj => by
  rw [Nat.add_assoc]
  refine h (7 + j) v ?_
  match j, hj with
  | 0, hj => exact hj
  | 1, hj => exact hj
  | 2, hj => exact hj
  | 3, hj => exact hj
  | 4, hj => exact hj
  | 5, hj => exact hj
  | 6, hj => exact hj
  | 7, hj => exact hj
  | 8, hj => exact hj
theorem rowRange_inst {w : World} {b o : Nat} {r : M.Rec} {va vb : Value} (h : w.rangeAt b o [.int .i64 r.ir, .int .i64 r.is, .int .i64 r.st, .int .i64 r.pn, .int .i64 r.pr, .int .i64 r.bn, .int .i64 r.br, .int .i64 r.c.k, .int .i64 r.c.tc, .int .i64 r.c.tn, .int .i64 r.c.tt, .int .i64 r.c.tk, .int .i64 r.c.sh, va, vb, .bool r.c.cm, .int .i64 r.sq, .int .i64 r.d0, .int .i64 r.d1, .int .i64 r.d2, .int .i64 r.d3, .int .i64 r.d4, .int .i64 r.d5, .int .i64 r.d6, .bool r.kp]) : w.rangeAt b o [.int .i64 r.ir, .int .i64 r.is] := fun j v hj => h j v (by
  match j, hj with
  | 0, hj => exact hj
  | 1, hj => exact hj)
theorem rowRange_deps {w : World} {b o : Nat} {r : M.Rec} {va vb : Value} (h : w.rangeAt b o [.int .i64 r.ir, .int .i64 r.is, .int .i64 r.st, .int .i64 r.pn, .int .i64 r.pr, .int .i64 r.bn, .int .i64 r.br, .int .i64 r.c.k, .int .i64 r.c.tc, .int .i64 r.c.tn, .int .i64 r.c.tt, .int .i64 r.c.tk, .int .i64 r.c.sh, va, vb, .bool r.c.cm, .int .i64 r.sq, .int .i64 r.d0, .int .i64 r.d1, .int .i64 r.d2, .int .i64 r.d3, .int .i64 r.d4, .int .i64 r.d5, .int .i64 r.d6, .bool r.kp]) : w.rangeAt b (o + 17) [.int .i64 r.d0, .int .i64 r.d1, .int .i64 r.d2, .int .i64 r.d3, .int .i64 r.d4, .int .i64 r.d5, .int .i64 r.d6] := fun j v hj => by
  rw [Nat.add_assoc]
  refine h (17 + j) v ?_
  match j, hj with
  | 0, hj => exact hj
  | 1, hj => exact hj
  | 2, hj => exact hj
  | 3, hj => exact hj
  | 4, hj => exact hj
  | 5, hj => exact hj
  | 6, hj => exact hj
set_option maxHeartbeats 4000000 in
set_option maxRecDepth 100000 in
theorem few_rows {w : World} {v : Value} {X : List Rv} (h : Rows w v X) : Calls Tryz.prog 8 #[v] w fun e w' => e = .returned (.bool (fewX X)) ∧ Below w.heap.size w w' := by
  obtain ⟨A, c, rfl⟩ := rowN_sliceOf h.row
  have HH := Lib.hid h
  clear h
  go_enter Tryz.func8, Tryz.ntmps8
  go_wp2
  go_loopw [3] (fun i wr => ∃ k : Nat, i = .int .i64 k ∧ k ≤ X.length ∧ k ≤ 21 ∧ Hid (Below w.heap.size w wr) ∧ Hid (∀ x ∈ X.take k, M.modB x.r.c = true)) (fun i _ => X.length - (intOf i).toNat)
  case atStart => exact ⟨0, rfl, Nat.zero_le _, Nat.zero_le _, Lib.hid (Below.refl _ _), Lib.hid (fun d hd => (List.not_mem_nil hd).elim)⟩
  case round =>
    obtain ⟨k, rfl, hk, hk2, HW, HA⟩ := hrel
    by_cases hlt : k < X.length
    · have hd1 : decide ((k : Int) < (X.length : Int)) = true := decide_eq_true (by omega)
      by_cases h20 : k ≤ 20
      · have hd2 : decide ((k : Int) ≤ 20) = true := decide_eq_true (by omega)
        obtain ⟨x, hx⟩ : ∃ x, X[k]? = some x := ⟨_, List.getElem?_eq_getElem hlt⟩
        have hxm : x ∈ X := List.mem_of_getElem? hx
        obtain ⟨b, o, rfl, hbl, hrr⟩ := rowN_range (HH.out.below HW.out).row hx
        have HX := Lib.hid ((HH.out.tx x hxm).below HW.out)
        have HNO := Lib.hid (show M.modB x.r.c = false → fewX X = false from fun e => by
          have : modX X = false := by
            rw [Bool.eq_false_iff]
            intro e2
            have := List.all_eq_true.1 e2 x hxm
            rw [e] at this; cases this
          unfold fewX
          rw [this, Bool.and_false])
        have HYES := Lib.hid (show M.modB x.r.c = true → ∀ x' ∈ X.take (k + 1), M.modB x'.r.c = true from fun e x' hx' => by
          rw [List.take_add_one, hx, Option.toList_some, List.mem_append, List.mem_singleton] at hx'
          rcases hx' with hx' | rfl
          · exact HA.out x' hx'
          · exact e)
        obtain ⟨r, va, vb⟩ := x
        obtain ⟨A3, c3, ea⟩ := rowN_sliceOf HX.out.rs
        obtain ⟨A4, c4, eb⟩ := rowN_sliceOf HX.out.ws
        dsimp only at ea eb
        subst ea eb
        have HC := Lib.hid (rowRange_cmd (show wr.rangeAt b (o + k * 25) [.int .i64 r.ir, .int .i64 r.is, .int .i64 r.st, .int .i64 r.pn, .int .i64 r.pr, .int .i64 r.bn, .int .i64 r.br, .int .i64 r.c.k, .int .i64 r.c.tc, .int .i64 r.c.tn, .int .i64 r.c.tt, .int .i64 r.c.tk, .int .i64 r.c.sh, (.slice A3 r.c.rs.length c3), (.slice A4 r.c.ws.length c4), .bool r.c.cm, .int .i64 r.sq, .int .i64 r.d0, .int .i64 r.d1, .int .i64 r.d2, .int .i64 r.d3, .int .i64 r.d4, .int .i64 r.d5, .int .i64 r.d6, .bool r.kp] from hrr))
        have hk1 : (k : Int) < (X.length : Int) := by omega
        have HF := Lib.hid (few_one (w := wr) (b := wr.heap.size) rfl r.c HX.out.rs HX.out.ws)
        have HW3 := Lib.hid (below_on HW.out (below_new (o := .cells #[.int .i64 r.c.k, .int .i64 r.c.tc, .int .i64 r.c.tn, .int .i64 r.c.tt, .int .i64 r.c.tk, .int .i64 r.c.sh, (.slice A3 r.c.rs.length c3), (.slice A4 r.c.ws.length c4), .bool r.c.cm] 30) (Below.refl wr.heap.size wr)))
        clear hx hxm hbl hrr HX
        cases hm : M.modB r.c with
        | false =>
          have HRES := Lib.hid (HNO.out hm)
          rw [hm] at HF
          clear hm
          go_wp2_with (first
            | (with_reducible refine wpList_load_mid rfl 30 _ rfl b (o + k * 25 + 7) rfl [.int .i64 r.c.k, .int .i64 r.c.tc, .int .i64 r.c.tn, .int .i64 r.c.tt, .int .i64 r.c.tk, .int .i64 r.c.sh, (.slice A3 r.c.rs.length c3), (.slice A4 r.c.ws.length c4), .bool r.c.cm] _ HC.out Tryz.underlying30 rfl (by kernel_rfl) ?_)
            | fail)
          refine HF.out.mono ?_
          rintro e w5 ⟨rfl, hb5⟩
          have HW5 := Lib.hid (below_on HW3.out hb5)
          clear hb5
          go_wp2
          go_ret
          exact ⟨by rw [HRES.out]; rfl, HW5.out⟩
        | true =>
          have HM1 := Lib.hid (HYES.out hm)
          rw [hm] at HF
          clear hm
          go_wp2_with (first
            | (with_reducible refine wpList_load_mid rfl 30 _ rfl b (o + k * 25 + 7) rfl [.int .i64 r.c.k, .int .i64 r.c.tc, .int .i64 r.c.tn, .int .i64 r.c.tt, .int .i64 r.c.tk, .int .i64 r.c.sh, (.slice A3 r.c.rs.length c3), (.slice A4 r.c.ws.length c4), .bool r.c.cm] _ HC.out Tryz.underlying30 rfl (by kernel_rfl) ?_)
            | fail)
          refine HF.out.mono ?_
          rintro e w5 ⟨rfl, hb5⟩
          have HW5 := Lib.hid (below_on HW3.out hb5)
          clear hb5
          go_wp2
          go_roundw
          case rel => exact ⟨k + 1, by go_num, hlt, by omega, HW5, HM1⟩
          case measure => simp [intOf]; omega
      · have hd2 : decide ((k : Int) ≤ 20) = false := decide_eq_false (by omega)
        have HRES := Lib.hid (show fewX X = false by unfold fewX; rw [decide_eq_false (by omega), Bool.false_and])
        have hl20 : ¬ ((X.length : Int) ≤ 20) := by omega
        go_wp2
        go_ret
        exact ⟨by rw [HRES.out]; rfl, HW.out⟩
    · obtain rfl : k = X.length := by omega
      have hd1 : decide (((X.length : Nat) : Int) < (X.length : Int)) = false := decide_eq_false (by omega)
      have HALL := Lib.hid (show modX X = true from List.all_eq_true.2 fun x hx => HA.out x (by rw [List.take_length]; exact hx))
      have HRES := Lib.hid (show fewX X = decide ((X.length : Int) ≤ 20) by
        unfold fewX
        rw [HALL.out, Bool.and_true]
        exact decide_eq_decide.2 (by omega))
      by_cases hl20 : (X.length : Int) ≤ 20
      · rw [decide_eq_true hl20] at HRES
        go_wp2
        go_ret
        exact ⟨by rw [HRES.out]; rfl, HW.out⟩
      · rw [decide_eq_false hl20] at HRES
        go_wp2
        go_ret
        exact ⟨by rw [HRES.out]; rfl, HW.out⟩
end Go.Proofs.YtpknkhgkejkpkaaGreat
