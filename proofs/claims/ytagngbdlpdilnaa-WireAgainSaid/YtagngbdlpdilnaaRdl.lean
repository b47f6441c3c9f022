/- Contract of Decode; no conditions. -/
import Derived.Test.YtagngbdlpdilnaaRdk
namespace Go.Proofs.Ytagngbdlpdilnaa
open Go.ChangeShapes Go.WideShapes Go.ChangeAt Go.RowKit

theorem P.Ran.err_of {α : Type} {p : P.Ps α} {xs : List UInt8} {s1 : P.Sr} {v : α} (h : P.Ran p ⟨xs, 0⟩ s1 v) (h1 : s1.er ≠ 0) : p xs = .error s1.er := by
  cases e : p xs with
  | error x => rw [h.bad rfl x e]
  | ok y => obtain ⟨r, u⟩ := y; obtain ⟨rfl, _⟩ := h.ok rfl r u e; exact absurd rfl h1
theorem P.Ran.ok_of {α : Type} {p : P.Ps α} {xs : List UInt8} {s1 : P.Sr} {v : α} (hp : P.Errs p) (h : P.Ran p ⟨xs, 0⟩ s1 v) (h1 : s1.er = 0) : p xs = .ok (s1.xs, v) := by
  cases e : p xs with
  | error x => exact absurd (h.bad rfl x e ▸ h1) (hp xs x e)
  | ok y => obtain ⟨r, u⟩ := y; obtain ⟨rfl, rfl⟩ := h.ok rfl r u e; rfl
theorem isRight_val {w : World} {base : Nat} {v : P.Val} {x : Value} (h : OwnV w base v x) : Calls Try.prog 44 #[x] w fun e w' => e = .returned (.bool (P.rightV v)) ∧ Below w.heap.size w w' := by
  rcases v with c | r | m
  · obtain ⟨va, vb, rfl, h1, h2, h3, h4⟩ := h
    exact isRight_cmd c (RowN.of_owns h1) (RowN.of_owns h2) (by omega) (by omega)
  · obtain ⟨va, vb, rfl, h1, h2, h3, h4⟩ := h
    exact isRight_rec r (RowN.of_owns h1) (RowN.of_owns h2) (by omega) (by omega)
  · obtain ⟨va, vb, rfl, h1, h2, h3, h4⟩ := h
    exact isRight_msg m (RowN.of_owns h1) (RowN.of_owns h2) (by omega) (by omega)
theorem ownV_below {w w' : World} {base : Nat} {v : P.Val} {x : Value} (h : OwnV w base v x) (hb : Below w.heap.size w w') : OwnV w' base v x := by
  have k : ∀ {t : TypeId} {k : Nat} {u : Value} {n : Nat} {xs : List Value}, w.ownsRow base t k u n xs → w'.ownsRow base t k u n xs := by
    intro t k u n xs h
    refine ⟨h.1, ?_⟩
    rcases h.2 with h0 | ⟨b, cap, cur, hv, hbb, hblk, r⟩
    · exact .inl h0
    · exact .inr ⟨b, cap, cur, hv, hbb, (hb.block b (Array.getElem?_eq_some_iff.1 hblk).1).trans hblk, r⟩
  rcases v with c | r | m
  · obtain ⟨va, vb, e, h1, h2, h3⟩ := h
    exact ⟨va, vb, e, k h1, k h2, h3⟩
  · obtain ⟨va, vb, e, h1, h2, h3⟩ := h
    exact ⟨va, vb, e, k h1, k h2, h3⟩
  · obtain ⟨va, vb, e, h1, h2, h3⟩ := h
    exact ⟨va, vb, e, k h1, k h2, h3⟩

/-- What Decode answers. -/
def DecV (w : World) (y : Except Nat P.Val) (e : Ending) (w' : World) : Prop := Below w.heap.size w w' ∧ match y with
  | .error n => e = .returned (.tuple #[.nilIface, .int .i64 (n : Int)])
  | .ok v => ∃ x, e = .returned (.tuple #[x, .int .i64 0]) ∧ OwnV w' w.heap.size v x

set_option maxHeartbeats 8000000 in
set_option maxRecDepth 100000 in
theorem decode_any {w : World} {u : Value} {xs : List UInt8} (h : Bts w u xs) : Calls Try.prog 25 #[u] w (DecV w (P.dec xs)) := by
  obtain ⟨A, c, rfl, hc, hx⟩ := h
  rw [List.length_map] at hc hx ⊢
  have R0 : Rdr (w.alloc (.cells #[.slice A xs.length c, .int .i64 0] 95)) w.heap.size ⟨xs, 0⟩ := by
    refine ⟨A, c, Hold.new w [.slice A xs.length c, .int .i64 0] 95, hc, fun h0 => ?_⟩
    obtain ⟨b, o, e, hb, hy⟩ := hx h0
    exact ⟨b, o, e, hb, fun j x hj => (World.cell?_alloc_lt w _ _ hb).trans (hy j _ (by rw [List.getElem?_map, hj]; rfl))⟩
  have R := Lib.hid R0
  clear hx R0 hc
  have B0 := Lib.hid ((Bel.refl w.heap.size w.heap.size w).alloc (Nat.le_refl _) (.cells #[.slice A xs.length c, .int .i64 0] 95))
  go_enter Try.func25, Try.ntmps25
  go_wp2_with (fail)
  refine (value_any R.out).mono ?_
  rintro e w1 ⟨s1, x, rfl, hr, hb, hv⟩
  have B1 := Lib.hid ((B0.out.trans hb (by simp)).below (Nat.le_refl _))
  have HV := Lib.hid hv
  obtain ⟨A', c', hh, hc', -⟩ := hr
  have c0 := hh.cell 0 rfl
  have c1 := hh.cell 1 rfl
  have HS := Lib.hid (show w.heap.size ≤ (w.alloc (.cells #[.slice A xs.length c, .int .i64 0] 95)).heap.size by simp)
  obtain ⟨L, hL⟩ : ∃ L, L = s1.xs.length := ⟨_, rfl⟩
  obtain ⟨er, her⟩ : ∃ er, er = s1.er := ⟨_, rfl⟩
  rw [← hL] at c0
  rw [← her] at c1
  have HL := Lib.hid hL
  have HE := Lib.hid her
  clear hb hv hh hc' hL her R B0
  by_cases h0 : er = 0
  · subst h0
    obtain ⟨v, ho, hp⟩ : ∃ v, OwnV w1 w.heap.size v x ∧ P.Ran P.val ⟨xs, 0⟩ s1 v := by
      rcases HV.out with ⟨h1, _⟩ | ⟨v, h1, h2⟩
      · exact absurd HE.out.symm h1
      · exact ⟨v, ownV_base h1 HS.out, h2⟩
    have HO := Lib.hid ho
    have hv := hp.ok_of P.errs_val HE.out.symm
    have HVal := Lib.hid hv
    clear ho hp hv HV
    by_cases hl : 0 < L
    · have hD : P.dec xs = .error 5 := by
        unfold P.dec; rw [HVal.out]; simp only; rw [if_pos (by rw [← HL.out]; exact hl)]
      have HD := Lib.hid hD
      clear hD
      go_wp2
      go_ret2
      rw [HD.out]
      exact ⟨B1.out, rfl⟩
    · obtain rfl : L = 0 := by omega
      rcases two (P.rightV v) with hr | hr
      · have hD : P.dec xs = .ok v := by
          unfold P.dec; rw [HVal.out]; simp only; rw [if_neg (by rw [← HL.out]; exact hl), if_pos hr]
        have HD := Lib.hid hD
        clear hD hl
        go_wp2_with (fail)
        refine (isRight_val HO.out).mono ?_
        rintro e w2 ⟨rfl, hb⟩
        rw [hr]
        have B2 := Lib.hid (below_on B1.out hb)
        have H2 := Lib.hid (ownV_below HO.out hb)
        clear hb hr
        go_wp2
        go_ret2
        rw [HD.out]
        exact ⟨B2.out, _, rfl, H2.out⟩
      · have hD : P.dec xs = .error 1 := by
          unfold P.dec; rw [HVal.out]; simp only; rw [if_neg (by rw [← HL.out]; exact hl), if_neg (by rw [hr]; decide)]
        have HD := Lib.hid hD
        clear hD hl
        go_wp2_with (fail)
        refine (isRight_val HO.out).mono ?_
        rintro e w2 ⟨rfl, hb⟩
        rw [hr]
        have B2 := Lib.hid (below_on B1.out hb)
        clear hb hr
        go_wp2
        go_ret2
        rw [HD.out]
        exact ⟨B2.out, rfl⟩
  · have hD : P.dec xs = .error er := by
      have h1 : s1.er ≠ 0 := by rw [← HE.out]; exact h0
      have : P.val xs = .error s1.er := by
        rcases HV.out with ⟨_, h2⟩ | ⟨v, _, h2⟩
        · exact (h2 (.inl M.zero)).err_of h1
        · exact h2.err_of h1
      unfold P.dec; rw [this, HE.out]
    have HD := Lib.hid hD
    have q1 : ((er : Int) == 0) = false := by rw [beq_eq_false_iff_ne]; omega
    have q2 : ((er : Int) != 0) = true := by rw [bne, q1]; rfl
    clear hD
    go_wp2
    go_quiet (fail)
    go_wp2
    go_ret2
    rw [HD.out]
    exact ⟨⟨B1.out.os, B1.out.tape, B1.out.output, B1.out.size, B1.out.block⟩, rfl⟩
end Go.Proofs.Ytagngbdlpdilnaa
