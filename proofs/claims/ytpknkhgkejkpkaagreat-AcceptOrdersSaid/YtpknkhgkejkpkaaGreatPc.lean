/- What an instance that is begun is, and what it is ordered with: plain facts; no dump. -/
import Derived.Test.YtpknkhgkejkpkaaGreatPb
namespace Go.Proofs.YtpknkhgkejkpkaaGreat
open Go.RowKit

/-- A replica's next instance. -/
def begR (X : List Rv) (p : Int) (c : M.Cmd) : M.Rec :=
  M.withA ⟨p, nextSlot p (rcs X), 1, 0, 0, 0, 0, c, 0, 0, 0, 0, 0, 0, 0, 0, true⟩ (atS X (p, nextSlot p (rcs X)) c 1) (atD X (p, nextSlot p (rcs X)) c (fun _ => 0)) true
def begX (X : List Rv) (p : Int) (c : M.Cmd) : M.Rec × Int :=
  if p < 0 ∨ 7 ≤ p ∨ M.rightC c = false then (M.zrec, 1) else if 1048576 < nextSlot p (rcs X) then (M.zrec, 2) else (begR X p c, 0)
theorem beg_err {X : List Rv} {p : Int} {c : M.Cmd} (h : (begX X p c).2 ≠ 0) : (begX X p c).1 = M.zrec := by
  unfold begX at h ⊢
  split
  · rfl
  · rename_i h1
    rw [if_neg h1] at h
    split
    · rfl
    · rename_i h2
      rw [if_neg h2] at h
      exact absurd rfl h
structure Begs (X : List Rv) (p : Int) (c : M.Cmd) : Prop where
  low : 0 ≤ p
  high : p ≤ 6
  cmd : M.rightC c = true
  slot : nextSlot p (rcs X) ≤ 1048576
  rcd : (begX X p c).1 = begR X p c
theorem beg_ok {X : List Rv} {p : Int} {c : M.Cmd} (h : (begX X p c).2 = 0) : Begs X p c := by
  unfold begX at h
  split at h
  · exact absurd h (by decide)
  · rename_i h1
    split at h
    · exact absurd h (by decide)
    · rename_i h2
      refine ⟨by omega, by omega, ?_, by omega, by unfold begX; rw [if_neg h1, if_neg h2]⟩
      rcases hc : M.rightC c with _ | _
      · exact absurd (.inr (.inr hc)) h1
      · rfl
theorem slots_ge (p : Int) : ∀ (l : List M.Rec) (n : Int), n ≤ slotsL p n l ∧ ∀ r ∈ l, r.ir = p → r.is ≤ slotsL p n l
  | [], n => ⟨Int.le_refl n, fun _ h => (List.not_mem_nil h).elim⟩
  | r :: l, n => by
    obtain ⟨h1, h2⟩ := slots_ge p l (slot1 p n r)
    have h3 : n ≤ slot1 p n r ∧ (r.ir = p → r.is ≤ slot1 p n r) := by
      unfold slot1
      split
      · exact ⟨(mx_le _ _).1, fun _ => (mx_le _ _).2⟩
      · rename_i e; exact ⟨Int.le_refl _, fun h => absurd h e⟩
    refine ⟨Int.le_trans h3.1 h1, fun q hq e => ?_⟩
    rcases List.mem_cons.1 hq with rfl | hq
    · exact Int.le_trans (h3.2 e) h1
    · exact h2 q hq e
theorem slot_above {p : Int} {l : List M.Rec} (h : nextSlot p l ≤ 1048576) : 1 ≤ nextSlot p l ∧ ∀ r ∈ l, r.ir = p → r.is < nextSlot p l := by
  obtain ⟨h1, h2⟩ := slots_ge p l 0
  unfold nextSlot Dp.M.mn at h ⊢
  split
  · rename_i e
    rw [if_pos e] at h
    omega
  · refine ⟨by omega, fun r hr e => ?_⟩
    have := h2 r hr e
    omega
theorem dep_zero : ∀ k, k < 7 → (0 : Int) ≤ (fun _ : Nat => (0 : Int)) k ∧ (fun _ : Nat => (0 : Int)) k ≤ 1048576 := fun _ _ => ⟨Int.le_refl _, (show (0 : Int) ≤ 1048576 by decide)⟩
theorem begR_right {X : List Rv} {p : Int} {c : M.Cmd} (R : Rights X) (B : Begs X p c) : M.rightR (begR X p c) = true := by
  have hs := atS_range R (p, nextSlot p (rcs X)) c (s := 1) (by omega)
  have hd := atD_range R (p, nextSlot p (rcs X)) c dep_zero
  have hi : M.pairB p (nextSlot p (rcs X)) 0 6 1 1048576 = true := M.pairB_iff.2 ⟨⟨B.low, B.high⟩, (slot_above B.slot).1, B.slot⟩
  refine M.rightR_iff.2 ⟨hi, (show M.pairB 0 0 0 1099511627776 0 6 = true by decide), (show M.pairB 0 0 0 1099511627776 0 6 = true by decide), (show M.ord 0 0 0 0 ≤ 0 by decide), B.cmd, right_of_deps (dep_withA _ _ _ _) hd, ?_⟩
  rw [M.fits_st1 (r := begR X p c) rfl]
  unfold M.seqB begR M.withA
  simpa using hs
/-- What is ordered: the slot of one that interferes, of those that count, is in the deps. -/
theorem at_dep {X : List Rv} {x : Rv} {k : Nat} (i : Ky) (c : M.Cmd) (d : Nat → Int) (hx : X[k]? = some x) (hl : lastB (keysOf X) k = true) (hi : M.eq2 x.r.ir x.r.is i.1 i.2 = false) (hst : x.r.st ≠ 0) (hc : M.interB x.r.c c = true) (R : M.rightR x.r = true) : x.r.is ≤ atD X i c d x.r.ir.toNat := by
  have H := M.rightR_iff.1 R
  obtain ⟨⟨h0, h6⟩, h1, -⟩ := M.pairB_iff.1 H.inst
  have hs : 0 < x.r.st := by
    have := H.fits
    unfold M.fitsS at this
    rw [if_neg hst] at this
    split at this
    · omega
    · split at this
      · omega
      · cases this
  have hcf : confB i c x = true := by
    unfold confB
    rw [hi, decide_eq_true hs, hc]; rfl
  have := at_has i c d hx hl hcf h0 h6 h1
  exact (Dp.M.has_iff.1 this).2.2
end Go.Proofs.YtpknkhgkejkpkaaGreat
