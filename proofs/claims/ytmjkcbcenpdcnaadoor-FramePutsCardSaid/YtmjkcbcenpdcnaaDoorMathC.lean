/- Plain facts on frames in a row; no conditions but those that each theorem names. -/
import Derived.Test.YtmjkcbcenpdcnaaDoorWalksI
namespace Go.Proofs.YtmjkcbcenpdcnaaDoor
namespace M
/-- All frames from the beginning on. -/
def scan : Nat → List UInt8 → List (List UInt8) × Nat
  | 0, _ => ([], 0)
  | f + 1, xs => if ge xs = 0 then (gp xs :: (scan f (xs.drop (gs xs))).1, gs xs + (scan f (xs.drop (gs xs))).2) else ([], 0)
def sl (xs : List UInt8) : List (List UInt8) := (scan (xs.length + 1) xs).1
def st (xs : List UInt8) : Nat := (scan (xs.length + 1) xs).2
theorem scan_ok {f : Nat} {xs : List UInt8} (h : ge xs = 0) : scan (f + 1) xs = (gp xs :: (scan f (xs.drop (gs xs))).1, gs xs + (scan f (xs.drop (gs xs))).2) := by rw [scan, if_pos h]
theorem scan_no {f : Nat} {xs : List UInt8} (h : ge xs ≠ 0) : scan f xs = ([], 0) := by
  cases f with
  | zero => rfl
  | succ f => rw [scan, if_neg h]
theorem gs_ok {xs : List UInt8} (h : ge xs = 0) : gs xs = gn xs + 8 ∧ 1 ≤ gn xs ∧ gn xs ≤ 4096 ∧ gs xs ≤ xs.length := by
  obtain ⟨a, b, c, d⟩ := ge_ok_iff.1 h
  have h1 := (hd_iff.1 b).1
  have hg : gs xs = gn xs + 8 := by rw [gs, if_pos h]
  omega
theorem gp_ok {xs : List UInt8} (h : ge xs = 0) : (gp xs).length = gn xs := by
  have := gs_ok h
  rw [gp, if_pos h]; simp; omega
/-- As much as there may be to come is enough. -/
theorem scan_more : ∀ (f g : Nat) (xs : List UInt8), xs.length < f → xs.length < g → scan f xs = scan g xs
  | 0, _, _, h, _ => absurd h (by omega)
  | _ + 1, 0, _, _, h => absurd h (by omega)
  | f + 1, g + 1, xs, h1, h2 => by
    by_cases h : ge xs = 0
    · have := gs_ok h
      rw [scan_ok h, scan_ok h, scan_more f g (xs.drop (gs xs)) (by simp; omega) (by simp; omega)]
    · rw [scan_no h, scan_no h]
theorem sl_ok {xs : List UInt8} (h : ge xs = 0) : sl xs = gp xs :: sl (xs.drop (gs xs)) ∧ st xs = gs xs + st (xs.drop (gs xs)) := by
  have := gs_ok h
  unfold sl st
  rw [scan_ok h]
  rw [scan_more xs.length ((xs.drop (gs xs)).length + 1) (xs.drop (gs xs)) (by simp; omega) (by omega)]
  exact ⟨rfl, rfl⟩
theorem sl_no {xs : List UInt8} (h : ge xs ≠ 0) : sl xs = [] ∧ st xs = 0 := by
  unfold sl st
  rw [scan_no h]
  exact ⟨rfl, rfl⟩
theorem st_le : ∀ (m : Nat) (xs : List UInt8), xs.length ≤ m → st xs ≤ xs.length ∧ (sl xs).length ≤ st xs
  | m, xs, hm => by
    by_cases h : ge xs = 0
    · have h1 := gs_ok h
      have h2 := sl_ok h
      cases m with
      | zero => omega
      | succ m =>
        have ih := st_le m (xs.drop (gs xs)) (by simp; omega)
        rw [h2.1, h2.2]
        simp at ih ⊢
        omega
    · have h2 := sl_no h
      rw [h2.1, h2.2]
      simp
/-- A frame is read back, whatever follows. -/
theorem gn_head {n : Nat} (hn : n ≤ 65535) (r : List UInt8) : gn (head n ++ r) = n := by
  simp only [gn, head, List.cons_append, List.getD_cons_zero, List.getD_cons_succ, b8_nat]
  omega
theorem get_frm {p : List UInt8} (h1 : 1 ≤ p.length) (h2 : p.length ≤ 4096) (r : List UInt8) : ge (frm p ++ r) = 0 ∧ gp (frm p ++ r) = p ∧ gs (frm p ++ r) = p.length + 8 := by
  have hlen := frm_len p
  have hg : gn (frm p ++ r) = p.length := by rw [frm, List.append_assoc, List.append_assoc]; exact gn_head (by omega) _
  have ht : (frm p ++ r).take 4 = head p.length := by rw [frm, List.append_assoc, List.append_assoc, List.take_left' (head_len _)]
  have hh : hdB (frm p ++ r) = true := by rw [hd_iff, hg]; exact ⟨⟨h1, h2⟩, ht⟩
  have hp : ((frm p ++ r).drop 4).take (gn (frm p ++ r)) = p := by
    rw [hg, frm, List.append_assoc, List.append_assoc, List.drop_left' (head_len _), List.take_left]
  have hs : smB (frm p ++ r) = true := by
    rw [sm_iff hh (by rw [hg]; simp; omega), hp, hg, List.take_left' hlen]
  have he : ge (frm p ++ r) = 0 := ge_ok (by simp; omega) hh (by rw [hg]; simp; omega) hs
  exact ⟨he, by rw [gp, if_pos he]; exact hp, by rw [gs, if_pos he, hg]⟩
/-- Frames in a row. -/
def frms : List (List UInt8) → List UInt8
  | [] => []
  | p :: l => frm p ++ frms l
theorem frms_append : ∀ (l m : List (List UInt8)), frms (l ++ m) = frms l ++ frms m
  | [], m => rfl
  | p :: l, m => by rw [List.cons_append, frms, frms, frms_append l m, List.append_assoc]
def Fits (l : List (List UInt8)) : Prop := ∀ p ∈ l, 1 ≤ p.length ∧ p.length ≤ 4096
/-- P6.3: all of a row, and what follows. -/
theorem scan_row : ∀ (l : List (List UInt8)) (r : List UInt8), Fits l → sl (frms l ++ r) = l ++ sl r ∧ st (frms l ++ r) = (frms l).length + st r
  | [], r, _ => by simp [frms]
  | p :: l, r, h => by
    obtain ⟨h1, h2⟩ := h p (by simp)
    rw [frms, List.append_assoc]
    obtain ⟨e1, e2, e3⟩ := get_frm h1 h2 (frms l ++ r)
    obtain ⟨s1, s2⟩ := sl_ok e1
    have ed : (frm p ++ (frms l ++ r)).drop (gs (frm p ++ (frms l ++ r))) = frms l ++ r := by rw [e3]; exact List.drop_left' (frm_len p)
    rw [ed] at s1 s2
    obtain ⟨i1, i2⟩ := scan_row l r (fun q hq => h q (by simp [hq]))
    rw [s1, s2, e2, e3, i1, i2]
    simp [frm_len]; omega
end M
end Go.Proofs.YtmjkcbcenpdcnaaDoor
