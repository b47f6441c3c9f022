/- Plain facts on rows of frames with one byte turned, or cut off behind; no conditions but those that each theorem names. -/
import Derived.Test.YtmjkcbcenpdcnaaDoorMathC
namespace Go.Proofs.YtmjkcbcenpdcnaaDoor
namespace M
/-- Of a row's frames, those that end at a place or ahead: how many, and how long. -/
def ahead : Nat → List (List UInt8) → Nat × Nat
  | _, [] => (0, 0)
  | k, p :: l => if p.length + 8 ≤ k then ((ahead (k - (p.length + 8)) l).1 + 1, (ahead (k - (p.length + 8)) l).2 + (p.length + 8)) else (0, 0)

theorem tail_inj {a b : Nat} (ha : a < 4294967296) (hb : b < 4294967296) (h : tail a = tail b) : a = b := by
  simp only [tail, List.cons.injEq, and_true, ← UInt8.toNat_inj, b8_nat] at h
  omega
theorem gn_take4 {xs ys : List UInt8} (h : xs.take 4 = ys.take 4) : gn xs = gn ys := by
  have e : ∀ (zs : List UInt8) (k : Nat), k < 4 → zs.getD k 0 = (zs.take 4).getD k 0 := fun zs k hk => (getD_take hk).symm
  rw [gn, gn, e xs 0 (by omega), e xs 1 (by omega), h, ← e ys 0 (by omega), ← e ys 1 (by omega)]
theorem frm_take4 (p : List UInt8) : (frm p).take 4 = head p.length := by rw [frm, List.append_assoc, List.take_left' (head_len _)]
theorem gn_frm {p : List UInt8} (h : p.length ≤ 65535) {xs : List UInt8} (hx : xs.take 4 = (frm p).take 4) : gn xs = p.length := by
  rw [gn_take4 (hx.trans (frm_take4 p)|>.trans (show head p.length = (head p.length ++ []).take 4 by rw [List.append_nil]; rfl))]
  exact gn_head h []

theorem head_sum (n : Nat) : ((head n).getD 0 0).toNat + ((head n).getD 2 0).toNat = 255 ∧ ((head n).getD 1 0).toNat + ((head n).getD 3 0).toNat = 255 := by
  simp only [head, List.getD_cons_zero, List.getD_cons_succ, b8_nat]
  omega
theorem getD_frm {p : List UInt8} {j : Nat} (hj : j < 4) : (frm p).getD j 0 = (head p.length).getD j 0 := by
  rw [← getD_take hj, frm_take4]
theorem getD_set_ne {xs : List UInt8} {k j : Nat} {y : UInt8} (h : j ≠ k) : (xs.set k y).getD j 0 = xs.getD j 0 := by
  rw [List.getD, List.getD, List.getElem?_set_ne (Ne.symm h)]
theorem getD_set_eq {xs : List UInt8} {k : Nat} {y : UInt8} (h : k < xs.length) : (xs.set k y).getD k 0 = y := by
  rw [List.getD, List.getElem?_set_self h]; rfl
theorem getD_left {xs ys : List UInt8} {j : Nat} (h : j < xs.length) : (xs ++ ys).getD j 0 = xs.getD j 0 := by
  rw [List.getD, List.getD, List.getElem?_append_left h]

/-- A frame with one byte turned is none. -/
theorem turned_frm {p r : List UInt8} {k : Nat} {y : UInt8} (h2 : p.length ≤ 4096) (hk : k < p.length + 8) (hy : (y.toNat : Nat) ≠ ((frm p).getD k 0).toNat) : ge ((frm p).set k y ++ r) ≠ 0 := by
  intro hz
  have hl := frm_len p
  obtain ⟨a, b, c, d⟩ := ge_ok_iff.1 hz
  by_cases hk4 : k < 4
  · have hd := (hd_doc (by omega)).1 b
    have hs := head_sum p.length
    have e : ∀ j, j < 4 → j ≠ k → ((frm p).set k y ++ r).getD j 0 = (head p.length).getD j 0 := by
      intro j hj hne
      rw [getD_left (by simp; omega), getD_set_ne hne, getD_frm hj]
    have ek : ((frm p).set k y ++ r).getD k 0 = y := by rw [getD_left (by simp; omega)]; exact getD_set_eq (by omega)
    rw [getD_frm hk4] at hy
    have : k = 0 ∨ k = 1 ∨ k = 2 ∨ k = 3 := by omega
    rcases this with rfl | rfl | rfl | rfl
    · rw [ek, e 1 (by omega) (by omega), e 2 (by omega) (by omega), e 3 (by omega) (by omega)] at hd; omega
    · rw [ek, e 0 (by omega) (by omega), e 2 (by omega) (by omega), e 3 (by omega) (by omega)] at hd; omega
    · rw [ek, e 0 (by omega) (by omega), e 1 (by omega) (by omega), e 3 (by omega) (by omega)] at hd; omega
    · rw [ek, e 0 (by omega) (by omega), e 1 (by omega) (by omega), e 2 (by omega) (by omega)] at hd; omega
  · have ht : ((frm p).set k y ++ r).take 4 = (frm p).take 4 := by
      rw [List.take_append_of_le_length (by simp; omega), List.take_set_of_le (by omega)]
    have hg := gn_frm (by omega) ht
    have hs := (sm_iff b (by omega)).1 d
    rw [hg] at hs
    have e8 : ((frm p).set k y ++ r).take (p.length + 8) = (frm p).set k y := List.take_left' (by simp; omega)
    rw [e8] at hs
    by_cases hk8 : k < p.length + 4
    · have hset : (frm p).set k y = head p.length ++ p.set (k - 4) y ++ tail (crc (head p.length ++ p)) := by
        rw [frm, List.set_append_left _ _ (by simp [head_len]; omega), List.set_append_right _ _ (by simp [head_len]; omega), head_len]
      have hp : (((frm p).set k y ++ r).drop 4).take p.length = p.set (k - 4) y := by
        rw [hset, List.append_assoc, List.append_assoc, List.drop_left' (head_len _), List.take_left' (by simp)]
      rw [hp, hset, frm, List.length_set] at hs
      have ht2 := List.append_cancel_left hs
      have hc := tail_inj (crc_lt _) (crc_lt _) ht2
      have hkp : k - 4 < p.length := by omega
      have e1 : p = p.take (k - 4) ++ p[k - 4] :: p.drop (k - 4 + 1) := by simp
      have e2 : p.set (k - 4) y = p.take (k - 4) ++ y :: p.drop (k - 4 + 1) := by rw [List.set_eq_take_append_cons_drop, if_pos hkp]
      rw [e2] at hc
      have hc' : crc ((head p.length ++ p.take (k - 4)) ++ y :: p.drop (k - 4 + 1)) = crc ((head p.length ++ p.take (k - 4)) ++ p[k - 4] :: p.drop (k - 4 + 1)) := by
        rw [List.append_assoc, List.append_assoc, ← e1]; exact hc
      have hyy := crc_turned _ _ _ _ hc'
      apply hy
      rw [hyy, frm, List.append_assoc, List.getD, List.getElem?_append_right (by rw [head_len]; omega), head_len, List.getElem?_append_left hkp, List.getElem?_eq_getElem hkp]
      rfl
    · have hp : (((frm p).set k y ++ r).drop 4).take p.length = p := by
        rw [frm, List.set_append_right _ _ (by simp [head_len]; omega), List.append_assoc, List.append_assoc, List.drop_left' (head_len _), List.take_left]
      rw [hp] at hs
      apply hy
      have := congrArg (fun z : List UInt8 => z.getD k 0) hs
      rw [getD_set_eq (by omega)] at this
      rw [this]

/-- A frame that is cut off is none. -/
theorem cut_frm {p : List UInt8} {k : Nat} (h2 : p.length ≤ 4096) (hk : k < p.length + 8) : ge ((frm p).take k) ≠ 0 := by
  intro hz
  have hl := frm_len p
  obtain ⟨a, b, c, d⟩ := ge_ok_iff.1 hz
  have hlen : ((frm p).take k).length = k := by simp; omega
  have ht : ((frm p).take k).take 4 = (frm p).take 4 := by rw [List.take_take, Nat.min_eq_left (by omega)]
  have hg := gn_frm (by omega) ht
  omega

theorem ahead_yes {k : Nat} {p : List UInt8} {l : List (List UInt8)} (h : p.length + 8 ≤ k) : ahead k (p :: l) = ((ahead (k - (p.length + 8)) l).1 + 1, (ahead (k - (p.length + 8)) l).2 + (p.length + 8)) := by rw [ahead, if_pos h]
theorem ahead_no {k : Nat} {p : List UInt8} {l : List (List UInt8)} (h : ¬ p.length + 8 ≤ k) : ahead k (p :: l) = (0, 0) := by rw [ahead, if_neg h]

/-- P6.4: one byte turned. -/
theorem scan_turned : ∀ (l : List (List UInt8)) (k : Nat) (y : UInt8), Fits l → k < (frms l).length → (y.toNat : Nat) ≠ ((frms l).getD k 0).toNat →
    (sl ((frms l).set k y)).length = (ahead k l).1 ∧ st ((frms l).set k y) = (ahead k l).2
  | [], k, y, _, hk, _ => by simp [frms] at hk
  | p :: l, k, y, h, hk, hy => by
    obtain ⟨h1, h2⟩ := h p (by simp)
    have hl := frm_len p
    rw [frms] at hk hy ⊢
    by_cases hc : p.length + 8 ≤ k
    · rw [List.set_append_right _ _ (by omega), hl]
      obtain ⟨e1, e2, e3⟩ := get_frm h1 h2 ((frms l).set (k - (p.length + 8)) y)
      obtain ⟨s1, s2⟩ := sl_ok e1
      rw [show (frm p ++ (frms l).set (k - (p.length + 8)) y).drop (gs (frm p ++ (frms l).set (k - (p.length + 8)) y)) = (frms l).set (k - (p.length + 8)) y by rw [e3]; exact List.drop_left' hl] at s1 s2
      have hy' : (y.toNat : Nat) ≠ ((frms l).getD (k - (p.length + 8)) 0).toNat := by
        rw [List.getD, List.getElem?_append_right (by omega), hl] at hy; exact hy
      obtain ⟨i1, i2⟩ := scan_turned l (k - (p.length + 8)) y (fun q hq => h q (by simp [hq])) (by simp at hk; omega) hy'
      rw [s1, s2, ahead_yes hc, e3, List.length_cons, i1, i2]
      exact ⟨rfl, by omega⟩
    · rw [List.set_append_left _ _ (by omega), ahead_no hc]
      have hy' : (y.toNat : Nat) ≠ ((frm p).getD k 0).toNat := by rw [getD_left (by omega)] at hy; exact hy
      obtain ⟨s1, s2⟩ := sl_no (turned_frm (r := frms l) h2 (by omega) hy')
      rw [s1, s2]; exact ⟨rfl, rfl⟩

/-- P6.4: cut off. -/
theorem scan_cut : ∀ (l : List (List UInt8)) (k : Nat), Fits l → k ≤ (frms l).length → (sl ((frms l).take k)).length = (ahead k l).1 ∧ st ((frms l).take k) = (ahead k l).2
  | [], k, _, hk => by
    have h : sl ((frms []).take k) = [] ∧ st ((frms []).take k) = 0 := sl_no (by simp [frms, ge])
    rw [h.1, h.2]; exact ⟨rfl, rfl⟩
  | p :: l, k, h, hk => by
    obtain ⟨h1, h2⟩ := h p (by simp)
    have hl := frm_len p
    rw [frms] at hk ⊢
    by_cases hc : p.length + 8 ≤ k
    · rw [List.take_append, List.take_of_length_le (by omega), hl]
      obtain ⟨e1, e2, e3⟩ := get_frm h1 h2 ((frms l).take (k - (p.length + 8)))
      obtain ⟨s1, s2⟩ := sl_ok e1
      rw [show (frm p ++ (frms l).take (k - (p.length + 8))).drop (gs (frm p ++ (frms l).take (k - (p.length + 8)))) = (frms l).take (k - (p.length + 8)) by rw [e3]; exact List.drop_left' hl] at s1 s2
      obtain ⟨i1, i2⟩ := scan_cut l (k - (p.length + 8)) (fun q hq => h q (by simp [hq])) (by simp at hk; omega)
      rw [s1, s2, ahead_yes hc, e3, List.length_cons, i1, i2]
      exact ⟨rfl, by omega⟩
    · rw [List.take_append_of_le_length (by omega), ahead_no hc]
      obtain ⟨s1, s2⟩ := sl_no (cut_frm h2 (by omega : k < p.length + 8))
      rw [s1, s2]; exact ⟨rfl, rfl⟩
end M
end Go.Proofs.YtmjkcbcenpdcnaaDoor
