/- Records in a row of bytes, as plain values: what is read of any bytes, of frames and what follows, of what a crash leaves; no conditions but those that each theorem names. -/
import Derived.Test.YtdachohcjpjblaaGreatDoorFFr
import Derived.Test.YtdachohcjpjblaaGreatDoorFDi
import Derived.Test.YtdachohcjpjblaaGreatDoorFWiP
set_option maxHeartbeats 8000000
set_option maxRecDepth 100000
namespace Go.Proofs.YtdachohcjpjblaaGreatDoor
namespace K
abbrev Rec := Wi.M.Rec
abbrev enc (r : Rec) : List UInt8 := Wi.M.encR r
def len (r : Rec) : Nat := (enc r).length + 8
def fb (A : List Rec) : List UInt8 := Fr.M.frms (A.map enc)
def Rg (A : List Rec) : Prop := ∀ r ∈ A, Wi.M.rightR r = true
def one (p : List UInt8) : Option Rec := match Wi.P.dec p with
 | .ok (.inr (.inl r)) => some r
 | _ => none
def recs : List (List UInt8) → List Rec
 | [] => []
 | p :: l => match one p with
   | some r => r :: recs l
   | none => []
def rd (b : List UInt8) : List Rec := recs (Fr.M.sl b)
theorem rightC_of {r : Rec} (h : Wi.M.rightR r = true) : Wi.M.rightC r.c = true := by
 unfold Wi.M.rightR at h
 simp only [Bool.and_eq_true] at h
 exact h.2.2.2.2.1
theorem tiny {r : Rec} (h : Wi.M.rightR r = true) : Wi.M.Tiny r.c := Wi.M.right_tiny (rightC_of h)
theorem fits {r : Rec} (h : Wi.M.rightR r = true) : Wi.M.FitsR r := Wi.M.rightR_fits h (Wi.M.tiny_mod (tiny h))
theorem sml {r : Rec} (h : Wi.M.rightR r = true) : Wi.P.Sml r.c := have T := tiny h; ⟨(fits h).c, T.rl, T.wl, T.rs, T.ws⟩
theorem enc_len {r : Rec} (h : Wi.M.rightR r = true) : 1 ≤ (enc r).length ∧ (enc r).length ≤ 800 :=
 ⟨by unfold enc; rw [Wi.P.encR_body]; simp, Wi.M.encR_len (tiny h)⟩
theorem one_enc {r : Rec} (h : Wi.M.rightR r = true) : one (enc r) = some r := by
 have : Wi.P.dec (Wi.P.encV (.inr (.inl r))) = .ok (.inr (.inl r)) := Wi.P.dec_back ⟨fits h, sml h⟩ h
 unfold one
 rw [show enc r = Wi.P.encV (.inr (.inl r)) from rfl, this]
theorem one_inv {p : List UInt8} {r : Rec} (h : one p = some r) : p = enc r ∧ Wi.M.rightR r = true := by
 unfold one at h
 split at h
 ·rename_i r' e
  cases h
  obtain ⟨_, e1, _, e2⟩ := Wi.P.dec_ok e
  exact ⟨e1, e2⟩
 ·cases h
theorem recs_yes {p : List UInt8} {l : List (List UInt8)} {r : Rec} (h : one p = some r) : recs (p :: l) = r :: recs l := by rw [recs, h]
theorem recs_no {p : List UInt8} {l : List (List UInt8)} (h : one p = none) : recs (p :: l) = [] := by rw [recs, h]
theorem recs_rg : ∀ l, Rg (recs l)
 | [] => fun r h => by cases h
 | p :: l => by
   cases h : one p with
   | none => rw [recs_no h]; exact fun r h => by cases h
   | some r =>
     rw [recs_yes h]
     intro r' hr
     rcases List.mem_cons.1 hr with rfl | hr
     ·exact (one_inv h).2
     ·exact recs_rg l r' hr
theorem rd_rg (b : List UInt8) : Rg (rd b) := recs_rg _
theorem recs_app : ∀ (A : List Rec) (l : List (List UInt8)), Rg A → recs (A.map enc ++ l) = A ++ recs l
 | [], l, _ => rfl
 | r :: A, l, h => by
   rw [List.map_cons, List.cons_append, recs_yes (one_enc (h r (by simp))), recs_app A l (fun x hx => h x (by simp [hx])), List.cons_append]
theorem recs_pre : ∀ (l : List (List UInt8)), ∃ l', l = (recs l).map enc ++ l'
 | [] => ⟨[], rfl⟩
 | p :: l => by
   cases h : one p with
   | none => rw [recs_no h]; exact ⟨p :: l, rfl⟩
   | some r =>
     obtain ⟨l', e⟩ := recs_pre l
     rw [recs_yes h]
     refine ⟨l', ?_⟩
     rw [List.map_cons, List.cons_append, ← e, ← (one_inv h).1]
theorem fb_append (A B : List Rec) : fb (A ++ B) = fb A ++ fb B := by unfold fb; rw [List.map_append, Fr.M.frms_append]
theorem fb_cons (r : Rec) (A : List Rec) : fb (r :: A) = Fr.M.frm (enc r) ++ fb A := rfl
theorem fb_nil : fb [] = [] := rfl
theorem len_frm (r : Rec) : (Fr.M.frm (enc r)).length = len r := Fr.M.frm_len _
theorem fb_len_cons (r : Rec) (A : List Rec) : (fb (r :: A)).length = len r + (fb A).length := by rw [fb_cons, List.length_append, len_frm]
theorem Rg.fits {A : List Rec} (h : Rg A) : Fr.M.Fits (A.map enc) := by
 intro p hp
 obtain ⟨r, hr, rfl⟩ := List.mem_map.1 hp
 have := enc_len (h r hr)
 omega
theorem Rg.cons {r : Rec} {A : List Rec} (h : Rg (r :: A)) : Wi.M.rightR r = true ∧ Rg A := ⟨h r (by simp), fun x hx => h x (by simp [hx])⟩
theorem Rg.app {A B : List Rec} (h : Rg A) (k : Rg B) : Rg (A ++ B) := fun r hr => (List.mem_append.1 hr).elim (h r) (k r)
theorem Rg.take {A : List Rec} (h : Rg A) (n : Nat) : Rg (A.take n) := fun r hr => h r (List.mem_of_mem_take hr)
theorem Rg.nil : Rg [] := fun r h => by cases h
theorem rd_fb {A : List Rec} (h : Rg A) (x : List UInt8) : rd (fb A ++ x) = A ++ rd x := by
 unfold rd fb
 rw [(Fr.M.scan_row _ x h.fits).1, recs_app A _ h]
theorem rd_nil : rd [] = [] := by
 unfold rd
 rw [(Fr.M.sl_no (by simp [Fr.M.ge] : Fr.M.ge [] ≠ 0)).1]; rfl
theorem rd_of_fb {A : List Rec} (h : Rg A) : rd (fb A) = A := by
 have := rd_fb h []
 rwa [List.append_nil, rd_nil, List.append_nil] at this
theorem rd_no {x : List UInt8} (h : Fr.M.ge x ≠ 0) : rd x = [] := by
 unfold rd; rw [(Fr.M.sl_no h).1]; rfl
theorem frm_take {xs : List UInt8} (h : Fr.M.ge xs = 0) : Fr.M.frm (Fr.M.gp xs) = xs.take (Fr.M.gs xs) := by
 obtain ⟨a, b, c, d⟩ := Fr.M.ge_ok_iff.1 h
 have := (Fr.M.sm_iff b (by omega)).1 d
 rw [Fr.M.gp, if_pos h, Fr.M.gs, if_pos h]
 exact this
theorem frms_sl : ∀ (m : Nat) (xs : List UInt8), xs.length ≤ m → Fr.M.frms (Fr.M.sl xs) = xs.take (Fr.M.st xs)
 | m, xs, hm => by
   by_cases h : Fr.M.ge xs = 0
   ·have h1 := Fr.M.gs_ok h
    have h2 := Fr.M.sl_ok h
    cases m with
    | zero => omega
    | succ m =>
      have ih := frms_sl m (xs.drop (Fr.M.gs xs)) (by simp; omega)
      rw [h2.1, h2.2, Fr.M.frms, ih, frm_take h, List.take_add]
   ·have h2 := Fr.M.sl_no h
    rw [h2.1, h2.2]; rfl
theorem rd_pre (b : List UInt8) : ∃ x, b = fb (rd b) ++ x := by
 obtain ⟨l', e⟩ := recs_pre (Fr.M.sl b)
 have h := frms_sl b.length b (Nat.le_refl _)
 rw [e, Fr.M.frms_append] at h
 refine ⟨Fr.M.frms l' ++ b.drop (Fr.M.st b), ?_⟩
 show b = Fr.M.frms ((recs (Fr.M.sl b)).map enc) ++ _
 rw [← List.append_assoc, h, List.take_append_drop]
theorem rd_len (b : List UInt8) : (fb (rd b)).length ≤ b.length := by
 obtain ⟨x, e⟩ := rd_pre b
 have := congrArg List.length e
 rw [List.length_append] at this
 omega
theorem rd_take (b : List UInt8) : b.take (fb (rd b)).length = fb (rd b) := by
 obtain ⟨x, e⟩ := rd_pre b
 rw [show b.take (fb (rd b)).length = (fb (rd b) ++ x).take (fb (rd b)).length from congrArg (List.take _) e, List.take_left]
theorem fb_count : ∀ (A : List Rec), 9 * A.length ≤ (fb A).length ∨ ¬ Rg A
 | [] => .inl (by simp [fb_nil])
 | r :: A => by
   rcases fb_count A with h | h
   ·by_cases hr : Wi.M.rightR r = true
    ·have := enc_len hr
     left
     rw [fb_len_cons, len, List.length_cons]
     omega
    ·right; exact fun h => hr (h r (by simp))
   ·right; exact fun k => h k.cons.2
theorem Rg.count {A : List Rec} (h : Rg A) : 9 * A.length ≤ (fb A).length := (fb_count A).elim id (fun k => absurd h k)
theorem cut_turned {p : List UInt8} {k j : Nat} {y : UInt8} (h2 : p.length ≤ 4096) (hk : k < p.length + 8) (hj : j < k) (hy : (y.toNat : Nat) ≠ ((Fr.M.frm p).getD j 0).toNat) : Fr.M.ge (((Fr.M.frm p).take k).set j y) ≠ 0 := by
 intro hz
 have hl := Fr.M.frm_len p
 obtain ⟨a, b, c, d⟩ := Fr.M.ge_ok_iff.1 hz
 have hlen : (((Fr.M.frm p).take k).set j y).length = k := by simp; omega
 by_cases hj4 : j < 4
 ·have hd := (Fr.M.hd_doc (by omega)).1 b
  have hs := Fr.M.head_sum p.length
  have e : ∀ i, i < 4 → i ≠ j → (((Fr.M.frm p).take k).set j y).getD i 0 = (Fr.M.head p.length).getD i 0 := by
   intro i hi hne
   rw [Fr.M.getD_set_ne hne, Fr.M.getD_take (by omega), Fr.M.getD_frm hi]
  have ek : (((Fr.M.frm p).take k).set j y).getD j 0 = y := Fr.M.getD_set_eq (by simp; omega)
  rw [Fr.M.getD_frm hj4] at hy
  have : j = 0 ∨ j = 1 ∨ j = 2 ∨ j = 3 := by omega
  rcases this with rfl | rfl | rfl | rfl
  ·rw [ek, e 1 (by omega) (by omega), e 2 (by omega) (by omega), e 3 (by omega) (by omega)] at hd; omega
  ·rw [ek, e 0 (by omega) (by omega), e 2 (by omega) (by omega), e 3 (by omega) (by omega)] at hd; omega
  ·rw [ek, e 0 (by omega) (by omega), e 1 (by omega) (by omega), e 3 (by omega) (by omega)] at hd; omega
  ·rw [ek, e 0 (by omega) (by omega), e 1 (by omega) (by omega), e 2 (by omega) (by omega)] at hd; omega
 ·have ht : (((Fr.M.frm p).take k).set j y).take 4 = (Fr.M.frm p).take 4 := by
   rw [List.take_set_of_le (by omega), List.take_take, Nat.min_eq_left (by omega)]
  have hg := Fr.M.gn_frm (by omega) ht
  omega
def left (keep : Int) (L : List UInt8) : Nat := min (max keep 0).toNat L.length
def fall (keep pos : Int) (mask : UInt8) (L : List UInt8) : List UInt8 :=
 if 0 ≤ pos ∧ pos < left keep L then (L.take (left keep L)).set pos.toNat (L.getD pos.toNat 0 ^^^ mask) else L.take (left keep L)
theorem left_le (keep : Int) (L : List UInt8) : left keep L ≤ L.length := by unfold left; omega
theorem fall_len (keep pos : Int) (mask : UInt8) (L : List UInt8) : (fall keep pos mask L).length = left keep L := by
 have := left_le keep L
 unfold fall
 split <;> simp <;> omega
theorem fell_fall (z : Nat) (a L : List UInt8) (keep pos : Int) (mask : UInt8) : Di.M.fell keep pos mask ⟨z, a ++ L, a.length⟩ = a ++ fall keep pos mask L := by
 have hl : Di.M.left keep ⟨z, a ++ L, a.length⟩ = left keep L := by
  unfold Di.M.left left
  simp
 unfold Di.M.fell fall
 rw [hl]
 have h0 := left_le keep L
 have ht : (a ++ L).take (a.length + left keep L) = a ++ L.take (left keep L) := by
  rw [List.take_append, List.take_of_length_le (by omega), show a.length + left keep L - a.length = left keep L by omega]
 simp only [ht]
 split
 ·rename_i h
  rw [List.set_append_right _ _ (by omega), show a.length + pos.toNat - a.length = pos.toNat by omega]
  congr 2
  rw [List.getD, List.getElem?_append_right (by omega), show a.length + pos.toNat - a.length = pos.toNat by omega]; rfl
 ·rfl
def cnt (tn : Bool) : Int → Int → List Rec → Nat
 | _, _, [] => 0
 | keep, pos, r :: l => if keep < len r ∨ (tn = true ∧ 0 ≤ pos ∧ pos < len r) then 0 else cnt tn (keep - len r) (pos - len r) l + 1
theorem cnt_le (tn : Bool) : ∀ (l : List Rec) (keep pos : Int), cnt tn keep pos l ≤ l.length
 | [], _, _ => Nat.le_refl _
 | r :: l, keep, pos => by
   rw [cnt]
   split
   ·omega
   ·have := cnt_le tn l (keep - len r) (pos - len r)
    simp; omega
theorem xor_ne {x y : UInt8} (h : y ≠ 0) : (x ^^^ y).toNat ≠ x.toNat := by
 intro e
 have e1 : x ^^^ y = x := UInt8.toNat_inj.1 e
 apply h
 have : x ^^^ (x ^^^ y) = x ^^^ x := by rw [e1]
 rwa [← UInt8.xor_assoc, UInt8.xor_self, UInt8.zero_xor] at this
theorem set_same (l : List UInt8) (j : Nat) : l.set j (l.getD j 0) = l := by
 by_cases h : j < l.length
 ·rw [List.getD, List.getElem?_eq_getElem h]; simp
 ·rw [List.set_eq_of_length_le (by omega)]
theorem fall_zero (keep pos : Int) (L : List UInt8) : fall keep pos 0 L = L.take (left keep L) := by
 unfold fall
 split
 ·rename_i h
  rw [UInt8.xor_zero, show L.getD pos.toNat 0 = (L.take (left keep L)).getD pos.toNat 0 from (Fr.M.getD_take (by omega)).symm]
  exact set_same _ _
 ·rfl
theorem rd_fall : ∀ (B : List Rec) (keep pos : Int) (mask : UInt8), Rg B → rd (fall keep pos mask (fb B)) = B.take (cnt (decide (mask ≠ 0)) keep pos B)
 | [], keep, pos, mask, _ => by
   have h0 : fall keep pos mask (fb []) = [] := by
    have := fall_len keep pos mask (fb [])
    have h2 := left_le keep (fb [])
    rw [fb_nil] at this h2 ⊢
    exact List.eq_nil_of_length_eq_zero (by simp at h2; omega)
   rw [h0, rd_nil]; rfl
 | r :: B, keep, pos, mask, h => by
   obtain ⟨hr, hB⟩ := h.cons
   have hl := len_frm r
   have h2 := enc_len hr
   have hlen : len r = (enc r).length + 8 := rfl
   rw [cnt]
   by_cases hk : keep < len r
   ·rw [if_pos (.inl hk), List.take_zero]
    apply rd_no
    have hL : (fb (r :: B)).length = len r + (fb B).length := fb_len_cons r B
    have hleft : left keep (fb (r :: B)) < len r := by unfold left; omega
    have hcut : (fb (r :: B)).take (left keep (fb (r :: B))) = (Fr.M.frm (enc r)).take (left keep (fb (r :: B))) := by
     generalize left keep (fb (r :: B)) = q at hleft ⊢
     rw [fb_cons, List.take_append_of_le_length (by omega)]
    unfold fall
    rw [hcut]
    split
    ·rename_i hp
     by_cases hm : mask = 0
     ·have e : (fb (r :: B)).getD pos.toNat 0 ^^^ mask = ((Fr.M.frm (enc r)).take (left keep (fb (r :: B)))).getD pos.toNat 0 := by
       rw [hm, UInt8.xor_zero, Fr.M.getD_take (by omega)]; exact Fr.M.getD_left (by omega)
      rw [e, set_same]
      exact Fr.M.cut_frm (by omega) (by omega)
     ·have hg : (fb (r :: B)).getD pos.toNat 0 = (Fr.M.frm (enc r)).getD pos.toNat 0 := by rw [fb_cons, Fr.M.getD_left (by omega)]
      rw [hg]
      exact cut_turned (by omega) (by omega) (by omega) (xor_ne hm)
    ·exact Fr.M.cut_frm (by omega) (by omega)
   ·have hleft : left keep (fb (r :: B)) = len r + left (keep - len r) (fb B) := by
     unfold left; rw [fb_len_cons]; omega
    by_cases hp : (decide (mask ≠ 0)) = true ∧ 0 ≤ pos ∧ pos < len r
    ·rw [if_pos (.inr hp), List.take_zero]
     have hm : mask ≠ 0 := of_decide_eq_true hp.1
     have hg : (fb (r :: B)).getD pos.toNat 0 = (Fr.M.frm (enc r)).getD pos.toNat 0 := by rw [fb_cons, Fr.M.getD_left (by omega)]
     unfold fall
     rw [if_pos ⟨hp.2.1, by omega⟩, hg, hleft, fb_cons, List.take_append, List.take_of_length_le (by omega), hl, show len r + left (keep - len r) (fb B) - len r = left (keep - len r) (fb B) by omega, List.set_append_left _ _ (by omega)]
     exact rd_no (Fr.M.turned_frm (by omega) (by omega) (xor_ne hm))
    ·rw [if_neg (fun e => e.elim hk hp), List.take_succ_cons]
     have hx : fall keep pos mask (fb (r :: B)) = fb [r] ++ fall (keep - len r) (pos - len r) mask (fb B) := by
      have hT : (fb (r :: B)).take (left keep (fb (r :: B))) = Fr.M.frm (enc r) ++ (fb B).take (left (keep - len r) (fb B)) := by
       rw [hleft]
       rw [fb_cons, List.take_append, List.take_of_length_le (by omega), hl, show len r + left (keep - len r) (fb B) - len r = left (keep - len r) (fb B) by omega]
      rw [show fb [r] = Fr.M.frm (enc r) by rw [fb_cons, fb_nil, List.append_nil]]
      by_cases hm : mask = 0
      ·rw [hm, fall_zero, fall_zero, hT]
      ·have hp' : ¬ (0 ≤ pos ∧ pos < len r) := fun e => hp ⟨decide_eq_true hm, e⟩
       unfold fall
       rw [hT]
       by_cases hc : 0 ≤ pos ∧ pos < left keep (fb (r :: B))
       ·rw [if_pos hc, if_pos ⟨by omega, by omega⟩, List.set_append_right _ _ (by omega), hl, show (pos - len r).toNat = pos.toNat - len r by omega]
        congr 2
        rw [fb_cons, List.getD, List.getElem?_append_right (by omega), hl]; rfl
       ·rw [if_neg hc, if_neg (by omega)]
     rw [hx, rd_fb (fun x hx => by rw [List.mem_singleton.1 hx]; exact hr), rd_fall B _ _ _ hB]; rfl
end K
end Go.Proofs.YtdachohcjpjblaaGreatDoor
