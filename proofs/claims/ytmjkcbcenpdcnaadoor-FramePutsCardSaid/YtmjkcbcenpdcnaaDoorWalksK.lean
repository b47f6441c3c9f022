/- Contract of the document's Scan; no conditions but the lengths that it names. -/
import Derived.Test.YtmjkcbcenpdcnaaDoorWalksJ
namespace Go.Proofs.YtmjkcbcenpdcnaaDoor
open Go.RowKit

/-- Slices that read as payloads. -/
def Reads (w : World) (vs : List Value) (ps : List (List UInt8)) : Prop := vs.length = ps.length ∧ ∀ (i : Nat) (u : Value) (x : List UInt8), vs[i]? = some u → ps[i]? = some x → Bts w u x
theorem Reads.nil (w : World) : Reads w [] [] := ⟨rfl, fun i u x h => by simp at h⟩
theorem Reads.below {w w' : World} {vs : List Value} {ps : List (List UInt8)} (h : Reads w vs ps) (hb : Below w.heap.size w w') : Reads w' vs ps := ⟨h.1, fun i u x hu hx => (h.2 i u x hu hx).below hb⟩
theorem Reads.snoc {w : World} {vs : List Value} {ps : List (List UInt8)} {u : Value} {x : List UInt8} (h : Reads w vs ps) (hx : Bts w u x) : Reads w (vs ++ [u]) (ps ++ [x]) := by
  refine ⟨by simp [h.1], fun i u' x' hu hx' => ?_⟩
  by_cases hi : i < vs.length
  · rw [List.getElem?_append_left hi] at hu
    rw [List.getElem?_append_left (by rw [← h.1]; exact hi)] at hx'
    exact h.2 i u' x' hu hx'
  · rw [List.getElem?_append_right (by omega)] at hu
    rw [List.getElem?_append_right (by rw [← h.1]; omega), ← h.1] at hx'
    have hz : i - vs.length = 0 := by
      have := (List.getElem?_eq_some_iff.1 hu).1; simp at this; omega
    rw [hz] at hu hx'
    simp at hu hx'
    subst hu hx'
    exact hx
theorem Bts.slice {w : World} {v : Value} {xs : List UInt8} (h : Bts w v xs) : ∃ A c, v = .slice A xs.length c := by
  obtain ⟨A, c, e, _⟩ := h.opened
  exact ⟨A, c, e⟩

/-- What the document's Scan tells. -/
def DScanned (w : World) (xs : List UInt8) (e : Ending) (w' : World) : Prop :=
  ∃ v vs, e = .returned (.tuple #[v, .int .i64 (M.st xs : Nat)]) ∧ w'.ownsRow w.heap.size 22 1 v (M.sl xs).length vs ∧ Reads w vs (M.sl xs) ∧ Below w.heap.size w w'

set_option maxHeartbeats 4000000 in
set_option maxRecDepth 100000 in
theorem dscan_any {w : World} {A : Option Addr} {n c : Nat} {xs : List UInt8} (h : Bts w (.slice A n c) xs) (hl : n ≤ 100000) : Calls Tryd.prog 20 #[.slice A n c] w (DScanned w xs) := by
  obtain ⟨i0, hi, hz0, hz1, hz2⟩ := info_parts info22
  have HV := Lib.hid h
  obtain ⟨hxn, hnc⟩ := h.len
  have HXN := Lib.hid hxn
  have HG := Lib.hid (dget_any h (by omega))
  obtain ⟨A', c', e', _, hx⟩ := h.opened
  rw [hxn] at hx e'
  cases e'
  have HX := Lib.hid hx
  clear h hxn hx
  go_enter Tryd.func20, Tryd.ntmps20
  go_wp2_with (fail)
  refine HG.out.mono ?_
  rintro e w0 ⟨u0, rfl, hu0, hb0⟩
  have HU0 := Lib.hid (hu0 w HV.out)
  have HB0 := Lib.hid hb0
  clear hu0 hb0 HG
  go_wp2
  go_loopg [4, 5, 6, 7, 8] (n + 1) (fun f v i p sz er wr => ∃ (t : Nat) (vs : List Value) (acc : List (List UInt8)), i = .int .i64 t ∧ t ≤ n ∧ n < t + f ∧ acc.length ≤ t ∧ wr.ownsRow w.heap.size 22 1 v acc.length vs ∧ Reads w vs acc ∧ Below w.heap.size w wr ∧ acc ++ M.sl (xs.drop t) = M.sl xs ∧ t + M.st (xs.drop t) = M.st xs ∧ Bts w p (M.gp (xs.drop t)) ∧ sz = .int .i64 (M.gs (xs.drop t) : Nat) ∧ er = .int .i64 (M.ge (xs.drop t) : Nat))
  case atStart => exact ⟨0, [], [], rfl, Nat.zero_le _, by omega, Nat.le_refl _, World.ownsRow_nil _ _ _ _, Reads.nil _, HB0.out, by simp, by simp, by simpa using HU0.out, by simp, by simp⟩
  case round =>
    obtain ⟨t, vs, acc, rfl, ht, hf, hla, hown, hpay, hbw, hsl, hst, hp, rfl, rfl⟩ := hrel
    have HO := Lib.hid hown
    have HP := Lib.hid hpay
    have HB := Lib.hid hbw
    have HS := Lib.hid hsl
    have HE := Lib.hid hst
    have HU := Lib.hid hp
    have hbs := hbw.size
    obtain ⟨P, pc, rfl⟩ := hp.slice
    clear hown hpay hbw hsl hst hp HU0 HB0
    by_cases h0 : M.ge (xs.drop t) = 0
    · have hg := M.gs_ok h0
      have hsk := M.sl_ok h0
      rw [List.drop_drop] at hsk
      have hgl : t + M.gs (xs.drop t) ≤ n := by have := hg.2.2.2; simp at this; have := HXN.out; omega
      obtain ⟨b, o, rfl, _⟩ := HX.out (by omega)
      have HS1 := Lib.hid (show (acc ++ [M.gp (xs.drop t)]) ++ M.sl (xs.drop (t + M.gs (xs.drop t))) = M.sl xs by rw [List.append_assoc, List.singleton_append, ← hsk.1]; exact HS.out)
      have HE1 := Lib.hid (show t + M.gs (xs.drop t) + M.st (xs.drop (t + M.gs (xs.drop t))) = M.st xs by rw [Nat.add_assoc, ← hsk.2]; exact HE.out)
      have HP1 := Lib.hid (HP.out.snoc HU.out)
      have h9 : 9 ≤ M.gs (xs.drop t) := by omega
      rw [h0]
      clear hg hsk h0 HP HS HE HU HX
      generalize M.gs (xs.drop t) = z at *
      generalize M.gp (xs.drop t) = p at *
      have HV1 := Lib.hid (HV.out.drop (t + z) hgl)
      obtain ⟨q, hq⟩ : ∃ q, q = t + z := ⟨_, rfl⟩
      have hqi : (t : Int) + (z : Int) = (q : Int) := by omega
      rw [← hq] at HS1 HE1 hgl HV1
      have HQ := Lib.hid hq
      have hq9 : t + 9 ≤ q := by omega
      clear hq
      by_cases hc : c = q
      · have hnq : n = q := by omega
        subst hc hnq
        have hd : xs.drop n = [] := List.drop_of_length_le (by rw [HXN.out]; omega)
        have hge : M.ge [] = 3 := by simp [M.ge]
        have hgs : M.gs [] = 0 := by simp [M.gs, hge]
        have hgp : M.gp [] = [] := by simp [M.gp, hge]
        rw [hd] at HS1 HE1
        have HD := Lib.hid hd
        have HGE := Lib.hid hge
        have HGS := Lib.hid hgs
        have HGP := Lib.hid hgp
        clear hd hge hgs hgp
        go_wp2_with (at_builtin; refine wpList_append_own _ rfl _ _ 36 rfl w.heap.size 22 i0 (.slice none 0 0) 1 24 Tryd.underlying36 hi hz0 hz1 hz2 rfl (by decide) _ _ _ rfl (HO.out.alloc _) ⟨wr.heap.size, 0, none⟩ 1 1 [.slice P p.length pc] rfl rfl (one_row _ _) (by intro y hy; simp at hy; subst hy; rfl) (by unfold maxLen; omega) (by omega) (by simp; omega) ?_; intro v' w2 hown' hgrow hnil)
        have HO2 := Lib.hid hown'
        have hb2 := (below_new (o := .cells #[.slice P p.length pc] 22) HB.out).grown hgrow (by simp; omega) (fun k hk => (HO.out.lt k hk).1)
        have HB2 := Lib.hid hb2
        have hz2' := hb2.size
        clear hown' hgrow hnil hb2
        refine (dget_any (Bts.nil w2 (some ⟨b, o, none⟩) 0) (by simp)).mono ?_
        rintro e w3 ⟨u, rfl, hu, hb3⟩
        have HB3 := Lib.hid (below_on HB2.out hb3)
        have HO3 := Lib.hid (own_keep HO2.out hb3)
        rw [HGS.out, HGE.out]
        have HU3 := Lib.hid (hu w (Bts.nil w _ 0))
        clear hb3 HB2 HO2 hu
        go_wp2
        go_roundg (gk - 1)
        case measure => omega
        case rel => exact ⟨n, vs ++ [.slice P p.length pc], acc ++ [p], rfl, Nat.le_refl _, by omega, by simp; omega, by simpa using HO3.out, HP1.out, HB3.out, by rw [HD.out]; exact HS1.out, by rw [HD.out]; exact HE1.out, by rw [HD.out]; exact HU3.out, by rw [HD.out, HGS.out]; rfl, by rw [HD.out, HGE.out]; rfl⟩
      · go_wp2_with (at_builtin; refine wpList_append_own _ rfl _ _ 36 rfl w.heap.size 22 i0 (.slice none 0 0) 1 24 Tryd.underlying36 hi hz0 hz1 hz2 rfl (by decide) _ _ _ rfl (HO.out.alloc _) ⟨wr.heap.size, 0, none⟩ 1 1 [.slice P p.length pc] rfl rfl (one_row _ _) (by intro y hy; simp at hy; subst hy; rfl) (by unfold maxLen; omega) (by omega) (by simp; omega) ?_; intro v' w2 hown' hgrow hnil)
        have HO2 := Lib.hid hown'
        have hb2 := (below_new (o := .cells #[.slice P p.length pc] 22) HB.out).grown hgrow (by simp; omega) (fun k hk => (HO.out.lt k hk).1)
        have HB2 := Lib.hid hb2
        have hz2' := hb2.size
        clear hown' hgrow hnil
        refine (dget_any (HV1.out.below hb2) (by simp; have := HXN.out; omega)).mono ?_
        rintro e w3 ⟨u, rfl, hu, hb3⟩
        have HU3 := Lib.hid (hu w HV1.out)
        have HB3 := Lib.hid (below_on HB2.out hb3)
        have HO3 := Lib.hid (own_keep HO2.out hb3)
        clear hb2 hb3 HB2 HO2 hu
        go_wp2
        go_roundg (gk - 1)
        case measure => omega
        case rel => exact ⟨q, vs ++ [.slice P p.length pc], acc ++ [p], rfl, hgl, by omega, by simp; omega, by simpa using HO3.out, HP1.out, HB3.out, HS1.out, HE1.out, HU3.out, rfl, rfl⟩
    · have hsn := M.sl_no h0
      rw [hsn.1, List.append_nil] at HS
      rw [hsn.2, Nat.add_zero] at HE
      generalize M.ge (xs.drop t) = z at *
      have q1 : ((z : Int) == 0) = false := by rw [beq_eq_false_iff_ne]; omega
      go_wp2
      go_ret2
      exact ⟨_, vs, by rw [← HE.out]; rfl, by rw [← HS.out]; exact HO.out, by rw [← HS.out]; exact HP.out, HB.out⟩
end Go.Proofs.YtmjkcbcenpdcnaaDoor
