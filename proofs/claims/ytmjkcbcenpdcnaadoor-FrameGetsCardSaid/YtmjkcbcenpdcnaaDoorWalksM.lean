/- Contract of the document's Scan, whose payloads are read wherever its argument is; what a writer leaves; no conditions but the lengths that are named. -/
import Derived.Test.YtmjkcbcenpdcnaaDoorWalksK
import Derived.OneCell
namespace Go.Proofs.YtmjkcbcenpdcnaaDoor
open Go.RowKit

/-- Payloads that are read wherever the argument is. -/
def Reads2 (arg : Value) (xs : List UInt8) (vs : List Value) (ps : List (List UInt8)) : Prop := vs.length = ps.length ∧ ∀ W, Bts W arg xs → Reads W vs ps
theorem Reads2.nil (arg : Value) (xs : List UInt8) : Reads2 arg xs [] [] := ⟨rfl, fun W _ => Reads.nil W⟩
theorem Reads2.snoc {arg : Value} {xs : List UInt8} {vs : List Value} {ps : List (List UInt8)} {u : Value} {x : List UInt8} (h : Reads2 arg xs vs ps) (hx : ∀ W, Bts W arg xs → Bts W u x) : Reads2 arg xs (vs ++ [u]) (ps ++ [x]) :=
  ⟨by simp [h.1], fun W hW => (h.2 W hW).snoc (hx W hW)⟩

/-- What the document's Scan tells. -/
def DScan2 (w : World) (arg : Value) (xs : List UInt8) (e : Ending) (w' : World) : Prop :=
  ∃ v vs, e = .returned (.tuple #[v, .int .i64 (M.st xs : Nat)]) ∧ w'.ownsRow w.heap.size 22 1 v (M.sl xs).length vs ∧ Reads2 arg xs vs (M.sl xs) ∧ Below w.heap.size w w'

set_option maxHeartbeats 4000000 in
set_option maxRecDepth 100000 in
theorem dscan2_any {w : World} {A : Option Addr} {n c : Nat} {xs : List UInt8} (h : Bts w (.slice A n c) xs) (hl : n ≤ 100000) : Calls Tryd.prog 20 #[.slice A n c] w (DScan2 w (.slice A n c) xs) := by
  obtain ⟨i0, hi, hz0, hz1, hz2⟩ := info_parts info22
  have HV := Lib.hid h
  obtain ⟨hxn, hnc⟩ := h.len
  have HXN := Lib.hid hxn
  have HG := Lib.hid (dget_any h (by omega))
  obtain ⟨A', c', e', _, hx⟩ := h.opened
  rw [hxn] at hx e'
  cases e'
  have HX := Lib.hid hx
  clear h hxn hx
  go_enter Tryd.func20, Tryd.ntmps20
  go_wp2_with (fail)
  refine HG.out.mono ?_
  rintro e w0 ⟨u0, rfl, hu0, hb0⟩
  have hu0' : ∀ W, Bts W (.slice A n c) xs → Bts W u0 (M.gp xs) := hu0
  have HU0 := Lib.hid hu0'
  have HB0 := Lib.hid hb0
  clear hu0 hu0' hb0 HG
  go_wp2
  go_loopg [4, 5, 6, 7, 8] (n + 1) (fun f v i p sz er wr => ∃ (t : Nat) (vs : List Value) (acc : List (List UInt8)), i = .int .i64 t ∧ t ≤ n ∧ n < t + f ∧ acc.length ≤ t ∧ wr.ownsRow w.heap.size 22 1 v acc.length vs ∧ Reads2 (.slice A n c) xs vs acc ∧ Below w.heap.size w wr ∧ acc ++ M.sl (xs.drop t) = M.sl xs ∧ t + M.st (xs.drop t) = M.st xs ∧ (∃ P pc, p = .slice P (M.gp (xs.drop t)).length pc) ∧ (∀ W, Bts W (.slice A n c) xs → Bts W p (M.gp (xs.drop t))) ∧ sz = .int .i64 (M.gs (xs.drop t) : Nat) ∧ er = .int .i64 (M.ge (xs.drop t) : Nat))
  case atStart => exact ⟨0, [], [], rfl, Nat.zero_le _, by omega, Nat.le_refl _, World.ownsRow_nil _ _ _ _, Reads2.nil _ _, HB0.out, by simp, by simp, by simpa using (HU0.out w HV.out).slice, by simpa using HU0.out, by simp, by simp⟩
  case round =>
    obtain ⟨t, vs, acc, rfl, ht, hf, hla, hown, hpay, hbw, hsl, hst, ⟨P, pc, rfl⟩, hp, rfl, rfl⟩ := hrel
    have HO := Lib.hid hown
    have HP := Lib.hid hpay
    have HB := Lib.hid hbw
    have HS := Lib.hid hsl
    have HE := Lib.hid hst
    have HU := Lib.hid hp
    have hbs := hbw.size
    clear hown hpay hbw hsl hst hp HU0 HB0
    by_cases h0 : M.ge (xs.drop t) = 0
    · have hg := M.gs_ok h0
      have hsk := M.sl_ok h0
      rw [List.drop_drop] at hsk
      have hgl : t + M.gs (xs.drop t) ≤ n := by have := hg.2.2.2; simp at this; have := HXN.out; omega
      obtain ⟨b, o, rfl, _⟩ := HX.out (by omega)
      have HS1 := Lib.hid (show (acc ++ [M.gp (xs.drop t)]) ++ M.sl (xs.drop (t + M.gs (xs.drop t))) = M.sl xs by rw [List.append_assoc, List.singleton_append, ← hsk.1]; exact HS.out)
      have HE1 := Lib.hid (show t + M.gs (xs.drop t) + M.st (xs.drop (t + M.gs (xs.drop t))) = M.st xs by rw [Nat.add_assoc, ← hsk.2]; exact HE.out)
      have HP1 := Lib.hid (HP.out.snoc HU.out)
      have h9 : 9 ≤ M.gs (xs.drop t) := by omega
      rw [h0]
      clear hg hsk h0 HP HS HE HU HX
      generalize M.gs (xs.drop t) = z at *
      generalize M.gp (xs.drop t) = p at *
      have HV1 := Lib.hid (HV.out.drop (t + z) hgl)
      obtain ⟨q, hq⟩ : ∃ q, q = t + z := ⟨_, rfl⟩
      have hqi : (t : Int) + (z : Int) = (q : Int) := by omega
      rw [← hq] at HS1 HE1 hgl HV1
      have HQ := Lib.hid hq
      have hq9 : t + 9 ≤ q := by omega
      clear hq
      by_cases hc : c = q
      · have hnq : n = q := by omega
        subst hc hnq
        have hd : xs.drop n = [] := List.drop_of_length_le (by rw [HXN.out]; omega)
        have hge : M.ge [] = 3 := by simp [M.ge]
        have hgs : M.gs [] = 0 := by simp [M.gs, hge]
        have hgp : M.gp [] = [] := by simp [M.gp, hge]
        rw [hd] at HS1 HE1
        have HD := Lib.hid hd
        have HGE := Lib.hid hge
        have HGS := Lib.hid hgs
        have HGP := Lib.hid hgp
        clear hd hge hgs hgp
        go_wp2_with (at_builtin; refine wpList_append_own _ rfl _ _ 36 rfl w.heap.size 22 i0 (.slice none 0 0) 1 24 Tryd.underlying36 hi hz0 hz1 hz2 rfl (by decide) _ _ _ rfl (HO.out.alloc _) ⟨wr.heap.size, 0, none⟩ 1 1 [.slice P p.length pc] rfl rfl (one_row _ _) (by intro y hy; simp at hy; subst hy; rfl) (by unfold maxLen; omega) (by omega) (by simp; omega) ?_; intro v' w2 hown' hgrow hnil)
        have HO2 := Lib.hid hown'
        have hb2 := (below_new (o := .cells #[.slice P p.length pc] 22) HB.out).grown hgrow (by simp; omega) (fun k hk => (HO.out.lt k hk).1)
        have HB2 := Lib.hid hb2
        have hz2' := hb2.size
        clear hown' hgrow hnil hb2
        refine (dget_any (Bts.nil w2 (some ⟨b, o, none⟩) 0) (by simp)).mono ?_
        rintro e w3 ⟨u, rfl, hu, hb3⟩
        have HB3 := Lib.hid (below_on HB2.out hb3)
        have HO3 := Lib.hid (own_keep HO2.out hb3)
        rw [HGS.out, HGE.out]
        have HU3 := Lib.hid (show ∀ W, Bts W (.slice (some ⟨b, o, none⟩) n n) xs → Bts W u (M.gp []) from fun W _ => hu W (Bts.nil W _ 0))
        have HUS := Lib.hid ((hu w (Bts.nil w _ 0)).slice)
        clear hb3 HB2 HO2 hu
        go_wp2
        go_roundg (gk - 1)
        case measure => omega
        case rel => exact ⟨n, vs ++ [.slice P p.length pc], acc ++ [p], rfl, Nat.le_refl _, by omega, by simp; omega, by simpa using HO3.out, HP1.out, HB3.out, by rw [HD.out]; exact HS1.out, by rw [HD.out]; exact HE1.out, by rw [HD.out]; exact HUS.out, by rw [HD.out]; exact HU3.out, by rw [HD.out, HGS.out]; rfl, by rw [HD.out, HGE.out]; rfl⟩
      · go_wp2_with (at_builtin; refine wpList_append_own _ rfl _ _ 36 rfl w.heap.size 22 i0 (.slice none 0 0) 1 24 Tryd.underlying36 hi hz0 hz1 hz2 rfl (by decide) _ _ _ rfl (HO.out.alloc _) ⟨wr.heap.size, 0, none⟩ 1 1 [.slice P p.length pc] rfl rfl (one_row _ _) (by intro y hy; simp at hy; subst hy; rfl) (by unfold maxLen; omega) (by omega) (by simp; omega) ?_; intro v' w2 hown' hgrow hnil)
        have HO2 := Lib.hid hown'
        have hb2 := (below_new (o := .cells #[.slice P p.length pc] 22) HB.out).grown hgrow (by simp; omega) (fun k hk => (HO.out.lt k hk).1)
        have HB2 := Lib.hid hb2
        have hz2' := hb2.size
        clear hown' hgrow hnil
        refine (dget_any (HV1.out.below hb2) (by simp; have := HXN.out; omega)).mono ?_
        rintro e w3 ⟨u, rfl, hu, hb3⟩
        have HU3 := Lib.hid (show ∀ W, Bts W (.slice (some ⟨b, o, none⟩) n c) xs → Bts W u (M.gp (xs.drop q)) from fun W hW => hu W (hW.drop q hgl))
        have hus := (hu w HV1.out).slice
        have HB3 := Lib.hid (below_on HB2.out hb3)
        have HO3 := Lib.hid (own_keep HO2.out hb3)
        have HUS := Lib.hid hus
        clear hb2 hb3 HB2 HO2 hu hus
        go_wp2
        go_roundg (gk - 1)
        case measure => omega
        case rel => exact ⟨q, vs ++ [.slice P p.length pc], acc ++ [p], rfl, hgl, by omega, by simp; omega, by simpa using HO3.out, HP1.out, HB3.out, HS1.out, HE1.out, HUS.out, HU3.out, rfl, rfl⟩
    · have hsn := M.sl_no h0
      rw [hsn.1, List.append_nil] at HS
      rw [hsn.2, Nat.add_zero] at HE
      generalize M.ge (xs.drop t) = z at *
      have q1 : ((z : Int) == 0) = false := by rw [beq_eq_false_iff_ne]; omega
      go_wp2
      go_ret2
      exact ⟨_, vs, by rw [← HE.out]; rfl, by rw [← HS.out]; exact HO.out, by rw [← HS.out]; exact HP.out, HB.out⟩

/-- What stands when the first i payloads have been written over. -/
structure Run (w5 : World) (b6 : Nat) (lv kv : Value) (vs ks : List Value) (ps : List (List UInt8)) (i : Nat) (wr : World) : Prop where
  bel : Below w5.heap.size w5 wr
  lo : wr.ownsRow w5.heap.size 22 1 lv ps.length vs
  ko : wr.ownsRow b6 22 1 kv ps.length ks
  pay : ∀ (j : Nat), i ≤ j → ∀ (u : Value) (x : List UInt8), vs[j]? = some u → ps[j]? = some x → x ≠ [] ∧ wr.ownsRow w5.heap.size 5 1 u x.length (x.map enc8)
theorem Run.on {w5 wr w' : World} {b6 i : Nat} {lv kv : Value} {vs ks : List Value} {ps : List (List UInt8)} (h : Run w5 b6 lv kv vs ks ps i wr) (hb : Below wr.heap.size wr w') : Run w5 b6 lv kv vs ks ps i w' :=
  ⟨h.bel.trans (hb.mono h.bel.size), own_keep h.lo hb, own_keep h.ko hb, fun j hj u x hu hx => ⟨(h.pay j hj u x hu hx).1, own_keep (h.pay j hj u x hu hx).2 hb⟩⟩
theorem Run.next {w5 wr : World} {b6 i : Nat} {lv kv : Value} {vs ks : List Value} {ps : List (List UInt8)} (h : Run w5 b6 lv kv vs ks ps i wr) : Run w5 b6 lv kv vs ks ps (i + 1) wr :=
  ⟨h.bel, h.lo, h.ko, fun j hj => h.pay j (by omega)⟩
/-- A byte is written into payload i. -/
theorem Run.write {w5 wr : World} {b6 i g k : Nat} {lv kv u : Value} {vs ks : List Value} {ps : List (List UInt8)} {zs : List UInt8} (h : Run w5 b6 lv kv vs ks ps (i + 1) wr) (hn : (vs.map Value.ownBlock).Nodup) (hu : vs[i]? = some u) (ho : wr.ownsRow w5.heap.size 5 1 u zs.length (zs.map enc8)) (hg : u.ownBlock = some g) (hgb : w5.heap.size ≤ g) (y : Value) : Run w5 b6 lv kv vs ks ps (i + 1) (wr.setCell ⟨g, k, none⟩ y) := by
  have far : ∀ {b : Nat} {v : Value} {n : Nat} {xs : List Value}, wr.ownsRow b 22 1 v n xs → v.ownBlock ≠ some g := by
    intro b v n xs hv e
    rcases own_apart (by decide) hv ho with h1 | h1
    · rw [hg] at h1; cases h1
    · rw [hg, e] at h1; exact h1 rfl
  refine ⟨h.bel.setCell hgb y, ownsRow_setCell_other h.lo (far h.lo) y, ownsRow_setCell_other h.ko (far h.ko) y, fun j hj v x hv hx => ⟨(h.pay j hj v x hv hx).1, ownsRow_setCell_other (h.pay j hj v x hv hx).2 ?_ y⟩⟩
  intro e
  have h1 : (vs.map Value.ownBlock)[j]? = some (some g) := by rw [List.getElem?_map, hv]; simp [e]
  have h2 : (vs.map Value.ownBlock)[i]? = some (some g) := by rw [List.getElem?_map, hu]; simp [hg]
  have hji : j < (vs.map Value.ownBlock).length := (List.getElem?_eq_some_iff.1 h1).1
  have hii : i < (vs.map Value.ownBlock).length := (List.getElem?_eq_some_iff.1 h2).1
  rw [List.getElem?_eq_getElem hji] at h1
  rw [List.getElem?_eq_getElem hii] at h2
  exact List.pairwise_iff_getElem.1 hn i j hii hji (by omega) ((Option.some.inj h2).trans (Option.some.inj h1).symm)
/-- The row itself behind such a write. -/
theorem own_write {w : World} {base g k cap n : Nat} {zs : List UInt8} (ho : w.ownsRow base 5 1 (.slice (some ⟨g, 0, none⟩) n cap) zs.length (zs.map enc8)) (y : UInt8) : (w.setCell ⟨g, k, none⟩ (enc8 y)).ownsRow base 5 1 (.slice (some ⟨g, 0, none⟩) n cap) (zs.set k y).length ((zs.set k y).map enc8) := by
  refine ⟨by simp, ?_⟩
  rcases ho.2 with ⟨e, _⟩ | ⟨g', cap', cur, e, hb, hg, hn, hm, hs, ht⟩
  · cases e
  · cases e
    refine .inr ⟨g, cap, cur.setIfInBounds k (enc8 y), by simp, hb, heap_setCell_same w g k cur 5 _ hg, by simpa using hn, hm, by simpa using hs, ?_⟩
    simp only [List.length_set, Nat.mul_one] at ht ⊢
    rw [Array.toList_setIfInBounds, List.take_set, ht, List.map_set]
end Go.Proofs.YtmjkcbcenpdcnaaDoor
