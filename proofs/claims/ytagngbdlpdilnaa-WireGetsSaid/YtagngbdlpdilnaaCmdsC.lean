/- Contracts of areReads, areWrites, and of slices.Equal at reads and writes; no conditions but the lengths that they name. -/
import Derived.Test.YtagngbdlpdilnaaCmdsB
namespace Go.Proofs.Ytagngbdlpdilnaa
open Go.ChangeShapes Go.WideShapes Go.ChangeAt Go.RowKit

namespace M
/-- A time that may be, ahead of another. -/
def oldB (t c a d : Int) : Bool := pairB t c 0 1099511627776 0 3 && decide (ord t c a d < 0)
theorem old_no {t c a d : Int} (h : pairB t c 0 1099511627776 0 3 = false) : oldB t c a d = false := by simp [oldB, h]
theorem old_yes {t c a d : Int} (h : pairB t c 0 1099511627776 0 3 = true) : oldB t c a d = decide (ord t c a d < 0) := by simp [oldB, h]
def oldAt (a d : Int) (r : (List UInt8 × Int × Int)) : Bool := oldB r.2.1 r.2.2 a d
def areR (l : List (List UInt8 × Int × Int)) (a d : Int) : Bool := l.all (oldAt a d) && rightsB (rk l)
def shortAt (r : (List UInt8 × List UInt8)) : Bool := decide (r.2.length ≤ 8)
def areW (l : List (List UInt8 × List UInt8)) : Bool := l.all shortAt && rightsB (wk l)
theorem all_step {α : Type} {l : List α} {p : α → Bool} {k : Nat} {z : α} (hk : k < l.length) (h : (l.take k).all p = true) (hp : p (l.getD k z) = true) : (l.take (k + 1)).all p = true := by
  rw [List.take_add_one, List.getElem?_eq_getElem hk, List.all_append, h]
  rw [List.getD, List.getElem?_eq_getElem hk] at hp
  simpa using hp
theorem all_no {α : Type} {l : List α} {p : α → Bool} {k : Nat} {z : α} (hk : k < l.length) (hp : p (l.getD k z) = false) : l.all p = false := by
  rw [List.getD, List.getElem?_eq_getElem hk] at hp
  cases e : l.all p
  · rfl
  · rw [List.all_eq_true] at e
    have := e _ (List.getElem_mem hk)
    simp at hp
    rw [hp] at this; cases this
theorem areR_no {l : List (List UInt8 × Int × Int)} {a d : Int} {k : Nat} (hk : k < l.length) (h : oldAt a d (l.getD k rd0) = false) : false = areR l a d := by
  unfold areR; rw [all_no hk h]; rfl
theorem areR_end {l : List (List UInt8 × Int × Int)} {a d : Int} {k : Nat} (hk : ¬ k < l.length) (h : (l.take k).all (oldAt a d) = true) : rightsB (rk l) = areR l a d := by
  rw [List.take_of_length_le (by omega)] at h; unfold areR; rw [h]; simp
theorem areW_no {l : List (List UInt8 × List UInt8)} {k : Nat} (hk : k < l.length) (h : shortAt (l.getD k wr0) = false) : false = areW l := by
  unfold areW; rw [all_no hk h]; rfl
theorem areW_end {l : List (List UInt8 × List UInt8)} {k : Nat} (hk : ¬ k < l.length) (h : (l.take k).all shortAt = true) : rightsB (wk l) = areW l := by
  rw [List.take_of_length_le (by omega)] at h; unfold areW; rw [h]; simp
end M

theorem hmf (fn : Fn) (first cap : Array Value) (w : World) : (Instr.makeFunc fn first cap).run Try.prog w = .ok (.func fn first cap) w := rfl

set_option maxHeartbeats 1000000 in
theorem old_any (t c a d : Int) (b : Nat) (w : World) (h : At w b (.int .i64 a) (.int .i64 d)) : Calls Try.prog 108 #[.agg #[.int .i64 t, .int .i64 c], .pointer (some ⟨b, 0, none⟩)] w fun e w' => e = .returned (.bool (M.oldB t c a d)) ∧ Below w.heap.size w w' := by
  have H0 := Lib.hid (At.new w (.int .i64 t) (.int .i64 c) 29)
  have H1 := Lib.hid (h.push (.cells #[.int .i64 t, .int .i64 c] 29))
  clear h
  cases e1 : M.pairB t c 0 1099511627776 0 3
  · have HE := Lib.hid (M.old_no (a := a) (d := d) e1)
    go_enter Try.func108, Try.ntmps108
    go_wp2_with (fail)
    refine (rightStamp_any _ _ _).mono ?_
    rintro e w1 ⟨rfl, hb⟩
    have HB := Lib.hid (below_on (below_new (Below.refl _ _)) hb)
    clear hb
    go_wp2
    go_ret
    exact ⟨ret_bool HE.out.symm, HB.out⟩
  · have HE := Lib.hid (M.old_yes (a := a) (d := d) e1)
    go_enter Try.func108, Try.ntmps108
    go_wp2_with (fail)
    refine (rightStamp_any _ _ _).mono ?_
    rintro e w1 ⟨rfl, hb⟩
    have HB := Lib.hid (below_on (below_new (Below.refl _ _)) hb)
    obtain ⟨l0, c0, c1⟩ := H0.out.on hb
    obtain ⟨l2, c2, c3⟩ := H1.out.on hb
    clear hb
    go_wp2_with (fail)
    refine (compareStamps_any _ _ _ _ _).mono ?_
    rintro e w2 ⟨rfl, hb⟩
    have HB2 := Lib.hid (below_on HB.out hb)
    clear hb
    go_wp2
    go_ret
    exact ⟨ret_bool HE.out.symm, HB2.out⟩

set_option maxHeartbeats 2000000 in
set_option maxRecDepth 100000 in
theorem areReads_any {w : World} {v : Value} {l : List (List UInt8 × Int × Int)} (a d : Int) (h : Rds w v l) (hl : l.length ≤ 1000) : Calls Try.prog 90 #[v, .agg #[.int .i64 a, .int .i64 d]] w fun e w' => e = .returned (.bool (M.areR l a d)) ∧ Below w.heap.size w w' := by
  have HV := Lib.hid h
  obtain ⟨A, c, rfl, hc, hx⟩ := h.opened
  have HX := Lib.hid hx
  clear hx h
  have hmf := hmf
  go_enter Try.func90, Try.ntmps90
  go_wp2
  go_loopw [11] (fun i wr => ∃ k : Nat, k ≤ l.length ∧ i = .int .i64 k ∧ Below w.heap.size w wr ∧ At wr w.heap.size (.int .i64 a) (.int .i64 d) ∧ (l.take k).all (M.oldAt a d) = true) (fun i _ => l.length - (intOf i).toNat)
  case atStart => exact ⟨0, Nat.zero_le _, rfl, (Below.refl _ _).alloc (Nat.le_refl _) _, At.new _ _ _ _, rfl⟩
  case round =>
    obtain ⟨k, hk, rfl, hbw, hat, hall⟩ := hrel
    have hbz := hbw.size
    have HA := Lib.hid hall
    have HB := Lib.hid hbw
    have HT := Lib.hid hat
    clear hall hbw hat
    by_cases hlt : k < l.length
    · obtain ⟨b, o, rfl, hb, hy⟩ := HX.out (by omega)
      obtain ⟨z1, z2, z3⟩ := (hy k hlt).below HB.out hb
      have HQ := Lib.hid (show M.oldAt a d (l.getD k rd0) = M.oldB (l.getD k rd0).2.1 (l.getD k rd0).2.2 a d from rfl)
      clear hy
      generalize (l.getD k rd0).1 = x at *
      generalize (l.getD k rd0).2.1 = t at *
      generalize (l.getD k rd0).2.2 = u at *
      cases e1 : M.oldB t u a d
      · go_wp2_with (fail)
        refine (old_any _ _ _ _ _ _ (HT.out.push _)).mono ?_
        rintro e w1 ⟨rfl, hb1⟩
        have B1 := Lib.hid (below_on (below_new HB.out) hb1)
        clear hb1
        go_wp2
        go_ret
        exact ⟨ret_bool (M.areR_no hlt (HQ.out.trans e1)), B1.out⟩
      · go_wp2_with (fail)
        refine (old_any _ _ _ _ _ _ (HT.out.push _)).mono ?_
        rintro e w1 ⟨rfl, hb1⟩
        have B1 := Lib.hid (below_on (below_new HB.out) hb1)
        have T1 := Lib.hid ((HT.out.push _).on hb1)
        clear hb1
        go_wp2
        go_roundw
        case rel => exact ⟨k + 1, by omega, by go_num, B1.out, T1.out, M.all_step hlt HA.out (HQ.out.trans e1)⟩
        case measure => simp [intOf]; omega
    · go_wp2_with (fail)
      refine (readKeys_any (HV.out.below HB.out) hl).mono ?_
      rintro e w1 ⟨v1, rfl, hown, hb1⟩
      have W1 := Lib.hid (Made.words hown)
      have B1 := Lib.hid (below_on HB.out hb1)
      clear hown hb1
      go_wp2_with (go_at_call 110; refine (rights_any W1.out).mono ?_; rintro e w' ⟨rfl, rfl⟩)
      go_ret
      exact ⟨ret_bool (M.areR_end hlt HA.out), B1.out⟩

set_option maxHeartbeats 2000000 in
set_option maxRecDepth 100000 in
theorem areWrites_any {w : World} {v : Value} {l : List (List UInt8 × List UInt8)} (h : Wrs w v l) (hl : l.length ≤ 1000) : Calls Try.prog 91 #[v] w fun e w' => e = .returned (.bool (M.areW l)) ∧ Below w.heap.size w w' := by
  have HV := Lib.hid h
  obtain ⟨A, c, rfl, hc, hx⟩ := h.opened
  have HX := Lib.hid hx
  clear hx h
  go_enter Try.func91, Try.ntmps91
  go_wp2
  go_loopw [7] (fun i wr => ∃ k : Nat, k ≤ l.length ∧ i = .int .i64 k ∧ Below w.heap.size w wr ∧ (l.take k).all M.shortAt = true) (fun i _ => l.length - (intOf i).toNat)
  case atStart => exact ⟨0, Nat.zero_le _, rfl, Below.refl _ _, rfl⟩
  case round =>
    obtain ⟨k, hk, rfl, hbw, hall⟩ := hrel
    have hbz := hbw.size
    have HA := Lib.hid hall
    have HB := Lib.hid hbw
    clear hall hbw
    by_cases hlt : k < l.length
    · obtain ⟨b, o, rfl, hb, hy⟩ := HX.out (by omega)
      obtain ⟨z1, z2⟩ := (hy k hlt).below HB.out hb
      have HQ := Lib.hid (show M.shortAt (l.getD k wr0) = decide ((l.getD k wr0).2.length ≤ 8) from rfl)
      clear hy
      generalize (l.getD k wr0).1 = x at *
      generalize (l.getD k wr0).2 = t at *
      obtain ⟨s, hs⟩ : ∃ s : ByteArray, s = ⟨t.toArray⟩ := ⟨_, rfl⟩
      rw [← hs] at z2
      have HZ := Lib.hid (show s.size = t.length by rw [hs, size_mk])
      clear hs
      by_cases hbig : 8 < s.size
      · go_wp2
        go_ret
        exact ⟨ret_bool (M.areW_no hlt (HQ.out.trans (by have := HZ.out; simp; omega))), below_new HB.out⟩
      · go_wp2
        go_roundw
        case rel => exact ⟨k + 1, by omega, by go_num, below_new HB.out, M.all_step hlt HA.out (HQ.out.trans (by have := HZ.out; simp; omega))⟩
        case measure => simp [intOf]; omega
    · go_wp2_with (fail)
      refine (writeKeys_any (HV.out.below HB.out) hl).mono ?_
      rintro e w1 ⟨v1, rfl, hown, hb1⟩
      have W1 := Lib.hid (Made.words hown)
      have B1 := Lib.hid (below_on HB.out hb1)
      clear hown hb1
      go_wp2_with (go_at_call 110; refine (rights_any W1.out).mono ?_; rintro e w' ⟨rfl, rfl⟩)
      go_ret
      exact ⟨ret_bool (M.areW_end hlt HA.out), B1.out⟩
end Go.Proofs.Ytagngbdlpdilnaa
