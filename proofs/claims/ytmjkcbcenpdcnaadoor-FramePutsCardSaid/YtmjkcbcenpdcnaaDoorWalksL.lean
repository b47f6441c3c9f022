/- Rows of payloads as arguments; contract of row; no conditions but that the table reads as the text lays it. -/
import Derived.Test.YtmjkcbcenpdcnaaDoorWalksK
import Derived.Test.YtmjkcbcenpdcnaaDoorMathD
namespace Go.Proofs.YtmjkcbcenpdcnaaDoor
open Go.RowKit

/-- A slice of slices of bytes. -/
def Lots (w : World) (v : Value) (l : List (List UInt8)) : Prop := ∃ vs, Row w v vs ∧ Reads w vs l
theorem Lots.below {w w' : World} {v : Value} {l : List (List UInt8)} (h : Lots w v l) (hb : Below w.heap.size w w') : Lots w' v l := by
  obtain ⟨vs, h1, h2⟩ := h
  exact ⟨vs, h1.below hb, h2.below hb⟩
theorem Lots.opened {w : World} {v : Value} {l : List (List UInt8)} (h : Lots w v l) : ∃ (A : Option Addr) (c : Nat), v = .slice A l.length c ∧ l.length ≤ c ∧ (0 < l.length → ∃ b o, A = some ⟨b, o, none⟩ ∧ b < w.heap.size ∧
    ∀ k, k < l.length → ∃ P pc, w.cell? ⟨b, o + k, none⟩ = some (.slice P (l.getD k []).length pc) ∧ Bts w (.slice P (l.getD k []).length pc) (l.getD k [])) := by
  obtain ⟨vs, ⟨A, c, e, hl, hc⟩, hr, hx⟩ := h
  rw [hr] at e hl hc
  refine ⟨A, c, e, hl, fun h0 => ?_⟩
  obtain ⟨b, o, e1, hlt, hy⟩ := hc h0
  refine ⟨b, o, e1, hlt, fun k hk => ?_⟩
  have hk' : k < vs.length := by omega
  have hb := hx k vs[k] (l.getD k []) (List.getElem?_eq_getElem hk') (by rw [List.getD, List.getElem?_eq_getElem hk]; rfl)
  obtain ⟨P, pc, e2⟩ := hb.slice
  refine ⟨P, pc, ?_, by rw [← e2]; exact hb⟩
  rw [hy k vs[k] (List.getElem?_eq_getElem hk'), e2]
theorem take_one (l : List (List UInt8)) (k : Nat) (h : k < l.length) : l.take (k + 1) = l.take k ++ [l.getD k []] := by
  rw [List.take_add_one, List.getElem?_eq_getElem h, List.getD, List.getElem?_eq_getElem h]; rfl
theorem drop_one (l : List (List UInt8)) (k : Nat) (h : k < l.length) : l.drop k = l.getD k [] :: l.drop (k + 1) := by
  rw [List.drop_eq_getElem_cons h, List.getD, List.getElem?_eq_getElem h]; rfl

/-- What has been put in a row so far. -/
def Out (w : World) (base : Nat) (v : Value) (l : List (List UInt8)) : Prop := (l = [] ∧ v = .slice none 0 0) ∨ ∃ g, base ≤ g ∧ v = .slice (some ⟨g, 0, none⟩) (M.frms l).length (M.frms l).length ∧ Blk w g (M.frms l)
theorem Out.bts {w : World} {base : Nat} {v : Value} {l : List (List UInt8)} (h : Out w base v l) : Bts w v (M.frms l) := by
  rcases h with ⟨rfl, rfl⟩ | ⟨g, _, rfl, hk⟩
  · exact Bts.nil _ _ _
  · exact hk.bts (by rw [List.drop_zero, List.take_of_length_le (Nat.le_refl _)]) (by simp) (Nat.le_refl _)
/-- What row tells. -/
def RowSays (w : World) (l : List (List UInt8)) (e : Ending) (w' : World) : Prop :=
  ∃ v B, e = .returned (.tuple #[v, .bool B]) ∧ Below w.heap.size w w' ∧ (∃ A n c, v = .slice A n c) ∧ (B = true → l.length ≤ 20 ∧ M.Fits l ∧ (M.frms l).length ≤ 4500 ∧ Out w' w.heap.size v l)
theorem RowSays.no {w w' : World} {l : List (List UInt8)} (hb : Below w.heap.size w w') : RowSays w l (.returned (.tuple #[.slice none 0 0, .bool false])) w' := ⟨_, _, rfl, hb, ⟨_, _, _, rfl⟩, fun h => by cases h⟩

set_option maxHeartbeats 4000000 in
set_option maxRecDepth 100000 in
theorem row_any {w : World} {v : Value} {l : List (List UInt8)} (hT : Tab w) (h : Lots w v l) : Calls Tryd.prog 21 #[v] w (RowSays w l) := by
  have HT := Lib.hid hT
  have HL := Lib.hid h
  obtain ⟨A, c, rfl, hc, _⟩ := h.opened
  clear h hT
  by_cases h20 : l.length ≤ 20
  · go_enter Tryd.func21, Tryd.ntmps21
    go_wp2
    go_loopw [4, 14] (fun v i wr => ∃ k : Nat, k ≤ l.length ∧ i = .int .i64 k ∧ M.Fits (l.take k) ∧ Below w.heap.size w wr ∧ (M.frms (l.take k)).length ≤ 8604 ∧ Out wr w.heap.size v (l.take k)) (fun _ i _ => l.length - (intOf i).toNat)
    case atStart => exact ⟨0, Nat.zero_le _, rfl, by intro p hp; simp at hp, Below.refl _ _, by simp [M.frms], .inl ⟨by simp, rfl⟩⟩
    case round =>
      obtain ⟨k, hk, rfl, hfit, hbw, hfl, hout⟩ := hrel
      have HF := Lib.hid hfit
      have HB := Lib.hid hbw
      have HQ := Lib.hid hout
      have HW := Lib.hid hout.bts
      obtain ⟨A0, c0, rfl⟩ := hout.bts.slice
      have HT1 := Lib.hid (HT.out.below hbw)
      have HL1 := Lib.hid (HL.out.below hbw)
      have hbs := hbw.size
      clear hfit hbw hout
      by_cases hlt : k < l.length
      · obtain ⟨A', c', e', _, hx⟩ := HL1.out.opened
        cases e'
        obtain ⟨b, o, rfl, hb, hy⟩ := hx (by omega)
        obtain ⟨P, pc, hcell, hbt⟩ := hy k hlt
        have HP := Lib.hid hbt
        have HTK := Lib.hid (take_one l k hlt)
        clear hx hy hbt
        generalize l.getD k [] = p at *
        by_cases h1 : 1 ≤ p.length
        · by_cases h2 : p.length ≤ 4096
          · by_cases h3 : (M.frms (l.take k)).length ≤ 4500
            · have HFK := Lib.hid (show M.frms (l.take (k + 1)) = M.frms (l.take k) ++ M.frm p by rw [HTK.out, M.frms_append]; simp [M.frms])
              have HFit := Lib.hid (show M.Fits (l.take (k + 1)) by
                rw [HTK.out]; intro q hq
                rcases List.mem_append.1 hq with hq | hq
                · exact HF.out q hq
                · simp at hq; subst hq; exact ⟨h1, h2⟩)
              go_wp2_with (fail)
              refine (put_ok HT1.out HW.out HP.out (by omega) h1 h2).mono ?_
              rintro e w1 ⟨rfl, hblk, hb1⟩
              have hlen : (M.frms (l.take (k + 1))).length = (M.frms (l.take k)).length + (p.length + 8) := by rw [HFK.out]; simp [M.frm_len]
              have HB1 := Lib.hid (below_on HB.out hb1)
              have HO1 := Lib.hid (show Out w1 w.heap.size (.slice (some ⟨wr.heap.size, 0, none⟩) ((M.frms (l.take k)).length + (p.length + 8)) ((M.frms (l.take k)).length + (p.length + 8))) (l.take (k + 1)) from .inr ⟨wr.heap.size, hbs, by rw [hlen], by rw [HFK.out]; exact hblk⟩)
              have HLN := Lib.hid hlen
              clear hblk hb1 hlen HQ HW HB HT1 HL1 HP
              go_wp2
              go_roundw
              case rel => exact ⟨k + 1, by omega, by go_num, HFit.out, HB1.out, by rw [HLN.out]; omega, HO1.out⟩
              case measure => simp [intOf]; omega
            · go_wp2
              go_ret2
              exact RowSays.no HB.out
          · go_wp2
            go_ret2
            exact RowSays.no HB.out
        · go_wp2
          go_ret2
          exact RowSays.no HB.out
      · have HK := Lib.hid (show l.take k = l by rw [List.take_of_length_le (by omega)])
        by_cases h3 : (M.frms (l.take k)).length ≤ 4500
        · go_wp2
          go_ret2
          refine ⟨_, _, rfl, HB.out, ⟨_, _, _, rfl⟩, fun _ => ⟨h20, by rw [← HK.out]; exact HF.out, by rw [← HK.out]; exact h3, by have := HQ.out; rw [HK.out] at this ⊢; exact this⟩⟩
        · have q : decide (((M.frms (l.take k)).length : Int) ≤ 4500) = false := by simp; omega
          go_wp2
          go_ret2
          refine ⟨_, _, rfl, HB.out, ⟨_, _, _, rfl⟩, fun hB => ?_⟩
          cases hB
  · go_enter Tryd.func21, Tryd.ntmps21
    go_wp2
    go_ret2
    exact RowSays.no (Below.refl _ _)
end Go.Proofs.YtmjkcbcenpdcnaaDoor
