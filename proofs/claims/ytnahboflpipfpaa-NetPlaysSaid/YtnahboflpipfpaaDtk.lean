/- The document's Lose and Twice; no conditions but those that they name. -/
import Derived.Test.YtnahboflpipfpaaDsn
namespace Go.Proofs.Ytnahboflpipfpaa
open Go.ChangeShapes Go.WideShapes Go.ChangeAt Go.RowKit

/-- These blocks, and n from B on. -/
def Fb (F : Nat → Prop) (B n : Nat) (x : Nat) : Prop := F x ∨ (B ≤ x ∧ x < B + n)
theorem Dv0.boxed {F : Nat → Prop} {w W : World} {v : Value} {s : St} (n : Nat) (h : Dv0 F w v s) (b : Below w.heap.size w W) : Dv0 (Fb F w.heap.size n) W v s :=
  h.step (K := fun _ => False) (Keeps.of_below b) (fun _ e => e.elim) (fun _ e => e.imp id (fun q => q.1))
theorem Dv0.unbox {F : Nat → Prop} {B n : Nat} {w : World} {v : Value} {s : St} (h : Dv0 (Fb F B n) w v s) : Dv0 F w v s :=
  h.step (Keeps.refl (fun _ => False) w) (fun _ e => e.elim) (fun _ e => .inl (.inl e))
theorem Dv0.keep {F K : Nat → Prop} {B n : Nat} {w W : World} {v : Value} {s : St} (h : Dv0 (Fb F B n) w v s) (k : Keeps K w W) (hK : ∀ x, K x → B ≤ x ∧ x < B + n) : Dv0 (Fb F B n) W v s :=
  h.step k (fun x e => .inr (hK x e)) (fun _ e => .inl e)
set_option maxHeartbeats 16000000 in
set_option maxRecDepth 100000 in
theorem dlose_any {w : World} {F : Nat → Prop} {v : Value} {s : St} (h : Dv0 F w v s) (hF : ∀ x, F x → x < w.heap.size) (hs : s.Ok) (k : Int) : Calls Try.prog 30 #[.agg (dnL s v).toArray, .int .i64 k] w (Dsd F (s.lose k) (s.lk k) w) := by
  obtain ⟨A, c, rfl⟩ := h.slice
  have b0 : Below w.heap.size w ((w.alloc (.cells (([.int .i64 s.room, (.slice A s.ms.length c), .int .i64 s.sent, .int .i64 s.came, .int .i64 s.lost] : List Value)).toArray 29)).alloc (.cells (([.int .i64 0, .slice none 0 0, .int .i64 0, .int .i64 0, .int .i64 0] : List Value)).toArray 29)) := below_new (below_new (Below.refl w.heap.size w))
  have HD := Lib.hid h
  have HD0 := Lib.hid (h.boxed 2 b0)
  have HB0 := Lib.hid b0
  have HA0 := Lib.hid ((Hold.new w ([.int .i64 s.room, (.slice A s.ms.length c), .int .i64 s.sent, .int .i64 s.came, .int .i64 s.lost] : List Value) 29).on (below_new (o := .cells (([.int .i64 0, .slice none 0 0, .int .i64 0, .int .i64 0, .int .i64 0] : List Value)).toArray 29) (Below.refl _ _)))
  have HC0 := Lib.hid (hold_new1 w (.cells (([.int .i64 s.room, (.slice A s.ms.length c), .int .i64 s.sent, .int .i64 s.came, .int .i64 s.lost] : List Value)).toArray 29) ([.int .i64 0, .slice none 0 0, .int .i64 0, .int .i64 0, .int .i64 0] : List Value) 29)
  have LA0 := Lib.hid HA0.out.cel.whole
  have HF := Lib.hid hF
  obtain ⟨s0, s1, k0, k1, l0, l1, n1, hsm⟩ := hs
  have hz0 : w.heap.size + 2 ≤ ((w.alloc (.cells (([.int .i64 s.room, (.slice A s.ms.length c), .int .i64 s.sent, .int .i64 s.came, .int .i64 s.lost] : List Value)).toArray 29)).alloc (.cells (([.int .i64 0, .slice none 0 0, .int .i64 0, .int .i64 0, .int .i64 0] : List Value)).toArray 29)).heap.size := by simp
  have HZ0 := Lib.hid hz0
  clear h b0 hF hz0 hsm
  unfold dnL
  rcases s.lk_cases k with h0 | ⟨h0, j, rfl, hj⟩
  · rw [lose_bad h0]
    have HL := Lib.hid h0
    clear h0
    go_enter Try.func30, Try.ntmps30
    go_wp2_with (first
      | (with_reducible refine wpList_load_mid rfl 29 _ rfl w.heap.size 0 rfl _ _ LA0.out Try.underlying29 rfl (by kernel_rfl) ?_)
      | (go_at_call 28
         refine (dlook_any HD0.out k).mono ?_
         rintro e w1 ⟨y, rfl, hy, ht, hb⟩
         rw [HL.out]
         have HO := Lib.hid ht.one
         have b := below_new (o := .cells y.cells.toArray 49) hb
         have LA := Lib.hid (HA0.out.on b).cel.whole
         have h2 := HC0.out.on b
         have TH := Lib.hid (show World.there _ (w.heap.size + 1) 0 (([.int .i64 s.room, (.slice A s.ms.length c), .int .i64 s.sent, .int .i64 s.came, .int .i64 s.lost] : List Value) : List Value).length from h2.there (by show 0 + 5 ≤ 5; omega))
         have RH := Lib.hid (Hold.set (([.int .i64 s.room, (.slice A s.ms.length c), .int .i64 s.sent, .int .i64 s.came, .int .i64 s.lost] : List Value)) [] ([.int .i64 0, .slice none 0 0, .int .i64 0, .int .i64 0, .int .i64 0] : List Value) [] rfl _ h2)
         have HBF := Lib.hid ((below_on HB0.out b).trans ((keeps_puts (([.int .i64 s.room, (.slice A s.ms.length c), .int .i64 s.sent, .int .i64 s.came, .int .i64 s.lost] : List Value)) 0 (b := w.heap.size + 1)).below (fun x e => by unfold only at e; omega) (below_on HB0.out b).size))
         clear hy ht hb b h2)
      | (with_reducible refine wpList_store_fresh rfl 49 _ _ rfl _ rfl 49 _ y.cells rfl rfl rfl (mv_size _) HO.out ?_)
      | (with_reducible refine wpList_load_mid rfl 29 _ rfl w.heap.size 0 rfl _ _ LA.out Try.underlying29 rfl (by kernel_rfl) ?_)
      | (with_reducible refine store_list rfl 29 _ _ rfl (w.heap.size + 1) 0 (([.int .i64 s.room, (.slice A s.ms.length c), .int .i64 s.sent, .int .i64 s.came, .int .i64 s.lost] : List Value)) rfl rfl TH.out (by kernel_rfl) rfl ?_))
    refine bodyPost_ret (results_cv rfl rfl rfl RH.out.cel.whole _ Try.underlying29 rfl (by kernel_rfl)) rfl ?_
    exact ⟨.slice A s.ms.length c, by rw [HL.out]; rfl, HD.out.below HBF.out, HBF.out⟩
  · have e1 : s.lose j = ⟨s.room, s.sent, s.came, s.lost + 1, s.ms.take j ++ s.ms.drop (j + 1)⟩ := by unfold St.lose; rw [if_pos h0, cut_nat s j]
    rw [e1]
    have HL := Lib.hid h0
    clear h0 e1
    go_enter Try.func30, Try.ntmps30
    go_wp2_with (first
      | (with_reducible refine wpList_load_mid rfl 29 _ rfl w.heap.size 0 rfl _ _ LA0.out Try.underlying29 rfl (by kernel_rfl) ?_)
      | (go_at_call 28
         refine (dlook_any HD0.out j).mono ?_
         rintro e w1 ⟨y, rfl, hy, ht, hb⟩
         rw [HL.out]
         have HO := Lib.hid ht.one
         have b := below_new (o := .cells y.cells.toArray 49) hb
         have HA1 := Lib.hid (HA0.out.on b)
         have LA1 := Lib.hid HA1.out.cel.whole
         have HC1 := Lib.hid (HC0.out.on b)
         have HB1 := Lib.hid (below_on HB0.out b)
         have HD1 := Lib.hid (HD0.out.below b)
         have HZ1 := Lib.hid (Nat.le_trans HZ0.out b.size)
         clear hy ht hb b)
      | (with_reducible refine wpList_store_fresh rfl 49 _ _ rfl _ rfl 49 _ y.cells rfl rfl rfl (mv_size _) HO.out ?_)
      | (with_reducible refine wpList_load_mid rfl 29 _ rfl w.heap.size 0 rfl _ _ LA1.out Try.underlying29 rfl (by kernel_rfl) ?_)
      | (go_at_call 43
         refine (without_any HD1.out (fun x f => f.elim (fun f => Nat.lt_of_lt_of_le (HF.out x f) HB1.out.size) (fun f => Nat.lt_of_lt_of_le f.2 HZ1.out)) hj n1).mono ?_
         rintro e w2 ⟨v2, rfl, hv, hb⟩
         obtain ⟨A2, c2, rfl⟩ := hv.slice
         unfold dnL
         generalize hm : St.ms ⟨s.room, s.sent, s.came, s.lost, s.ms.take j ++ s.ms.drop (j + 1)⟩ = ms2 at *
         have hA2 := HA1.out.on hb
         have THA := Lib.hid (show World.there w2 w.heap.size 0 (([.int .i64 s.room, (.slice A2 ms2.length c2), .int .i64 s.sent, .int .i64 s.came, .int .i64 s.lost] : List Value) : List Value).length from hA2.there (by show 0 + 5 ≤ 5; omega))
         have hA3 : Hold (w2.setCells w.heap.size 0 (([.int .i64 s.room, (.slice A2 ms2.length c2), .int .i64 s.sent, .int .i64 s.came, .int .i64 s.lost] : List Value))) w.heap.size 29 (([.int .i64 s.room, (.slice A2 ms2.length c2), .int .i64 s.sent, .int .i64 s.came, .int .i64 s.lost] : List Value)) := Hold.set (([.int .i64 s.room, (.slice A2 ms2.length c2), .int .i64 s.sent, .int .i64 s.came, .int .i64 s.lost] : List Value)) [] (([.int .i64 s.room, (.slice A s.ms.length c), .int .i64 s.sent, .int .i64 s.came, .int .i64 s.lost] : List Value)) [] rfl _ hA2
         have kA := keeps_puts (([.int .i64 s.room, (.slice A2 ms2.length c2), .int .i64 s.sent, .int .i64 s.came, .int .i64 s.lost] : List Value)) 0 (b := w.heap.size) (w := w2)
         have hC3 := hold_keeps (HC1.out.on hb) kA (fun e => by unfold only at e; omega)
         have y4 := hold_cell hA3 4 rfl
         have g4 := hold_soft hA3 4
         have hA4 := hold_put hA3 4 (.int .i64 (s.lost + 1))
         have kB : Keeps (only w.heap.size) (w2.setCells w.heap.size 0 (([.int .i64 s.room, (.slice A2 ms2.length c2), .int .i64 s.sent, .int .i64 s.came, .int .i64 s.lost] : List Value))) ((w2.setCells w.heap.size 0 (([.int .i64 s.room, (.slice A2 ms2.length c2), .int .i64 s.sent, .int .i64 s.came, .int .i64 s.lost] : List Value))).setCell ⟨w.heap.size, 4, none⟩ (.int .i64 (s.lost + 1))) := (Keeps.refl (only w.heap.size) _).setCell (p := ⟨w.heap.size, 4, none⟩) (.inl rfl) _
         have hC4 := hold_keeps hC3 kB (fun e => by unfold only at e; omega)
         have kAB := kA.trans kB (fun _ _ e => e)
         have LA := Lib.hid (show World.rangeAt _ w.heap.size 0 ([.int .i64 s.room, .slice A2 ms2.length c2, .int .i64 s.sent, .int .i64 s.came, .int .i64 (s.lost + 1)] : List Value) from hA4.cel.whole)
         have TH := Lib.hid (show World.there _ (w.heap.size + 1) 0 ([.int .i64 s.room, .slice A2 ms2.length c2, .int .i64 s.sent, .int .i64 s.came, .int .i64 (s.lost + 1)] : List Value).length from hC4.there (by show 0 + 5 ≤ 5; omega))
         have RH := Lib.hid (Hold.set ([.int .i64 s.room, .slice A2 ms2.length c2, .int .i64 s.sent, .int .i64 s.came, .int .i64 (s.lost + 1)] : List Value) [] ([.int .i64 0, .slice none 0 0, .int .i64 0, .int .i64 0, .int .i64 0] : List Value) [] rfl _ hC4)
         have kC := keeps_puts ([.int .i64 s.room, .slice A2 ms2.length c2, .int .i64 s.sent, .int .i64 s.came, .int .i64 (s.lost + 1)] : List Value) 0 (b := w.heap.size + 1) (w := (w2.setCells w.heap.size 0 (([.int .i64 s.room, (.slice A2 ms2.length c2), .int .i64 s.sent, .int .i64 s.came, .int .i64 s.lost] : List Value))).setCell ⟨w.heap.size, 4, none⟩ (.int .i64 (s.lost + 1)))
         have b2 := below_on HB1.out hb
         have HBF := Lib.hid ((b2.trans (kAB.below (fun x e => by unfold only at e; omega) b2.size)).trans (kC.below (fun x e => by unfold only at e; omega) (Nat.le_trans b2.size kAB.size)))
         have HFIN := Lib.hid ((((hv.keep kAB (fun x e => by unfold only at e; omega)).keep kC (fun x e => by unfold only at e; omega)).unbox).like (s' := ⟨s.room, s.sent, s.came, s.lost + 1, s.ms.take j ++ s.ms.drop (j + 1)⟩) rfl)
         have HMS := Lib.hid hm
         clear hm hv hb hA2 hA3 kA hC3 hA4 kB hC4 kAB kC b2)
      | (with_reducible refine store_list rfl 29 _ _ rfl w.heap.size 0 (([.int .i64 s.room, (.slice A2 ms2.length c2), .int .i64 s.sent, .int .i64 s.came, .int .i64 s.lost] : List Value)) rfl rfl THA.out (by kernel_rfl) rfl ?_)
      | (with_reducible refine wpList_load_mid rfl 29 _ rfl w.heap.size 0 rfl _ _ LA.out Try.underlying29 rfl (by kernel_rfl) ?_)
      | (with_reducible refine store_list rfl 29 _ _ rfl (w.heap.size + 1) 0 ([.int .i64 s.room, .slice A2 ms2.length c2, .int .i64 s.sent, .int .i64 s.came, .int .i64 (s.lost + 1)] : List Value) rfl rfl TH.out (by kernel_rfl) rfl ?_))
    refine bodyPost_ret (results_cv rfl rfl rfl RH.out.cel.whole _ Try.underlying29 rfl (by kernel_rfl)) rfl ?_
    exact ⟨.slice A2 ms2.length c2, by rw [HL.out]; rfl, HFIN.out, HBF.out⟩
end Go.Proofs.Ytnahboflpipfpaa
