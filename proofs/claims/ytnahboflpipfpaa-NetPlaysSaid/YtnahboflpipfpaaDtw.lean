/- The document's Twice; no conditions but those that it names. -/
import Derived.Test.YtnahboflpipfpaaDtk
namespace Go.Proofs.Ytnahboflpipfpaa
open Go.ChangeShapes Go.WideShapes Go.ChangeAt Go.RowKit

set_option maxHeartbeats 16000000 in
set_option maxRecDepth 100000 in
theorem dtwice_any {w : World} {F : Nat → Prop} {v : Value} {s : St} {n : Int} (h : Dv0 F w v s) (hF : ∀ x, F x → x < w.heap.size) (ok : s.OkN n) (hn : n ≤ 1000) (k : Int) : Calls Try.prog 31 #[.agg (dnL s v).toArray, .int .i64 k] w (Dsd F (s.twice k) (s.twiceR k) w) := by
  have hs := ok.ok hn
  obtain ⟨A, c, rfl⟩ := h.slice
  have b0 : Below w.heap.size w ((w.alloc (.cells (([.int .i64 s.room, (.slice A s.ms.length c), .int .i64 s.sent, .int .i64 s.came, .int .i64 s.lost] : List Value)).toArray 29)).alloc (.cells (([.int .i64 0, .slice none 0 0, .int .i64 0, .int .i64 0, .int .i64 0] : List Value)).toArray 29)) := below_new (below_new (Below.refl w.heap.size w))
  have HD := Lib.hid h
  have HD0 := Lib.hid (h.boxed 2 b0)
  have HB0 := Lib.hid b0
  have HA0 := Lib.hid ((Hold.new w ([.int .i64 s.room, (.slice A s.ms.length c), .int .i64 s.sent, .int .i64 s.came, .int .i64 s.lost] : List Value) 29).on (below_new (o := .cells (([.int .i64 0, .slice none 0 0, .int .i64 0, .int .i64 0, .int .i64 0] : List Value)).toArray 29) (Below.refl _ _)))
  have HC0 := Lib.hid (hold_new1 w (.cells (([.int .i64 s.room, (.slice A s.ms.length c), .int .i64 s.sent, .int .i64 s.came, .int .i64 s.lost] : List Value)).toArray 29) ([.int .i64 0, .slice none 0 0, .int .i64 0, .int .i64 0, .int .i64 0] : List Value) 29)
  have LA0 := Lib.hid HA0.out.cel.whole
  have HF := Lib.hid hF
  have hz0 : w.heap.size + 2 ≤ ((w.alloc (.cells (([.int .i64 s.room, (.slice A s.ms.length c), .int .i64 s.sent, .int .i64 s.came, .int .i64 s.lost] : List Value)).toArray 29)).alloc (.cells (([.int .i64 0, .slice none 0 0, .int .i64 0, .int .i64 0, .int .i64 0] : List Value)).toArray 29)).heap.size := by simp
  have HZ0 := Lib.hid hz0
  have HOK := Lib.hid ok
  have HS := Lib.hid hs
  clear h b0 hF hz0 ok hs
  unfold dnL
  rcases s.lk_cases k with h0 | ⟨h0, j, rfl, hj⟩
  · have e1 : s.twice k = s := by unfold St.twice; rw [if_neg (by rw [h0]; decide)]
    have e2 : s.twiceR k = 10 := by unfold St.twiceR; rw [if_neg (by rw [h0]; decide), h0]
    rw [e1, e2]
    have HL := Lib.hid h0
    clear h0 e1 e2
    go_enter Try.func31, Try.ntmps31
    go_wp2_with (first
      | (with_reducible refine wpList_load_mid rfl 29 _ rfl w.heap.size 0 rfl _ _ LA0.out Try.underlying29 rfl (by kernel_rfl) ?_)
      | (go_at_call 28
         refine (dlook_any HD0.out k).mono ?_
         rintro e w1 ⟨y, rfl, hy, ht, hb⟩
         rw [HL.out]
         have HO := Lib.hid ht.one
         have b := below_new (o := .cells y.cells.toArray 49) hb
         have LA := Lib.hid (HA0.out.on b).cel.whole
         have h2 := HC0.out.on b
         have TH := Lib.hid (show World.there _ (w.heap.size + 1) 0 (([.int .i64 s.room, (.slice A s.ms.length c), .int .i64 s.sent, .int .i64 s.came, .int .i64 s.lost] : List Value) : List Value).length from h2.there (by show 0 + 5 ≤ 5; omega))
         have RH := Lib.hid (Hold.set (([.int .i64 s.room, (.slice A s.ms.length c), .int .i64 s.sent, .int .i64 s.came, .int .i64 s.lost] : List Value)) [] ([.int .i64 0, .slice none 0 0, .int .i64 0, .int .i64 0, .int .i64 0] : List Value) [] rfl _ h2)
         have HBF := Lib.hid ((below_on HB0.out b).trans ((keeps_puts (([.int .i64 s.room, (.slice A s.ms.length c), .int .i64 s.sent, .int .i64 s.came, .int .i64 s.lost] : List Value)) 0 (b := w.heap.size + 1)).below (fun x e => by unfold only at e; omega) (below_on HB0.out b).size))
         clear hy ht hb b h2)
      | (with_reducible refine wpList_store_fresh rfl 49 _ _ rfl _ rfl 49 _ y.cells rfl rfl rfl (mv_size _) HO.out ?_)
      | (with_reducible refine wpList_load_mid rfl 29 _ rfl w.heap.size 0 rfl _ _ LA.out Try.underlying29 rfl (by kernel_rfl) ?_)
      | (with_reducible refine store_list rfl 29 _ _ rfl (w.heap.size + 1) 0 (([.int .i64 s.room, (.slice A s.ms.length c), .int .i64 s.sent, .int .i64 s.came, .int .i64 s.lost] : List Value)) rfl rfl TH.out (by kernel_rfl) rfl ?_))
    refine bodyPost_ret (results_cv rfl rfl rfl RH.out.cel.whole _ Try.underlying29 rfl (by kernel_rfl)) rfl ?_
    exact ⟨.slice A s.ms.length c, rfl, HD.out.below HBF.out, HBF.out⟩
  · have HL := Lib.hid h0
    rcases hf : s.full with _ | _
    · obtain ⟨e1, e2⟩ := St.twice_send HOK.out hj hf
      have K := HOK.out.sm _ (St.at_mem hj)
      have q1 : decide (s.room ≤ (s.ms.length : Int)) = false := hf
      rw [e1, e2]
      clear h0 e1 e2 hf
      go_enter Try.func31, Try.ntmps31
      go_wp2_with (first
        | (with_reducible refine wpList_load_mid rfl 29 _ rfl w.heap.size 0 rfl _ _ LA0.out Try.underlying29 rfl (by kernel_rfl) ?_)
        | (go_at_call 28
           refine (dlook_any HD0.out j).mono ?_
           rintro e w1 ⟨y, rfl, hy, ht, hb⟩
           rw [HL.out]
           have HO := Lib.hid ht.one
           have b := below_new (o := .cells y.cells.toArray 49) hb
           have hA1 := HA0.out.on b
           have c0 := hold_cell hA1 0 rfl
           have c1 := hold_cell hA1 1 rfl
           have LA1 := Lib.hid hA1.cel.whole
           have LY1 := Lib.hid (Hold.new w1 y.cells 49).cel.whole
           have HC1 := Lib.hid (HC0.out.on b)
           have HB1 := Lib.hid (below_on HB0.out b)
           have HD1 := Lib.hid (HD0.out.below b)
           have HZ1 := Lib.hid (Nat.le_trans HZ0.out b.size)
           have HT1 := Lib.hid ((ht.below (below_new (o := .cells y.cells.toArray 49) (Below.refl _ _))))
           have HY := Lib.hid hy
           clear hy ht hb b hA1)
        | (with_reducible refine wpList_store_fresh rfl 49 _ _ rfl _ rfl 49 _ y.cells rfl rfl rfl (mv_size _) HO.out ?_)
        | (with_reducible refine wpList_load_mid rfl 29 _ rfl w.heap.size 0 rfl _ _ LA1.out Try.underlying29 rfl (by kernel_rfl) ?_)
        | (with_reducible refine wpList_load_mid rfl 49 _ rfl _ 0 rfl _ _ LY1.out Try.underlying49 rfl (mv_size _) ?_)
        | (go_at_call 27
           refine (dsend_any HD1.out (fun x f => f.elim (fun f => Nat.lt_of_lt_of_le (HF.out x f) HB1.out.size) (fun f => Nat.lt_of_lt_of_le f.2 HZ1.out)) HT1.out (by rw [HY.out]; exact K) HS.out).mono ?_
           rintro e w2 ⟨v2, rfl, hv, hb⟩
           rw [HY.out] at hv ⊢
           obtain ⟨A2, c2, rfl⟩ := hv.slice
           generalize hs2 : s.send (s.at j) = s2 at *
           unfold dnL
           generalize hm : s2.ms.length = m2 at *
           have hC2 := HC1.out.on hb
           have TH := Lib.hid (show World.there w2 (w.heap.size + 1) 0 (([.int .i64 s2.room, (.slice A2 m2 c2), .int .i64 s2.sent, .int .i64 s2.came, .int .i64 s2.lost] : List Value) : List Value).length from hC2.there (by show 0 + 5 ≤ 5; omega))
           have RH := Lib.hid (Hold.set (([.int .i64 s2.room, (.slice A2 m2 c2), .int .i64 s2.sent, .int .i64 s2.came, .int .i64 s2.lost] : List Value)) [] ([.int .i64 0, .slice none 0 0, .int .i64 0, .int .i64 0, .int .i64 0] : List Value) [] rfl _ hC2)
           have kC := keeps_puts (([.int .i64 s2.room, (.slice A2 m2 c2), .int .i64 s2.sent, .int .i64 s2.came, .int .i64 s2.lost] : List Value)) 0 (b := w.heap.size + 1) (w := w2)
           have b2 := below_on HB1.out hb
           have HBF := Lib.hid (b2.trans (kC.below (fun x e => by unfold only at e; omega) b2.size))
           have HFIN := Lib.hid ((hv.keep kC (fun x e => by unfold only at e; omega)).unbox)
           have HE := Lib.hid hs2
           clear hs2 hm hv hb hC2 kC b2 c0 c1)
        | (with_reducible refine store_list rfl 29 _ _ rfl (w.heap.size + 1) 0 (([.int .i64 s2.room, (.slice A2 m2 c2), .int .i64 s2.sent, .int .i64 s2.came, .int .i64 s2.lost] : List Value)) rfl rfl TH.out (by kernel_rfl) rfl ?_))
      obtain rfl := HE.out
      refine bodyPost_ret (results_cv rfl rfl rfl RH.out.cel.whole _ Try.underlying29 rfl (by kernel_rfl)) rfl ?_
      exact ⟨.slice A2 m2 c2, rfl, HFIN.out, HBF.out⟩
    · have e1 : s.twice j = s := by unfold St.twice; rw [if_pos h0, hf]; rfl
      have e2 : s.twiceR j = 7 := by unfold St.twiceR; rw [if_pos h0, hf]; rfl
      have q1 : decide (s.room ≤ (s.ms.length : Int)) = true := hf
      rw [e1, e2]
      clear h0 e1 e2 hf
      go_enter Try.func31, Try.ntmps31
      go_wp2_with (first
        | (with_reducible refine wpList_load_mid rfl 29 _ rfl w.heap.size 0 rfl _ _ LA0.out Try.underlying29 rfl (by kernel_rfl) ?_)
        | (go_at_call 28
           refine (dlook_any HD0.out j).mono ?_
           rintro e w1 ⟨y, rfl, hy, ht, hb⟩
           rw [HL.out]
           have HO := Lib.hid ht.one
           have b := below_new (o := .cells y.cells.toArray 49) hb
           have hA1 := HA0.out.on b
           have c0 := hold_cell hA1 0 rfl
           have c1 := hold_cell hA1 1 rfl
           have LA := Lib.hid hA1.cel.whole
           have h2 := HC0.out.on b
           have TH := Lib.hid (show World.there _ (w.heap.size + 1) 0 (([.int .i64 s.room, (.slice A s.ms.length c), .int .i64 s.sent, .int .i64 s.came, .int .i64 s.lost] : List Value) : List Value).length from h2.there (by show 0 + 5 ≤ 5; omega))
           have RH := Lib.hid (Hold.set (([.int .i64 s.room, (.slice A s.ms.length c), .int .i64 s.sent, .int .i64 s.came, .int .i64 s.lost] : List Value)) [] ([.int .i64 0, .slice none 0 0, .int .i64 0, .int .i64 0, .int .i64 0] : List Value) [] rfl _ h2)
           have HBF := Lib.hid ((below_on HB0.out b).trans ((keeps_puts (([.int .i64 s.room, (.slice A s.ms.length c), .int .i64 s.sent, .int .i64 s.came, .int .i64 s.lost] : List Value)) 0 (b := w.heap.size + 1)).below (fun x e => by unfold only at e; omega) (below_on HB0.out b).size))
           clear hy ht hb b h2 hA1)
        | (with_reducible refine wpList_store_fresh rfl 49 _ _ rfl _ rfl 49 _ y.cells rfl rfl rfl (mv_size _) HO.out ?_)
        | (with_reducible refine wpList_load_mid rfl 29 _ rfl w.heap.size 0 rfl _ _ LA.out Try.underlying29 rfl (by kernel_rfl) ?_)
        | (with_reducible refine store_list rfl 29 _ _ rfl (w.heap.size + 1) 0 (([.int .i64 s.room, (.slice A s.ms.length c), .int .i64 s.sent, .int .i64 s.came, .int .i64 s.lost] : List Value)) rfl rfl TH.out (by kernel_rfl) rfl ?_))
      refine bodyPost_ret (results_cv rfl rfl rfl RH.out.cel.whole _ Try.underlying29 rfl (by kernel_rfl)) rfl ?_
      exact ⟨.slice A s.ms.length c, rfl, HD.out.below HBF.out, HBF.out⟩
end Go.Proofs.Ytnahboflpipfpaa
