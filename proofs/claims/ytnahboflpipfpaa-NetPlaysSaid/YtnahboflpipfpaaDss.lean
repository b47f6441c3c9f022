/- A step of both: Send; no conditions but those that it names. -/
import Derived.Test.YtnahboflpipfpaaDst
namespace Go.Proofs.Ytnahboflpipfpaa
open Go.ChangeShapes Go.WideShapes Go.ChangeAt Go.RowKit

theorem bare_w (W : World) : (W.alloc (.cells #[] 76)).ownsRow W.heap.size 76 2 (.slice (some ⟨W.heap.size, 0, none⟩) 0 0) 0 [] := by
  refine ⟨by simp, .inr ⟨W.heap.size, 0, #[], rfl, Nat.le_refl _, ?_, by simp, by simp, by simp⟩⟩
  exact heap_alloc_new W _
set_option maxHeartbeats 16000000 in
set_option maxRecDepth 100000 in
theorem does_send {w : World} {g : Nat} {F : Nat → Prop} {s : St} {v : Value} {d : Dv} (h : Nt w g F s) (hv : Dv0 (Or1 g F) w v s) (ht : Txt (Or1 g F) w d.x) (hs : s.Ok) (K : M.Mod d.x.m.r.c) (h0 : d.vb = 0) : Calls Try.prog 13 #[ptrV g, .agg (dnL s v).toArray, .agg d.cells.toArray] w (Dsr g F (s.send d.x.m) w) := by
  obtain ⟨A, c, rfl⟩ := hv.slice
  obtain ⟨vb, kk, dx⟩ := d
  dsimp only at h0 ht K
  subst h0
  show Calls Try.prog 13 _ w (Dsr g F (s.send dx.m) w)
  have HB := Lib.hid (beg_of (d := ⟨0, kk, dx⟩) h hv ht)
  have c0 : World.cell? _ ⟨w.heap.size + 1, 0, none⟩ = some (.int .i64 0) := hold_cell HB.out.hx 0 rfl
  have c21 : World.cell? _ ⟨w.heap.size + 1, 21, none⟩ = some dx.vb := hold_cell HB.out.hx 21 rfl
  obtain ⟨W, hW⟩ : ∃ W, W = (((w.alloc (.cells (([.int .i64 s.room, (.slice A s.ms.length c), .int .i64 s.sent, .int .i64 s.came, .int .i64 s.lost] : List Value)).toArray 29)).alloc (.cells (Dv.cells ⟨0, kk, dx⟩).toArray 51)).alloc (.cells (([.int .i64 0, .slice none 0 0, .int .i64 0, .int .i64 0, .int .i64 0] : List Value)).toArray 29)) := ⟨_, rfl⟩
  have HBW := Lib.hid (show Beg w W g F s A c ⟨0, kk, dx⟩ by rw [hW]; exact HB.out)
  have HWE := Lib.hid hW
  have HS := Lib.hid hs
  have hgl := HBW.out.gl
  have hsz := HBW.out.sz
  have bA := below_new (o := .cells #[] 76) (Below.refl W.heap.size W)
  have wsA : Wrs (W.alloc (.cells #[] 76)) dx.vb dx.m.r.c.ws := HBW.out.tx.ws.below bA
  obtain ⟨v1, w1, r1, o1, g1⟩ := append_wrs (bare_w W) wsA (by have := K.w; omega) (by simp)
  rw [Nat.zero_add, List.nil_append] at o1
  have b1 : Below W.heap.size W w1 := bA.grown g1 (by simp) (fun k e => ((bare_w W).lt k e).1)
  obtain ⟨A1, c1, rfl⟩ := ownsRow_slice o1
  rw [show W.heap.size = w.heap.size + 1 + 1 + 1 by rw [hW]; simp, hW] at r1
  have HR1 := Lib.hid r1
  have HO1 := Lib.hid o1
  have HB1 := Lib.hid b1
  have hm1 := hold_range (HBW.out.hx.on b1)
  have LM := Lib.hid (dv_msg hm1)
  have HX2 := Lib.hid (Hold.new w1 dx.cells 49)
  have c19 := hold_cell HX2.out 19 rfl
  have f19 := hold_soft HX2.out 19
  have HX3 := Lib.hid (show Hold (w1.alloc (.cells (dx.cells.set 19 (.slice A1 dx.m.r.c.ws.length c1)).toArray 49)) w1.heap.size 49 (Mv.cells ⟨dx.m, dx.va, .slice A1 dx.m.r.c.ws.length c1⟩) from Hold.new w1 (dx.cells.set 19 (.slice A1 dx.m.r.c.ws.length c1)) 49)
  have LX3 := Lib.hid HX3.out.cel.whole
  have b2 := below_new (o := .cells dx.cells.toArray 49) b1
  have hz1 := b1.size
  have b3 : Below W.heap.size W (w1.alloc (.cells (dx.cells.set 19 (.slice A1 dx.m.r.c.ws.length c1)).toArray 49)) := below_new b1
  have o3 := ownsRow_on o1 (below_new (o := .cells (dx.cells.set 19 (.slice A1 dx.m.r.c.ws.length c1)).toArray 49) (Below.refl _ _))
  have HBK := Lib.hid (show ∀ y, blk A1 dx.m.r.c.ws.length c1 y → W.heap.size ≤ y ∧ y < w1.heap.size from fun y e => by
    obtain ⟨cur, hc⟩ := owns_lt o1 y e
    exact ⟨(o1.lt y e).1, (Array.getElem?_eq_some_iff.1 hc).1⟩)
  have HN3 := Lib.hid (show Nt (w1.alloc (.cells (dx.cells.set 19 (.slice A1 dx.m.r.c.ws.length c1)).toArray 49)) g (fun y => Fb F w.heap.size 3 y ∨ blk A1 dx.m.r.c.ws.length c1 y) s from
    HBW.out.nt.step (K := fun _ => False) (Keeps.of_below b3) (fun _ e => e.elim) (fun y e => e.imp id (fun q => (HBK.out y q).1)) (fun y e => e.elim (fun f => Nat.lt_of_lt_of_le (HBW.out.nt.ltall y (.inr f)) b3.size) (fun q => by have := (HBK.out y q).2; simp; omega)))
  have HT3 := Lib.hid (show Txt (only g) (w1.alloc (.cells (dx.cells.set 19 (.slice A1 dx.m.r.c.ws.length c1)).toArray 49)) ⟨dx.m, dx.va, .slice A1 dx.m.r.c.ws.length c1⟩ from by
    have t := (HBW.out.tx.below b3).sub (G := only g) (fun _ e => .inl e)
    exact ⟨t.rs, RowN.of_owns o3, t.oa, fun _ => Out.of_owns o3 (fun x e => by unfold only at e; omega)⟩)
  have HB3 := Lib.hid b3
  have HO3 := Lib.hid o3
  have hn20 : dx.m.r.c.ws.length ≤ 20 := K.w
  have hwv := Lib.hid (mod_vals K)
  have e21 : ∃ A9 c9, dx.vb = .slice A9 dx.m.r.c.ws.length c9 := by
    obtain ⟨A9, c9, e, _⟩ := rowN_sliceOf HBW.out.tx.ws
    exact ⟨A9, c9, e⟩
  unfold ptrV dnL
  clear h hv ht hs HB bA wsA r1 o1 g1 b1 hm1 b2 b3 o3 hW
  go_enter Try.func13, Try.ntmps13
  go_wp2_with (first
    | (at_builtin; refine Lib.wpList_append_run _ rfl _ _ _ _ rfl _ _ rfl rfl _ _ HR1.out ?_)
    | (with_reducible refine wpList_load_mid rfl 49 _ rfl (w.heap.size + 1) 2 rfl _ _ LM.out Try.underlying49 rfl (mv_size _) ?_)
    | (with_reducible refine wpList_store_fresh rfl 49 _ _ rfl w1.heap.size rfl 49 _ dx.cells rfl rfl rfl (mv_size _) HBW.out.tx.one ?_)
    | (with_reducible refine wpList_load_mid rfl 49 _ rfl w1.heap.size 0 rfl _ _ LX3.out Try.underlying49 rfl (mv_size _) ?_)
    | fail)
  refine (send_any HN3.out HS.out HT3.out K).mono ?_
  rintro e w4 ⟨rfl, hn4, hk4⟩
  dsimp only at hn4
  have k04 : Keeps (only g) W w4 := (Keeps.of_below HB3.out).trans hk4 (fun _ _ e => e)
  have o4 := owns_keeps HO3.out hk4 (fun b e f => by have := (HBK.out b e).1; unfold only at f; omega)
  have HLO := Lib.hid (loose_wrs o4 rfl hwv.out)
  have HN4 := Lib.hid hn4
  have HK4 := Lib.hid k04
  have HKK := Lib.hid K
  generalize hs1 : s.send dx.m = s1 at *
  generalize hr1 : s.sendR dx.m = r1 at *
  generalize hnn : dx.m.r.c.ws.length = nw at *
  have HS1 := Lib.hid hs1
  have HRR := Lib.hid hr1
  clear hs1 hr1 hnn hn4 hk4 k04 o4 c0 c21 c19 f19 HR1 LM LX3 HX2 HX3 HN3 HT3 HO3 HO1 e21 K
  go_wp2_with (fail)
  go_loopw [51] (fun i wr => ∃ q : Nat, i = .int .i64 q ∧ q ≤ nw ∧ Hid (Loose wr A1 q nw) ∧ Hid (Keeps (blk A1 nw c1) w4 wr)) (fun i _ => nw - (intOf i).toNat)
  case atStart => exact ⟨0, rfl, Nat.zero_le _, HLO, Lib.hid (Keeps.refl _ _)⟩
  case round =>
    clear HLO
    obtain ⟨q, rfl, hq, HL, HK⟩ := hrel
    by_cases hlt : q < nw
    · obtain ⟨b, rfl, hsf⟩ := HL.out (by omega)
      obtain ⟨str, hcell, hsz2, hfr⟩ := hsf q (Nat.le_refl _) hlt
      have hadd : ∀ X : World, (binOp .add 9 (.string str) (.string ⟨#[120]⟩)).run Try.prog X = .ok (.string (str ++ ⟨#[120]⟩)) X := fun X => by
        rw [binOp_string_add]; exact run_string_add_sum X str ⟨#[120]⟩ (by have : (⟨#[120]⟩ : ByteArray).size = 1 := rfl; omega)
      have HL2 := Lib.hid (HL.out.step (.string (str ++ ⟨#[120]⟩)))
      have HK2 := Lib.hid (HK.out.setCell (p := ⟨b, q * 2 + 1, none⟩) (.inl (show blk (some ⟨b, 0, none⟩) nw c1 b from rfl)) (.string (str ++ ⟨#[120]⟩)))
      have hi1 : (q : Int) < (nw : Int) := by omega
      clear hsf
      go_wp2
      go_roundw
      case rel => exact ⟨q + 1, by go_num, hlt, HL2, HK2⟩
      case measure => simp [intOf]; omega
    · obtain rfl : q = nw := by omega
      have kWr : Keeps (only g) W wr := HK4.out.trans HK.out (fun y hy e => by have := (HBK.out y e).1; omega)
      have HNr := Lib.hid ((HN4.out.step HK.out (fun _ e => .inr e) (fun _ e => .inl e) (fun y e => Nat.lt_of_lt_of_le (HN4.out.ltall y (.inr e)) HK.out.size)).sub (G := Fb F w.heap.size 3) (fun _ e => .inl e))
      have LA := Lib.hid (hold_keeps HBW.out.hd kWr (fun e => by unfold only at e; omega)).cel.whole
      have LM := Lib.hid (dv_msg (hold_range (hold_keeps HBW.out.hx kWr (fun e => by unfold only at e; omega))))
      have HRr := Lib.hid (hold_keeps HBW.out.hr kWr (fun e => by unfold only at e; omega))
      have HKr := Lib.hid kWr
      have LQ := Lib.hid (dsend_any (HBW.out.dv.step kWr (fun x e => .inl e) (fun _ e => .inl e)) (fun y f => Nat.lt_of_lt_of_le (HBW.out.nt.ltall y f) kWr.size) (HBW.out.tx.step kWr (fun x e => .inl e) (fun _ e => .inl e)) HKK.out HS.out)
      unfold dnL at LQ
      clear kWr
      go_wp2_with (first
        | (with_reducible refine wpList_load_mid rfl 29 _ rfl w.heap.size 0 rfl _ _ LA.out Try.underlying29 rfl (by kernel_rfl) ?_)
        | (with_reducible refine wpList_load_mid rfl 49 _ rfl (w.heap.size + 1) 2 rfl _ _ LM.out Try.underlying49 rfl (mv_size _) ?_)
        | fail)
      refine LQ.out.mono ?_
      rintro e w5 ⟨v5, rfl, hv5, hb5⟩
      rw [HRR.out]
      rw [HS1.out] at hv5 ⊢
      obtain ⟨A5, c5, rfl⟩ := hv5.slice
      generalize hn5 : s1.ms.length = n5 at *
      have b6 := below_new (o := .cells ([.int .i64 s1.room, .slice A5 n5 c5, .int .i64 s1.sent, .int .i64 s1.came, .int .i64 s1.lost] : List Value).toArray 29) hb5
      have h2 := HRr.out.on b6
      have LB := Lib.hid (Hold.new w5 ([.int .i64 s1.room, .slice A5 n5 c5, .int .i64 s1.sent, .int .i64 s1.came, .int .i64 s1.lost] : List Value) 29).cel.whole
      have TH := Lib.hid (show World.there _ (w.heap.size + 2) 0 ([.int .i64 s1.room, .slice A5 n5 c5, .int .i64 s1.sent, .int .i64 s1.came, .int .i64 s1.lost] : List Value).length from h2.there (by show 0 + 5 ≤ 5; omega))
      have RH := Lib.hid (Hold.set ([.int .i64 s1.room, .slice A5 n5 c5, .int .i64 s1.sent, .int .i64 s1.came, .int .i64 s1.lost] : List Value) [] ([.int .i64 0, .slice none 0 0, .int .i64 0, .int .i64 0, .int .i64 0] : List Value) [] rfl _ h2)
      have HFIN := Lib.hid (dsr_mk (L := ([.int .i64 s1.room, .slice A5 n5 c5, .int .i64 s1.sent, .int .i64 s1.came, .int .i64 s1.lost] : List Value)) (HNr.out.below b6) (hv5.below (below_new (o := .cells ([.int .i64 s1.room, .slice A5 n5 c5, .int .i64 s1.sent, .int .i64 s1.came, .int .i64 s1.lost] : List Value).toArray 29) (Below.refl _ _))) (((Keeps.of_below (F := only g) HBW.out.bel).trans HKr.out (fun _ _ e => e)).trans (Keeps.of_below (F := only g) b6) (fun _ _ e => e)) rfl)
      clear hn5 hv5 hb5 b6 h2 LQ
      go_wp2_with (first
        | (with_reducible refine wpList_store_fresh rfl 29 _ _ rfl _ rfl 29 _ ([.int .i64 s1.room, .slice A5 n5 c5, .int .i64 s1.sent, .int .i64 s1.came, .int .i64 s1.lost] : List Value) rfl rfl rfl (by kernel_rfl) rfl ?_)
        | (with_reducible refine wpList_load_mid rfl 29 _ rfl _ 0 rfl _ _ LB.out Try.underlying29 rfl (by kernel_rfl) ?_)
        | (with_reducible refine store_list rfl 29 _ _ rfl (w.heap.size + 2) 0 ([.int .i64 s1.room, .slice A5 n5 c5, .int .i64 s1.sent, .int .i64 s1.came, .int .i64 s1.lost] : List Value) rfl rfl TH.out (by kernel_rfl) rfl ?_))
      refine bodyPost_ret (results_cv rfl rfl rfl RH.out.cel.whole _ Try.underlying29 rfl (by kernel_rfl)) rfl ?_
      exact ⟨.slice A5 n5 c5, by first | rfl | simp [dnL], HFIN.out⟩
end Go.Proofs.Ytnahboflpipfpaa
