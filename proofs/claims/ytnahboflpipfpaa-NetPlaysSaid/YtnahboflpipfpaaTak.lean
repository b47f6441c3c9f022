/- Contracts of Take, Lose and Twice of a net; no conditions but those that they name. -/
import Derived.Test.YtnahboflpipfpaaSnd
namespace Go.Proofs.Ytnahboflpipfpaa
open Go.ChangeShapes Go.WideShapes Go.ChangeAt Go.RowKit

theorem ownM_keeps {B : Nat} {w w' : World} {x : Mv} {K : Nat → Prop} (h : OwnM B w x) (k : Keeps K w w') (hK : ∀ y, K y → y < B) : OwnM B w' x := by
  obtain ⟨⟨B1, h1, q1⟩, ⟨B2, h2, q2⟩⟩ := h
  exact ⟨⟨B1, h1, owns_keeps q1 k (fun b e f => by have := (q1.lt b e).1; have := hK b f; omega)⟩, ⟨B2, h2, owns_keeps q2 k (fun b e f => by have := (q2.lt b e).1; have := hK b f; omega)⟩⟩
theorem keeps_puts {b : Nat} : ∀ (L : List Value) (o : Nat) {w : World}, Keeps (only b) w (w.setCells b o L)
  | [], _, w => Keeps.refl _ w
  | v :: L, o, w => ((Keeps.refl (only b) w).setCell (p := ⟨b, o, none⟩) (.inl rfl) v).trans (keeps_puts L (o + 1)) (fun _ _ e => e)
/-- What Take answers, and leaves. -/
def Tkd (g : Nat) (F : Nat → Prop) (s' : St) (m : M.Msg) (r : Int) (w : World) (e : Ending) (w' : World) : Prop := ∃ x : Mv, e = .returned (.tuple #[.agg x.cells.toArray, .int .i64 r]) ∧ x.m = m ∧ OwnM w.heap.size w' x ∧ Nt w' g F s' ∧ Keeps (only g) w w'
theorem cut_nat (s : St) (j : Nat) : s.cut j = s.ms.take j ++ s.ms.drop (j + 1) := by unfold St.cut; rw [Int.toNat_natCast]
theorem lose_bad {s : St} {k : Int} (h : s.lk k = 10) : s.lose k = s := by unfold St.lose; rw [if_neg (by rw [h]; decide)]
theorem take_bad {s : St} {k : Int} (h : s.lk k = 10) : s.take k = s := by unfold St.take; rw [if_neg (by rw [h]; decide)]
theorem lose_nil (k : Int) (w : World) : Calls Try.prog 23 #[.pointer none, .int .i64 k] w fun e w' => e = .returned (.int .i64 1) ∧ w = w' := by
  go_enter Try.func23, Try.ntmps23
  go_wp2_with (go_at_call 40; refine (lacks_nil k _).mono ?_; rintro e w1 ⟨rfl, rfl⟩)
  go_ret
  exact ⟨rfl, rfl⟩
set_option maxHeartbeats 4000000 in
set_option maxRecDepth 100000 in
theorem lose_any {w : World} {g : Nat} {F : Nat → Prop} {s : St} (h : Nt w g F s) (hs : s.Ok) (k : Int) : Calls Try.prog 23 #[ptrV g, .int .i64 k] w (Chg g F (s.lose k) (s.lk k) w) := by
  have HN := Lib.hid h
  obtain ⟨-, -, -, -, l0, l1, n1, -⟩ := hs
  rcases s.lk_cases k with h0 | ⟨h0, j, rfl, hj⟩
  · rw [lose_bad h0]
    have HL := Lib.hid h0
    unfold ptrV
    clear h h0
    go_enter Try.func23, Try.ntmps23
    go_wp2_with (go_at_call 40; refine (lacks_any HN.out k).mono ?_; rintro e w1 ⟨rfl, rfl⟩; rw [HL.out])
    go_ret
    exact ⟨by rw [HL.out]; rfl, HN.out, Keeps.refl _ _⟩
  · have e1 : s.lose j = ⟨s.room, s.sent, s.came, s.lost + 1, s.ms.take j ++ s.ms.drop (j + 1)⟩ := by unfold St.lose; rw [if_pos h0, cut_nat s j]
    rw [e1]
    have HL := Lib.hid h0
    unfold ptrV
    clear h h0 e1
    go_enter Try.func23, Try.ntmps23
    go_wp2_with
      (first
       | (go_at_call 40; refine (lacks_any HN.out j).mono ?_; rintro e w1 ⟨rfl, rfl⟩; rw [HL.out])
       | (go_at_call 38
          refine (remove_any HN.out hj n1).mono ?_
          rintro e w1 ⟨rfl, hn, hk⟩
          obtain ⟨-, -, c2, -, -, f2⟩ := hn.cells
          have HN1 := Lib.hid (hn.lost (s.lost + 1))
          have HK1 := Lib.hid (hk.setCell (p := ⟨g, 2, none⟩) (.inl rfl) (.int .i64 (s.lost + 1)))
          clear hn hk))
    go_ret
    exact ⟨by rw [HL.out]; rfl, HN1.out, HK1.out⟩
theorem twice_nil (k : Int) (w : World) : Calls Try.prog 24 #[.pointer none, .int .i64 k] w fun e w' => e = .returned (.int .i64 1) ∧ w = w' := by
  go_enter Try.func24, Try.ntmps24
  go_wp2_with (go_at_call 40; refine (lacks_nil k _).mono ?_; rintro e w1 ⟨rfl, rfl⟩)
  go_ret
  exact ⟨rfl, rfl⟩
set_option maxHeartbeats 8000000 in
set_option maxRecDepth 100000 in
theorem twice_any {w : World} {g : Nat} {F : Nat → Prop} {s : St} (h : Nt w g F s) (hs : s.Ok) (k : Int) : Calls Try.prog 24 #[ptrV g, .int .i64 k] w (Chg g F (s.twice k) (s.twiceR k) w) := by
  have HN := Lib.hid h
  obtain ⟨s0, s1, -, -, -, -, n1, -⟩ := hs
  rcases s.lk_cases k with h0 | ⟨h0, j, rfl, hj⟩
  · have e1 : s.twice k = s := by unfold St.twice; rw [if_neg (by rw [h0]; decide)]
    have e2 : s.twiceR k = 10 := by unfold St.twiceR; rw [if_neg (by rw [h0]; decide), h0]
    rw [e1, e2]
    have HL := Lib.hid h0
    unfold ptrV
    clear h h0 e1 e2
    go_enter Try.func24, Try.ntmps24
    go_wp2_with (go_at_call 40; refine (lacks_any HN.out k).mono ?_; rintro e w1 ⟨rfl, rfl⟩; rw [HL.out])
    go_ret
    exact ⟨rfl, HN.out, Keeps.refl _ _⟩
  · have HL := Lib.hid h0
    rcases hf : s.full with _ | _
    · have e1 : s.twice j = ⟨s.room, s.sent + 1, s.came, s.lost, s.ms ++ [s.at j]⟩ := by unfold St.twice; rw [if_pos h0, hf]; rfl
      have e2 : s.twiceR j = 0 := by unfold St.twiceR; rw [if_pos h0, hf]; rfl
      rw [e1, e2, St.at_eq hj]
      have HF := Lib.hid hf
      have hj1 : (j : Int) < (s.ms.length : Int) := by omega
      unfold ptrV
      clear h h0 e1 e2 hf
      go_enter Try.func24, Try.ntmps24
      go_wp2_with
        (first
         | (go_at_call 40; refine (lacks_any HN.out j).mono ?_; rintro e w1 ⟨rfl, rfl⟩; rw [HL.out])
         | (go_at_call 35
            refine (full_any HN.out).mono ?_
            rintro e w2 ⟨rfl, n, rfl⟩
            rw [HF.out]
            have b2 := below_drewN' w n
            have N2 := HN.out.below b2
            obtain ⟨c0, -, -, f0, -, -⟩ := N2.cells
            have N3 := N2.sent (s.sent + 1)
            have HK3 := Lib.hid ((Keeps.of_below (F := only g) b2).setCell (p := ⟨g, 0, none⟩) (.inl rfl) (.int .i64 (s.sent + 1)))
            obtain ⟨v, Y, q⟩ := N3
            have HN3 := Lib.hid (show Nt _ g F _ from ⟨v, Y, q⟩)
            obtain ⟨b, o, c, ⟨p, x⟩, rfl, hb, hc, hp, hx⟩ := q.at hj
            have c4 := hold_cell q.blk 4 rfl
            have HP := Lib.hid hp
            have HX := Lib.hid hx
            dsimp only [ptrV] at hc c4
            clear b2 N2 q hb hp hx)
         | (go_at_call 37
            refine (put_any HN3.out HP.out n1).mono ?_
            rintro e w5 ⟨rfl, hn, hk⟩
            have HN5 := Lib.hid hn
            have HK5 := Lib.hid (HK3.out.trans hk (fun _ _ e => e))
            clear hn hk))
      go_ret
      have := HN5.out
      rw [HX.out] at this
      exact ⟨rfl, this, HK5.out⟩
    · have e1 : s.twice j = s := by unfold St.twice; rw [if_pos h0, hf]; rfl
      have e2 : s.twiceR j = 7 := by unfold St.twiceR; rw [if_pos h0, hf]; rfl
      rw [e1, e2]
      have HF := Lib.hid hf
      unfold ptrV
      clear h h0 e1 e2 hf
      go_enter Try.func24, Try.ntmps24
      go_wp2_with
        (first
         | (go_at_call 40; refine (lacks_any HN.out j).mono ?_; rintro e w1 ⟨rfl, rfl⟩; rw [HL.out])
         | (go_at_call 35
            refine (full_any HN.out).mono ?_
            rintro e w2 ⟨rfl, n, rfl⟩
            rw [HF.out]
            have HB2 := Lib.hid (below_drewN' w n)))
      go_ret
      exact ⟨rfl, HN.out.below HB2.out, Keeps.of_below HB2.out⟩
set_option maxHeartbeats 8000000 in
set_option maxRecDepth 100000 in
theorem take_nil (k : Int) (w : World) : Calls Try.prog 20 #[.pointer none, .int .i64 k] w (Lkd Mv.zero.m 1 w) := by
  have FH := Lib.hid (Hold.new w [.int .i64 0, .int .i64 0, .int .i64 0, .int .i64 0, .int .i64 0, .int .i64 0, .int .i64 0, .int .i64 0, .int .i64 0, .int .i64 0, .int .i64 0, .int .i64 0, .int .i64 0, .int .i64 0, .int .i64 0, .int .i64 0, .int .i64 0, .int .i64 0, .slice none 0 0, .slice none 0 0, .bool false, .int .i64 0, .int .i64 0, .int .i64 0, .int .i64 0, .int .i64 0, .int .i64 0, .int .i64 0, .int .i64 0, .bool false] 49)
  have B0 := Lib.hid (below_new (o := .cells #[.int .i64 0, .int .i64 0, .int .i64 0, .int .i64 0, .int .i64 0, .int .i64 0, .int .i64 0, .int .i64 0, .int .i64 0, .int .i64 0, .int .i64 0, .int .i64 0, .int .i64 0, .int .i64 0, .int .i64 0, .int .i64 0, .int .i64 0, .int .i64 0, .slice none 0 0, .slice none 0 0, .bool false, .int .i64 0, .int .i64 0, .int .i64 0, .int .i64 0, .int .i64 0, .int .i64 0, .int .i64 0, .int .i64 0, .bool false] 49) (Below.refl w.heap.size w))
  go_enter Try.func20, Try.ntmps20
  go_wp2_with
    (first
     | (go_at_call 22
        refine (look_nil k _).mono ?_
        rintro e w1 ⟨x, rfl, hx, ho, hb⟩
        have HE := Lib.hid hx
        have HO := Lib.hid ho
        have b2 := below_new (o := .cells x.cells.toArray 49) hb
        have HX2 := Lib.hid (Hold.new w1 x.cells 49).cel.whole
        have TH := Lib.hid (show (w1.alloc (.cells x.cells.toArray 49)).there w.heap.size 0 x.cells.length from (FH.out.on b2).there (by show 0 + 30 ≤ 30; omega))
        have RH := Lib.hid (Hold.set x.cells [] [.int .i64 0, .int .i64 0, .int .i64 0, .int .i64 0, .int .i64 0, .int .i64 0, .int .i64 0, .int .i64 0, .int .i64 0, .int .i64 0, .int .i64 0, .int .i64 0, .int .i64 0, .int .i64 0, .int .i64 0, .int .i64 0, .int .i64 0, .int .i64 0, .slice none 0 0, .slice none 0 0, .bool false, .int .i64 0, .int .i64 0, .int .i64 0, .int .i64 0, .int .i64 0, .int .i64 0, .int .i64 0, .int .i64 0, .bool false] [] rfl _ (FH.out.on b2))
        have B2 := Lib.hid (below_setCells (Nat.le_refl _) x.cells 0 w _ (below_on B0.out b2))
        clear hx ho hb b2)
     | (with_reducible refine wpList_store_fresh rfl 49 _ _ rfl _ rfl 49 _ x.cells rfl rfl rfl (mv_size _) HO.out.one ?_)
     | (with_reducible refine wpList_load_mid rfl 49 _ rfl _ 0 rfl _ _ HX2.out Try.underlying49 rfl (mv_size _) ?_)
     | (with_reducible refine store_list rfl 49 _ _ rfl w.heap.size 0 x.cells rfl rfl TH.out (mv_size _) HO.out.one ?_))
  refine bodyPost_ret (results_cv rfl rfl rfl RH.out.cel.whole _ Try.underlying49 rfl (by kernel_rfl)) rfl ?_
  exact ⟨x, by simp only [List.nil_append, List.append_nil]; rfl, HE.out, ownM_base (ownM_put (ownM_push HO.out _) (by simp) _ _) (by simp), B2.out⟩
set_option maxHeartbeats 8000000 in
set_option maxRecDepth 100000 in
theorem take_any {w : World} {g : Nat} {F : Nat → Prop} {s : St} (h : Nt w g F s) (hs : s.Ok) (k : Int) : Calls Try.prog 20 #[ptrV g, .int .i64 k] w (Tkd g F (s.take k) (s.at k) (s.lk k) w) := by
  have FH := Lib.hid (Hold.new w [.int .i64 0, .int .i64 0, .int .i64 0, .int .i64 0, .int .i64 0, .int .i64 0, .int .i64 0, .int .i64 0, .int .i64 0, .int .i64 0, .int .i64 0, .int .i64 0, .int .i64 0, .int .i64 0, .int .i64 0, .int .i64 0, .int .i64 0, .int .i64 0, .slice none 0 0, .slice none 0 0, .bool false, .int .i64 0, .int .i64 0, .int .i64 0, .int .i64 0, .int .i64 0, .int .i64 0, .int .i64 0, .int .i64 0, .bool false] 49)
  have B0 := Lib.hid (below_new (o := .cells #[.int .i64 0, .int .i64 0, .int .i64 0, .int .i64 0, .int .i64 0, .int .i64 0, .int .i64 0, .int .i64 0, .int .i64 0, .int .i64 0, .int .i64 0, .int .i64 0, .int .i64 0, .int .i64 0, .int .i64 0, .int .i64 0, .int .i64 0, .int .i64 0, .slice none 0 0, .slice none 0 0, .bool false, .int .i64 0, .int .i64 0, .int .i64 0, .int .i64 0, .int .i64 0, .int .i64 0, .int .i64 0, .int .i64 0, .bool false] 49) (Below.refl w.heap.size w))
  have hg := h.lt
  have H0 := Lib.hid h
  have HN := Lib.hid (show Nt (w.alloc (.cells #[.int .i64 0, .int .i64 0, .int .i64 0, .int .i64 0, .int .i64 0, .int .i64 0, .int .i64 0, .int .i64 0, .int .i64 0, .int .i64 0, .int .i64 0, .int .i64 0, .int .i64 0, .int .i64 0, .int .i64 0, .int .i64 0, .int .i64 0, .int .i64 0, .slice none 0 0, .slice none 0 0, .bool false, .int .i64 0, .int .i64 0, .int .i64 0, .int .i64 0, .int .i64 0, .int .i64 0, .int .i64 0, .int .i64 0, .bool false] 49)) g (Or1 w.heap.size F) s from h.step (K := fun _ => False) (Keeps.of_below B0.out) (fun _ e => e.elim) (fun x e => e.elim (fun e => .inr (by omega)) .inl) (fun x e => e.elim (fun e => by rw [e]; simp) (fun e => by obtain ⟨v, Y, q⟩ := h; have := q.lt x e; simp; omega)))
  obtain ⟨-, -, k0, k1, -, -, n1, hsm⟩ := hs
  have HM := Lib.hid hsm
  rcases s.lk_cases k with h0 | ⟨h0, j, rfl, hj⟩
  · rw [take_bad h0, St.at_no h0]
    have HL := Lib.hid h0
    unfold ptrV
    clear h h0 hsm
    go_enter Try.func20, Try.ntmps20
    go_wp2_with
      (first
       | (go_at_call 22
          refine (look_any HN.out HM.out k).mono ?_
          rintro e w1 ⟨x, rfl, hx, ho, hb⟩
          rw [HL.out]
          have HE := Lib.hid (hx.trans (St.at_no HL.out))
          have HO := Lib.hid ho
          have b2 := below_new (o := .cells x.cells.toArray 49) hb
          have HX2 := Lib.hid (Hold.new w1 x.cells 49).cel.whole
          have TH := Lib.hid (show (w1.alloc (.cells x.cells.toArray 49)).there w.heap.size 0 x.cells.length from (FH.out.on b2).there (by show 0 + 30 ≤ 30; omega))
          have RH := Lib.hid (Hold.set x.cells [] [.int .i64 0, .int .i64 0, .int .i64 0, .int .i64 0, .int .i64 0, .int .i64 0, .int .i64 0, .int .i64 0, .int .i64 0, .int .i64 0, .int .i64 0, .int .i64 0, .int .i64 0, .int .i64 0, .int .i64 0, .int .i64 0, .int .i64 0, .int .i64 0, .slice none 0 0, .slice none 0 0, .bool false, .int .i64 0, .int .i64 0, .int .i64 0, .int .i64 0, .int .i64 0, .int .i64 0, .int .i64 0, .int .i64 0, .bool false] [] rfl _ (FH.out.on b2))
          have B2 := Lib.hid (below_setCells (Nat.le_refl _) x.cells 0 w _ (below_on B0.out b2))
          clear hx ho hb b2)
       | (with_reducible refine wpList_store_fresh rfl 49 _ _ rfl _ rfl 49 _ x.cells rfl rfl rfl (mv_size _) HO.out.one ?_)
       | (with_reducible refine wpList_load_mid rfl 49 _ rfl _ 0 rfl _ _ HX2.out Try.underlying49 rfl (mv_size _) ?_)
       | (with_reducible refine store_list rfl 49 _ _ rfl w.heap.size 0 x.cells rfl rfl TH.out (mv_size _) HO.out.one ?_))
    refine bodyPost_ret (results_cv rfl rfl rfl RH.out.cel.whole _ Try.underlying49 rfl (by kernel_rfl)) rfl ?_
    exact ⟨x, by rw [HL.out]; simp only [List.nil_append, List.append_nil]; rfl, HE.out, ownM_base (ownM_put (ownM_push HO.out _) (by simp) _ _) (by simp), H0.out.below B2.out, Keeps.of_below B2.out⟩
  · have e1 : s.take j = ⟨s.room, s.sent, s.came + 1, s.lost, s.ms.take j ++ s.ms.drop (j + 1)⟩ := by unfold St.take; rw [if_pos h0, cut_nat s j]
    rw [e1]
    have HL := Lib.hid h0
    unfold ptrV
    clear h h0 hsm e1
    go_enter Try.func20, Try.ntmps20
    go_wp2_with
      (first
       | (go_at_call 22
          refine (look_any HN.out HM.out j).mono ?_
          rintro e w1 ⟨x, rfl, hx, ho, hb⟩
          rw [HL.out]
          have HE := Lib.hid hx
          have HO := Lib.hid ho
          have b2 := below_new (o := .cells x.cells.toArray 49) hb
          have HN2 := Lib.hid (HN.out.below b2)
          have HX2 := Lib.hid (Hold.new w1 x.cells 49)
          have HF2 := Lib.hid (FH.out.on b2)
          have HK2 := Lib.hid (Keeps.of_below (F := only g) (below_on B0.out b2))
          have HS := Lib.hid (show w.heap.size + 1 ≤ w1.heap.size from by have := hb.size; simp at this; omega)
          clear hx ho hb b2)
       | (go_at_call 38
          refine (remove_any HN2.out hj n1).mono ?_
          rintro e w3 ⟨rfl, hn, hk⟩
          obtain ⟨-, c1, -, -, f1, -⟩ := hn.cells
          have HN4 := Lib.hid (hn.came (s.came + 1))
          have k4 := hk.setCell (p := ⟨g, 1, none⟩) (.inl rfl) (.int .i64 (s.came + 1))
          have HK4 := Lib.hid k4
          have ng : ¬ only g w1.heap.size := fun e => by unfold only at e; have := HS.out; omega
          have ng' : ¬ only g w.heap.size := fun e => by unfold only at e; omega
          have HX4 := Lib.hid (hold_keeps HX2.out k4 ng).cel.whole
          have q4 := hold_keeps HF2.out k4 ng'
          have TH := Lib.hid (show (w3.setCell ⟨g, 1, none⟩ (.int .i64 (s.came + 1))).there w.heap.size 0 x.cells.length from q4.there (by show 0 + 30 ≤ 30; omega))
          have RH := Lib.hid (Hold.set x.cells [] [.int .i64 0, .int .i64 0, .int .i64 0, .int .i64 0, .int .i64 0, .int .i64 0, .int .i64 0, .int .i64 0, .int .i64 0, .int .i64 0, .int .i64 0, .int .i64 0, .int .i64 0, .int .i64 0, .int .i64 0, .int .i64 0, .int .i64 0, .int .i64 0, .slice none 0 0, .slice none 0 0, .bool false, .int .i64 0, .int .i64 0, .int .i64 0, .int .i64 0, .int .i64 0, .int .i64 0, .int .i64 0, .int .i64 0, .bool false] [] rfl _ q4)
          have B5 := Lib.hid (below_setCells (Nat.le_refl _) x.cells 0 _ _ (Below.refl w.heap.size (w3.setCell ⟨g, 1, none⟩ (.int .i64 (s.came + 1)))))
          clear hn hk k4 ng ng' q4)
       | (with_reducible refine wpList_store_fresh rfl 49 _ _ rfl _ rfl 49 _ x.cells rfl rfl rfl (mv_size _) HO.out.one ?_)
       | (with_reducible refine wpList_load_mid rfl 49 _ rfl _ 0 rfl _ _ HX4.out Try.underlying49 rfl (mv_size _) ?_)
       | (with_reducible refine store_list rfl 49 _ _ rfl w.heap.size 0 x.cells rfl rfl TH.out (mv_size _) HO.out.one ?_))
    refine bodyPost_ret (results_cv rfl rfl rfl RH.out.cel.whole _ Try.underlying49 rfl (by kernel_rfl)) rfl ?_
    have hs1 := HS.out
    have hz : w1.heap.size + 1 ≤ (w3.setCell ⟨g, 1, none⟩ (.int .i64 (s.came + 1))).heap.size := by have := HK4.out.size; simpa using this
    have hko := ownM_keeps (ownM_push HO.out (.cells x.cells.toArray 49)) HK4.out (fun y e => by unfold only at e; simp; omega)
    have k5 := keeps_puts x.cells 0 (b := w.heap.size) (w := w3.setCell ⟨g, 1, none⟩ (.int .i64 (s.came + 1)))
    refine ⟨x, by rw [HL.out]; simp only [List.nil_append, List.append_nil]; rfl, HE.out, ownM_base (ownM_put hko (by simp) _ _) (by simp), ?_, ?_⟩
    · exact (HN4.out.step k5 (fun x e => .inl e) (fun _ e => .inl e) (fun x e => Nat.lt_of_lt_of_le (HN4.out.ltall x (.inr e)) k5.size)).sub (fun _ e => .inr e)
    · exact (HK2.out.trans HK4.out (fun _ _ e => e)).trans k5 (fun y hy e => by unfold only at e; omega)
end Go.Proofs.Ytnahboflpipfpaa
