/- A step of both: Take; no conditions but those that it names. -/
import Derived.Test.YtnahboflpipfpaaDsx
namespace Go.Proofs.Ytnahboflpipfpaa
open Go.ChangeShapes Go.WideShapes Go.ChangeAt Go.RowKit

set_option maxHeartbeats 16000000 in
set_option maxRecDepth 100000 in
theorem does_take {w : World} {g : Nat} {F : Nat → Prop} {s : St} {v : Value} {d : Dv} (h : Nt w g F s) (hv : Dv0 (Or1 g F) w v s) (ht : Txt (Or1 g F) w d.x) (hs : s.Ok) (h0 : d.vb = 2) : Calls Try.prog 13 #[ptrV g, .agg (dnL s v).toArray, .agg d.cells.toArray] w (Dsr g F (s.take d.k) w) := by
  obtain ⟨A, c, rfl⟩ := hv.slice
  obtain ⟨vb, kk, dx⟩ := d
  dsimp only at h0 ht
  subst h0
  show Calls Try.prog 13 _ w (Dsr g F (s.take kk) w)
  have HB := Lib.hid (beg_of (d := ⟨2, kk, dx⟩) h hv ht)
  have c0 : World.cell? _ ⟨w.heap.size + 1, 0, none⟩ = some (.int .i64 2) := hold_cell HB.out.hx 0 rfl
  have k1 : World.cell? _ ⟨w.heap.size + 1, 1, none⟩ = some (.int .i64 kk) := hold_cell HB.out.hx 1 rfl
  have HM := Lib.hid (St.at_mod hs kk)
  have HS := Lib.hid hs
  obtain ⟨W, hW⟩ : ∃ W, W = (((w.alloc (.cells (([.int .i64 s.room, (.slice A s.ms.length c), .int .i64 s.sent, .int .i64 s.came, .int .i64 s.lost] : List Value)).toArray 29)).alloc (.cells (Dv.cells ⟨2, kk, dx⟩).toArray 51)).alloc (.cells (([.int .i64 0, .slice none 0 0, .int .i64 0, .int .i64 0, .int .i64 0] : List Value)).toArray 29)) := ⟨_, rfl⟩
  have HBW := Lib.hid (show Beg w W g F s A c ⟨2, kk, dx⟩ by rw [hW]; exact HB.out)
  have HWE := Lib.hid hW
  have LK := Lib.hid (take_any HB.out.nt hs kk)
  unfold ptrV dnL
  unfold ptrV at LK
  clear h hv ht hs hW HB
  go_enter Try.func13, Try.ntmps13
  go_wp2_with (fail)
  refine LK.out.mono ?_
  rintro e w1 ⟨x, rfl, hx, ho, hn1, hk1⟩
  rw [← HWE.out] at ho hk1
  have HX := Lib.hid hx
  have HO := Lib.hid ho
  have hgl := HBW.out.gl
  have hsz := HBW.out.sz
  have hz1 : W.heap.size ≤ w1.heap.size := hk1.size
  have bn := below_new (o := .cells x.cells.toArray 49) (Below.refl w1.heap.size w1)
  have kW := hk1.trans (Keeps.of_below (F := only g) bn) (fun _ _ e => e)
  have HKW := Lib.hid kW
  have HN2 := Lib.hid (hn1.below bn)
  have HX2 := Lib.hid (Hold.new w1 x.cells 49)
  have HOW := Lib.hid (ownM_push ho (.cells x.cells.toArray 49))
  have LA2 := Lib.hid (hold_keeps HBW.out.hd kW (fun e => by unfold only at e; omega)).cel.whole
  have k2 : World.cell? _ ⟨w.heap.size + 1, 1, none⟩ = some (.int .i64 kk) := hold_cell (hold_keeps HBW.out.hx kW (fun e => by unfold only at e; omega)) 1 rfl
  have HR2 := Lib.hid (hold_keeps HBW.out.hr kW (fun e => by unfold only at e; omega))
  have HD2 := Lib.hid (HBW.out.dv.step kW (fun x e => .inl e) (fun _ e => .inl e))
  have LQ := Lib.hid (dtake_any HD2.out (fun y f => Nat.lt_of_lt_of_le (HBW.out.nt.ltall y f) kW.size) HS.out kk)
  unfold dnL at LQ
  clear hx ho hn1 hk1 bn kW LK c0 k1
  go_wp2_with (first
    | (with_reducible refine wpList_store_fresh rfl 49 _ _ rfl _ rfl 49 _ x.cells rfl rfl rfl (mv_size _) HO.out.one ?_)
    | (with_reducible refine wpList_load_mid rfl 29 _ rfl w.heap.size 0 rfl _ _ LA2.out Try.underlying29 rfl (by kernel_rfl) ?_)
    | fail)
  refine LQ.out.mono ?_
  rintro e w3 ⟨v1, y, rfl, hy, ht3, hv3, hb3⟩
  obtain ⟨A1, c1, rfl⟩ := hv3.slice
  generalize hs1 : s.take kk = s1 at *
  generalize hlk : s.lk kk = lk at *
  generalize hn1 : s1.ms.length = n1 at *
  have b4 : Below w3.heap.size w3 ((w3.alloc (.cells (([.int .i64 0, .slice none 0 0, .int .i64 0, .int .i64 0, .int .i64 0] : List Value)).toArray 29)).alloc (.cells #[.int .i64 0, .int .i64 0, .int .i64 0, .int .i64 0, .int .i64 0, .int .i64 0, .int .i64 0, .int .i64 0, .int .i64 0, .int .i64 0, .int .i64 0, .int .i64 0, .int .i64 0, .int .i64 0, .int .i64 0, .int .i64 0, .int .i64 0, .int .i64 0, .slice none 0 0, .slice none 0 0, .bool false, .int .i64 0, .int .i64 0, .int .i64 0, .int .i64 0, .int .i64 0, .int .i64 0, .int .i64 0, .int .i64 0, .bool false] 49)) := below_new (below_new (Below.refl _ _))
  have h22 := (Hold.new w3 ([.int .i64 0, .slice none 0 0, .int .i64 0, .int .i64 0, .int .i64 0] : List Value) 29).on (below_new (o := .cells #[.int .i64 0, .int .i64 0, .int .i64 0, .int .i64 0, .int .i64 0, .int .i64 0, .int .i64 0, .int .i64 0, .int .i64 0, .int .i64 0, .int .i64 0, .int .i64 0, .int .i64 0, .int .i64 0, .int .i64 0, .int .i64 0, .int .i64 0, .int .i64 0, .slice none 0 0, .slice none 0 0, .bool false, .int .i64 0, .int .i64 0, .int .i64 0, .int .i64 0, .int .i64 0, .int .i64 0, .int .i64 0, .int .i64 0, .bool false] 49) (Below.refl _ _))
  have h23 := hold_new1 w3 (.cells (([.int .i64 0, .slice none 0 0, .int .i64 0, .int .i64 0, .int .i64 0] : List Value)).toArray 29) [.int .i64 0, .int .i64 0, .int .i64 0, .int .i64 0, .int .i64 0, .int .i64 0, .int .i64 0, .int .i64 0, .int .i64 0, .int .i64 0, .int .i64 0, .int .i64 0, .int .i64 0, .int .i64 0, .int .i64 0, .int .i64 0, .int .i64 0, .int .i64 0, .slice none 0 0, .slice none 0 0, .bool false, .int .i64 0, .int .i64 0, .int .i64 0, .int .i64 0, .int .i64 0, .int .i64 0, .int .i64 0, .int .i64 0, .bool false] 49
  have kq := keeps_puts ([.int .i64 s1.room, .slice A1 n1 c1, .int .i64 s1.sent, .int .i64 s1.came, .int .i64 s1.lost] : List Value) 0 (b := w3.heap.size) (w := (w3.alloc (.cells (([.int .i64 0, .slice none 0 0, .int .i64 0, .int .i64 0, .int .i64 0] : List Value)).toArray 29)).alloc (.cells #[.int .i64 0, .int .i64 0, .int .i64 0, .int .i64 0, .int .i64 0, .int .i64 0, .int .i64 0, .int .i64 0, .int .i64 0, .int .i64 0, .int .i64 0, .int .i64 0, .int .i64 0, .int .i64 0, .int .i64 0, .int .i64 0, .int .i64 0, .int .i64 0, .slice none 0 0, .slice none 0 0, .bool false, .int .i64 0, .int .i64 0, .int .i64 0, .int .i64 0, .int .i64 0, .int .i64 0, .int .i64 0, .int .i64 0, .bool false] 49))
  have T22 := Lib.hid (show World.there _ w3.heap.size 0 ([.int .i64 s1.room, .slice A1 n1 c1, .int .i64 s1.sent, .int .i64 s1.came, .int .i64 s1.lost] : List Value).length from h22.there (by show 0 + 5 ≤ 5; omega))
  have l22 : Hold (((w3.alloc (.cells (([.int .i64 0, .slice none 0 0, .int .i64 0, .int .i64 0, .int .i64 0] : List Value)).toArray 29)).alloc (.cells #[.int .i64 0, .int .i64 0, .int .i64 0, .int .i64 0, .int .i64 0, .int .i64 0, .int .i64 0, .int .i64 0, .int .i64 0, .int .i64 0, .int .i64 0, .int .i64 0, .int .i64 0, .int .i64 0, .int .i64 0, .int .i64 0, .int .i64 0, .int .i64 0, .slice none 0 0, .slice none 0 0, .bool false, .int .i64 0, .int .i64 0, .int .i64 0, .int .i64 0, .int .i64 0, .int .i64 0, .int .i64 0, .int .i64 0, .bool false] 49)).setCells w3.heap.size 0 ([.int .i64 s1.room, .slice A1 n1 c1, .int .i64 s1.sent, .int .i64 s1.came, .int .i64 s1.lost] : List Value)) w3.heap.size 29 ([.int .i64 s1.room, .slice A1 n1 c1, .int .i64 s1.sent, .int .i64 s1.came, .int .i64 s1.lost] : List Value) := Hold.set ([.int .i64 s1.room, .slice A1 n1 c1, .int .i64 s1.sent, .int .i64 s1.came, .int .i64 s1.lost] : List Value) [] ([.int .i64 0, .slice none 0 0, .int .i64 0, .int .i64 0, .int .i64 0] : List Value) [] rfl _ h22
  have h23b := hold_keeps h23 kq (fun e => by unfold only at e; omega)
  have T23 := Lib.hid (show World.there _ (w3.heap.size + 1) 0 y.cells.length from h23b.there (by show 0 + 30 ≤ 30; omega))
  have kr := keeps_puts y.cells 0 (b := w3.heap.size + 1) (w := ((w3.alloc (.cells (([.int .i64 0, .slice none 0 0, .int .i64 0, .int .i64 0, .int .i64 0] : List Value)).toArray 29)).alloc (.cells #[.int .i64 0, .int .i64 0, .int .i64 0, .int .i64 0, .int .i64 0, .int .i64 0, .int .i64 0, .int .i64 0, .int .i64 0, .int .i64 0, .int .i64 0, .int .i64 0, .int .i64 0, .int .i64 0, .int .i64 0, .int .i64 0, .int .i64 0, .int .i64 0, .slice none 0 0, .slice none 0 0, .bool false, .int .i64 0, .int .i64 0, .int .i64 0, .int .i64 0, .int .i64 0, .int .i64 0, .int .i64 0, .int .i64 0, .bool false] 49)).setCells w3.heap.size 0 ([.int .i64 s1.room, .slice A1 n1 c1, .int .i64 s1.sent, .int .i64 s1.came, .int .i64 s1.lost] : List Value))
  have l23 : Hold ((((w3.alloc (.cells (([.int .i64 0, .slice none 0 0, .int .i64 0, .int .i64 0, .int .i64 0] : List Value)).toArray 29)).alloc (.cells #[.int .i64 0, .int .i64 0, .int .i64 0, .int .i64 0, .int .i64 0, .int .i64 0, .int .i64 0, .int .i64 0, .int .i64 0, .int .i64 0, .int .i64 0, .int .i64 0, .int .i64 0, .int .i64 0, .int .i64 0, .int .i64 0, .int .i64 0, .int .i64 0, .slice none 0 0, .slice none 0 0, .bool false, .int .i64 0, .int .i64 0, .int .i64 0, .int .i64 0, .int .i64 0, .int .i64 0, .int .i64 0, .int .i64 0, .bool false] 49)).setCells w3.heap.size 0 ([.int .i64 s1.room, .slice A1 n1 c1, .int .i64 s1.sent, .int .i64 s1.came, .int .i64 s1.lost] : List Value)).setCells (w3.heap.size + 1) 0 y.cells) (w3.heap.size + 1) 49 y.cells := by
    have := Hold.set y.cells [] [.int .i64 0, .int .i64 0, .int .i64 0, .int .i64 0, .int .i64 0, .int .i64 0, .int .i64 0, .int .i64 0, .int .i64 0, .int .i64 0, .int .i64 0, .int .i64 0, .int .i64 0, .int .i64 0, .int .i64 0, .int .i64 0, .int .i64 0, .int .i64 0, .slice none 0 0, .slice none 0 0, .bool false, .int .i64 0, .int .i64 0, .int .i64 0, .int .i64 0, .int .i64 0, .int .i64 0, .int .i64 0, .int .i64 0, .bool false] [] rfl _ (by simpa using h23b)
    simpa using this
  have l22b := hold_keeps l22 kr (fun e => by unfold only at e; omega)
  have b6 := (b4.trans (kq.below (fun x e => by unfold only at e; omega) b4.size)).trans (kr.below (fun x e => by unfold only at e; omega) (Nat.le_trans b4.size kq.size))
  have H22 := Lib.hid l22b
  have H23 := Lib.hid l23
  have B6 := Lib.hid b6
  have B26 := Lib.hid (hb3.trans (b6.mono hb3.size))
  have OY := Lib.hid ht3.one
  have HY := Lib.hid hy
  have HT6 := Lib.hid (ht3.below b6)
  have HV6 := Lib.hid (hv3.below b6)
  have HSZ3 := Lib.hid (show w1.heap.size < w3.heap.size from Nat.lt_of_lt_of_le (hold_lt HX2.out) hb3.size)
  clear hs1 hlk hn1 hy ht3 hv3 hb3 b4 h22 h23 kq l22 h23b kr l23 l22b b6 LQ k2
  go_wp2_with (first
    | (with_reducible refine store_list rfl 29 _ _ rfl w3.heap.size 0 ([.int .i64 s1.room, .slice A1 n1 c1, .int .i64 s1.sent, .int .i64 s1.came, .int .i64 s1.lost] : List Value) rfl rfl T22.out (by kernel_rfl) rfl ?_)
    | (with_reducible refine store_list rfl 49 _ _ rfl (w3.heap.size + 1) 0 y.cells rfl rfl T23.out (mv_size _) OY.out ?_)
    | fail)
  obtain ⟨X, hX⟩ : ∃ X, X = ((((w3.alloc (.cells (([.int .i64 0, .slice none 0 0, .int .i64 0, .int .i64 0, .int .i64 0] : List Value)).toArray 29)).alloc (.cells #[.int .i64 0, .int .i64 0, .int .i64 0, .int .i64 0, .int .i64 0, .int .i64 0, .int .i64 0, .int .i64 0, .int .i64 0, .int .i64 0, .int .i64 0, .int .i64 0, .int .i64 0, .int .i64 0, .int .i64 0, .int .i64 0, .int .i64 0, .int .i64 0, .slice none 0 0, .slice none 0 0, .bool false, .int .i64 0, .int .i64 0, .int .i64 0, .int .i64 0, .int .i64 0, .int .i64 0, .int .i64 0, .int .i64 0, .bool false] 49)).setCells w3.heap.size 0 ([.int .i64 s1.room, .slice A1 n1 c1, .int .i64 s1.sent, .int .i64 s1.came, .int .i64 s1.lost] : List Value)).setCells (w3.heap.size + 1) 0 y.cells).drew := ⟨_, rfl⟩
  have bX := B26.out.drew
  rw [← hX] at bX
  have x22 : Hold X w3.heap.size 29 ([.int .i64 s1.room, .slice A1 n1 c1, .int .i64 s1.sent, .int .i64 s1.came, .int .i64 s1.lost] : List Value) := by rw [hX]; exact H22.out.on (below_drew _)
  have x23 : Hold X (w3.heap.size + 1) 49 y.cells := by rw [hX]; exact H23.out.on (below_drew _)
  have x20 := HX2.out.on bX
  have xr := HR2.out.on bX
  have xn := HN2.out.below bX
  have xv : Dv0 (Or1 g (Fb F w.heap.size 3)) X (.slice A1 n1 c1) s1 := by rw [hX]; exact HV6.out.below (below_drew _)
  have xt : Txt (Or1 g (Fb F w.heap.size 3)) X y := by rw [hX]; exact HT6.out.below (below_drew _)
  have xo := (ownM_keeps (K := fun _ => False) HOW.out (Keeps.of_below bX) (fun _ e => e.elim)).txt (F := fun _ => False) (fun _ e => e.elim)
  have CS := Lib.hid (dsame_mv (x := x) (y := y) xo.rs xo.ws xt.rs xt.ws (by rw [HX.out]; exact HM.out) (HX.out.trans HY.out.symm))
  have hs3 := HSZ3.out
  refine wp_region_held_drew (S := fun w' => w'.rangeAt w3.heap.size 0 ([.int .i64 s1.room, .slice A1 n1 c1, .int .i64 s1.sent, .int .i64 s1.came, .int .i64 s1.lost] : List Value) ∧ w'.rangeAt w1.heap.size 0 x.cells ∧ w'.rangeAt (w3.heap.size + 1) 0 y.cells) (by kernel_rfl) (by rw [← hX]; exact ⟨x22.cel.whole, x20.cel.whole, x23.cel.whole⟩) (fun hHeld => ?_)
  rw [← hX] at hHeld ⊢
  clear hX
  refine wpAnyH_take (i := 0) (oi := ⟨some 137, .load 29 (.tmp 22), 29, _, _, none⟩) (v := .agg (([.int .i64 s1.room, .slice A1 n1 c1, .int .i64 s1.sent, .int .i64 s1.came, .int .i64 s1.lost] : List Value)).toArray) rfl (by kernel_rfl) (by kernel_rfl) (by kernel_rfl) (fun _ _ _ h => h) (yieldsIf_load_mid (by rfl) 29 _ rfl w3.heap.size 0 rfl ([.int .i64 s1.room, .slice A1 n1 c1, .int .i64 s1.sent, .int .i64 s1.came, .int .i64 s1.lost] : List Value) _ (fun w hSw => hSw.1) Try.underlying29 rfl (by kernel_rfl)) (by assumption) ?_
  (try simp only [Act.put]); (try simp only [List.setIfInBounds_toArray]); (try simp only [List.set_cons_succ]); (try simp only [List.set_cons_zero])
  refine wpAnyH_take (i := 1) (oi := ⟨some 138, .move (.tmp 21), 62, _, _, none⟩) (v := ?_) rfl (by kernel_rfl) (by kernel_rfl) (by kernel_rfl) (fun _ _ _ h => h) (Or.inl ⟨by rfl, ?_⟩) (by assumption) ?_
  rotate_left
  · (intro w hSw; (try dsimp only at hSw); go_split_ands; go_simp; (try with_reducible rfl))
  (try simp only [Act.put]); (try simp only [List.setIfInBounds_toArray]); (try simp only [List.set_cons_succ]); (try simp only [List.set_cons_zero])
  refine wpAnyH_take (i := 2) (oi := ⟨some 139, .move (.tmp 24), 62, _, _, none⟩) (v := ?_) rfl (by kernel_rfl) (by kernel_rfl) (by kernel_rfl) (fun _ _ _ h => h) (Or.inl ⟨by rfl, ?_⟩) (by assumption) ?_
  rotate_left
  · (intro w hSw; (try dsimp only at hSw); go_split_ands; go_simp; (try with_reducible rfl))
  (try simp only [Act.put]); (try simp only [List.setIfInBounds_toArray]); (try simp only [List.set_cons_succ]); (try simp only [List.set_cons_zero])
  refine wpAnyH_take (i := 3) (oi := ⟨some 140, .binOp .eql 62 (.tmp 138) (.tmp 139) 62, 4, _, _, none⟩) (v := ?_) rfl (by kernel_rfl) (by kernel_rfl) (by kernel_rfl) (fun _ _ _ h => h) (Or.inl ⟨by rfl, ?_⟩) (by assumption) ?_
  rotate_left
  · (intro w hSw; (try dsimp only at hSw); go_split_ands; go_simp; (try with_reducible rfl))
  (try simp only [Act.put]); (try simp only [List.setIfInBounds_toArray]); (try simp only [List.set_cons_succ]); (try simp only [List.set_cons_zero])
  refine wpAnyH_take (i := 4) (oi := ⟨some 141, .move (.tmp 140), 4, _, _, none⟩) (v := ?_) rfl (by kernel_rfl) (by kernel_rfl) (by kernel_rfl) (fun _ _ _ h => h) (Or.inl ⟨by rfl, ?_⟩) (by assumption) ?_
  rotate_left
  · (intro w hSw; (try dsimp only at hSw); go_split_ands; go_simp; (try with_reducible rfl))
  (try simp only [Act.put]); (try simp only [List.setIfInBounds_toArray]); (try simp only [List.set_cons_succ]); (try simp only [List.set_cons_zero])
  refine wpAnyH_take (i := 5) (oi := ⟨some 142, .load 49 (.tmp 20), 49, _, _, some (4, true)⟩) (v := .agg (x.cells).toArray) rfl (by kernel_rfl) (by kernel_rfl) (by kernel_rfl) (fun _ _ _ h => h) (yieldsIf_load_mid (by rfl) 49 _ rfl w1.heap.size 0 rfl x.cells _ (fun w hSw => hSw.2.1) Try.underlying49 rfl (mv_size x)) (by assumption) ?_
  (try simp only [Act.put]); (try simp only [List.setIfInBounds_toArray]); (try simp only [List.set_cons_succ]); (try simp only [List.set_cons_zero])
  refine wpAnyH_take (i := 6) (oi := ⟨some 143, .load 49 (.tmp 23), 49, _, _, some (4, true)⟩) (v := .agg (y.cells).toArray) rfl (by kernel_rfl) (by kernel_rfl) (by kernel_rfl) (fun _ _ _ h => h) (yieldsIf_load_mid (by rfl) 49 _ rfl (w3.heap.size + 1) 0 rfl y.cells _ (fun w hSw => hSw.2.2) Try.underlying49 rfl (mv_size y)) (by assumption) ?_
  (try simp only [Act.put]); (try simp only [List.setIfInBounds_toArray]); (try simp only [List.set_cons_succ]); (try simp only [List.set_cons_zero])
  refine wpAnyH_ready (rs := [7]) (by kernel_rfl) (by simp) ?_
  refine AllReadyH.cons (o := ⟨some 144, .call { callee := .value (.func 21), args := #[.tmp 142, .tmp 143], argTypes := #[49, 49] }, 4, _, _, some (4, true)⟩) rfl (fun K hK => ?_) AllReadyH.nil
  go_simp
  refine CS.out.mono ?_
  rintro e w7 ⟨rfl, hb7⟩
  have y22 := x22.on hb7
  have y20 := x20.on hb7
  have y23 := x23.on hb7
  have yr := xr.on hb7
  have yn := xn.below hb7
  have yv := xv.below hb7
  try go_simp
  refine hK.out _ _ (by exact ⟨y22.cel.whole, y20.cel.whole, y23.cel.whole⟩) (fun hHeld => ?_)
  clear hK K
  (try simp only [Act.put]); (try simp only [List.setIfInBounds_toArray]); (try simp only [List.set_cons_succ]); (try simp only [List.set_cons_zero])
  refine wpAnyH_take (i := 8) (oi := ⟨some 145, .pick (.tmp 141) (.tmp 144) (.const (.bool false)), 4, _, _, none⟩) (v := ?_) rfl (by kernel_rfl) (by kernel_rfl) (by kernel_rfl) (fun _ _ _ h => h) (Or.inl ⟨by rfl, ?_⟩) (by assumption) ?_
  rotate_left
  · (intro w hSw; (try dsimp only at hSw); go_split_ands; go_simp; (try with_reducible rfl))
  (try simp only [Act.put]); (try simp only [List.setIfInBounds_toArray]); (try simp only [List.set_cons_succ]); (try simp only [List.set_cons_zero])
  have k8 := keeps_puts ([.int .i64 s1.room, .slice A1 n1 c1, .int .i64 s1.sent, .int .i64 s1.came, .int .i64 s1.lost] : List Value) 0 (b := w.heap.size + 2) (w := w7)
  have z22 := hold_keeps y22 k8 (fun e => by unfold only at e; omega)
  have z20 := hold_keeps y20 k8 (fun e => by unfold only at e; omega)
  have z23 := hold_keeps y23 k8 (fun e => by unfold only at e; omega)
  refine wpAnyH_store (i := 9) (o := ⟨none, .store 29 (.tmp 6) (.tmp 137), 0, _, _, none⟩) (by kernel_rfl) rfl rfl 29 (.tmp 6) (.tmp 137) rfl (w.heap.size + 2) 29 ([.int .i64 0, .slice none 0 0, .int .i64 0, .int .i64 0, .int .i64 0] : List Value) ([.int .i64 s1.room, .slice A1 n1 c1, .int .i64 s1.sent, .int .i64 s1.came, .int .i64 s1.lost] : List Value) rfl rfl yr rfl (by kernel_rfl) rfl (by exact ⟨z22.cel.whole, z20.cel.whole, z23.cel.whole⟩) ?_
  (try simp only [Act.put]); (try simp only [List.setIfInBounds_toArray]); (try simp only [List.set_cons_succ]); (try simp only [List.set_cons_zero])
  have hHeld2 := And.intro z22.cel.whole (And.intro z20.cel.whole z23.cel.whole)
  refine wpAnyH_take (i := 10) (oi := ⟨some 7, .assign (.tmp 145), 4, _, _, none⟩) (v := ?_) rfl (by kernel_rfl) (by kernel_rfl) (by kernel_rfl) (fun _ _ _ h => h) (Or.inl ⟨by rfl, ?_⟩) (by assumption) ?_
  rotate_left
  · (intro w hSw; (try dsimp only at hSw); go_split_ands; go_simp; (try with_reducible rfl))
  (try simp only [Act.put]); (try simp only [List.setIfInBounds_toArray]); (try simp only [List.set_cons_succ]); (try simp only [List.set_cons_zero])
  refine wpAnyH_done (by kernel_rfl) ?_ _
  have RH := Lib.hid (Hold.set ([.int .i64 s1.room, .slice A1 n1 c1, .int .i64 s1.sent, .int .i64 s1.came, .int .i64 s1.lost] : List Value) [] ([.int .i64 0, .slice none 0 0, .int .i64 0, .int .i64 0, .int .i64 0] : List Value) [] rfl _ yr)
  have HFIN := Lib.hid (dsr_mk (L := ([.int .i64 s1.room, .slice A1 n1 c1, .int .i64 s1.sent, .int .i64 s1.came, .int .i64 s1.lost] : List Value)) yn yv (((Keeps.of_below (F := only g) HBW.out.bel).trans HKW.out (fun _ _ e => e)).trans (Keeps.of_below (F := only g) (bX.trans (hb7.mono bX.size))) (fun _ _ e => e)) rfl)
  clear hHeld2 hHeld y22 y20 y23 yr yn yv k8 z22 z20 z23 hb7 bX x22 x23 x20 xr xn xv xt xo CS
  go_wp2
  refine bodyPost_ret (results_cv rfl rfl rfl RH.out.cel.whole _ Try.underlying29 rfl (by kernel_rfl)) rfl ?_
  exact ⟨.slice A1 n1 c1, by first | rfl | simp [dnL], HFIN.out⟩
end Go.Proofs.Ytnahboflpipfpaa
