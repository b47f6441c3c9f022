/- The document's Take; no conditions but those that it names. -/
import Derived.Test.YtnahboflpipfpaaDtw
namespace Go.Proofs.Ytnahboflpipfpaa
open Go.ChangeShapes Go.WideShapes Go.ChangeAt Go.RowKit

/-- What the document's Take answers. -/
def Dta (F : Nat → Prop) (s' : St) (m : M.Msg) (r : Int) (w : World) (e : Ending) (w' : World) : Prop := ∃ v' y, e = .returned (.tuple #[.agg (dnL s' v').toArray, .agg (Mv.cells y).toArray, .int .i64 r]) ∧ y.m = m ∧ Txt F w' y ∧ Dv0 F w' v' s' ∧ Below w.heap.size w w'
theorem below_drew (X : World) : Below X.heap.size X X.drew := (Below.refl _ X).drew
theorem tk_fin {w W : World} {F : Nat → Prop} {L : List Value} {y : Mv} {b7 : Nat} {v' : Value} {s' : St} (hA : Hold W w.heap.size 29 L) (hY : Hold W b7 49 y.cells) (h4 : Hold W (w.heap.size + 1) 29 ([.int .i64 0, .slice none 0 0, .int .i64 0, .int .i64 0, .int .i64 0] : List Value)) (h5 : Hold W (w.heap.size + 2) 49 [.int .i64 0, .int .i64 0, .int .i64 0, .int .i64 0, .int .i64 0, .int .i64 0, .int .i64 0, .int .i64 0, .int .i64 0, .int .i64 0, .int .i64 0, .int .i64 0, .int .i64 0, .int .i64 0, .int .i64 0, .int .i64 0, .int .i64 0, .int .i64 0, .slice none 0 0, .slice none 0 0, .bool false, .int .i64 0, .int .i64 0, .int .i64 0, .int .i64 0, .int .i64 0, .int .i64 0, .int .i64 0, .int .i64 0, .bool false]) (hv : Dv0 (Fb F w.heap.size 3) W v' s') (ht : Txt (Fb F w.heap.size 3) W y) (bW : Below w.heap.size w W) (hl : (([.int .i64 0, .slice none 0 0, .int .i64 0, .int .i64 0, .int .i64 0] : List Value)).length = L.length) (h7 : w.heap.size + 3 ≤ b7) :
    (W.setCells (w.heap.size + 1) 0 L).rangeAt w.heap.size 0 L ∧ (W.setCells (w.heap.size + 1) 0 L).rangeAt b7 0 y.cells ∧ Hold (W.setCells (w.heap.size + 1) 0 L) (w.heap.size + 2) 49 [.int .i64 0, .int .i64 0, .int .i64 0, .int .i64 0, .int .i64 0, .int .i64 0, .int .i64 0, .int .i64 0, .int .i64 0, .int .i64 0, .int .i64 0, .int .i64 0, .int .i64 0, .int .i64 0, .int .i64 0, .int .i64 0, .int .i64 0, .int .i64 0, .slice none 0 0, .slice none 0 0, .bool false, .int .i64 0, .int .i64 0, .int .i64 0, .int .i64 0, .int .i64 0, .int .i64 0, .int .i64 0, .int .i64 0, .bool false] ∧ ((W.setCells (w.heap.size + 1) 0 L).setCells (w.heap.size + 2) 0 y.cells).rangeAt w.heap.size 0 L ∧ ((W.setCells (w.heap.size + 1) 0 L).setCells (w.heap.size + 2) 0 y.cells).rangeAt b7 0 y.cells ∧
    ((W.setCells (w.heap.size + 1) 0 L).setCells (w.heap.size + 2) 0 y.cells).rangeAt (w.heap.size + 1) 0 L ∧ ((W.setCells (w.heap.size + 1) 0 L).setCells (w.heap.size + 2) 0 y.cells).rangeAt (w.heap.size + 2) 0 y.cells ∧ Dv0 F ((W.setCells (w.heap.size + 1) 0 L).setCells (w.heap.size + 2) 0 y.cells) v' s' ∧ Txt F ((W.setCells (w.heap.size + 1) 0 L).setCells (w.heap.size + 2) 0 y.cells) y ∧ Below w.heap.size w ((W.setCells (w.heap.size + 1) 0 L).setCells (w.heap.size + 2) 0 y.cells) := by
  have k3 := keeps_puts L 0 (b := w.heap.size + 1) (w := W)
  have k4 := keeps_puts y.cells 0 (b := w.heap.size + 2) (w := W.setCells (w.heap.size + 1) 0 L)
  have a3 := hold_keeps hA k3 (fun e => by unfold only at e; omega)
  have y3 := hold_keeps hY k3 (fun e => by unfold only at e; omega)
  have z3 := hold_keeps h5 k3 (fun e => by unfold only at e; omega)
  have l3 : Hold (W.setCells (w.heap.size + 1) 0 L) (w.heap.size + 1) 29 L := by
    have := Hold.set L [] ([.int .i64 0, .slice none 0 0, .int .i64 0, .int .i64 0, .int .i64 0] : List Value) [] hl _ (by simpa using h4)
    simpa using this
  have l4 : Hold ((W.setCells (w.heap.size + 1) 0 L).setCells (w.heap.size + 2) 0 y.cells) (w.heap.size + 2) 49 y.cells := by
    have := Hold.set y.cells [] [.int .i64 0, .int .i64 0, .int .i64 0, .int .i64 0, .int .i64 0, .int .i64 0, .int .i64 0, .int .i64 0, .int .i64 0, .int .i64 0, .int .i64 0, .int .i64 0, .int .i64 0, .int .i64 0, .int .i64 0, .int .i64 0, .int .i64 0, .int .i64 0, .slice none 0 0, .slice none 0 0, .bool false, .int .i64 0, .int .i64 0, .int .i64 0, .int .i64 0, .int .i64 0, .int .i64 0, .int .i64 0, .int .i64 0, .bool false] [] rfl _ (by simpa using z3)
    simpa using this
  refine ⟨a3.cel.whole, y3.cel.whole, z3, (hold_keeps a3 k4 (fun e => by unfold only at e; omega)).cel.whole, (hold_keeps y3 k4 (fun e => by unfold only at e; omega)).cel.whole, (hold_keeps l3 k4 (fun e => by unfold only at e; omega)).cel.whole, l4.cel.whole, ?_, ?_, ?_⟩
  · exact ((hv.keep k3 (fun x e => by unfold only at e; omega)).keep k4 (fun x e => by unfold only at e; omega)).unbox
  · exact ((ht.step k3 (fun x e => by unfold only at e; exact .inr (by omega)) (fun _ e => .inl e)).step k4 (fun x e => by unfold only at e; exact .inr (by omega)) (fun _ e => .inl e)).sub (fun _ e => .inl e)
  · exact (bW.trans (k3.below (fun x e => by unfold only at e; omega) bW.size)).trans (k4.below (fun x e => by unfold only at e; omega) (Nat.le_trans bW.size k3.size))

set_option maxHeartbeats 16000000 in
set_option maxRecDepth 100000 in
theorem dtake_any {w : World} {F : Nat → Prop} {v : Value} {s : St} (h : Dv0 F w v s) (hF : ∀ x, F x → x < w.heap.size) (hs : s.Ok) (k : Int) : Calls Try.prog 29 #[.agg (dnL s v).toArray, .int .i64 k] w (Dta F (s.take k) (s.at k) (s.lk k) w) := by
  obtain ⟨A, c, rfl⟩ := h.slice
  have b0 : Below w.heap.size w (((w.alloc (.cells (([.int .i64 s.room, (.slice A s.ms.length c), .int .i64 s.sent, .int .i64 s.came, .int .i64 s.lost] : List Value)).toArray 29)).alloc (.cells (([.int .i64 0, .slice none 0 0, .int .i64 0, .int .i64 0, .int .i64 0] : List Value)).toArray 29)).alloc (.cells #[.int .i64 0, .int .i64 0, .int .i64 0, .int .i64 0, .int .i64 0, .int .i64 0, .int .i64 0, .int .i64 0, .int .i64 0, .int .i64 0, .int .i64 0, .int .i64 0, .int .i64 0, .int .i64 0, .int .i64 0, .int .i64 0, .int .i64 0, .int .i64 0, .slice none 0 0, .slice none 0 0, .bool false, .int .i64 0, .int .i64 0, .int .i64 0, .int .i64 0, .int .i64 0, .int .i64 0, .int .i64 0, .int .i64 0, .bool false] 49)) := below_new (below_new (below_new (Below.refl w.heap.size w)))
  have HD0 := Lib.hid (h.boxed 3 b0)
  have HB0 := Lib.hid b0
  have HA0 := Lib.hid ((Hold.new w ([.int .i64 s.room, (.slice A s.ms.length c), .int .i64 s.sent, .int .i64 s.came, .int .i64 s.lost] : List Value) 29).on (below_new (o := .cells #[.int .i64 0, .int .i64 0, .int .i64 0, .int .i64 0, .int .i64 0, .int .i64 0, .int .i64 0, .int .i64 0, .int .i64 0, .int .i64 0, .int .i64 0, .int .i64 0, .int .i64 0, .int .i64 0, .int .i64 0, .int .i64 0, .int .i64 0, .int .i64 0, .slice none 0 0, .slice none 0 0, .bool false, .int .i64 0, .int .i64 0, .int .i64 0, .int .i64 0, .int .i64 0, .int .i64 0, .int .i64 0, .int .i64 0, .bool false] 49) (below_new (o := .cells (([.int .i64 0, .slice none 0 0, .int .i64 0, .int .i64 0, .int .i64 0] : List Value)).toArray 29) (Below.refl _ _))))
  have HC0 := Lib.hid ((hold_new1 w (.cells (([.int .i64 s.room, (.slice A s.ms.length c), .int .i64 s.sent, .int .i64 s.came, .int .i64 s.lost] : List Value)).toArray 29) ([.int .i64 0, .slice none 0 0, .int .i64 0, .int .i64 0, .int .i64 0] : List Value) 29).on (below_new (o := .cells #[.int .i64 0, .int .i64 0, .int .i64 0, .int .i64 0, .int .i64 0, .int .i64 0, .int .i64 0, .int .i64 0, .int .i64 0, .int .i64 0, .int .i64 0, .int .i64 0, .int .i64 0, .int .i64 0, .int .i64 0, .int .i64 0, .int .i64 0, .int .i64 0, .slice none 0 0, .slice none 0 0, .bool false, .int .i64 0, .int .i64 0, .int .i64 0, .int .i64 0, .int .i64 0, .int .i64 0, .int .i64 0, .int .i64 0, .bool false] 49) (Below.refl _ _)))
  have HE0 := Lib.hid (hold_new2 w (.cells (([.int .i64 s.room, (.slice A s.ms.length c), .int .i64 s.sent, .int .i64 s.came, .int .i64 s.lost] : List Value)).toArray 29) (.cells (([.int .i64 0, .slice none 0 0, .int .i64 0, .int .i64 0, .int .i64 0] : List Value)).toArray 29) [.int .i64 0, .int .i64 0, .int .i64 0, .int .i64 0, .int .i64 0, .int .i64 0, .int .i64 0, .int .i64 0, .int .i64 0, .int .i64 0, .int .i64 0, .int .i64 0, .int .i64 0, .int .i64 0, .int .i64 0, .int .i64 0, .int .i64 0, .int .i64 0, .slice none 0 0, .slice none 0 0, .bool false, .int .i64 0, .int .i64 0, .int .i64 0, .int .i64 0, .int .i64 0, .int .i64 0, .int .i64 0, .int .i64 0, .bool false] 49)
  have LA0 := Lib.hid HA0.out.cel.whole
  have HF := Lib.hid hF
  have HZ0 := Lib.hid (show w.heap.size + 3 ≤ ((((w.alloc (.cells (([.int .i64 s.room, (.slice A s.ms.length c), .int .i64 s.sent, .int .i64 s.came, .int .i64 s.lost] : List Value)).toArray 29)).alloc (.cells (([.int .i64 0, .slice none 0 0, .int .i64 0, .int .i64 0, .int .i64 0] : List Value)).toArray 29)).alloc (.cells #[.int .i64 0, .int .i64 0, .int .i64 0, .int .i64 0, .int .i64 0, .int .i64 0, .int .i64 0, .int .i64 0, .int .i64 0, .int .i64 0, .int .i64 0, .int .i64 0, .int .i64 0, .int .i64 0, .int .i64 0, .int .i64 0, .int .i64 0, .int .i64 0, .slice none 0 0, .slice none 0 0, .bool false, .int .i64 0, .int .i64 0, .int .i64 0, .int .i64 0, .int .i64 0, .int .i64 0, .int .i64 0, .int .i64 0, .bool false] 49))).heap.size by simp)
  obtain ⟨s0, s1, k0, k1, l0, l1, n1, hsm⟩ := hs
  clear h b0 hF hsm
  unfold dnL
  rcases s.lk_cases k with h0 | ⟨h0, j, rfl, hj⟩
  · rw [take_bad h0]
    have HL := Lib.hid h0
    clear h0
    go_enter Try.func29, Try.ntmps29
    go_wp2_with (first
      | (with_reducible refine wpList_load_mid rfl 29 _ rfl w.heap.size 0 rfl _ _ LA0.out Try.underlying29 rfl (by kernel_rfl) ?_)
      | (go_at_call 28
         refine (dlook_any HD0.out k).mono ?_
         rintro e w1 ⟨y, rfl, hy, ht0, hb⟩
         rw [HL.out]
         have HO := Lib.hid ht0.one
         have HY := Lib.hid hy
         have b := below_new (o := .cells y.cells.toArray 49) hb
         have HBB := Lib.hid b
         have HTT := Lib.hid (ht0.below (below_new (o := .cells y.cells.toArray 49) (Below.refl _ _)))
         have H7 := Lib.hid (Nat.le_trans HZ0.out hb.size)
         clear hy ht0 hb b)
      | (with_reducible refine wpList_store_fresh rfl 49 _ _ rfl _ rfl 49 _ y.cells rfl rfl rfl (mv_size _) HO.out ?_)
      | fail)
    obtain ⟨W, hW⟩ : ∃ W, W = (w1.alloc (.cells y.cells.toArray 49)).drew := ⟨_, rfl⟩
    have hA : Hold W w.heap.size 29 (([.int .i64 s.room, (.slice A s.ms.length c), .int .i64 s.sent, .int .i64 s.came, .int .i64 s.lost] : List Value)) := by rw [hW]; exact HA0.out.on HBB.out.drew
    have hY : Hold W w1.heap.size 49 y.cells := by rw [hW]; exact Hold.new w1 y.cells 49
    have h4 : Hold W (w.heap.size + 1) 29 ([.int .i64 0, .slice none 0 0, .int .i64 0, .int .i64 0, .int .i64 0] : List Value) := by rw [hW]; exact HC0.out.on HBB.out.drew
    have h5 : Hold W (w.heap.size + 2) 49 [.int .i64 0, .int .i64 0, .int .i64 0, .int .i64 0, .int .i64 0, .int .i64 0, .int .i64 0, .int .i64 0, .int .i64 0, .int .i64 0, .int .i64 0, .int .i64 0, .int .i64 0, .int .i64 0, .int .i64 0, .int .i64 0, .int .i64 0, .int .i64 0, .slice none 0 0, .slice none 0 0, .bool false, .int .i64 0, .int .i64 0, .int .i64 0, .int .i64 0, .int .i64 0, .int .i64 0, .int .i64 0, .int .i64 0, .bool false] := by rw [hW]; exact HE0.out.on HBB.out.drew
    have hv : Dv0 (Fb F w.heap.size 3) W (.slice A s.ms.length c) s := by rw [hW]; exact HD0.out.below HBB.out.drew
    have ht : Txt (Fb F w.heap.size 3) W y := by rw [hW]; exact HTT.out.below (below_drew _)
    have bW : Below w.heap.size w W := by rw [hW]; exact (below_on HB0.out HBB.out).drew
    have h7 := H7.out
    obtain ⟨sa, sb, z5, ta, tb, r4, r5, FV, FT, FB⟩ := tk_fin hA hY h4 h5 hv ht bW rfl h7
    have HFV := Lib.hid FV
    have HFT := Lib.hid FT
    have HFB := Lib.hid FB
    have HR4 := Lib.hid r4
    have HR5 := Lib.hid r5
    have h41 := h4
    have ONE := ht.one
    clear FV FT FB r4 r5 hv ht bW h5
    refine wp_region_held_drew (S := fun w' => w'.rangeAt w.heap.size 0 (([.int .i64 s.room, (.slice A s.ms.length c), .int .i64 s.sent, .int .i64 s.came, .int .i64 s.lost] : List Value)) ∧ w'.rangeAt w1.heap.size 0 y.cells) (by kernel_rfl) (by rw [← hW]; exact ⟨hA.cel.whole, hY.cel.whole⟩) (fun hHeld => ?_)
    rw [← hW] at hHeld ⊢
    clear hW hA hY
    refine wpAnyH_take (i := 0) (oi := ⟨some 24, .load 29 (.tmp 2), 29, _, _, none⟩) (v := .agg ((([.int .i64 s.room, (.slice A s.ms.length c), .int .i64 s.sent, .int .i64 s.came, .int .i64 s.lost] : List Value))).toArray) rfl (by kernel_rfl) (by kernel_rfl) (by kernel_rfl) (fun _ _ _ h => h) (yieldsIf_load_mid (by rfl) 29 _ rfl w.heap.size 0 rfl (([.int .i64 s.room, (.slice A s.ms.length c), .int .i64 s.sent, .int .i64 s.came, .int .i64 s.lost] : List Value)) _ (fun w hSw => hSw.1) Try.underlying29 rfl (by kernel_rfl)) (by assumption) ?_
    (try simp only [Act.put]); (try simp only [List.setIfInBounds_toArray]); (try simp only [List.set_cons_succ]); (try simp only [List.set_cons_zero])
    refine wpAnyH_take (i := 1) (oi := ⟨some 25, .load 49 (.tmp 7), 49, _, _, none⟩) (v := .agg (y.cells).toArray) rfl (by kernel_rfl) (by kernel_rfl) (by kernel_rfl) (fun _ _ _ h => h) (yieldsIf_load_mid (by rfl) 49 _ rfl w1.heap.size 0 rfl y.cells _ (fun w hSw => hSw.2) Try.underlying49 rfl (mv_size y)) (by assumption) ?_
    (try simp only [Act.put]); (try simp only [List.setIfInBounds_toArray]); (try simp only [List.set_cons_succ]); (try simp only [List.set_cons_zero])
    refine wpAnyH_take (i := 2) (oi := ⟨some 26, .move (.tmp 8), 62, _, _, none⟩) (v := ?_) rfl (by kernel_rfl) (by kernel_rfl) (by kernel_rfl) (fun _ _ _ h => h) (Or.inl ⟨by rfl, ?_⟩) (by assumption) ?_
    rotate_left
    · (intro w hSw; (try dsimp only at hSw); go_split_ands; go_simp; (try with_reducible rfl))
    (try simp only [Act.put]); (try simp only [List.setIfInBounds_toArray]); (try simp only [List.set_cons_succ]); (try simp only [List.set_cons_zero])
    refine wpAnyH_store (i := 3) (o := ⟨none, .store 29 (.tmp 4) (.tmp 24), 0, _, _, none⟩) (by kernel_rfl) rfl rfl 29 (.tmp 4) (.tmp 24) rfl (w.heap.size + 1) 29 ([.int .i64 0, .slice none 0 0, .int .i64 0, .int .i64 0, .int .i64 0] : List Value) (([.int .i64 s.room, (.slice A s.ms.length c), .int .i64 s.sent, .int .i64 s.came, .int .i64 s.lost] : List Value)) rfl rfl h41 rfl (by kernel_rfl) rfl (by exact ⟨sa, sb⟩) ?_
    (try simp only [Act.put]); (try simp only [List.setIfInBounds_toArray]); (try simp only [List.set_cons_succ]); (try simp only [List.set_cons_zero])
    refine wpAnyH_store (i := 4) (o := ⟨none, .store 49 (.tmp 5) (.tmp 25), 0, _, _, none⟩) (by kernel_rfl) rfl rfl 49 (.tmp 5) (.tmp 25) rfl (w.heap.size + 2) 49 [.int .i64 0, .int .i64 0, .int .i64 0, .int .i64 0, .int .i64 0, .int .i64 0, .int .i64 0, .int .i64 0, .int .i64 0, .int .i64 0, .int .i64 0, .int .i64 0, .int .i64 0, .int .i64 0, .int .i64 0, .int .i64 0, .int .i64 0, .int .i64 0, .slice none 0 0, .slice none 0 0, .bool false, .int .i64 0, .int .i64 0, .int .i64 0, .int .i64 0, .int .i64 0, .int .i64 0, .int .i64 0, .int .i64 0, .bool false] y.cells rfl rfl z5 rfl (mv_size y) ONE (by exact ⟨ta, tb⟩) ?_
    (try simp only [Act.put]); (try simp only [List.setIfInBounds_toArray]); (try simp only [List.set_cons_succ]); (try simp only [List.set_cons_zero])
    have hHeld2 := And.intro ta tb
    refine wpAnyH_take (i := 5) (oi := ⟨some 6, .assign (.tmp 26), 62, _, _, none⟩) (v := ?_) rfl (by kernel_rfl) (by kernel_rfl) (by kernel_rfl) (fun _ _ _ h => h) (Or.inl ⟨by rfl, ?_⟩) (by assumption) ?_
    rotate_left
    · (intro w hSw; (try dsimp only at hSw); go_split_ands; go_simp; (try with_reducible rfl))
    (try simp only [Act.put]); (try simp only [List.setIfInBounds_toArray]); (try simp only [List.set_cons_succ]); (try simp only [List.set_cons_zero])
    refine wpAnyH_done (by kernel_rfl) ?_ _
    clear sa sb z5 ta tb h41 ONE hHeld hHeld2 h4
    go_wp2
    refine bodyPost_ret (results_ccv rfl rfl rfl rfl HR4.out HR5.out _ _ Try.underlying29 Try.underlying49 rfl rfl (by kernel_rfl) (mv_size y)) rfl ?_
    exact ⟨.slice A s.ms.length c, y, by rw [HL.out]; rfl, HY.out, HFT.out, HFV.out, HFB.out⟩
  · have e1 : s.take j = ⟨s.room, s.sent, s.came + 1, s.lost, s.ms.take j ++ s.ms.drop (j + 1)⟩ := by unfold St.take; rw [if_pos h0, cut_nat s j]
    rw [e1]
    have HL := Lib.hid h0
    clear h0 e1
    go_enter Try.func29, Try.ntmps29
    go_wp2_with (first
      | (with_reducible refine wpList_load_mid rfl 29 _ rfl w.heap.size 0 rfl _ _ LA0.out Try.underlying29 rfl (by kernel_rfl) ?_)
      | (go_at_call 28
         refine (dlook_any HD0.out j).mono ?_
         rintro e w1 ⟨y, rfl, hy, ht0, hb⟩
         rw [HL.out]
         have HO := Lib.hid ht0.one
         have HY := Lib.hid hy
         have b := below_new (o := .cells y.cells.toArray 49) hb
         have HA1 := Lib.hid (HA0.out.on b)
         have LA1 := Lib.hid HA1.out.cel.whole
         have HC1 := Lib.hid (HC0.out.on b)
         have HE1 := Lib.hid (HE0.out.on b)
         have HB1 := Lib.hid (below_on HB0.out b)
         have HD1 := Lib.hid (HD0.out.below b)
         have HZ1 := Lib.hid (Nat.le_trans HZ0.out b.size)
         have HTT := Lib.hid (ht0.below (below_new (o := .cells y.cells.toArray 49) (Below.refl _ _)))
         have HYY := Lib.hid (Hold.new w1 y.cells 49)
         have H7 := Lib.hid (Nat.le_trans HZ0.out hb.size)
         clear hy ht0 hb b)
      | (with_reducible refine wpList_store_fresh rfl 49 _ _ rfl _ rfl 49 _ y.cells rfl rfl rfl (mv_size _) HO.out ?_)
      | (with_reducible refine wpList_load_mid rfl 29 _ rfl w.heap.size 0 rfl _ _ LA1.out Try.underlying29 rfl (by kernel_rfl) ?_)
      | (go_at_call 43
         refine (without_any HD1.out (fun x f => f.elim (fun f => Nat.lt_of_lt_of_le (HF.out x f) HB1.out.size) (fun f => Nat.lt_of_lt_of_le f.2 HZ1.out)) hj n1).mono ?_
         rintro e w2 ⟨v2, rfl, hvv, hb⟩
         obtain ⟨A2, c2, rfl⟩ := hvv.slice
         unfold dnL
         generalize hm : St.ms ⟨s.room, s.sent, s.came, s.lost, s.ms.take j ++ s.ms.drop (j + 1)⟩ = ms2 at *
         have hA2 := HA1.out.on hb
         have THA := Lib.hid (show World.there w2 w.heap.size 0 (([.int .i64 s.room, (.slice A2 ms2.length c2), .int .i64 s.sent, .int .i64 s.came, .int .i64 s.lost] : List Value) : List Value).length from hA2.there (by show 0 + 5 ≤ 5; omega))
         have hA3 : Hold (w2.setCells w.heap.size 0 (([.int .i64 s.room, (.slice A2 ms2.length c2), .int .i64 s.sent, .int .i64 s.came, .int .i64 s.lost] : List Value))) w.heap.size 29 (([.int .i64 s.room, (.slice A2 ms2.length c2), .int .i64 s.sent, .int .i64 s.came, .int .i64 s.lost] : List Value)) := Hold.set (([.int .i64 s.room, (.slice A2 ms2.length c2), .int .i64 s.sent, .int .i64 s.came, .int .i64 s.lost] : List Value)) [] (([.int .i64 s.room, (.slice A s.ms.length c), .int .i64 s.sent, .int .i64 s.came, .int .i64 s.lost] : List Value)) [] rfl _ hA2
         have kA := keeps_puts (([.int .i64 s.room, (.slice A2 ms2.length c2), .int .i64 s.sent, .int .i64 s.came, .int .i64 s.lost] : List Value)) 0 (b := w.heap.size) (w := w2)
         have y3 := hold_cell hA3 3 rfl
         have g3 := hold_soft hA3 3
         have HA4 := Lib.hid (show Hold _ w.heap.size 29 ([.int .i64 s.room, .slice A2 ms2.length c2, .int .i64 s.sent, .int .i64 (s.came + 1), .int .i64 s.lost] : List Value) from hold_put hA3 3 (.int .i64 (s.came + 1)))
         have kB : Keeps (only w.heap.size) (w2.setCells w.heap.size 0 (([.int .i64 s.room, (.slice A2 ms2.length c2), .int .i64 s.sent, .int .i64 s.came, .int .i64 s.lost] : List Value))) ((w2.setCells w.heap.size 0 (([.int .i64 s.room, (.slice A2 ms2.length c2), .int .i64 s.sent, .int .i64 s.came, .int .i64 s.lost] : List Value))).setCell ⟨w.heap.size, 3, none⟩ (.int .i64 (s.came + 1))) := (Keeps.refl (only w.heap.size) _).setCell (p := ⟨w.heap.size, 3, none⟩) (.inl rfl) _
         have kAB := kA.trans kB (fun _ _ e => e)
         have HC4 := Lib.hid (hold_keeps (HC1.out.on hb) kAB (fun e => by unfold only at e; omega))
         have HE4 := Lib.hid (hold_keeps (HE1.out.on hb) kAB (fun e => by unfold only at e; omega))
         have HY4 := Lib.hid (hold_keeps (HYY.out.on hb) kAB (fun e => by unfold only at e; have := H7.out; omega))
         have HT4 := Lib.hid ((HTT.out.below hb).step kAB (fun x e => by unfold only at e; exact .inr (by omega)) (fun _ e => .inl e))
         have b2 := below_on HB1.out hb
         have HB4 := Lib.hid (b2.trans (kAB.below (fun x e => by unfold only at e; omega) b2.size))
         have HV4 := Lib.hid ((hvv.keep kAB (fun x e => by unfold only at e; omega)).like (s' := ⟨s.room, s.sent, s.came + 1, s.lost, s.ms.take j ++ s.ms.drop (j + 1)⟩) rfl)
         clear hm hvv hb hA2 hA3 kA kB kAB b2)
      | (with_reducible refine store_list rfl 29 _ _ rfl w.heap.size 0 (([.int .i64 s.room, (.slice A2 ms2.length c2), .int .i64 s.sent, .int .i64 s.came, .int .i64 s.lost] : List Value)) rfl rfl THA.out (by kernel_rfl) rfl ?_)
      | fail)
    clear y3 g3
    obtain ⟨W, hW⟩ : ∃ W, W = ((w2.setCells w.heap.size 0 (([.int .i64 s.room, (.slice A2 ms2.length c2), .int .i64 s.sent, .int .i64 s.came, .int .i64 s.lost] : List Value))).setCell ⟨w.heap.size, 3, none⟩ (.int .i64 (s.came + 1))).drew := ⟨_, rfl⟩
    have hA : Hold W w.heap.size 29 ([.int .i64 s.room, .slice A2 ms2.length c2, .int .i64 s.sent, .int .i64 (s.came + 1), .int .i64 s.lost] : List Value) := by rw [hW]; exact HA4.out.on (below_drew _)
    have hY : Hold W w1.heap.size 49 y.cells := by rw [hW]; exact HY4.out.on (below_drew _)
    have h4 : Hold W (w.heap.size + 1) 29 ([.int .i64 0, .slice none 0 0, .int .i64 0, .int .i64 0, .int .i64 0] : List Value) := by rw [hW]; exact HC4.out.on (below_drew _)
    have h5 : Hold W (w.heap.size + 2) 49 [.int .i64 0, .int .i64 0, .int .i64 0, .int .i64 0, .int .i64 0, .int .i64 0, .int .i64 0, .int .i64 0, .int .i64 0, .int .i64 0, .int .i64 0, .int .i64 0, .int .i64 0, .int .i64 0, .int .i64 0, .int .i64 0, .int .i64 0, .int .i64 0, .slice none 0 0, .slice none 0 0, .bool false, .int .i64 0, .int .i64 0, .int .i64 0, .int .i64 0, .int .i64 0, .int .i64 0, .int .i64 0, .int .i64 0, .bool false] := by rw [hW]; exact HE4.out.on (below_drew _)
    have hv : Dv0 (Fb F w.heap.size 3) W (.slice A2 ms2.length c2) ⟨s.room, s.sent, s.came + 1, s.lost, s.ms.take j ++ s.ms.drop (j + 1)⟩ := by rw [hW]; exact HV4.out.below (below_drew _)
    have ht : Txt (Fb F w.heap.size 3) W y := by rw [hW]; exact HT4.out.below (below_drew _)
    have bW : Below w.heap.size w W := by rw [hW]; exact HB4.out.drew
    have h7 := H7.out
    obtain ⟨sa, sb, z5, ta, tb, r4, r5, FV, FT, FB⟩ := tk_fin hA hY h4 h5 hv ht bW rfl h7
    have HFV := Lib.hid FV
    have HFT := Lib.hid FT
    have HFB := Lib.hid FB
    have HR4 := Lib.hid r4
    have HR5 := Lib.hid r5
    have h41 := h4
    have ONE := ht.one
    clear FV FT FB r4 r5 hv ht bW h5
    refine wp_region_held_drew (S := fun w' => w'.rangeAt w.heap.size 0 ([.int .i64 s.room, .slice A2 ms2.length c2, .int .i64 s.sent, .int .i64 (s.came + 1), .int .i64 s.lost] : List Value) ∧ w'.rangeAt w1.heap.size 0 y.cells) (by kernel_rfl) (by rw [← hW]; exact ⟨hA.cel.whole, hY.cel.whole⟩) (fun hHeld => ?_)
    rw [← hW] at hHeld ⊢
    clear hW hA hY
    refine wpAnyH_take (i := 0) (oi := ⟨some 24, .load 29 (.tmp 2), 29, _, _, none⟩) (v := .agg (([.int .i64 s.room, .slice A2 ms2.length c2, .int .i64 s.sent, .int .i64 (s.came + 1), .int .i64 s.lost] : List Value)).toArray) rfl (by kernel_rfl) (by kernel_rfl) (by kernel_rfl) (fun _ _ _ h => h) (yieldsIf_load_mid (by rfl) 29 _ rfl w.heap.size 0 rfl ([.int .i64 s.room, .slice A2 ms2.length c2, .int .i64 s.sent, .int .i64 (s.came + 1), .int .i64 s.lost] : List Value) _ (fun w hSw => hSw.1) Try.underlying29 rfl (by kernel_rfl)) (by assumption) ?_
    (try simp only [Act.put]); (try simp only [List.setIfInBounds_toArray]); (try simp only [List.set_cons_succ]); (try simp only [List.set_cons_zero])
    refine wpAnyH_take (i := 1) (oi := ⟨some 25, .load 49 (.tmp 7), 49, _, _, none⟩) (v := .agg (y.cells).toArray) rfl (by kernel_rfl) (by kernel_rfl) (by kernel_rfl) (fun _ _ _ h => h) (yieldsIf_load_mid (by rfl) 49 _ rfl w1.heap.size 0 rfl y.cells _ (fun w hSw => hSw.2) Try.underlying49 rfl (mv_size y)) (by assumption) ?_
    (try simp only [Act.put]); (try simp only [List.setIfInBounds_toArray]); (try simp only [List.set_cons_succ]); (try simp only [List.set_cons_zero])
    refine wpAnyH_take (i := 2) (oi := ⟨some 26, .move (.tmp 8), 62, _, _, none⟩) (v := ?_) rfl (by kernel_rfl) (by kernel_rfl) (by kernel_rfl) (fun _ _ _ h => h) (Or.inl ⟨by rfl, ?_⟩) (by assumption) ?_
    rotate_left
    · (intro w hSw; (try dsimp only at hSw); go_split_ands; go_simp; (try with_reducible rfl))
    (try simp only [Act.put]); (try simp only [List.setIfInBounds_toArray]); (try simp only [List.set_cons_succ]); (try simp only [List.set_cons_zero])
    refine wpAnyH_store (i := 3) (o := ⟨none, .store 29 (.tmp 4) (.tmp 24), 0, _, _, none⟩) (by kernel_rfl) rfl rfl 29 (.tmp 4) (.tmp 24) rfl (w.heap.size + 1) 29 ([.int .i64 0, .slice none 0 0, .int .i64 0, .int .i64 0, .int .i64 0] : List Value) ([.int .i64 s.room, .slice A2 ms2.length c2, .int .i64 s.sent, .int .i64 (s.came + 1), .int .i64 s.lost] : List Value) rfl rfl h41 rfl (by kernel_rfl) rfl (by exact ⟨sa, sb⟩) ?_
    (try simp only [Act.put]); (try simp only [List.setIfInBounds_toArray]); (try simp only [List.set_cons_succ]); (try simp only [List.set_cons_zero])
    refine wpAnyH_store (i := 4) (o := ⟨none, .store 49 (.tmp 5) (.tmp 25), 0, _, _, none⟩) (by kernel_rfl) rfl rfl 49 (.tmp 5) (.tmp 25) rfl (w.heap.size + 2) 49 [.int .i64 0, .int .i64 0, .int .i64 0, .int .i64 0, .int .i64 0, .int .i64 0, .int .i64 0, .int .i64 0, .int .i64 0, .int .i64 0, .int .i64 0, .int .i64 0, .int .i64 0, .int .i64 0, .int .i64 0, .int .i64 0, .int .i64 0, .int .i64 0, .slice none 0 0, .slice none 0 0, .bool false, .int .i64 0, .int .i64 0, .int .i64 0, .int .i64 0, .int .i64 0, .int .i64 0, .int .i64 0, .int .i64 0, .bool false] y.cells rfl rfl z5 rfl (mv_size y) ONE (by exact ⟨ta, tb⟩) ?_
    (try simp only [Act.put]); (try simp only [List.setIfInBounds_toArray]); (try simp only [List.set_cons_succ]); (try simp only [List.set_cons_zero])
    have hHeld2 := And.intro ta tb
    refine wpAnyH_take (i := 5) (oi := ⟨some 6, .assign (.tmp 26), 62, _, _, none⟩) (v := ?_) rfl (by kernel_rfl) (by kernel_rfl) (by kernel_rfl) (fun _ _ _ h => h) (Or.inl ⟨by rfl, ?_⟩) (by assumption) ?_
    rotate_left
    · (intro w hSw; (try dsimp only at hSw); go_split_ands; go_simp; (try with_reducible rfl))
    (try simp only [Act.put]); (try simp only [List.setIfInBounds_toArray]); (try simp only [List.set_cons_succ]); (try simp only [List.set_cons_zero])
    refine wpAnyH_done (by kernel_rfl) ?_ _
    clear sa sb z5 ta tb h41 ONE hHeld hHeld2 h4
    go_wp2
    refine bodyPost_ret (results_ccv rfl rfl rfl rfl HR4.out HR5.out _ _ Try.underlying29 Try.underlying49 rfl rfl (by kernel_rfl) (mv_size y)) rfl ?_
    exact ⟨.slice A2 ms2.length c2, y, by rw [HL.out]; rfl, HY.out, HFT.out, HFV.out, HFB.out⟩
end Go.Proofs.Ytnahboflpipfpaa
