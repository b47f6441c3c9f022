/- The document's New, Look and without; no conditions but those that they name. -/
import Derived.Test.YtnahboflpipfpaaOkn
import Derived.Test.YtnahboflpipfpaaLw
namespace Go.Proofs.Ytnahboflpipfpaa
open Go.ChangeShapes Go.WideShapes Go.ChangeAt Go.RowKit

def dnL (s : St) (v : Value) : List Value := [.int .i64 s.room, v, .int .i64 s.sent, .int .i64 s.came, .int .i64 s.lost]
/-- The document's net by value, its memory outside F; its slice known. -/
def Dv0 (F : Nat → Prop) (w : World) (v : Value) (s : St) : Prop := ∃ Y, Msgs F w v Y ∧ Y.map Mv.m = s.ms
theorem Dv0.below {F : Nat → Prop} {w w' : World} {v : Value} {s : St} (h : Dv0 F w v s) (k : Below w.heap.size w w') : Dv0 F w' v s := by
  obtain ⟨Y, h, e⟩ := h
  exact ⟨Y, h.below k, e⟩
theorem Dv0.step {F F' K : Nat → Prop} {w w' : World} {v : Value} {s : St} (h : Dv0 F w v s) (k : Keeps K w w') (hK : ∀ x, K x → F x) (hF : ∀ x, F' x → F x ∨ w.heap.size ≤ x) : Dv0 F' w' v s := by
  obtain ⟨Y, h, e⟩ := h
  exact ⟨Y, h.step k hK hF, e⟩
theorem Dv0.slice {F : Nat → Prop} {w : World} {v : Value} {s : St} (h : Dv0 F w v s) : ∃ A c, v = .slice A s.ms.length c := by
  obtain ⟨Y, h, e⟩ := h
  obtain ⟨A, c, ev, _⟩ := rowN_sliceOf h.row
  exact ⟨A, c, by rw [ev, ← e, List.length_map]⟩
theorem Dv0.at {F : Nat → Prop} {w : World} {A : Option Addr} {n c : Nat} {s : St} (h : Dv0 F w (.slice A n c) s) {j : Nat} (hj : j < s.ms.length) : ∃ b o x, A = some ⟨b, o, none⟩ ∧ b < w.heap.size ∧ w.rangeAt b (o + j * 30) x.cells ∧ x.m = s.ms[j] ∧ Txt F w x := by
  obtain ⟨Y, h, e⟩ := h
  have hl : Y.length = s.ms.length := by rw [← e, List.length_map]
  obtain ⟨x, hx⟩ : ∃ x, Y[j]? = some x := ⟨_, List.getElem?_eq_getElem (by omega)⟩
  obtain ⟨b, o, rfl, hb, hr⟩ := msgs_range h.row hx
  refine ⟨b, o, x, rfl, hb, hr, ?_, h.tx x (List.mem_of_getElem? hx)⟩
  have e1 : (Y.map Mv.m)[j]? = some x.m := by rw [List.getElem?_map, hx]; rfl
  rw [e, List.getElem?_eq_getElem hj] at e1
  exact (Option.some.inj e1).symm
set_option maxHeartbeats 1000000 in
theorem dnew_any (n : Int) (w : World) : Calls Try.prog 12 #[.int .i64 n] w fun e w' => e = .returned (.tuple #[.agg (dnL (St.new n) (.slice none 0 0)).toArray, .bool (roomB n)]) ∧ Below w.heap.size w w' := by
  have B0 := Lib.hid (below_new (o := .cells (dnL (St.new n) (.slice none 0 0)).toArray 29) (Below.refl w.heap.size w))
  have FH := Lib.hid (Hold.new w (dnL (St.new n) (.slice none 0 0)) 29)
  unfold roomB
  by_cases h1 : 1 ≤ n
  · have q1 : decide (1 ≤ n) = true := by simpa using h1
    rw [q1]
    clear h1
    go_enter Try.func12, Try.ntmps12
    go_wp2
    refine bodyPost_ret (results_cv rfl rfl rfl (show World.rangeAt _ w.heap.size 0 (dnL (St.new n) (.slice none 0 0)) from FH.out.cel.whole) _ Try.underlying29 rfl (by kernel_rfl)) rfl ?_
    exact ⟨rfl, B0.out⟩
  · have q1 : decide (1 ≤ n) = false := by simpa using h1
    rw [q1]
    clear h1
    go_enter Try.func12, Try.ntmps12
    go_wp2
    refine bodyPost_ret (results_cv rfl rfl rfl (show World.rangeAt _ w.heap.size 0 (dnL (St.new n) (.slice none 0 0)) from FH.out.cel.whole) _ Try.underlying29 rfl (by kernel_rfl)) rfl ?_
    exact ⟨rfl, B0.out⟩
/-- What the document's Look answers. -/
def Dlk (F : Nat → Prop) (m : M.Msg) (r : Int) (w : World) (e : Ending) (w' : World) : Prop := ∃ y : Mv, e = .returned (.tuple #[.agg y.cells.toArray, .int .i64 r]) ∧ y.m = m ∧ Txt F w' y ∧ Below w.heap.size w w'
set_option maxHeartbeats 8000000 in
set_option maxRecDepth 100000 in
theorem dlook_any {w : World} {F : Nat → Prop} {v : Value} {s : St} (h : Dv0 F w v s) (k : Int) : Calls Try.prog 28 #[.agg (dnL s v).toArray, .int .i64 k] w (Dlk F (s.at k) (s.lk k) w) := by
  obtain ⟨A, c, rfl⟩ := h.slice
  have b0 := below_new (o := .cells #[.int .i64 0, .int .i64 0, .int .i64 0, .int .i64 0, .int .i64 0, .int .i64 0, .int .i64 0, .int .i64 0, .int .i64 0, .int .i64 0, .int .i64 0, .int .i64 0, .int .i64 0, .int .i64 0, .int .i64 0, .int .i64 0, .int .i64 0, .int .i64 0, .slice none 0 0, .slice none 0 0, .bool false, .int .i64 0, .int .i64 0, .int .i64 0, .int .i64 0, .int .i64 0, .int .i64 0, .int .i64 0, .int .i64 0, .bool false] 49) (below_new (o := .cells (dnL s (.slice A s.ms.length c)).toArray 29) (Below.refl w.heap.size w))
  have HB := Lib.hid b0
  have HH := Lib.hid h
  have FH := Lib.hid (show Hold ((w.alloc (.cells (dnL s (.slice A s.ms.length c)).toArray 29)).alloc (.cells #[.int .i64 0, .int .i64 0, .int .i64 0, .int .i64 0, .int .i64 0, .int .i64 0, .int .i64 0, .int .i64 0, .int .i64 0, .int .i64 0, .int .i64 0, .int .i64 0, .int .i64 0, .int .i64 0, .int .i64 0, .int .i64 0, .int .i64 0, .int .i64 0, .slice none 0 0, .slice none 0 0, .bool false, .int .i64 0, .int .i64 0, .int .i64 0, .int .i64 0, .int .i64 0, .int .i64 0, .int .i64 0, .int .i64 0, .bool false] 49)) (w.heap.size + 1) 49 [.int .i64 0, .int .i64 0, .int .i64 0, .int .i64 0, .int .i64 0, .int .i64 0, .int .i64 0, .int .i64 0, .int .i64 0, .int .i64 0, .int .i64 0, .int .i64 0, .int .i64 0, .int .i64 0, .int .i64 0, .int .i64 0, .int .i64 0, .int .i64 0, .slice none 0 0, .slice none 0 0, .bool false, .int .i64 0, .int .i64 0, .int .i64 0, .int .i64 0, .int .i64 0, .int .i64 0, .int .i64 0, .int .i64 0, .bool false] from by have := Hold.new (w.alloc (.cells (dnL s (.slice A s.ms.length c)).toArray 29)) [.int .i64 0, .int .i64 0, .int .i64 0, .int .i64 0, .int .i64 0, .int .i64 0, .int .i64 0, .int .i64 0, .int .i64 0, .int .i64 0, .int .i64 0, .int .i64 0, .int .i64 0, .int .i64 0, .int .i64 0, .int .i64 0, .int .i64 0, .int .i64 0, .slice none 0 0, .slice none 0 0, .bool false, .int .i64 0, .int .i64 0, .int .i64 0, .int .i64 0, .int .i64 0, .int .i64 0, .int .i64 0, .int .i64 0, .bool false] 49; simpa using this)
  have HB0 := Lib.hid b0
  clear b0 h
  unfold dnL at *
  rcases s.lk_cases k with h0 | ⟨h0, j, rfl, hj⟩
  · rw [St.at_no h0]
    have HL := Lib.hid h0
    by_cases h1 : k < 0
    · have q1 : decide (k < 0) = true := by simpa using h1
      clear h0 h1
      go_enter Try.func28, Try.ntmps28
      go_wp2_with (first
        | (with_reducible refine wpList_store_fresh rfl 49 _ _ rfl _ (by simp) 49 _ [.int .i64 0, .int .i64 0, .int .i64 0, .int .i64 0, .int .i64 0, .int .i64 0, .int .i64 0, .int .i64 0, .int .i64 0, .int .i64 0, .int .i64 0, .int .i64 0, .int .i64 0, .int .i64 0, .int .i64 0, .int .i64 0, .int .i64 0, .int .i64 0, .slice none 0 0, .slice none 0 0, .bool false, .int .i64 0, .int .i64 0, .int .i64 0, .int .i64 0, .int .i64 0, .int .i64 0, .int .i64 0, .int .i64 0, .bool false] rfl rfl rfl (by kernel_rfl) rfl ?_))
      refine bodyPost_ret (results_cv rfl rfl rfl FH.out.cel.whole _ Try.underlying49 rfl (by kernel_rfl)) rfl ?_
      exact ⟨Mv.zero, by rw [HL.out]; rfl, rfl, Txt.zero _ _, HB.out⟩
    · have q1 : decide (k < 0) = false := by simpa using h1
      have q2 : decide ((s.ms.length : Int) ≤ k) = true := by
        have : k < 0 ∨ (s.ms.length : Int) ≤ k := by
          rcases Classical.em (k < 0 ∨ (s.ms.length : Int) ≤ k) with q | q
          · exact q
          · rw [St.lk_ok q] at h0; cases h0
        simp; omega
      clear h0 h1
      go_enter Try.func28, Try.ntmps28
      go_wp2_with (first
        | (with_reducible refine wpList_store_fresh rfl 49 _ _ rfl _ (by simp) 49 _ [.int .i64 0, .int .i64 0, .int .i64 0, .int .i64 0, .int .i64 0, .int .i64 0, .int .i64 0, .int .i64 0, .int .i64 0, .int .i64 0, .int .i64 0, .int .i64 0, .int .i64 0, .int .i64 0, .int .i64 0, .int .i64 0, .int .i64 0, .int .i64 0, .slice none 0 0, .slice none 0 0, .bool false, .int .i64 0, .int .i64 0, .int .i64 0, .int .i64 0, .int .i64 0, .int .i64 0, .int .i64 0, .int .i64 0, .bool false] rfl rfl rfl (by kernel_rfl) rfl ?_))
      refine bodyPost_ret (results_cv rfl rfl rfl FH.out.cel.whole _ Try.underlying49 rfl (by kernel_rfl)) rfl ?_
      exact ⟨Mv.zero, by rw [HL.out]; rfl, rfl, Txt.zero _ _, HB.out⟩
  · obtain ⟨b, o, x, rfl, hb, hr, hm, ht⟩ := HH.out.at hj
    have HR := Lib.hid (range_below hr hb HB0.out)
    have HM := Lib.hid (show x.m = s.at j by rw [St.at_eq hj]; exact hm)
    have HL := Lib.hid h0
    have q1 : (j : Int) < (s.ms.length : Int) := by omega
    have RH := Lib.hid (show Hold ((w.alloc (.cells #[.int .i64 s.room, .slice (some ⟨b, o, none⟩) s.ms.length c, .int .i64 s.sent, .int .i64 s.came, .int .i64 s.lost] 29)).alloc (.cells x.cells.toArray 49)) (w.heap.size + 1) 49 x.cells from by have := Hold.new (w.alloc (.cells #[.int .i64 s.room, .slice (some ⟨b, o, none⟩) s.ms.length c, .int .i64 s.sent, .int .i64 s.came, .int .i64 s.lost] 29)) x.cells 49; simpa using this)
    have b1 := below_new (o := .cells x.cells.toArray 49) (below_new (o := .cells #[.int .i64 s.room, .slice (some ⟨b, o, none⟩) s.ms.length c, .int .i64 s.sent, .int .i64 s.came, .int .i64 s.lost] 29) (Below.refl w.heap.size w))
    have B1 := Lib.hid b1
    have HT := Lib.hid (ht.below b1)
    have HONE := Lib.hid ht.one
    clear hr ht hm h0 hb b1
    go_enter Try.func28, Try.ntmps28
    go_wp2_with (first
      | (with_reducible refine wpList_load_mid rfl 49 _ rfl b (o + j * 30) rfl _ _ HR.out Try.underlying49 rfl (mv_size _) ?_)
      | (with_reducible refine wpList_store_fresh rfl 49 _ _ rfl _ (by simp) 49 _ x.cells rfl rfl rfl (mv_size _) HONE.out ?_))
    refine bodyPost_ret (results_cv rfl rfl rfl RH.out.cel.whole _ Try.underlying49 rfl (by kernel_rfl)) rfl ?_
    exact ⟨x, by rw [HL.out]; rfl, HM.out, HT.out, B1.out⟩
end Go.Proofs.Ytnahboflpipfpaa
