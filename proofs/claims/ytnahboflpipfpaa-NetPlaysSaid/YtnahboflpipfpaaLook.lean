/- Contracts of Look and Take of a net; no conditions but those that they name. -/
import Derived.Test.YtnahboflpipfpaaPut
namespace Go.Proofs.Ytnahboflpipfpaa
open Go.ChangeShapes Go.WideShapes Go.ChangeAt Go.RowKit

def St.at (s : St) (k : Int) : M.Msg := if s.lk k = 0 then s.ms.getD k.toNat Mv.zero.m else Mv.zero.m
theorem St.at_no {s : St} {k : Int} (h : s.lk k = 10) : s.at k = Mv.zero.m := by unfold St.at; rw [if_neg (by rw [h]; decide)]
theorem St.lk_cases (s : St) (k : Int) : s.lk k = 10 ∨ (s.lk k = 0 ∧ ∃ j : Nat, k = j ∧ j < s.ms.length) := by
  by_cases h : k < 0 ∨ (s.ms.length : Int) ≤ k
  · exact .inl (St.lk_no h)
  · exact .inr ⟨St.lk_ok h, k.toNat, by omega, by omega⟩
theorem St.lk_at {s : St} {j : Nat} (h : j < s.ms.length) : s.lk j = 0 := St.lk_ok (by omega)
theorem St.at_eq {s : St} {j : Nat} (h : j < s.ms.length) : s.at j = s.ms[j] := by
  unfold St.at
  rw [if_pos (St.lk_at h), Int.toNat_natCast, List.getD, List.getElem?_eq_getElem h]; rfl
theorem OwnM.zero (B : Nat) (w : World) : OwnM B w Mv.zero := ⟨⟨B, Nat.le_refl _, World.ownsRow_nil _ _ _ _⟩, ⟨B, Nat.le_refl _, World.ownsRow_nil _ _ _ _⟩⟩
/-- All messages may be gone through. -/
def Sm (l : List M.Msg) : Prop := ∀ m ∈ l, M.Mod m.r.c
/-- What Look answers. -/
def Lkd (m : M.Msg) (r : Int) (w : World) (e : Ending) (w' : World) : Prop := ∃ x : Mv, e = .returned (.tuple #[.agg x.cells.toArray, .int .i64 r]) ∧ x.m = m ∧ OwnM w.heap.size w' x ∧ Below w.heap.size w w'

theorem NtY.at {w : World} {g : Nat} {F : Nat → Prop} {s : St} {v : Value} {Y : List (Nat × Mv)} (h : NtY w g F s v Y) {j : Nat} (hj : j < s.ms.length) : ∃ b o c y, v = .slice (some ⟨b, o, none⟩) s.ms.length c ∧ b < w.heap.size ∧ w.cell? ⟨b, o + j, none⟩ = some (ptrV y.1) ∧ Ptr (Or1 g F) w y ∧ y.2.m = s.ms[j] := by
  have hl := h.len
  obtain ⟨A, c, ev, _⟩ := rowN_sliceOf h.row
  have hr := h.row
  rw [ev] at hr
  obtain ⟨y, hy⟩ : ∃ y, Y[j]? = some y := ⟨_, List.getElem?_eq_getElem (by omega)⟩
  obtain ⟨b, o, rfl, hb, hc⟩ := ptrs_at hr hy
  refine ⟨b, o, c, y, by rw [ev, hl], hb, hc, h.tx y (List.mem_of_getElem? hy), ?_⟩
  have e1 : (Y.map (fun y => y.2.m))[j]? = some y.2.m := by rw [List.getElem?_map, hy]; rfl
  rw [h.ms, List.getElem?_eq_getElem hj] at e1
  exact (Option.some.inj e1).symm

set_option maxHeartbeats 8000000 in
set_option maxRecDepth 100000 in
theorem look_nil (k : Int) (w : World) : Calls Try.prog 22 #[.pointer none, .int .i64 k] w (Lkd Mv.zero.m 1 w) := by
  have FH := Lib.hid (Hold.new w [.int .i64 0, .int .i64 0, .int .i64 0, .int .i64 0, .int .i64 0, .int .i64 0, .int .i64 0, .int .i64 0, .int .i64 0, .int .i64 0, .int .i64 0, .int .i64 0, .int .i64 0, .int .i64 0, .int .i64 0, .int .i64 0, .int .i64 0, .int .i64 0, .slice none 0 0, .slice none 0 0, .bool false, .int .i64 0, .int .i64 0, .int .i64 0, .int .i64 0, .int .i64 0, .int .i64 0, .int .i64 0, .int .i64 0, .bool false] 49)
  have B0 := Lib.hid (below_new (o := .cells #[.int .i64 0, .int .i64 0, .int .i64 0, .int .i64 0, .int .i64 0, .int .i64 0, .int .i64 0, .int .i64 0, .int .i64 0, .int .i64 0, .int .i64 0, .int .i64 0, .int .i64 0, .int .i64 0, .int .i64 0, .int .i64 0, .int .i64 0, .int .i64 0, .slice none 0 0, .slice none 0 0, .bool false, .int .i64 0, .int .i64 0, .int .i64 0, .int .i64 0, .int .i64 0, .int .i64 0, .int .i64 0, .int .i64 0, .bool false] 49) (Below.refl w.heap.size w))
  go_enter Try.func22, Try.ntmps22
  go_wp2_with
    (first
     | (go_at_call 40; refine (lacks_nil k _).mono ?_; rintro e w1 ⟨rfl, rfl⟩)
     | (with_reducible refine wpList_store_fresh rfl 49 _ _ rfl _ rfl 49 _ [.int .i64 0, .int .i64 0, .int .i64 0, .int .i64 0, .int .i64 0, .int .i64 0, .int .i64 0, .int .i64 0, .int .i64 0, .int .i64 0, .int .i64 0, .int .i64 0, .int .i64 0, .int .i64 0, .int .i64 0, .int .i64 0, .int .i64 0, .int .i64 0, .slice none 0 0, .slice none 0 0, .bool false, .int .i64 0, .int .i64 0, .int .i64 0, .int .i64 0, .int .i64 0, .int .i64 0, .int .i64 0, .int .i64 0, .bool false] rfl rfl rfl (by kernel_rfl) rfl ?_))
  refine bodyPost_ret (results_cv rfl rfl rfl FH.out.cel.whole _ Try.underlying49 rfl (by kernel_rfl)) rfl ?_
  exact ⟨Mv.zero, rfl, rfl, OwnM.zero _ _, B0.out⟩
set_option maxHeartbeats 8000000 in
set_option maxRecDepth 100000 in
theorem look_any {w : World} {g : Nat} {F : Nat → Prop} {s : St} (h : Nt w g F s) (hm : Sm s.ms) (k : Int) : Calls Try.prog 22 #[ptrV g, .int .i64 k] w (Lkd (s.at k) (s.lk k) w) := by
  have FH := Lib.hid (Hold.new w [.int .i64 0, .int .i64 0, .int .i64 0, .int .i64 0, .int .i64 0, .int .i64 0, .int .i64 0, .int .i64 0, .int .i64 0, .int .i64 0, .int .i64 0, .int .i64 0, .int .i64 0, .int .i64 0, .int .i64 0, .int .i64 0, .int .i64 0, .int .i64 0, .slice none 0 0, .slice none 0 0, .bool false, .int .i64 0, .int .i64 0, .int .i64 0, .int .i64 0, .int .i64 0, .int .i64 0, .int .i64 0, .int .i64 0, .bool false] 49)
  have B0 := Lib.hid (below_new (o := .cells #[.int .i64 0, .int .i64 0, .int .i64 0, .int .i64 0, .int .i64 0, .int .i64 0, .int .i64 0, .int .i64 0, .int .i64 0, .int .i64 0, .int .i64 0, .int .i64 0, .int .i64 0, .int .i64 0, .int .i64 0, .int .i64 0, .int .i64 0, .int .i64 0, .slice none 0 0, .slice none 0 0, .bool false, .int .i64 0, .int .i64 0, .int .i64 0, .int .i64 0, .int .i64 0, .int .i64 0, .int .i64 0, .int .i64 0, .bool false] 49) (Below.refl w.heap.size w))
  have HN := Lib.hid (h.below B0.out)
  rcases s.lk_cases k with h0 | ⟨h0, j, rfl, hj⟩
  · rw [St.at_no h0]
    have HL := Lib.hid h0
    clear h h0 hm
    go_enter Try.func22, Try.ntmps22
    go_wp2_with
      (first
       | (go_at_call 40; refine (lacks_any HN.out k).mono ?_; rintro e w1 ⟨rfl, rfl⟩; rw [HL.out])
       | (with_reducible refine wpList_store_fresh rfl 49 _ _ rfl _ rfl 49 _ [.int .i64 0, .int .i64 0, .int .i64 0, .int .i64 0, .int .i64 0, .int .i64 0, .int .i64 0, .int .i64 0, .int .i64 0, .int .i64 0, .int .i64 0, .int .i64 0, .int .i64 0, .int .i64 0, .int .i64 0, .int .i64 0, .int .i64 0, .int .i64 0, .slice none 0 0, .slice none 0 0, .bool false, .int .i64 0, .int .i64 0, .int .i64 0, .int .i64 0, .int .i64 0, .int .i64 0, .int .i64 0, .int .i64 0, .bool false] rfl rfl rfl (by kernel_rfl) rfl ?_))
    refine bodyPost_ret (results_cv rfl rfl rfl FH.out.cel.whole _ Try.underlying49 rfl (by kernel_rfl)) rfl ?_
    exact ⟨Mv.zero, by rw [HL.out]; rfl, rfl, OwnM.zero _ _, B0.out⟩
  · obtain ⟨v, Y, hn⟩ := HN.out
    obtain ⟨b, o, c, ⟨p, x⟩, rfl, hb, hc, hp, hx⟩ := hn.at hj
    have c4 := hold_cell hn.blk 4 rfl
    dsimp only at hx
    have HX := Lib.hid hp.hold.cel.whole
    have HT := Lib.hid hp.tx
    have HM := Lib.hid (show M.Mod x.m.r.c from by rw [hx]; exact hm _ (List.getElem_mem hj))
    have HE := Lib.hid (show x.m = s.at j by rw [St.at_eq hj]; exact hx)
    have HL := Lib.hid h0
    have hj1 : (j : Int) < (s.ms.length : Int) := by omega
    unfold ptrV at hc ⊢
    clear h h0 hm hn hp hx hb
    go_enter Try.func22, Try.ntmps22
    go_wp2_with
      (first
       | (go_at_call 40; refine (lacks_any HN.out j).mono ?_; rintro e w1 ⟨rfl, rfl⟩; rw [HL.out])
       | (with_reducible refine wpList_load_mid rfl 49 _ rfl p 0 rfl _ _ HX.out Try.underlying49 rfl (mv_size _) ?_)
       | (go_at_call 36
          refine (apart_mv HT.out HM.out).mono ?_
          rintro e w1 ⟨va, vb, rfl, ho, hb⟩
          unfold Mv.val
          have R1 := FH.out.on hb
          have TH := Lib.hid (show w1.there w.heap.size 0 (Mv.cells ⟨x.m, va, vb⟩).length from R1.there (by show 0 + 30 ≤ 30; omega))
          have RH := Lib.hid (Hold.set (Mv.cells ⟨x.m, va, vb⟩) [] [.int .i64 0, .int .i64 0, .int .i64 0, .int .i64 0, .int .i64 0, .int .i64 0, .int .i64 0, .int .i64 0, .int .i64 0, .int .i64 0, .int .i64 0, .int .i64 0, .int .i64 0, .int .i64 0, .int .i64 0, .int .i64 0, .int .i64 0, .int .i64 0, .slice none 0 0, .slice none 0 0, .bool false, .int .i64 0, .int .i64 0, .int .i64 0, .int .i64 0, .int .i64 0, .int .i64 0, .int .i64 0, .int .i64 0, .bool false] [] rfl _ R1)
          have HO := Lib.hid ho
          have HS := Lib.hid (show w.heap.size + 1 ≤ w1.heap.size from by have := hb.size; simp at this; omega)
          have B1 := Lib.hid (below_setCells (Nat.le_refl _) (Mv.cells ⟨x.m, va, vb⟩) 0 w _ (below_on B0.out hb))
          clear R1 hb ho)
       | (with_reducible refine store_list rfl 49 _ _ rfl w.heap.size 0 (Mv.cells ⟨x.m, va, vb⟩) rfl rfl TH.out (mv_size _) HO.out.one ?_))
    refine bodyPost_ret (results_cv rfl rfl rfl RH.out.cel.whole _ Try.underlying49 rfl (by kernel_rfl)) rfl ?_
    exact ⟨⟨x.m, va, vb⟩, by rw [HL.out]; simp only [List.nil_append, List.append_nil]; rfl, HE.out, ownM_base (ownM_put HO.out (by simp) _ _) (by simp), B1.out⟩
end Go.Proofs.Ytnahboflpipfpaa
