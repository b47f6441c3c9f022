/- Contracts: a message put behind the others of a net, and one taken out; no conditions but those that they name. -/
import Derived.Test.YtnahboflpipfpaaCat
import Derived.Test.YtnahboflpipfpaaApa
import Derived.Deep.RegionWith
import Derived.IntWalk
namespace Go.Proofs.Ytnahboflpipfpaa
open Go.ChangeShapes Go.WideShapes Go.ChangeAt Go.RowKit

def only (g : Nat) (x : Nat) : Prop := x = g
theorem no_void (x : Nat) (h : (fun _ : Nat => False) x) : False := h
/-- A net whose list and counts were written anew. -/
theorem NtY.write {w w' : World} {g : Nat} {F : Nat → Prop} {s s' : St} {v v' : Value} {Y Y' : List (Nat × Mv)} (h : NtY w g F s v Y) (k : Keeps (only g) w w') (hb : Hold w' g 74 [.int .i64 s'.sent, .int .i64 s'.came, .int .i64 s'.lost, .int .i64 s'.room, v'])
    (hr : RowN 1 w' v' Y'.length (Y'.map fun y => ptrV y.1)) (ho : OutN (Or1 g F) w' v' Y'.length) (hy : ∀ y ∈ Y', Ptr (Or1 g F) w y) (hm : Y'.map (fun y => y.2.m) = s'.ms) : NtY w' g F s' v' Y' :=
  ⟨hb, hr, ho, fun y hm => (hy y hm).step k (fun _ e => .inl e) (fun _ e => .inl e), hm, h.ng, fun x f => Nat.lt_of_lt_of_le (h.lt x f) k.size⟩
theorem NtY.out_new {w w' : World} {g : Nat} {F : Nat → Prop} {s : St} {v u : Value} {Y : List (Nat × Mv)} (h : NtY w g F s v Y) {t : TypeId} {k n : Nat} {xs : List Value} (o : w'.ownsRow w.heap.size t k u n xs) : Out (Or1 g F) w' u :=
  Out.of_owns o (fun x e => e.elim (fun e => e ▸ hold_lt h.blk) (h.lt x))

set_option maxHeartbeats 4000000 in
set_option maxRecDepth 100000 in
theorem put_any {w : World} {g : Nat} {F : Nat → Prop} {s : St} (h : Nt w g F s) {y : Nat × Mv} (hy : Ptr (Or1 g F) w y) (hl : s.ms.length ≤ 1000) :
    Calls Try.prog 37 #[ptrV g, ptrV y.1] w fun e w' => e = .returned (.tuple #[]) ∧ Nt w' g F { s with ms := s.ms ++ [y.2.m] } ∧ Keeps (only g) w w' := by
  obtain ⟨v, Y, h⟩ := h
  have HN := Lib.hid h
  have HY := Lib.hid hy
  have hlen := h.len
  obtain ⟨A, c, rfl, hc⟩ := rowN_sliceOf h.row
  have c4 := hold_cell h.blk 4 rfl
  have f4 := hold_soft h.blk 4
  have hg := hold_lt h.blk
  have hr0 : RowN 1 w (.slice A Y.length Y.length) Y.length (Y.map fun y => ptrV y.1) := by
    obtain ⟨hl, A', c', ev, hc', hx⟩ := h.row
    cases ev
    exact ⟨hl, A, Y.length, rfl, Nat.le_refl _, hx⟩
  obtain ⟨v', w', hr, hown, hb⟩ := append_full (w := w) (ptrV y.1) rfl hr0 (by intro u hu; obtain ⟨q, _, rfl⟩ := List.mem_map.1 hu; rfl) (by omega)
  obtain ⟨A3, k3, rfl⟩ := ownsRow_slice hown
  have c4' := (hb.cell (p := ⟨g, 4, none⟩) hg).trans c4
  have f4' := (hb.frozen (p := ⟨g, 4, none⟩) hg).trans f4
  have HO := Lib.hid hown
  have HB := Lib.hid hb
  have HL := Lib.hid hlen
  unfold ptrV at hr ⊢
  clear h hy hlen hr0 hown hb
  go_enter Try.func37, Try.ntmps37
  go_wp2_with (at_builtin; refine Lib.wpList_append_run _ rfl _ _ _ _ rfl _ _ rfl rfl _ _ hr ?_)
  refine bodyPost_end (v := .tuple #[]) (by simp [results, Try.results37]) rfl ?_
  have kb : Keeps (only g) w (w'.setCell ⟨g, 4, none⟩ (.slice A3 (Y.length + 1) k3)) := (Keeps.of_below (F := only g) HB.out).setCell (p := ⟨g, 4, none⟩) (.inl rfl) _
  have hh := hold_put (HN.out.blk.on HB.out) 4 (.slice A3 (Y.length + 1) k3)
  have ng : ∀ b, (Value.slice A3 (Y.length + 1) k3).ownBlock = some b → ¬ only g b := fun b e f => by have := (HO.out.lt b e).1; rw [f] at this; omega
  have ho := owns_keeps HO.out ((Keeps.refl (only g) w').setCell (p := ⟨g, 4, none⟩) (.inl rfl) (.slice A3 (Y.length + 1) k3)) ng
  refine ⟨rfl, ⟨.slice A3 (Y.length + 1) k3, Y ++ [y], HN.out.write (s' := { s with ms := s.ms ++ [y.2.m] }) kb hh ?_ (fun _ => HN.out.out_new ho) ?_ ?_⟩, kb⟩
  · have := RowN.of_owns ho
    rw [List.length_append, List.map_append]
    exact this
  · intro z hz
    rcases List.mem_append.1 hz with hz | hz
    · exact HN.out.tx z hz
    · rw [List.mem_singleton.1 hz]; exact HY.out
  · rw [List.map_append, HN.out.ms]; rfl

set_option maxHeartbeats 4000000 in
set_option maxRecDepth 100000 in
theorem remove_any {w : World} {g : Nat} {F : Nat → Prop} {s : St} (h : Nt w g F s) {k : Nat} (hk : k < s.ms.length) (hl : s.ms.length ≤ 1000) :
    Calls Try.prog 38 #[ptrV g, .int .i64 k] w fun e w' => e = .returned (.tuple #[]) ∧ Nt w' g F { s with ms := s.ms.take k ++ s.ms.drop (k + 1) } ∧ Keeps (only g) w w' := by
  obtain ⟨v, Y, h⟩ := h
  have HN := Lib.hid h
  have hlen := h.len
  obtain ⟨b, o, c, rfl, hc, hb0, hx0⟩ : ∃ b o c, v = .slice (some ⟨b, o, none⟩) Y.length c ∧ Y.length ≤ c ∧ b < w.heap.size ∧ ∀ (j : Nat) (x : Value), (Y.map fun y => ptrV y.1)[j]? = some x → w.cell? ⟨b, o + j, none⟩ = some x := by
    obtain ⟨hl, A, c, ev, hc, hx⟩ := h.row
    obtain ⟨b, o, e, hb, hy⟩ := hx (by omega)
    exact ⟨b, o, c, by rw [ev, e], hc, hb, hy⟩
  have c4 := hold_cell h.blk 4 rfl
  have f4 := hold_soft h.blk 4
  have hg := hold_lt h.blk
  have HX := Lib.hid hx0
  have HL := Lib.hid hlen
  rw [← hlen] at hk hl
  have d1 : decide ((k : Int) ≤ (c : Int)) = true := by simp; omega
  have d2 : decide ((k : Int) + 1 ≤ (Y.length : Int)) = true := by simp; omega
  have e1 : IntKind.i64.wrap ((k : Int) + 1) = (k : Int) + 1 := IntWalk.i64_in _ (by omega)
  have e2 : (0 : Int) ≤ (k : Int) + 1 := by omega
  have e3 : ((k : Int) + 1).toNat = k + 1 := by omega
  unfold ptrV
  clear h hlen hx0
  go_enter Try.func38, Try.ntmps38
  go_wp2
  have HT : Hid (∀ w' : World, Below w.heap.size w w' → Ptrs w' (.slice (some ⟨b, o, none⟩) k c) ((Y.take k).map (·.1))) := Lib.hid (fun w' hb => by
    refine ⟨by simp, some ⟨b, o, none⟩, c, by simp; omega, by simp; omega, fun _ => ⟨b, o, rfl, by have := hb.size; omega, fun j x hj => (hb.cell (p := ⟨b, o + j, none⟩) hb0).trans (HX.out j x ?_)⟩⟩
    have hjk : j < k := by have := (List.getElem?_eq_some_iff.1 hj).1; simp at this; omega
    rw [List.map_map, List.map_take, List.getElem?_take_of_lt hjk] at hj
    exact hj)
  have HD : Hid (∀ (w' : World) (o' c' : Nat), Below w.heap.size w w' → (k + 1 < Y.length → o' = o + (k + 1)) → Y.length - (k + 1) ≤ c' → Ptrs w' (.slice (some ⟨b, o', none⟩) (Y.length - (k + 1)) c') ((Y.drop (k + 1)).map (·.1))) := Lib.hid (fun w' o' c' hb ho hc' => by
    refine ⟨by simp, some ⟨b, o', none⟩, c', by simp, by simp; omega, fun h0 => ⟨b, o', rfl, by have := hb.size; omega, fun j x hj => ?_⟩⟩
    simp at h0
    rw [ho (by omega)]
    rw [show o + (k + 1) + j = o + (k + 1 + j) by omega]
    refine (hb.cell (p := ⟨b, o + (k + 1 + j), none⟩) hb0).trans (HX.out (k + 1 + j) x ?_)
    rw [List.map_map, List.map_drop, List.getElem?_drop] at hj
    exact hj)
  have HF : Hid (∀ (w1 : World) (v1 : Value), w1.ownsRow w.heap.size 83 1 v1 ((Y.take k).map (·.1) ++ (Y.drop (k + 1)).map (·.1)).length (((Y.take k).map (·.1) ++ (Y.drop (k + 1)).map (·.1)).map ptrV) → Below w.heap.size w w1 →
      Nt (w1.setCell ⟨g, 4, none⟩ v1) g F { s with ms := s.ms.take k ++ s.ms.drop (k + 1) } ∧ Keeps (only g) w (w1.setCell ⟨g, 4, none⟩ v1)) := Lib.hid (fun w1 v1 o1 hb => by
    have kb : Keeps (only g) w (w1.setCell ⟨g, 4, none⟩ v1) := (Keeps.of_below (F := only g) hb).setCell (p := ⟨g, 4, none⟩) (.inl rfl) _
    have hh := hold_put (HN.out.blk.on hb) 4 v1
    have ng : ∀ b, v1.ownBlock = some b → ¬ only g b := fun b e f => by have := (o1.lt b e).1; rw [f] at this; omega
    have ho := owns_keeps o1 ((Keeps.refl (only g) w1).setCell (p := ⟨g, 4, none⟩) (.inl rfl) v1) ng
    have el : (Y.take k ++ Y.drop (k + 1)).map (fun y => ptrV y.1) = ((Y.take k).map (·.1) ++ (Y.drop (k + 1)).map (·.1)).map ptrV := by
      simp only [List.map_append, List.map_take, List.map_drop, List.map_map]
      rfl
    refine ⟨⟨v1, Y.take k ++ Y.drop (k + 1), HN.out.write (s' := { s with ms := s.ms.take k ++ s.ms.drop (k + 1) }) kb hh ?_ (fun _ => HN.out.out_new ho) ?_ ?_⟩, kb⟩
    · have := RowN.of_owns ho
      rw [el]
      rw [← List.map_append, List.length_map] at this
      rw [← List.map_append]
      exact this
    · intro z hz
      rcases List.mem_append.1 hz with hz | hz
      · exact HN.out.tx z (List.mem_of_mem_take hz)
      · exact HN.out.tx z (List.mem_of_mem_drop hz)
    · rw [List.map_append, List.map_take, List.map_drop, HN.out.ms])
  have l1 : ((Y.take k).map (·.1)).length ≤ 1000 := by simp; omega
  have l2 : ((Y.drop (k + 1)).map (·.1)).length ≤ 1000 := by simp; omega
  by_cases hck : c = k + 1
  · subst hck
    have hyl : Y.length = k + 1 := by omega
    have HD0 := Lib.hid (show ∀ w' : World, Below w.heap.size w w' → Ptrs w' (.slice (some ⟨b, o, none⟩) 0 0) ((Y.drop (k + 1)).map (·.1)) from fun w' hb => by
      have := HD.out w' o 0 hb (fun h => absurd h (by omega)) (by omega)
      rwa [show Y.length - (k + 1) = 0 by omega] at this)
    clear hyl
    go_region_with (
      go_at_call 48
      refine (concat72 (HT.out _ ?_) (HD0.out _ ?_) l1 l2 (by simp) (by simp) (by simp)).mono ?_
      · exact (below_new (Below.refl _ _)).drew
      · exact (below_new (Below.refl _ _)).drew
      rintro e w1 ⟨v1, rfl, o1, hb1⟩
      have hb2 := below_on (below_new (o := .cells #[Value.slice (some ⟨b, o, none⟩) k (k + 1), Value.slice (some ⟨b, o, none⟩) 0 0] 72) (Below.refl _ _)).drew hb1
      have c4' := (hb2.cell (p := ⟨g, 4, none⟩) hg).trans c4
      have f4' := (hb2.frozen (p := ⟨g, 4, none⟩) hg).trans f4
      have HQ := Lib.hid (HF.out w1 _ (ownsRow_baseN (base' := w.heap.size) o1 (by simp)) hb2)
      obtain ⟨A3, n3, k3, rfl⟩ : ∃ A n k, v1 = .slice A n k := by
        obtain ⟨A3, k3, e⟩ := ownsRow_slice o1
        exact ⟨_, _, _, e⟩
      clear o1 hb1 hb2)
    all_goals
      go_wp2
      refine bodyPost_end (v := .tuple #[]) (by simp [results, Try.results38]) rfl ?_
      exact ⟨rfl, HQ.out⟩
  · have hck1 : ((c : Int) = (k : Int) + 1) = False := by simp; omega
    go_region_with (
      go_at_call 48
      refine (concat72 (HT.out _ ?_) (HD.out _ (o + (k + 1)) (c - (k + 1)) ?_ (fun _ => rfl) (by omega)) l1 l2 (by simp) (by simp) (by simp)).mono ?_
      · exact (below_new (Below.refl _ _)).drew
      · exact (below_new (Below.refl _ _)).drew
      rintro e w1 ⟨v1, rfl, o1, hb1⟩
      have hb2 := below_on (below_new (o := .cells #[Value.slice (some ⟨b, o, none⟩) k c, Value.slice (some ⟨b, o + (k + 1), none⟩) (Y.length - (k + 1)) (c - (k + 1))] 72) (Below.refl _ _)).drew hb1
      have c4' := (hb2.cell (p := ⟨g, 4, none⟩) hg).trans c4
      have f4' := (hb2.frozen (p := ⟨g, 4, none⟩) hg).trans f4
      have HQ := Lib.hid (HF.out w1 _ (ownsRow_baseN (base' := w.heap.size) o1 (by simp)) hb2)
      obtain ⟨A3, n3, k3, rfl⟩ : ∃ A n k, v1 = .slice A n k := by
        obtain ⟨A3, k3, e⟩ := ownsRow_slice o1
        exact ⟨_, _, _, e⟩
      clear o1 hb1 hb2)
    all_goals
      go_wp2
      refine bodyPost_end (v := .tuple #[]) (by simp [results, Try.results38]) rfl ?_
      exact ⟨rfl, HQ.out⟩
end Go.Proofs.Ytnahboflpipfpaa
