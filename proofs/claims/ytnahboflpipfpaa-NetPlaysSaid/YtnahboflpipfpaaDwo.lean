/- The document's without; no conditions but those that it names. -/
import Derived.Test.YtnahboflpipfpaaDlk
import Derived.Test.YtnahboflpipfpaaOrd
namespace Go.Proofs.Ytnahboflpipfpaa
open Go.ChangeShapes Go.WideShapes Go.ChangeAt Go.RowKit

/-- The first q of a list, but for the one at j. -/
def cutG {α : Type} (l : List α) (j q : Nat) : List α := if q ≤ j then l.take q else l.take j ++ (l.take q).drop (j + 1)
theorem cutG_zero {α : Type} (l : List α) (j : Nat) : cutG l j 0 = [] := by unfold cutG; rw [if_pos (Nat.zero_le _)]; rfl
theorem cutG_at {α : Type} (l : List α) (j : Nat) : cutG l j (j + 1) = cutG l j j := by
  unfold cutG
  rw [if_neg (by omega), if_pos (Nat.le_refl _), List.drop_take]
  simp
theorem cutG_succ {α : Type} {l : List α} {j q : Nat} {x : α} (hx : l[q]? = some x) (hq : q ≠ j) : cutG l j (q + 1) = cutG l j q ++ [x] := by
  have ht : l.take (q + 1) = l.take q ++ [x] := by rw [List.take_add_one, hx]; rfl
  unfold cutG
  by_cases h : q < j
  · rw [if_pos (by omega), if_pos (by omega), ht]
  · rw [if_neg (by omega), if_neg (by omega), ht, List.drop_append_of_le_length, List.append_assoc]
    have := (List.getElem?_eq_some_iff.1 hx).1
    rw [List.length_take]; omega
theorem cutG_end {α : Type} {l : List α} {j : Nat} (hj : j < l.length) : cutG l j l.length = l.take j ++ l.drop (j + 1) := by
  unfold cutG
  rw [if_neg (by omega), List.take_length]
theorem cutG_mem {α : Type} {l : List α} {j q : Nat} : ∀ x ∈ cutG l j q, x ∈ l := fun x hx => by
  unfold cutG at hx
  split at hx
  · exact List.mem_of_mem_take hx
  · rcases List.mem_append.1 hx with hx | hx
    · exact List.mem_of_mem_take hx
    · exact List.mem_of_mem_take (List.mem_of_mem_drop hx)
theorem cutG_len {α : Type} {l : List α} {j q : Nat} : (cutG l j q).length ≤ q := by
  unfold cutG
  split
  · exact List.length_take_le _ _
  · rw [List.length_append, List.length_drop, List.length_take, List.length_take]; omega
theorem cutG_map {α β : Type} (f : α → β) (l : List α) (j q : Nat) : (cutG l j q).map f = cutG (l.map f) j q := by
  unfold cutG
  split
  · rw [List.map_take]
  · rw [List.map_append, List.map_take, List.map_drop, List.map_take]
def Wth (F : Nat → Prop) (s : St) (l : List M.Msg) (w : World) (e : Ending) (w' : World) : Prop := ∃ v', e = .returned (.agg (dnL s v').toArray) ∧ Dv0 F w' v' ⟨s.room, s.sent, s.came, s.lost, l⟩ ∧ Below w.heap.size w w'
theorem dn_size (s : St) (v : Value) : (Try.prog.info? 29).map (·.size) = some (dnL s v).length := by kernel_rfl
theorem dn_one (s : St) (A : Option Addr) (n c : Nat) : (dnL s (.slice A n c)).all (·.oneCell') = true := rfl
theorem hold_new1 (w : World) (o : Obj) (L : List Value) (t : TypeId) : Hold ((w.alloc o).alloc (.cells L.toArray t)) (w.heap.size + 1) t L := by
  have := Hold.new (w.alloc o) L t
  rwa [show (w.alloc o).heap.size = w.heap.size + 1 by simp] at this

set_option maxHeartbeats 16000000 in
set_option maxRecDepth 100000 in
theorem without_any {w : World} {F : Nat → Prop} {v : Value} {s : St} (h : Dv0 F w v s) (hF : ∀ x, F x → x < w.heap.size) {j : Nat} (hj : j < s.ms.length) (hl : s.ms.length ≤ 1000) : Calls Try.prog 43 #[.agg (dnL s v).toArray, .int .i64 j] w (Wth F s (s.ms.take j ++ s.ms.drop (j + 1)) w) := by
  obtain ⟨A, c, rfl⟩ := h.slice
  obtain ⟨Y, hY, eY⟩ := h
  have hyl : Y.length = s.ms.length := by rw [← eY, List.length_map]
  have b0 := below_new (o := .cells (dnL ⟨0, 0, 0, 0, []⟩ (.slice none 0 0)).toArray 29) (below_new (o := .cells (dnL s (.slice A s.ms.length c)).toArray 29) (Below.refl w.heap.size w))
  have HB0 := Lib.hid b0
  have HA0 := Lib.hid ((Hold.new w (dnL s (.slice A s.ms.length c)) 29).on (below_new (o := .cells (dnL ⟨0, 0, 0, 0, []⟩ (.slice none 0 0)).toArray 29) (Below.refl _ _)))
  have HC0 := Lib.hid (hold_new1 w (.cells (dnL s (.slice A s.ms.length c)).toArray 29) (dnL ⟨0, 0, 0, 0, []⟩ (.slice none 0 0)) 29)
  have HY := Lib.hid hY
  have HE := Lib.hid eY
  have HL := Lib.hid hyl
  have HF := Lib.hid hF
  obtain ⟨i0, hi, hz0, hz1, hz2⟩ := info_parts info49
  clear b0 hY eY hyl hF
  show Calls Try.prog 43 #[.agg #[.int .i64 s.room, .slice A s.ms.length c, .int .i64 s.sent, .int .i64 s.came, .int .i64 s.lost], .int .i64 j] w _
  go_enter Try.func43, Try.ntmps43
  go_wp2
  have HW := Lib.hid (show (w.alloc (.cells #[.int .i64 s.room, .slice A s.ms.length c, .int .i64 s.sent, .int .i64 s.came, .int .i64 s.lost] 29)).alloc (.cells #[.int .i64 0, .slice none 0 0, .int .i64 0, .int .i64 0, .int .i64 0] 29) = (w.alloc (.cells (dnL s (.slice A s.ms.length c)).toArray 29)).alloc (.cells (dnL ⟨0, 0, 0, 0, []⟩ (.slice none 0 0)).toArray 29) from rfl)
  rw [HW.out]
  generalize hW0 : (w.alloc (.cells (dnL s (.slice A s.ms.length c)).toArray 29)).alloc (.cells (dnL ⟨0, 0, 0, 0, []⟩ (.slice none 0 0)).toArray 29) = W0 at *
  have HS0 := Lib.hid (show W0.heap.size = w.heap.size + 2 by rw [← hW0]; simp)
  clear hW0 HW
  go_loopw [5, 6] (fun lv i wr => ∃ q : Nat, i = .int .i64 q ∧ q ≤ s.ms.length ∧ Hid (wr.ownsRow W0.heap.size 49 30 lv (cutG Y j q).length ((cutG Y j q).flatMap Mv.cells)) ∧ Hid (Below W0.heap.size W0 wr)) (fun _ i _ => s.ms.length - (intOf i).toNat)
  case atStart => exact ⟨0, rfl, Nat.zero_le _, Lib.hid (by rw [cutG_zero]; exact World.ownsRow_nil _ _ _ _), Lib.hid (Below.refl _ _)⟩
  case round =>
    obtain ⟨q, rfl, hq, HO, HQ⟩ := hrel
    have HBW := Lib.hid (below_on HB0.out HQ.out)
    have a1 : wr.cell? ⟨w.heap.size, 1, none⟩ = some (.slice A s.ms.length c) := hold_cell (HA0.out.on HQ.out) 1 rfl
    by_cases hlt : q < s.ms.length
    · have hk1 : (q : Int) < (s.ms.length : Int) := by omega
      by_cases hqj : q = j
      · have d1 : ((q : Int) == (j : Int)) = true := by simp; omega
        have d2 : decide ((q : Int) = (j : Int)) = true := by simp; omega
        clear d1 d2
        obtain rfl : q = j := hqj
        have HO2 := HO.out
        rw [← cutG_at] at HO2
        have HO3 := Lib.hid HO2
        clear HO2
        go_wp2
        go_roundw
        case rel => exact ⟨q + 1, by go_num, hlt, HO3, HQ⟩
        case measure => simp [intOf]; omega
      · have d1 : ((q : Int) == (j : Int)) = false := by simp; omega
        have d2 : decide ((q : Int) = (j : Int)) = false := by simp; omega
        obtain ⟨x, hx⟩ : ∃ x, Y[q]? = some x := ⟨_, List.getElem?_eq_getElem (by rw [HL.out]; exact hlt)⟩
        have hbw := HBW.out
        have hym := HY.out.below hbw
        obtain ⟨b, o, rfl, hbl, hrr⟩ := msgs_range hym.row hx
        have HX := Lib.hid (hym.tx x (List.mem_of_getElem? hx)).one
        have HRR := Lib.hid hrr
        have HCS := Lib.hid (cutG_succ hx hqj)
        have b1 := below_new (o := .cells x.cells.toArray 49) (Below.refl wr.heap.size wr)
        have HO1 := Lib.hid (ownsRow_on HO.out b1)
        have HQ1 := Lib.hid (below_on HQ.out b1)
        have hcl : (cutG Y j q).length ≤ 1000 := by have := cutG_len (l := Y) (j := j) (q := q); omega
        have hsz : W0.heap.size ≤ wr.heap.size := HQ.out.size
        clear hx hym hbw hrr b1 hqj hbl HO
        go_wp2_with (first
          | (with_reducible refine wpList_load_mid rfl 49 _ rfl b (o + q * 30) rfl _ _ HRR.out Try.underlying49 rfl (mv_size _) ?_)
          | (with_reducible refine wpList_build49 rfl (.tmp 22) rfl x rfl ?_)
          | (at_builtin; refine wpList_append_own _ rfl _ _ 27 rfl W0.heap.size 49 i0 Mv.zero.val 30 272 Try.underlying27 hi hz0 hz1 hz2 rfl (by decide) _ _ _ rfl HO1.out ⟨wr.heap.size, 0, none⟩ 1 1 x.cells rfl rfl (mv_new wr x) (all_mem_one HX.out) (by unfold maxLen; omega) (by omega) (by simp; omega) ?_; intro v' w2 hown' hgrow hnil))
        have HO2 := Lib.hid (show w2.ownsRow W0.heap.size 49 30 v' (cutG Y j (q + 1)).length ((cutG Y j (q + 1)).flatMap Mv.cells) from by
          rw [HCS.out, List.length_append, List.flatMap_append, List.flatMap_singleton]; exact hown')
        have HQ2 := Lib.hid (HQ1.out.grown hgrow (by simp; omega) (fun k hk => (HO1.out.lt k hk).1))
        clear hown' hgrow hnil
        go_roundw
        case rel => exact ⟨q + 1, by go_num, hlt, HO2, HQ2⟩
        case measure => simp [intOf]; omega
    · obtain rfl : q = s.ms.length := by omega
      have ho := HO.out
      rw [← HL.out, cutG_end (by rw [HL.out]; exact hj)] at ho
      obtain ⟨A2, k2, rfl⟩ := ownsRow_slice ho
      have f1 := hold_soft (HA0.out.on HQ.out) 1
      have h1 := hold_put (HA0.out.on HQ.out) 1 (.slice A2 (Y.take j ++ Y.drop (j + 1)).length k2)
      have hs := HS0.out
      have kA : Keeps (only w.heap.size) wr (wr.setCell ⟨w.heap.size, 1, none⟩ (.slice A2 (Y.take j ++ Y.drop (j + 1)).length k2)) := (Keeps.refl (only w.heap.size) wr).setCell (p := ⟨w.heap.size, 1, none⟩) (.inl rfl) _
      have h2 := hold_keeps (HC0.out.on HQ.out) kA (fun e => by unfold only at e; omega)
      have kC := keeps_puts (dnL s (.slice A2 (Y.take j ++ Y.drop (j + 1)).length k2)) 0 (b := w.heap.size + 1) (w := wr.setCell ⟨w.heap.size, 1, none⟩ (.slice A2 (Y.take j ++ Y.drop (j + 1)).length k2))
      have hof := owns_keeps (owns_keeps ho kA (fun b e f => by have := (ho.lt b e).1; unfold only at f; omega)) kC (fun b e f => by have := (ho.lt b e).1; unfold only at f; omega)
      have hbf : Below w.heap.size w ((wr.setCell ⟨w.heap.size, 1, none⟩ (.slice A2 (Y.take j ++ Y.drop (j + 1)).length k2)).setCells (w.heap.size + 1) 0 (dnL s (.slice A2 (Y.take j ++ Y.drop (j + 1)).length k2))) :=
        (HBW.out.trans (kA.below (fun x e => by unfold only at e; omega) HBW.out.size)).trans (kC.below (fun x e => by unfold only at e; omega) (by have := HBW.out.size; have := kA.size; omega))
      have HFIN := Lib.hid (show Wth F s (s.ms.take j ++ s.ms.drop (j + 1)) w (.returned (.agg (dnL s (.slice A2 (Y.take j ++ Y.drop (j + 1)).length k2)).toArray)) _ from
        ⟨_, rfl, ⟨Y.take j ++ Y.drop (j + 1), ⟨RowN.of_owns hof, fun _ => Out.of_owns hof (fun x f => by have := HF.out x f; omega), fun y hy => (HY.out.tx y (by
          rcases List.mem_append.1 hy with hy | hy
          · exact List.mem_of_mem_take hy
          · exact List.mem_of_mem_drop hy)).below hbf⟩, by rw [List.map_append, List.map_take, List.map_drop, HE.out]⟩, hbf⟩)
      have LA := Lib.hid (show World.rangeAt (wr.setCell ⟨w.heap.size, 1, none⟩ (.slice A2 (Y.take j ++ Y.drop (j + 1)).length k2)) w.heap.size 0 (dnL s (.slice A2 (Y.take j ++ Y.drop (j + 1)).length k2)) from h1.cel.whole)
      have TH := Lib.hid (show World.there (wr.setCell ⟨w.heap.size, 1, none⟩ (.slice A2 (Y.take j ++ Y.drop (j + 1)).length k2)) (w.heap.size + 1) 0 (dnL s (.slice A2 (Y.take j ++ Y.drop (j + 1)).length k2)).length from h2.there (by show 0 + 5 ≤ 5; omega))
      have RH := Lib.hid (Hold.set (dnL s (.slice A2 (Y.take j ++ Y.drop (j + 1)).length k2)) [] (dnL ⟨0, 0, 0, 0, []⟩ (.slice none 0 0)) [] rfl _ h2)
      clear ho h1 h2 kA kC hof hbf hs
      generalize hm : (Y.take j ++ Y.drop (j + 1)).length = m at *
      clear hm
      go_wp2_with (first
        | (with_reducible refine wpList_load_mid rfl 29 _ rfl w.heap.size 0 rfl _ _ LA.out Try.underlying29 rfl (dn_size _ _) ?_)
        | (with_reducible refine store_list rfl 29 _ _ rfl (w.heap.size + 1) 0 (dnL s (.slice A2 m k2)) rfl rfl TH.out (dn_size _ _) (dn_one _ _ _ _) ?_))
      refine bodyPost_ret (results_c rfl rfl RH.out.cel.whole _ Try.underlying29 rfl (by kernel_rfl)) rfl ?_
      exact HFIN.out
end Go.Proofs.Ytnahboflpipfpaa
