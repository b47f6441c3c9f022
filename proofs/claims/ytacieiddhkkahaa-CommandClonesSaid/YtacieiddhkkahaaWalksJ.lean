/- Contract of Meet; no conditions but the lengths that it names. -/
import Derived.Test.YtacieiddhkkahaaWalksI
import Derived.Maps.OwnSet
import Derived.Maps.AppendAt
namespace Go.Proofs.Ytacieiddhkkahaa
open Go.RowKit Go.Maps

theorem law9 : Keyed Try.prog 9 := string_keyed Try.underlying9
theorem zero47 (w : World) : (zeroValue 78).run Try.prog w = .ok (.agg #[]) w := by kernel_rfl

namespace M
/-- The set of texts. -/
def setL (l : List (List UInt8)) : DataW Unit := setOf (.agg []) (l.map Lit.string)
theorem setL_snoc (l : List (List UInt8)) (x : List UInt8) : setL (l ++ [x]) = (setL l).put (.string x) (.agg []) := by
  unfold setL; rw [List.map_append]; exact setOf_snoc _ _ _
theorem setL_nil : setL [] = .map [] := rfl
theorem any_str (x : List UInt8) : ∀ l : List (List UInt8), (l.map Lit.string).any (fun y => y.sameKey (.string x)) = inB l x
  | [] => rfl
  | y :: l => by
    rw [List.map_cons, List.any_cons, any_str x l, Bool.eq_iff_iff, Bool.or_eq_true, inB_iff, inB_iff, List.mem_cons]
    show ((y == x) = true ∨ x ∈ l) ↔ _
    rw [beq_iff_eq, eq_comm]
theorem has_setL (l : List (List UInt8)) (x : List UInt8) : Maps.has (setL l) (.string x) = inB l x := by
  unfold setL
  rw [has_setOf _ _ _ (fun y hy => by rw [List.mem_map] at hy; obtain ⟨z, _, rfl⟩ := hy; trivial), any_str]
/-- Is one of the ones among the others? -/
def meetB (ss ts : List (List UInt8)) : Bool := ts.any (inB ss)
theorem meetB_iff {ss ts : List (List UInt8)} : meetB ss ts = true ↔ ∃ x, x ∈ ts ∧ x ∈ ss := by simp [meetB, List.any_eq_true, inB]
theorem meet_at {ss ts : List (List UInt8)} {k : Nat} {x : List UInt8} (hk : k < ts.length) (hx : x = ts.getD k []) (h : inB ss x = true) : true = meetB ss ts := by
  rw [eq_comm, meetB_iff]; exact ⟨x, by rw [hx]; exact getD_mem hk, inB_iff.1 h⟩
theorem meet_take {ss ts : List (List UInt8)} {k : Nat} {x : List UInt8} (hk : k < ts.length) (hx : x = ts.getD k []) (h : meetB ss (ts.take k) = false) (hn : inB ss x = false) : meetB ss (ts.take (k + 1)) = false := by
  rw [take_succ hk]
  unfold meetB at *
  rw [List.any_append, h, ← hx]
  simp [hn]
theorem meet_end {ss ts : List (List UInt8)} {k : Nat} (hk : ¬ k < ts.length) (h : meetB ss (ts.take k) = false) : false = meetB ss ts := by
  rw [List.take_of_length_le (by omega)] at h; exact h.symm
end M

theorem key_of {x : List UInt8} (h : x.length ≤ 1000) : keyOf Try.prog 9 (.string ⟨x.toArray⟩) = some (.string x) := by
  have := Go.WideMaps.keyOf_string_mk (k := 9) Try.underlying9 (s := ⟨x.toArray⟩) (by rw [size_mk]; unfold maxLen; omega)
  simpa using this

set_option maxHeartbeats 2000000 in
set_option maxRecDepth 100000 in
theorem meet_any {w : World} {v u : Value} {ss ts : List (List UInt8)} (h : Words w v ss) (h' : Words w u ts) (hl : ss.length ≤ 1000) (hl' : ts.length ≤ 1000) (hs : ∀ x ∈ ss, x.length ≤ 1000) (hs' : ∀ x ∈ ts, x.length ≤ 1000) :
    Calls Try.prog 42 #[v, u] w fun e w' => e = .returned (.bool (M.meetB ss ts)) ∧ Below w.heap.size w w' := by
  obtain ⟨A, c, rfl, hc, hx⟩ := h.opened
  obtain ⟨A', c', rfl, hc', hx'⟩ := h'.opened
  have HX := Lib.hid hx
  have HX' := Lib.hid hx'
  have HL := Lib.hid hs
  have HL' := Lib.hid hs'
  clear hx hx' h h' hs hs'
  have hmm := @run_makeMap Try.prog
  go_enter Try.func42, Try.ntmps42
  go_wp2
  go_loopw [15] (fun i wr => ∃ k : Nat, k ≤ ss.length ∧ i = .int .i64 k ∧ wr.ownsMap Try.prog 9 unitElem w.heap.size k (M.setL (ss.take k)) ∧ Below w.heap.size w wr ∧ w.heap.size < wr.heap.size) (fun i _ => ss.length - (intOf i).toNat)
  case atStart => exact ⟨0, Nat.zero_le _, rfl, World.ownsMap_made _ _ _ _, (Below.refl _ _).alloc (Nat.le_refl _) _, by simp⟩
  case round =>
    obtain ⟨k, hk, rfl, hown, hbw, hsz⟩ := hrel
    by_cases hlt : k < ss.length
    · obtain ⟨b, o, rfl, hb, hy⟩ := HX.out (by omega)
      have hcell := (hbw.cell (p := ⟨b, o + k, none⟩) hb).trans (hy k hlt)
      obtain ⟨x, hxk⟩ : ∃ x, x = ss.getD k [] := ⟨_, rfl⟩
      rw [← hxk] at hcell
      have hx1 : x.length ≤ 1000 := by rw [hxk]; exact HL.out _ (M.getD_mem hlt)
      have hkey := Lib.hid (key_of hx1)
      have HT := Lib.hid (show ss.take (k + 1) = ss.take k ++ [x] by rw [M.take_succ hlt, hxk])
      have HO := Lib.hid hown
      have HB := Lib.hid hbw
      clear hy hxk hown hbw
      go_wp2_with (at_mapUpdate; refine wpList_mapUpdate_own _ rfl _ _ _ 77 rfl 9 78 law9 Try.underlying77 (unitElem (H := Unit)) w.heap.size k _ rfl HO.out (by unfold maxLen; omega) _ _ _ rfl rfl hkey.out _ [] unitElem_mk ?_; intro w1 hown1 hgrow1)
      have G1 := Lib.hid (show w1.ownsMap Try.prog 9 unitElem w.heap.size (k + 1) (M.setL (ss.take (k + 1))) by rw [HT.out, M.setL_snoc]; exact hown1)
      have G2 := Lib.hid (HB.out.grown hgrow1 (by omega) (fun j hj => by cases hj; exact Nat.le_refl _))
      have hsz1 : w.heap.size < w1.heap.size := Nat.lt_of_lt_of_le hsz hgrow1.size
      clear hown1 hgrow1
      go_wp2
      go_roundw
      case rel => exact ⟨k + 1, by omega, by go_num, G1.out, G2.out, hsz1⟩
      case measure => simp [intOf]; omega
    · obtain rfl : k = ss.length := by omega
      rw [List.take_length] at hown
      have HO := Lib.hid hown
      have HB := Lib.hid hbw
      clear hown hbw
      go_wp2
      obtain ⟨w1, hw1⟩ : ∃ w1 : World, w1 = wr := ⟨_, rfl⟩
      go_loopw [25] (fun i wr => ∃ k : Nat, k ≤ ts.length ∧ i = .int .i64 k ∧ wr.ownsMap Try.prog 9 unitElem w.heap.size ss.length (M.setL ss) ∧ Below w.heap.size w wr ∧ w.heap.size < wr.heap.size ∧ M.meetB ss (ts.take k) = false) (fun i _ => ts.length - (intOf i).toNat)
      case atStart => exact ⟨0, Nat.zero_le _, rfl, HO.out, HB.out, hsz, rfl⟩
      case round =>
        clear HO HB hsz hw1
        obtain ⟨k, hk, rfl, hown, hbw, hsz, hme⟩ := hrel
        by_cases hlt : k < ts.length
        · obtain ⟨b, o, rfl, hb, hy⟩ := HX'.out (by omega)
          have hcell := (hbw.cell (p := ⟨b, o + k, none⟩) hb).trans (hy k hlt)
          obtain ⟨x, hxk⟩ : ∃ x, x = ts.getD k [] := ⟨_, rfl⟩
          rw [← hxk] at hcell
          have hx1 : x.length ≤ 1000 := by rw [hxk]; exact HL'.out _ (M.getD_mem hlt)
          have hkey := Lib.hid (key_of hx1)
          have HXK := Lib.hid hxk
          have HO := Lib.hid hown
          have HB := Lib.hid hbw
          have HM := Lib.hid hme
          have hhas := M.has_setL ss x
          clear hy hxk hown hbw hme
          rcases two (M.inB ss x) with e | e
          · rw [e] at hhas
            go_wp2_with (at_lookup; refine wpList_lookup_own_unit _ rfl _ _ 77 rfl 9 78 law9 Try.underlying77 (zero47 _) w.heap.size ss.length _ rfl HO.out _ _ rfl hkey.out ?_)
            go_ret
            exact ⟨ret_bool (M.meet_at hlt HXK.out e), HB.out.alloc (by omega) _⟩
          · rw [e] at hhas
            go_wp2_with (at_lookup; refine wpList_lookup_own_unit _ rfl _ _ 77 rfl 9 78 law9 Try.underlying77 (zero47 _) w.heap.size ss.length _ rfl HO.out _ _ rfl hkey.out ?_)
            go_roundw
            case rel => exact ⟨k + 1, by omega, by go_num, HO.out.alloc _, HB.out.alloc (by omega) _, by simp; omega, M.meet_take hlt HXK.out HM.out e⟩
            case measure => simp [intOf]; omega
        · have HB := Lib.hid hbw
          have HM := Lib.hid hme
          clear hown hbw hme
          go_wp2
          go_ret
          exact ⟨ret_bool (M.meet_end hlt HM.out), HB.out⟩
end Go.Proofs.Ytacieiddhkkahaa
