/- Contracts of keys.Runes and of the document's Runes and Weight; no conditions but the lengths that they name. -/
import Derived.Test.YthjahiaomllneaaWalksB
import Derived.Maps.AppendAt
namespace Go.Proofs.Ythjahiaomllneaa
open Go.RowKit

theorem info21 : (Try.prog.info? 21).map (fun i => (i.zero, i.size, i.bytes)) = some (some (.int .i32 0), 1, 4) := by kernel_rfl
theorem info3 : (Try.prog.info? 3).map (fun i => (i.zero, i.size, i.bytes)) = some (some (.int .i64 0), 1, 8) := by kernel_rfl

/-- A new row of numbers. -/
def Nums (t : TypeId) (k : IntKind) (l : List Nat) (w : World) (e : Ending) (w' : World) : Prop := ∃ v, e = .returned v ∧ w'.ownsRow w.heap.size t 1 v l.length (l.map fun n => .int k (n : Nat)) ∧ Below w.heap.size w w'

theorem ownsRow_iterAt {w : World} {base : Nat} {t : TypeId} {v : Value} {n : Nat} {xs : List Value} {k : Nat} {s : ByteArray} {p : Nat} (h : w.ownsRow base t 1 v n xs) (hk : w.heap[k]? = some (.stringIter s p)) (q : Nat) : (w.iterAt k s q).ownsRow base t 1 v n xs := by
  refine ⟨h.1, ?_⟩
  rcases h.2 with h0 | ⟨g, cap, cur, hv, hg, hb, r⟩
  · exact .inl h0
  · refine .inr ⟨g, cap, cur, hv, hg, ?_, r⟩
    rw [Lib.iterAt_other w k g s q (fun e => by rw [e, hk] at hb; cases hb)]
    exact hb
theorem ownsRow_base {w : World} {base base' : Nat} {t : TypeId} {v : Value} {n : Nat} {xs : List Value} (h : w.ownsRow base t 1 v n xs) (hb : base' ≤ base) : w.ownsRow base' t 1 v n xs := by
  refine ⟨h.1, ?_⟩
  rcases h.2 with h0 | ⟨g, cap, cur, hv, hg, r⟩
  · exact .inl h0
  · exact .inr ⟨g, cap, cur, hv, Nat.le_trans hb hg, r⟩
theorem iter_grown {w w' : World} {base : Nat} {t : TypeId} {v : Value} {n : Nat} {xs : List Value} {k : Nat} {o : Obj} (h : w.ownsRow base t 1 v n xs) (hb : k < base) (hg : w.grownBy w' v.ownBlock) (hk : w.heap[k]? = some o) : w'.heap[k]? = some o := by
  have hlt : k < w.heap.size := (Array.getElem?_eq_some_iff.1 hk).1
  rw [hg.block k hlt (fun e => by have := (h.lt k e.symm).1; omega)]
  exact hk
theorem iter_alloc {w : World} {k : Nat} {o : Obj} (hk : w.heap[k]? = some o) (x : Obj) : (w.alloc x).heap[k]? = some o := by
  rw [Below.heap_alloc w x k (Array.getElem?_eq_some_iff.1 hk).1]; exact hk

set_option maxHeartbeats 1000000 in
set_option maxRecDepth 100000 in
theorem runes_any (s : ByteArray) (w : World) (hs : s.size ≤ 2000) : Calls Try.prog 10 #[.string s] w (Nums 21 .i32 (M.runes s) w) := by
  obtain ⟨i0, hi, hz0, hz1, hz2⟩ := info_parts info21
  go_enter Try.func10, Try.ntmps10
  go_wp2
  go_loopw [3] (fun v wr => ∃ (pos fuel : Nat) (acc : List Nat), wr.heap[w.heap.size]? = some (.stringIter s pos) ∧ Below w.heap.size w wr ∧ acc ++ M.runesFrom s fuel pos = M.runes s ∧ s.size ≤ pos + fuel ∧ wr.ownsRow (w.heap.size + 1) 21 1 v acc.length (acc.map fun n => .int .i32 (n : Nat))) (fun _ wr => s.size - wr.iterPos w.heap.size)
  case atStart =>
    exact ⟨0, s.size, [], World.iter_heap w s 0, (Below.refl _ w).alloc (Nat.le_refl _) _, rfl, by omega, World.ownsRow_nil _ _ _ _⟩
  case round =>
    obtain ⟨pos, fuel, acc, hit, hbw, hacc, hfu, hown⟩ := hrel
    have hl := len_split hacc
    have hsz : w.heap.size < wr.heap.size := (Array.getElem?_eq_some_iff.1 hit).1
    by_cases hp : pos < s.size
    · obtain ⟨w1, hw⟩ : ∃ w1, w1 = wr.iterAt w.heap.size s (pos + M.wd s pos) := ⟨_, rfl⟩
      have hnx : ∀ ty, (Instr.next (.pointer (some ⟨w.heap.size, 0, none⟩)) true ty).run Try.prog wr = .ok (.tuple #[.bool true, .int .i64 pos, .int .i32 (M.rn s pos : Nat)]) w1 := fun ty => by rw [hw]; exact Lib.run_next_any_at wr w.heap.size s pos ty hit hp
      have hw1 := M.wd_pos s pos hp
      have hr1 := M.rn_le s pos
      obtain ⟨f, rfl⟩ : ∃ f, fuel = f + 1 := ⟨fuel - 1, by omega⟩
      rw [M.runesFrom_step s f pos hp] at hacc
      have H1 := Lib.hid (show (acc ++ [M.rn s pos]) ++ M.runesFrom s f (pos + M.wd s pos) = M.runes s by simpa using hacc)
      have H2 := Lib.hid (show w1.heap[w.heap.size]? = some (.stringIter s (pos + M.wd s pos)) by rw [hw]; exact Lib.iterAt_heap wr _ s pos _ hit)
      have H3 := Lib.hid (show Below w.heap.size w w1 by rw [hw]; exact Lib.below_iterAt hbw (Nat.le_refl _) s _)
      have h4 := ownsRow_iterAt hown hit (pos + M.wd s pos)
      rw [← hw] at h4
      have H4 := Lib.hid h4
      have H5 := Lib.hid (show wr.iterPos w.heap.size = pos by simp only [World.iterPos, hit])
      have hs1 : w.heap.size + 1 ≤ w1.heap.size := (Array.getElem?_eq_some_iff.1 H2.out).1
      clear hacc hit hbw hw hown h4
      go_wp2_with (at_builtin; refine wpList_append_own _ rfl _ _ 23 rfl (w.heap.size + 1) 21 i0 (.int .i32 0) 1 4 Try.underlying23 hi hz0 hz1 hz2 rfl (by decide) _ _ _ rfl (H4.out.alloc _) ⟨w1.heap.size, 0, none⟩ 1 1 [.int .i32 (M.rn s pos : Nat)] rfl rfl (cell_one_new _ _ _) (ints_oneCell .i32 [(M.rn s pos : Int)]) (by unfold maxLen; omega) (by omega) (by simp; omega) ?_; intro v' w2 hown' hgrow hnil)
      have G1 := Lib.hid hown'
      have G2 := Lib.hid (iter_grown (H4.out.alloc _) (Nat.lt_succ_self _) hgrow (iter_alloc H2.out _))
      have G3 := Lib.hid ((H3.out.alloc (by omega) _).grown hgrow (by simp; omega) (fun k hk => Nat.le_of_succ_le (H4.out.lt k hk).1))
      clear hown' hgrow hnil
      go_wp2
      go_roundw
      case rel => exact ⟨pos + M.wd s pos, f, acc ++ [M.rn s pos], G2.out, G3.out, H1.out, by omega, by simpa using G1.out⟩
      case measure =>
        rw [H5.out]
        simp only [World.iterPos, G2.out]
        omega
    · have hnx : ∀ ty, (Instr.next (.pointer (some ⟨w.heap.size, 0, none⟩)) true ty).run Try.prog wr = .ok (.tuple #[.bool false]) wr := fun ty => Lib.run_next_end_at wr w.heap.size s pos ty hit hp
      have H2 := Lib.hid hacc
      have H3 := Lib.hid hbw
      have H4 := Lib.hid hown
      clear hacc hit hbw hown
      go_wp2
      go_ret
      have := H2.out
      rw [M.runesFrom_end s fuel pos hp, List.append_nil] at this
      subst this
      exact ⟨_, rfl, ownsRow_base H4.out (Nat.le_succ _), H3.out⟩
end Go.Proofs.Ythjahiaomllneaa
