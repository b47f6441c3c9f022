/- Contracts of same and of copied; no conditions but the lengths that they name. -/
import Derived.Test.YtpdknamdladgnaaMem
namespace Go.Proofs.Ytpdknamdladgnaa
open Go.RowKit

theorem take_snoc (xs : List UInt8) (k : Nat) (h : k < xs.length) : xs.take (k + 1) = xs.take k ++ [xs.getD k 0] := by
  rw [List.take_add_one, List.getElem?_eq_getElem h, List.getD, List.getElem?_eq_getElem h]; rfl

namespace M
def sameB (xs ys : List UInt8) : Bool := decide (xs = ys)
theorem sameB_refl (xs : List UInt8) : sameB xs xs = true := by simp [sameB]
theorem sameB_iff {xs ys : List UInt8} : sameB xs ys = true ↔ xs = ys := by simp [sameB]
theorem same_take {xs ys : List UInt8} {k : Nat} (hk : k < xs.length) (hl : xs.length = ys.length) (h : xs.take k = ys.take k) (hx : (xs.getD k 0).toNat = (ys.getD k 0).toNat) : xs.take (k + 1) = ys.take (k + 1) := by
  rw [take_snoc xs k hk, take_snoc ys k (by omega), h, UInt8.toNat_inj.1 hx]
theorem same_not {xs ys : List UInt8} {k : Nat} (hx : (xs.getD k 0).toNat ≠ (ys.getD k 0).toNat) : false = sameB xs ys := by
  symm; simp only [sameB, decide_eq_false_iff_not]; intro h; exact hx (by rw [h])
theorem same_len {xs ys : List UInt8} (h : xs.length ≠ ys.length) : false = sameB xs ys := by
  symm; simp only [sameB, decide_eq_false_iff_not]; intro h'; exact h (by rw [h'])
theorem same_end {xs ys : List UInt8} {k : Nat} (hk : ¬ k < xs.length) (hl : xs.length = ys.length) (h : xs.take k = ys.take k) : true = sameB xs ys := by
  symm; simp only [sameB, decide_eq_true_eq]
  rw [List.take_of_length_le (by omega), List.take_of_length_le (by omega)] at h
  exact h
end M

set_option maxHeartbeats 1000000 in
theorem same_any {w : World} {v u : Value} {xs ys : List UInt8} (h : Bts w v xs) (h' : Bts w u ys) (hl : xs.length ≤ 100000000) : Calls Try.prog 19 #[v, u] w fun e w' => e = .returned (.bool (M.sameB xs ys)) ∧ Below w.heap.size w w' := by
  obtain ⟨A, c, rfl, hc, hx⟩ := h.opened
  obtain ⟨A', c', rfl, hc', hx'⟩ := h'.opened
  have HX := Lib.hid hx
  have HX' := Lib.hid hx'
  clear hx hx' h h'
  by_cases hn : xs.length = ys.length
  · rw [← hn] at HX' hc' ⊢
    have HN := Lib.hid hn
    clear hn
    go_enter Try.func19, Try.ntmps19
    go_wp2
    go_loopw [13] (fun i wr => ∃ k n : Nat, k ≤ xs.length ∧ i = .int .i64 k ∧ wr = w.drewN n ∧ xs.take k = ys.take k) (fun i _ => xs.length - (intOf i).toNat)
    case atStart => exact ⟨0, 0, Nat.zero_le _, rfl, rfl, rfl⟩
    case round =>
      obtain ⟨k, n, hk, rfl, rfl, htk⟩ := hrel
      have HS := Lib.hid htk
      clear htk
      by_cases hlt : k < xs.length
      · obtain ⟨b, o, rfl, hb, hy⟩ := HX.out (by omega)
        obtain ⟨b', o', rfl, hb', hy'⟩ := HX'.out (by omega)
        have hcell := hy k hlt
        have hcell' := hy' k hlt
        obtain ⟨y, hyk⟩ : ∃ y, y = (xs.getD k 0).toNat := ⟨_, rfl⟩
        obtain ⟨z, hzk⟩ : ∃ z, z = (ys.getD k 0).toNat := ⟨_, rfl⟩
        rw [← hyk] at hcell
        rw [← hzk] at hcell'
        have HY := Lib.hid hyk
        have HZ := Lib.hid hzk
        clear hy hyk hy' hzk
        have hi1 : (k : Int) < (xs.length : Int) := by omega
        by_cases e : y = z
        · subst e
          go_wp2
          go_quiet (fail)
          go_wp2
          go_roundw
          case rel => exact ⟨k + 1, _, by omega, by go_num, rfl, M.same_take hlt HN.out HS.out (by rw [← HY.out, ← HZ.out])⟩
          case measure => simp [intOf]; omega
        · have q1 : ((y : Int) == (z : Int)) = false := by rw [beq_eq_false_iff_ne]; omega
          have q2 : ((y : Int) != (z : Int)) = true := by rw [bne, q1]; rfl
          have q3 : (y == z) = false := by rw [beq_eq_false_iff_ne]; exact e
          have q4 : (y != z) = true := by rw [bne, q3]; rfl
          have HE := Lib.hid (show (xs.getD k 0).toNat ≠ (ys.getD k 0).toNat by rw [← HY.out, ← HZ.out]; exact e)
          clear e
          go_wp2
          go_quiet (fail)
          go_wp2
          go_ret
          exact ⟨ret_bool (M.same_not (k := k) HE.out), below_drewN (below_drewN (Below.refl _ _) _) _⟩
      · go_wp2
        go_ret
        exact ⟨ret_bool (M.same_end hlt HN.out HS.out), below_drewN (Below.refl _ _) _⟩
  · have q1 : ((xs.length : Int) == (ys.length : Int)) = false := by rw [beq_eq_false_iff_ne]; omega
    have q2 : ((xs.length : Int) != (ys.length : Int)) = true := by rw [bne, q1]; rfl
    have q3 : (xs.length == ys.length) = false := by rw [beq_eq_false_iff_ne]; exact hn
    have q4 : (xs.length != ys.length) = true := by rw [bne, q3]; rfl
    go_enter Try.func19, Try.ntmps19
    go_wp2
    go_ret
    exact ⟨ret_bool (M.same_len hn), Below.refl _ _⟩

/-- A copy of these bytes, just so, in a new block. -/
def Copied (w : World) (xs : List UInt8) (e : Ending) (w' : World) : Prop := e = .returned (.slice (some ⟨w.heap.size, 0, none⟩) xs.length xs.length) ∧ Blk w' w.heap.size xs ∧ Below w.heap.size w w'

theorem splice_all (n : Nat) (cs : List Value) (z : Value) (h : cs.length = n) : splice (List.replicate n z) 0 cs = cs := by
  simp [splice, h]

set_option maxHeartbeats 1000000 in
theorem copied_any {w : World} {v : Value} {xs : List UInt8} (h : Bts w v xs) (hl : xs.length ≤ 100000000) : Calls Try.prog 32 #[v] w (Copied w xs) := by
  obtain ⟨i0, hi, hz0, hz1, hz2⟩ := info_parts info5
  have hm := run_make (P := Try.prog) w 27 5 i0 (.int .u8 0) Try.underlying27 hi hz0 .i64 .i64 (xs.length : Int) (xs.length : Int) (by omega) (by omega) (by rw [hz2]; omega) (by omega)
  rw [hz1, Int.toNat_natCast] at hm
  have hB : (w.alloc (.cells (madeCells #[.int .u8 0] xs.length) 5)).heap[w.heap.size]? = some (.cells (List.replicate xs.length (enc8 0)).toArray 5 (0, 0)) := by
    have := Blk.made w xs.length
    unfold Blk at this
    simpa using this
  have nb := below_new (o := .cells (madeCells #[.int .u8 0] xs.length) 5) (Below.refl w.heap.size w)
  obtain ⟨A, c, rfl, hc, hx⟩ := h.opened
  have hpos : 0 < (xs.map enc8).length → ((some ⟨w.heap.size, 0, none⟩ : Option Addr) = some ⟨w.heap.size, 0, none⟩ ∧ ∃ ad, A = some ad ∧ ∀ (j : Nat) (v : Value), (xs.map enc8)[j]? = some v → (w.alloc (.cells (madeCells #[.int .u8 0] xs.length) 5)).cell? (ad.add j) = some v) := by
    intro h0
    obtain ⟨b, o, rfl, hb, hy⟩ := hx (by simpa using h0)
    refine ⟨rfl, _, rfl, fun j v hj => ?_⟩
    rw [add_plain', nb.cell (p := ⟨b, o + j, none⟩) hb]
    have hk : j < xs.length := by simpa using (List.getElem?_eq_some_iff.1 hj).1
    rw [hy j hk, ← hj, List.getElem?_map, List.getD, List.getElem?_eq_getElem hk]; rfl
  have HP := Lib.hid hpos
  have HB := Lib.hid hB
  have NB := Lib.hid nb
  have HC := Lib.hid (show (xs.map enc8).length = Nat.min xs.length xs.length by simp)
  have H1 := Lib.hid (one_enc xs)
  clear hx h hpos hB nb hi hz0 hz1 hz2
  simp only [Value.cells, Nat.mul_one] at hm
  go_enter Try.func32, Try.ntmps32
  go_wp2_with (with_reducible refine wpList_copy_splice rfl (.tmp 7) (.tmp 8) 27 27 rfl 5 Try.underlying27 (by kernel_rfl) _ _ _ _ _ _ rfl rfl w.heap.size 0 (List.replicate xs.length (enc8 0)) 5 HB.out (xs.map enc8) HC.out HP.out (by simp) H1.out w.heap.size w NB.out (Nat.le_refl _) ?_; intro w2 HG2 hB2)
  go_ret
  refine ⟨rfl, ?_, hB2⟩
  have := HG2.out
  rw [splice_all _ _ _ (by simp)] at this
  exact this
end Go.Proofs.Ytpdknamdladgnaa
