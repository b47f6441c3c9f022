/- Contracts of Of and Mask at keys that may be, and shards that may be; conditions: these. -/
import Derived.Test.YtacieiddhkkahaaWalksM
namespace Go.Proofs.Ytacieiddhkkahaa
open Go.ChangeShapes Go.WideShapes Go.ChangeAt Go.RowKit

namespace M
/-- A key's shard. -/
def shL (x : List UInt8) (n : Int) : Int := sh ⟨x.toArray⟩ n
theorem shL_ok {x : List UInt8} {n : Int} (h : rightB x.length = true) (h1 : 1 ≤ n) (h2 : n ≤ 4) : er ⟨x.toArray⟩ n = 0 ∧ 0 ≤ shL x n ∧ shL x n < n := by
  obtain ⟨e1, e2⟩ := sh_ok (s := ⟨x.toArray⟩) (okB_yes (by rw [size_mk]; exact h) h1 h2)
  refine ⟨e2, ?_, ?_⟩
  · unfold shL; rw [e1]; exact Int.emod_nonneg _ (by omega)
  · unfold shL; rw [e1]; exact Int.emod_lt_of_pos _ (by omega)
/-- Those of one shard. -/
def ofL (ss : List (List UInt8)) (k n : Int) : List (List UInt8) := ss.filter (fun x => decide (shL x n = k))
theorem ofL_yes {ss : List (List UInt8)} {i : Nat} {k n : Int} {x : List UInt8} (hi : i < ss.length) (hx : x = ss.getD i []) (h : shL x n = k) : ofL (ss.take (i + 1)) k n = ofL (ss.take i) k n ++ [x] := by
  unfold ofL; rw [take_succ hi, List.filter_append, ← hx]; simp [h]
theorem ofL_no {ss : List (List UInt8)} {i : Nat} {k n : Int} {x : List UInt8} (hi : i < ss.length) (hx : x = ss.getD i []) (h : shL x n ≠ k) : ofL (ss.take (i + 1)) k n = ofL (ss.take i) k n := by
  unfold ofL; rw [take_succ hi, List.filter_append, ← hx]; simp [h]
theorem ofL_len (ss : List (List UInt8)) (i : Nat) (k n : Int) : (ofL (ss.take i) k n).length ≤ i := by
  have := List.length_filter_le (fun x => decide (shL x n = k)) (ss.take i)
  rw [List.length_take] at this
  unfold ofL; omega
end M

theorem shard_l {x : List UInt8} {n : Int} (w : World) (h : M.er ⟨x.toArray⟩ n = 0) : Calls Try.prog 27 #[.string ⟨x.toArray⟩, .int .i64 n] w fun e w' => e = .returned (.tuple #[.int .i64 (M.shL x n), .int .i64 0]) ∧ Below w.heap.size w w' := by
  have := shard_any ⟨x.toArray⟩ n w
  rw [h] at this
  exact this

set_option maxHeartbeats 2000000 in
set_option maxRecDepth 100000 in
theorem of_any {w : World} {v : Value} {ss : List (List UInt8)} (k n : Int) (h : Words w v ss) (hl : ss.length ≤ 1000) (hr : ∀ x ∈ ss, M.rightB x.length = true) (h1 : 1 ≤ n) (h2 : n ≤ 4) : Calls Try.prog 17 #[v, .int .i64 k, .int .i64 n] w (Made (M.ofL ss k n) w) := by
  obtain ⟨i0, hi, hz0, hz1, hz2⟩ := info_parts info9
  obtain ⟨A, c, rfl, hc, hx⟩ := h.opened
  have HX := Lib.hid hx
  have HR := Lib.hid hr
  clear hx h hr
  go_enter Try.func17, Try.ntmps17
  go_wp2
  go_loopw [7, 14] (fun x i wr => ∃ j : Nat, j ≤ ss.length ∧ i = .int .i64 j ∧ wr.ownsRow w.heap.size 9 1 x (M.ofL (ss.take j) k n).length ((M.ofL (ss.take j) k n).map encStr) ∧ Below w.heap.size w wr) (fun _ i _ => ss.length - (intOf i).toNat)
  case atStart => exact ⟨0, Nat.zero_le _, rfl, World.ownsRow_nil _ _ _ _, Below.refl _ _⟩
  case round =>
    obtain ⟨j, hj, rfl, hrow, hbw⟩ := hrel
    have hol := M.ofL_len ss j k n
    have hsz := hbw.size
    by_cases hlt : j < ss.length
    · obtain ⟨b, o, rfl, hb, hy⟩ := HX.out (by omega)
      have hcell := (hbw.cell (p := ⟨b, o + j, none⟩) hb).trans (hy j hlt)
      obtain ⟨x, hxk⟩ : ∃ x, x = ss.getD j [] := ⟨_, rfl⟩
      rw [← hxk] at hcell
      obtain ⟨x1, x2, x3⟩ := M.shL_ok (show M.rightB x.length = true by rw [hxk]; exact HR.out _ (M.getD_mem hlt)) h1 h2
      have E := Lib.hid x1
      have HY := Lib.hid hxk
      have HO := Lib.hid hrow
      have HB := Lib.hid hbw
      clear hy hxk hrow hbw x1
      by_cases hq : M.shL x n = k
      · have HN := Lib.hid (M.ofL_yes hlt HY.out hq)
        generalize M.ofL (ss.take j) k n = acc at *
        go_wp2_with (fail)
        refine (shard_l _ E.out).mono ?_
        rintro e w1 ⟨rfl, hb1⟩
        have h4 := HO.out.kept (row := none) ⟨hb1.os, hb1.tape, hb1.output, hb1.size, fun i h _ => hb1.block i h⟩ (by rcases HO.out.2 with ⟨rfl, _⟩ | ⟨g, cap, cur, rfl, _⟩ <;> simp [Value.ownBlock])
        have O1 := Lib.hid h4
        have B1 := Lib.hid (below_on HB.out hb1)
        have s1 : w.heap.size ≤ w1.heap.size := Nat.le_trans hsz hb1.size
        clear h4 hb1 HO HB
        go_wp2_with (at_builtin; refine wpList_append_own _ rfl _ _ 44 rfl w.heap.size 9 i0 (.string ⟨#[]⟩) 1 16 Try.underlying44 hi hz0 hz1 hz2 rfl (by decide) _ _ _ rfl (O1.out.alloc _) ⟨w1.heap.size, 0, none⟩ 1 1 [.string ⟨x.toArray⟩] rfl rfl (cell_one_new _ _ _) (one_str [x]) (by unfold maxLen; omega) (by omega) (by simp; omega) ?_; intro v' w3 hown3 hgrow3 hnil3)
        have O3 := Lib.hid hown3
        have B3 := Lib.hid ((B1.out.alloc (by omega) _).grown hgrow3 (by simp; omega) (fun i hi => (O1.out.lt i hi).1))
        clear hown3 hgrow3 hnil3
        go_roundw
        case rel => exact ⟨j + 1, by omega, by go_num, by rw [HN.out]; simpa using O3.out, B3.out⟩
        case measure => simp [intOf]; omega
      · have HN := Lib.hid (M.ofL_no hlt HY.out hq)
        have q1 : (M.shL x n == k) = false := by rw [beq_eq_false_iff_ne]; exact hq
        generalize M.ofL (ss.take j) k n = acc at *
        go_wp2_with (fail)
        refine (shard_l _ E.out).mono ?_
        rintro e w1 ⟨rfl, hb1⟩
        have h4 := HO.out.kept (row := none) ⟨hb1.os, hb1.tape, hb1.output, hb1.size, fun i h _ => hb1.block i h⟩ (by rcases HO.out.2 with ⟨rfl, _⟩ | ⟨g, cap, cur, rfl, _⟩ <;> simp [Value.ownBlock])
        have O1 := Lib.hid h4
        have B1 := Lib.hid (below_on HB.out hb1)
        clear h4 hb1 HO HB
        go_wp2
        go_roundw
        case rel => exact ⟨j + 1, by omega, by go_num, by rw [HN.out]; exact O1.out, B1.out⟩
        case measure => simp [intOf]; omega
    · obtain rfl : j = ss.length := by omega
      rw [List.take_length] at hrow
      have HO := Lib.hid hrow
      have HB := Lib.hid hbw
      clear hrow hbw
      go_wp2
      go_ret
      exact ⟨_, rfl, HO.out, HB.out⟩
namespace M
theorem or_small : ∀ m : Fin 16, ∀ s : Fin 4, bits .or .i64 ((m.val : Nat) : Int) (wrap64 (2 ^ s.val)) = ((m.val ||| 2 ^ s.val : Nat) : Int) := by decide +kernel
theorem or_less : ∀ m : Fin 16, ∀ s : Fin 4, m.val ||| 2 ^ s.val < 16 := by decide +kernel
/-- Which shards. -/
def maskL (ss : List (List UInt8)) (n : Int) : Nat := ss.foldl (fun m x => m ||| 2 ^ (shL x n).toNat) 0
theorem maskL_snoc (ss : List (List UInt8)) (x : List UInt8) (n : Int) : maskL (ss ++ [x]) n = maskL ss n ||| 2 ^ (shL x n).toNat := by unfold maskL; rw [List.foldl_append]; rfl
theorem maskL_take {ss : List (List UInt8)} {i : Nat} {n : Int} {x : List UInt8} (hi : i < ss.length) (hx : x = ss.getD i []) : maskL (ss.take (i + 1)) n = maskL (ss.take i) n ||| 2 ^ (shL x n).toNat := by
  rw [take_succ hi, maskL_snoc, hx]
theorem or_at {m : Nat} {s : Int} (hm : m < 16) (h0 : 0 ≤ s) (h4 : s < 4) : bits .or .i64 (m : Int) (wrap64 (2 ^ s.toNat)) = ((m ||| 2 ^ s.toNat : Nat) : Int) ∧ m ||| 2 ^ s.toNat < 16 := by
  have hs : s.toNat < 4 := by omega
  exact ⟨or_small ⟨m, hm⟩ ⟨s.toNat, hs⟩, or_less ⟨m, hm⟩ ⟨s.toNat, hs⟩⟩
theorem foldl_bit (n : Int) (k : Nat) : ∀ (ss : List (List UInt8)) (m : Nat), (ss.foldl (fun m x => m ||| 2 ^ (shL x n).toNat) m).testBit k = (m.testBit k || ss.any (fun x => decide ((shL x n).toNat = k)))
  | [], m => by simp
  | x :: ss, m => by
    rw [List.foldl_cons, foldl_bit n k ss, Nat.testBit_or, Nat.testBit_two_pow, List.any_cons, Bool.or_assoc]
theorem maskL_bit (ss : List (List UInt8)) (n : Int) (k : Nat) : (maskL ss n).testBit k = ss.any (fun x => decide ((shL x n).toNat = k)) := by
  unfold maskL; rw [foldl_bit]; simp
end M

end Go.Proofs.Ytacieiddhkkahaa
