/- Contracts of the law's own same, own and awake; no conditions but the lengths that they name. -/
import Derived.Test.YtagngbdlpdilnaaEnc
namespace Go.Proofs.Ytagngbdlpdilnaa
open Go.RowKit

theorem take_snoc (xs : List UInt8) (k : Nat) (h : k < xs.length) : xs.take (k + 1) = xs.take k ++ [xs.getD k 0] := by
  rw [List.take_add_one, List.getElem?_eq_getElem h, List.getD, List.getElem?_eq_getElem h]; rfl

namespace V8
def sameB (xs ys : List UInt8) : Bool := decide (xs = ys)
theorem sameB_refl (xs : List UInt8) : sameB xs xs = true := by simp [sameB]
theorem sameB_iff {xs ys : List UInt8} : sameB xs ys = true ↔ xs = ys := by simp [sameB]
theorem same_take {xs ys : List UInt8} {k : Nat} (hk : k < xs.length) (hl : xs.length = ys.length) (h : xs.take k = ys.take k) (hx : (xs.getD k 0).toNat = (ys.getD k 0).toNat) : xs.take (k + 1) = ys.take (k + 1) := by
  rw [take_snoc xs k hk, take_snoc ys k (by omega), h, UInt8.toNat_inj.1 hx]
theorem same_not {xs ys : List UInt8} {k : Nat} (hx : (xs.getD k 0).toNat ≠ (ys.getD k 0).toNat) : false = sameB xs ys := by
  symm; simp only [sameB, decide_eq_false_iff_not]; intro h; exact hx (by rw [h])
theorem same_len {xs ys : List UInt8} (h : xs.length ≠ ys.length) : false = sameB xs ys := by
  symm; simp only [sameB, decide_eq_false_iff_not]; intro h'; exact h (by rw [h'])
theorem same_end {xs ys : List UInt8} {k : Nat} (hk : ¬ k < xs.length) (hl : xs.length = ys.length) (h : xs.take k = ys.take k) : true = sameB xs ys := by
  symm; simp only [sameB, decide_eq_true_eq]
  rw [List.take_of_length_le (by omega), List.take_of_length_le (by omega)] at h
  exact h
end V8

set_option maxHeartbeats 1000000 in
theorem same8_any {w : World} {v u : Value} {xs ys : List UInt8} (h : Bts w v xs) (h' : Bts w u ys) (hl : xs.length ≤ 1000000) : Calls Try.prog 20 #[v, u] w fun e w' => e = .returned (.bool (V8.sameB xs ys)) ∧ Below w.heap.size w w' := by
  obtain ⟨A, c, rfl, hc, hx⟩ := h.opened
  obtain ⟨A', c', rfl, hc', hx'⟩ := h'.opened
  have HX := Lib.hid hx
  have HX' := Lib.hid hx'
  clear hx hx' h h'
  by_cases hn : xs.length = ys.length
  · rw [← hn] at HX' hc' ⊢
    have HN := Lib.hid hn
    clear hn
    go_enter Try.func20, Try.ntmps20
    go_wp2
    go_loopw [13] (fun i wr => ∃ k n : Nat, k ≤ xs.length ∧ i = .int .i64 k ∧ wr = w.drewN n ∧ xs.take k = ys.take k) (fun i _ => xs.length - (intOf i).toNat)
    case atStart => exact ⟨0, 0, Nat.zero_le _, rfl, rfl, rfl⟩
    case round =>
      obtain ⟨k, n, hk, rfl, rfl, htk⟩ := hrel
      have HS := Lib.hid htk
      clear htk
      by_cases hlt : k < xs.length
      · obtain ⟨b, o, rfl, hb, hy⟩ := HX.out (by omega)
        obtain ⟨b', o', rfl, hb', hy'⟩ := HX'.out (by omega)
        have hcell := hy k hlt
        have hcell' := hy' k hlt
        obtain ⟨y, hyk⟩ : ∃ y, y = (xs.getD k 0).toNat := ⟨_, rfl⟩
        obtain ⟨z, hzk⟩ : ∃ z, z = (ys.getD k 0).toNat := ⟨_, rfl⟩
        rw [← hyk] at hcell
        rw [← hzk] at hcell'
        have HY := Lib.hid hyk
        have HZ := Lib.hid hzk
        clear hy hyk hy' hzk
        have hi1 : (k : Int) < (xs.length : Int) := by omega
        by_cases e : y = z
        · subst e
          go_wp2
          go_quiet (fail)
          go_wp2
          go_roundw
          case rel => exact ⟨k + 1, _, by omega, by go_num, rfl, V8.same_take hlt HN.out HS.out (by rw [← HY.out, ← HZ.out])⟩
          case measure => simp [intOf]; omega
        · have q1 : ((y : Int) == (z : Int)) = false := by rw [beq_eq_false_iff_ne]; omega
          have q2 : ((y : Int) != (z : Int)) = true := by rw [bne, q1]; rfl
          have q3 : (y == z) = false := by rw [beq_eq_false_iff_ne]; exact e
          have q4 : (y != z) = true := by rw [bne, q3]; rfl
          have HE := Lib.hid (show (xs.getD k 0).toNat ≠ (ys.getD k 0).toNat by rw [← HY.out, ← HZ.out]; exact e)
          clear e
          go_wp2
          go_quiet (fail)
          go_wp2
          go_ret
          exact ⟨ret_bool (V8.same_not (k := k) HE.out), below_drewN (below_drewN (Below.refl _ _) _) _⟩
      · go_wp2
        go_ret
        exact ⟨ret_bool (V8.same_end hlt HN.out HS.out), below_drewN (Below.refl _ _) _⟩
  · have q1 : ((xs.length : Int) == (ys.length : Int)) = false := by rw [beq_eq_false_iff_ne]; omega
    have q2 : ((xs.length : Int) != (ys.length : Int)) = true := by rw [bne, q1]; rfl
    have q3 : (xs.length == ys.length) = false := by rw [beq_eq_false_iff_ne]; exact hn
    have q4 : (xs.length != ys.length) = true := by rw [bne, q3]; rfl
    go_enter Try.func20, Try.ntmps20
    go_wp2
    go_ret
    exact ⟨ret_bool (V8.same_len hn), Below.refl _ _⟩


/-- append(own, others...). -/
theorem append_bts {w : World} {base : Nat} {v u : Value} {xs new : List UInt8} (hown : Own w base v xs) (hu : Bts w u new) (hl : xs.length + new.length ≤ 1000000) (hbase : base ≤ w.heap.size) :
    ∃ v' w', (Builtin.append_ #[46, 46] 46 #[v, u]).run Try.prog w = .ok v' w' ∧ Own w' base v' (xs ++ new) ∧ Ext w w' v v' := by
  obtain ⟨i0, hi, hz0, hz1, hz2⟩ := info_parts info5
  have ht : Try.prog.underlying 46 = some (.slice 5) := Try.underlying46
  obtain ⟨A, c, rfl, hc, hx⟩ := hu
  rw [List.length_map] at hc hx ⊢
  unfold Own at hown ⊢
  rw [List.length_append, List.map_append]
  by_cases h0 : new = []
  · subst h0
    cases A with
    | none =>
      refine ⟨v, w, ?_, by simpa using hown, Ext.refl _ _⟩
      rcases hown.2 with ⟨rfl, e⟩ | ⟨g, cap, cur, rfl, _, _, hnc, _⟩
      · simp [Builtin.append_, run_underlying ht, sizeOf, typeInfo, hi, Builtin.lenOf, Builtin.firstCells]
      · simp [Builtin.append_, run_underlying ht, sizeOf, typeInfo, hi, Builtin.lenOf, Builtin.firstCells, hnc, storeCells]
    | some a =>
      obtain ⟨v', w', h1, h2, h3, _, h5⟩ := run_append_own_at w base 46 46 5 i0 (.int .u8 0) 1 1 ht hi hz0 hz1 hz2 rfl (by decide) v xs.length (xs.map enc8) hown a 0 c [] rfl (by simp) (by simp) (by simp at hl; unfold maxLen; omega) (by simp at hl; omega) hbase
      exact ⟨v', w', h1, by simpa using h2, Ext.made h3 h5⟩
  · have hp : 0 < new.length := by cases new with | nil => exact absurd rfl h0 | cons => simp
    obtain ⟨b, o, rfl, hb, hy⟩ := hx hp
    obtain ⟨v', w', h1, h2, h3, _, h5⟩ := run_append_own_at w base 46 46 5 i0 (.int .u8 0) 1 1 ht hi hz0 hz1 hz2 rfl (by decide) v xs.length (xs.map enc8) hown ⟨b, o, none⟩ new.length c (new.map enc8) (by simp) (fun j y hj => by rw [add_plain']; exact hy j y hj) (one_enc new) (by unfold maxLen; omega) (by omega) hbase
    exact ⟨v', w', h1, h2, Ext.made h3 h5⟩

/-- An empty row. -/
theorem Own.empty (w : World) : Own (w.alloc (.cells #[] 5)) w.heap.size (.slice (some ⟨w.heap.size, 0, none⟩) 0 0) [] :=
  ⟨rfl, .inr ⟨w.heap.size, 0, #[], rfl, Nat.le_refl _, heap_alloc_new w _, Nat.le_refl _, by unfold maxLen; omega, rfl, rfl⟩⟩

set_option maxHeartbeats 1000000 in
theorem own8_any {w : World} {v : Value} {xs : List UInt8} (h : Bts w v xs) (hl : xs.length ≤ 1000000) : Calls Try.prog 24 #[v] w (Made8 xs w) := by
  have h2 := h.below (below_new (o := .cells #[] 5) (Below.refl _ _))
  obtain ⟨v', w', hr, ho, he⟩ := append_bts (Own.empty w) h2 (by simpa using hl) (by simp)
  have HO := Lib.hid (show Own w' w.heap.size v' xs by simpa using ho)
  have HB := Lib.hid (he.below (w0 := w) (below_new (Below.refl _ _)) (by simp) (fun k e => by cases e; exact Nat.le_refl _))
  obtain ⟨A, c, rfl, hc, hx⟩ := h.opened
  clear hx h h2 ho he
  go_enter Try.func24, Try.ntmps24
  go_wp2_with (at_builtin; refine Lib.wpList_append_run _ rfl _ _ _ _ rfl _ _ rfl rfl _ _ hr ?_)
  go_ret
  exact ⟨_, rfl, HO.out, HB.out⟩

namespace M
theorem noop_enc : encC zero = [1, 0, 0, 0, 0, 0, 0, 0, 0, 0] := by decide
theorem noop_right : rightC zero = true := by decide
theorem noop_mod : Mod zero := ⟨by decide, by decide, (fun r h => by cases h), (fun r h => by cases h), (fun r h => by cases h)⟩
end M
theorem Bts.lit (w : World) (cs : List UInt8) : Bts (w.alloc (.cells (cs.map enc8).toArray 5)) (.slice (some ⟨w.heap.size, 0, none⟩) cs.length cs.length) cs := by
  refine ⟨some ⟨w.heap.size, 0, none⟩, cs.length, by simp, by simp, fun _ => ⟨w.heap.size, 0, rfl, by simp, fun k x hk => ?_⟩⟩
  simp only [Nat.zero_add]
  simp [go_sem]
  simpa using hk

set_option maxHeartbeats 4000000 in
set_option maxRecDepth 100000 in
theorem awake_any (w : World) : Calls Try.prog 11 #[] w fun e w' => e = .returned (.bool true) ∧ Below w.heap.size w w' := by
  have e1 : V8.sameB [1, 0, 0, 0, 0, 0, 0, 0, 0, 0] [1, 0, 0, 0, 0, 0, 0, 0, 0, 0] = true := V8.sameB_refl _
  have HE := Lib.hid e1
  clear e1
  go_enter Try.func11, Try.ntmps11
  go_wp2_with (fail)
  refine (encode_cmd M.zero (Rds.nil _) (Wrs.nil _) M.noop_mod).mono ?_
  rw [M.noop_right, M.noop_enc]
  rintro e w1 ⟨v, rfl, ho, hb⟩
  have B1 := Lib.hid hb
  have O1 := Lib.hid (show Own w1 w.heap.size v [1, 0, 0, 0, 0, 0, 0, 0, 0, 0] from ho)
  obtain ⟨A, c, rfl, -⟩ := ho.slice
  clear hb ho
  go_wp2_with (fail)
  refine (same8_any (O1.out.bts.below (below_new (Below.refl _ _))) (Bts.lit w1 [1, 0, 0, 0, 0, 0, 0, 0, 0, 0]) (by simp)).mono ?_
  rintro e w2 ⟨rfl, hb⟩
  rw [HE.out]
  have B2 := Lib.hid (below_on (below_new B1.out) hb)
  clear hb
  go_wp2
  go_ret
  exact ⟨rfl, B2.out⟩
end Go.Proofs.Ytagngbdlpdilnaa
