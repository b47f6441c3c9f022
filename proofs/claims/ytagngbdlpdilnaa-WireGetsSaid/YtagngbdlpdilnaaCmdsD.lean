/- Contracts of slices.Equal at reads and writes; no conditions but the lengths that they name. -/
import Derived.Test.YtagngbdlpdilnaaCmdsC
namespace Go.Proofs.Ytagngbdlpdilnaa
open Go.ChangeShapes Go.WideShapes Go.ChangeAt Go.RowKit
namespace M
def eqRd (x : List UInt8) (t c : Int) (y : List UInt8) (a d : Int) : Bool := decide (x = y ∧ t = a ∧ c = d)
def eq2 (t c a d : Int) : Bool := decide (t = a ∧ c = d)
def eqWr (x t y a : List UInt8) : Bool := decide (x = y ∧ t = a)
end M
theorem run_same_rd (w : World) (x y : List UInt8) (t c a d : Int) : (Op.equalIn 10000 74 (.agg #[.string ⟨x.toArray⟩, .int .i64 t, .int .i64 c]) (.agg #[.string ⟨y.toArray⟩, .int .i64 a, .int .i64 d])).run Try.prog w = .ok (M.eqRd x t c y a d) w := by
  unfold M.eqRd
  by_cases h1 : x = y <;> by_cases h2 : t = a <;> by_cases h3 : c = d <;> go_simp
theorem run_same_wr (w : World) (x y t a : List UInt8) : (Op.equalIn 10000 76 (.agg #[.string ⟨x.toArray⟩, .string ⟨t.toArray⟩]) (.agg #[.string ⟨y.toArray⟩, .string ⟨a.toArray⟩])).run Try.prog w = .ok (M.eqWr x t y a) w := by
  unfold M.eqWr
  by_cases h1 : x = y <;> by_cases h2 : t = a <;> go_simp
theorem run_same_txn (w : World) (t c a d : Int) : (Op.equalIn 10000 27 (.agg #[.int .i64 t, .int .i64 c]) (.agg #[.int .i64 a, .int .i64 d])).run Try.prog w = .ok (M.eq2 t c a d) w := by
  unfold M.eq2
  by_cases h2 : t = a <;> by_cases h3 : c = d <;> go_simp
theorem run_same_stamp (w : World) (t c a d : Int) : (Op.equalIn 10000 29 (.agg #[.int .i64 t, .int .i64 c]) (.agg #[.int .i64 a, .int .i64 d])).run Try.prog w = .ok (M.eq2 t c a d) w := by
  unfold M.eq2
  by_cases h2 : t = a <;> by_cases h3 : c = d <;> go_simp
attribute [local go_sem ↓] run_same_rd run_same_wr run_same_txn run_same_stamp

namespace M
theorem take_at {α : Type} {l : List α} {k : Nat} (z : α) (h : k < l.length) : l.take (k + 1) = l.take k ++ [l.getD k z] := by
  rw [List.take_add_one, List.getD, List.getElem?_eq_getElem h]; rfl
theorem eqRd_iff {p q : (List UInt8 × Int × Int)} : eqRd p.1 p.2.1 p.2.2 q.1 q.2.1 q.2.2 = true ↔ p = q := by
  obtain ⟨x, t, c⟩ := p
  obtain ⟨y, a, d⟩ := q
  simp [eqRd]
theorem eqWr_iff {p q : (List UInt8 × List UInt8)} : eqWr p.1 p.2 q.1 q.2 = true ↔ p = q := by
  obtain ⟨x, t⟩ := p
  obtain ⟨y, a⟩ := q
  simp [eqWr]
/-- Are two lists the same? -/
def sameR (l m : List (List UInt8 × Int × Int)) : Bool := decide (l = m)
def sameW (l m : List (List UInt8 × List UInt8)) : Bool := decide (l = m)
theorem eq_take {α : Type} {l m : List α} {k : Nat} (z : α) (hk : k < l.length) (hl : l.length = m.length) (h : l.take k = m.take k) (e : l.getD k z = m.getD k z) : l.take (k + 1) = m.take (k + 1) := by
  rw [take_at z hk, take_at z (by omega), h, e]
theorem eq_end {α : Type} {l m : List α} {k : Nat} (hk : ¬ k < l.length) (hl : l.length = m.length) (h : l.take k = m.take k) : l = m := by
  rw [List.take_of_length_le (by omega), List.take_of_length_le (by omega)] at h; exact h
theorem eq_not {α : Type} {l m : List α} {k : Nat} (z : α) (e : ¬ l.getD k z = m.getD k z) : ¬ l = m := by rintro rfl; exact e rfl
theorem eq_len {α : Type} {l m : List α} (e : ¬ l.length = m.length) : ¬ l = m := by rintro rfl; exact e rfl
end M

set_option maxHeartbeats 2000000 in
set_option maxRecDepth 100000 in
theorem equalR_any {w : World} {v u : Value} {l m : List (List UInt8 × Int × Int)} (h : Rds w v l) (h' : Rds w u m) (hl : l.length ≤ 1000) : Calls Try.prog 72 #[v, u] w fun e w' => e = .returned (.bool (M.sameR l m)) ∧ Below w.heap.size w w' := by
  obtain ⟨A, c, rfl, hc, hx⟩ := h.opened
  obtain ⟨A', c', rfl, hc', hx'⟩ := h'.opened
  have HX := Lib.hid hx
  have HX' := Lib.hid hx'
  clear hx hx' h h'
  by_cases hn : l.length = m.length
  · rw [← hn] at HX' hc' ⊢
    have HN := Lib.hid hn
    clear hn
    go_enter Try.func72, Try.ntmps72
    go_wp2
    go_loopw [13] (fun i wr => ∃ k n : Nat, k ≤ l.length ∧ i = .int .i64 k ∧ wr = w.drewN n ∧ l.take k = m.take k) (fun i _ => l.length - (intOf i).toNat)
    case atStart => exact ⟨0, 0, Nat.zero_le _, rfl, rfl, rfl⟩
    case round =>
      obtain ⟨k, n, hk, rfl, rfl, htk⟩ := hrel
      have HS := Lib.hid htk
      clear htk
      by_cases hlt : k < l.length
      · obtain ⟨b, o, rfl, hb, hy⟩ := HX.out (by omega)
        obtain ⟨b', o', rfl, hb', hy'⟩ := HX'.out (by omega)
        obtain ⟨z1, z2, z3⟩ := hy k hlt
        obtain ⟨y1, y2, y3⟩ := hy' k hlt
        have HE := Lib.hid (M.eqRd_iff (p := l.getD k rd0) (q := m.getD k rd0))
        clear hy hy'
        generalize (l.getD k rd0).1 = p0 at *
        generalize (l.getD k rd0).2.1 = p1 at *
        generalize (l.getD k rd0).2.2 = p2 at *
        generalize (m.getD k rd0).1 = q0 at *
        generalize (m.getD k rd0).2.1 = q1 at *
        generalize (m.getD k rd0).2.2 = q2 at *
        have hi1 : (k : Int) < (l.length : Int) := by omega
        rcases two (M.eqRd p0 p1 p2 q0 q1 q2) with e | e
        · go_wp2
          go_quiet (fail)
          go_wp2
          go_roundw
          case rel => exact ⟨k + 1, _, by omega, by go_num, rfl, M.eq_take rd0 hlt HN.out HS.out (HE.out.1 e)⟩
          case measure => simp [intOf]; omega
        · go_wp2
          go_quiet (fail)
          go_wp2
          go_ret
          exact ⟨ret_bool (decide_eq_false (M.eq_not rd0 (fun q => by rw [HE.out.2 q] at e; cases e))).symm, below_drewN (below_drewN (Below.refl _ _) _) _⟩
      · go_wp2
        go_ret
        exact ⟨ret_bool (decide_eq_true (M.eq_end hlt HN.out HS.out)).symm, below_drewN (Below.refl _ _) _⟩
  · have q1 : ((l.length : Int) == (m.length : Int)) = false := by rw [beq_eq_false_iff_ne]; omega
    have q2 : ((l.length : Int) != (m.length : Int)) = true := by rw [bne, q1]; rfl
    have q3 : (l.length == m.length) = false := by rw [beq_eq_false_iff_ne]; exact hn
    have q4 : (l.length != m.length) = true := by rw [bne, q3]; rfl
    go_enter Try.func72, Try.ntmps72
    go_wp2
    go_ret
    exact ⟨ret_bool (decide_eq_false (M.eq_len hn)).symm, Below.refl _ _⟩

set_option maxHeartbeats 2000000 in
set_option maxRecDepth 100000 in
theorem equalW_any {w : World} {v u : Value} {l m : List (List UInt8 × List UInt8)} (h : Wrs w v l) (h' : Wrs w u m) (hl : l.length ≤ 1000) : Calls Try.prog 73 #[v, u] w fun e w' => e = .returned (.bool (M.sameW l m)) ∧ Below w.heap.size w w' := by
  obtain ⟨A, c, rfl, hc, hx⟩ := h.opened
  obtain ⟨A', c', rfl, hc', hx'⟩ := h'.opened
  have HX := Lib.hid hx
  have HX' := Lib.hid hx'
  clear hx hx' h h'
  by_cases hn : l.length = m.length
  · rw [← hn] at HX' hc' ⊢
    have HN := Lib.hid hn
    clear hn
    go_enter Try.func73, Try.ntmps73
    go_wp2
    go_loopw [13] (fun i wr => ∃ k n : Nat, k ≤ l.length ∧ i = .int .i64 k ∧ wr = w.drewN n ∧ l.take k = m.take k) (fun i _ => l.length - (intOf i).toNat)
    case atStart => exact ⟨0, 0, Nat.zero_le _, rfl, rfl, rfl⟩
    case round =>
      obtain ⟨k, n, hk, rfl, rfl, htk⟩ := hrel
      have HS := Lib.hid htk
      clear htk
      by_cases hlt : k < l.length
      · obtain ⟨b, o, rfl, hb, hy⟩ := HX.out (by omega)
        obtain ⟨b', o', rfl, hb', hy'⟩ := HX'.out (by omega)
        obtain ⟨z1, z2⟩ := hy k hlt
        obtain ⟨y1, y2⟩ := hy' k hlt
        have HE := Lib.hid (M.eqWr_iff (p := l.getD k wr0) (q := m.getD k wr0))
        clear hy hy'
        generalize (l.getD k wr0).1 = p0 at *
        generalize (l.getD k wr0).2 = p1 at *
        generalize (m.getD k wr0).1 = q0 at *
        generalize (m.getD k wr0).2 = q1 at *
        have hi1 : (k : Int) < (l.length : Int) := by omega
        rcases two (M.eqWr p0 p1 q0 q1) with e | e
        · go_wp2
          go_quiet (fail)
          go_wp2
          go_roundw
          case rel => exact ⟨k + 1, _, by omega, by go_num, rfl, M.eq_take wr0 hlt HN.out HS.out (HE.out.1 e)⟩
          case measure => simp [intOf]; omega
        · go_wp2
          go_quiet (fail)
          go_wp2
          go_ret
          exact ⟨ret_bool (decide_eq_false (M.eq_not wr0 (fun q => by rw [HE.out.2 q] at e; cases e))).symm, below_drewN (below_drewN (Below.refl _ _) _) _⟩
      · go_wp2
        go_ret
        exact ⟨ret_bool (decide_eq_true (M.eq_end hlt HN.out HS.out)).symm, below_drewN (Below.refl _ _) _⟩
  · have q1 : ((l.length : Int) == (m.length : Int)) = false := by rw [beq_eq_false_iff_ne]; omega
    have q2 : ((l.length : Int) != (m.length : Int)) = true := by rw [bne, q1]; rfl
    have q3 : (l.length == m.length) = false := by rw [beq_eq_false_iff_ne]; exact hn
    have q4 : (l.length != m.length) = true := by rw [bne, q3]; rfl
    go_enter Try.func73, Try.ntmps73
    go_wp2
    go_ret
    exact ⟨ret_bool (decide_eq_false (M.eq_len hn)).symm, Below.refl _ _⟩
end Go.Proofs.Ytagngbdlpdilnaa
