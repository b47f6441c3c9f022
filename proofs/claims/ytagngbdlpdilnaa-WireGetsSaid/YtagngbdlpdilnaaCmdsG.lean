/- Rows of reads and of writes appended to a row of one's own; contracts of copied; no conditions but the lengths that they name. -/
import Derived.Test.YtagngbdlpdilnaaCmdsF
namespace Go.Proofs.Ytagngbdlpdilnaa
open Go.ChangeShapes Go.WideShapes Go.ChangeAt Go.RowKit

theorem info40 : (Try.prog.info? 74).map (fun i => (i.zero, i.size, i.bytes)) = some (some (.agg #[.string ⟨#[]⟩, .int .i64 0, .int .i64 0]), 3, 32) := by kernel_rfl
theorem info42 : (Try.prog.info? 76).map (fun i => (i.zero, i.size, i.bytes)) = some (some (.agg #[.string ⟨#[]⟩, .string ⟨#[]⟩]), 2, 32) := by kernel_rfl
theorem one_rds (l : List (List UInt8 × Int × Int)) : ∀ u ∈ rdsC l, u.oneCell' = true := by
  intro u hu
  unfold rdsC at hu
  rw [List.mem_flatMap] at hu
  obtain ⟨r, _, hr⟩ := hu
  simp [rdC] at hr
  rcases hr with rfl | rfl | rfl <;> rfl
theorem one_wrs (l : List (List UInt8 × List UInt8)) : ∀ u ∈ wrsC l, u.oneCell' = true := by
  intro u hu
  unfold wrsC at hu
  rw [List.mem_flatMap] at hu
  obtain ⟨r, _, hr⟩ := hu
  simp [wrC] at hr
  rcases hr with rfl | rfl <;> rfl

theorem append_nilN {w : World} {base : Nat} {t e : TypeId} {k : Nat} {i0 : TypeInfo} (ht : Try.prog.underlying t = some (.slice e)) (hi : Try.prog.info? e = some i0) {v : Value} {n : Nat} {xs : List Value} (c : Nat) (hown : w.ownsRow base e k v n xs) : (Builtin.append_ #[t, t] t #[v, .slice none 0 c]).run Try.prog w = .ok v w := by
  rcases hown.2 with ⟨rfl, rfl⟩ | ⟨g, cap, cur, rfl, _, _, hnc, _⟩
  · simp [Builtin.append_, run_underlying ht, sizeOf, typeInfo, hi, Builtin.lenOf, Builtin.firstCells]
  · simp [Builtin.append_, run_underlying ht, sizeOf, typeInfo, hi, Builtin.lenOf, Builtin.firstCells, hnc, storeCells]

/-- append(own, others...). -/
theorem append_rowN {w : World} {base : Nat} {t e : TypeId} {k bytes : Nat} {i0 : TypeInfo} {z : Value} (ht : Try.prog.underlying t = some (.slice e)) (hi : Try.prog.info? e = some i0) (hz0 : i0.zero = some z) (hz1 : i0.size = k) (hz2 : i0.bytes = bytes) (hzc : z.cells.size = k) (hk : 0 < k) (hby : bytes ≤ 1000)
    {v u : Value} {n m : Nat} {xs news : List Value} (hown : w.ownsRow base e k v n xs) (hrow : RowN k w u m news) (h1 : ∀ x ∈ news, x.oneCell' = true) (hl : n + m ≤ 1000000) (hbase : base ≤ w.heap.size) :
    ∃ v' w', (Builtin.append_ #[t, t] t #[v, u]).run Try.prog w = .ok v' w' ∧ w'.ownsRow base e k v' (n + m) (xs ++ news) ∧ w.grownBy w' v.ownBlock := by
  obtain ⟨hlen, A, c, rfl, hc, hx⟩ := hrow
  have hb2 : (n + m) * bytes ≤ 140737488355328 := by
    have := Nat.mul_le_mul hl hby
    omega
  by_cases hm : m = 0
  · subst hm
    have hnil : news = [] := List.length_eq_zero_iff.1 (by omega)
    subst hnil
    cases A with
    | none => exact ⟨v, w, append_nilN ht hi c hown, by simpa using hown, World.grownBy.refl _ _⟩
    | some a =>
      obtain ⟨v', w', h1, h2, h3, _⟩ := run_append_own w base t t e i0 z k bytes ht hi hz0 hz1 hz2 hzc hk v n xs hown a 0 c [] hlen (by simp) (by simp) (by unfold maxLen; omega) hb2 hbase
      exact ⟨v', w', h1, h2, h3⟩
  · obtain ⟨b, o, rfl, hb, hy⟩ := hx (by omega)
    obtain ⟨v', w', h1, h2, h3, _⟩ := run_append_own w base t t e i0 z k bytes ht hi hz0 hz1 hz2 hzc hk v n xs hown ⟨b, o, none⟩ m c news hlen (fun j y hj => by rw [add_plain]; exact hy j y hj) h1 (by unfold maxLen; omega) hb2 hbase
    exact ⟨v', w', h1, h2, h3⟩

theorem append_rds {w : World} {base : Nat} {v u : Value} {n : Nat} {xs : List Value} {l : List (List UInt8 × Int × Int)} (hown : w.ownsRow base 74 3 v n xs) (hrow : Rds w u l) (hl : n + l.length ≤ 1000000) (hbase : base ≤ w.heap.size) :
    ∃ v' w', (Builtin.append_ #[30, 30] 30 #[v, u]).run Try.prog w = .ok v' w' ∧ w'.ownsRow base 74 3 v' (n + l.length) (xs ++ rdsC l) ∧ w.grownBy w' v.ownBlock := by
  obtain ⟨i0, hi, hz0, hz1, hz2⟩ := info_parts info40
  exact append_rowN Try.underlying30 hi hz0 hz1 hz2 rfl (by omega) (by omega) hown hrow (one_rds l) hl hbase
theorem append_wrs {w : World} {base : Nat} {v u : Value} {n : Nat} {xs : List Value} {l : List (List UInt8 × List UInt8)} (hown : w.ownsRow base 76 2 v n xs) (hrow : Wrs w u l) (hl : n + l.length ≤ 1000000) (hbase : base ≤ w.heap.size) :
    ∃ v' w', (Builtin.append_ #[31, 31] 31 #[v, u]).run Try.prog w = .ok v' w' ∧ w'.ownsRow base 76 2 v' (n + l.length) (xs ++ wrsC l) ∧ w.grownBy w' v.ownBlock := by
  obtain ⟨i0, hi, hz0, hz1, hz2⟩ := info_parts info42
  exact append_rowN Try.underlying31 hi hz0 hz1 hz2 rfl (by omega) (by omega) hown hrow (one_wrs l) hl hbase

/-- A new row of reads, of writes. -/
def MadeR (l : List (List UInt8 × Int × Int)) (w : World) (e : Ending) (w' : World) : Prop := ∃ v, e = .returned v ∧ w'.ownsRow w.heap.size 74 3 v l.length (rdsC l) ∧ Below w.heap.size w w'
def MadeW (l : List (List UInt8 × List UInt8)) (w : World) (e : Ending) (w' : World) : Prop := ∃ v, e = .returned v ∧ w'.ownsRow w.heap.size 76 2 v l.length (wrsC l) ∧ Below w.heap.size w w'

set_option maxHeartbeats 1000000 in
theorem copiedR_any {w : World} {v : Value} {l : List (List UInt8 × Int × Int)} (h : Rds w v l) (hl : l.length ≤ 1000) : Calls Try.prog 105 #[v] w (MadeR l w) := by
  obtain ⟨v', w', hr, hown, hg⟩ := append_rds (World.ownsRow_nil w w.heap.size 74 3) h (by omega) (Nat.le_refl _)
  rw [Nat.zero_add, List.nil_append] at hown
  have HO := Lib.hid hown
  have HB := Lib.hid ((Below.refl w.heap.size w).grown hg (Nat.le_refl _) (fun k hk => by cases hk))
  clear hown hg
  obtain ⟨A, c, rfl, hc, -⟩ := h.opened
  clear h
  go_enter Try.func105, Try.ntmps105
  go_wp2_with (at_builtin; refine Lib.wpList_append_run _ rfl _ _ _ _ rfl _ _ rfl rfl _ _ hr ?_)
  go_ret
  exact ⟨_, rfl, HO.out, HB.out⟩
set_option maxHeartbeats 1000000 in
theorem copiedW_any {w : World} {v : Value} {l : List (List UInt8 × List UInt8)} (h : Wrs w v l) (hl : l.length ≤ 1000) : Calls Try.prog 106 #[v] w (MadeW l w) := by
  obtain ⟨v', w', hr, hown, hg⟩ := append_wrs (World.ownsRow_nil w w.heap.size 76 2) h (by omega) (Nat.le_refl _)
  rw [Nat.zero_add, List.nil_append] at hown
  have HO := Lib.hid hown
  have HB := Lib.hid ((Below.refl w.heap.size w).grown hg (Nat.le_refl _) (fun k hk => by cases hk))
  clear hown hg
  obtain ⟨A, c, rfl, hc, -⟩ := h.opened
  clear h
  go_enter Try.func106, Try.ntmps106
  go_wp2_with (at_builtin; refine Lib.wpList_append_run _ rfl _ _ _ _ rfl _ _ rfl rfl _ _ hr ?_)
  go_ret
  exact ⟨_, rfl, HO.out, HB.out⟩
end Go.Proofs.Ytagngbdlpdilnaa
