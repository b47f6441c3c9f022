/- Texts appended to a row of one's own; contracts of the library's Grow and Concat at texts; no conditions but the lengths that they name. -/
import Derived.Test.YtagngbdlpdilnaaWalksI
import Derived.Lib.AppendZerosOnto
import Derived.Lib.SliceRun
namespace Go.Proofs.Ytagngbdlpdilnaa
open Go.ChangeShapes Go.WideShapes Go.ChangeAt Go.RowKit

theorem info9 : (Try.prog.info? 9).map (fun i => (i.zero, i.size, i.bytes)) = some (some (.string ⟨#[]⟩), 1, 16) := by kernel_rfl
theorem one_str (ss : List (List UInt8)) : ∀ u ∈ ss.map encStr, u.oneCell' = true := by
  intro u hu
  rw [List.mem_map] at hu
  obtain ⟨x, _, rfl⟩ := hu
  rfl

theorem append_nil {w : World} {base : Nat} {v : Value} {n : Nat} {xs : List Value} (c : Nat) (hown : w.ownsRow base 9 1 v n xs) : (Builtin.append_ #[87, 87] 87 #[v, .slice none 0 c]).run Try.prog w = .ok v w := by
  obtain ⟨i0, hi, hz0, hz1, hz2⟩ := info_parts info9
  have ht : Try.prog.underlying 87 = some (.slice 9) := Try.underlying87
  rcases hown.2 with ⟨rfl, rfl⟩ | ⟨g, cap, cur, rfl, _, _, hnc, _⟩
  · simp [Builtin.append_, run_underlying ht, sizeOf, typeInfo, hi, Builtin.lenOf, Builtin.firstCells]
  · simp [Builtin.append_, run_underlying ht, sizeOf, typeInfo, hi, Builtin.lenOf, Builtin.firstCells, hnc, storeCells]

/-- append(own, others...). -/
theorem append_row {w : World} {base : Nat} {v u : Value} {n : Nat} {xs news : List Value} (hown : w.ownsRow base 9 1 v n xs) (hrow : Row w u news) (h1 : ∀ x ∈ news, x.oneCell' = true) (hl : n + news.length ≤ 1000000) (hbase : base ≤ w.heap.size) :
    ∃ v' w', (Builtin.append_ #[87, 87] 87 #[v, u]).run Try.prog w = .ok v' w' ∧ w'.ownsRow base 9 1 v' (n + news.length) (xs ++ news) ∧ w.grownBy w' v.ownBlock := by
  obtain ⟨i0, hi, hz0, hz1, hz2⟩ := info_parts info9
  obtain ⟨A, c, rfl, hc, hx⟩ := hrow
  cases news with
  | nil =>
    cases A with
    | none => exact ⟨v, w, append_nil c hown, by simpa using hown, World.grownBy.refl _ _⟩
    | some a =>
      obtain ⟨v', w', h1, h2, h3, _⟩ := run_append_own w base 87 87 9 i0 (.string ⟨#[]⟩) 1 16 Try.underlying87 hi hz0 hz1 hz2 rfl (by decide) v n xs hown a 0 c [] rfl (by simp) (by simp) (by simp at hl; unfold maxLen; omega) (by simp at hl; omega) hbase
      exact ⟨v', w', h1, h2, h3⟩
  | cons x news =>
    obtain ⟨b, o, rfl, hb, hy⟩ := hx (by simp)
    obtain ⟨v', w', h1, h2, h3, _⟩ := run_append_own w base 87 87 9 i0 (.string ⟨#[]⟩) 1 16 Try.underlying87 hi hz0 hz1 hz2 rfl (by decide) v n xs hown ⟨b, o, none⟩ (x :: news).length c (x :: news) (by simp) (fun j y hj => by rw [add_plain]; exact hy j y hj) h1 (by unfold maxLen; omega) (by omega) hbase
    exact ⟨v', w', h1, h2, h3⟩

/-- A new row of texts. -/
def Made (l : List (List UInt8)) (w : World) (e : Ending) (w' : World) : Prop := ∃ v, e = .returned v ∧ w'.ownsRow w.heap.size 9 1 v l.length (l.map encStr) ∧ Below w.heap.size w w'

end Go.Proofs.Ytagngbdlpdilnaa
