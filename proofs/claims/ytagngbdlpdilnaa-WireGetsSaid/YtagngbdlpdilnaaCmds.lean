/- Lists of reads and writes in memory; no conditions. -/
import Derived.Test.YtagngbdlpdilnaaBase
namespace Go.Proofs.Ytagngbdlpdilnaa
open Go.ChangeShapes Go.WideShapes Go.ChangeAt Go.RowKit

/-- A slice of n elements of k cells that reads as a list of cells. -/
def RowN (k : Nat) (w : World) (v : Value) (n : Nat) (xs : List Value) : Prop := xs.length = n * k ∧ ∃ (A : Option Addr) (c : Nat), v = .slice A n c ∧ n ≤ c ∧ (0 < n → ∃ b o, A = some ⟨b, o, none⟩ ∧ b < w.heap.size ∧ ∀ j x, xs[j]? = some x → w.cell? ⟨b, o + j, none⟩ = some x)
theorem RowN.below {k : Nat} {w w' : World} {v : Value} {n : Nat} {xs : List Value} (h : RowN k w v n xs) (hb : Below w.heap.size w w') : RowN k w' v n xs := by
  obtain ⟨hl, A, c, e, hn, hc⟩ := h
  refine ⟨hl, A, c, e, hn, fun h0 => ?_⟩
  obtain ⟨b, o, e1, hlt, hx⟩ := hc h0
  exact ⟨b, o, e1, Nat.lt_of_lt_of_le hlt hb.size, fun j x hj => (hb.cell hlt).trans (hx j x hj)⟩
theorem RowN.of_owns {k : Nat} {w : World} {base : Nat} {t : TypeId} {v : Value} {n : Nat} {xs : List Value} (h : w.ownsRow base t k v n xs) : RowN k w v n xs := by
  obtain ⟨hl, h2⟩ := h
  refine ⟨hl, ?_⟩
  rcases h2 with ⟨rfl, rfl⟩ | ⟨g, cap, cur, rfl, hb, hg, hn, hm, hs, ht⟩
  · exact ⟨none, 0, rfl, Nat.le_refl _, fun h => absurd h (by omega)⟩
  · refine ⟨some ⟨g, 0, none⟩, cap, rfl, hn, fun _ => ⟨g, 0, rfl, (Array.getElem?_eq_some_iff.1 hg).1, fun j x hx => ?_⟩⟩
    have hj : j < xs.length := (List.getElem?_eq_some_iff.1 hx).1
    have h1 : (cur.toList.take (n * k))[j]? = some x := by rw [ht]; exact hx
    rw [List.getElem?_take_of_lt (by omega), Array.getElem?_toList] at h1
    simp only [World.cell?, hg, Nat.zero_add, Option.isSome_none, Bool.false_eq_true, if_false]
    exact h1

/-- A read's cells, a write's. -/
def rdC (r : (List UInt8 × Int × Int)) : List Value := [.string ⟨r.1.toArray⟩, .int .i64 r.2.1, .int .i64 r.2.2]
def wrC (r : (List UInt8 × List UInt8)) : List Value := [.string ⟨r.1.toArray⟩, .string ⟨r.2.toArray⟩]
def rdsC (l : List (List UInt8 × Int × Int)) : List Value := l.flatMap rdC
def wrsC (l : List (List UInt8 × List UInt8)) : List Value := l.flatMap wrC
theorem rdsC_len (l : List (List UInt8 × Int × Int)) : (rdsC l).length = l.length * 3 := by
  induction l with
  | nil => rfl
  | cons r l ih => simp only [rdsC, List.flatMap_cons, List.length_append, List.length_cons] at *; rw [ih]; simp [rdC]; omega
theorem wrsC_len (l : List (List UInt8 × List UInt8)) : (wrsC l).length = l.length * 2 := by
  induction l with
  | nil => rfl
  | cons r l ih => simp only [wrsC, List.flatMap_cons, List.length_append, List.length_cons] at *; rw [ih]; simp [wrC]; omega
def rd0 : (List UInt8 × Int × Int) := ([], 0, 0)
def wr0 : (List UInt8 × List UInt8) := ([], [])
theorem rdsC_at (l : List (List UInt8 × Int × Int)) (i j : Nat) (hi : i < l.length) (hj : j < 3) : (rdsC l)[i * 3 + j]? = (rdC (l.getD i rd0))[j]? := by
  induction l generalizing i with
  | nil => simp at hi
  | cons r l ih =>
    have e : rdsC (r :: l) = rdC r ++ rdsC l := rfl
    cases i with
    | zero => rw [e, List.getElem?_append_left (by simp [rdC]; omega)]; simp
    | succ i =>
      rw [e, List.getElem?_append_right (by simp [rdC]; omega)]
      have := ih i (by simpa using hi)
      rw [show (i + 1) * 3 + j - (rdC r).length = i * 3 + j by simp [rdC]; omega, this]
      simp
theorem wrsC_at (l : List (List UInt8 × List UInt8)) (i j : Nat) (hi : i < l.length) (hj : j < 2) : (wrsC l)[i * 2 + j]? = (wrC (l.getD i wr0))[j]? := by
  induction l generalizing i with
  | nil => simp at hi
  | cons r l ih =>
    have e : wrsC (r :: l) = wrC r ++ wrsC l := rfl
    cases i with
    | zero => rw [e, List.getElem?_append_left (by simp [wrC]; omega)]; simp
    | succ i =>
      rw [e, List.getElem?_append_right (by simp [wrC]; omega)]
      have := ih i (by simpa using hi)
      rw [show (i + 1) * 2 + j - (wrC r).length = i * 2 + j by simp [wrC]; omega, this]
      simp

/-- A slice of reads, of writes. -/
def Rds (w : World) (v : Value) (l : List (List UInt8 × Int × Int)) : Prop := RowN 3 w v l.length (rdsC l)
def Wrs (w : World) (v : Value) (l : List (List UInt8 × List UInt8)) : Prop := RowN 2 w v l.length (wrsC l)
theorem Rds.below {w w' : World} {v : Value} {l : List (List UInt8 × Int × Int)} (h : Rds w v l) (hb : Below w.heap.size w w') : Rds w' v l := RowN.below h hb
theorem Wrs.below {w w' : World} {v : Value} {l : List (List UInt8 × List UInt8)} (h : Wrs w v l) (hb : Below w.heap.size w w') : Wrs w' v l := RowN.below h hb
theorem Rds.nil (w : World) : Rds w (.slice none 0 0) [] := ⟨rfl, none, 0, rfl, Nat.le_refl _, fun h => absurd h (by simp)⟩
theorem Wrs.nil (w : World) : Wrs w (.slice none 0 0) [] := ⟨rfl, none, 0, rfl, Nat.le_refl _, fun h => absurd h (by simp)⟩
/-- What stands at a place. -/
structure RdAt (w : World) (b p : Nat) (k : List UInt8) (t c : Int) : Prop where
  key : w.cell? ⟨b, p, none⟩ = some (.string ⟨k.toArray⟩)
  time : w.cell? ⟨b, p + 1, none⟩ = some (.int .i64 t)
  client : w.cell? ⟨b, p + 2, none⟩ = some (.int .i64 c)
structure WrAt (w : World) (b p : Nat) (k x : List UInt8) : Prop where
  key : w.cell? ⟨b, p, none⟩ = some (.string ⟨k.toArray⟩)
  val : w.cell? ⟨b, p + 1, none⟩ = some (.string ⟨x.toArray⟩)
theorem Rds.opened {w : World} {v : Value} {l : List (List UInt8 × Int × Int)} (h : Rds w v l) : ∃ (A : Option Addr) (c : Nat), v = .slice A l.length c ∧ l.length ≤ c ∧ (0 < l.length → ∃ b o, A = some ⟨b, o, none⟩ ∧ b < w.heap.size ∧ ∀ i, i < l.length → RdAt w b (o + i * 3) (l.getD i rd0).1 (l.getD i rd0).2.1 (l.getD i rd0).2.2) := by
  obtain ⟨hl, A, c, e, hn, hx⟩ := h
  refine ⟨A, c, e, hn, fun h0 => ?_⟩
  obtain ⟨b, o, e1, hb, hy⟩ := hx h0
  refine ⟨b, o, e1, hb, fun i hi => ⟨?_, ?_, ?_⟩⟩
  · exact hy (i * 3) _ (rdsC_at l i 0 hi (by omega))
  · rw [show o + i * 3 + 1 = o + (i * 3 + 1) by omega]; exact hy (i * 3 + 1) _ (rdsC_at l i 1 hi (by omega))
  · rw [show o + i * 3 + 2 = o + (i * 3 + 2) by omega]; exact hy (i * 3 + 2) _ (rdsC_at l i 2 hi (by omega))
theorem Wrs.opened {w : World} {v : Value} {l : List (List UInt8 × List UInt8)} (h : Wrs w v l) : ∃ (A : Option Addr) (c : Nat), v = .slice A l.length c ∧ l.length ≤ c ∧ (0 < l.length → ∃ b o, A = some ⟨b, o, none⟩ ∧ b < w.heap.size ∧ ∀ i, i < l.length → WrAt w b (o + i * 2) (l.getD i wr0).1 (l.getD i wr0).2) := by
  obtain ⟨hl, A, c, e, hn, hx⟩ := h
  refine ⟨A, c, e, hn, fun h0 => ?_⟩
  obtain ⟨b, o, e1, hb, hy⟩ := hx h0
  refine ⟨b, o, e1, hb, fun i hi => ⟨?_, ?_⟩⟩
  · exact hy (i * 2) _ (wrsC_at l i 0 hi (by omega))
  · rw [show o + i * 2 + 1 = o + (i * 2 + 1) by omega]; exact hy (i * 2 + 1) _ (wrsC_at l i 1 hi (by omega))
theorem RdAt.below {w w' : World} {b p : Nat} {k : List UInt8} {t c : Int} (h : RdAt w b p k t c) (hb : Below w.heap.size w w') (hlt : b < w.heap.size) : RdAt w' b p k t c :=
  ⟨(hb.cell (p := ⟨b, p, none⟩) hlt).trans h.key, (hb.cell (p := ⟨b, p + 1, none⟩) hlt).trans h.time, (hb.cell (p := ⟨b, p + 2, none⟩) hlt).trans h.client⟩
theorem WrAt.below {w w' : World} {b p : Nat} {k x : List UInt8} (h : WrAt w b p k x) (hb : Below w.heap.size w w') (hlt : b < w.heap.size) : WrAt w' b p k x :=
  ⟨(hb.cell (p := ⟨b, p, none⟩) hlt).trans h.key, (hb.cell (p := ⟨b, p + 1, none⟩) hlt).trans h.val⟩
end Go.Proofs.Ytagngbdlpdilnaa
