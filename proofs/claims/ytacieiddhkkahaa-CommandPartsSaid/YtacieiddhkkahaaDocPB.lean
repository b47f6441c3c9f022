/- Contract of the document's Part; no conditions but the lengths that it names. -/
import Derived.Test.YtacieiddhkkahaaCmdsZ
import Derived.Test.YtacieiddhkkahaaCmdsT
import Derived.Test.YtacieiddhkkahaaWalksO
namespace Go.Proofs.Ytacieiddhkkahaa
open Go.ChangeShapes Go.WideShapes Go.ChangeAt Go.RowKit


namespace M
theorem filt_yes {α : Type} {p : α → Bool} {l : List α} {j : Nat} {z : α} (hj : j < l.length) (h : p (l.getD j z) = true) : (l.take (j + 1)).filter p = (l.take j).filter p ++ [l.getD j z] := by
  rw [List.getD, List.getElem?_eq_getElem hj] at *
  rw [List.take_add_one, List.getElem?_eq_getElem hj, List.filter_append]
  simp at h
  simp [h]
theorem filt_no {α : Type} {p : α → Bool} {l : List α} {j : Nat} {z : α} (hj : j < l.length) (h : p (l.getD j z) = false) : (l.take (j + 1)).filter p = (l.take j).filter p := by
  rw [List.getD, List.getElem?_eq_getElem hj] at h
  rw [List.take_add_one, List.getElem?_eq_getElem hj, List.filter_append]
  simp at h
  simp [h]
theorem in_yes {k n : Int} {x : List UInt8} (h : sh ⟨x.toArray⟩ n = k) : (!elseB k n x) = true := by unfold elseB; rw [h]; simp
theorem in_no {k n : Int} {x : List UInt8} (h : ¬ sh ⟨x.toArray⟩ n = k) : (!elseB k n x) = false := by unfold elseB; simp [h]
theorem partR_yes {k n : Int} {l : List (List UInt8 × Int × Int)} {j : Nat} (hj : j < l.length) (h : sh ⟨(l.getD j rd0).1.toArray⟩ n = k) : partR k n (l.take (j + 1)) = partR k n (l.take j) ++ [((l.getD j rd0).1, (l.getD j rd0).2.1, (l.getD j rd0).2.2)] := filt_yes hj (in_yes h)
theorem partR_no {k n : Int} {l : List (List UInt8 × Int × Int)} {j : Nat} (hj : j < l.length) (h : ¬ sh ⟨(l.getD j rd0).1.toArray⟩ n = k) : partR k n (l.take (j + 1)) = partR k n (l.take j) := filt_no (z := rd0) hj (in_no h)
theorem partW_yes {k n : Int} {l : List (List UInt8 × List UInt8)} {j : Nat} (hj : j < l.length) (h : sh ⟨(l.getD j wr0).1.toArray⟩ n = k) : partW k n (l.take (j + 1)) = partW k n (l.take j) ++ [((l.getD j wr0).1, (l.getD j wr0).2)] := filt_yes hj (in_yes h)
theorem partW_no {k n : Int} {l : List (List UInt8 × List UInt8)} {j : Nat} (hj : j < l.length) (h : ¬ sh ⟨(l.getD j wr0).1.toArray⟩ n = k) : partW k n (l.take (j + 1)) = partW k n (l.take j) := filt_no (z := wr0) hj (in_no h)
theorem partR_len (k n : Int) (l : List (List UInt8 × Int × Int)) (j : Nat) : (partR k n (l.take j)).length ≤ l.length := Nat.le_trans (List.length_filter_le _ _) (by rw [List.length_take]; omega)
theorem partW_len (k n : Int) (l : List (List UInt8 × List UInt8)) (j : Nat) : (partW k n (l.take j)).length ≤ l.length := Nat.le_trans (List.length_filter_le _ _) (by rw [List.length_take]; omega)
end M

/-- What stands in the block of a part in the making. -/
structure Mak (w1 wr : World) (c : M.Cmd) (v u : Value) (l : List (List UInt8 × Int × Int)) (m : List (List UInt8 × List UInt8)) : Prop where
  box : Box wr w1.heap.size c v u
  soft : Soft9 wr w1.heap.size
  rds : wr.ownsRow (w1.heap.size + 1) 40 3 v l.length (rdsC l)
  wrs : wr.ownsRow (w1.heap.size + 1) 42 2 u m.length (wrsC m)
  on : Below w1.heap.size w1 wr
theorem Mak.onB {w1 wr w3 : World} {c : M.Cmd} {v u : Value} {l : List (List UInt8 × Int × Int)} {m : List (List UInt8 × List UInt8)} (h : Mak w1 wr c v u l m) (hb : Below wr.heap.size wr w3) : Mak w1 w3 c v u l m :=
  ⟨h.box.on hb, h.soft.on h.box.lt hb, ownsRow_on h.rds hb, ownsRow_on h.wrs hb, h.on.trans (hb.mono h.on.size)⟩
theorem rd_new (w : World) (x : List UInt8) (t d : Int) : Rds (w.alloc (.cells #[.string ⟨x.toArray⟩, .int .i64 t, .int .i64 d] 40)) (.slice (some ⟨w.heap.size, 0, none⟩) 1 1) [(x, t, d)] := by
  refine ⟨rfl, _, _, rfl, Nat.le_refl _, fun _ => ⟨_, _, rfl, by simp, fun j y hj => ?_⟩⟩
  have hj3 : j < 3 := (List.getElem?_eq_some_iff.1 hj).1
  rcases j with _ | _ | _ | j
  · simp [rdsC, rdC] at hj; subst hj; simp
  · simp [rdsC, rdC] at hj; subst hj; simp
  · simp [rdsC, rdC] at hj; subst hj; simp
  · omega
theorem wr_new (w : World) (x y : List UInt8) : Wrs (w.alloc (.cells #[.string ⟨x.toArray⟩, .string ⟨y.toArray⟩] 42)) (.slice (some ⟨w.heap.size, 0, none⟩) 1 1) [(x, y)] := by
  refine ⟨rfl, _, _, rfl, Nat.le_refl _, fun _ => ⟨_, _, rfl, by simp, fun j y hj => ?_⟩⟩
  have hj3 : j < 2 := (List.getElem?_eq_some_iff.1 hj).1
  rcases j with _ | _ | j
  · simp [wrsC, wrC] at hj; subst hj; simp
  · simp [wrsC, wrC] at hj; subst hj; simp
  · omega
theorem Mak.stepR {w1 w3 : World} {c : M.Cmd} {v u : Value} {l : List (List UInt8 × Int × Int)} {m : List (List UInt8 × List UInt8)} (h : Mak w1 w3 c v u l m) (x : List UInt8) (t d : Int) (hl : l.length ≤ 1000) : ∃ v' w5, (Builtin.append_ #[26, 26] 26 #[v, .slice (some ⟨w3.heap.size, 0, none⟩) 1 1]).run Try.prog ((w3.alloc (.cells #[.string ⟨x.toArray⟩, .int .i64 t, .int .i64 d] 40)).drew) = .ok v' w5 ∧ Soft9 w5 w1.heap.size ∧ Box w5 w1.heap.size c v u ∧ Mak w1 (w5.setCell ⟨w1.heap.size, 6, none⟩ v') c v' u (l ++ [(x, t, d)]) m ∧ ∃ A q, v' = .slice A (l.length + 1) q := by
  have hb : Below w3.heap.size w3 ((w3.alloc (.cells #[.string ⟨x.toArray⟩, .int .i64 t, .int .i64 d] 40)).drew) := (below_new (Below.refl _ _)).drew
  have k := h.onB hb
  obtain ⟨v', w5, hr, ho, hg⟩ := append_rds k.rds ((rd_new w3 x t d).below (Below.refl _ _).drew) (by simp; omega) (by have := k.box.lt; omega)
  have ne := own_ne (b := w1.heap.size) k.rds (.inl (by omega))
  have B5 := k.box.far hg ne
  have S5 := k.soft.far k.box.lt hg ne
  have W5 := k.wrs.kept hg (apart k.rds k.wrs).2
  refine ⟨v', w5, hr, S5, B5, ⟨B5.set6 v', fun o => by rw [World.frozen?_setCell]; exact S5 o, ?_, ownsRow_set W5 (by dsimp only; omega) _, ?_⟩, ownsRow_slice ho⟩
  · have := ownsRow_set (p := ⟨w1.heap.size, 6, none⟩) ho (by dsimp only; omega) v'
    rw [List.length_append]
    simpa [rdsC] using this
  · exact (k.on.grown hg (by have := k.box.lt; omega) (fun i hi => by have := (k.rds.lt i hi).1; omega)).setCell (p := ⟨w1.heap.size, 6, none⟩) (by dsimp only; omega) _
theorem Mak.stepW {w1 w3 : World} {c : M.Cmd} {v u : Value} {l : List (List UInt8 × Int × Int)} {m : List (List UInt8 × List UInt8)} (h : Mak w1 w3 c v u l m) (x y : List UInt8) (hl : m.length ≤ 1000) : ∃ v' w5, (Builtin.append_ #[27, 27] 27 #[u, .slice (some ⟨w3.heap.size, 0, none⟩) 1 1]).run Try.prog ((w3.alloc (.cells #[.string ⟨x.toArray⟩, .string ⟨y.toArray⟩] 42)).drew) = .ok v' w5 ∧ Soft9 w5 w1.heap.size ∧ Box w5 w1.heap.size c v u ∧ Mak w1 (w5.setCell ⟨w1.heap.size, 7, none⟩ v') c v v' l (m ++ [(x, y)]) ∧ ∃ A q, v' = .slice A (m.length + 1) q := by
  have hb : Below w3.heap.size w3 ((w3.alloc (.cells #[.string ⟨x.toArray⟩, .string ⟨y.toArray⟩] 42)).drew) := (below_new (Below.refl _ _)).drew
  have k := h.onB hb
  obtain ⟨v', w5, hr, ho, hg⟩ := append_wrs k.wrs ((wr_new w3 x y).below (Below.refl _ _).drew) (by simp; omega) (by have := k.box.lt; omega)
  have ne := own_ne (b := w1.heap.size) k.wrs (.inl (by omega))
  have B5 := k.box.far hg ne
  have S5 := k.soft.far k.box.lt hg ne
  have R5 := k.rds.kept hg (apart k.rds k.wrs).1
  refine ⟨v', w5, hr, S5, B5, ⟨B5.set7 v', fun o => by rw [World.frozen?_setCell]; exact S5 o, ownsRow_set R5 (by dsimp only; omega) _, ?_, ?_⟩, ownsRow_slice ho⟩
  · have := ownsRow_set (p := ⟨w1.heap.size, 7, none⟩) ho (by dsimp only; omega) v'
    rw [List.length_append]
    simpa [wrsC] using this
  · exact (k.on.grown hg (by have := k.box.lt; omega) (fun i hi => by have := (k.wrs.lt i hi).1; omega)).setCell (p := ⟨w1.heap.size, 7, none⟩) (by dsimp only; omega) _

namespace M
/-- The part, and why there is none. -/
def partC (c : Cmd) (k n : Int) : Cmd := if pokB c n = true then (if voidB c k n = true then zero else cut c k n) else zero
def partE (c : Cmd) (k n : Int) : Int := if pokB c n = true then (if voidB c k n = true then 10 else 0) else 1
theorem part_b {c : Cmd} {n : Int} (k : Int) (h : pokB c n = false) : partC c k n = zero ∧ partE c k n = 1 := by unfold partC partE; simp [h]
theorem part_n {c : Cmd} {k n : Int} (h : pokB c n = true) (h' : voidB c k n = true) : partC c k n = zero ∧ partE c k n = 10 := by unfold partC partE; simp [h, h']
theorem part_s {c : Cmd} {k n : Int} (h : pokB c n = true) (h' : voidB c k n = false) : partC c k n = cut c k n ∧ partE c k n = 0 := by unfold partC partE; simp [h, h']
end M
/-- A command, of memory that is new or elder, and why there is none. -/
def Res (p : M.Cmd) (er : Int) (w : World) (e : Ending) (w' : World) : Prop := ∃ va vb, e = .returned (.tuple #[.agg #[.int .i64 p.k, .int .i64 p.tc, .int .i64 p.tn, .int .i64 p.tt, .int .i64 p.tk, .int .i64 p.sh, va, vb, .bool p.cm], .int .i64 er]) ∧ Rds w' va p.rs ∧ Wrs w' vb p.ws ∧ Below w.heap.size w w'

end Go.Proofs.Ytacieiddhkkahaa
