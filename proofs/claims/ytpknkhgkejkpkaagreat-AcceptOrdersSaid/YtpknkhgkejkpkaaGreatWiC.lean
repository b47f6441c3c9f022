/- Records in memory: plain facts, laws; no conditions but those that they name. -/
import Derived.Test.YtpknkhgkejkpkaaGreatWiB
import Derived.Deep.MidRow

namespace Go.Proofs.YtpknkhgkejkpkaaGreat
open Go.RowKit

namespace M
/-- A record. -/
structure Rec where
  ir : Int
  is : Int
  st : Int
  pn : Int
  pr : Int
  bn : Int
  br : Int
  c : Cmd
  sq : Int
  d0 : Int
  d1 : Int
  d2 : Int
  d3 : Int
  d4 : Int
  d5 : Int
  d6 : Int
  kp : Bool
/-- A message. -/
structure Msg where
  k : Int
  fr : Int
  to : Int
  bn : Int
  br : Int
  r : Rec
end M

/-- A block whose first cells are these. -/
structure Cel (w : World) (b : Nat) (L : List Value) : Prop where
  lt : b < w.heap.size
  get : ∀ j x, L[j]? = some x → w.cell? ⟨b, j, none⟩ = some x
theorem Cel.new (w : World) (L : List Value) (t : TypeId) : Cel (w.alloc (.cells L.toArray t)) w.heap.size L :=
  ⟨by simp, fun j x h => by simp [h]⟩
theorem Cel.new1 (w : World) (o : Obj) (L : List Value) (t : TypeId) : Cel ((w.alloc o).alloc (.cells L.toArray t)) (w.heap.size + 1) L := by
  simpa using Cel.new (w.alloc o) L t
theorem Cel.on {w w' : World} {b : Nat} {L : List Value} (h : Cel w b L) (k : Below w.heap.size w w') : Cel w' b L :=
  ⟨Nat.lt_of_lt_of_le h.lt k.size, fun j x hj => (k.cell (p := ⟨b, j, none⟩) h.lt).trans (h.get j x hj)⟩
theorem Cel.push {w : World} {b : Nat} {L : List Value} (h : Cel w b L) (o : Obj) : Cel (w.alloc o) b L := h.on (below_new (Below.refl _ _))
theorem Cel.grown {w w' : World} {b : Nat} {L : List Value} {row : Option Nat} (h : Cel w b L) (k : w.grownBy w' row) (hn : row ≠ some b) : Cel w' b L :=
  ⟨Nat.lt_of_lt_of_le h.lt k.size, fun j x hj => k.cell (h.get j x hj) (fun e => hn e.symm)⟩
theorem Cel.range {w : World} {b o : Nat} {pre L : List Value} (X : Cel w b (pre ++ L)) (h : pre.length = o) : w.rangeAt b o L := fun j x hj => X.get (o + j) x (by
  rw [List.getElem?_append_right (by omega), show o + j - pre.length = j by omega]; exact hj)
theorem Cel.whole {w : World} {b : Nat} {L : List Value} (X : Cel w b L) : w.rangeAt b 0 L := fun j x hj => by rw [Nat.zero_add]; exact X.get j x hj
namespace M
end M

end Go.Proofs.YtpknkhgkejkpkaaGreat

namespace Go.Proofs.YtpknkhgkejkpkaaGreat
open Go.RowKit

theorem ta_yes33 (x : Value) (s : TypeId) (w : World) : (Instr.typeAssert (.iface 30 x) s 30 true).run Tryz.prog w = .ok (.tuple #[x, .bool true]) w := by
  simp [Instr.typeAssert, run_underlying Tryz.underlying30]
theorem ta_nil33 (s : TypeId) (w : World) : (Instr.typeAssert .nilIface s 30 true).run Tryz.prog w = .ok (.tuple #[.agg #[.int .i64 0, .int .i64 0, .int .i64 0, .int .i64 0, .int .i64 0, .int .i64 0, .slice none 0 0, .slice none 0 0, .bool false], .bool false]) w := by
  simp [Instr.typeAssert, run_underlying Tryz.underlying30]
theorem ta_no33_3 (x : Value) (s : TypeId) (w : World) : (Instr.typeAssert (.iface 3 x) s 30 true).run Tryz.prog w = .ok (.tuple #[.agg #[.int .i64 0, .int .i64 0, .int .i64 0, .int .i64 0, .int .i64 0, .int .i64 0, .slice none 0 0, .slice none 0 0, .bool false], .bool false]) w := by
  simp [Instr.typeAssert, run_underlying Tryz.underlying30]
theorem ta_no33_37 (x : Value) (s : TypeId) (w : World) : (Instr.typeAssert (.iface 41 x) s 30 true).run Tryz.prog w = .ok (.tuple #[.agg #[.int .i64 0, .int .i64 0, .int .i64 0, .int .i64 0, .int .i64 0, .int .i64 0, .slice none 0 0, .slice none 0 0, .bool false], .bool false]) w := by
  simp [Instr.typeAssert, run_underlying Tryz.underlying30]
theorem ta_no33_39 (x : Value) (s : TypeId) (w : World) : (Instr.typeAssert (.iface 49 x) s 30 true).run Tryz.prog w = .ok (.tuple #[.agg #[.int .i64 0, .int .i64 0, .int .i64 0, .int .i64 0, .int .i64 0, .int .i64 0, .slice none 0 0, .slice none 0 0, .bool false], .bool false]) w := by
  simp [Instr.typeAssert, run_underlying Tryz.underlying30]
theorem ta_yes37 (x : Value) (s : TypeId) (w : World) : (Instr.typeAssert (.iface 41 x) s 41 true).run Tryz.prog w = .ok (.tuple #[x, .bool true]) w := by
  simp [Instr.typeAssert, run_underlying Tryz.underlying41]
theorem ta_nil37 (s : TypeId) (w : World) : (Instr.typeAssert .nilIface s 41 true).run Tryz.prog w = .ok (.tuple #[.agg #[.int .i64 0, .int .i64 0, .int .i64 0, .int .i64 0, .int .i64 0, .int .i64 0, .int .i64 0, .int .i64 0, .int .i64 0, .int .i64 0, .int .i64 0, .int .i64 0, .int .i64 0, .slice none 0 0, .slice none 0 0, .bool false, .int .i64 0, .int .i64 0, .int .i64 0, .int .i64 0, .int .i64 0, .int .i64 0, .int .i64 0, .int .i64 0, .bool false], .bool false]) w := by
  simp [Instr.typeAssert, run_underlying Tryz.underlying41]
theorem ta_no37_3 (x : Value) (s : TypeId) (w : World) : (Instr.typeAssert (.iface 3 x) s 41 true).run Tryz.prog w = .ok (.tuple #[.agg #[.int .i64 0, .int .i64 0, .int .i64 0, .int .i64 0, .int .i64 0, .int .i64 0, .int .i64 0, .int .i64 0, .int .i64 0, .int .i64 0, .int .i64 0, .int .i64 0, .int .i64 0, .slice none 0 0, .slice none 0 0, .bool false, .int .i64 0, .int .i64 0, .int .i64 0, .int .i64 0, .int .i64 0, .int .i64 0, .int .i64 0, .int .i64 0, .bool false], .bool false]) w := by
  simp [Instr.typeAssert, run_underlying Tryz.underlying41]
theorem ta_no37_33 (x : Value) (s : TypeId) (w : World) : (Instr.typeAssert (.iface 30 x) s 41 true).run Tryz.prog w = .ok (.tuple #[.agg #[.int .i64 0, .int .i64 0, .int .i64 0, .int .i64 0, .int .i64 0, .int .i64 0, .int .i64 0, .int .i64 0, .int .i64 0, .int .i64 0, .int .i64 0, .int .i64 0, .int .i64 0, .slice none 0 0, .slice none 0 0, .bool false, .int .i64 0, .int .i64 0, .int .i64 0, .int .i64 0, .int .i64 0, .int .i64 0, .int .i64 0, .int .i64 0, .bool false], .bool false]) w := by
  simp [Instr.typeAssert, run_underlying Tryz.underlying41]
theorem ta_no37_39 (x : Value) (s : TypeId) (w : World) : (Instr.typeAssert (.iface 49 x) s 41 true).run Tryz.prog w = .ok (.tuple #[.agg #[.int .i64 0, .int .i64 0, .int .i64 0, .int .i64 0, .int .i64 0, .int .i64 0, .int .i64 0, .int .i64 0, .int .i64 0, .int .i64 0, .int .i64 0, .int .i64 0, .int .i64 0, .slice none 0 0, .slice none 0 0, .bool false, .int .i64 0, .int .i64 0, .int .i64 0, .int .i64 0, .int .i64 0, .int .i64 0, .int .i64 0, .int .i64 0, .bool false], .bool false]) w := by
  simp [Instr.typeAssert, run_underlying Tryz.underlying41]
theorem ta_yes39 (x : Value) (s : TypeId) (w : World) : (Instr.typeAssert (.iface 49 x) s 49 true).run Tryz.prog w = .ok (.tuple #[x, .bool true]) w := by
  simp [Instr.typeAssert, run_underlying Tryz.underlying49]
theorem ta_nil39 (s : TypeId) (w : World) : (Instr.typeAssert .nilIface s 49 true).run Tryz.prog w = .ok (.tuple #[.agg #[.int .i64 0, .int .i64 0, .int .i64 0, .int .i64 0, .int .i64 0, .int .i64 0, .int .i64 0, .int .i64 0, .int .i64 0, .int .i64 0, .int .i64 0, .int .i64 0, .int .i64 0, .int .i64 0, .int .i64 0, .int .i64 0, .int .i64 0, .int .i64 0, .slice none 0 0, .slice none 0 0, .bool false, .int .i64 0, .int .i64 0, .int .i64 0, .int .i64 0, .int .i64 0, .int .i64 0, .int .i64 0, .int .i64 0, .bool false], .bool false]) w := by
  simp [Instr.typeAssert, run_underlying Tryz.underlying49]
theorem ta_no39_3 (x : Value) (s : TypeId) (w : World) : (Instr.typeAssert (.iface 3 x) s 49 true).run Tryz.prog w = .ok (.tuple #[.agg #[.int .i64 0, .int .i64 0, .int .i64 0, .int .i64 0, .int .i64 0, .int .i64 0, .int .i64 0, .int .i64 0, .int .i64 0, .int .i64 0, .int .i64 0, .int .i64 0, .int .i64 0, .int .i64 0, .int .i64 0, .int .i64 0, .int .i64 0, .int .i64 0, .slice none 0 0, .slice none 0 0, .bool false, .int .i64 0, .int .i64 0, .int .i64 0, .int .i64 0, .int .i64 0, .int .i64 0, .int .i64 0, .int .i64 0, .bool false], .bool false]) w := by
  simp [Instr.typeAssert, run_underlying Tryz.underlying49]
theorem ta_no39_33 (x : Value) (s : TypeId) (w : World) : (Instr.typeAssert (.iface 30 x) s 49 true).run Tryz.prog w = .ok (.tuple #[.agg #[.int .i64 0, .int .i64 0, .int .i64 0, .int .i64 0, .int .i64 0, .int .i64 0, .int .i64 0, .int .i64 0, .int .i64 0, .int .i64 0, .int .i64 0, .int .i64 0, .int .i64 0, .int .i64 0, .int .i64 0, .int .i64 0, .int .i64 0, .int .i64 0, .slice none 0 0, .slice none 0 0, .bool false, .int .i64 0, .int .i64 0, .int .i64 0, .int .i64 0, .int .i64 0, .int .i64 0, .int .i64 0, .int .i64 0, .bool false], .bool false]) w := by
  simp [Instr.typeAssert, run_underlying Tryz.underlying49]
theorem ta_no39_37 (x : Value) (s : TypeId) (w : World) : (Instr.typeAssert (.iface 41 x) s 49 true).run Tryz.prog w = .ok (.tuple #[.agg #[.int .i64 0, .int .i64 0, .int .i64 0, .int .i64 0, .int .i64 0, .int .i64 0, .int .i64 0, .int .i64 0, .int .i64 0, .int .i64 0, .int .i64 0, .int .i64 0, .int .i64 0, .int .i64 0, .int .i64 0, .int .i64 0, .int .i64 0, .int .i64 0, .slice none 0 0, .slice none 0 0, .bool false, .int .i64 0, .int .i64 0, .int .i64 0, .int .i64 0, .int .i64 0, .int .i64 0, .int .i64 0, .int .i64 0, .bool false], .bool false]) w := by
  simp [Instr.typeAssert, run_underlying Tryz.underlying49]
theorem must_yes (x : Value) (s : TypeId) (w : World) : (Instr.typeAssert (.iface 41 x) s 41 false).run Tryz.prog w = .ok x w := by
  simp [Instr.typeAssert, run_underlying Tryz.underlying41]
/-- What a failed assertion panics with. -/
def taP (w : World) : Value := .iface 15 (.pointer (some ⟨w.heap.size, 0, none⟩))
theorem elem15 (w : World) : (elemOf 15).run Tryz.prog w = .ok 154 w := by
  simp [elemOf, run_underlying Tryz.underlying15]
theorem must_no3 : ∃ o : Obj, ∀ (x : Value) (w : World), (Instr.typeAssert (.iface 3 x) 20 41 false).run Tryz.prog w = .halt (.panic (taP w)) (w.alloc o) :=
  ⟨_, fun x w => by simp [Instr.typeAssert, run_underlying Tryz.underlying41, runtimePanic, go_sem, elem15, taP]; rfl⟩
theorem must_no33 : ∃ o : Obj, ∀ (x : Value) (w : World), (Instr.typeAssert (.iface 30 x) 20 41 false).run Tryz.prog w = .halt (.panic (taP w)) (w.alloc o) :=
  ⟨_, fun x w => by simp [Instr.typeAssert, run_underlying Tryz.underlying41, runtimePanic, go_sem, elem15, taP]; rfl⟩
theorem must_no39 : ∃ o : Obj, ∀ (x : Value) (w : World), (Instr.typeAssert (.iface 49 x) 20 41 false).run Tryz.prog w = .halt (.panic (taP w)) (w.alloc o) :=
  ⟨_, fun x w => by simp [Instr.typeAssert, run_underlying Tryz.underlying41, runtimePanic, go_sem, elem15, taP]; rfl⟩
theorem must_nil : ∃ o : Obj, ∀ (w : World), (Instr.typeAssert .nilIface 20 41 false).run Tryz.prog w = .halt (.panic (taP w)) (w.alloc o) :=
  ⟨_, fun w => by simp [Instr.typeAssert, run_underlying Tryz.underlying41, runtimePanic, go_sem, elem15, taP]; rfl⟩
end Go.Proofs.YtpknkhgkejkpkaaGreat

namespace Go.Proofs.YtpknkhgkejkpkaaGreat
open Go.RowKit

theorem fresh_set (w : World) (t : TypeId) : ∀ (L P Z : List Value), Z.length = L.length → (w.alloc (.cells (P ++ Z).toArray t)).setCells w.heap.size P.length L = w.alloc (.cells (P ++ L).toArray t)
  | [], P, Z, h => by
    have : Z = [] := List.length_eq_zero_iff.1 h
    subst this; rfl
  | v :: r, P, [], h => by simp at h
  | v :: r, P, z :: Z, h => by
    rw [World.setCells, World.setCell_alloc_new]
    have e : (P ++ z :: Z).toArray.setIfInBounds P.length v = ((P ++ [v]) ++ Z).toArray := by
      apply Array.toList_inj.1
      simp
    rw [e]
    have := fresh_set w t r (P ++ [v]) Z (by simpa using h)
    rw [List.length_append] at this
    simp only [List.length_cons, List.length_nil, Nat.zero_add] at this
    rw [this]
    simp
theorem fresh_there (w : World) (t : TypeId) (Z : List Value) : (w.alloc (.cells Z.toArray t)).there w.heap.size 0 Z.length := fun j hj => by
  constructor
  · simp [hj]
  · simp [go_sem]

/-- A store into a block that was just made. -/
theorem wpList_store_fresh {P : Program} {ops : Array Oper} {rest : List Oper} {op : Oper} {a : Act} {w : World} {Q : Exit → Act → World → Prop} (hgd : op.guard = none) (ty : TypeId) (x y : Operand) (ho : op.op = .store ty x y)
    (b : Nat) (hb : b = w.heap.size) (t : TypeId) (Z L : List Value) (hx : a.eval x = .pointer (some ⟨b, 0, none⟩)) (hy : a.eval y = .agg L.toArray)
    (hl : Z.length = L.length) (hi : (P.info? ty).map (·.size) = some L.length) (h1 : L.all (·.oneCell') = true)
    (h : wpList P ops Q rest (a.put op.dst undef) (w.alloc (.cells L.toArray t))) : wpList P ops Q (op :: rest) a (w.alloc (.cells Z.toArray t)) := by
  subst hb
  refine wpList_store_mid hgd ty x y ho w.heap.size 0 L.toArray hx hy ?_ (by simpa using hi) (by simpa using h1) ?_
  · have := fresh_there w t Z
    rw [hl] at this
    simpa using this
  · have e := fresh_set w t L [] Z hl
    simp only [List.nil_append, List.length_nil] at e
    simp only [] 
    rw [e]
    exact h
end Go.Proofs.YtpknkhgkejkpkaaGreat
