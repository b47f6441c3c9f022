/- Type assertions at values of known types; no conditions. -/
import Derived.Test.YtagngbdlpdilnaaPutR
namespace Go.Proofs.Ytagngbdlpdilnaa
open Go.RowKit

theorem ta_yes33 (x : Value) (s : TypeId) (w : World) : (Instr.typeAssert (.iface 33 x) s 33 true).run Try.prog w = .ok (.tuple #[x, .bool true]) w := by
  simp [Instr.typeAssert, run_underlying Try.underlying33]
theorem ta_nil33 (s : TypeId) (w : World) : (Instr.typeAssert .nilIface s 33 true).run Try.prog w = .ok (.tuple #[.agg #[.int .i64 0, .int .i64 0, .int .i64 0, .int .i64 0, .int .i64 0, .int .i64 0, .slice none 0 0, .slice none 0 0, .bool false], .bool false]) w := by
  simp [Instr.typeAssert, run_underlying Try.underlying33]
theorem ta_no33_3 (x : Value) (s : TypeId) (w : World) : (Instr.typeAssert (.iface 3 x) s 33 true).run Try.prog w = .ok (.tuple #[.agg #[.int .i64 0, .int .i64 0, .int .i64 0, .int .i64 0, .int .i64 0, .int .i64 0, .slice none 0 0, .slice none 0 0, .bool false], .bool false]) w := by
  simp [Instr.typeAssert, run_underlying Try.underlying33]
theorem ta_no33_37 (x : Value) (s : TypeId) (w : World) : (Instr.typeAssert (.iface 37 x) s 33 true).run Try.prog w = .ok (.tuple #[.agg #[.int .i64 0, .int .i64 0, .int .i64 0, .int .i64 0, .int .i64 0, .int .i64 0, .slice none 0 0, .slice none 0 0, .bool false], .bool false]) w := by
  simp [Instr.typeAssert, run_underlying Try.underlying33]
theorem ta_no33_39 (x : Value) (s : TypeId) (w : World) : (Instr.typeAssert (.iface 39 x) s 33 true).run Try.prog w = .ok (.tuple #[.agg #[.int .i64 0, .int .i64 0, .int .i64 0, .int .i64 0, .int .i64 0, .int .i64 0, .slice none 0 0, .slice none 0 0, .bool false], .bool false]) w := by
  simp [Instr.typeAssert, run_underlying Try.underlying33]
theorem ta_yes37 (x : Value) (s : TypeId) (w : World) : (Instr.typeAssert (.iface 37 x) s 37 true).run Try.prog w = .ok (.tuple #[x, .bool true]) w := by
  simp [Instr.typeAssert, run_underlying Try.underlying37]
theorem ta_nil37 (s : TypeId) (w : World) : (Instr.typeAssert .nilIface s 37 true).run Try.prog w = .ok (.tuple #[.agg #[.int .i64 0, .int .i64 0, .int .i64 0, .int .i64 0, .int .i64 0, .int .i64 0, .int .i64 0, .int .i64 0, .int .i64 0, .int .i64 0, .int .i64 0, .int .i64 0, .int .i64 0, .slice none 0 0, .slice none 0 0, .bool false, .int .i64 0, .int .i64 0, .int .i64 0, .int .i64 0, .int .i64 0, .int .i64 0, .int .i64 0, .int .i64 0, .bool false], .bool false]) w := by
  simp [Instr.typeAssert, run_underlying Try.underlying37]
theorem ta_no37_3 (x : Value) (s : TypeId) (w : World) : (Instr.typeAssert (.iface 3 x) s 37 true).run Try.prog w = .ok (.tuple #[.agg #[.int .i64 0, .int .i64 0, .int .i64 0, .int .i64 0, .int .i64 0, .int .i64 0, .int .i64 0, .int .i64 0, .int .i64 0, .int .i64 0, .int .i64 0, .int .i64 0, .int .i64 0, .slice none 0 0, .slice none 0 0, .bool false, .int .i64 0, .int .i64 0, .int .i64 0, .int .i64 0, .int .i64 0, .int .i64 0, .int .i64 0, .int .i64 0, .bool false], .bool false]) w := by
  simp [Instr.typeAssert, run_underlying Try.underlying37]
theorem ta_no37_33 (x : Value) (s : TypeId) (w : World) : (Instr.typeAssert (.iface 33 x) s 37 true).run Try.prog w = .ok (.tuple #[.agg #[.int .i64 0, .int .i64 0, .int .i64 0, .int .i64 0, .int .i64 0, .int .i64 0, .int .i64 0, .int .i64 0, .int .i64 0, .int .i64 0, .int .i64 0, .int .i64 0, .int .i64 0, .slice none 0 0, .slice none 0 0, .bool false, .int .i64 0, .int .i64 0, .int .i64 0, .int .i64 0, .int .i64 0, .int .i64 0, .int .i64 0, .int .i64 0, .bool false], .bool false]) w := by
  simp [Instr.typeAssert, run_underlying Try.underlying37]
theorem ta_no37_39 (x : Value) (s : TypeId) (w : World) : (Instr.typeAssert (.iface 39 x) s 37 true).run Try.prog w = .ok (.tuple #[.agg #[.int .i64 0, .int .i64 0, .int .i64 0, .int .i64 0, .int .i64 0, .int .i64 0, .int .i64 0, .int .i64 0, .int .i64 0, .int .i64 0, .int .i64 0, .int .i64 0, .int .i64 0, .slice none 0 0, .slice none 0 0, .bool false, .int .i64 0, .int .i64 0, .int .i64 0, .int .i64 0, .int .i64 0, .int .i64 0, .int .i64 0, .int .i64 0, .bool false], .bool false]) w := by
  simp [Instr.typeAssert, run_underlying Try.underlying37]
theorem ta_yes39 (x : Value) (s : TypeId) (w : World) : (Instr.typeAssert (.iface 39 x) s 39 true).run Try.prog w = .ok (.tuple #[x, .bool true]) w := by
  simp [Instr.typeAssert, run_underlying Try.underlying39]
theorem ta_nil39 (s : TypeId) (w : World) : (Instr.typeAssert .nilIface s 39 true).run Try.prog w = .ok (.tuple #[.agg #[.int .i64 0, .int .i64 0, .int .i64 0, .int .i64 0, .int .i64 0, .int .i64 0, .int .i64 0, .int .i64 0, .int .i64 0, .int .i64 0, .int .i64 0, .int .i64 0, .int .i64 0, .int .i64 0, .int .i64 0, .int .i64 0, .int .i64 0, .int .i64 0, .slice none 0 0, .slice none 0 0, .bool false, .int .i64 0, .int .i64 0, .int .i64 0, .int .i64 0, .int .i64 0, .int .i64 0, .int .i64 0, .int .i64 0, .bool false], .bool false]) w := by
  simp [Instr.typeAssert, run_underlying Try.underlying39]
theorem ta_no39_3 (x : Value) (s : TypeId) (w : World) : (Instr.typeAssert (.iface 3 x) s 39 true).run Try.prog w = .ok (.tuple #[.agg #[.int .i64 0, .int .i64 0, .int .i64 0, .int .i64 0, .int .i64 0, .int .i64 0, .int .i64 0, .int .i64 0, .int .i64 0, .int .i64 0, .int .i64 0, .int .i64 0, .int .i64 0, .int .i64 0, .int .i64 0, .int .i64 0, .int .i64 0, .int .i64 0, .slice none 0 0, .slice none 0 0, .bool false, .int .i64 0, .int .i64 0, .int .i64 0, .int .i64 0, .int .i64 0, .int .i64 0, .int .i64 0, .int .i64 0, .bool false], .bool false]) w := by
  simp [Instr.typeAssert, run_underlying Try.underlying39]
theorem ta_no39_33 (x : Value) (s : TypeId) (w : World) : (Instr.typeAssert (.iface 33 x) s 39 true).run Try.prog w = .ok (.tuple #[.agg #[.int .i64 0, .int .i64 0, .int .i64 0, .int .i64 0, .int .i64 0, .int .i64 0, .int .i64 0, .int .i64 0, .int .i64 0, .int .i64 0, .int .i64 0, .int .i64 0, .int .i64 0, .int .i64 0, .int .i64 0, .int .i64 0, .int .i64 0, .int .i64 0, .slice none 0 0, .slice none 0 0, .bool false, .int .i64 0, .int .i64 0, .int .i64 0, .int .i64 0, .int .i64 0, .int .i64 0, .int .i64 0, .int .i64 0, .bool false], .bool false]) w := by
  simp [Instr.typeAssert, run_underlying Try.underlying39]
theorem ta_no39_37 (x : Value) (s : TypeId) (w : World) : (Instr.typeAssert (.iface 37 x) s 39 true).run Try.prog w = .ok (.tuple #[.agg #[.int .i64 0, .int .i64 0, .int .i64 0, .int .i64 0, .int .i64 0, .int .i64 0, .int .i64 0, .int .i64 0, .int .i64 0, .int .i64 0, .int .i64 0, .int .i64 0, .int .i64 0, .int .i64 0, .int .i64 0, .int .i64 0, .int .i64 0, .int .i64 0, .slice none 0 0, .slice none 0 0, .bool false, .int .i64 0, .int .i64 0, .int .i64 0, .int .i64 0, .int .i64 0, .int .i64 0, .int .i64 0, .int .i64 0, .bool false], .bool false]) w := by
  simp [Instr.typeAssert, run_underlying Try.underlying39]
theorem must_yes (x : Value) (s : TypeId) (w : World) : (Instr.typeAssert (.iface 37 x) s 37 false).run Try.prog w = .ok x w := by
  simp [Instr.typeAssert, run_underlying Try.underlying37]
/-- What a failed assertion panics with. -/
def taP (w : World) : Value := .iface 15 (.pointer (some ⟨w.heap.size, 0, none⟩))
theorem elem15 (w : World) : (elemOf 15).run Try.prog w = .ok 156 w := by
  simp [elemOf, run_underlying Try.underlying15]
theorem must_no3 : ∃ o : Obj, ∀ (x : Value) (w : World), (Instr.typeAssert (.iface 3 x) 20 37 false).run Try.prog w = .halt (.panic (taP w)) (w.alloc o) :=
  ⟨_, fun x w => by simp [Instr.typeAssert, run_underlying Try.underlying37, runtimePanic, go_sem, elem15, taP]; rfl⟩
theorem must_no33 : ∃ o : Obj, ∀ (x : Value) (w : World), (Instr.typeAssert (.iface 33 x) 20 37 false).run Try.prog w = .halt (.panic (taP w)) (w.alloc o) :=
  ⟨_, fun x w => by simp [Instr.typeAssert, run_underlying Try.underlying37, runtimePanic, go_sem, elem15, taP]; rfl⟩
theorem must_no39 : ∃ o : Obj, ∀ (x : Value) (w : World), (Instr.typeAssert (.iface 39 x) 20 37 false).run Try.prog w = .halt (.panic (taP w)) (w.alloc o) :=
  ⟨_, fun x w => by simp [Instr.typeAssert, run_underlying Try.underlying37, runtimePanic, go_sem, elem15, taP]; rfl⟩
theorem must_nil : ∃ o : Obj, ∀ (w : World), (Instr.typeAssert .nilIface 20 37 false).run Try.prog w = .halt (.panic (taP w)) (w.alloc o) :=
  ⟨_, fun w => by simp [Instr.typeAssert, run_underlying Try.underlying37, runtimePanic, go_sem, elem15, taP]; rfl⟩
end Go.Proofs.Ytagngbdlpdilnaa
