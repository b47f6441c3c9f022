/- Commands that may be gone through: contracts; no conditions but those that they name. -/
import Derived.Test.YtpknkhgkejkpkaaGreatWiE

namespace Go.Proofs.YtpknkhgkejkpkaaGreat
open Go.ChangeShapes Go.WideShapes Go.ChangeAt Go.RowKit

/-- True, and all that was there is as it was. -/
def Yes (w : World) (e : Ending) (w' : World) : Prop := e = .returned (.bool true) ∧ Below w.heap.size w w'
theorem few_one {w : World} {b : Nat} (hb : b = w.heap.size) (a : M.Cmd) {va vb : Value} (h : Rds w va a.rs) (h' : Wrs w vb a.ws) : Calls Tryz.prog 9 #[.slice (some ⟨b, 0, none⟩) 1 1] (w.alloc (.cells #[.int .i64 a.k, .int .i64 a.tc, .int .i64 a.tn, .int .i64 a.tt, .int .i64 a.tk, .int .i64 a.sh, va, vb, .bool a.cm] 30)) fun e w' => e = .returned (.bool (M.modB a)) ∧ Below (w.alloc (.cells #[.int .i64 a.k, .int .i64 a.tc, .int .i64 a.tn, .int .i64 a.tt, .int .i64 a.tk, .int .i64 a.sh, va, vb, .bool a.cm] 30)).heap.size (w.alloc (.cells #[.int .i64 a.k, .int .i64 a.tc, .int .i64 a.tn, .int .i64 a.tt, .int .i64 a.tk, .int .i64 a.sh, va, vb, .bool a.cm] 30)) w' := by
  subst hb
  have := few_any (w := w.alloc (.cells #[.int .i64 a.k, .int .i64 a.tc, .int .i64 a.tn, .int .i64 a.tt, .int .i64 a.tk, .int .i64 a.sh, va, vb, .bool a.cm] 30)) (b := w.heap.size) (o := 0) (n := 1) (fun _ => a) (fun _ => va) (fun _ => vb) (by omega) (fun j hj => by
    obtain rfl : j = 0 := by omega
    exact ⟨by simp, by simp, by simp, by simp, by simp, by simp, by simp, by simp, by simp, by simp⟩) (fun j _ => h.push _) (fun j _ => h'.push _)
  refine this.mono fun e w' hh => ⟨?_, hh.2⟩
  rw [hh.1]; simp
theorem few_two {w : World} {x : Nat} (hx : x = w.heap.size) (a b : M.Cmd) {va vb ua ub : Value} (h : Rds w va a.rs) (h' : Wrs w vb a.ws) (g : Rds w ua b.rs) (g' : Wrs w ub b.ws) : Calls Tryz.prog 9 #[.slice (some ⟨x, 0, none⟩) 2 2] (w.alloc (.cells #[.int .i64 a.k, .int .i64 a.tc, .int .i64 a.tn, .int .i64 a.tt, .int .i64 a.tk, .int .i64 a.sh, va, vb, .bool a.cm, .int .i64 b.k, .int .i64 b.tc, .int .i64 b.tn, .int .i64 b.tt, .int .i64 b.tk, .int .i64 b.sh, ua, ub, .bool b.cm] 30)) fun e w' => e = .returned (.bool (M.modB a && M.modB b)) ∧ Below (w.alloc (.cells #[.int .i64 a.k, .int .i64 a.tc, .int .i64 a.tn, .int .i64 a.tt, .int .i64 a.tk, .int .i64 a.sh, va, vb, .bool a.cm, .int .i64 b.k, .int .i64 b.tc, .int .i64 b.tn, .int .i64 b.tt, .int .i64 b.tk, .int .i64 b.sh, ua, ub, .bool b.cm] 30)).heap.size (w.alloc (.cells #[.int .i64 a.k, .int .i64 a.tc, .int .i64 a.tn, .int .i64 a.tt, .int .i64 a.tk, .int .i64 a.sh, va, vb, .bool a.cm, .int .i64 b.k, .int .i64 b.tc, .int .i64 b.tn, .int .i64 b.tt, .int .i64 b.tk, .int .i64 b.sh, ua, ub, .bool b.cm] 30)) w' := by
  subst hx
  have := few_any (w := w.alloc (.cells #[.int .i64 a.k, .int .i64 a.tc, .int .i64 a.tn, .int .i64 a.tt, .int .i64 a.tk, .int .i64 a.sh, va, vb, .bool a.cm, .int .i64 b.k, .int .i64 b.tc, .int .i64 b.tn, .int .i64 b.tt, .int .i64 b.tk, .int .i64 b.sh, ua, ub, .bool b.cm] 30)) (b := w.heap.size) (o := 0) (n := 2) (fun j => if j = 0 then a else b) (fun j => if j = 0 then va else ua) (fun j => if j = 0 then vb else ub) (by omega) (fun j hj => by
    have h2 : j = 0 ∨ j = 1 := by omega
    rcases h2 with rfl | rfl
    · exact ⟨by simp, by simp, by simp, by simp, by simp, by simp, by simp, by simp, by simp, by simp⟩
    · exact ⟨by simp, by simp, by simp, by simp, by simp, by simp, by simp, by simp, by simp, by simp⟩) (fun j hj => by
    have h2 : j = 0 ∨ j = 1 := by omega
    rcases h2 with rfl | rfl
    · exact h.push _
    · exact g.push _) (fun j hj => by
    have h2 : j = 0 ∨ j = 1 := by omega
    rcases h2 with rfl | rfl
    · exact h'.push _
    · exact g'.push _)
  refine this.mono fun e w' hh => ⟨?_, hh.2⟩
  rw [hh.1]; simp [List.range_succ]
def pick3 {α : Type} (a b c : α) : Nat → α
  | 0 => a
  | 1 => b
  | _ => c
theorem few_three {w : World} {x : Nat} (hx : x = w.heap.size) (a b c : M.Cmd) {va vb ua ub ta tb : Value} (h : Rds w va a.rs) (h' : Wrs w vb a.ws) (g : Rds w ua b.rs) (g' : Wrs w ub b.ws) (k : Rds w ta c.rs) (k' : Wrs w tb c.ws) : Calls Tryz.prog 9 #[.slice (some ⟨x, 0, none⟩) 3 3] (w.alloc (.cells #[.int .i64 a.k, .int .i64 a.tc, .int .i64 a.tn, .int .i64 a.tt, .int .i64 a.tk, .int .i64 a.sh, va, vb, .bool a.cm, .int .i64 b.k, .int .i64 b.tc, .int .i64 b.tn, .int .i64 b.tt, .int .i64 b.tk, .int .i64 b.sh, ua, ub, .bool b.cm, .int .i64 c.k, .int .i64 c.tc, .int .i64 c.tn, .int .i64 c.tt, .int .i64 c.tk, .int .i64 c.sh, ta, tb, .bool c.cm] 30)) fun e w' => e = .returned (.bool (M.modB a && (M.modB b && M.modB c))) ∧ Below (w.alloc (.cells #[.int .i64 a.k, .int .i64 a.tc, .int .i64 a.tn, .int .i64 a.tt, .int .i64 a.tk, .int .i64 a.sh, va, vb, .bool a.cm, .int .i64 b.k, .int .i64 b.tc, .int .i64 b.tn, .int .i64 b.tt, .int .i64 b.tk, .int .i64 b.sh, ua, ub, .bool b.cm, .int .i64 c.k, .int .i64 c.tc, .int .i64 c.tn, .int .i64 c.tt, .int .i64 c.tk, .int .i64 c.sh, ta, tb, .bool c.cm] 30)).heap.size (w.alloc (.cells #[.int .i64 a.k, .int .i64 a.tc, .int .i64 a.tn, .int .i64 a.tt, .int .i64 a.tk, .int .i64 a.sh, va, vb, .bool a.cm, .int .i64 b.k, .int .i64 b.tc, .int .i64 b.tn, .int .i64 b.tt, .int .i64 b.tk, .int .i64 b.sh, ua, ub, .bool b.cm, .int .i64 c.k, .int .i64 c.tc, .int .i64 c.tn, .int .i64 c.tt, .int .i64 c.tk, .int .i64 c.sh, ta, tb, .bool c.cm] 30)) w' := by
  subst hx
  have := few_any (w := w.alloc (.cells #[.int .i64 a.k, .int .i64 a.tc, .int .i64 a.tn, .int .i64 a.tt, .int .i64 a.tk, .int .i64 a.sh, va, vb, .bool a.cm, .int .i64 b.k, .int .i64 b.tc, .int .i64 b.tn, .int .i64 b.tt, .int .i64 b.tk, .int .i64 b.sh, ua, ub, .bool b.cm, .int .i64 c.k, .int .i64 c.tc, .int .i64 c.tn, .int .i64 c.tt, .int .i64 c.tk, .int .i64 c.sh, ta, tb, .bool c.cm] 30)) (b := w.heap.size) (o := 0) (n := 3) (pick3 a b c) (pick3 va ua ta) (pick3 vb ub tb) (by omega) (fun j hj => by
    have h2 : j = 0 ∨ j = 1 ∨ j = 2 := by omega
    rcases h2 with rfl | rfl | rfl
    · exact ⟨by simp, by simp [pick3], by simp [pick3], by simp [pick3], by simp [pick3], by simp [pick3], by simp [pick3], by simp [pick3], by simp [pick3], by simp [pick3]⟩
    · exact ⟨by simp, by simp [pick3], by simp [pick3], by simp [pick3], by simp [pick3], by simp [pick3], by simp [pick3], by simp [pick3], by simp [pick3], by simp [pick3]⟩
    · exact ⟨by simp, by simp [pick3], by simp [pick3], by simp [pick3], by simp [pick3], by simp [pick3], by simp [pick3], by simp [pick3], by simp [pick3], by simp [pick3]⟩) (fun j hj => by
    have h2 : j = 0 ∨ j = 1 ∨ j = 2 := by omega
    rcases h2 with rfl | rfl | rfl
    · exact h.push _
    · exact g.push _
    · exact k.push _) (fun j hj => by
    have h2 : j = 0 ∨ j = 1 ∨ j = 2 := by omega
    rcases h2 with rfl | rfl | rfl
    · exact h'.push _
    · exact g'.push _
    · exact k'.push _)
  refine this.mono fun e w' hh => ⟨?_, hh.2⟩
  rw [hh.1]; simp [List.range_succ, pick3]

/-- A load of a whole value, in whatever world comes behind w. -/
theorem quiet_load_mid {P : Program} {w : World} {a : Act} {o : Oper} {K : Act → Prop} (ty : TypeId) (x : Operand) (ho : o.op = .load ty x) (b off : Nat) (hx : a.eval x = .pointer (some ⟨b, off, none⟩)) (cs : List Value) (d : TypeDesc) (hb : b < w.heap.size) (hc : w.rangeAt b off cs)
    (hu : P.underlying ty = some d) (hd : d.isRow = true) (hi : (P.info? ty).map (·.size) = some cs.length) (hk : K (a.put o.dst (.agg cs.toArray))) : o.quiet P a (fun w' => ∃ x : After w, w' = x.out) K := by
  refine ⟨_, ?_, hk⟩
  rintro w' ⟨y, rfl⟩
  unfold Oper.quietAt execOp
  have hr : y.out.rangeAt b off cs := fun j v hj => (y.below.cell (p := ⟨b, off + j, none⟩) hb).trans (hc j v hj)
  simp only [ho, hx, Instr.loadAt, Instr.sureAddr, Sem.run_bind, Sem.run_pure, Result.andThen_ok, run_loadVar_mid y.out b off ty cs d hr hu hd hi]
  exact ⟨rfl, rfl⟩
end Go.Proofs.YtpknkhgkejkpkaaGreat
