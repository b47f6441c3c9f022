/- The walk's laws on stores of structs where a region draws its order; a number and deps as results; no conditions but those that each theorem names. -/
import Derived.Test.YtgaglcfoodbcfaaMpl
import Derived.Test.YtgaglcfoodbcfaaWiF
import Derived.Deep.RegionHeld3
namespace Go.Proofs.Ytgaglcfoodbcfaa
open Go.ChangeShapes Go.WideShapes Go.ChangeAt Go.RowKit

theorem step_load {P : Program} {ops : Array Oper} {o : Oper} {a : Act} {w : World} {K : Act → World → Prop} {Q : Exit → Act → World → Prop} {E : Prop} (hg : o.guard = none) (ty : TypeId) (x : Operand) (ho : o.op = .load ty x) (b off : Nat) (hx : a.eval x = .pointer (some ⟨b, off, none⟩)) (cs : List Value) (d : TypeDesc) (hc : w.rangeAt b off cs)
    (hu : P.underlying ty = some d) (hd : d.isRow = true) (hi : (P.info? ty).map (·.size) = some cs.length) (hK : K (a.put o.dst (.agg cs.toArray)) w) : if Region.wanted o (yielded ops a.tmps) = true then Oper.wp P o a w K Q else E := by
  rw [if_pos (by simp [Region.wanted, hg])]
  exact wp_load_mid ty x ho b off hx cs d hc hu hd hi hK
theorem step_store {ops : Array Oper} {o : Oper} {a : Act} {w : World} {K : Act → World → Prop} {Q : Exit → Act → World → Prop} {E : Prop} (hg : o.guard = none) (ty : TypeId) (x z : Operand) (ho : o.op = .store ty x z) (b : Nat) (t : TypeId) (Z L : List Value) (hx : a.eval x = .pointer (some ⟨b, 0, none⟩)) (hy : a.eval z = .agg L.toArray)
    (hh : Hold w b t Z) (hl : Z.length = L.length) (hi : (Try.prog.info? ty).map (·.size) = some L.length) (h1 : L.all (·.oneCell') = true) (hK : K (a.put o.dst undef) (w.setCells b 0 L)) : if Region.wanted o (yielded ops a.tmps) = true then Oper.wp Try.prog o a w K Q else E := by
  rw [if_pos (by simp [Region.wanted, hg])]
  exact wp_store_mid ty x z ho b 0 L.toArray hx hy (hh.there (by rw [hl, Nat.zero_add]; exact Nat.le_refl _)) (by simpa using hi) (by simpa using h1) hK
/-- A struct stored, where nothing else is ready. -/
theorem wpAnyH_store {md : Region.Mode} {ops : Array Oper} {Q : Exit → Act → World → Prop} {S : World → Prop} {fuel : Nat} {listed : Array Bool} {a : Act} {w : World} {i : Nat} {o : Oper} (hr : Region.ready md ops listed = [i]) (ho' : ops[i]? = some o)
    (hg : o.guard = none) (ty : TypeId) (x z : Operand) (ho : o.op = .store ty x z) (b : Nat) (t : TypeId) (Z L : List Value) (hx : a.eval x = .pointer (some ⟨b, 0, none⟩)) (hy : a.eval z = .agg L.toArray)
    (hh : Hold w b t Z) (hl : Z.length = L.length) (hi : (Try.prog.info? ty).map (·.size) = some L.length) (h1 : L.all (·.oneCell') = true) (hS : S (w.setCells b 0 L))
    (h : wpAnyH Try.prog md ops Q S fuel (listed.setIfInBounds i true) (a.put o.dst undef) (w.setCells b 0 L)) : wpAnyH Try.prog md ops Q S (fuel + 1) listed a w :=
  wpAnyH_ready hr (by simp) (AllReadyH.cons ho' (fun _ hK => step_store hg ty x z ho b t Z L hx hy hh hl hi h1 (hK.out _ _ hS (fun _ => h))) AllReadyH.nil)
theorem results_vc {fn : Func} {j k : Nat} {t : TypeId} {tmps : Array Value} {w : World} {b : Nat} {L : List Value} {x : Value} (hf : fn.results = #[ResultVar.tmp k, ResultVar.cell j t]) (hp : tmps.getD j undef = .pointer (some ⟨b, 0, none⟩)) (hx : tmps.getD k undef = x) (hr : w.rangeAt b 0 L) (d : TypeDesc) (hu : Try.prog.underlying t = some d) (hd : d.isRow = true) (hi : (Try.prog.info? t).map (·.size) = some L.length) :
    (results fn tmps).run Try.prog w = .ok (.tuple #[x, .agg L.toArray]) w := by
  have hp' : tmps[j]?.getD undef = .pointer (some ⟨b, 0, none⟩) := by simpa using hp
  have hx' : tmps[k]?.getD undef = x := by simpa using hx
  simp [results, hf, hp', hx', asAddr, run_loadVar_mid w b 0 t L _ hr hu hd hi, Result.andThen]
theorem puts_other {b : Nat} (L : List Value) : ∀ (o : Nat) (w : World) (k : Nat), k ≠ b → (w.setCells b o L).heap[k]? = w.heap[k]? := by
  intro o w k hk
  have key : ∀ (L : List Value) (o : Nat) (w : World), (w.setCells b o L).heap[k]? = w.heap[k]? := by
    intro L
    induction L with
    | nil => intro o w; rfl
    | cons x L ih =>
      intro o w
      rw [World.setCells, ih]
      exact Below.heap_setCell _ _ _ _ (fun e => hk e)
  exact key L o w
theorem hold_puts {w : World} {b b' : Nat} {t : TypeId} {L S : List Value} (h : Hold w b t L) (hn : b ≠ b') (o : Nat) : Hold (w.setCells b' o S) b t L := (puts_other S o w b hn).trans h
theorem range_puts {w : World} {b b' o : Nat} {L : List Value} (h : w.rangeAt b o L) (hn : b ≠ b') (S : List Value) (q : Nat) : (w.setCells b' q S).rangeAt b o L := fun j v hj => by
  have := h j v hj
  unfold World.cell? at this ⊢
  rw [puts_other S q w b hn]
  exact this
theorem size_puts {b : Nat} : ∀ (L : List Value) (o : Nat) (w : World), (w.setCells b o L).heap.size = w.heap.size := by
  intro L
  induction L with
  | nil => intro o w; rfl
  | cons x L ih => intro o w; rw [World.setCells, ih]; simp
end Go.Proofs.Ytgaglcfoodbcfaa
