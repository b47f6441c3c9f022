/- Laws: a slice loaded, or stored, as one step of a region that draws its order; no conditions but those that they name. -/
import Derived.Test.YtnahboflpipfpaaStp
import Derived.Deep.RegionHeld3
namespace Go.Proofs.Ytnahboflpipfpaa
open Go.ChangeShapes Go.WideShapes Go.ChangeAt Go.RowKit

theorem step_st27 {ops : Array Oper} {o : Oper} {a : Act} {w : World} {K : Act → World → Prop} {Q : Exit → Act → World → Prop} {E : Prop} (hg : o.guard = none) (x z : Operand) (ho : o.op = .store 27 x z) (b i : Nat) (A : Option Addr) (n k : Nat) (hx : a.eval x = .pointer (some ⟨b, i, none⟩)) (hy : a.eval z = .slice A n k)
    (v0 : Value) (hc : w.cell? ⟨b, i, none⟩ = some v0) (hf : w.frozen? ⟨b, i, none⟩ = false) (hK : K (a.put o.dst undef) (w.setCell ⟨b, i, none⟩ (.slice A n k))) : if Region.wanted o (yielded ops a.tmps) = true then Oper.wp Try.prog o a w K Q else E := by
  rw [if_pos (by simp [Region.wanted, hg])]
  unfold Oper.wp execOp
  simp only [ho, hx, hy]
  go_simp
  exact hK
theorem step_ld27 {ops : Array Oper} {o : Oper} {a : Act} {w : World} {K : Act → World → Prop} {Q : Exit → Act → World → Prop} {E : Prop} (hg : o.guard = none) (x : Operand) (ho : o.op = .load 27 x) (b i : Nat) (hx : a.eval x = .pointer (some ⟨b, i, none⟩))
    (v0 : Value) (hc : w.cell? ⟨b, i, none⟩ = some v0) (hK : K (a.put o.dst v0) w) : if Region.wanted o (yielded ops a.tmps) = true then Oper.wp Try.prog o a w K Q else E := by
  rw [if_pos (by simp [Region.wanted, hg])]
  unfold Oper.wp execOp
  simp only [ho, hx]
  go_simp
  exact hK
/-- The last step of a region: a slice stored. -/
theorem wpAnyH_last_st27 {md : Region.Mode} {ops : Array Oper} {Q : Exit → Act → World → Prop} {S : World → Prop} {fuel : Nat} {listed : Array Bool} {a : Act} {w : World} {i : Nat} {o : Oper} (hr : Region.ready md ops listed = [i]) (ho' : ops[i]? = some o)
    (hg : o.guard = none) (x z : Operand) (ho : o.op = .store 27 x z) (b j : Nat) (A : Option Addr) (n k : Nat) (hx : a.eval x = .pointer (some ⟨b, j, none⟩)) (hy : a.eval z = .slice A n k)
    (v0 : Value) (hc : w.cell? ⟨b, j, none⟩ = some v0) (hf : w.frozen? ⟨b, j, none⟩ = false) (hr2 : Region.ready md ops (listed.setIfInBounds i true) = []) (hS : S (w.setCell ⟨b, j, none⟩ (.slice A n k)))
    (hQ : Q .normal (a.put o.dst undef) (w.setCell ⟨b, j, none⟩ (.slice A n k))) : wpAnyH Try.prog md ops Q S (fuel + 1) listed a w :=
  wpAnyH_ready hr (by simp) (AllReadyH.cons ho' (fun _ hK => step_st27 hg x z ho b j A n k hx hy v0 hc hf (hK.out _ _ hS (fun _ => wpAnyH_done hr2 hQ _))) AllReadyH.nil)
/-- A struct stored, where nothing else is ready. -/
theorem wpAnyH_store {md : Region.Mode} {ops : Array Oper} {Q : Exit → Act → World → Prop} {S : World → Prop} {fuel : Nat} {listed : Array Bool} {a : Act} {w : World} {i : Nat} {o : Oper} (hr : Region.ready md ops listed = [i]) (ho' : ops[i]? = some o)
    (hg : o.guard = none) (ty : TypeId) (x z : Operand) (ho : o.op = .store ty x z) (b : Nat) (t : TypeId) (Z L : List Value) (hx : a.eval x = .pointer (some ⟨b, 0, none⟩)) (hy : a.eval z = .agg L.toArray)
    (hh : Hold w b t Z) (hl : Z.length = L.length) (hi : (Try.prog.info? ty).map (·.size) = some L.length) (h1 : L.all (·.oneCell') = true) (hS : S (w.setCells b 0 L))
    (h : wpAnyH Try.prog md ops Q S fuel (listed.setIfInBounds i true) (a.put o.dst undef) (w.setCells b 0 L)) : wpAnyH Try.prog md ops Q S (fuel + 1) listed a w :=
  wpAnyH_ready hr (by simp) (AllReadyH.cons ho' (fun _ hK => step_store hg ty x z ho b t Z L hx hy hh hl hi h1 (hK.out _ _ hS (fun _ => h))) AllReadyH.nil)
end Go.Proofs.Ytnahboflpipfpaa
