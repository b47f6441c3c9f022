/- A region that draws its order, whose operations read old memory and whose calls may make new memory: one walk in the order of the text; Scan at what row and append hand back. No conditions but the lengths that are named. -/
import Derived.Test.YtmjkcbcenpdcnaaDoorWalksL
import Derived.Deep.QuietTactic
import Derived.BigQuiet
import Derived.WalkSmall
namespace Go.Proofs.YtmjkcbcenpdcnaaDoor
open Go.RowKit

/-- A world in which all that was there in w is as it was. -/
structure After (w : World) where
  out : World
  below : Below w.heap.size w out
instance (w : World) : Nonempty (After w) := ⟨⟨w, Below.refl _ _⟩⟩
theorem After.cell {w : World} (x : After w) (b o : Nat) (h : b < w.heap.size) : x.out.cell? ⟨b, o, none⟩ = w.cell? ⟨b, o, none⟩ := x.below.cell (p := ⟨b, o, none⟩) h

theorem wp_region_after {P : Program} {id : Nat} {Q : Exit → Act → World → Prop} {a : Act} {w : World} {l : List Oper} (hm : P.follows .mixedOrders = true) (hB : Region.lexB .any l.toArray = true)
    (h : wpQuiet P l.toArray (fun w' => ∃ x : After w, w' = x.out) (fun a' => ∀ w', (∃ x : After w, w' = x.out) → Q .normal a' w') l a) : (Code.region id l.toArray true).wp P Q a w :=
  wp_region_quiet (C := fun w' => ∃ x : After w, w' = x.out) hm hB ⟨⟨w.drew, (Below.refl _ _).drew⟩, rfl⟩ (by simpa using h)

/-- A callee that changes nothing that was there, met in such a world. -/
theorem Calls.after_of {P : Program} {f : FuncId} {args : Array Value} {w : World} {x : After w} {v : Value}
    (h : Calls P f args x.out fun e w' => e = .returned v ∧ Below x.out.heap.size x.out w') : Calls P f args x.out fun e w'' => e = .returned v ∧ ∃ y : After w, w'' = y.out :=
  h.mono fun _ _ ⟨he, hb⟩ => ⟨he, ⟨_, x.below.trans (hb.mono x.below.size)⟩, rfl⟩

theorem Scanned.lots {w w' : World} {xs : List UInt8} {v : Value} {vs : List Value} (ho : w'.ownsRow w.heap.size 22 1 v (M.sl xs).length vs) (hp : Pays w' w.heap.size vs (M.sl xs)) : Lots w' v (M.sl xs) :=
  ⟨vs, Row.of_owns ho, hp.1, fun _ _ _ hu hx => hp.bts hu hx⟩

theorem scan_out {w : World} {base : Nat} {v : Value} {l : List (List UInt8)} (hT : Tab w) (h : Out w base v l) (hl : (M.frms l).length ≤ 100000) : Calls Tryd.prog 19 #[v] w (Scanned w (M.frms l)) := by
  have hb := h.bts
  rcases h with ⟨rfl, rfl⟩ | ⟨g, _, rfl, _⟩
  · exact scan_nil hT
  · exact scan_any hT hb hl
theorem scan_own {w : World} {base : Nat} {v : Value} {n : Nat} {xs : List UInt8} (hT : Tab w) (h : w.ownsRow base 5 1 v n (xs.map enc8)) (hl : n ≤ 100000) : Calls Tryd.prog 19 #[v] w (Scanned w xs) := by
  have hb : Bts w v xs := Row.of_owns h
  rcases h.2 with ⟨rfl, e⟩ | ⟨g, cap, cur, rfl, _⟩
  · have := hb.len.1
    have e2 : xs = [] := List.eq_nil_of_length_eq_zero this
    subst e2
    exact scan_nil hT
  · exact scan_any hT hb hl
/-- Bytes behind a copy. -/
theorem append_own {w : World} {g base : Nat} {u : Value} {xs new : List UInt8} (h : Blk w g (xs ++ List.replicate 16 0)) (hb : base ≤ g) (hu : Bts w u new) (hl : xs.length + new.length ≤ 900000) :
    ∃ v' w', (Builtin.append_ #[22, 22] 22 #[.slice (some ⟨g, 0, none⟩) xs.length (xs.length + 16), u]).run Tryd.prog w = .ok v' w' ∧ w'.ownsRow base 5 1 v' (xs ++ new).length ((xs ++ new).map enc8) ∧ w.grownBy w' (some g) := by
  have ho := h.owns (n := xs.length) (xs := xs) (base := base) (by simp) (by simp) hb (by simp; omega)
  rw [show (xs ++ List.replicate 16 (0 : UInt8)).length = xs.length + 16 by simp] at ho
  exact append_any ho hu (by omega) (Nat.le_trans hb (Nat.le_of_lt h.lt))
end Go.Proofs.YtmjkcbcenpdcnaaDoor
