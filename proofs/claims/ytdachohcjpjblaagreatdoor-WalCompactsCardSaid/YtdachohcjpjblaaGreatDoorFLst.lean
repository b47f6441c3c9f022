/- A map beside a log; the operations on a map of rows; what a map of the current has; conditions: those that each names. -/
import Derived.Test.YtdachohcjpjblaaGreatDoorFIns
import Derived.Test.YtdachohcjpjblaaGreatDoorFGet
set_option maxHeartbeats 8000000
set_option maxRecDepth 100000
namespace Go.Proofs.YtdachohcjpjblaaGreatDoor
open Go.ChangeShapes Go.WideShapes Go.ChangeAt Go.RowKit
open Di (Keeps In below_on below_new)
open Wi (Hold)
open Go.Maps
namespace Ls
structure Turn (gm : Nat) (w w' : World) : Prop where
 k : Keeps (fun j => j = gm) w w'
 m : ∃ o, w.heap[gm]? = some o ∧ o.isWalk = true
section
variable (w : World) {ops : Array Oper} {rest : List Oper} {o : Oper} {a : Act} {Q : Exit → Act → World → Prop}
end
theorem mput_keys (m : List (Ky × Rv)) (k : Ky) (x : Rv) : (mput m k x).map (·.1) = if k ∈ m.map (·.1) then m.map (·.1) else m.map (·.1) ++ [k] := by
 induction m with
 | nil => simp [mput]
 | cons p m ih =>
   unfold mput
   by_cases h : k = p.1
   ·simp [h]
   ·rw [if_neg h, List.map_cons, ih]
    by_cases h2 : k ∈ m.map (·.1)
    ·rw [if_pos h2, if_pos (by simp only [List.map_cons, List.mem_cons]; exact .inr h2)]; rfl
    ·rw [if_neg h2, if_neg (by simp only [List.map_cons, List.mem_cons]; exact fun e => e.elim h h2)]; rfl
theorem cur_nodup (X : List Rv) : ((cur X).map (·.1)).Nodup := by
 refine snoc_ind (P := fun X => ((cur X).map (·.1)).Nodup) (by simp [cur_nil]) (fun l x ih => ?_) X
 rw [cur_snoc, mput_keys]
 split
 ·exact ih
 ·rename_i h
  exact List.nodup_append.2 ⟨ih, by simp, fun a ha b hb => by
   simp only [List.mem_singleton] at hb
   subst hb
   intro e
   rw [e] at ha
   exact h ha⟩
theorem mget_mem : ∀ {m : List (Ky × Rv)} {k : Ky} {x : Rv}, (m.map (·.1)).Nodup → (k, x) ∈ m → mget m k = some x
 | [], _, _, _, h => (List.not_mem_nil h).elim
 | p :: m, k, x, hn, h => by
   obtain ⟨h1, h2⟩ := List.nodup_cons.1 (by simpa using hn : (p.1 :: m.map (·.1)).Nodup)
   unfold mget
   rcases List.mem_cons.1 h with rfl | h
   ·simp
   ·have hne : ¬ k = p.1 := fun e => h1 (by rw [← e]; exact List.mem_map.2 ⟨_, h, rfl⟩)
    rw [if_neg hne, mget_mem h2 h]
theorem cur_last {Z : List Rv} {k : Ky} {y : Rv} (h : (k, y) ∈ cur Z) : K.lastR (rcs Z) k = some y.r := by
 have := mget_mem (cur_nodup Z) h
 rw [mget_cur] at this
 rw [← lastX_rcs, this]
 rfl
theorem cur_keys (X Y : List Rv) (h : rcs X = rcs Y) : (cur X).map (·.1) = (cur Y).map (·.1) := by
 have hk : ∀ (X : List Rv) (m m' : List (Ky × Rv)) (Y : List Rv), m.map (·.1) = m'.map (·.1) → rcs X = rcs Y → (X.foldl (fun m x => mput m x.key x) m).map (·.1) = (Y.foldl (fun m x => mput m x.key x) m').map (·.1) := by
  intro X
  induction X with
  | nil => intro m m' Y hm hr; cases Y with
    | nil => simpa using hm
    | cons y Y => simp [rcs] at hr
  | cons x X ih => intro m m' Y hm hr; cases Y with
    | nil => simp [rcs] at hr
    | cons y Y =>
      simp only [rcs, List.map_cons, List.cons.injEq] at hr
      simp only [List.foldl_cons]
      refine ih _ _ Y ?_ hr.2
      have : x.key = y.key := by unfold Rv.key; rw [hr.1]
      rw [mput_keys, mput_keys, hm, this]
 exact hk X [] [] Y rfl h
end Ls
end Go.Proofs.YtdachohcjpjblaaGreatDoor
