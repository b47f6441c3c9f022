/- WalWhole: the law's walk; conditions: the table of sixteen, arguments that read as records. -/
import Derived.Test.YtdachohcjpjblaaGreatDoorLAwk
import Derived.Test.YtdachohcjpjblaaGreatDoorLFew
set_option maxHeartbeats 8000000
set_option maxRecDepth 100000
namespace Go.Proofs.YtdachohcjpjblaaGreatDoor
open Go.ChangeShapes Go.WideShapes Go.ChangeAt Go.RowKit
open Di (Keeps In below_on below_new)
open Wi (Hold)
theorem K.ap_state {s : Di.M.St} {A : List K.Rec} {X : List Rv} (hA : s.bs = K.fb A) (hg : K.Rg A) : (K.apE X s = 0 ∧ K.Rg (A ++ rcs X) ∧ (K.apS X s).bs = K.fb (A ++ rcs X)) ∨ (K.apE X s ≠ 0 ∧ K.apS X s = s) := by
 unfold K.apE K.apS
 cases hr : rgB X with
 | false => exact .inr ⟨by simp, by simp⟩
 | true =>
   simp only [if_true]
   unfold Di.M.appE Di.M.app
   by_cases hf : s.bs.length + (K.fb (rcs X)).length ≤ s.z
   ·rw [if_pos hf, if_pos hf]
    exact .inl ⟨rfl, hg.app (rgB_iff.1 hr), by rw [hA, K.fb_append]⟩
   ·rw [if_neg hf, if_neg hf]
    exact .inr ⟨by decide, rfl⟩
theorem K.ap_z {s : Di.M.St} {X : List Rv} : (K.apS X s).z = s.z := by
 unfold K.apS Di.M.app
 split
 ·split <;> rfl
 ·rfl
theorem rows_len {w : World} {v : Value} {X : List Rv} (h : Rows w v X) : ∃ A c, v = .slice A X.length c := rowN_sliceOf h.row
end Go.Proofs.YtdachohcjpjblaaGreatDoor
