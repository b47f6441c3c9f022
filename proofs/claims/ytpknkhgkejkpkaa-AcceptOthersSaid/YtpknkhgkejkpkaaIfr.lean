/- Contract of the document's Interfere; no conditions but those that they name. -/
import Derived.Test.YtpknkhgkejkpkaaKeC

namespace Go.Proofs.Ytpknkhgkejkpkaa
open Go.ChangeShapes Go.WideShapes Go.ChangeAt Go.RowKit

attribute [local go_sem ↓] run_same_rd run_same_wr run_same_txn run_same_stamp
namespace M
theorem eq2_comm (a b c d : Int) : eq2 a b c d = eq2 c d a b := by
  unfold eq2
  exact decide_eq_decide.2 ⟨fun h => ⟨h.1.symm, h.2.symm⟩, fun h => ⟨h.1.symm, h.2.symm⟩⟩
theorem eq2_refl (a b : Int) : eq2 a b a b = true := by simp [eq2]
theorem meet_comm (l m : List (List UInt8)) : meetB l m = meetB m l := by
  rw [Bool.eq_iff_iff, meetB_iff, meetB_iff]
  exact ⟨fun ⟨x, h1, h2⟩ => ⟨x, h2, h1⟩, fun ⟨x, h1, h2⟩ => ⟨x, h2, h1⟩⟩
theorem inter_comm (a b : Cmd) : interB a b = interB b a := by
  unfold interB
  by_cases h1 : a.k = 0
  · by_cases h2 : b.k = 0
    · simp [h1, h2]
    · simp [h1, h2]
  · by_cases h2 : b.k = 0
    · simp [h1, h2]
    · simp only [h1, h2, if_false]; rw [eq2_comm, meet_comm]
end M
end Go.Proofs.Ytpknkhgkejkpkaa
