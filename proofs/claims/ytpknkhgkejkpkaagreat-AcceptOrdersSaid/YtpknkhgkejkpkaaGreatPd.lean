/- The commands of what is kept and told are ones that were handed in; plain facts; no dump. -/
import Derived.Test.YtpknkhgkejkpkaaGreatPb
namespace Go.Proofs.YtpknkhgkejkpkaaGreat
open Go.RowKit

namespace M
theorem zero_mod : Mod zero := modB_iff.1 (by kernel_rfl)
/-- A property of commands that no command has, and that goes over to what is kept and told. -/
theorem answer_cmd (P : Cmd → Prop) (h0 : P zero) {X : List Rv} {k : Rec} {m : Msg} (hk : P k.c) (hm : P m.r.c) : P (answer X k m).1.r.c ∧ P (answer X k m).1.m.r.c := by
  unfold answer
  split
  · unfold commitS
    split
    · exact ⟨h0, h0⟩
    · unfold comP
      split <;> exact ⟨hm, h0⟩
  split
  · exact ⟨h0, hk⟩
  split
  · exact ⟨h0, h0⟩
  split
  · unfold preS
    split
    · exact ⟨h0, hk⟩
    · split
      · exact ⟨h0, h0⟩
      · exact ⟨hm, hm⟩
  split
  · unfold accS
    split
    · exact ⟨h0, hk⟩
    · exact ⟨hm, hm⟩
  · unfold proS
    split
    · exact ⟨h0, hk⟩
    · exact ⟨hk, hk⟩
theorem handle_cmd (P : Cmd → Prop) (h0 : P zero) {X : List Rv} (hX : ∀ x ∈ X, P x.r.c) {self : Int} {m : Msg} (hm : P m.r.c) : P (handle X self m).1.r.c ∧ P (handle X self m).1.m.r.c := by
  unfold handle
  split
  · refine answer_cmd P h0 ?_ hm
    refine know_ind (fun r => P r.c) _ _ h0 _ fun r hr _ => ?_
    obtain ⟨x, hx, rfl⟩ := List.mem_map.1 hr
    exact hX x hx
  · exact ⟨h0, h0⟩
theorem know_cmd (P : Cmd → Prop) (h0 : P zero) {X : List Rv} (hX : ∀ x ∈ X, P x.r.c) (a b : Int) : P (knowL (rcs X) a b).c :=
  know_ind (fun r => P r.c) _ _ h0 _ fun r hr _ => by
    obtain ⟨x, hx, rfl⟩ := List.mem_map.1 hr
    exact hX x hx
end M
end Go.Proofs.YtpknkhgkejkpkaaGreat
