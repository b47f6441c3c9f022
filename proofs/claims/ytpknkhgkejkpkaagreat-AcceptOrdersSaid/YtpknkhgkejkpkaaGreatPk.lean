/- What is known of an instance: plain facts; no dump. -/
import Derived.Test.YtpknkhgkejkpkaaGreatWiE
import Derived.Test.YtpknkhgkejkpkaaGreatRw
namespace Go.Proofs.YtpknkhgkejkpkaaGreat
open Go.RowKit

namespace M
theorem ord_lt_iff {a b c d : Int} : ord a b c d < 0 ↔ a < c ∨ (a = c ∧ b < d) := by
  unfold ord; (repeat' split) <;> omega
theorem ord_le_iff {a b c d : Int} : ord a b c d ≤ 0 ↔ a < c ∨ (a = c ∧ b ≤ d) := by
  unfold ord; (repeat' split) <;> omega
theorem ord_gt_iff {a b c d : Int} : 0 < ord a b c d ↔ c < a ∨ (a = c ∧ d < b) := by
  unfold ord; (repeat' split) <;> omega
/-- No record of an instance. -/
def recI (a b : Int) : Rec := ⟨a, b, 0, 0, 0, 0, 0, zero, 0, 0, 0, 0, 0, 0, 0, 0, false⟩
def zrec : Rec := recI 0 0
def zmsg : Msg := ⟨0, 0, 0, 0, 0, zrec⟩
/-- What is known. -/
def know1 (a b : Int) (o r : Rec) : Rec := if eq2 r.ir r.is a b = true then r else o
def knowL (l : List Rec) (a b : Int) : Rec := l.foldl (know1 a b) (recI a b)
theorem know_snoc (l : List Rec) (r : Rec) (a b : Int) : knowL (l ++ [r]) a b = if eq2 r.ir r.is a b = true then r else knowL l a b := by
  unfold knowL; rw [List.foldl_append]; rfl
theorem know_take {l : List Rec} {k : Nat} {r : Rec} (h : l[k]? = some r) (a b : Int) : knowL (l.take (k + 1)) a b = if eq2 r.ir r.is a b = true then r else knowL (l.take k) a b := by
  rw [List.take_add_one, h, Option.toList_some, know_snoc]
theorem know_ind (P : Rec → Prop) (a b : Int) (h0 : P (recI a b)) : ∀ l : List Rec, (∀ r ∈ l, eq2 r.ir r.is a b = true → P r) → P (knowL l a b) := by
  intro l h
  have key : ∀ (m : List Rec) (o : Rec), P o → (∀ r ∈ m, eq2 r.ir r.is a b = true → P r) → P (m.foldl (know1 a b) o) := by
    intro m
    induction m with
    | nil => intro o ho _; exact ho
    | cons r m ih =>
      intro o ho hm
      refine ih _ ?_ fun q hq => hm q (List.mem_cons_of_mem _ hq)
      unfold know1
      split
      · rename_i e; exact hm r List.mem_cons_self e
      · exact ho
  exact key l _ h0 h
theorem know_inst (l : List Rec) (a b : Int) : (knowL l a b).ir = a ∧ (knowL l a b).is = b :=
  know_ind (fun r => r.ir = a ∧ r.is = b) a b ⟨rfl, rfl⟩ l fun _ _ e => eq2_iff.1 e
theorem know_or (l : List Rec) (a b : Int) : knowL l a b = recI a b ∨ knowL l a b ∈ l :=
  know_ind (fun r => r = recI a b ∨ r ∈ l) a b (.inl rfl) l fun _ h _ => .inr h
theorem know_none {l : List Rec} {a b : Int} (h : ∀ q ∈ l, eq2 q.ir q.is a b = false) : knowL l a b = recI a b :=
  know_ind (fun r => r = recI a b) a b rfl l fun r hr e => by rw [h r hr] at e; cases e
theorem know_tail (a b : Int) : ∀ (m : List Rec) (o : Rec), (∀ q ∈ m, eq2 q.ir q.is a b = false) → m.foldl (know1 a b) o = o
  | [], _, _ => rfl
  | r :: m, o, h => by
    have e : know1 a b o r = o := by unfold know1; rw [h r List.mem_cons_self]; rfl
    rw [List.foldl_cons, e]
    exact know_tail a b m o fun q hq => h q (List.mem_cons_of_mem _ hq)
theorem know_at {l : List Rec} {k : Nat} {r : Rec} {a b : Int} (h : l[k]? = some r) (e : eq2 r.ir r.is a b = true) (hb : ∀ j q, k < j → l[j]? = some q → eq2 q.ir q.is a b = false) : knowL l a b = r := by
  have hk := (List.getElem?_eq_some_iff.1 h).1
  have hd : l = l.take k ++ r :: l.drop (k + 1) := by
    have := (List.take_append_drop k l).symm
    rw [List.drop_eq_getElem_cons hk] at this
    rw [(List.getElem?_eq_some_iff.1 h).2] at this
    exact this
  rw [hd]
  unfold knowL
  rw [List.foldl_append, List.foldl_cons]
  have e1 : ∀ o, know1 a b o r = r := fun o => by unfold know1; rw [if_pos e]
  rw [e1]
  refine know_tail a b _ _ fun q hq => ?_
  obtain ⟨j, hj⟩ := List.getElem?_of_mem hq
  rw [List.getElem?_drop] at hj
  exact hb _ q (by omega) hj

end M
end Go.Proofs.YtpknkhgkejkpkaaGreat
