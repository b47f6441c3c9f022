/- The states of a disk as plain values, what each step makes of them, and that each keeps what may be; no conditions. -/
import Derived.Test.YtpdknamdladgnaaRows
namespace Go.Proofs.Ytpdknamdladgnaa.M

/-- A disk: for how many bytes it has room, its bytes, how many of them are safe. -/
structure St where
  z : Nat
  bs : List UInt8
  k : Nat
/-- A step. -/
structure Do where
  verb : Int
  n : Int
  pos : Int
  mask : UInt8
  b : List UInt8
/-- What may be. -/
def Ok (s : St) : Prop := s.bs.length ≤ s.z ∧ s.z ≤ 1048576 ∧ s.k ≤ s.bs.length

def app (b : List UInt8) (s : St) : St := if s.bs.length + b.length ≤ s.z then ⟨s.z, s.bs ++ b, s.k⟩ else s
def appE (b : List UInt8) (s : St) : Int := if s.bs.length + b.length ≤ s.z then 0 else 7
def syn (s : St) : St := ⟨s.z, s.bs, s.bs.length⟩
def cut (n : Int) (s : St) : St := if 0 ≤ n ∧ n ≤ s.bs.length then ⟨s.z, s.bs.take n.toNat, min s.k n.toNat⟩ else s
def cutE (n : Int) (s : St) : Int := if 0 ≤ n ∧ n ≤ s.bs.length then 0 else 2
def rep (b : List UInt8) (s : St) : St := if b.length ≤ s.z then ⟨s.z, b, b.length⟩ else s
def repE (b : List UInt8) (s : St) : Int := if b.length ≤ s.z then 0 else 7
/-- How many of the bytes that are not safe are left. -/
def left (keep : Int) (s : St) : Nat := min (max keep 0).toNat (s.bs.length - s.k)
/-- The bytes that a crash leaves. -/
def fell (keep pos : Int) (mask : UInt8) (s : St) : List UInt8 :=
  if 0 ≤ pos ∧ pos < left keep s then (s.bs.take (s.k + left keep s)).set (s.k + pos.toNat) (s.bs.getD (s.k + pos.toNat) 0 ^^^ mask) else s.bs.take (s.k + left keep s)
def crash (keep pos : Int) (mask : UInt8) (s : St) : St := ⟨s.z, fell keep pos mask s, s.k + left keep s⟩
def step (s : St) (d : Do) : St :=
  if d.verb = 0 then app d.b s else if d.verb = 1 then syn s else if d.verb = 2 then cut d.n s else if d.verb = 3 then rep d.b s else if d.verb = 4 then crash d.n d.pos d.mask s else s
def err (s : St) (d : Do) : Int :=
  if d.verb = 0 then appE d.b s else if d.verb = 2 then cutE d.n s else if d.verb = 3 then repE d.b s else 0
def steps (s : St) (l : List Do) : St := l.foldl step s
/-- Do two tell the same? -/
def alike (s t : St) (d : Do) : Bool := decide (err s d = err t d)
theorem alike_refl (s : St) (d : Do) : alike s s d = true := by simp [alike]

theorem left_le (keep : Int) (s : St) : left keep s ≤ s.bs.length - s.k := by unfold left; omega
theorem fell_len {keep pos : Int} {mask : UInt8} {s : St} (h : Ok s) : (fell keep pos mask s).length = s.k + left keep s := by
  have := left_le keep s
  have h3 := h.2.2
  unfold fell
  split <;> simp <;> omega

theorem Ok.app {s : St} (h : Ok s) (b : List UInt8) : Ok (app b s) := by
  unfold M.app; split
  · exact ⟨by simpa using ‹_›, h.2.1, by simp; have := h.2.2; omega⟩
  · exact h
theorem Ok.syn {s : St} (h : Ok s) : Ok (syn s) := ⟨h.1, h.2.1, Nat.le_refl _⟩
theorem Ok.cut {s : St} (h : Ok s) (n : Int) : Ok (cut n s) := by
  unfold M.cut; split
  · have h1 := h.1
    have h3 := h.2.2
    refine ⟨?_, h.2.1, ?_⟩ <;> simp <;> omega
  · exact h
theorem Ok.rep {s : St} (h : Ok s) (b : List UInt8) : Ok (rep b s) := by
  unfold M.rep; split
  · exact ⟨‹_›, h.2.1, Nat.le_refl _⟩
  · exact h
theorem Ok.crash {s : St} (h : Ok s) (keep pos : Int) (mask : UInt8) : Ok (crash keep pos mask s) := by
  have := left_le keep s
  have h3 := h.2.2
  have h1 := h.1
  have hl := fell_len (keep := keep) (pos := pos) (mask := mask) h
  exact ⟨by show (fell keep pos mask s).length ≤ s.z; omega, h.2.1, by show _ ≤ (fell keep pos mask s).length; rw [hl]; exact Nat.le_refl _⟩
theorem Ok.step {s : St} (h : Ok s) (d : Do) : Ok (step s d) := by
  unfold M.step
  repeat' split
  · exact h.app _
  · exact h.syn
  · exact h.cut _
  · exact h.rep _
  · exact h.crash _ _ _
  · exact h
theorem Ok.steps {s : St} (h : Ok s) (l : List Do) : Ok (steps s l) := by
  induction l generalizing s with
  | nil => exact h
  | cons a l ih => exact ih (h.step a)
theorem steps_snoc (s : St) (l : List Do) (d : Do) : steps s (l ++ [d]) = step (steps s l) d := by simp [steps]
def nil (z : Nat) : St := ⟨z, [], 0⟩
theorem ok_nil {z : Nat} (h : z ≤ 1048576) : Ok (nil z) := ⟨Nat.zero_le _, h, Nat.zero_le _⟩

theorem step_app {s : St} {d : Do} (h : d.verb = 0) : step s d = app d.b s := by simp [step, h]
theorem step_syn {s : St} {d : Do} (h : d.verb = 1) : step s d = syn s := by simp [step, h]
theorem step_cut {s : St} {d : Do} (h : d.verb = 2) : step s d = cut d.n s := by simp [step, h]
theorem step_rep {s : St} {d : Do} (h : d.verb = 3) : step s d = rep d.b s := by simp [step, h]
theorem step_crash {s : St} {d : Do} (h : d.verb = 4) : step s d = crash d.n d.pos d.mask s := by simp [step, h]
theorem step_none {s : St} {d : Do} (h0 : d.verb ≠ 0) (h1 : d.verb ≠ 1) (h2 : d.verb ≠ 2) (h3 : d.verb ≠ 3) (h4 : d.verb ≠ 4) : step s d = s := by simp [step, h0, h1, h2, h3, h4]
theorem err_app {s : St} {d : Do} (h : d.verb = 0) : err s d = appE d.b s := by simp [err, h]
theorem err_syn {s : St} {d : Do} (h : d.verb = 1) : err s d = 0 := by simp [err, h]
theorem err_cut {s : St} {d : Do} (h : d.verb = 2) : err s d = cutE d.n s := by simp [err, h]
theorem err_rep {s : St} {d : Do} (h : d.verb = 3) : err s d = repE d.b s := by simp [err, h]
theorem err_crash {s : St} {d : Do} (h : d.verb = 4) : err s d = 0 := by simp [err, h]
theorem err_none {s : St} {d : Do} (h0 : d.verb ≠ 0) (h2 : d.verb ≠ 2) (h3 : d.verb ≠ 3) : err s d = 0 := by simp [err, h0, h2, h3]

/-- The document's way of a crash: the loose bytes, one by one. -/
def loose (l : List UInt8) (pos : Int) (mask : UInt8) (i : Nat) : List UInt8 := (List.range i).map fun (j : Nat) => if (j : Int) = pos then l.getD j 0 ^^^ mask else l.getD j 0
theorem loose_zero (l : List UInt8) (pos : Int) (mask : UInt8) : loose l pos mask 0 = [] := rfl
theorem loose_len (l : List UInt8) (pos : Int) (mask : UInt8) (i : Nat) : (loose l pos mask i).length = i := by simp [loose]
theorem loose_succ (l : List UInt8) (pos : Int) (mask : UInt8) (i : Nat) : loose l pos mask (i + 1) = loose l pos mask i ++ [if (i : Int) = pos then l.getD i 0 ^^^ mask else l.getD i 0] := by
  simp [loose, List.range_succ]
theorem fell_loose {s : St} (h : Ok s) (keep pos : Int) (mask : UInt8) : fell keep pos mask s = s.bs.take s.k ++ loose (s.bs.drop s.k) pos mask (left keep s) := by
  have h3 := h.2.2
  have hl := left_le keep s
  apply List.ext_getElem?
  intro j
  by_cases hj : j < s.k
  · rw [List.getElem?_append_left (by simp; omega)]
    unfold fell
    split
    · rename_i hp
      rw [List.getElem?_set_ne (by omega), List.getElem?_take_of_lt (by omega), List.getElem?_take_of_lt hj]
    · rw [List.getElem?_take_of_lt (by omega), List.getElem?_take_of_lt hj]
  · have hlk : (s.bs.take s.k).length = s.k := by simp; omega
    rw [List.getElem?_append_right (by omega), hlk]
    by_cases hj2 : j < s.k + left keep s
    · have e1 : (loose (s.bs.drop s.k) pos mask (left keep s))[j - s.k]? = some (if ((j - s.k : Nat) : Int) = pos then (s.bs.drop s.k).getD (j - s.k) 0 ^^^ mask else (s.bs.drop s.k).getD (j - s.k) 0) := by
        unfold loose
        rw [List.getElem?_map, List.getElem?_range (by omega)]; rfl
      have e2 : (s.bs.drop s.k).getD (j - s.k) 0 = s.bs.getD j 0 := by
        rw [List.getD, List.getD, List.getElem?_drop, show s.k + (j - s.k) = j by omega]
      have e3 : s.bs[j]? = some (s.bs.getD j 0) := by
        rw [List.getD, List.getElem?_eq_getElem (by omega)]; rfl
      rw [e1, e2]
      unfold fell
      split
      · rename_i hp
        by_cases hjp : j = s.k + pos.toNat
        · rw [if_pos (by omega), ← hjp, List.getElem?_set_self (by simp; omega)]
        · rw [if_neg (by omega), List.getElem?_set_ne (by omega), List.getElem?_take_of_lt hj2, e3]
      · rename_i hp
        rw [if_neg (by omega), List.getElem?_take_of_lt hj2, e3]
    · rw [List.getElem?_eq_none (by rw [fell_len h]; omega), List.getElem?_eq_none (by rw [loose_len]; omega)]
end Go.Proofs.Ytpdknamdladgnaa.M
