/- Plain facts on readings: numbers, texts, lists; what was encoded is read, what is read was encoded, a reading that is cut off is short; no conditions. -/
namespace Go.Proofs.Ytagngbdlpdilnaa
namespace P
/-- A reading: what is left, and what was read, or why it can't go on. -/
abbrev Ps (α : Type) := List UInt8 → Except Nat (List UInt8 × α)
def bind {α β : Type} (p : Ps α) (q : α → Ps β) : Ps β := fun xs => match p xs with
  | .error e => .error e
  | .ok (r, v) => q v r
def ret {α : Type} (v : α) : Ps α := fun xs => .ok (xs, v)
def err {α : Type} (e : Nat) : Ps α := fun _ => .error e
def one : Ps Nat
  | [] => .error 3
  | x :: r => .ok (r, x.toNat)
/-- A number's groups from the k-th one on, f of them at most. -/
def numL : Nat → Nat → Nat → Ps Nat
  | 0, _, _ => err 2
  | f + 1, k, n => bind one fun x => if x < 128 then (if x = 0 ∧ 0 < k then err 4 else if 1099511627776 < n + x * 128 ^ k then err 2 else ret (n + x * 128 ^ k)) else numL f (k + 1) (n + (x - 128) * 128 ^ k)
def num : Ps Nat := numL 6 0 0
def few : Ps Nat := bind num fun n => if 8 < n then err 2 else ret n
def take (n : Nat) : Ps (List UInt8) := fun xs => if xs.length < n then .error 3 else .ok (xs.drop n, xs.take n)
def text : Ps (List UInt8) := bind few take
def boolean : Ps Bool := bind one fun x => if 1 < x then err 4 else ret (decide (x = 1))
def mark (c : Nat) : Ps Unit := bind one fun x => if x = c then ret () else err 4
def rep {α : Type} (p : Ps α) : Nat → Ps (List α)
  | 0 => ret []
  | n + 1 => bind (rep p n) fun l => bind p fun x => ret (l ++ [x])

/-- A reading of the first part of what is there is as of the whole, or it is short; and nothing is added. -/
structure Good {α : Type} (p : Ps α) : Prop where
  cut : ∀ a b r v, p (a ++ b) = .ok (r, v) → (∃ a2, r = a2 ++ b ∧ p a = .ok (a2, v)) ∨ (r.length < b.length ∧ p a = .error 3)
  less : ∀ xs r v, p xs = .ok (r, v) → r.length ≤ xs.length
theorem good_bind {α β : Type} {p : Ps α} {q : α → Ps β} (hp : Good p) (hq : ∀ v, Good (q v)) : Good (bind p q) := by
  constructor
  · intro a b r v h
    unfold bind at h ⊢
    cases e : p (a ++ b) with
    | error x => rw [e] at h; cases h
    | ok y =>
      obtain ⟨r1, u⟩ := y
      rw [e] at h
      rcases hp.cut a b r1 u e with ⟨a2, rfl, e2⟩ | ⟨hl, e2⟩
      · rw [e2]; exact (hq u).cut a2 b r v h
      · rw [e2]; exact .inr ⟨Nat.lt_of_le_of_lt ((hq u).less r1 r v h) hl, rfl⟩
  · intro xs r v h
    unfold bind at h
    cases e : p xs with
    | error x => rw [e] at h; cases h
    | ok y =>
      obtain ⟨r1, u⟩ := y
      rw [e] at h
      exact Nat.le_trans ((hq u).less r1 r v h) (hp.less xs r1 u e)
theorem good_ret {α : Type} (v : α) : Good (ret v) :=
  ⟨fun a b r u h => by cases h; exact .inl ⟨a, rfl, rfl⟩, fun xs r u h => by cases h; exact Nat.le_refl _⟩
theorem good_err {α : Type} (e : Nat) : Good (err (α := α) e) := ⟨(fun _ _ _ _ h => by cases h), (fun _ _ _ h => by cases h)⟩
theorem good_one : Good one := by
  constructor
  · intro a b r v h
    cases a with
    | nil =>
      cases b with
      | nil => cases h
      | cons x b => cases h; exact .inr ⟨by simp, rfl⟩
    | cons x a => cases h; exact .inl ⟨a, rfl, rfl⟩
  · intro xs r v h
    cases xs with
    | nil => cases h
    | cons x xs => cases h; simp
theorem good_if {α : Type} {c : Prop} [Decidable c] {p q : Ps α} (hp : Good p) (hq : Good q) : Good (if c then p else q) := by
  split
  · exact hp
  · exact hq
theorem good_numL : ∀ f k n, Good (numL f k n)
  | 0, _, _ => good_err 2
  | f + 1, _, _ => good_bind good_one fun _ => good_if (good_if (good_err 4) (good_if (good_err 2) (good_ret _))) (good_numL f _ _)
theorem good_num : Good num := good_numL 6 0 0
theorem good_few : Good few := good_bind good_num fun n => good_if (good_err 2) (good_ret n)
theorem good_take (n : Nat) : Good (take n) := by
  constructor
  · intro a b r v h
    unfold take at h ⊢
    split at h
    · cases h
    · rename_i hn
      cases h
      rw [List.length_append] at hn
      by_cases hl : a.length < n
      · rw [if_pos hl]
        refine .inr ⟨?_, rfl⟩
        rw [List.length_drop, List.length_append]; omega
      · rw [if_neg hl]
        refine .inl ⟨a.drop n, ?_, ?_⟩
        · rw [List.drop_append_of_le_length (by omega)]
        · rw [List.take_append_of_le_length (by omega)]
  · intro xs r v h
    unfold take at h
    split at h
    · cases h
    · cases h; rw [List.length_drop]; omega
theorem good_text : Good text := good_bind good_few good_take
theorem good_boolean : Good boolean := good_bind good_one fun _ => good_if (good_err 4) (good_ret _)
theorem good_mark (c : Nat) : Good (mark c) := good_bind good_one fun _ => good_if (good_ret _) (good_err 4)
theorem good_rep {α : Type} {p : Ps α} (hp : Good p) : ∀ n, Good (rep p n)
  | 0 => good_ret []
  | n + 1 => good_bind (good_rep hp n) fun _ => good_bind hp fun _ => good_ret _

/-- A reading's errors are no zeros. -/
def Errs {α : Type} (p : Ps α) : Prop := ∀ xs e, p xs = .error e → e ≠ 0
theorem errs_bind {α β : Type} {p : Ps α} {q : α → Ps β} (hp : Errs p) (hq : ∀ v, Errs (q v)) : Errs (bind p q) := by
  intro xs e h
  unfold bind at h
  cases e1 : p xs with
  | error x => rw [e1] at h; cases h; exact hp xs e e1
  | ok y => obtain ⟨r1, u⟩ := y; rw [e1] at h; exact hq u r1 e h
theorem errs_ret {α : Type} (v : α) : Errs (ret v) := fun xs e h => by cases h
theorem errs_err {α : Type} {e : Nat} (h : e ≠ 0) : Errs (err (α := α) e) := fun xs e' h' => by cases h'; exact h
theorem errs_one : Errs one := fun xs e h => by
  cases xs with
  | nil => cases h; omega
  | cons x xs => cases h
theorem errs_if {α : Type} {c : Prop} [Decidable c] {p q : Ps α} (hp : Errs p) (hq : Errs q) : Errs (if c then p else q) := by
  split
  · exact hp
  · exact hq
theorem errs_numL : ∀ f k n, Errs (numL f k n)
  | 0, _, _ => errs_err (by omega)
  | f + 1, _, _ => errs_bind errs_one fun _ => errs_if (errs_if (errs_err (by omega)) (errs_if (errs_err (by omega)) (errs_ret _))) (errs_numL f _ _)
theorem errs_num : Errs num := errs_numL 6 0 0
theorem errs_few : Errs few := errs_bind errs_num fun n => errs_if (errs_err (by omega)) (errs_ret n)
theorem errs_take (n : Nat) : Errs (take n) := fun xs e h => by
  unfold take at h
  split at h
  · cases h; omega
  · cases h
theorem errs_text : Errs text := errs_bind errs_few errs_take
theorem errs_boolean : Errs boolean := errs_bind errs_one fun _ => errs_if (errs_err (by omega)) (errs_ret _)
theorem errs_mark (c : Nat) : Errs (mark c) := errs_bind errs_one fun _ => errs_if (errs_ret _) (errs_err (by omega))
theorem errs_rep {α : Type} {p : Ps α} (hp : Errs p) : ∀ n, Errs (rep p n)
  | 0 => errs_ret []
  | n + 1 => errs_bind (errs_rep hp n) fun _ => errs_bind hp fun _ => errs_ret _

/-- A state: what is left, and why it can't go on (0: it can). -/
structure Sr where
  xs : List UInt8
  er : Nat
/-- One that reads as p does: as long as it can go on; then nothing counts but why it could not. -/
structure Ran {α : Type} (p : Ps α) (s s1 : Sr) (v : α) : Prop where
  stuck : s.er ≠ 0 → s1.er = s.er
  ok : s.er = 0 → ∀ r u, p s.xs = .ok (r, u) → s1 = ⟨r, 0⟩ ∧ v = u
  bad : s.er = 0 → ∀ e, p s.xs = .error e → s1.er = e
theorem Ran.bind {α β : Type} {p : Ps α} {q : α → Ps β} {s s1 s2 : Sr} {v : α} {u : β} (hp : Errs p) (h : Ran p s s1 v) (k : Ran (q v) s1 s2 u) : Ran (bind p q) s s2 u := by
  refine ⟨fun h0 => ?_, fun h0 r y hy => ?_, fun h0 e he => ?_⟩
  · have h1 := h.stuck h0
    rw [k.stuck (by rw [h1]; exact h0), h1]
  · unfold P.bind at hy
    cases e : p s.xs with
    | error x => rw [e] at hy; cases hy
    | ok z =>
      obtain ⟨r1, w⟩ := z
      rw [e] at hy
      obtain ⟨rfl, rfl⟩ := h.ok h0 r1 w e
      exact k.ok rfl r y hy
  · unfold P.bind at he
    cases e1 : p s.xs with
    | error x =>
      rw [e1] at he
      cases he
      have h1 := h.bad h0 e e1
      rw [k.stuck (by rw [h1]; exact hp s.xs e e1), h1]
    | ok z =>
      obtain ⟨r1, w⟩ := z
      rw [e1] at he
      obtain ⟨rfl, rfl⟩ := h.ok h0 r1 w e1
      exact k.bad rfl e he
theorem Ran.ret {α : Type} (s : Sr) (v : α) : Ran (ret v) s s v :=
  ⟨(fun _ => rfl), (fun h0 _ _ h => by cases h; exact ⟨by cases s; simp_all, rfl⟩), (fun _ _ h => by cases h)⟩
/-- What failed already may tell whatever value. -/
theorem Ran.any {α : Type} {p : Ps α} {s s1 : Sr} {v : α} (h : Ran p s s1 v) (h1 : s1.er ≠ 0) (u : α) : Ran p s s1 u :=
  ⟨h.stuck, fun h0 r y hy => by obtain ⟨rfl, _⟩ := h.ok h0 r y hy; exact absurd rfl h1, h.bad⟩
/-- What failed in the first part failed as a whole. -/
theorem Ran.early {α β : Type} {p : Ps α} {q : α → Ps β} {s s1 : Sr} {v : α} (h : Ran p s s1 v) (h1 : s1.er ≠ 0) (u : β) : Ran (P.bind p q) s s1 u := by
  refine ⟨h.stuck, fun h0 r y hy => ?_, fun h0 e he => ?_⟩
  · unfold P.bind at hy
    cases e : p s.xs with
    | error x => rw [e] at hy; cases hy
    | ok z => obtain ⟨r1, w⟩ := z; obtain ⟨rfl, _⟩ := h.ok h0 r1 w e; exact absurd rfl h1
  · unfold P.bind at he
    cases e1 : p s.xs with
    | error x => rw [e1] at he; cases he; exact h.bad h0 e e1
    | ok z => obtain ⟨r1, w⟩ := z; obtain ⟨rfl, _⟩ := h.ok h0 r1 w e1; exact absurd rfl h1
theorem Ran.rep_early {α : Type} {p : Ps α} {s s1 : Sr} {l : List α} {k n : Nat} (hk : k ≤ n) (h : Ran (rep p k) s s1 l) (h1 : s1.er ≠ 0) (m : List α) : Ran (rep p n) s s1 m := by
  induction n with
  | zero =>
    obtain rfl : k = 0 := by omega
    exact h.any h1 m
  | succ n ih =>
    by_cases e : k = n + 1
    · subst e; exact h.any h1 m
    · exact (ih (by omega)).early h1 m
/-- One more of a list. -/
theorem Ran.snoc {α : Type} {p : Ps α} {s s1 s2 : Sr} {l : List α} {x : α} {k : Nat} (hp : Errs p) (h : Ran (rep p k) s s1 l) (g : Ran p s1 s2 x) : Ran (rep p (k + 1)) s s2 (l ++ [x]) :=
  Ran.bind (errs_rep hp k) h (Ran.bind hp g (Ran.ret _ _))
/-- How a step that fails, or goes on, is told. -/
def fail (e : Nat) (s : Sr) : Sr := if s.er = 0 then ⟨s.xs, e⟩ else s
theorem fail_er {e : Nat} {s : Sr} (h : e ≠ 0) : (fail e s).er ≠ 0 := by unfold fail; split <;> assumption
theorem Ran.err {α : Type} {e : Nat} (s : Sr) (v : α) : Ran (err e) s (fail e s) v :=
  ⟨(fun h0 => by simp [fail, h0]), (fun _ _ _ h => by cases h), (fun h0 _ h => by cases h; simp [fail, h0])⟩
theorem Ran.one_nil {e : Nat} (v : Nat) : Ran one ⟨[], e⟩ (fail 3 ⟨[], e⟩) v :=
  ⟨(fun h0 => by simp only [fail] at *; rw [if_neg h0]), (fun _ _ _ h => by cases h), (fun h0 _ h => by cases h; simp only [fail] at *; rw [if_pos h0])⟩
theorem Ran.one_cons {e : Nat} (x : UInt8) (r : List UInt8) : Ran one ⟨x :: r, e⟩ ⟨r, e⟩ x.toNat :=
  ⟨(fun _ => rfl), (fun h0 _ _ h => by cases h; simp only at h0; exact ⟨by rw [h0], rfl⟩), (fun _ _ h => by cases h)⟩
/-- One that does nothing more once it failed. -/
theorem Ran.idle {α : Type} {p : Ps α} {s : Sr} (h : s.er ≠ 0) (v : α) : Ran p s s v :=
  ⟨fun _ => rfl, fun h0 => absurd h0 h, fun h0 => absurd h0 h⟩
end P
end Go.Proofs.Ytagngbdlpdilnaa
