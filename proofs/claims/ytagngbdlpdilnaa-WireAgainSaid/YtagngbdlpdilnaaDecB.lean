/- Readings of commands, records and messages; what was encoded is read, and what is read was encoded; no conditions but those that they name. -/
import Derived.Test.YtagngbdlpdilnaaRecs
import Derived.Test.YtagngbdlpdilnaaDec
namespace Go.Proofs.Ytagngbdlpdilnaa
namespace P
open M (Cmd Rec Msg)

theorem bind_ok {α β : Type} {p : Ps α} {q : α → Ps β} {xs r : List UInt8} {u : β} (h : bind p q xs = .ok (r, u)) : ∃ r1 v, p xs = .ok (r1, v) ∧ q v r1 = .ok (r, u) := by
  unfold bind at h
  cases e : p xs with
  | error x => rw [e] at h; cases h
  | ok y => obtain ⟨r1, v⟩ := y; rw [e] at h; exact ⟨r1, v, rfl, h⟩
theorem bind_to {α β : Type} {p : Ps α} {xs r : List UInt8} {v : α} (h : p xs = .ok (r, v)) (q : α → Ps β) : bind p q xs = q v r := by
  unfold bind; rw [h]

theorem numL_fwd : ∀ (f k acc n g : Nat) (r : List UInt8), n < 128 ^ (f + 1) → (0 < k → n ≠ 0) → acc + n * 128 ^ k ≤ 1099511627776 → f ≤ g → numL (f + 1) k acc (M.numF g n ++ r) = .ok (r, acc + n * 128 ^ k) := by
  intro f
  induction f with
  | zero =>
    intro k acc n g r h hk hb _
    have hn : n < 128 := by simpa using h
    unfold numL
    rw [M.numF_small hn]
    have e : (UInt8.ofNat n).toNat = n := by simp; omega
    rw [bind_to (show one ([UInt8.ofNat n] ++ r) = .ok (r, n) by simp only [List.cons_append, List.nil_append, one, e])]
    rw [if_pos hn, if_neg (by intro hx; exact hk hx.2 hx.1), if_neg (by omega)]
    rfl
  | succ f ih =>
    intro k acc n g r h hk hb hg
    unfold numL
    by_cases hn : n < 128
    · rw [M.numF_small hn]
      have e : (UInt8.ofNat n).toNat = n := by simp; omega
      rw [bind_to (show one ([UInt8.ofNat n] ++ r) = .ok (r, n) by simp only [List.cons_append, List.nil_append, one, e])]
      rw [if_pos hn, if_neg (by intro hx; exact hk hx.2 hx.1), if_neg (by omega)]
      rfl
    · obtain ⟨g, rfl⟩ : ∃ j, g = j + 1 := ⟨g - 1, by omega⟩
      rw [M.numF_step (by omega)]
      have e : (UInt8.ofNat (n % 128 + 128)).toNat = n % 128 + 128 := by simp; omega
      rw [bind_to (show one (UInt8.ofNat (n % 128 + 128) :: M.numF g (n / 128) ++ r) = .ok (M.numF g (n / 128) ++ r, n % 128 + 128) by simp only [List.cons_append, one, e])]
      rw [if_neg (by omega), show n % 128 + 128 - 128 = n % 128 by omega]
      have hs : acc + n % 128 * 128 ^ k + n / 128 * 128 ^ (k + 1) = acc + n * 128 ^ k := by
        rw [Nat.pow_succ, Nat.mul_comm (128 ^ k) 128, ← Nat.mul_assoc, Nat.add_assoc, ← Nat.add_mul]
        congr 2
        omega
      have := ih (k + 1) (acc + n % 128 * 128 ^ k) (n / 128) g r (by rw [Nat.pow_succ] at h; omega) (fun _ => by omega) (by rw [hs]; exact hb) (by omega)
      rw [hs] at this
      exact this
theorem numL_inv : ∀ (f k acc m g : Nat) (xs r : List UInt8), numL f k acc xs = .ok (r, m) → f ≤ g + 1 → ∃ n, m = acc + n * 128 ^ k ∧ xs = M.numF g n ++ r ∧ m ≤ 1099511627776 ∧ (0 < k → n ≠ 0) := by
  intro f
  induction f with
  | zero => intro k acc m g xs r h _; cases h
  | succ f ih =>
    intro k acc m g xs r h hg
    unfold numL at h
    obtain ⟨r1, x, h1, h2⟩ := bind_ok h
    cases xs with
    | nil => cases h1
    | cons y ys =>
      cases h1
      have hy : y.toNat < 256 := y.toNat_lt
      split at h2
      · rename_i hx
        split at h2
        · cases h2
        · rename_i h3
          split at h2
          · cases h2
          · cases h2
            refine ⟨y.toNat, rfl, ?_, by omega, fun hk e => h3 ⟨e, hk⟩⟩
            rw [M.numF_small hx]
            simp
      · rename_i hx
        cases f with
        | zero => cases h2
        | succ f =>
          obtain ⟨g, rfl⟩ : ∃ j, g = j + 1 := ⟨g - 1, by omega⟩
          obtain ⟨n, e1, e2, e3, e4⟩ := ih (k + 1) _ m g r1 r h2 (by omega)
          have e5 := e4 (by omega)
          refine ⟨y.toNat - 128 + n * 128, ?_, ?_, e3, fun _ => by omega⟩
          · rw [e1, Nat.pow_succ, Nat.mul_comm (128 ^ k) 128, ← Nat.mul_assoc, Nat.add_assoc, ← Nat.add_mul]
          · rw [M.numF_step (by omega), show (y.toNat - 128 + n * 128) % 128 + 128 = y.toNat by omega, show (y.toNat - 128 + n * 128) / 128 = n by omega, e2]
            simp
theorem num_fwd {n : Nat} (h : n ≤ 1099511627776) (r : List UInt8) : num (M.num n ++ r) = .ok (r, n) := by
  have := numL_fwd 5 0 0 n 6 r (by simp; omega) (by omega) (by simp; omega) (by omega)
  unfold num M.num
  simpa using this
theorem num_inv {xs r : List UInt8} {n : Nat} (h : num xs = .ok (r, n)) : xs = M.num n ++ r ∧ n ≤ 1099511627776 := by
  obtain ⟨m, e1, e2, e3, _⟩ := numL_inv 6 0 0 n 6 xs r h (by omega)
  simp at e1
  subst e1
  exact ⟨e2, e3⟩
theorem few_fwd {n : Nat} (h : n ≤ 8) (r : List UInt8) : few (M.num n ++ r) = .ok (r, n) := by
  unfold few
  rw [bind_to (num_fwd (by omega) r), if_neg (by omega)]; rfl
theorem few_inv {xs r : List UInt8} {n : Nat} (h : few xs = .ok (r, n)) : xs = M.num n ++ r ∧ n ≤ 8 := by
  unfold few at h
  obtain ⟨r1, m, h1, h2⟩ := bind_ok h
  split at h2
  · cases h2
  · cases h2; exact ⟨(num_inv h1).1, by omega⟩
theorem text_fwd {x : List UInt8} (h : x.length ≤ 8) (r : List UInt8) : text (M.txt x ++ r) = .ok (r, x) := by
  unfold text M.txt
  rw [List.append_assoc, bind_to (few_fwd h _)]
  unfold take
  rw [if_neg (by rw [List.length_append]; omega), List.drop_left, List.take_left]
theorem text_inv {xs r x : List UInt8} (h : text xs = .ok (r, x)) : xs = M.txt x ++ r ∧ x.length ≤ 8 := by
  unfold text at h
  obtain ⟨r1, n, h1, h2⟩ := bind_ok h
  obtain ⟨rfl, h3⟩ := few_inv h1
  unfold take at h2
  split at h2
  · cases h2
  · cases h2
    have hl : (r1.take n).length = n := by rw [List.length_take]; omega
    refine ⟨?_, by omega⟩
    unfold M.txt
    rw [hl, List.append_assoc, List.take_append_drop]
theorem boolean_fwd (b : Bool) (r : List UInt8) : boolean (M.flag b ++ r) = .ok (r, b) := by
  cases b <;> rfl
theorem boolean_inv {xs r : List UInt8} {b : Bool} (h : boolean xs = .ok (r, b)) : xs = M.flag b ++ r := by
  unfold boolean at h
  obtain ⟨r1, x, h1, h2⟩ := bind_ok h
  cases xs with
  | nil => cases h1
  | cons y ys =>
    cases h1
    split at h2
    · cases h2
    · cases h2
      rename_i hx
      have hy : y.toNat = 0 ∨ y.toNat = 1 := by omega
      rcases hy with e | e
      · rw [show decide (y.toNat = 1) = false by rw [e]; rfl]
        have : y = 0 := UInt8.toNat_inj.1 e
        rw [this]; rfl
      · rw [show decide (y.toNat = 1) = true by rw [e]; rfl]
        have : y = 1 := UInt8.toNat_inj.1 e
        rw [this]; rfl
theorem mark_inv {c : Nat} {xs r : List UInt8} (h : mark c xs = .ok (r, ())) : ∃ y : UInt8, y.toNat = c ∧ xs = y :: r := by
  unfold mark at h
  obtain ⟨r1, x, h1, h2⟩ := bind_ok h
  cases xs with
  | nil => cases h1
  | cons y ys =>
    cases h1
    split at h2
    · cases h2; exact ⟨y, by assumption, rfl⟩
    · cases h2
theorem rep_fwd {α : Type} {p : Ps α} {enc : α → List UInt8} : ∀ (n : Nat) (l : List α) (r : List UInt8), l.length = n → (∀ x ∈ l, ∀ r, p (enc x ++ r) = .ok (r, x)) → rep p n (l.flatMap enc ++ r) = .ok (r, l)
  | 0, l, r, h, _ => by
    obtain rfl : l = [] := List.length_eq_zero_iff.1 h
    rfl
  | n + 1, l, r, h, hp => by
    have hne : l ≠ [] := by intro e; rw [e] at h; cases h
    obtain ⟨m, x, rfl⟩ : ∃ m x, l = m ++ [x] := ⟨l.dropLast, l.getLast hne, (List.dropLast_concat_getLast hne).symm⟩
    unfold rep
    rw [List.flatMap_append, List.append_assoc, bind_to (rep_fwd n m _ (by simpa using h) (fun y hy => hp y (by simp [hy])))]
    rw [show ([x].flatMap enc ++ r) = enc x ++ r by simp, bind_to (hp x (by simp) r)]
    rfl
theorem rep_inv {α : Type} {p : Ps α} {enc : α → List UInt8} {Q : α → Prop} (hp : ∀ xs r x, p xs = .ok (r, x) → xs = enc x ++ r ∧ Q x) : ∀ (n : Nat) (xs r : List UInt8) (l : List α), rep p n xs = .ok (r, l) → l.length = n ∧ xs = l.flatMap enc ++ r ∧ ∀ x ∈ l, Q x
  | 0, xs, r, l, h => by cases h; exact ⟨rfl, rfl, (fun _ hx => by cases hx)⟩
  | n + 1, xs, r, l, h => by
    unfold rep at h
    obtain ⟨r1, m, h1, h2⟩ := bind_ok h
    obtain ⟨r2, x, h3, h4⟩ := bind_ok h2
    cases h4
    obtain ⟨e1, e2, e3⟩ := rep_inv hp n xs r1 m h1
    obtain ⟨e4, e5⟩ := hp r1 r x h3
    refine ⟨by simp [e1], ?_, fun y hy => ?_⟩
    · rw [e2, e4, List.flatMap_append, List.append_assoc]; simp
    · rw [List.mem_append] at hy
      rcases hy with hy | hy
      · exact e3 y hy
      · rw [List.mem_singleton] at hy; rw [hy]; exact e5

/-- A read, a write. -/
def rd : Ps (List UInt8 × Int × Int) := bind text fun k => bind num fun t => bind num fun c => ret (k, (t : Int), (c : Int))
def wr : Ps (List UInt8 × List UInt8) := bind text fun k => bind text fun v => ret (k, v)
def cmd : Ps Cmd := bind num fun k => bind num fun tc => bind num fun tn => bind num fun tt => bind num fun tk => bind num fun sh => bind few fun n => bind (rep rd n) fun rs => bind few fun m => bind (rep wr m) fun ws => bind boolean fun cm => ret ⟨k, tc, tn, tt, tk, sh, rs, ws, cm⟩
def rcd : Ps Rec := bind num fun ir => bind num fun is => bind num fun st => bind num fun pn => bind num fun pr => bind num fun bn => bind num fun br => bind num fun sq => bind num fun d0 => bind num fun d1 => bind num fun d2 => bind num fun d3 => bind num fun d4 => bind num fun d5 => bind num fun d6 => bind boolean fun kp => bind (mark 1) fun _ => bind cmd fun c => ret ⟨ir, is, st, pn, pr, bn, br, c, sq, d0, d1, d2, d3, d4, d5, d6, kp⟩
def msg : Ps Msg := bind num fun k => bind num fun fr => bind num fun to => bind num fun bn => bind num fun br => bind (mark 2) fun _ => bind rcd fun r => ret ⟨k, fr, to, bn, br, r⟩
/-- A command, a record or a message. -/
abbrev Val := Cmd ⊕ Rec ⊕ Msg
def val : Ps Val := bind one fun x => if x = 1 then bind cmd fun c => ret (.inl c) else if x = 2 then bind rcd fun r => ret (.inr (.inl r)) else if x = 3 then bind msg fun m => ret (.inr (.inr m)) else err 4
theorem good_rd : Good rd := good_bind good_text fun _ => good_bind good_num fun _ => good_bind good_num fun _ => good_ret _
theorem errs_rd : Errs rd := errs_bind errs_text fun _ => errs_bind errs_num fun _ => errs_bind errs_num fun _ => errs_ret _
theorem good_wr : Good wr := good_bind good_text fun _ => good_bind good_text fun _ => good_ret _
theorem errs_wr : Errs wr := errs_bind errs_text fun _ => errs_bind errs_text fun _ => errs_ret _
theorem good_cmd : Good cmd := good_bind good_num fun _ => good_bind good_num fun _ => good_bind good_num fun _ => good_bind good_num fun _ => good_bind good_num fun _ => good_bind good_num fun _ => good_bind good_few fun _ => good_bind (good_rep good_rd _) fun _ => good_bind good_few fun _ => good_bind (good_rep good_wr _) fun _ => good_bind good_boolean fun _ => good_ret _
theorem errs_cmd : Errs cmd := errs_bind errs_num fun _ => errs_bind errs_num fun _ => errs_bind errs_num fun _ => errs_bind errs_num fun _ => errs_bind errs_num fun _ => errs_bind errs_num fun _ => errs_bind errs_few fun _ => errs_bind (errs_rep errs_rd _) fun _ => errs_bind errs_few fun _ => errs_bind (errs_rep errs_wr _) fun _ => errs_bind errs_boolean fun _ => errs_ret _
theorem good_rcd : Good rcd := good_bind good_num fun _ => good_bind good_num fun _ => good_bind good_num fun _ => good_bind good_num fun _ => good_bind good_num fun _ => good_bind good_num fun _ => good_bind good_num fun _ => good_bind good_num fun _ => good_bind good_num fun _ => good_bind good_num fun _ => good_bind good_num fun _ => good_bind good_num fun _ => good_bind good_num fun _ => good_bind good_num fun _ => good_bind good_num fun _ => good_bind good_boolean fun _ => good_bind (good_mark 1) fun _ => good_bind good_cmd fun _ => good_ret _
theorem errs_rcd : Errs rcd := errs_bind errs_num fun _ => errs_bind errs_num fun _ => errs_bind errs_num fun _ => errs_bind errs_num fun _ => errs_bind errs_num fun _ => errs_bind errs_num fun _ => errs_bind errs_num fun _ => errs_bind errs_num fun _ => errs_bind errs_num fun _ => errs_bind errs_num fun _ => errs_bind errs_num fun _ => errs_bind errs_num fun _ => errs_bind errs_num fun _ => errs_bind errs_num fun _ => errs_bind errs_num fun _ => errs_bind errs_boolean fun _ => errs_bind (errs_mark 1) fun _ => errs_bind errs_cmd fun _ => errs_ret _
theorem good_msg : Good msg := good_bind good_num fun _ => good_bind good_num fun _ => good_bind good_num fun _ => good_bind good_num fun _ => good_bind good_num fun _ => good_bind (good_mark 2) fun _ => good_bind good_rcd fun _ => good_ret _
theorem errs_msg : Errs msg := errs_bind errs_num fun _ => errs_bind errs_num fun _ => errs_bind errs_num fun _ => errs_bind errs_num fun _ => errs_bind errs_num fun _ => errs_bind (errs_mark 2) fun _ => errs_bind errs_rcd fun _ => errs_ret _
theorem good_val : Good val := good_bind good_one fun _ => good_if (good_bind good_cmd fun _ => good_ret _) (good_if (good_bind good_rcd fun _ => good_ret _) (good_if (good_bind good_msg fun _ => good_ret _) (good_err 4)))
theorem errs_val : Errs val := errs_bind errs_one fun _ => errs_if (errs_bind errs_cmd fun _ => errs_ret _) (errs_if (errs_bind errs_rcd fun _ => errs_ret _) (errs_if (errs_bind errs_msg fun _ => errs_ret _) (errs_err (by omega))))
end P
end Go.Proofs.Ytagngbdlpdilnaa
