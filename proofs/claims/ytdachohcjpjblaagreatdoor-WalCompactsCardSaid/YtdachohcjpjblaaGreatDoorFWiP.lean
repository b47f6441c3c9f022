/- Plain readings; no conditions but those that they name. -/
import Derived.Test.YtdachohcjpjblaaGreatDoorFWiF
set_option maxHeartbeats 8000000
set_option maxRecDepth 100000
namespace Go.Proofs.YtdachohcjpjblaaGreatDoor.Wi
namespace P
abbrev Ps (α : Type) := List UInt8 → Except Nat (List UInt8 × α)
def bind {α β : Type} (p : Ps α) (q : α → Ps β) : Ps β := fun xs => match p xs with
 | .error e => .error e
 | .ok (r, v) => q v r
def ret {α : Type} (v : α) : Ps α := fun xs => .ok (xs, v)
def err {α : Type} (e : Nat) : Ps α := fun _ => .error e
def one : Ps Nat
 | [] => .error 3
 | x :: r => .ok (r, x.toNat)
def numL : Nat → Nat → Nat → Ps Nat
 | 0, _, _ => err 2
 | f + 1, k, n => bind one fun x => if x < 128 then (if x = 0 ∧ 0 < k then err 4 else if 1099511627776 < n + x * 128 ^ k then err 2 else ret (n + x * 128 ^ k)) else numL f (k + 1) (n + (x - 128) * 128 ^ k)
def num : Ps Nat := numL 6 0 0
def few : Ps Nat := bind num fun n => if 8 < n then err 2 else ret n
def take (n : Nat) : Ps (List UInt8) := fun xs => if xs.length < n then .error 3 else .ok (xs.drop n, xs.take n)
def text : Ps (List UInt8) := bind few take
def boolean : Ps Bool := bind one fun x => if 1 < x then err 4 else ret (decide (x = 1))
def mark (c : Nat) : Ps Unit := bind one fun x => if x = c then ret () else err 4
def rep {α : Type} (p : Ps α) : Nat → Ps (List α)
 | 0 => ret []
 | n + 1 => bind (rep p n) fun l => bind p fun x => ret (l ++ [x])
structure Good {α : Type} (p : Ps α) : Prop where
 cut : ∀ a b r v, p (a ++ b) = .ok (r, v) → (∃ a2, r = a2 ++ b ∧ p a = .ok (a2, v)) ∨ (r.length < b.length ∧ p a = .error 3)
 less : ∀ xs r v, p xs = .ok (r, v) → r.length ≤ xs.length
def Errs {α : Type} (p : Ps α) : Prop := ∀ xs e, p xs = .error e → e ≠ 0
theorem errs_bind {α β : Type} {p : Ps α} {q : α → Ps β} (hp : Errs p) (hq : ∀ v, Errs (q v)) : Errs (bind p q) := by
 intro xs e h
 unfold bind at h
 cases e1 : p xs with
 | error x => rw [e1] at h; cases h; exact hp xs e e1
 | ok y => obtain ⟨r1, u⟩ := y; rw [e1] at h; exact hq u r1 e h
theorem errs_ret {α : Type} (v : α) : Errs (ret v) := fun xs e h => by cases h
theorem errs_err {α : Type} {e : Nat} (h : e ≠ 0) : Errs (err (α := α) e) := fun xs e' h' => by cases h'; exact h
theorem errs_one : Errs one := fun xs e h => by
 cases xs with
 | nil => cases h; omega
 | cons x xs => cases h
theorem errs_if {α : Type} {c : Prop} [Decidable c] {p q : Ps α} (hp : Errs p) (hq : Errs q) : Errs (if c then p else q) := by
 split
 ·exact hp
 ·exact hq
theorem errs_numL : ∀ f k n, Errs (numL f k n)
 | 0, _, _ => errs_err (by omega)
 | f + 1, _, _ => errs_bind errs_one fun _ => errs_if (errs_if (errs_err (by omega)) (errs_if (errs_err (by omega)) (errs_ret _))) (errs_numL f _ _)
theorem errs_num : Errs num := errs_numL 6 0 0
theorem errs_few : Errs few := errs_bind errs_num fun n => errs_if (errs_err (by omega)) (errs_ret n)
theorem errs_take (n : Nat) : Errs (take n) := fun xs e h => by
 unfold take at h
 split at h
 ·cases h; omega
 ·cases h
theorem errs_text : Errs text := errs_bind errs_few errs_take
theorem errs_boolean : Errs boolean := errs_bind errs_one fun _ => errs_if (errs_err (by omega)) (errs_ret _)
theorem errs_mark (c : Nat) : Errs (mark c) := errs_bind errs_one fun _ => errs_if (errs_ret _) (errs_err (by omega))
theorem errs_rep {α : Type} {p : Ps α} (hp : Errs p) : ∀ n, Errs (rep p n)
 | 0 => errs_ret []
 | n + 1 => errs_bind (errs_rep hp n) fun _ => errs_bind hp fun _ => errs_ret _
structure Sr where
 xs : List UInt8
 er : Nat
structure Ran {α : Type} (p : Ps α) (s s1 : Sr) (v : α) : Prop where
 stuck : s.er ≠ 0 → s1.er = s.er
 ok : s.er = 0 → ∀ r u, p s.xs = .ok (r, u) → s1 = ⟨r, 0⟩ ∧ v = u
 bad : s.er = 0 → ∀ e, p s.xs = .error e → s1.er = e
theorem Ran.bind {α β : Type} {p : Ps α} {q : α → Ps β} {s s1 s2 : Sr} {v : α} {u : β} (hp : Errs p) (h : Ran p s s1 v) (k : Ran (q v) s1 s2 u) : Ran (bind p q) s s2 u := by
 refine ⟨fun h0 => ?_, fun h0 r y hy => ?_, fun h0 e he => ?_⟩
 ·have h1 := h.stuck h0
  rw [k.stuck (by rw [h1]; exact h0), h1]
 ·unfold P.bind at hy
  cases e : p s.xs with
  | error x => rw [e] at hy; cases hy
  | ok z =>
    obtain ⟨r1, w⟩ := z
    rw [e] at hy
    obtain ⟨rfl, rfl⟩ := h.ok h0 r1 w e
    exact k.ok rfl r y hy
 ·unfold P.bind at he
  cases e1 : p s.xs with
  | error x =>
    rw [e1] at he
    cases he
    have h1 := h.bad h0 e e1
    rw [k.stuck (by rw [h1]; exact hp s.xs e e1), h1]
  | ok z =>
    obtain ⟨r1, w⟩ := z
    rw [e1] at he
    obtain ⟨rfl, rfl⟩ := h.ok h0 r1 w e1
    exact k.bad rfl e he
theorem Ran.ret {α : Type} (s : Sr) (v : α) : Ran (ret v) s s v :=
 ⟨(fun _ => rfl), (fun h0 _ _ h => by cases h; exact ⟨by cases s; simp_all, rfl⟩), (fun _ _ h => by cases h)⟩
theorem Ran.snoc {α : Type} {p : Ps α} {s s1 s2 : Sr} {l : List α} {x : α} {k : Nat} (hp : Errs p) (h : Ran (rep p k) s s1 l) (g : Ran p s1 s2 x) : Ran (rep p (k + 1)) s s2 (l ++ [x]) :=
 Ran.bind (errs_rep hp k) h (Ran.bind hp g (Ran.ret _ _))
def fail (e : Nat) (s : Sr) : Sr := if s.er = 0 then ⟨s.xs, e⟩ else s
theorem fail_er {e : Nat} {s : Sr} (h : e ≠ 0) : (fail e s).er ≠ 0 := by unfold fail; split <;> assumption
theorem Ran.err {α : Type} {e : Nat} (s : Sr) (v : α) : Ran (err e) s (fail e s) v :=
 ⟨(fun h0 => by simp [fail, h0]), (fun _ _ _ h => by cases h), (fun h0 _ h => by cases h; simp [fail, h0])⟩
theorem Ran.one_nil {e : Nat} (v : Nat) : Ran one ⟨[], e⟩ (fail 3 ⟨[], e⟩) v :=
 ⟨(fun h0 => by simp only [fail] at *; rw [if_neg h0]), (fun _ _ _ h => by cases h), (fun h0 _ h => by cases h; simp only [fail] at *; rw [if_pos h0])⟩
theorem Ran.one_cons {e : Nat} (x : UInt8) (r : List UInt8) : Ran one ⟨x :: r, e⟩ ⟨r, e⟩ x.toNat :=
 ⟨(fun _ => rfl), (fun h0 _ _ h => by cases h; simp only at h0; exact ⟨by rw [h0], rfl⟩), (fun _ _ h => by cases h)⟩
end P
namespace P
open M (Cmd Rec Msg)
theorem bind_ok {α β : Type} {p : Ps α} {q : α → Ps β} {xs r : List UInt8} {u : β} (h : bind p q xs = .ok (r, u)) : ∃ r1 v, p xs = .ok (r1, v) ∧ q v r1 = .ok (r, u) := by
 unfold bind at h
 cases e : p xs with
 | error x => rw [e] at h; cases h
 | ok y => obtain ⟨r1, v⟩ := y; rw [e] at h; exact ⟨r1, v, rfl, h⟩
theorem bind_to {α β : Type} {p : Ps α} {xs r : List UInt8} {v : α} (h : p xs = .ok (r, v)) (q : α → Ps β) : bind p q xs = q v r := by
 unfold bind; rw [h]
theorem numL_fwd : ∀ (f k acc n g : Nat) (r : List UInt8), n < 128 ^ (f + 1) → (0 < k → n ≠ 0) → acc + n * 128 ^ k ≤ 1099511627776 → f ≤ g → numL (f + 1) k acc (M.numF g n ++ r) = .ok (r, acc + n * 128 ^ k) := by
 intro f
 induction f with
 | zero =>
   intro k acc n g r h hk hb _
   have hn : n < 128 := by simpa using h
   unfold numL
   rw [M.numF_small hn]
   have e : (UInt8.ofNat n).toNat = n := by simp; omega
   rw [bind_to (show one ([UInt8.ofNat n] ++ r) = .ok (r, n) by simp only [List.cons_append, List.nil_append, one, e])]
   rw [if_pos hn, if_neg (by intro hx; exact hk hx.2 hx.1), if_neg (by omega)]
   rfl
 | succ f ih =>
   intro k acc n g r h hk hb hg
   unfold numL
   by_cases hn : n < 128
   ·rw [M.numF_small hn]
    have e : (UInt8.ofNat n).toNat = n := by simp; omega
    rw [bind_to (show one ([UInt8.ofNat n] ++ r) = .ok (r, n) by simp only [List.cons_append, List.nil_append, one, e])]
    rw [if_pos hn, if_neg (by intro hx; exact hk hx.2 hx.1), if_neg (by omega)]
    rfl
   ·obtain ⟨g, rfl⟩ : ∃ j, g = j + 1 := ⟨g - 1, by omega⟩
    rw [M.numF_step (by omega)]
    have e : (UInt8.ofNat (n % 128 + 128)).toNat = n % 128 + 128 := by simp; omega
    rw [bind_to (show one (UInt8.ofNat (n % 128 + 128) :: M.numF g (n / 128) ++ r) = .ok (M.numF g (n / 128) ++ r, n % 128 + 128) by simp only [List.cons_append, one, e])]
    rw [if_neg (by omega), show n % 128 + 128 - 128 = n % 128 by omega]
    have hs : acc + n % 128 * 128 ^ k + n / 128 * 128 ^ (k + 1) = acc + n * 128 ^ k := by
     rw [Nat.pow_succ, Nat.mul_comm (128 ^ k) 128, ← Nat.mul_assoc, Nat.add_assoc, ← Nat.add_mul]
     congr 2
     omega
    have := ih (k + 1) (acc + n % 128 * 128 ^ k) (n / 128) g r (by rw [Nat.pow_succ] at h; omega) (fun _ => by omega) (by rw [hs]; exact hb) (by omega)
    rw [hs] at this
    exact this
theorem numL_inv : ∀ (f k acc m g : Nat) (xs r : List UInt8), numL f k acc xs = .ok (r, m) → f ≤ g + 1 → ∃ n, m = acc + n * 128 ^ k ∧ xs = M.numF g n ++ r ∧ m ≤ 1099511627776 ∧ (0 < k → n ≠ 0) := by
 intro f
 induction f with
 | zero => intro k acc m g xs r h _; cases h
 | succ f ih =>
   intro k acc m g xs r h hg
   unfold numL at h
   obtain ⟨r1, x, h1, h2⟩ := bind_ok h
   cases xs with
   | nil => cases h1
   | cons y ys =>
     cases h1
     have hy : y.toNat < 256 := y.toNat_lt
     split at h2
     ·rename_i hx
      split at h2
      ·cases h2
      ·rename_i h3
       split at h2
       ·cases h2
       ·cases h2
        refine ⟨y.toNat, rfl, ?_, by omega, fun hk e => h3 ⟨e, hk⟩⟩
        rw [M.numF_small hx]
        simp
     ·rename_i hx
      cases f with
      | zero => cases h2
      | succ f =>
        obtain ⟨g, rfl⟩ : ∃ j, g = j + 1 := ⟨g - 1, by omega⟩
        obtain ⟨n, e1, e2, e3, e4⟩ := ih (k + 1) _ m g r1 r h2 (by omega)
        have e5 := e4 (by omega)
        refine ⟨y.toNat - 128 + n * 128, ?_, ?_, e3, fun _ => by omega⟩
        ·rw [e1, Nat.pow_succ, Nat.mul_comm (128 ^ k) 128, ← Nat.mul_assoc, Nat.add_assoc, ← Nat.add_mul]
        ·rw [M.numF_step (by omega), show (y.toNat - 128 + n * 128) % 128 + 128 = y.toNat by omega, show (y.toNat - 128 + n * 128) / 128 = n by omega, e2]
         simp
theorem num_fwd {n : Nat} (h : n ≤ 1099511627776) (r : List UInt8) : num (M.num n ++ r) = .ok (r, n) := by
 have := numL_fwd 5 0 0 n 6 r (by simp; omega) (by omega) (by simp; omega) (by omega)
 unfold num M.num
 simpa using this
theorem num_inv {xs r : List UInt8} {n : Nat} (h : num xs = .ok (r, n)) : xs = M.num n ++ r ∧ n ≤ 1099511627776 := by
 obtain ⟨m, e1, e2, e3, _⟩ := numL_inv 6 0 0 n 6 xs r h (by omega)
 simp at e1
 subst e1
 exact ⟨e2, e3⟩
theorem few_fwd {n : Nat} (h : n ≤ 8) (r : List UInt8) : few (M.num n ++ r) = .ok (r, n) := by
 unfold few
 rw [bind_to (num_fwd (by omega) r), if_neg (by omega)]; rfl
theorem few_inv {xs r : List UInt8} {n : Nat} (h : few xs = .ok (r, n)) : xs = M.num n ++ r ∧ n ≤ 8 := by
 unfold few at h
 obtain ⟨r1, m, h1, h2⟩ := bind_ok h
 split at h2
 ·cases h2
 ·cases h2; exact ⟨(num_inv h1).1, by omega⟩
theorem text_fwd {x : List UInt8} (h : x.length ≤ 8) (r : List UInt8) : text (M.txt x ++ r) = .ok (r, x) := by
 unfold text M.txt
 rw [List.append_assoc, bind_to (few_fwd h _)]
 unfold take
 rw [if_neg (by rw [List.length_append]; omega), List.drop_left, List.take_left]
theorem text_inv {xs r x : List UInt8} (h : text xs = .ok (r, x)) : xs = M.txt x ++ r ∧ x.length ≤ 8 := by
 unfold text at h
 obtain ⟨r1, n, h1, h2⟩ := bind_ok h
 obtain ⟨rfl, h3⟩ := few_inv h1
 unfold take at h2
 split at h2
 ·cases h2
 ·cases h2
  have hl : (r1.take n).length = n := by rw [List.length_take]; omega
  refine ⟨?_, by omega⟩
  unfold M.txt
  rw [hl, List.append_assoc, List.take_append_drop]
theorem boolean_fwd (b : Bool) (r : List UInt8) : boolean (M.flag b ++ r) = .ok (r, b) := by
 cases b <;> rfl
theorem boolean_inv {xs r : List UInt8} {b : Bool} (h : boolean xs = .ok (r, b)) : xs = M.flag b ++ r := by
 unfold boolean at h
 obtain ⟨r1, x, h1, h2⟩ := bind_ok h
 cases xs with
 | nil => cases h1
 | cons y ys =>
   cases h1
   split at h2
   ·cases h2
   ·cases h2
    rename_i hx
    have hy : y.toNat = 0 ∨ y.toNat = 1 := by omega
    rcases hy with e | e
    ·rw [show decide (y.toNat = 1) = false by rw [e]; rfl]
     have : y = 0 := UInt8.toNat_inj.1 e
     rw [this]; rfl
    ·rw [show decide (y.toNat = 1) = true by rw [e]; rfl]
     have : y = 1 := UInt8.toNat_inj.1 e
     rw [this]; rfl
theorem mark_inv {c : Nat} {xs r : List UInt8} (h : mark c xs = .ok (r, ())) : ∃ y : UInt8, y.toNat = c ∧ xs = y :: r := by
 unfold mark at h
 obtain ⟨r1, x, h1, h2⟩ := bind_ok h
 cases xs with
 | nil => cases h1
 | cons y ys =>
   cases h1
   split at h2
   ·cases h2; exact ⟨y, by assumption, rfl⟩
   ·cases h2
theorem rep_fwd {α : Type} {p : Ps α} {enc : α → List UInt8} : ∀ (n : Nat) (l : List α) (r : List UInt8), l.length = n → (∀ x ∈ l, ∀ r, p (enc x ++ r) = .ok (r, x)) → rep p n (l.flatMap enc ++ r) = .ok (r, l)
 | 0, l, r, h, _ => by
   obtain rfl : l = [] := List.length_eq_zero_iff.1 h
   rfl
 | n + 1, l, r, h, hp => by
   have hne : l ≠ [] := by intro e; rw [e] at h; cases h
   obtain ⟨m, x, rfl⟩ : ∃ m x, l = m ++ [x] := ⟨l.dropLast, l.getLast hne, (List.dropLast_concat_getLast hne).symm⟩
   unfold rep
   rw [List.flatMap_append, List.append_assoc, bind_to (rep_fwd n m _ (by simpa using h) (fun y hy => hp y (by simp [hy])))]
   rw [show ([x].flatMap enc ++ r) = enc x ++ r by simp, bind_to (hp x (by simp) r)]
   rfl
theorem rep_inv {α : Type} {p : Ps α} {enc : α → List UInt8} {Q : α → Prop} (hp : ∀ xs r x, p xs = .ok (r, x) → xs = enc x ++ r ∧ Q x) : ∀ (n : Nat) (xs r : List UInt8) (l : List α), rep p n xs = .ok (r, l) → l.length = n ∧ xs = l.flatMap enc ++ r ∧ ∀ x ∈ l, Q x
 | 0, xs, r, l, h => by cases h; exact ⟨rfl, rfl, (fun _ hx => by cases hx)⟩
 | n + 1, xs, r, l, h => by
   unfold rep at h
   obtain ⟨r1, m, h1, h2⟩ := bind_ok h
   obtain ⟨r2, x, h3, h4⟩ := bind_ok h2
   cases h4
   obtain ⟨e1, e2, e3⟩ := rep_inv hp n xs r1 m h1
   obtain ⟨e4, e5⟩ := hp r1 r x h3
   refine ⟨by simp [e1], ?_, fun y hy => ?_⟩
   ·rw [e2, e4, List.flatMap_append, List.append_assoc]; simp
   ·rw [List.mem_append] at hy
    rcases hy with hy | hy
    ·exact e3 y hy
    ·rw [List.mem_singleton] at hy; rw [hy]; exact e5
def rd : Ps (List UInt8 × Int × Int) := bind text fun k => bind num fun t => bind num fun c => ret (k, (t : Int), (c : Int))
def wr : Ps (List UInt8 × List UInt8) := bind text fun k => bind text fun v => ret (k, v)
def cmd : Ps Cmd := bind num fun k => bind num fun tc => bind num fun tn => bind num fun tt => bind num fun tk => bind num fun sh => bind few fun n => bind (rep rd n) fun rs => bind few fun m => bind (rep wr m) fun ws => bind boolean fun cm => ret ⟨k, tc, tn, tt, tk, sh, rs, ws, cm⟩
def rcd : Ps Rec := bind num fun ir => bind num fun is => bind num fun st => bind num fun pn => bind num fun pr => bind num fun bn => bind num fun br => bind num fun sq => bind num fun d0 => bind num fun d1 => bind num fun d2 => bind num fun d3 => bind num fun d4 => bind num fun d5 => bind num fun d6 => bind boolean fun kp => bind (mark 1) fun _ => bind cmd fun c => ret ⟨ir, is, st, pn, pr, bn, br, c, sq, d0, d1, d2, d3, d4, d5, d6, kp⟩
def msg : Ps Msg := bind num fun k => bind num fun fr => bind num fun to => bind num fun bn => bind num fun br => bind (mark 2) fun _ => bind rcd fun r => ret ⟨k, fr, to, bn, br, r⟩
abbrev Val := Cmd ⊕ Rec ⊕ Msg
def val : Ps Val := bind one fun x => if x = 1 then bind cmd fun c => ret (.inl c) else if x = 2 then bind rcd fun r => ret (.inr (.inl r)) else if x = 3 then bind msg fun m => ret (.inr (.inr m)) else err 4
theorem errs_rd : Errs rd := errs_bind errs_text fun _ => errs_bind errs_num fun _ => errs_bind errs_num fun _ => errs_ret _
theorem errs_wr : Errs wr := errs_bind errs_text fun _ => errs_bind errs_text fun _ => errs_ret _
theorem errs_cmd : Errs cmd := errs_bind errs_num fun _ => errs_bind errs_num fun _ => errs_bind errs_num fun _ => errs_bind errs_num fun _ => errs_bind errs_num fun _ => errs_bind errs_num fun _ => errs_bind errs_few fun _ => errs_bind (errs_rep errs_rd _) fun _ => errs_bind errs_few fun _ => errs_bind (errs_rep errs_wr _) fun _ => errs_bind errs_boolean fun _ => errs_ret _
theorem errs_rcd : Errs rcd := errs_bind errs_num fun _ => errs_bind errs_num fun _ => errs_bind errs_num fun _ => errs_bind errs_num fun _ => errs_bind errs_num fun _ => errs_bind errs_num fun _ => errs_bind errs_num fun _ => errs_bind errs_num fun _ => errs_bind errs_num fun _ => errs_bind errs_num fun _ => errs_bind errs_num fun _ => errs_bind errs_num fun _ => errs_bind errs_num fun _ => errs_bind errs_num fun _ => errs_bind errs_num fun _ => errs_bind errs_boolean fun _ => errs_bind (errs_mark 1) fun _ => errs_bind errs_cmd fun _ => errs_ret _
theorem errs_msg : Errs msg := errs_bind errs_num fun _ => errs_bind errs_num fun _ => errs_bind errs_num fun _ => errs_bind errs_num fun _ => errs_bind errs_num fun _ => errs_bind (errs_mark 2) fun _ => errs_bind errs_rcd fun _ => errs_ret _
theorem errs_val : Errs val := errs_bind errs_one fun _ => errs_if (errs_bind errs_cmd fun _ => errs_ret _) (errs_if (errs_bind errs_rcd fun _ => errs_ret _) (errs_if (errs_bind errs_msg fun _ => errs_ret _) (errs_err (by omega))))
end P
namespace P
open M (Cmd Rec Msg Nb)
theorem num_fwdZ {z : Int} (h : Nb z) (r : List UInt8) : num (M.numZ z ++ r) = .ok (r, z.toNat) := num_fwd (by have := h.1; have := h.2; omega) r
theorem toZ {z : Int} (h : Nb z) : ((z.toNat : Nat) : Int) = z := Int.toNat_of_nonneg h.1
theorem nbN {n : Nat} (h : n ≤ 1099511627776) : Nb (n : Int) := ⟨by omega, by omega⟩
theorem numZ_nat (n : Nat) : M.numZ (n : Int) = M.num n := rfl
structure Sml (c : Cmd) : Prop where
 fits : M.Fits c
 rl : c.rs.length ≤ 8
 wl : c.ws.length ≤ 8
 rs : ∀ r ∈ c.rs, r.1.length ≤ 8
 ws : ∀ r ∈ c.ws, r.1.length ≤ 8 ∧ r.2.length ≤ 8
def bodyC (c : Cmd) : List UInt8 := M.numZ c.k ++ (M.numZ c.tc ++ (M.numZ c.tn ++ (M.numZ c.tt ++ (M.numZ c.tk ++ (M.numZ c.sh ++ (M.num c.rs.length ++ (c.rs.flatMap M.encRd ++ (M.num c.ws.length ++ (c.ws.flatMap M.encWr ++ M.flag c.cm)))))))))
theorem encC_body (c : Cmd) : M.encC c = 1 :: bodyC c := by
 unfold M.encC bodyC
 simp only [M.numsZ_cons, M.numsZ_nil, List.append_assoc, List.nil_append, List.append_nil, List.cons_append, numZ_nat]
def bodyR (r : Rec) : List UInt8 := M.numZ r.ir ++ (M.numZ r.is ++ (M.numZ r.st ++ (M.numZ r.pn ++ (M.numZ r.pr ++ (M.numZ r.bn ++ (M.numZ r.br ++ (M.numZ r.sq ++ (M.numZ r.d0 ++ (M.numZ r.d1 ++ (M.numZ r.d2 ++ (M.numZ r.d3 ++ (M.numZ r.d4 ++ (M.numZ r.d5 ++ (M.numZ r.d6 ++ (M.flag r.kp ++ M.encC r.c)))))))))))))))
theorem encR_body (r : Rec) : M.encR r = 2 :: bodyR r := by
 unfold M.encR bodyR
 simp only [M.numsZ_cons, M.numsZ_nil, List.append_assoc, List.nil_append, List.append_nil, List.cons_append]
def bodyM (m : Msg) : List UInt8 := M.numZ m.k ++ (M.numZ m.fr ++ (M.numZ m.to ++ (M.numZ m.bn ++ (M.numZ m.br ++ M.encR m.r))))
theorem encM_body (m : Msg) : M.encM m = 3 :: bodyM m := by
 unfold M.encM bodyM
 simp only [M.numsZ_cons, M.numsZ_nil, List.append_assoc, List.nil_append, List.append_nil, List.cons_append]
theorem rd_fwd {x : List UInt8 × Int × Int} (h1 : x.1.length ≤ 8) (h2 : Nb x.2.1) (h3 : Nb x.2.2) (r : List UInt8) : rd (M.encRd x ++ r) = .ok (r, x) := by
 unfold rd M.encRd
 simp only [M.numsZ_cons, M.numsZ_nil, List.append_assoc, List.nil_append]
 rw [bind_to (text_fwd h1 _), bind_to (num_fwdZ h2 _), bind_to (num_fwdZ h3 _), toZ h2, toZ h3]
 rfl
theorem wr_fwd {x : List UInt8 × List UInt8} (h1 : x.1.length ≤ 8) (h2 : x.2.length ≤ 8) (r : List UInt8) : wr (M.encWr x ++ r) = .ok (r, x) := by
 unfold wr M.encWr
 rw [List.append_assoc, bind_to (text_fwd h1 _), bind_to (text_fwd h2 _)]
 rfl
theorem rd_inv {xs r : List UInt8} {x : List UInt8 × Int × Int} (h : rd xs = .ok (r, x)) : xs = M.encRd x ++ r ∧ (x.1.length ≤ 8 ∧ Nb x.2.1 ∧ Nb x.2.2) := by
 unfold rd at h
 obtain ⟨r1, k, h1, h⟩ := bind_ok h
 obtain ⟨r2, t, h2, h⟩ := bind_ok h
 obtain ⟨r3, c, h3, h⟩ := bind_ok h
 cases h
 obtain ⟨e1, l1⟩ := text_inv h1
 obtain ⟨e2, l2⟩ := num_inv h2
 obtain ⟨e3, l3⟩ := num_inv h3
 refine ⟨?_, l1, nbN l2, nbN l3⟩
 rw [e1, e2, e3]
 unfold M.encRd
 simp only [M.numsZ_cons, M.numsZ_nil, List.append_assoc, List.nil_append, numZ_nat]
theorem wr_inv {xs r : List UInt8} {x : List UInt8 × List UInt8} (h : wr xs = .ok (r, x)) : xs = M.encWr x ++ r ∧ (x.1.length ≤ 8 ∧ x.2.length ≤ 8) := by
 unfold wr at h
 obtain ⟨r1, k, h1, h⟩ := bind_ok h
 obtain ⟨r2, t, h2, h⟩ := bind_ok h
 cases h
 obtain ⟨e1, l1⟩ := text_inv h1
 obtain ⟨e2, l2⟩ := text_inv h2
 refine ⟨?_, l1, l2⟩
 rw [e1, e2]
 unfold M.encWr
 rw [List.append_assoc]
theorem cmd_fwd {c : Cmd} (h : Sml c) (r : List UInt8) : cmd (bodyC c ++ r) = .ok (r, c) := by
 have F := h.fits
 unfold cmd bodyC
 simp only [List.append_assoc]
 rw [bind_to (num_fwdZ F.k _), bind_to (num_fwdZ F.tc _), bind_to (num_fwdZ F.tn _), bind_to (num_fwdZ F.tt _), bind_to (num_fwdZ F.tk _), bind_to (num_fwdZ F.sh _), bind_to (few_fwd h.rl _)]
 rw [bind_to (rep_fwd c.rs.length c.rs _ rfl (fun x hx r => rd_fwd (h.rs x hx) (F.rs x hx).2.1 (F.rs x hx).2.2 r))]
 rw [bind_to (few_fwd h.wl _), bind_to (rep_fwd c.ws.length c.ws _ rfl (fun x hx r => wr_fwd (h.ws x hx).1 (h.ws x hx).2 r)), bind_to (boolean_fwd c.cm _)]
 rw [toZ F.k, toZ F.tc, toZ F.tn, toZ F.tt, toZ F.tk, toZ F.sh]
 rfl
theorem cmd_inv {xs r : List UInt8} {c : Cmd} (h : cmd xs = .ok (r, c)) : xs = bodyC c ++ r ∧ Sml c := by
 unfold cmd at h
 obtain ⟨r1, k, h1, h⟩ := bind_ok h
 obtain ⟨r2, tc, h2, h⟩ := bind_ok h
 obtain ⟨r3, tn, h3, h⟩ := bind_ok h
 obtain ⟨r4, tt, h4, h⟩ := bind_ok h
 obtain ⟨r5, tk, h5, h⟩ := bind_ok h
 obtain ⟨r6, sh, h6, h⟩ := bind_ok h
 obtain ⟨r7, n, h7, h⟩ := bind_ok h
 obtain ⟨r8, rs, h8, h⟩ := bind_ok h
 obtain ⟨r9, m, h9, h⟩ := bind_ok h
 obtain ⟨r10, ws, h10, h⟩ := bind_ok h
 obtain ⟨r11, cm, h11, h⟩ := bind_ok h
 cases h
 obtain ⟨e1, l1⟩ := num_inv h1
 obtain ⟨e2, l2⟩ := num_inv h2
 obtain ⟨e3, l3⟩ := num_inv h3
 obtain ⟨e4, l4⟩ := num_inv h4
 obtain ⟨e5, l5⟩ := num_inv h5
 obtain ⟨e6, l6⟩ := num_inv h6
 obtain ⟨e7, l7⟩ := few_inv h7
 obtain ⟨n8, e8, q8⟩ := rep_inv (enc := M.encRd) (fun _ _ _ h => rd_inv h) n _ _ _ h8
 obtain ⟨e9, l9⟩ := few_inv h9
 obtain ⟨n10, e10, q10⟩ := rep_inv (enc := M.encWr) (fun _ _ _ h => wr_inv h) m _ _ _ h10
 have e11 := boolean_inv h11
 subst n8 n10
 refine ⟨?_, ⟨⟨nbN l1, nbN l2, nbN l3, nbN l4, nbN l5, nbN l6, ?_, ?_, ?_, ?_⟩, l7, l9, fun x hx => (q8 x hx).1, fun x hx => q10 x hx⟩⟩
 ·rw [e1, e2, e3, e4, e5, e6, e7, e8, e9, e10, e11]
  unfold bodyC
  simp only [List.append_assoc, numZ_nat]
 ·show rs.length ≤ 20; omega
 ·show ws.length ≤ 20; omega
 ·intro x hx; exact ⟨by have := (q8 x hx).1; omega, (q8 x hx).2.1, (q8 x hx).2.2⟩
 ·intro x hx; exact ⟨by have := (q10 x hx).1; omega, by have := (q10 x hx).2; omega⟩
theorem mark_fwd (c : Nat) (y : UInt8) (h : y.toNat = c) (r : List UInt8) : mark c (y :: r) = .ok (r, ()) := by
 unfold mark
 rw [bind_to (show one (y :: r) = .ok (r, y.toNat) from rfl), if_pos h]
 rfl
theorem byte_eq {y : UInt8} {z : UInt8} (h : y.toNat = z.toNat) : y = z := UInt8.toNat_inj.1 h
theorem rcd_fwd {r : Rec} (F : M.FitsR r) (h : Sml r.c) (t : List UInt8) : rcd (bodyR r ++ t) = .ok (t, r) := by
 unfold rcd bodyR
 rw [encC_body]
 simp only [List.append_assoc, List.cons_append]
 rw [bind_to (num_fwdZ F.ir _), bind_to (num_fwdZ F.is _), bind_to (num_fwdZ F.st _), bind_to (num_fwdZ F.pn _), bind_to (num_fwdZ F.pr _), bind_to (num_fwdZ F.bn _), bind_to (num_fwdZ F.br _), bind_to (num_fwdZ F.sq _), bind_to (num_fwdZ F.d0 _), bind_to (num_fwdZ F.d1 _), bind_to (num_fwdZ F.d2 _), bind_to (num_fwdZ F.d3 _), bind_to (num_fwdZ F.d4 _), bind_to (num_fwdZ F.d5 _), bind_to (num_fwdZ F.d6 _)]
 rw [bind_to (boolean_fwd r.kp _), bind_to (mark_fwd 1 1 rfl _), bind_to (cmd_fwd h _)]
 rw [toZ F.ir, toZ F.is, toZ F.st, toZ F.pn, toZ F.pr, toZ F.bn, toZ F.br, toZ F.sq, toZ F.d0, toZ F.d1, toZ F.d2, toZ F.d3, toZ F.d4, toZ F.d5, toZ F.d6]
 rfl
theorem rcd_inv {xs t : List UInt8} {r : Rec} (h : rcd xs = .ok (t, r)) : xs = bodyR r ++ t ∧ M.FitsR r ∧ Sml r.c := by
 unfold rcd at h
 obtain ⟨r1, ir, h1, h⟩ := bind_ok h
 obtain ⟨r2, is1, h2, h⟩ := bind_ok h
 obtain ⟨r3, st, h3, h⟩ := bind_ok h
 obtain ⟨r4, pn, h4, h⟩ := bind_ok h
 obtain ⟨r5, pr, h5, h⟩ := bind_ok h
 obtain ⟨r6, bn, h6, h⟩ := bind_ok h
 obtain ⟨r7, br, h7, h⟩ := bind_ok h
 obtain ⟨r8, sq, h8, h⟩ := bind_ok h
 obtain ⟨r9, d0, h9, h⟩ := bind_ok h
 obtain ⟨r10, d1, h10, h⟩ := bind_ok h
 obtain ⟨r11, d2, h11, h⟩ := bind_ok h
 obtain ⟨r12, d3, h12, h⟩ := bind_ok h
 obtain ⟨r13, d4, h13, h⟩ := bind_ok h
 obtain ⟨r14, d5, h14, h⟩ := bind_ok h
 obtain ⟨r15, d6, h15, h⟩ := bind_ok h
 obtain ⟨r16, kp, h16, h⟩ := bind_ok h
 obtain ⟨r17, u, h17, h⟩ := bind_ok h
 obtain ⟨r18, c, h18, h⟩ := bind_ok h
 cases h
 obtain ⟨e1, l1⟩ := num_inv h1
 obtain ⟨e2, l2⟩ := num_inv h2
 obtain ⟨e3, l3⟩ := num_inv h3
 obtain ⟨e4, l4⟩ := num_inv h4
 obtain ⟨e5, l5⟩ := num_inv h5
 obtain ⟨e6, l6⟩ := num_inv h6
 obtain ⟨e7, l7⟩ := num_inv h7
 obtain ⟨e8, l8⟩ := num_inv h8
 obtain ⟨e9, l9⟩ := num_inv h9
 obtain ⟨e10, l10⟩ := num_inv h10
 obtain ⟨e11, l11⟩ := num_inv h11
 obtain ⟨e12, l12⟩ := num_inv h12
 obtain ⟨e13, l13⟩ := num_inv h13
 obtain ⟨e14, l14⟩ := num_inv h14
 obtain ⟨e15, l15⟩ := num_inv h15
 have e16 := boolean_inv h16
 obtain ⟨y, hy, e17⟩ := mark_inv h17
 obtain rfl : y = 1 := byte_eq hy
 obtain ⟨e18, S⟩ := cmd_inv h18
 refine ⟨?_, ⟨nbN l1, nbN l2, nbN l3, nbN l4, nbN l5, nbN l6, nbN l7, S.fits, nbN l8, nbN l9, nbN l10, nbN l11, nbN l12, nbN l13, nbN l14, nbN l15⟩, S⟩
 rw [e1, e2, e3, e4, e5, e6, e7, e8, e9, e10, e11, e12, e13, e14, e15, e16, e17, e18]
 unfold bodyR
 simp only [encC_body, List.append_assoc, numZ_nat, List.cons_append]
theorem msg_fwd {m : Msg} (F : M.FitsM m) (h : Sml m.r.c) (t : List UInt8) : msg (bodyM m ++ t) = .ok (t, m) := by
 unfold msg bodyM
 rw [encR_body]
 simp only [List.append_assoc, List.cons_append]
 rw [bind_to (num_fwdZ F.k _), bind_to (num_fwdZ F.fr _), bind_to (num_fwdZ F.to _), bind_to (num_fwdZ F.bn _), bind_to (num_fwdZ F.br _), bind_to (mark_fwd 2 2 rfl _), bind_to (rcd_fwd F.r h _)]
 rw [toZ F.k, toZ F.fr, toZ F.to, toZ F.bn, toZ F.br]
 rfl
theorem msg_inv {xs t : List UInt8} {m : Msg} (h : msg xs = .ok (t, m)) : xs = bodyM m ++ t ∧ M.FitsM m ∧ Sml m.r.c := by
 unfold msg at h
 obtain ⟨r1, k, h1, h⟩ := bind_ok h
 obtain ⟨r2, fr, h2, h⟩ := bind_ok h
 obtain ⟨r3, to, h3, h⟩ := bind_ok h
 obtain ⟨r4, bn, h4, h⟩ := bind_ok h
 obtain ⟨r5, br, h5, h⟩ := bind_ok h
 obtain ⟨r6, u, h6, h⟩ := bind_ok h
 obtain ⟨r7, r, h7, h⟩ := bind_ok h
 cases h
 obtain ⟨e1, l1⟩ := num_inv h1
 obtain ⟨e2, l2⟩ := num_inv h2
 obtain ⟨e3, l3⟩ := num_inv h3
 obtain ⟨e4, l4⟩ := num_inv h4
 obtain ⟨e5, l5⟩ := num_inv h5
 obtain ⟨y, hy, e6⟩ := mark_inv h6
 obtain rfl : y = 2 := byte_eq hy
 obtain ⟨e7, FR, S⟩ := rcd_inv h7
 refine ⟨?_, ⟨nbN l1, nbN l2, nbN l3, nbN l4, nbN l5, FR⟩, S⟩
 rw [e1, e2, e3, e4, e5, e6, e7]
 unfold bodyM
 simp only [encR_body, List.append_assoc, numZ_nat, List.cons_append]
def encV : Val → List UInt8
 | .inl c => M.encC c
 | .inr (.inl r) => M.encR r
 | .inr (.inr m) => M.encM m
def smlV : Val → Prop
 | .inl c => Sml c
 | .inr (.inl r) => M.FitsR r ∧ Sml r.c
 | .inr (.inr m) => M.FitsM m ∧ Sml m.r.c
def rightV : Val → Bool
 | .inl c => M.rightC c
 | .inr (.inl r) => M.rightR r
 | .inr (.inr m) => M.rightM m
theorem val_fwd {v : Val} (h : smlV v) (t : List UInt8) : val (encV v ++ t) = .ok (t, v) := by
 unfold val
 rcases v with c | r | m
 ·show bind one _ (M.encC c ++ t) = _
  rw [encC_body, List.cons_append, bind_to (show one (1 :: (bodyC c ++ t)) = .ok (bodyC c ++ t, 1) from rfl), if_pos rfl, bind_to (cmd_fwd h t)]
  rfl
 ·show bind one _ (M.encR r ++ t) = _
  rw [encR_body, List.cons_append, bind_to (show one (2 :: (bodyR r ++ t)) = .ok (bodyR r ++ t, 2) from rfl), if_neg (by omega), if_pos rfl, bind_to (rcd_fwd h.1 h.2 t)]
  rfl
 ·show bind one _ (M.encM m ++ t) = _
  rw [encM_body, List.cons_append, bind_to (show one (3 :: (bodyM m ++ t)) = .ok (bodyM m ++ t, 3) from rfl), if_neg (by omega), if_neg (by omega), if_pos rfl, bind_to (msg_fwd h.1 h.2 t)]
  rfl
theorem val_inv {xs t : List UInt8} {v : Val} (h : val xs = .ok (t, v)) : xs = encV v ++ t ∧ smlV v := by
 unfold val at h
 obtain ⟨r1, x, h1, h0⟩ := bind_ok h
 clear h
 cases xs with
 | nil => cases h1
 | cons y ys =>
   cases h1
   split at h0
   ·rename_i e
    obtain rfl : y = 1 := byte_eq e
    obtain ⟨r2, c, h2, h⟩ := bind_ok h0
    cases h
    obtain ⟨e2, S⟩ := cmd_inv h2
    exact ⟨by rw [e2]; show _ = M.encC c ++ t; rw [encC_body]; rfl, S⟩
   ·split at h0
    ·rename_i e
     obtain rfl : y = 2 := byte_eq e
     obtain ⟨r2, c, h2, h⟩ := bind_ok h0
     cases h
     obtain ⟨e2, S⟩ := rcd_inv h2
     exact ⟨by rw [e2]; show _ = M.encR c ++ t; rw [encR_body]; rfl, S⟩
    ·split at h0
     ·rename_i e
      obtain rfl : y = 3 := byte_eq e
      obtain ⟨r2, c, h2, h⟩ := bind_ok h0
      cases h
      obtain ⟨e2, S⟩ := msg_inv h2
      exact ⟨by rw [e2]; show _ = M.encM c ++ t; rw [encM_body]; rfl, S⟩
     ·cases h0
def dec (xs : List UInt8) : Except Nat Val := match val xs with
 | .error e => .error e
 | .ok (r, v) => if 0 < r.length then .error 5 else if rightV v then .ok v else .error 1
theorem dec_ok {xs : List UInt8} {v : Val} (h : dec xs = .ok v) : val xs = .ok ([], v) ∧ xs = encV v ∧ smlV v ∧ rightV v = true := by
 unfold dec at h
 cases e : val xs with
 | error x => rw [e] at h; cases h
 | ok y =>
   obtain ⟨r, u⟩ := y
   rw [e] at h
   simp only at h
   split at h
   ·cases h
   ·rename_i h1
    split at h
    ·rename_i h2
     cases h
     obtain rfl : r = [] := List.length_eq_zero_iff.1 (by omega)
     obtain ⟨e1, S⟩ := val_inv e
     exact ⟨rfl, by rw [e1, List.append_nil], S, h2⟩
    ·cases h
theorem dec_back {v : Val} (h : smlV v) (hr : rightV v = true) : dec (encV v) = .ok v := by
 have := val_fwd h []
 rw [List.append_nil] at this
 unfold dec
 rw [this]
 simp only [List.length_nil, Nat.lt_irrefl, if_false, hr, if_true]
end P
end Go.Proofs.YtdachohcjpjblaaGreatDoor.Wi
