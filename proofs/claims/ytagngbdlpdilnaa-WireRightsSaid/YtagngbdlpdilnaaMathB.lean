/- Plain facts on lists of texts; no dump, no conditions. -/
import Derived.Test.YtagngbdlpdilnaaWalksE
namespace Go.Proofs.Ytagngbdlpdilnaa
namespace M

/-- Few texts, and short. -/
def fewB (ss : List (List UInt8)) : Bool := (ss.take 41).all (fun x => decide (x.length ≤ 100)) && decide (ss.length ≤ 40)
def Few (ss : List (List UInt8)) : Prop := ss.length ≤ 40 ∧ ∀ x ∈ ss, x.length ≤ 100
theorem fewB_iff {ss : List (List UInt8)} : fewB ss = true ↔ Few ss := by
  unfold fewB Few
  rw [Bool.and_eq_true, decide_eq_true_eq, List.all_eq_true]
  constructor
  · rintro ⟨h, hl⟩
    exact ⟨hl, fun x hx => by have := h x (by rw [List.take_of_length_le (by omega)]; exact hx); simpa using this⟩
  · rintro ⟨hl, h⟩
    exact ⟨fun x hx => by simpa using h x (List.mem_of_mem_take hx), hl⟩
/-- The first ones are short. -/
def shortTo (ss : List (List UInt8)) (k : Nat) : Prop := ∀ x ∈ ss.take k, x.length ≤ 100
theorem shortTo_zero (ss : List (List UInt8)) : shortTo ss 0 := by intro x hx; simp at hx
theorem getD_mem {ss : List (List UInt8)} {k : Nat} (h : k < ss.length) : ss.getD k [] ∈ ss := by
  rw [List.getD, List.getElem?_eq_getElem h]; exact List.getElem_mem h
theorem take_succ {ss : List (List UInt8)} {k : Nat} (h : k < ss.length) : ss.take (k + 1) = ss.take k ++ [ss.getD k []] := by
  rw [List.take_add_one, List.getD, List.getElem?_eq_getElem h]; rfl
theorem shortTo_succ {ss : List (List UInt8)} {k : Nat} (h : shortTo ss k) (hk : k < ss.length) (hx : (ss.getD k []).length ≤ 100) : shortTo ss (k + 1) := by
  intro x hx'
  rw [take_succ hk, List.mem_append, List.mem_singleton] at hx'
  rcases hx' with hx' | rfl
  · exact h x hx'
  · exact hx
theorem few_not {ss : List (List UInt8)} {k : Nat} (hk : k < ss.length) (hx : 100 < (ss.getD k []).length) : fewB ss = false := by
  cases e : fewB ss
  · rfl
  · have := (fewB_iff.1 e).2 _ (getD_mem hk)
    omega
theorem few_end {ss : List (List UInt8)} {k : Nat} (h : shortTo ss k) (hk : ¬ (k < ss.length ∧ k ≤ 40)) : decide ((ss.length : Int) ≤ 40) = fewB ss := by
  rw [Bool.eq_iff_iff, decide_eq_true_eq, fewB_iff]
  constructor
  · intro hl
    exact ⟨by omega, fun x hx => h x (by rw [List.take_of_length_le (by omega)]; exact hx)⟩
  · intro hf
    have := hf.1; omega

/-- Is a text among others? -/
def inB (ss : List (List UInt8)) (k : List UInt8) : Bool := decide (k ∈ ss)
theorem inB_iff {ss : List (List UInt8)} {k : List UInt8} : inB ss k = true ↔ k ∈ ss := by simp [inB]
theorem inB_not {ss : List (List UInt8)} {k : List UInt8} : inB ss k = false ↔ k ∉ ss := by simp [inB]
theorem inB_at {ss : List (List UInt8)} {k : Nat} {x : List UInt8} (hk : k < ss.length) (h : (ss.getD k [] == x) = true) : true = inB ss x := by
  rw [eq_comm, inB_iff, ← (beq_iff_eq.1 h)]; exact getD_mem hk
theorem inB_take {ss : List (List UInt8)} {k : Nat} {x : List UInt8} (hk : k < ss.length) (h : inB (ss.take k) x = false) (hx : (ss.getD k [] == x) = false) : inB (ss.take (k + 1)) x = false := by
  rw [inB_not] at *
  rw [take_succ hk, List.mem_append, List.mem_singleton]
  rintro (h1 | h1)
  · exact h h1
  · rw [← h1] at hx; simp at hx
theorem inB_end {ss : List (List UInt8)} {k : Nat} {x : List UInt8} (hk : ¬ k < ss.length) (h : inB (ss.take k) x = false) : false = inB ss x := by
  rw [List.take_of_length_le (by omega)] at h; exact h.symm

/-- Are two lists the same? -/
def sameB (ss ts : List (List UInt8)) : Bool := decide (ss = ts)
theorem same_take {ss ts : List (List UInt8)} {k : Nat} (hk : k < ss.length) (hl : ss.length = ts.length) (h : ss.take k = ts.take k) (hx : ss.getD k [] = ts.getD k []) : ss.take (k + 1) = ts.take (k + 1) := by
  rw [take_succ hk, take_succ (by omega), h, hx]
theorem same_not {ss ts : List (List UInt8)} {k : Nat} (hx : ss.getD k [] ≠ ts.getD k []) : false = sameB ss ts := by
  unfold sameB; rw [eq_comm, decide_eq_false_iff_not]; rintro rfl; exact hx rfl
theorem same_len {ss ts : List (List UInt8)} (h : ss.length ≠ ts.length) : false = sameB ss ts := by
  unfold sameB; rw [eq_comm, decide_eq_false_iff_not]; rintro rfl; exact h rfl
theorem same_end {ss ts : List (List UInt8)} {k : Nat} (hk : ¬ k < ss.length) (hl : ss.length = ts.length) (h : ss.take k = ts.take k) : true = sameB ss ts := by
  rw [List.take_of_length_le (by omega), List.take_of_length_le (by omega)] at h
  unfold sameB; rw [eq_comm, decide_eq_true_eq]; exact h
theorem sameB_refl (ss : List (List UInt8)) : sameB ss ss = true := by simp [sameB]

/-- Ahead, byte by byte. -/
def ltB (a b : List UInt8) : Bool := decide (a < b)
theorem ltB_iff {a b : List UInt8} : ltB a b = true ↔ a < b := by simp [ltB]
theorem lt_step {c d : UInt8} {a b : List UInt8} : (c :: a < d :: b) ↔ (c < d ∨ c = d ∧ a < b) := List.cons_lt_cons_iff
/-- Two texts that begin alike. -/
theorem lt_drop (a b : List UInt8) (k : Nat) (h : a.take k = b.take k) (ha : k ≤ a.length) (hb : k ≤ b.length) : ltB a b = ltB (a.drop k) (b.drop k) := by
  induction k generalizing a b with
  | zero => rfl
  | succ k ih =>
    match a, b with
    | [], _ => simp at ha
    | _, [] => simp at hb
    | c :: a, d :: b =>
      simp only [List.take_succ_cons, List.cons.injEq] at h
      obtain ⟨rfl, h⟩ := h
      have := ih a b h (by simpa using ha) (by simpa using hb)
      simp only [List.drop_succ_cons]
      rw [← this]
      unfold ltB
      exact decide_eq_decide.2 (by rw [lt_step]; constructor
                                   · rintro (h | h)
                                     · exact absurd h (UInt8.lt_irrefl _)
                                     · exact h.2
                                   · exact fun h => .inr ⟨rfl, h⟩)
theorem lt_short {a b : List UInt8} {k : Nat} (h : a.take k = b.take k) (ha : k = a.length) (hb : k < b.length) : true = ltB a b := by
  rw [lt_drop a b k h (by omega) (by omega), ha, List.drop_length, eq_comm, ltB_iff]
  cases e : b.drop a.length with
  | nil => have := congrArg List.length e; simp at this; omega
  | cons => simp
theorem lt_long {a b : List UInt8} {k : Nat} (h : a.take k = b.take k) (ha : k ≤ a.length) (hb : k = b.length) : false = ltB a b := by
  rw [lt_drop a b k h (by omega) (by omega), hb, List.drop_length]
  simp [ltB]
theorem lt_byte {a b : List UInt8} {k : Nat} (h : a.take k = b.take k) (ha : k < a.length) (hb : k < b.length) (hne : a[k] ≠ b[k]) : decide (a[k] < b[k]) = ltB a b := by
  rw [lt_drop a b k h (by omega) (by omega), List.drop_eq_getElem_cons ha, List.drop_eq_getElem_cons hb]
  unfold ltB
  exact decide_eq_decide.2 (by rw [lt_step]; constructor
                               · exact fun h => .inl h
                               · rintro (h | h)
                                 · exact h
                                 · exact absurd h.1 hne)
theorem take_byte {a b : List UInt8} {k : Nat} (h : a.take k = b.take k) (ha : k < a.length) (hb : k < b.length) (he : a[k] = b[k]) : a.take (k + 1) = b.take (k + 1) := by
  rw [List.take_add_one, List.take_add_one, h, List.getElem?_eq_getElem ha, List.getElem?_eq_getElem hb, he]

/-- Rising lists. -/
def Asc (l : List (List UInt8)) : Prop := l.Pairwise (· < ·)
theorem asc_ext {l m : List (List UInt8)} (hl : Asc l) (hm : Asc m) (h : ∀ x, x ∈ l ↔ x ∈ m) : l = m := by
  have nd : ∀ {l : List (List UInt8)}, Asc l → l.Nodup := fun h => h.imp (fun {a b} hab => by rintro rfl; exact List.lt_irrefl _ hab)
  refine List.Perm.eq_of_pairwise (le := (· < ·)) (fun a b _ _ h1 h2 => absurd (List.lt_trans h1 h2) (List.lt_irrefl _)) hl hm ?_
  exact (List.perm_ext_iff_of_nodup (nd hl) (nd hm)).2 h

/-- What is gathered, each once. -/
def add (acc : List (List UInt8)) (x : List UInt8) : List (List UInt8) := if inB acc x then acc else acc ++ [x]
def gat (l : List (List UInt8)) : List (List UInt8) := l.foldl add []
theorem add_mem (acc : List (List UInt8)) (x y : List UInt8) : y ∈ add acc x ↔ y ∈ acc ∨ y = x := by
  unfold add
  split
  · rename_i h
    rw [inB_iff] at h
    constructor
    · exact .inl
    · rintro (h1 | rfl)
      · exact h1
      · exact h
  · simp
theorem add_nodup {acc : List (List UInt8)} (h : acc.Nodup) (x : List UInt8) : (add acc x).Nodup := by
  unfold add
  split
  · exact h
  · rename_i hn
    rw [Bool.not_eq_true, inB_not] at hn
    rw [List.nodup_append]
    exact ⟨h, by simp, fun a ha b hb => by simp at hb; subst hb; rintro rfl; exact hn ha⟩
theorem foldl_add_mem : ∀ (l acc : List (List UInt8)) (y : List UInt8), y ∈ l.foldl add acc ↔ y ∈ acc ∨ y ∈ l
  | [], acc, y => by simp
  | x :: l, acc, y => by rw [List.foldl_cons, foldl_add_mem l, add_mem, List.mem_cons, or_assoc]
theorem foldl_add_nodup : ∀ (l acc : List (List UInt8)), acc.Nodup → (l.foldl add acc).Nodup
  | [], _, h => h
  | x :: l, acc, h => by rw [List.foldl_cons]; exact foldl_add_nodup l _ (add_nodup h x)
theorem gat_mem (l : List (List UInt8)) (y : List UInt8) : y ∈ gat l ↔ y ∈ l := by unfold gat; rw [foldl_add_mem]; simp
theorem gat_nodup (l : List (List UInt8)) : (gat l).Nodup := foldl_add_nodup l [] (by simp)
theorem add_len (acc : List (List UInt8)) (x : List UInt8) : (add acc x).length ≤ acc.length + 1 := by unfold add; split <;> simp
theorem foldl_add_len : ∀ (l acc : List (List UInt8)), (l.foldl add acc).length ≤ acc.length + l.length
  | [], _ => by simp
  | x :: l, acc => by
    rw [List.foldl_cons]
    have h1 := foldl_add_len l (add acc x)
    have h2 := add_len acc x
    simp; omega
theorem gat_len (l : List (List UInt8)) : (gat l).length ≤ l.length := by unfold gat; have := foldl_add_len l []; simpa using this
theorem gat_snoc (l : List (List UInt8)) (k : Nat) (h : k < l.length) : gat (l.take (k + 1)) = add (gat (l.take k)) (l.getD k []) := by
  rw [take_succ h]; unfold gat; rw [List.foldl_append]; rfl

/-- All of both, rising. -/
def srt (l : List (List UInt8)) : List (List UInt8) := l.mergeSort (fun x y => decide (x ≤ y))
def join (ss ts : List (List UInt8)) : List (List UInt8) := srt (gat (ss ++ ts))
theorem srt_mem (l : List (List UInt8)) (y : List UInt8) : y ∈ srt l ↔ y ∈ l := List.mem_mergeSort
theorem srt_len (l : List (List UInt8)) : (srt l).length = l.length := List.length_mergeSort l
theorem srt_asc {l : List (List UInt8)} (h : l.Nodup) : Asc (srt l) := by
  have h1 : (srt l).Pairwise (fun x y => decide (x ≤ y) = true) := List.pairwise_mergeSort (fun a b c h k => by rw [decide_eq_true_eq] at *; exact List.le_trans h k)
    (fun a b => by rw [Bool.or_eq_true, decide_eq_true_eq, decide_eq_true_eq]; exact List.le_total a b) l
  have h2 : (srt l).Nodup := (List.mergeSort_perm l _).nodup_iff.2 h
  exact h1.imp₂ (fun a b hab hne => by
    rw [decide_eq_true_eq] at hab
    rcases List.le_iff_lt_or_eq.1 hab with h | h
    · exact h
    · exact absurd h hne) h2
theorem join_mem (ss ts : List (List UInt8)) (y : List UInt8) : y ∈ join ss ts ↔ y ∈ ss ∨ y ∈ ts := by
  unfold join; rw [srt_mem, gat_mem, List.mem_append]
theorem join_asc (ss ts : List (List UInt8)) : Asc (join ss ts) := srt_asc (gat_nodup _)
theorem join_len (ss ts : List (List UInt8)) : (join ss ts).length ≤ ss.length + ts.length := by
  unfold join; rw [srt_len]; have := gat_len (ss ++ ts); simpa using this
theorem join_comm (ss ts : List (List UInt8)) : join ss ts = join ts ss := asc_ext (join_asc _ _) (join_asc _ _) (fun x => by rw [join_mem, join_mem, or_comm])
theorem join_self {j : List (List UInt8)} (h : Asc j) : join j j = j := asc_ext (join_asc _ _) h (fun x => by rw [join_mem, or_self])

/-- One put in at its place. -/
def ins (out : List (List UInt8)) (x : List UInt8) : List (List UInt8) := if inB out x then out else out.takeWhile (ltB · x) ++ x :: out.dropWhile (ltB · x)
def djoin (ss ts : List (List UInt8)) : List (List UInt8) := (ss ++ ts).foldl ins []
theorem ins_mem (out : List (List UInt8)) (x y : List UInt8) : y ∈ ins out x ↔ y ∈ out ∨ y = x := by
  unfold ins
  split
  · rename_i h
    rw [inB_iff] at h
    constructor
    · exact .inl
    · rintro (h1 | rfl)
      · exact h1
      · exact h
  · conv => rhs; lhs; rw [← List.takeWhile_append_dropWhile (p := (ltB · x)) (l := out)]
    simp only [List.mem_append, List.mem_cons]
    constructor
    · rintro (h | h | h)
      · exact .inl (.inl h)
      · exact .inr h
      · exact .inl (.inr h)
    · rintro ((h | h) | h)
      · exact .inl h
      · exact .inr (.inr h)
      · exact .inr (.inl h)
theorem drop_ge (x : List UInt8) : ∀ (l : List (List UInt8)), Asc l → x ∉ l → ∀ y ∈ l.dropWhile (ltB · x), x < y
  | [], _, _, y, hy => by simp at hy
  | z :: l, h, hn, y, hy => by
    rw [List.dropWhile_cons] at hy
    split at hy
    · exact drop_ge x l (List.pairwise_cons.1 h).2 (fun hx => hn (by simp [hx])) y hy
    · rename_i hz
      have hz' : ¬ z < x := fun h => hz (ltB_iff.2 h)
      have hxz : x < z := by
        rcases List.le_iff_lt_or_eq.1 (List.not_lt.1 hz') with h | h
        · exact h
        · exact absurd (by simp [h]) hn
      rcases List.mem_cons.1 hy with rfl | hy
      · exact hxz
      · exact List.lt_trans hxz ((List.pairwise_cons.1 h).1 y hy)
theorem take_lt (x : List UInt8) : ∀ (l : List (List UInt8)), ∀ y ∈ l.takeWhile (ltB · x), y < x
  | [], y, hy => by simp at hy
  | z :: l, y, hy => by
    rw [List.takeWhile_cons] at hy
    split at hy
    · rename_i hz
      rcases List.mem_cons.1 hy with rfl | hy
      · exact ltB_iff.1 hz
      · exact take_lt x l y hy
    · simp at hy
theorem ins_asc {out : List (List UInt8)} (h : Asc out) (x : List UInt8) : Asc (ins out x) := by
  unfold ins
  split
  · exact h
  · rename_i hn
    rw [Bool.not_eq_true, inB_not] at hn
    have hsplit : Asc (out.takeWhile (ltB · x) ++ out.dropWhile (ltB · x)) := by rw [List.takeWhile_append_dropWhile]; exact h
    unfold Asc at *
    rw [List.pairwise_append] at hsplit ⊢
    refine ⟨hsplit.1, List.pairwise_cons.2 ⟨drop_ge x out h hn, hsplit.2.1⟩, fun a ha b hb => ?_⟩
    have h1 := take_lt x out a ha
    rcases List.mem_cons.1 hb with rfl | hb
    · exact h1
    · exact List.lt_trans h1 (drop_ge x out h hn b hb)
theorem foldl_ins : ∀ (l out : List (List UInt8)), Asc out → Asc (l.foldl ins out) ∧ ∀ y, y ∈ l.foldl ins out ↔ y ∈ out ∨ y ∈ l
  | [], out, h => ⟨h, fun y => by simp⟩
  | x :: l, out, h => by
    rw [List.foldl_cons]
    obtain ⟨h1, h2⟩ := foldl_ins l (ins out x) (ins_asc h x)
    exact ⟨h1, fun y => by rw [h2, ins_mem, List.mem_cons, or_assoc]⟩
theorem djoin_eq (ss ts : List (List UInt8)) : djoin ss ts = join ss ts := by
  obtain ⟨h1, h2⟩ := foldl_ins (ss ++ ts) [] List.Pairwise.nil
  refine asc_ext h1 (join_asc _ _) (fun x => ?_)
  have := h2 x
  unfold djoin
  rw [this, join_mem]; simp
theorem ins_len (out : List (List UInt8)) (x : List UInt8) : (ins out x).length ≤ out.length + 1 := by
  unfold ins
  split
  · omega
  · have := congrArg List.length (List.takeWhile_append_dropWhile (p := (ltB · x)) (l := out))
    rw [List.length_append] at this
    rw [List.length_append, List.length_cons]
    omega
theorem foldl_ins_len : ∀ (l out : List (List UInt8)), (l.foldl ins out).length ≤ out.length + l.length
  | [], _ => by simp
  | x :: l, out => by
    rw [List.foldl_cons]
    have h1 := foldl_ins_len l (ins out x)
    have h2 := ins_len out x
    simp; omega
end M
end Go.Proofs.Ytagngbdlpdilnaa
