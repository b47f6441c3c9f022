/- Which records count, which are conflicts, what one has to wait for, the next slot: plain facts; no conditions but those that they name. -/
import Derived.Test.YtpknkhgkejkpkaaGreatRw
import Derived.Test.YtpknkhgkejkpkaaGreatIfr
import Derived.Test.YtpknkhgkejkpkaaGreatDp

namespace Go.Proofs.YtpknkhgkejkpkaaGreat
open Go.RowKit

/-- What a map from instances to their last places holds. -/
def lastM (ks : List Ky) : List (Ky × Int) := ks.zipIdx.foldl (fun m p => mput m p.1 p.2) []
theorem lastM_snoc (ks : List Ky) (k : Ky) : lastM (ks ++ [k]) = mput (lastM ks) k ks.length := by
  unfold lastM
  rw [List.zipIdx_append, List.foldl_append]
  simp
theorem lastM_len (ks : List Ky) : (lastM ks).length ≤ ks.length := by
  have key : ∀ n, n ≤ ks.length → (lastM (ks.take n)).length ≤ n := by
    intro n
    induction n with
    | zero => intro _; simp [lastM]
    | succ n ih =>
      intro hn
      rw [List.take_add_one, List.getElem?_eq_getElem (by omega : n < ks.length), Option.toList_some, lastM_snoc]
      have := mput_len (lastM (ks.take n)) ks[n] (ks.take n).length
      have := ih (by omega)
      omega
  have := key ks.length (Nat.le_refl _)
  rwa [List.take_length] at this
/-- Is there no such one behind? -/
def lastB (ks : List Ky) (k : Nat) : Bool := (ks.drop (k + 1)).all fun q => decide (q ≠ ks.getD k (0, 0))
theorem lastM_get (ks : List Ky) (q : Ky) : (mget (lastM ks) q = none ∧ q ∉ ks) ∨ ∃ i : Nat, mget (lastM ks) q = some (i : Int) ∧ ks[i]? = some q ∧ ∀ j, i < j → ks[j]? ≠ some q := by
  have key : ∀ n, n ≤ ks.length → (mget (lastM (ks.take n)) q = none ∧ q ∉ ks.take n) ∨ ∃ i : Nat, mget (lastM (ks.take n)) q = some (i : Int) ∧ (ks.take n)[i]? = some q ∧ ∀ j, i < j → (ks.take n)[j]? ≠ some q := by
    intro n
    induction n with
    | zero => intro _; left; simp [lastM, mget]
    | succ n ih =>
      intro hn
      have hl : (ks.take n).length = n := by rw [List.length_take]; omega
      rw [List.take_add_one, List.getElem?_eq_getElem (by omega : n < ks.length), Option.toList_some, lastM_snoc, mget_put, hl]
      by_cases hq : q = ks[n]
      · right
        rw [if_pos hq]
        refine ⟨n, rfl, ?_, fun j hj => ?_⟩
        · rw [List.getElem?_append_right (by omega), hl]; simp [hq]
        · rw [List.getElem?_eq_none (by simp; omega)]; simp
      · rw [if_neg hq]
        rcases ih (by omega) with ⟨h1, h2⟩ | ⟨i, h1, h2, h3⟩
        · left; exact ⟨h1, fun h => (List.mem_append.1 h).elim h2 fun h => hq (List.mem_singleton.1 h)⟩
        · right
          have hi : i < n := by have := (List.getElem?_eq_some_iff.1 h2).1; omega
          refine ⟨i, h1, by rw [List.getElem?_append_left (by omega)]; exact h2, fun j hj => ?_⟩
          by_cases hjn : j < n
          · rw [List.getElem?_append_left (by omega)]; exact h3 j hj
          · rw [List.getElem?_append_right (by omega), hl]
            by_cases e : j = n
            · subst e; simp; exact fun e => hq e.symm
            · rw [List.getElem?_eq_none (by simp; omega)]; simp
  have := key ks.length (Nat.le_refl _)
  rwa [List.take_length] at this
theorem lastB_iff {ks : List Ky} {k : Nat} {q : Ky} (h : ks[k]? = some q) : lastB ks k = true ↔ ∀ j, k < j → ks[j]? ≠ some q := by
  have hg : ks.getD k (0, 0) = q := by rw [List.getD, h]; rfl
  unfold lastB
  rw [hg, List.all_eq_true]
  constructor
  · intro hh j hj he
    have hm : q ∈ ks.drop (k + 1) := by
      refine List.mem_of_getElem? (i := j - (k + 1)) ?_
      rw [List.getElem?_drop, show k + 1 + (j - (k + 1)) = j by omega]; exact he
    have := hh q hm
    simp at this
  · intro hh x hx
    obtain ⟨i, hi⟩ := List.getElem?_of_mem hx
    rw [List.getElem?_drop] at hi
    have := hh (k + 1 + i) (by omega)
    rw [hi] at this
    simpa using this
theorem last_at {ks : List Ky} {k : Nat} {q : Ky} (h : ks[k]? = some q) : decide ((mget (lastM ks) q).getD 0 = (k : Int)) = lastB ks k := by
  rw [Bool.eq_iff_iff, lastB_iff h, decide_eq_true_iff]
  rcases lastM_get ks q with ⟨h1, h2⟩ | ⟨i, h1, h2, h3⟩
  · exact absurd (List.mem_of_getElem? h) h2
  · rw [h1, Option.getD_some]
    constructor
    · intro e j hj
      have : i = k := by omega
      subst this
      exact h3 j hj
    · intro hh
      rcases Nat.lt_trichotomy i k with e | e | e
      · exact absurd h (h3 k e)
      · rw [e]
      · exact absurd h2 (hh i e)

def keysOf (X : List Rv) : List Ky := X.map Rv.key
theorem keysOf_at {X : List Rv} {k : Nat} {x : Rv} (h : X[k]? = some x) : (keysOf X)[k]? = some x.key := by unfold keysOf; rw [List.getElem?_map, h]; rfl
/-- The records that count of the first ones. -/
def kept (X : List Rv) (p : Rv → Bool) : Nat → List Rv
  | 0 => []
  | k + 1 => kept X p k ++ (match X[k]? with | some x => if lastB (keysOf X) k && p x then [x] else [] | none => [])
theorem kept_yes {X : List Rv} {p : Rv → Bool} {k : Nat} {x : Rv} (h : X[k]? = some x) (hl : (lastB (keysOf X) k && p x) = true) : kept X p (k + 1) = kept X p k ++ [x] := by
  rw [kept, h]; simp only [hl]; rfl
theorem kept_no {X : List Rv} {p : Rv → Bool} {k : Nat} {x : Rv} (h : X[k]? = some x) (hl : (lastB (keysOf X) k && p x) = false) : kept X p (k + 1) = kept X p k := by
  rw [kept, h]; simp only [hl]; simp
theorem kept_mem {X : List Rv} {p : Rv → Bool} : ∀ {k : Nat} {x : Rv}, x ∈ kept X p k → ∃ i, i < k ∧ X[i]? = some x ∧ lastB (keysOf X) i = true ∧ p x = true
  | 0, x, h => (List.not_mem_nil h).elim
  | k + 1, x, h => by
    rw [kept, List.mem_append] at h
    rcases h with h | h
    · obtain ⟨i, hi, r⟩ := kept_mem h
      exact ⟨i, by omega, r⟩
    · cases hx : X[k]? with
      | none => rw [hx] at h; simp at h
      | some y =>
        rw [hx] at h
        simp only at h
        split at h
        · rename_i hc
          simp only [List.mem_singleton] at h
          subst h
          simp only [Bool.and_eq_true] at hc
          exact ⟨k, by omega, hx, hc.1, hc.2⟩
        · simp at h
theorem kept_has {X : List Rv} {p : Rv → Bool} : ∀ {k i : Nat} {x : Rv}, i < k → X[i]? = some x → lastB (keysOf X) i = true → p x = true → x ∈ kept X p k
  | 0, i, x, h, _, _, _ => by omega
  | k + 1, i, x, h, hx, h1, h2 => by
    rw [kept, List.mem_append]
    by_cases e : i = k
    · right; subst e; rw [hx]; simp [h1, h2]
    · left; exact kept_has (by omega) hx h1 h2
theorem kept_len {X : List Rv} {p : Rv → Bool} : ∀ k, (kept X p k).length ≤ k
  | 0 => Nat.le_refl _
  | k + 1 => by
    rw [kept, List.length_append]
    have := kept_len (X := X) (p := p) k
    split
    · split <;> simp <;> omega
    · simp; omega
theorem kept_filter (X : List Rv) (p : Rv → Bool) : ∀ k, kept X p k = (kept X (fun _ => true) k).filter p
  | 0 => rfl
  | k + 1 => by
    rw [kept, kept, List.filter_append, ← kept_filter X p k]
    congr 1
    cases hx : X[k]? with
    | none => rfl
    | some y =>
      simp only [Bool.and_true]
      cases lastB (keysOf X) k <;> cases hp : p y <;> simp [hp]
def allB (_ : Rv) : Bool := true
/-- The records of a view that count. -/
def known (X : List Rv) : List Rv := kept X allB X.length
/-- Is it a conflict? -/
def confB (i : Ky) (c : M.Cmd) (x : Rv) : Bool := !M.eq2 x.r.ir x.r.is i.1 i.2 && (decide (0 < x.r.st) && M.interB x.r.c c)
/-- The conflicts. -/
def confs (X : List Rv) (i : Ky) (c : M.Cmd) : List Rv := kept X (confB i c) X.length
theorem confs_filter (X : List Rv) (i : Ky) (c : M.Cmd) : confs X i c = (known X).filter (confB i c) := kept_filter X _ _
theorem known_mem {X : List Rv} {x : Rv} (h : x ∈ known X) : x ∈ X := by
  obtain ⟨i, _, hx, _⟩ := kept_mem h
  exact List.mem_of_getElem? hx
theorem confs_mem {X : List Rv} {i : Ky} {c : M.Cmd} {x : Rv} (h : x ∈ confs X i c) : x ∈ X := by
  obtain ⟨i, _, hx, _⟩ := kept_mem h
  exact List.mem_of_getElem? hx
theorem known_len (X : List Rv) : (known X).length ≤ X.length := kept_len _
theorem confs_len (X : List Rv) (i : Ky) (c : M.Cmd) : (confs X i c).length ≤ X.length := kept_len _

/-- What hangs on the records alone. -/
theorem kept_rcs {X Y : List Rv} {p : Rv → Bool} (hp : ∀ x y : Rv, x.r = y.r → p x = p y) (h : rcs X = rcs Y) : ∀ k, rcs (kept X p k) = rcs (kept Y p k)
  | 0 => rfl
  | k + 1 => by
    have hk : keysOf X = keysOf Y := by
      have e : ∀ Z : List Rv, keysOf Z = (rcs Z).map fun r => (r.ir, r.is) := fun Z => by unfold keysOf rcs; rw [List.map_map]; rfl
      rw [e, e, h]
    have ih := kept_rcs hp h k
    rw [kept, kept]
    unfold rcs at *
    rw [List.map_append, List.map_append, ih, hk]
    congr 1
    have h2 : (X[k]?).map Rv.r = (Y[k]?).map Rv.r := by rw [← List.getElem?_map, ← List.getElem?_map, h]
    cases hx : X[k]? with
    | none =>
      rw [hx] at h2
      cases hy : Y[k]? with
      | none => rfl
      | some y => rw [hy] at h2; cases h2
    | some x =>
      rw [hx] at h2
      cases hy : Y[k]? with
      | none => rw [hy] at h2; cases h2
      | some y =>
        rw [hy] at h2
        have hr : x.r = y.r := Option.some.inj h2
        simp only [hp x y hr]
        split
        · simp [hr]
        · rfl
theorem confB_r (i : Ky) (c : M.Cmd) (x y : Rv) (h : x.r = y.r) : confB i c x = confB i c y := by unfold confB; rw [h]
theorem known_rcs {X Y : List Rv} (h : rcs X = rcs Y) : rcs (known X) = rcs (known Y) := by
  unfold known
  rw [show X.length = Y.length by have := congrArg List.length h; rwa [rcs_len, rcs_len] at this]
  exact kept_rcs (fun _ _ _ => rfl) h _
theorem confs_rcs {X Y : List Rv} (i : Ky) (c : M.Cmd) (h : rcs X = rcs Y) : rcs (confs X i c) = rcs (confs Y i c) := by
  unfold confs
  rw [show X.length = Y.length by have := congrArg List.length h; rwa [rcs_len, rcs_len] at this]
  exact kept_rcs (confB_r i c) h _

/-- The Seq of what waits for a Seq. -/
def fol (n : Int) : Int := wrap64 (Dp.M.mn n 1099511627775 + 1)


/-- A Seq and deps behind one more conflict. -/
def seq1 (s : Int) (r : M.Rec) : Int := Dp.M.mx s (fol r.sq)
def dep1 (d : Nat → Int) (r : M.Rec) : Nat → Int := Dp.M.wit d r.ir r.is
def seqs (s : Int) (l : List M.Rec) : Int := l.foldl seq1 s
def depsL (d : Nat → Int) (l : List M.Rec) : Nat → Int := l.foldl dep1 d
theorem seqs_take {s : Int} {X : List Rv} {k : Nat} {x : Rv} (h : X[k]? = some x) : seqs s (rcs (X.take (k + 1))) = seq1 (seqs s (rcs (X.take k))) x.r := by
  rw [List.take_add_one, h]; simp [rcs, seqs, List.foldl_append]
theorem deps_take {d : Nat → Int} {X : List Rv} {k : Nat} {x : Rv} (h : X[k]? = some x) : depsL d (rcs (X.take (k + 1))) = dep1 (depsL d (rcs (X.take k))) x.r := by
  rw [List.take_add_one, h]; simp [rcs, depsL, List.foldl_append]
/-- What one has to wait for. -/
def atS (X : List Rv) (i : Ky) (c : M.Cmd) (s : Int) : Int := seqs s (rcs (confs X i c))
def atD (X : List Rv) (i : Ky) (c : M.Cmd) (d : Nat → Int) : Nat → Int := depsL d (rcs (confs X i c))

/-- The greatest slot of a replica. -/
def slot1 (p : Int) (n : Int) (r : M.Rec) : Int := if r.ir = p then Dp.M.mx n r.is else n
def slotsL (p : Int) (n : Int) (l : List M.Rec) : Int := l.foldl (slot1 p) n
def nextSlot (p : Int) (l : List M.Rec) : Int := Dp.M.mn (slotsL p 0 l) 1048576 + 1
theorem slots_take {p n : Int} {X : List Rv} {k : Nat} {x : Rv} (h : X[k]? = some x) : slotsL p n (rcs (X.take (k + 1))) = slot1 p (slotsL p n (rcs (X.take k))) x.r := by
  rw [List.take_add_one, h]; simp [rcs, slotsL, List.foldl_append]
end Go.Proofs.YtpknkhgkejkpkaaGreat
