/- What one has to wait for: plain facts; no conditions but those that they name. -/
import Derived.Test.YtpknkhgkejkpkaaGreatPx

namespace Go.Proofs.YtpknkhgkejkpkaaGreat
open Go.RowKit

theorem mx_le (a b : Int) : a ≤ Dp.M.mx a b ∧ b ≤ Dp.M.mx a b := by unfold Dp.M.mx; split <;> constructor <;> omega
theorem mx_id {a b : Int} (h : b ≤ a) : Dp.M.mx a b = a := by unfold Dp.M.mx; rw [if_neg (by omega)]
theorem seqs_ge : ∀ (l : List M.Rec) (s : Int), s ≤ seqs s l ∧ ∀ r ∈ l, fol r.sq ≤ seqs s l
  | [], s => ⟨Int.le_refl s, fun _ h => (List.not_mem_nil h).elim⟩
  | r :: l, s => by
    obtain ⟨h1, h2⟩ := seqs_ge l (seq1 s r)
    obtain ⟨h3, h4⟩ := mx_le s (fol r.sq)
    refine ⟨Int.le_trans h3 h1, fun q hq => ?_⟩
    rcases List.mem_cons.1 hq with rfl | hq
    · exact Int.le_trans h4 h1
    · exact h2 q hq
theorem seqs_stay : ∀ (l : List M.Rec) (s : Int), (∀ r ∈ l, fol r.sq ≤ s) → seqs s l = s
  | [], _, _ => rfl
  | r :: l, s, h => by
    have e : seq1 s r = s := mx_id (h r List.mem_cons_self)
    show seqs (seq1 s r) l = s
    rw [e]
    exact seqs_stay l s fun q hq => h q (List.mem_cons_of_mem _ hq)
theorem seqs_again (l : List M.Rec) (s : Int) : seqs (seqs s l) l = seqs s l := seqs_stay l _ (seqs_ge l s).2
theorem seqs_more (l l' : List M.Rec) (s : Int) : seqs s l ≤ seqs s (l ++ l') := by
  unfold seqs
  rw [List.foldl_append]
  exact (seqs_ge l' (List.foldl seq1 s l)).1
theorem dep1_ge (d : Nat → Int) (r : M.Rec) (k : Nat) : d k ≤ dep1 d r k := by
  unfold dep1 Dp.M.wit
  split
  · exact (mx_le _ _).1
  · exact Int.le_refl _
theorem dep1_has {d : Nat → Int} {r : M.Rec} {k : Nat} (h : r.ir = k) : r.is ≤ dep1 d r k := by
  unfold dep1 Dp.M.wit
  rw [if_pos h]
  exact (mx_le _ _).2
theorem deps_ge : ∀ (l : List M.Rec) (d : Nat → Int), (∀ k, d k ≤ depsL d l k) ∧ ∀ r ∈ l, ∀ k : Nat, r.ir = k → r.is ≤ depsL d l k
  | [], d => ⟨fun k => Int.le_refl _, fun _ h => (List.not_mem_nil h).elim⟩
  | r :: l, d => by
    obtain ⟨h1, h2⟩ := deps_ge l (dep1 d r)
    refine ⟨fun k => Int.le_trans (dep1_ge d r k) (h1 k), fun q hq k e => ?_⟩
    rcases List.mem_cons.1 hq with rfl | hq
    · exact Int.le_trans (dep1_has e) (h1 k)
    · exact h2 q hq k e
theorem deps_stay : ∀ (l : List M.Rec) (d : Nat → Int), (∀ r ∈ l, ∀ k : Nat, r.ir = k → r.is ≤ d k) → depsL d l = d
  | [], _, _ => rfl
  | r :: l, d, h => by
    have e : dep1 d r = d := by
      funext k
      unfold dep1 Dp.M.wit
      split
      · rename_i e; exact mx_id (h r List.mem_cons_self k e)
      · rfl
    show depsL (dep1 d r) l = d
    rw [e]
    exact deps_stay l d fun q hq => h q (List.mem_cons_of_mem _ hq)
theorem deps_again (l : List M.Rec) (d : Nat → Int) : depsL (depsL d l) l = depsL d l := deps_stay l _ (deps_ge l d).2
theorem deps_more (l l' : List M.Rec) (d : Nat → Int) : ∀ k, depsL d l k ≤ depsL d (l ++ l') k := by
  intro k
  unfold depsL
  rw [List.foldl_append]
  exact (deps_ge l' (List.foldl dep1 d l)).1 k

theorem atS_ge (X : List Rv) (i : Ky) (c : M.Cmd) (s : Int) : s ≤ atS X i c s := (seqs_ge _ s).1
theorem atS_again (X : List Rv) (i : Ky) (c : M.Cmd) (s : Int) : atS X i c (atS X i c s) = atS X i c s := seqs_again _ s
theorem atD_again (X : List Rv) (i : Ky) (c : M.Cmd) (d : Nat → Int) : atD X i c (atD X i c d) = atD X i c d := deps_again _ d
theorem atD_over (X : List Rv) (i : Ky) (c : M.Cmd) (d : Nat → Int) : Dp.M.over (atD X i c d) d = true := Dp.M.over_iff.2 fun k _ => (deps_ge _ d).1 k

/-- One more of another instance. -/
theorem lastB_snoc {ks : List Ky} {q : Ky} (hq : q ∉ ks) {k : Nat} (hk : k < ks.length) : lastB (ks ++ [q]) k = lastB ks k := by
  obtain ⟨z, hz⟩ : ∃ z, ks[k]? = some z := ⟨_, List.getElem?_eq_getElem hk⟩
  have hz' : (ks ++ [q])[k]? = some z := by rw [List.getElem?_append_left hk]; exact hz
  have hzq : q ≠ z := fun e => hq (e ▸ List.mem_of_getElem? hz)
  rw [Bool.eq_iff_iff, lastB_iff hz, lastB_iff hz']
  constructor
  · intro h j hj
    by_cases hl : j < ks.length
    · have := h j hj
      rwa [List.getElem?_append_left hl] at this
    · rw [List.getElem?_eq_none (by omega)]; simp
  · intro h j hj
    by_cases hl : j < ks.length
    · rw [List.getElem?_append_left hl]; exact h j hj
    · rw [List.getElem?_append_right (by omega)]
      by_cases e : j = ks.length
      · subst e; simp [hzq]
      · rw [List.getElem?_eq_none (by simp; omega)]; simp
theorem lastB_end (ks : List Ky) (q : Ky) : lastB (ks ++ [q]) ks.length = true := by
  rw [lastB_iff (q := q) (by simp)]
  intro j hj
  rw [List.getElem?_eq_none (by simp; omega)]; simp
theorem keysOf_snoc (X : List Rv) (x : Rv) : keysOf (X ++ [x]) = keysOf X ++ [x.key] := by unfold keysOf; simp
theorem kept_snoc {X : List Rv} {x : Rv} (p : Rv → Bool) (h : x.key ∉ keysOf X) : ∀ k, k ≤ X.length → kept (X ++ [x]) p k = kept X p k
  | 0, _ => rfl
  | k + 1, hk => by
    rw [kept, kept, kept_snoc p h k (by omega), keysOf_snoc, lastB_snoc h (by unfold keysOf; simp; omega), List.getElem?_append_left (by omega)]
theorem confs_snoc {X : List Rv} {x : Rv} (i : Ky) (c : M.Cmd) (h : x.key ∉ keysOf X) : confs (X ++ [x]) i c = confs X i c ++ (if confB i c x then [x] else []) := by
  unfold confs
  rw [List.length_append, List.length_singleton, kept, kept_snoc _ h _ (Nat.le_refl _)]
  have e : (X ++ [x])[X.length]? = some x := by simp
  rw [e]
  have l : lastB (keysOf (X ++ [x])) X.length = true := by
    rw [keysOf_snoc]
    have := lastB_end (keysOf X) x.key
    rwa [show (keysOf X).length = X.length by unfold keysOf; simp] at this
  simp only [l, Bool.true_and]
theorem atS_more {X : List Rv} {x : Rv} (i : Ky) (c : M.Cmd) (s : Int) (h : x.key ∉ keysOf X) : atS X i c s ≤ atS (X ++ [x]) i c s := by
  unfold atS
  rw [confs_snoc i c h]
  unfold rcs
  rw [List.map_append]
  exact seqs_more _ _ _
theorem atD_more {X : List Rv} {x : Rv} (i : Ky) (c : M.Cmd) (d : Nat → Int) (h : x.key ∉ keysOf X) : Dp.M.over (atD (X ++ [x]) i c d) (atD X i c d) = true := by
  refine Dp.M.over_iff.2 fun k _ => ?_
  unfold atD
  rw [confs_snoc i c h]
  unfold rcs
  rw [List.map_append]
  exact deps_more _ _ _ k
theorem inter_no {a b : M.Cmd} (h : a.k = 0 ∨ b.k = 0) : M.interB a b = false := by
  unfold M.interB
  rcases h with h | h
  · rw [if_pos h]
  · by_cases e : a.k = 0
    · rw [if_pos e]
    · rw [if_neg e, if_pos h]
theorem confs_noop (X : List Rv) (i : Ky) (c : M.Cmd) (h : c.k = 0) : confs X i c = [] := by
  rw [confs_filter]
  refine List.filter_eq_nil_iff.2 fun x _ => ?_
  unfold confB
  rw [inter_no (.inr h), Bool.and_false, Bool.and_false]
  simp
theorem at_noop (X : List Rv) (i : Ky) (c : M.Cmd) (h : c.k = 0) (s : Int) (d : Nat → Int) : atS X i c s = s ∧ atD X i c d = d := by
  unfold atS atD
  rw [confs_noop X i c h]
  exact ⟨rfl, rfl⟩
theorem at_more_noop {X : List Rv} {x : Rv} (i : Ky) (c : M.Cmd) (s : Int) (d : Nat → Int) (h : x.key ∉ keysOf X) (hk : x.r.c.k = 0) : atS (X ++ [x]) i c s = atS X i c s ∧ atD (X ++ [x]) i c d = atD X i c d := by
  have e : confB i c x = false := by unfold confB; rw [inter_no (.inl hk), Bool.and_false, Bool.and_false]
  unfold atS atD
  rw [confs_snoc i c h, e]
  simp
/-- What is ordered. -/
theorem at_has {X : List Rv} {x : Rv} {k : Nat} (i : Ky) (c : M.Cmd) (d : Nat → Int) (hx : X[k]? = some x) (hl : lastB (keysOf X) k = true) (hc : confB i c x = true) (hr0 : 0 ≤ x.r.ir) (hr6 : x.r.ir ≤ 6) (hs : 1 ≤ x.r.is) : Dp.M.has (atD X i c d) x.r.ir x.r.is = true := by
  have hm : x ∈ confs X i c := kept_has (List.getElem?_eq_some_iff.1 hx).1 hx hl hc
  obtain ⟨q, hq⟩ := Int.eq_ofNat_of_zero_le hr0
  refine Dp.M.has_iff.2 ⟨⟨hr0, hr6⟩, hs, ?_⟩
  have := (deps_ge (rcs (confs X i c)) d).2 x.r (List.mem_map.2 ⟨x, hm, rfl⟩) q hq
  rw [hq]
  exact this
theorem at_above {X : List Rv} {x : Rv} {k : Nat} (i : Ky) (c : M.Cmd) (s : Int) (hx : X[k]? = some x) (hl : lastB (keysOf X) k = true) (hc : confB i c x = true) (h0 : -9223372036854775808 ≤ x.r.sq) (h1 : x.r.sq < 1099511627776) : x.r.sq < atS X i c s := by
  have hm : x ∈ confs X i c := kept_has (List.getElem?_eq_some_iff.1 hx).1 hx hl hc
  have := (seqs_ge (rcs (confs X i c)) s).2 x.r (List.mem_map.2 ⟨x, hm, rfl⟩)
  have e : fol x.r.sq = x.r.sq + 1 := by
    unfold fol Dp.M.mn
    rw [if_neg (by omega)]
    unfold wrap64
    omega
  unfold atS
  omega
end Go.Proofs.YtpknkhgkejkpkaaGreat
