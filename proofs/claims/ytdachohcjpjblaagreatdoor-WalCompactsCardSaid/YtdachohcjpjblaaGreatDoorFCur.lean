/- What a log's rows are of: where each record's frame ends, which record counts of each instance; plain facts, no conditions but those that each theorem names. -/
import Derived.Test.YtdachohcjpjblaaGreatDoorFCol
set_option maxHeartbeats 8000000
set_option maxRecDepth 100000
namespace Go.Proofs.YtdachohcjpjblaaGreatDoor
open Go.ChangeShapes Go.WideShapes Go.ChangeAt Go.RowKit
open Di (Keeps In)
open Wi (Hold)
namespace K
def ends (A : List Rec) : List Int := (List.range A.length).map fun k => ((fb (A.take (k + 1))).length : Int)
theorem ends_len (A : List Rec) : (ends A).length = A.length := by simp [ends]
theorem ends_snoc (A : List Rec) (r : Rec) : ends (A ++ [r]) = ends A ++ [((fb A).length : Int) + len r] := by
 unfold ends
 rw [List.length_append, List.length_singleton, List.range_succ, List.map_append, List.map_singleton]
 congr 1
 ·refine List.map_congr_left fun k hk => ?_
  rw [List.take_append_of_le_length (by have := List.mem_range.1 hk; omega)]
 ·have : (A ++ [r]).take (A.length + 1) = A ++ [r] := List.take_of_length_le (by simp)
  rw [this, fb_append, List.length_append, fb_len_cons, fb_nil]; simp
theorem ends_get {A : List Rec} {k : Nat} (h : k < A.length) : (ends A)[k]? = some ((fb (A.take (k + 1))).length : Int) := by
 unfold ends
 rw [List.getElem?_map, List.getElem?_range h]; rfl
theorem fb_take_le (A : List Rec) (k : Nat) : (fb (A.take k)).length ≤ (fb A).length := by
 have : fb A = fb (A.take k) ++ fb (A.drop k) := by rw [← fb_append, List.take_append_drop]
 rw [this, List.length_append]; omega
end K
def rcs (X : List Rv) : List K.Rec := X.map (·.r)
theorem rcs_len (X : List Rv) : (rcs X).length = X.length := by simp [rcs]
theorem rcs_snoc (X : List Rv) (x : Rv) : rcs (X ++ [x]) = rcs X ++ [x.r] := by simp [rcs]
theorem rcs_nil : rcs [] = [] := rfl
def cur (X : List Rv) : List (Ky × Rv) := X.foldl (fun m x => mput m x.key x) []
theorem cur_nil : cur [] = [] := rfl
theorem cur_snoc (X : List Rv) (x : Rv) : cur (X ++ [x]) = mput (cur X) x.key x := by unfold cur; rw [List.foldl_append]; rfl
theorem mput_mem {m : List (Ky × Rv)} {k : Ky} {x : Rv} : ∀ {p : Ky × Rv}, p ∈ mput m k x → p ∈ m ∨ p = (k, x) := by
 induction m with
 | nil => intro p hp; exact .inr (List.mem_singleton.1 hp)
 | cons q m ih =>
   intro p hp
   unfold mput at hp
   split at hp
   ·rcases List.mem_cons.1 hp with e | e
    ·exact .inr e
    ·exact .inl (List.mem_cons.2 (.inr e))
   ·rcases List.mem_cons.1 hp with e | e
    ·exact .inl (List.mem_cons.2 (.inl e))
    ·exact (ih e).imp (fun e => List.mem_cons.2 (.inr e)) id
theorem snoc_ind {α : Type} {P : List α → Prop} (h0 : P []) (h1 : ∀ l x, P l → P (l ++ [x])) (l : List α) : P l := by
 have : ∀ l : List α, P l.reverse := by
  intro l
  induction l with
  | nil => exact h0
  | cons a l ih => rw [List.reverse_cons]; exact h1 _ _ ih
 have := this l.reverse
 rwa [List.reverse_reverse] at this
theorem cur_mem (X : List Rv) : ∀ p ∈ cur X, p.2 ∈ X ∧ p.1 = p.2.key := by
 refine snoc_ind (P := fun X => ∀ p ∈ cur X, p.2 ∈ X ∧ p.1 = p.2.key) (fun p h => by cases h) (fun l x ih p h => ?_) X
 rw [cur_snoc] at h
 rcases mput_mem h with h | rfl
 ·exact ⟨List.mem_append_left _ (ih p h).1, (ih p h).2⟩
 ·exact ⟨by simp, rfl⟩
theorem mget_mput (m : List (Ky × Rv)) (k k' : Ky) (x : Rv) : mget (mput m k x) k' = if k' = k then some x else mget m k' := by
 induction m with
 | nil => simp only [mput, mget]
 | cons p m ih =>
   unfold mput
   by_cases h : k = p.1
   ·rw [if_pos h]
    simp only [mget]
    by_cases h2 : k' = k
    ·rw [if_pos h2, if_pos h2]
    ·rw [if_neg h2, if_neg h2, if_neg (by rw [← h]; exact h2)]
   ·rw [if_neg h]
    simp only [mget]
    by_cases h2 : k' = p.1
    ·rw [if_pos h2, if_pos h2, if_neg (fun e => h (by rw [← e, h2]))]
    ·rw [if_neg h2, if_neg h2, ih]
def lastX (X : List Rv) (k : Ky) : Option Rv := X.reverse.find? fun x => decide (k = x.key)
theorem lastX_snoc (X : List Rv) (x : Rv) (k : Ky) : lastX (X ++ [x]) k = if k = x.key then some x else lastX X k := by
 unfold lastX
 rw [List.reverse_append, List.reverse_singleton, List.singleton_append, List.find?_cons]
 by_cases h : k = x.key <;> simp [h]
theorem mget_cur (X : List Rv) (k : Ky) : mget (cur X) k = lastX X k := by
 refine snoc_ind (P := fun X => mget (cur X) k = lastX X k) rfl (fun l x ih => ?_) X
 rw [cur_snoc, mget_mput, ih, lastX_snoc]
theorem lastX_mem {X : List Rv} {k : Ky} {x : Rv} (h : lastX X k = some x) : x ∈ X ∧ x.key = k := by
 refine ⟨List.mem_reverse.1 (List.mem_of_find?_eq_some h), ?_⟩
 have := List.find?_some h
 exact (of_decide_eq_true this).symm
def Cts (w : World) (gc : Nat) (F : Nat → Prop) (X : List Rv) (rest : Int) (fr vr ve : Value) (gm : Nat) : Prop := Ct w gc F X (K.ends (rcs X)) (cur X) rest fr vr ve gm
structure Cb (w : World) (gc : Nat) (F : Nat → Prop) (X : List Rv) (rest : Int) (fr vr ve : Value) (gm be bc : Nat) : Prop where
 ct : Cts w gc F X rest fr vr ve gm
 box : Hold w be 3 [.int .i64 ((K.fb (rcs X)).length : Int)]
 fbe : F be
 nv : ∀ b, ve.ownBlock = some b → ¬ b = be
 own : Hold w bc 83 [.pointer (some ⟨gc, 0, none⟩)]
 nbc : ¬ F bc
 lbc : bc < w.heap.size
theorem Cts.below {w w' : World} {gc : Nat} {F : Nat → Prop} {X : List Rv} {rest : Int} {fr vr ve : Value} {gm : Nat} (h : Cts w gc F X rest fr vr ve gm) (k : Below w.heap.size w w') : Cts w' gc F X rest fr vr ve gm := Ct.below h k
theorem Cb.below {w w' : World} {gc : Nat} {F : Nat → Prop} {X : List Rv} {rest : Int} {fr vr ve : Value} {gm be bc : Nat} (h : Cb w gc F X rest fr vr ve gm be bc) (k : Below w.heap.size w w') : Cb w' gc F X rest fr vr ve gm be bc :=
 ⟨h.ct.below k, h.box.on k, h.fbe, h.nv, h.own.on k, h.nbc, Nat.lt_of_lt_of_le h.lbc k.size⟩
theorem cb_col {w : World} {gc : Nat} {F : Nat → Prop} {X : List Rv} {rest : Int} {fr vr ve : Value} {gm be bc : Nat} (h : Cb w gc F X rest fr vr ve gm be bc) (x : Rv) (hx : Tx w F x) (he : (K.fb (rcs X)).length ≤ 1000000) (hl : X.length ≤ 400000) :
 Calls Tryz.prog 76 #[.agg x.cells.toArray,.int .i64 (K.len x.r : Nat),.pointer (some ⟨be, 0, none⟩),.pointer (some ⟨bc, 0, none⟩)] w fun e' w' => e' = .returned (.tuple #[]) ∧ ∃ F' vr' ve',
  Cb w' gc F' (X ++ [x]) rest fr vr' ve' gm be bc ∧ (∀ y, F y → F' y) ∧ Keeps F w w' ∧ Di.Grew F F' w w' := by
 have hlen : K.len x.r ≤ 808 := by have := (K.enc_len hx.rg).2; unfold K.len; omega
 refine (col_any h.ct h.box h.fbe h.nv h.own h.nbc x hx (by omega) (by omega) (by omega) (by rw [K.ends_len, rcs_len]; omega)).mono ?_
 rintro e w' ⟨rfl, F', vr', ve', c, b, s, n, k, g⟩
 refine ⟨rfl, F', vr', ve', ⟨?_, ?_, s _ h.fbe, n, hold_keeps h.own k h.nbc, fun f => (g.1 _ f).elim h.nbc (fun e => by have := h.lbc; omega), Nat.lt_of_lt_of_le h.lbc k.size⟩, s, k, g⟩
 ·unfold Cts
  rw [rcs_snoc, K.ends_snoc, cur_snoc]
  exact c
 ·rw [rcs_snoc, K.fb_append, List.length_append, K.fb_len_cons, K.fb_nil]
  simpa using b
end Go.Proofs.YtdachohcjpjblaaGreatDoor
