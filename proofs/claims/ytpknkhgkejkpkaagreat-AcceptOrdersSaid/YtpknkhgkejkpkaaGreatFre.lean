/- A store into a new block, whatever the world is then; what reads on behind a store; a value built in a region that draws its order; no conditions but those that each theorem names. -/
import Derived.Test.YtpknkhgkejkpkaaGreatAcc
import Derived.Deep.MidRow
namespace Go.Proofs.YtpknkhgkejkpkaaGreat
open Go.ChangeShapes Go.WideShapes Go.ChangeAt Go.RowKit

theorem store_freshA {P : Program} {ops : Array Oper} {rest : List Oper} {op : Oper} {a : Act} {w : World} {Q : Exit → Act → World → Prop} (hgd : op.guard = none) (ty : TypeId) (x y : Operand) (ho : op.op = .store ty x y)
    (b : Nat) (hb : b = w.heap.size) (t : TypeId) (Z L : List Value) (hx : a.eval x = .pointer (some ⟨b, 0, none⟩)) (hy : a.eval y = .agg L.toArray)
    (hl : Z.length = L.length) (hi : (P.info? ty).map (·.size) = some L.length) (h1 : L.all (·.oneCell') = true)
    (h : ∀ w', Hold w' b t L → Below w.heap.size w w' → wpList P ops Q rest (a.put op.dst undef) w') : wpList P ops Q (op :: rest) a (w.alloc (.cells Z.toArray t)) :=
  wpList_store_fresh hgd ty x y ho b hb t Z L hx hy hl hi h1 (h _ (by rw [hb]; exact Hold.new w L t) (below_new (Below.refl _ _)))
def notStr : Value → Bool
  | .string _ => false
  | _ => true
theorem rowN_wrote {k n b : Nat} {t : TypeId} {w w' : World} {v : Value} {xs L : List Value} (h : RowN k w v n xs) (hs : ∀ x, xs[0]? = some x → notStr x = false) (he : 0 < n → 0 < xs.length) (H : Hold w b t L) (K : Wrote b w w') (hL : L.all notStr = true) : RowN k w' v n xs := by
  obtain ⟨hl, A, c, e, hc, hy⟩ := h
  refine ⟨hl, A, c, e, hc, fun hp => ?_⟩
  obtain ⟨b', o, e1, hb, hz⟩ := hy hp
  have hne : b' ≠ b := by
    rintro rfl
    obtain ⟨x, hx⟩ : ∃ x, xs[0]? = some x := ⟨_, List.getElem?_eq_getElem (he hp)⟩
    have h1 := hz 0 x hx
    unfold Hold at H
    simp only [World.cell?, H, Option.isSome_none, Bool.false_eq_true, if_false, Nat.add_zero] at h1
    have h2 : x ∈ L := by
      have : L.toArray[o]? = some x := by simpa using h1
      rw [List.getElem?_toArray] at this
      exact List.mem_of_getElem? this
    have := List.all_eq_true.1 hL x h2
    rw [hs x hx] at this
    cases this
  exact ⟨b', o, e1, by rw [K.size]; exact hb, fun k x hx => (World.cell?_of_block (a := ⟨b', o + k, none⟩) (K.block b' hb hne)).trans (hz k x hx)⟩
theorem Txt.wrote {w w' : World} {x : Rv} {b : Nat} {t : TypeId} {L : List Value} (h : Txt w x) (H : Hold w b t L) (K : Wrote b w w') (hL : L.all notStr = true := by rfl) : Txt w' x := by
  refine ⟨rowN_wrote h.rs ?_ ?_ H K hL, rowN_wrote h.ws ?_ ?_ H K hL⟩
  · intro y hy
    cases hl : x.r.c.rs with
    | nil => rw [hl] at hy; cases hy
    | cons a l => rw [hl] at hy; cases hy; rfl
  · intro hp
    rw [h.rs.1]; omega
  · intro y hy
    cases hl : x.r.c.ws with
    | nil => rw [hl] at hy; cases hy
    | cons a l => rw [hl] at hy; cases hy; rfl
  · intro hp
    rw [h.ws.1]; omega
theorem yieldsIf_build {P : Program} {ops : Array Oper} {S : World → Prop} {op : Oper} {a : Act} (hw : Region.wanted op (yielded ops a.tmps) = true) (t : TypeId) (parts : Array (Nat × Operand)) (ho : op.op = .build t parts)
    (cells : Array Value) (hf : P.built t (parts.map fun (i, x) => (i, a.eval x)).toList = some cells) : YieldsIf P ops S op (.agg cells) a :=
  .inl ⟨hw, fun w _ => by
    unfold execOp
    simp only [ho, Sem.run_bind, run_build w t _ cells hf, Result.andThen_ok]
    rfl⟩
end Go.Proofs.YtpknkhgkejkpkaaGreat
