/- A row of writes of one's own whose values are written over; what a step of both leaves; no conditions but those that they name. -/
import Derived.Test.YtnahboflpipfpaaDta
namespace Go.Proofs.Ytnahboflpipfpaa
open Go.ChangeShapes Go.WideShapes Go.ChangeAt Go.RowKit

/-- Each value from i on is a short text that may be written over. -/
def SoftN (w : World) (g i n : Nat) : Prop := ∀ k, i ≤ k → k < n → ∃ s : ByteArray, w.cell? ⟨g, k * 2 + 1, none⟩ = some (.string s) ∧ s.size ≤ 1000 ∧ w.frozen? ⟨g, k * 2 + 1, none⟩ = false
theorem SoftN.step {w : World} {g i n : Nat} (h : SoftN w g i n) (v : Value) : SoftN (w.setCell ⟨g, i * 2 + 1, none⟩ v) g (i + 1) n := fun k hk hn => by
  obtain ⟨s, h1, h2, h3⟩ := h k (by omega) hn
  refine ⟨s, ?_, h2, ?_⟩
  · rw [World.cell?_setCell_other _ _ _ _ (fun e => by
      injection e with _ e
      omega)]; exact h1
  · rw [World.frozen?_setCell]; exact h3
/-- A row of one's own of writes, from the i-th on. -/
def Loose (w : World) (A : Option Addr) (i n : Nat) : Prop := 0 < n → ∃ g, A = some ⟨g, 0, none⟩ ∧ SoftN w g i n
theorem loose_wrs {w : World} {base n c : Nat} {A : Option Addr} {l : List (List UInt8 × List UInt8)} (h : w.ownsRow base 76 2 (.slice A n c) n (wrsC l)) (hn : n = l.length) (hs : ∀ r ∈ l, r.2.length ≤ 1000) : Loose w A 0 n := fun h0 => by
  rcases h.2 with ⟨e, _⟩ | ⟨g, cap, cur, e, hb, hg, _⟩
  · cases e; omega
  · cases e
    refine ⟨g, rfl, fun k _ hk => ?_⟩
    refine ⟨⟨(l.getD k wr0).2.toArray⟩, ?_, ?_, h.frozenAt _⟩
    · rw [h.cellAt _ (by omega), wrsC_at l k 1 (by omega) (by omega)]; rfl
    · rw [size_mk]
      rw [List.getD, List.getElem?_eq_getElem (by omega)]
      exact hs _ (List.getElem_mem _)
theorem Loose.step {w : World} {g i n : Nat} (h : Loose w (some ⟨g, 0, none⟩) i n) (v : Value) : Loose (w.setCell ⟨g, i * 2 + 1, none⟩ v) (some ⟨g, 0, none⟩) (i + 1) n := fun h0 => by
  obtain ⟨g', e, h3⟩ := h h0
  cases e
  exact ⟨g, rfl, h3.step v⟩
theorem mod_vals {c : M.Cmd} (K : M.Mod c) : ∀ r ∈ c.ws, r.2.length ≤ 1000 := fun r hr => by
  have := K.wv r hr
  omega
/-- The block of a slice. -/
def blk (A : Option Addr) (n c : Nat) (y : Nat) : Prop := (Value.slice A n c).ownBlock = some y
/-- What a step leaves of what both share. -/
def stepS (d : Dv) (s : St) : St := if d.vb = 0 then s.send d.x.m else if d.vb = 2 then s.take d.k else if d.vb = 3 then s.lose d.k else if d.vb = 4 then s.twice d.k else s
def Dsr (g : Nat) (F : Nat → Prop) (s' : St) (w : World) (e : Ending) (w' : World) : Prop := ∃ v', e = .returned (.tuple #[.agg (dnL s' v').toArray, .bool true]) ∧ Nt w' g F s' ∧ Dv0 (Or1 g F) w' v' s' ∧ Keeps (only g) w w'
theorem stepS_ok {s : St} {n : Int} (h : s.OkN n) {d : Dv} (K : M.Mod d.x.m.r.c) : (stepS d s).OkN (n + 1) := by
  unfold stepS
  split
  · exact h.send K
  · split
    · exact h.take _
    · split
      · exact h.lose _
      · split
        · exact h.twice _
        · exact h.up (by omega)
theorem stepS_room (d : Dv) (s : St) : (stepS d s).room = s.room := by
  unfold stepS
  split
  · exact St.send_room _ _
  · split
    · exact St.take_room _ _
    · split
      · exact St.lose_room _ _
      · split
        · exact St.twice_room _ _
        · rfl
/-- Boxes of one's own: the net and the document's stand beside them. -/
theorem Nt.boxed {w W : World} {g : Nat} {F : Nat → Prop} {s : St} (n : Nat) (h : Nt w g F s) (b : Below w.heap.size w W) (hn : w.heap.size + n ≤ W.heap.size) : Nt W g (Fb F w.heap.size n) s := by
  have hl := h.ltall
  exact h.step (K := fun _ => False) (Keeps.of_below b) (fun _ e => e.elim) (fun x e => e.imp id (fun q => q.1)) (fun x e => e.elim (fun f => Nat.lt_of_lt_of_le (hl x (.inr f)) b.size) (fun f => Nat.lt_of_lt_of_le f.2 hn))
theorem Nt.unbox {w : World} {g B n : Nat} {F : Nat → Prop} {s : St} (h : Nt w g (Fb F B n) s) : Nt w g F s := h.sub (fun _ e => .inl e)
theorem Nt.keep {w W : World} {g B n : Nat} {F K : Nat → Prop} {s : St} (h : Nt w g (Fb F B n) s) (k : Keeps K w W) (hK : ∀ x, K x → B ≤ x ∧ x < B + n) : Nt W g (Fb F B n) s :=
  h.step k (fun x e => .inr (hK x e)) (fun _ e => .inl e) (fun x e => Nat.lt_of_lt_of_le (h.ltall x (.inr e)) k.size)
end Go.Proofs.Ytnahboflpipfpaa
