/- A reader in memory; contracts of one, fail, upTo; no conditions but those that they name. -/
import Derived.Test.YtagngbdlpdilnaaDecB
import Derived.Test.YtagngbdlpdilnaaApart
namespace Go.Proofs.Ytagngbdlpdilnaa
open Go.ChangeShapes Go.WideShapes Go.ChangeAt Go.RowKit

/-- Below block number B all is as it was, but for block g. -/
structure Bel (g B : Nat) (w w' : World) : Prop where
  os : w'.os = w.os
  tape : w'.tape = w.tape
  output : w'.output = w.output
  size : w.heap.size ≤ w'.heap.size
  block : ∀ k, k < B → k ≠ g → w'.heap[k]? = w.heap[k]?
theorem Bel.refl (g B : Nat) (w : World) : Bel g B w w := ⟨rfl, rfl, rfl, Nat.le_refl _, fun _ _ _ => rfl⟩
theorem Bel.of {g B : Nat} {w w' : World} (h : Below B w w') : Bel g B w w' := ⟨h.os, h.tape, h.output, h.size, fun k hk _ => h.block k hk⟩
theorem Bel.below {g B : Nat} {w w' : World} (h : Bel g B w w') (hg : B ≤ g) : Below B w w' := ⟨h.os, h.tape, h.output, h.size, fun k hk => h.block k hk (by omega)⟩
theorem Bel.mono {g B B' : Nat} {w w' : World} (h : Bel g B w w') (hB : B' ≤ B) : Bel g B' w w' := ⟨h.os, h.tape, h.output, h.size, fun k hk => h.block k (by omega)⟩
/-- One more step, which writes into g or into what is new. -/
theorem Bel.on {g b B : Nat} {a w w' : World} (h : Bel g B a w) (k : Bel b w.heap.size w w') (hb : b = g ∨ B ≤ b) (hB : B ≤ w.heap.size) : Bel g B a w' :=
  ⟨k.os.trans h.os, k.tape.trans h.tape, k.output.trans h.output, Nat.le_trans h.size k.size, fun i hi hg => (k.block i (by omega) (by omega)).trans (h.block i hi hg)⟩
theorem Bel.trans {g B : Nat} {a w w' : World} (h : Bel g B a w) (k : Bel g w.heap.size w w') (hB : B ≤ w.heap.size) : Bel g B a w' := h.on k (.inl rfl) hB
theorem Bel.alloc {g B : Nat} {a w : World} (h : Bel g B a w) (hB : B ≤ w.heap.size) (o : Obj) : Bel g B a (w.alloc o) :=
  h.trans (.of (Below.refl _ _ |>.alloc (Nat.le_refl _) o)) hB
theorem Bel.drew {g B : Nat} {a w : World} (h : Bel g B a w) : Bel g B a w.drew := ⟨h.os, h.tape, h.output, h.size, h.block⟩
theorem Bel.store (w : World) (g o : Nat) (v : Value) : Bel g w.heap.size w (w.setCell ⟨g, o, none⟩ v) :=
  ⟨rfl, rfl, rfl, by simp [World.setCell], fun k _ hk => Below.heap_setCell _ _ _ _ hk⟩

theorem Hold.lt {w : World} {b : Nat} {t : TypeId} {L : List Value} (h : Hold w b t L) : b < w.heap.size := (Array.getElem?_eq_some_iff.1 h).1
theorem Hold.bel {w w' : World} {b g : Nat} {t : TypeId} {L : List Value} (h : Hold w b t L) (k : Bel g w.heap.size w w') (hb : b ≠ g) : Hold w' b t L := (k.block b h.lt hb).trans h
theorem Hold.alloc {w : World} {b : Nat} {t : TypeId} {L : List Value} (h : Hold w b t L) (o : Obj) : Hold (w.alloc o) b t L := h.on (below_new (Below.refl _ _))
theorem Hold.drew {w : World} {b : Nat} {t : TypeId} {L : List Value} (h : Hold w b t L) : Hold w.drew b t L := h
theorem Hold.cell {w : World} {b : Nat} {t : TypeId} {L : List Value} (h : Hold w b t L) (o : Nat) {v : Value} (hv : L[o]? = some v) : w.cell? ⟨b, o, none⟩ = some v := h.cel.get o v hv
theorem Hold.soft {w : World} {b : Nat} {t : TypeId} {L : List Value} (h : Hold w b t L) (o : Nat) : w.frozen? ⟨b, o, none⟩ = false := by
  unfold Hold at h
  unfold World.frozen?
  simp [h]
theorem Hold.put {w : World} {b : Nat} {t : TypeId} {L : List Value} (h : Hold w b t L) (o : Nat) (v : Value) : Hold (w.setCell ⟨b, o, none⟩ v) b t (L.set o v) := by
  unfold Hold at h ⊢
  unfold World.setCell
  simp only [Option.isSome_none, Bool.false_eq_true, if_false]
  rw [Array.getElem?_modify, if_pos rfl, h]
  simp

/-- A reader: what is left of its bytes, and why it can't go on. -/
def Rdr (w : World) (g : Nat) (s : P.Sr) : Prop := ∃ A c, Hold w g 95 [.slice A s.xs.length c, .int .i64 (s.er : Int)] ∧ s.xs.length ≤ c ∧ (0 < s.xs.length → ∃ b o, A = some ⟨b, o, none⟩ ∧ b < g ∧ ∀ j x, s.xs[j]? = some x → w.cell? ⟨b, o + j, none⟩ = some (enc8 x))
theorem Rdr.lt {w : World} {g : Nat} {s : P.Sr} (h : Rdr w g s) : g < w.heap.size := by obtain ⟨A, c, h, -⟩ := h; exact h.lt
theorem Rdr.bel {w w' : World} {g b : Nat} {s : P.Sr} (h : Rdr w g s) (k : Bel b w.heap.size w w') (hb : g < b) : Rdr w' g s := by
  have hlt := h.lt
  obtain ⟨A, c, h, hc, hx⟩ := h
  refine ⟨A, c, h.bel k (by omega), hc, fun h0 => ?_⟩
  obtain ⟨b', o, e, hb', hx⟩ := hx h0
  exact ⟨b', o, e, hb', fun j x hj => (World.cell?_of_block (w := w) (k.block b' (by omega) (by omega))).trans (hx j x hj)⟩
theorem Rdr.alloc {w : World} {g : Nat} {s : P.Sr} (h : Rdr w g s) (o : Obj) : Rdr (w.alloc o) g s :=
  h.bel (b := w.heap.size) (.of (Below.refl _ _ |>.alloc (Nat.le_refl _) o)) h.lt
theorem Rdr.drew {w : World} {g : Nat} {s : P.Sr} (h : Rdr w g s) : Rdr w.drew g s := h

/-- A reading of a plain value. -/
def Rn {α : Type} (p : P.Ps α) (enc : α → Value) (Q : α → Prop) (g : Nat) (s : P.Sr) (w : World) (e : Ending) (w' : World) : Prop :=
  ∃ s1 v, e = .returned (enc v) ∧ Q v ∧ Rdr w' g s1 ∧ Bel g w.heap.size w w' ∧ P.Ran p s s1 v
abbrev encN (n : Nat) : Value := .int .i64 (n : Int)
abbrev encB (n : Nat) : Value := .int .u8 (n : Int)
theorem P.Ran.on {α β : Type} {p : P.Ps α} {q : P.Ps β} {s s1 s2 : P.Sr} {v : α} {u : β} (h : P.Ran p s s1 v) (h1 : s1.er ≠ 0) (k : P.Ran q s1 s2 u) (x : α) : P.Ran p s s2 x :=
  ⟨fun h0 => by rw [k.stuck h1, h.stuck h0], fun h0 r y hy => by obtain ⟨rfl, _⟩ := h.ok h0 r y hy; exact absurd rfl h1, fun h0 e he => by rw [k.stuck h1, h.bad h0 e he]⟩

set_option maxHeartbeats 2000000 in
theorem fail_any {w : World} {g : Nat} {s : P.Sr} (e : Nat) {x : Int} (hx : x = (e : Int)) (h : Rdr w g s) :
    Calls Try.prog 83 #[.pointer (some ⟨g, 0, none⟩), .int .i64 x] w fun e' w' => e' = .returned (.tuple #[]) ∧ Rdr w' g (P.fail e s) ∧ Bel g w.heap.size w w' := by
  subst hx
  have hR := Lib.hid h
  obtain ⟨A, c, h, hc, hx⟩ := h
  have c1 := h.cell 1 rfl
  have f1 := h.soft 1
  have H := Lib.hid h
  have HX := Lib.hid hx
  have HC := Lib.hid hc
  have hlt := h.lt
  clear h hx hc
  by_cases h0 : s.er = 0
  · rw [h0] at c1
    go_enter Try.func83, Try.ntmps83
    go_wp2
    refine bodyPost_end (v := .tuple #[]) (by simp [results, Try.results83]) rfl ?_
    refine ⟨rfl, ?_, Bel.store w g 1 _⟩
    unfold P.fail
    rw [if_pos h0]
    refine ⟨A, c, H.out.put 1 _, HC.out, fun hl => ?_⟩
    obtain ⟨b, o, e1, hb, hx⟩ := HX.out hl
    exact ⟨b, o, e1, hb, fun j x hj => (World.cell?_of_block (w := w) ((Bel.store w g 1 _).block b (by omega) (by omega))).trans (hx j x hj)⟩
  · have hq : ¬ (s.er : Int) = 0 := by omega
    go_enter Try.func83, Try.ntmps83
    go_wp2
    refine bodyPost_end (v := .tuple #[]) (by simp [results, Try.results83]) rfl ?_
    refine ⟨rfl, ?_, Bel.refl _ _ _⟩
    unfold P.fail
    rw [if_neg h0]
    exact hR.out

set_option maxHeartbeats 4000000 in
theorem one_any {w : World} {g : Nat} {s : P.Sr} (h : Rdr w g s) : Calls Try.prog 79 #[.pointer (some ⟨g, 0, none⟩)] w (Rn P.one encB (· < 256) g s w) := by
  have hR := Lib.hid h
  have HL := Lib.hid h.lt
  obtain ⟨xs, er⟩ := s
  obtain ⟨A, c, h, hc, hx⟩ := h
  cases xs with
  | nil =>
    have c0 := h.cell 0 rfl
    simp only [List.length_nil] at c0
    clear h hc hx
    go_enter Try.func79, Try.ntmps79
    go_wp2_with (fail)
    refine (fail_any 3 rfl hR.out).mono ?_
    rintro e w1 ⟨rfl, hr, hb⟩
    have HR := Lib.hid hr
    have HB := Lib.hid hb
    clear hr hb c0
    go_wp2
    go_ret
    exact ⟨_, 0, rfl, by omega, HR.out, HB.out, P.Ran.one_nil 0⟩
  | cons x xs =>
    have H := Lib.hid h
    have c0 := h.cell 0 rfl
    have f0 := h.soft 0
    obtain ⟨b, o, rfl, hb, hx⟩ := hx (by simp)
    have d0 := hx 0 x rfl
    simp only [Nat.add_zero, enc8] at d0
    have HX := Lib.hid hx
    have HB := Lib.hid hb
    have hlen : (x :: xs).length = xs.length + 1 := rfl
    simp only [List.length_cons] at c0 hc
    have e1 : ((xs.length : Int) + 1 == 0) = false := by simp; omega
    clear h hx hb
    by_cases hc1 : c = 1
    · subst hc1
      obtain rfl : xs = [] := List.length_eq_zero_iff.1 (by omega)
      simp only [List.length_nil] at c0 e1
      go_enter Try.func79, Try.ntmps79
      go_wp2
      go_ret
      exact ⟨⟨[], er⟩, x.toNat, rfl, x.toNat_lt, ⟨_, _, H.out.put 0 _, Nat.zero_le _, fun h => absurd h (by simp)⟩, Bel.store w g 0 _, P.Ran.one_cons x []⟩
    · go_enter Try.func79, Try.ntmps79
      go_wp2
      go_ret
      have hlt := HL.out
      exact ⟨⟨xs, er⟩, x.toNat, rfl, x.toNat_lt, ⟨_, _, H.out.put 0 _, (show xs.length ≤ c - 1 by omega), fun _ => ⟨b, o + 1, rfl, HB.out, fun j y hj => by
        have h2 := HX.out (j + 1) y hj
        rw [show o + 1 + j = o + (j + 1) by omega]
        exact (World.cell?_of_block (w := w) ((Bel.store w g 0 _).block b (by have := HB.out; omega) (by have := HB.out; omega))).trans h2⟩⟩, Bel.store w g 0 _, P.Ran.one_cons x xs⟩

set_option maxHeartbeats 4000000 in
theorem upTo_any {w : World} {g : Nat} {s : P.Sr} (n m : Nat) {x y : Int} (hx : x = (n : Int)) (hy : y = (m : Int)) (h : Rdr w g s) :
    Calls Try.prog 113 #[.pointer (some ⟨g, 0, none⟩), .int .i64 x, .int .i64 y] w (Rn (if m < n then P.err 2 else P.ret n) encN (· ≤ m) g s w) := by
  subst hx hy
  have hR := Lib.hid h
  clear h
  by_cases hm : m < n
  · rw [if_pos hm]
    go_enter Try.func113, Try.ntmps113
    go_wp2_with (fail)
    refine (fail_any 2 rfl hR.out).mono ?_
    rintro e w1 ⟨rfl, hr, hb⟩
    have HR := Lib.hid hr
    have HB := Lib.hid hb
    clear hr hb
    go_wp2
    go_ret
    exact ⟨_, 0, rfl, Nat.zero_le _, HR.out, HB.out, P.Ran.err _ _⟩
  · rw [if_neg hm]
    have HM := Lib.hid hm
    go_enter Try.func113, Try.ntmps113
    go_wp2
    go_ret
    exact ⟨_, n, rfl, Nat.le_of_not_lt HM.out, hR.out, Bel.refl _ _ _, P.Ran.ret _ _⟩
end Go.Proofs.Ytagngbdlpdilnaa
