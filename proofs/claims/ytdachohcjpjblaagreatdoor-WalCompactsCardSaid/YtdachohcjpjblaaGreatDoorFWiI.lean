/- Readings by the program's reader: contracts of it and of Decode; no conditions but those that they name. -/
import Derived.Test.YtdachohcjpjblaaGreatDoorFWiP
import Derived.Test.YtdachohcjpjblaaGreatDoorFWiH
import Derived.Deep.LoopGhost
import Derived.Laws.IdiomStrings
import Derived.Deep.RegionLaw
import Derived.Deep.RegionWith
set_option maxHeartbeats 8000000
set_option maxRecDepth 100000
namespace Go.Proofs.YtdachohcjpjblaaGreatDoor.Wi
open Go.ChangeShapes Go.WideShapes Go.ChangeAt Go.RowKit
structure Bel (g B : Nat) (w w' : World) : Prop where
 os : w'.os = w.os
 tape : w'.tape = w.tape
 output : w'.output = w.output
 size : w.heap.size ≤ w'.heap.size
 block : ∀ k, k < B → k ≠ g → w'.heap[k]? = w.heap[k]?
theorem Bel.refl (g B : Nat) (w : World) : Bel g B w w := ⟨rfl, rfl, rfl, Nat.le_refl _, fun _ _ _ => rfl⟩
theorem Bel.of {g B : Nat} {w w' : World} (h : Below B w w') : Bel g B w w' := ⟨h.os, h.tape, h.output, h.size, fun k hk _ => h.block k hk⟩
theorem Bel.below {g B : Nat} {w w' : World} (h : Bel g B w w') (hg : B ≤ g) : Below B w w' := ⟨h.os, h.tape, h.output, h.size, fun k hk => h.block k hk (by omega)⟩
theorem Bel.mono {g B B' : Nat} {w w' : World} (h : Bel g B w w') (hB : B' ≤ B) : Bel g B' w w' := ⟨h.os, h.tape, h.output, h.size, fun k hk => h.block k (by omega)⟩
theorem Bel.on {g b B : Nat} {a w w' : World} (h : Bel g B a w) (k : Bel b w.heap.size w w') (hb : b = g ∨ B ≤ b) (hB : B ≤ w.heap.size) : Bel g B a w' :=
 ⟨k.os.trans h.os, k.tape.trans h.tape, k.output.trans h.output, Nat.le_trans h.size k.size, fun i hi hg => (k.block i (by omega) (by omega)).trans (h.block i hi hg)⟩
theorem Bel.trans {g B : Nat} {a w w' : World} (h : Bel g B a w) (k : Bel g w.heap.size w w') (hB : B ≤ w.heap.size) : Bel g B a w' := h.on k (.inl rfl) hB
theorem Bel.alloc {g B : Nat} {a w : World} (h : Bel g B a w) (hB : B ≤ w.heap.size) (o : Obj) : Bel g B a (w.alloc o) :=
 h.trans (.of (Below.refl _ _ |>.alloc (Nat.le_refl _) o)) hB
theorem Bel.store (w : World) (g o : Nat) (v : Value) : Bel g w.heap.size w (w.setCell ⟨g, o, none⟩ v) :=
 ⟨rfl, rfl, rfl, by simp [World.setCell], fun k _ hk => Below.heap_setCell _ _ _ _ hk⟩
theorem Hold.lt {w : World} {b : Nat} {t : TypeId} {L : List Value} (h : Hold w b t L) : b < w.heap.size := (Array.getElem?_eq_some_iff.1 h).1
theorem Hold.bel {w w' : World} {b g : Nat} {t : TypeId} {L : List Value} (h : Hold w b t L) (k : Bel g w.heap.size w w') (hb : b ≠ g) : Hold w' b t L := (k.block b h.lt hb).trans h
theorem Hold.alloc {w : World} {b : Nat} {t : TypeId} {L : List Value} (h : Hold w b t L) (o : Obj) : Hold (w.alloc o) b t L := h.on (below_new (Below.refl _ _))
theorem Hold.cell {w : World} {b : Nat} {t : TypeId} {L : List Value} (h : Hold w b t L) (o : Nat) {v : Value} (hv : L[o]? = some v) : w.cell? ⟨b, o, none⟩ = some v := h.cel.get o v hv
theorem Hold.soft {w : World} {b : Nat} {t : TypeId} {L : List Value} (h : Hold w b t L) (o : Nat) : w.frozen? ⟨b, o, none⟩ = false := by
 unfold Hold at h
 unfold World.frozen?
 simp [h]
theorem Hold.put {w : World} {b : Nat} {t : TypeId} {L : List Value} (h : Hold w b t L) (o : Nat) (v : Value) : Hold (w.setCell ⟨b, o, none⟩ v) b t (L.set o v) := by
 unfold Hold at h ⊢
 unfold World.setCell
 simp only [Option.isSome_none, Bool.false_eq_true, if_false]
 rw [Array.getElem?_modify, if_pos rfl, h]
 simp
def Rdr (w : World) (g : Nat) (s : P.Sr) : Prop := ∃ A c, Hold w g 183 [.slice A s.xs.length c,.int .i64 (s.er : Int)] ∧ s.xs.length ≤ c ∧ (0 < s.xs.length → ∃ b o, A = some ⟨b, o, none⟩ ∧ b < g ∧ ∀ j x, s.xs[j]? = some x → w.cell? ⟨b, o + j, none⟩ = some (enc8 x))
theorem Rdr.lt {w : World} {g : Nat} {s : P.Sr} (h : Rdr w g s) : g < w.heap.size := by obtain ⟨A, c, h, -⟩ := h; exact h.lt
theorem Rdr.bel {w w' : World} {g b : Nat} {s : P.Sr} (h : Rdr w g s) (k : Bel b w.heap.size w w') (hb : g < b) : Rdr w' g s := by
 have hlt := h.lt
 obtain ⟨A, c, h, hc, hx⟩ := h
 refine ⟨A, c, h.bel k (by omega), hc, fun h0 => ?_⟩
 obtain ⟨b', o, e, hb', hx⟩ := hx h0
 exact ⟨b', o, e, hb', fun j x hj => (World.cell?_of_block (w := w) (k.block b' (by omega) (by omega))).trans (hx j x hj)⟩
theorem Rdr.alloc {w : World} {g : Nat} {s : P.Sr} (h : Rdr w g s) (o : Obj) : Rdr (w.alloc o) g s :=
 h.bel (b := w.heap.size) (.of (Below.refl _ _ |>.alloc (Nat.le_refl _) o)) h.lt
theorem Rdr.drew {w : World} {g : Nat} {s : P.Sr} (h : Rdr w g s) : Rdr w.drew g s := h
def Rn {α : Type} (p : P.Ps α) (enc : α → Value) (Q : α → Prop) (g : Nat) (s : P.Sr) (w : World) (e : Ending) (w' : World) : Prop :=
 ∃ s1 v, e = .returned (enc v) ∧ Q v ∧ Rdr w' g s1 ∧ Bel g w.heap.size w w' ∧ P.Ran p s s1 v
abbrev encN (n : Nat) : Value := .int .i64 (n : Int)
abbrev encB (n : Nat) : Value := .int .u8 (n : Int)
theorem P.Ran.on {α β : Type} {p : P.Ps α} {q : P.Ps β} {s s1 s2 : P.Sr} {v : α} {u : β} (h : P.Ran p s s1 v) (h1 : s1.er ≠ 0) (k : P.Ran q s1 s2 u) (x : α) : P.Ran p s s2 x :=
 ⟨fun h0 => by rw [k.stuck h1, h.stuck h0], fun h0 r y hy => by obtain ⟨rfl, _⟩ := h.ok h0 r y hy; exact absurd rfl h1, fun h0 e he => by rw [k.stuck h1, h.bad h0 e he]⟩
theorem fail_any {w : World} {g : Nat} {s : P.Sr} (e : Nat) {x : Int} (hx : x = (e : Int)) (h : Rdr w g s) :
 Calls Tryz.prog 151 #[.pointer (some ⟨g, 0, none⟩),.int .i64 x] w fun e' w' => e' = .returned (.tuple #[]) ∧ Rdr w' g (P.fail e s) ∧ Bel g w.heap.size w w' := by
 subst hx
 have hR := Lib.hid h
 obtain ⟨A, c, h, hc, hx⟩ := h
 have c1 := h.cell 1 rfl
 have f1 := h.soft 1
 have H := Lib.hid h
 have HX := Lib.hid hx
 have HC := Lib.hid hc
 have hlt := h.lt
 clear h hx hc
 by_cases h0 : s.er = 0
 ·rw [h0] at c1
  go_enter Tryz.func151, Tryz.ntmps151
  go_wp2
  refine bodyPost_end (v := .tuple #[]) (by simp [results, Tryz.results151]) rfl ?_
  refine ⟨rfl, ?_, Bel.store w g 1 _⟩
  unfold P.fail
  rw [if_pos h0]
  refine ⟨A, c, H.out.put 1 _, HC.out, fun hl => ?_⟩
  obtain ⟨b, o, e1, hb, hx⟩ := HX.out hl
  exact ⟨b, o, e1, hb, fun j x hj => (World.cell?_of_block (w := w) ((Bel.store w g 1 _).block b (by omega) (by omega))).trans (hx j x hj)⟩
 ·have hq : ¬ (s.er : Int) = 0 := by omega
  go_enter Tryz.func151, Tryz.ntmps151
  go_wp2
  refine bodyPost_end (v := .tuple #[]) (by simp [results, Tryz.results151]) rfl ?_
  refine ⟨rfl, ?_, Bel.refl _ _ _⟩
  unfold P.fail
  rw [if_neg h0]
  exact hR.out
theorem one_any {w : World} {g : Nat} {s : P.Sr} (h : Rdr w g s) : Calls Tryz.prog 147 #[.pointer (some ⟨g, 0, none⟩)] w (Rn P.one encB (· < 256) g s w) := by
 have hR := Lib.hid h
 have HL := Lib.hid h.lt
 obtain ⟨xs, er⟩ := s
 obtain ⟨A, c, h, hc, hx⟩ := h
 cases xs with
 | nil =>
   have c0 := h.cell 0 rfl
   simp only [List.length_nil] at c0
   clear h hc hx
   go_enter Tryz.func147, Tryz.ntmps147
   go_wp2_with (fail)
   refine (fail_any 3 rfl hR.out).mono ?_
   rintro e w1 ⟨rfl, hr, hb⟩
   have HR := Lib.hid hr
   have HB := Lib.hid hb
   clear hr hb c0
   go_wp2
   go_ret
   exact ⟨_, 0, rfl, by omega, HR.out, HB.out, P.Ran.one_nil 0⟩
 | cons x xs =>
   have H := Lib.hid h
   have c0 := h.cell 0 rfl
   have f0 := h.soft 0
   obtain ⟨b, o, rfl, hb, hx⟩ := hx (by simp)
   have d0 := hx 0 x rfl
   simp only [Nat.add_zero, enc8] at d0
   have HX := Lib.hid hx
   have HB := Lib.hid hb
   have hlen : (x :: xs).length = xs.length + 1 := rfl
   simp only [List.length_cons] at c0 hc
   have e1 : ((xs.length : Int) + 1 == 0) = false := by simp; omega
   clear h hx hb
   by_cases hc1 : c = 1
   ·subst hc1
    obtain rfl : xs = [] := List.length_eq_zero_iff.1 (by omega)
    simp only [List.length_nil] at c0 e1
    go_enter Tryz.func147, Tryz.ntmps147
    go_wp2
    go_ret
    exact ⟨⟨[], er⟩, x.toNat, rfl, x.toNat_lt, ⟨_, _, H.out.put 0 _, Nat.zero_le _, fun h => absurd h (by simp)⟩, Bel.store w g 0 _, P.Ran.one_cons x []⟩
   ·go_enter Tryz.func147, Tryz.ntmps147
    go_wp2
    go_ret
    have hlt := HL.out
    exact ⟨⟨xs, er⟩, x.toNat, rfl, x.toNat_lt, ⟨_, _, H.out.put 0 _, (show xs.length ≤ c - 1 by omega), fun _ => ⟨b, o + 1, rfl, HB.out, fun j y hj => by
     have h2 := HX.out (j + 1) y hj
     rw [show o + 1 + j = o + (j + 1) by omega]
     exact (World.cell?_of_block (w := w) ((Bel.store w g 0 _).block b (by have := HB.out; omega) (by have := HB.out; omega))).trans h2⟩⟩, Bel.store w g 0 _, P.Ran.one_cons x xs⟩
theorem upTo_any {w : World} {g : Nat} {s : P.Sr} (n m : Nat) {x y : Int} (hx : x = (n : Int)) (hy : y = (m : Int)) (h : Rdr w g s) :
 Calls Tryz.prog 186 #[.pointer (some ⟨g, 0, none⟩),.int .i64 x,.int .i64 y] w (Rn (if m < n then P.err 2 else P.ret n) encN (· ≤ m) g s w) := by
 subst hx hy
 have hR := Lib.hid h
 clear h
 by_cases hm : m < n
 ·rw [if_pos hm]
  go_enter Tryz.func186, Tryz.ntmps186
  go_wp2_with (fail)
  refine (fail_any 2 rfl hR.out).mono ?_
  rintro e w1 ⟨rfl, hr, hb⟩
  have HR := Lib.hid hr
  have HB := Lib.hid hb
  clear hr hb
  go_wp2
  go_ret
  exact ⟨_, 0, rfl, Nat.zero_le _, HR.out, HB.out, P.Ran.err _ _⟩
 ·rw [if_neg hm]
  have HM := Lib.hid hm
  go_enter Tryz.func186, Tryz.ntmps186
  go_wp2
  go_ret
  exact ⟨_, n, rfl, Nat.le_of_not_lt HM.out, hR.out, Bel.refl _ _ _, P.Ran.ret _ _⟩
open Go.ChangeShapes Go.WideShapes Go.ChangeAt Go.RowKit
theorem pow128 (k : Nat) : 128 ^ k = 2 ^ (7 * k) := by rw [Nat.pow_mul]
theorem pow_le5 {k : Nat} (hk : k ≤ 5) : 128 ^ k ≤ 34359738368 := by
 have := Nat.pow_le_pow_right (n := 128) (by omega) hk
 simpa using this
theorem wrap_nat (m : Nat) (h : m < 9223372036854775808) : IntKind.i64.wrap (m : Int) = (m : Int) := by
 simp [IntKind.wrap, IntKind.bits, IntKind.signed]
 split <;> omega
theorem and127 (a : Nat) (ha : a < 256) : bits .and .u8 (a : Int) 127 = ((a % 128 : Nat) : Int) := by
 have e : bits .and .u8 (a : Int) 127 = IntKind.u8.wrap ((BitVec.ofInt 8 (a : Int) &&& BitVec.ofInt 8 ((127 : Nat) : Int)).toNat : Int) := rfl
 rw [e, wrap8, BitVec.toNat_and, BitVec.ofInt_natCast, BitVec.ofInt_natCast, BitVec.toNat_ofNat, BitVec.toNat_ofNat, Nat.mod_eq_of_lt (by omega : a < 2 ^ 8)]
 rw [show 127 % 2 ^ 8 = 2 ^ 7 - 1 by rfl, Nat.and_two_pow_sub_one_eq_mod]
 omega
theorem or_high {k n y : Nat} (hk : k ≤ 5) (hn : n < 128 ^ k) (hy : y < 128) : bits .or .i64 (n : Int) ((y * 128 ^ k : Nat) : Int) = ((n + y * 128 ^ k : Nat) : Int) := by
 have e : bits .or .i64 (n : Int) ((y * 128 ^ k : Nat) : Int) = IntKind.i64.wrap ((BitVec.ofInt 64 (n : Int) ||| BitVec.ofInt 64 ((y * 128 ^ k : Nat) : Int)).toNat : Int) := rfl
 have h1 := pow_le5 hk
 have h2 : y * 128 ^ k ≤ 127 * 34359738368 := Nat.mul_le_mul (by omega) h1
 rw [e, BitVec.toNat_or, BitVec.ofInt_natCast, BitVec.ofInt_natCast, BitVec.toNat_ofNat, BitVec.toNat_ofNat, Nat.mod_eq_of_lt (by omega : n < 2 ^ 64), Nat.mod_eq_of_lt (by omega : y * 128 ^ k < 2 ^ 64)]
 rw [Nat.or_comm, Nat.mul_comm y, pow128, ← Nat.two_pow_add_eq_or_of_lt (by rw [← pow128]; exact hn)]
 rw [← pow128, Nat.mul_comm _ y]
 rw [wrap_nat _ (by omega), Nat.add_comm]
theorem or_all {k n x : Nat} (hk : k ≤ 5) (hn : n < 128 ^ k) (hx : x < 256) : bits .or .i64 (n : Int) (wrap64 (wrap64 (bits .and .u8 (x : Int) 127) * 2 ^ (7 * k))) = ((n + x % 128 * 128 ^ k : Nat) : Int) := by
 have h1 := pow_le5 hk
 have hy : x % 128 < 128 := by omega
 have h2 : x % 128 * 128 ^ k ≤ 127 * 34359738368 := Nat.mul_le_mul (by omega) h1
 rw [and127 x hx, show wrap64 ((x % 128 : Nat) : Int) = ((x % 128 : Nat) : Int) by unfold wrap64; omega]
 rw [show ((x % 128 : Nat) : Int) * 2 ^ (7 * k) = ((x % 128 * 128 ^ k : Nat) : Int) by rw [pow128]; simp]
 rw [show wrap64 ((x % 128 * 128 ^ k : Nat) : Int) = ((x % 128 * 128 ^ k : Nat) : Int) by unfold wrap64; omega]
 exact or_high hk hn hy
theorem P.numL_succ (f k n : Nat) : P.numL (f + 1) k n = P.bind P.one fun x => if x < 128 then (if x = 0 ∧ 0 < k then P.err 4 else if 1099511627776 < n + x * 128 ^ k then P.err 2 else P.ret (n + x * 128 ^ k)) else P.numL f (k + 1) (n + (x - 128) * 128 ^ k) := rfl
theorem number_any {w : World} {g : Nat} {s : P.Sr} (h : Rdr w g s) : Calls Tryz.prog 169 #[.pointer (some ⟨g, 0, none⟩)] w (Rn P.num encN (· ≤ 1099511627776) g s w) := by
 have hR := Lib.hid h
 clear h
 go_enter Tryz.func169, Tryz.ntmps169
 go_wp2
 go_loopw [3, 6] (fun a i wr => ∃ (k n : Nat) (s1 : P.Sr), k ≤ 6 ∧ i = .int .i64 k ∧ a = .int .i64 n ∧ n < 128 ^ k ∧ Rdr wr g s1 ∧ Bel g w.heap.size w wr ∧ ∀ s2 v, P.Ran (P.numL (6 - k) k n) s1 s2 v → P.Ran P.num s s2 v) (fun _ i _ => 6 - (intOf i).toNat)
 case atStart => exact ⟨0, 0, s, Nat.zero_le _, rfl, rfl, by omega, hR.out, Bel.refl _ _ _, fun _ _ h => h⟩
 case round =>
  obtain ⟨k, n, s1, hk, rfl, rfl, hn, hr, hb, hp⟩ := hrel
  by_cases h6 : k < 6
  ·obtain ⟨f, hf⟩ : ∃ f, 6 - k = f + 1 := ⟨5 - k, by omega⟩
   rw [hf, P.numL_succ] at hp
   have HR := Lib.hid hr
   have HB := Lib.hid hb
   have HP := Lib.hid hp
   have HN := Lib.hid hn
   have HF := Lib.hid hf
   clear hr hb hp hn hf
   go_wp2_with (fail)
   refine (one_any HR.out).mono ?_
   rintro e w1 ⟨s2, x, rfl, hx, hr1, hb1, hp1⟩
   have E := or_all (by omega : k ≤ 5) HN.out hx
   obtain ⟨q, hq⟩ : ∃ q, q = n + x % 128 * 128 ^ k := ⟨_, rfl⟩
   rw [← hq] at E
   have HR1 := Lib.hid hr1
   have HB1 := Lib.hid (HB.out.trans hb1 (by have := HB.out.size; omega))
   have HP1 := Lib.hid hp1
   have HQ := Lib.hid hq
   have HX := Lib.hid hx
   clear hr1 hb1 hp1 hq HR HB hx
   by_cases h1 : x < 128
   ·have hm : x % 128 = x := by omega
    by_cases h2 : x = 0 ∧ 0 < k
    ·obtain ⟨rfl, h3⟩ := h2
     rw [show ((0 : Nat) : Int) = 0 from rfl] at E
     go_wp2_with (fail)
     refine (fail_any 4 rfl HR1.out).mono ?_
     rintro e w2 ⟨rfl, hr2, hb2⟩
     have HR2 := Lib.hid hr2
     have HB2 := Lib.hid (HB1.out.trans hb2 (by have := HB1.out.size; omega))
     clear hr2 hb2 HR1 HB1
     go_wp2_with (fail)
     refine (upTo_any q 1099511627776 rfl (by omega) HR2.out).mono ?_
     rintro e w3 ⟨s4, v, rfl, hv, hr3, hb3, hp3⟩
     have HR3 := Lib.hid hr3
     have HB3 := Lib.hid (HB2.out.trans hb3 (by have := HB2.out.size; omega))
     have HP3 := Lib.hid hp3
     have HV := Lib.hid hv
     clear hr3 hb3 hp3 hv HR2 HB2
     go_wp2
     go_ret
     refine ⟨s4, v, rfl, HV.out, HR3.out, HB3.out, HP.out s4 v (P.Ran.bind P.errs_one HP1.out ?_)⟩
     rw [if_pos (by omega), if_pos ⟨rfl, h3⟩]
     exact (P.Ran.err s2 0).on (P.fail_er (by omega)) HP3.out v
    ·have key : ∀ (w2 : World), w2 = w1 → Calls Tryz.prog 186 #[.pointer (some ⟨g, 0, none⟩),.int .i64 q,.int .i64 1099511627776] w2 (Rn (if 1099511627776 < q then P.err 2 else P.ret q) encN (· ≤ 1099511627776) g s2 w2) := fun w2 e => by
      subst e
      exact upTo_any q 1099511627776 (x := (q : Int)) (y := 1099511627776) rfl (by omega) HR1.out
     have KEY := Lib.hid (key w1 rfl)
     clear key
     have fin : ∀ s4 v, P.Ran (if 1099511627776 < q then P.err 2 else P.ret q) s2 s4 v → P.Ran P.num s s4 v := fun s4 v hp3 => by
      refine HP.out s4 v (P.Ran.bind P.errs_one HP1.out ?_)
      rw [if_pos h1, if_neg h2, ← hm, ← HQ.out]
      exact hp3
     have FIN := Lib.hid fin
     clear fin
     by_cases hx0 : x = 0
     ·obtain rfl : k = 0 := by omega
      subst hx0
      obtain rfl : n = 0 := by have := HN.out; omega
      obtain rfl : q = 0 := by have := HQ.out; omega
      have a0 : bits .and .u8 0 127 = 0 := by kernel_rfl
      have o0 : bits .or .i64 0 0 = 0 := by kernel_rfl
      clear h1 h2 hm E
      go_wp2_with (fail)
      refine KEY.out.mono ?_
      rintro e w3 ⟨s4, v, rfl, hv, hr3, hb3, hp3⟩
      have HR3 := Lib.hid hr3
      have HB3 := Lib.hid (HB1.out.trans hb3 (by have := HB1.out.size; omega))
      have HP3 := Lib.hid hp3
      have HV := Lib.hid hv
      clear hr3 hb3 hp3 hv
      go_wp2
      go_ret
      exact ⟨s4, v, rfl, HV.out, HR3.out, HB3.out, FIN.out s4 v HP3.out⟩
     ·have hx1 : ((x : Int) == 0) = false := by rw [beq_eq_false_iff_ne]; omega
      clear h2 hm
      go_wp2_with (fail)
      refine KEY.out.mono ?_
      rintro e w3 ⟨s4, v, rfl, hv, hr3, hb3, hp3⟩
      have HR3 := Lib.hid hr3
      have HB3 := Lib.hid (HB1.out.trans hb3 (by have := HB1.out.size; omega))
      have HP3 := Lib.hid hp3
      have HV := Lib.hid hv
      clear hr3 hb3 hp3 hv
      go_wp2
      go_ret
      exact ⟨s4, v, rfl, HV.out, HR3.out, HB3.out, FIN.out s4 v HP3.out⟩
   ·have hm : x % 128 = x - 128 := by have := HX.out; omega
    have HM := Lib.hid hm
    have H1 := Lib.hid h1
    clear hm
    go_wp2
    go_roundw
    case rel =>
     refine ⟨k + 1, q, s2, by omega, by go_num, rfl, ?_, HR1.out, HB1.out, fun s4 v hp => ?_⟩
     ·have := HN.out
      have h3 : x % 128 * 128 ^ k ≤ 127 * 128 ^ k := Nat.mul_le_mul_right _ (by omega)
      rw [HQ.out, Nat.pow_succ]
      omega
     ·refine HP.out s4 v (P.Ran.bind P.errs_one HP1.out ?_)
      rw [if_neg H1.out, ← HM.out, ← HQ.out]
      rw [show 6 - (k + 1) = f by have := HF.out; omega] at hp
      exact hp
    case measure => simp [intOf]; omega
  ·obtain rfl : k = 6 := by omega
   have HR := Lib.hid hr
   have HB := Lib.hid hb
   have HP := Lib.hid hp
   clear hr hb hp hn
   go_wp2_with (fail)
   refine (fail_any 2 rfl HR.out).mono ?_
   rintro e w2 ⟨rfl, hr2, hb2⟩
   have HR2 := Lib.hid hr2
   have HB2 := Lib.hid (HB.out.trans hb2 (by have := HB.out.size; omega))
   clear hr2 hb2
   go_wp2
   go_ret
   exact ⟨_, 0, rfl, by omega, HR2.out, HB2.out, HP.out _ 0 (P.Ran.err _ _)⟩
theorem count_any {w : World} {g : Nat} {s : P.Sr} (h : Rdr w g s) : Calls Tryz.prog 187 #[.pointer (some ⟨g, 0, none⟩),.int .i64 8] w (Rn P.few encN (· ≤ 8) g s w) := by
 have hR := Lib.hid h
 clear h
 go_enter Tryz.func187, Tryz.ntmps187
 go_wp2_with (fail)
 refine (number_any hR.out).mono ?_
 rintro e w1 ⟨s1, n, rfl, hn, hr, hb, hp⟩
 have HR := Lib.hid hr
 have HB := Lib.hid hb
 have HP := Lib.hid hp
 clear hr hb hp hn
 go_wp2_with (fail)
 refine (upTo_any n 8 rfl rfl HR.out).mono ?_
 rintro e w2 ⟨s2, v, rfl, hv, hr, hb, hp⟩
 have HR2 := Lib.hid hr
 have HB2 := Lib.hid (HB.out.trans hb (by have := HB.out.size; omega))
 have HP2 := Lib.hid hp
 have HV := Lib.hid hv
 clear hr hb hp hv
 go_wp2
 go_ret
 exact ⟨s2, v, rfl, HV.out, HR2.out, HB2.out, P.Ran.bind P.errs_num HP.out HP2.out⟩
open Go.ChangeShapes Go.WideShapes Go.ChangeAt Go.RowKit
theorem boolean_any {w : World} {g : Nat} {s : P.Sr} (h : Rdr w g s) : Calls Tryz.prog 175 #[.pointer (some ⟨g, 0, none⟩)] w (Rn P.boolean (fun b => .bool b) (fun _ => True) g s w) := by
 have hR := Lib.hid h
 clear h
 go_enter Tryz.func175, Tryz.ntmps175
 go_wp2_with (fail)
 refine (one_any hR.out).mono ?_
 rintro e w1 ⟨s1, x, rfl, hx, hr, hb, hp⟩
 have HR := Lib.hid hr
 have HB := Lib.hid hb
 have HP := Lib.hid hp
 clear hr hb hp hx
 by_cases h1 : 1 < x
 ·go_wp2_with (fail)
  refine (fail_any 4 rfl HR.out).mono ?_
  rintro e w2 ⟨rfl, hr, hb⟩
  have HR2 := Lib.hid hr
  have HB2 := Lib.hid (HB.out.trans hb (by have := HB.out.size; omega))
  clear hr hb
  have hx1 : ((x : Int) == 1) = false := by rw [beq_eq_false_iff_ne]; omega
  have H1 := Lib.hid h1
  clear h1
  go_wp2
  go_ret
  refine ⟨_, false, rfl, trivial, HR2.out, HB2.out, P.Ran.bind P.errs_one HP.out ?_⟩
  rw [if_pos H1.out]
  exact P.Ran.err _ _
 ·have H1 := Lib.hid h1
  obtain ⟨q, hq⟩ : ∃ q, q = decide (x = 1) := ⟨_, rfl⟩
  have hx1 : ((x : Int) == 1) = q := by
   rw [hq]
   by_cases h : x = 1
   ·subst h; rfl
   ·rw [decide_eq_false h, beq_eq_false_iff_ne]; omega
  have HQ := Lib.hid hq
  clear hq
  go_wp2
  go_ret
  refine ⟨_, q, rfl, trivial, HR.out, HB.out, P.Ran.bind P.errs_one HP.out ?_⟩
  rw [if_neg H1.out, HQ.out]
  exact P.Ran.ret _ _
theorem mark_any {w : World} {g : Nat} {s : P.Sr} (c : Nat) {y : Int} (hy : y = (c : Int)) (h : Rdr w g s) : Calls Tryz.prog 177 #[.pointer (some ⟨g, 0, none⟩),.int .u8 y] w (Rn (P.mark c) (fun _ => .tuple #[]) (fun _ => True) g s w) := by
 subst hy
 have hR := Lib.hid h
 clear h
 go_enter Tryz.func177, Tryz.ntmps177
 go_wp2_with (fail)
 refine (one_any hR.out).mono ?_
 rintro e w1 ⟨s1, x, rfl, hx, hr, hb, hp⟩
 have HR := Lib.hid hr
 have HB := Lib.hid hb
 have HP := Lib.hid hp
 clear hr hb hp hx
 by_cases h1 : x = c
 ·subst h1
  go_wp2
  refine bodyPost_end (v := .tuple #[]) (by simp [results, Tryz.results177]) rfl ?_
  refine ⟨_, (), rfl, trivial, HR.out, HB.out, P.Ran.bind P.errs_one HP.out ?_⟩
  rw [if_pos rfl]
  exact P.Ran.ret _ _
 ·have H1 := Lib.hid h1
  have q1 : ((x : Int) == (c : Int)) = false := by rw [beq_eq_false_iff_ne]; omega
  have q2 : ((x : Int) != (c : Int)) = true := by rw [bne, q1]; rfl
  have q3 : (x == c) = false := by rw [beq_eq_false_iff_ne]; exact h1
  have q4 : (x != c) = true := by rw [bne, q3]; rfl
  clear h1
  go_wp2_with (fail)
  refine (fail_any 4 rfl HR.out).mono ?_
  rintro e w2 ⟨rfl, hr, hb⟩
  have HR2 := Lib.hid hr
  have HB2 := Lib.hid (HB.out.trans hb (by have := HB.out.size; omega))
  clear hr hb
  go_wp2
  refine bodyPost_end (v := .tuple #[]) (by simp [results, Tryz.results177]) rfl ?_
  refine ⟨_, (), rfl, trivial, HR2.out, HB2.out, P.Ran.bind P.errs_one HP.out ?_⟩
  rw [if_neg H1.out]
  exact P.Ran.err _ _
theorem results_c {fn : Func} {j : Nat} {t : TypeId} {tmps : Array Value} {w : World} {b : Nat} {L : List Value} (hf : fn.results = #[ResultVar.cell j t]) (hp : tmps.getD j undef = .pointer (some ⟨b, 0, none⟩)) (hr : w.rangeAt b 0 L) (d : TypeDesc) (hu : Tryz.prog.underlying t = some d) (hd : d.isRow = true) (hi : (Tryz.prog.info? t).map (·.size) = some L.length) :
 (results fn tmps).run Tryz.prog w = .ok (.agg L.toArray) w := by
 have hp' : tmps[j]?.getD undef = .pointer (some ⟨b, 0, none⟩) := by simpa using hp
 simp [results, hf, hp', asAddr, run_loadVar_mid w b 0 t L _ hr hu hd hi]
def R2n (g : Nat) (s : P.Sr) (w : World) (e : Ending) (w' : World) : Prop :=
 ∃ s1 s2 a b, e = .returned (.agg #[encN a, encN b]) ∧ a ≤ 1099511627776 ∧ b ≤ 1099511627776 ∧ Rdr w' g s2 ∧ Bel g w.heap.size w w' ∧ P.Ran P.num s s1 a ∧ P.Ran P.num s1 s2 b
theorem stamp_any {w : World} {g : Nat} {s : P.Sr} (h : Rdr w g s) : Calls Tryz.prog 170 #[.pointer (some ⟨g, 0, none⟩)] w (R2n g s w) := by
 have hR := Lib.hid (h.alloc (.cells #[.int .i64 0,.int .i64 0] 59))
 have H0 := Lib.hid (Hold.new w [.int .i64 0,.int .i64 0] 59)
 have B0 := Lib.hid ((Bel.refl g w.heap.size w).alloc (Nat.le_refl _) (.cells #[.int .i64 0,.int .i64 0] 59))
 have HL := Lib.hid h.lt
 clear h
 go_enter Tryz.func170, Tryz.ntmps170
 go_wp2_with (fail)
 refine (number_any hR.out).mono ?_
 rintro e w1 ⟨s1, a, rfl, ha, hr, hb, hp⟩
 have HR := Lib.hid hr
 have HB := Lib.hid (B0.out.trans hb (by simp))
 have HP := Lib.hid hp
 have HA := Lib.hid ha
 have H1 := Lib.hid (H0.out.bel hb (by have := HL.out; omega))
 clear hr hb hp ha
 go_wp2_with (fail)
 refine (number_any HR.out).mono ?_
 rintro e w2 ⟨s2, b, rfl, hx, hr, hb, hp⟩
 have HR2 := Lib.hid hr
 have HB2 := Lib.hid (HB.out.trans hb (by have := HB.out.size; omega))
 have HP2 := Lib.hid hp
 have HX := Lib.hid hx
 have H2 := Lib.hid (H1.out.bel hb (by have := HL.out; omega))
 clear hr hb hp hx
 have H3 := Lib.hid (((show Hold w2 w.heap.size 59 [.int .i64 0,.int .i64 0] from H2.out).put 0 (encN a)).put 1 (encN b))
 have c0 := H2.out.cell 0 rfl
 have c1 := H2.out.cell 1 rfl
 have f0 := H2.out.soft 0
 have f1 := H2.out.soft 1
 go_wp2
 refine bodyPost_ret (results_c rfl rfl H3.out.cel.whole _ Tryz.underlying59 rfl (by kernel_rfl)) rfl ?_
 refine ⟨s1, s2, a, b, rfl, HA.out, HX.out, (HR2.out.bel (Bel.store _ _ 0 _) HL.out).bel (Bel.store _ _ 1 _) HL.out, ?_, HP.out, HP2.out⟩
 exact (HB2.out.on (Bel.store _ _ 0 _) (.inr (Nat.le_refl _)) HB2.out.size).on (Bel.store _ _ 1 _) (.inr (Nat.le_refl _)) (Nat.le_trans HB2.out.size (Bel.store _ _ 0 _).size)
theorem ballot_any {w : World} {g : Nat} {s : P.Sr} (h : Rdr w g s) : Calls Tryz.prog 176 #[.pointer (some ⟨g, 0, none⟩)] w (R2n g s w) := by
 have hR := Lib.hid (h.alloc (.cells #[.int .i64 0,.int .i64 0] 55))
 have H0 := Lib.hid (Hold.new w [.int .i64 0,.int .i64 0] 55)
 have B0 := Lib.hid ((Bel.refl g w.heap.size w).alloc (Nat.le_refl _) (.cells #[.int .i64 0,.int .i64 0] 55))
 have HL := Lib.hid h.lt
 clear h
 go_enter Tryz.func176, Tryz.ntmps176
 go_wp2_with (fail)
 refine (number_any hR.out).mono ?_
 rintro e w1 ⟨s1, a, rfl, ha, hr, hb, hp⟩
 have HR := Lib.hid hr
 have HB := Lib.hid (B0.out.trans hb (by simp))
 have HP := Lib.hid hp
 have HA := Lib.hid ha
 have H1 := Lib.hid (H0.out.bel hb (by have := HL.out; omega))
 clear hr hb hp ha
 go_wp2_with (fail)
 refine (number_any HR.out).mono ?_
 rintro e w2 ⟨s2, b, rfl, hx, hr, hb, hp⟩
 have HR2 := Lib.hid hr
 have HB2 := Lib.hid (HB.out.trans hb (by have := HB.out.size; omega))
 have HP2 := Lib.hid hp
 have HX := Lib.hid hx
 have H2 := Lib.hid (H1.out.bel hb (by have := HL.out; omega))
 clear hr hb hp hx
 have H3 := Lib.hid (((show Hold w2 w.heap.size 55 [.int .i64 0,.int .i64 0] from H2.out).put 0 (encN a)).put 1 (encN b))
 have c0 := H2.out.cell 0 rfl
 have c1 := H2.out.cell 1 rfl
 have f0 := H2.out.soft 0
 have f1 := H2.out.soft 1
 go_wp2
 refine bodyPost_ret (results_c rfl rfl H3.out.cel.whole _ Tryz.underlying55 rfl (by kernel_rfl)) rfl ?_
 refine ⟨s1, s2, a, b, rfl, HA.out, HX.out, (HR2.out.bel (Bel.store _ _ 0 _) HL.out).bel (Bel.store _ _ 1 _) HL.out, ?_, HP.out, HP2.out⟩
 exact (HB2.out.on (Bel.store _ _ 0 _) (.inr (Nat.le_refl _)) HB2.out.size).on (Bel.store _ _ 1 _) (.inr (Nat.le_refl _)) (Nat.le_trans HB2.out.size (Bel.store _ _ 0 _).size)
open Go.ChangeShapes Go.WideShapes Go.ChangeAt Go.RowKit
abbrev encT (x : List UInt8) : Value := .string ⟨x.toArray⟩
theorem conv_take {w : World} {b o n c : Nat} {xs : List UInt8} (hx : ∀ j x, xs[j]? = some x → w.cell? ⟨b, o + j, none⟩ = some (enc8 x)) (hn : n ≤ xs.length) :
 (convert 22 9 (.slice (some ⟨b, o, none⟩) n c)).run Tryz.prog w = .ok (encT (xs.take n)) w := by
 have h := run_convert_bytes_back (P := Tryz.prog) w 22 9 5 ⟨b, o, none⟩ c (xs.take n) Tryz.underlying22 Tryz.underlying5 Tryz.underlying9 (fun j hj => by
  rw [add_plain']
  rw [List.length_take] at hj
  have e : xs[j]? = some ((xs.take n)[j]) := by
   rw [List.getElem_take]; exact List.getElem?_eq_getElem (by omega)
  exact hx j _ e)
 rw [List.length_take, Nat.min_eq_left hn] at h
 exact h
theorem conv_none (w : World) (c : Nat) : (convert 22 9 (.slice none 0 c)).run Tryz.prog w = .ok (encT []) w := by
 have h := Go.run_convert_bytes_string (P := Tryz.prog) w 22 9 5 none 0 c Tryz.underlying22 Tryz.underlying5 Tryz.underlying9
 rw [h]
 simp [Conv.bytesToString]
 rfl
theorem text_any {w : World} {g : Nat} {s : P.Sr} (h : Rdr w g s) : Calls Tryz.prog 173 #[.pointer (some ⟨g, 0, none⟩),.int .i64 8] w (Rn P.text encT (·.length ≤ 8) g s w) := by
 have hR := Lib.hid h
 clear h
 go_enter Tryz.func173, Tryz.ntmps173
 go_wp2_with (fail)
 refine (count_any hR.out).mono ?_
 rintro e w1 ⟨s1, n, rfl, hn, hr, hb, hp⟩
 have HR := Lib.hid hr
 have HB := Lib.hid hb
 have HP := Lib.hid hp
 have HN := Lib.hid hn
 have HG := Lib.hid hr.lt
 obtain ⟨xs, er⟩ := s1
 obtain ⟨A, c, h, hc, hx⟩ := hr
 have H := Lib.hid h
 have HC := Lib.hid hc
 have HX := Lib.hid hx
 have c0 := h.cell 0 rfl
 have f0 := h.soft 0
 simp only at c0
 clear hb hp hn h hc hx
 obtain ⟨L, hL⟩ : ∃ L, L = xs.length := ⟨_, rfl⟩
 rw [← hL] at c0
 have HL := Lib.hid hL
 clear hL
 by_cases hlt : L < n
 ·go_wp2_with (fail)
  refine (fail_any 3 rfl HR.out).mono ?_
  rintro e w2 ⟨rfl, hr, hb⟩
  have HR2 := Lib.hid hr
  have HB2 := Lib.hid (HB.out.trans hb (by have := HB.out.size; omega))
  have HT := Lib.hid hlt
  clear hr hb hlt
  go_wp2
  go_ret
  refine ⟨_, [], rfl, by simp, HR2.out, HB2.out, P.Ran.bind P.errs_few HP.out ?_⟩
  refine ⟨fun h0 => ?_, fun h0 r u hu => ?_, fun h0 e he => ?_⟩
  ·unfold P.fail; rw [if_neg h0]
  ·unfold P.take at hu
   rw [if_pos (by have := HT.out; have := HL.out; simp only; omega)] at hu
   cases hu
  ·unfold P.take at he
   rw [if_pos (by have := HT.out; have := HL.out; simp only; omega)] at he
   cases he
   simp only at h0
   unfold P.fail; rw [if_pos h0]
 ·have HT := Lib.hid hlt
  have fin : ∀ (w2 : World) (A' : Option Addr) (c' : Nat), w2 = w1.setCell ⟨g, 0, none⟩ (.slice A' (L - n) c') → L - n ≤ c' → (0 < L - n → ∃ b o o', A = some ⟨b, o, none⟩ ∧ A' = some ⟨b, o', none⟩ ∧ o' = o + n) → Rn P.text encT (·.length ≤ 8) g s w (.returned (encT (xs.take n))) w2 := by
   intro w2 A' c' e hc' ha
   subst e
   have hL := HL.out
   have hT := HT.out
   refine ⟨⟨xs.drop n, er⟩, xs.take n, rfl, (show (xs.take n).length ≤ 8 by rw [List.length_take]; have := HN.out; omega), ⟨A', c', ?_, ?_, ?_⟩, ?_, ?_⟩
   ·have := H.out.put 0 (.slice A' (L - n) c')
    simp only [List.length_drop]
    rw [← hL]
    exact this
   ·simp only [List.length_drop]; omega
   ·intro h0
    simp only [List.length_drop] at h0
    obtain ⟨b, o, o', e1, e2, e3⟩ := ha (by omega)
    obtain ⟨b', o1, e4, hb', hx⟩ := HX.out (by simp only; omega)
    rw [e1] at e4
    cases e4
    refine ⟨b, o', e2, hb', fun j x hj => ?_⟩
    simp only [List.getElem?_drop] at hj
    subst e3
    have := hx (n + j) x hj
    rw [Nat.add_assoc]
    exact (World.cell?_of_block (w := w1) ((Bel.store w1 g 0 _).block b (by have := HG.out; omega) (by omega))).trans this
   ·exact HB.out.trans (Bel.store w1 g 0 _) (by have := HB.out.size; omega)
   ·refine P.Ran.bind P.errs_few HP.out ⟨fun h0 => rfl, fun h0 r u hu => ?_, fun h0 e he => ?_⟩
    ·unfold P.take at hu
     rw [if_neg (by simp only; omega)] at hu
     cases hu
     simp only at h0
     exact ⟨by rw [h0], rfl⟩
    ·unfold P.take at he
     rw [if_neg (by simp only; omega)] at he
     cases he
  have FIN := Lib.hid fin
  clear fin
  cases A with
  | none =>
    obtain rfl : L = 0 := by
     rcases Nat.eq_zero_or_pos L with h | h
     ·exact h
     ·obtain ⟨b, o, e, -⟩ := HX.out (by simp only; have := HL.out; omega)
      cases e
    obtain rfl : n = 0 := by omega
    have hcv := conv_none w1 c
    go_wp2
    go_ret
    exact FIN.out _ none c rfl (Nat.zero_le _) (fun h => absurd h (by omega))
  | some a =>
    have zero : ∀ (a : Addr), (convert 22 9 (.slice (some a) 0 c)).run Tryz.prog w1 = .ok (encT []) w1 := fun a => run_convert_bytes_back (P := Tryz.prog) w1 22 9 5 a c [] Tryz.underlying22 Tryz.underlying5 Tryz.underlying9 (fun j hj => absurd hj (by simp))
    by_cases h0 : L = 0
    ·subst h0
     obtain rfl : n = 0 := by omega
     by_cases hc0 : c = 0
     ·subst hc0
      have z1 := zero a
      go_wp2
      go_ret
      exact FIN.out _ _ _ rfl (Nat.zero_le _) (fun h => absurd h (by omega))
     ·go_wp2
      go_ret
      exact FIN.out _ _ _ rfl (Nat.zero_le _) (fun h => absurd h (by omega))
    ·obtain ⟨b, o, e, hb, hx⟩ := HX.out (by simp only; have := HL.out; omega)
     cases e
     have hnl : n ≤ xs.length := by have := HL.out; omega
     have hlc : L ≤ c := by have := HL.out; have := HC.out; simp only at this; omega
     have hcv := conv_take (c := c) hx hnl
     have hnc : n ≤ c := by omega
     have hnl' : n ≤ L := by omega
     have hc1 : ¬ c = 0 := by omega
     clear zero hx hnl
     by_cases hn : n = c
     ·subst hn
      obtain rfl : L = n := by omega
      go_wp2
      go_ret
      exact FIN.out _ (some ⟨b, o, none⟩) 0 (by rw [Nat.sub_self]) (by omega) (fun h => absurd h (by omega))
     ·go_wp2
      go_ret
      exact FIN.out _ (some ⟨b, o + n, none⟩) (c - n) rfl (by omega) (fun _ => ⟨b, o, o + n, rfl, rfl, rfl⟩)
open Go.ChangeShapes Go.WideShapes Go.ChangeAt Go.RowKit
theorem step_app {P : Program} {ops : Array Oper} {o : Oper} {a : Act} {w : World} {K : Act → World → Prop} {Q : Exit → Act → World → Prop} {E : Prop}
 (hg : o.guard = none) (s x : Operand) (t tn : TypeId) (hop : o.op = Op.call { callee := Callee.builtin Builtin.append, args := #[s, x], argTypes := #[t, tn] })
 (vs vx : Value) (hs : a.eval s = vs) (hx : a.eval x = vx) (v' : Value) (w' : World) (hr : (Builtin.append_ #[t, tn] o.type #[vs, vx]).run P w = .ok v' w')
 (hK : K (a.put o.dst v') w') : if Region.wanted o (yielded ops a.tmps) = true then Oper.wp P o a w K Q else E := by
 have hw : Region.wanted o (yielded ops a.tmps) = true := by simp [Region.wanted, hg]
 rw [if_pos hw]
 unfold Oper.wp
 simp [execOp, hop, resolve, invoke, builtin, hs, hx, hr, Result.andThen]
 exact hK
theorem enter97 (v : Array Value) (w : World) : (callFunc 170 v).run Tryz.prog w = .ok (.enter 170 v) w := by kernel_rfl
theorem enter100 (v : Array Value) (w : World) : (callFunc 173 v).run Tryz.prog w = .ok (.enter 173 v) w := by kernel_rfl
theorem step_go {ops : Array Oper} {o : Oper} {a : Act} {w : World} {K : Act → World → Prop} {Q : Exit → Act → World → Prop} {E : Prop}
 (F : FuncId) (hen : ∀ v w, (callFunc F v).run Tryz.prog w = .ok (.enter F v) w)
 (hg : o.guard = none) (xs : Array Operand) (t : Array TypeId) (hop : o.op = Op.call { callee := Callee.value (.func F), args := xs, argTypes := t })
 (vs : Array Value) (hx : xs.map a.eval = vs) {Φ : Value → World → Prop} (h : Calls Tryz.prog F vs w fun e w' => ∃ v, e = .returned v ∧ Φ v w')
 (hK : ∀ v w', Φ v w' → K (a.put o.dst v) w') : if Region.wanted o (yielded ops a.tmps) = true then Oper.wp Tryz.prog o a w K Q else E := by
 have hw : Region.wanted o (yielded ops a.tmps) = true := by simp [Region.wanted, hg]
 rw [if_pos hw]
 unfold Oper.wp
 obtain ⟨dst, op, ty, pos, after, guard⟩ := o
 simp only at hop
 subst hop
 rw [execOp_call_go]
 have e : (#[] ++ xs.map a.eval ++ #[] : Array Value) = vs := by rw [hx]; simp
 rw [e, hen]
 refine h.mono ?_
 rintro e w' ⟨v, rfl, ho⟩
 exact hK v w' ho
theorem ownsRow_bel {w w' : World} {g base : Nat} {t : TypeId} {k : Nat} {v : Value} {n : Nat} {xs : List Value} (h : w.ownsRow base t k v n xs) (hb : Bel g w.heap.size w w') (hg : g < base) : w'.ownsRow base t k v n xs := by
 refine ⟨h.1, ?_⟩
 rcases h.2 with h0 | ⟨b, cap, cur, hv, hbb, hblk, r⟩
 ·exact .inl h0
 ·exact .inr ⟨b, cap, cur, hv, hbb, (hb.block b (Array.getElem?_eq_some_iff.1 hblk).1 (by omega)).trans hblk, r⟩
theorem ownsRow_grown {w w' : World} {base : Nat} {t : TypeId} {k : Nat} {v : Value} {n : Nat} {xs : List Value} {row : Option Nat} (h : w.ownsRow base t k v n xs) (hb : w.grownBy w' row) (hr : ∀ b cur, row = some b → w.heap[b]? ≠ some (.cells cur t (0, 0))) : w'.ownsRow base t k v n xs := by
 refine ⟨h.1, ?_⟩
 rcases h.2 with h0 | ⟨b, cap, cur, hv, hbb, hblk, r⟩
 ·exact .inl h0
 ·exact .inr ⟨b, cap, cur, hv, hbb, (hb.block b (Array.getElem?_eq_some_iff.1 hblk).1 (fun e => hr b cur e.symm hblk)).trans hblk, r⟩
theorem ownsRow_type {w : World} {base : Nat} {t u : TypeId} {k : Nat} {v : Value} {n : Nat} {xs : List Value} (h : w.ownsRow base t k v n xs) (hu : t ≠ u) : ∀ b cur, v.ownBlock = some b → w.heap[b]? ≠ some (.cells cur u (0, 0)) := by
 intro b cur e hblk
 rcases h.2 with ⟨rfl, -⟩ | ⟨b', cap, cur', rfl, hbb, hblk', r⟩
 ·cases e
 ·cases e
  rw [hblk] at hblk'
  cases hblk'
  exact hu rfl
theorem ownsRow_ge {w : World} {base : Nat} {t : TypeId} {k : Nat} {v : Value} {n : Nat} {xs : List Value} (h : w.ownsRow base t k v n xs) : ∀ b, v.ownBlock = some b → base ≤ b := by
 intro b e
 rcases h.2 with ⟨rfl, -⟩ | ⟨b', cap, cur', rfl, hbb, r⟩
 ·cases e
 ·cases e; exact hbb
def Z9 : List Value := [.int .i64 0,.int .i64 0,.int .i64 0,.int .i64 0,.int .i64 0,.int .i64 0,.slice none 0 0,.slice none 0 0,.bool false]
structure Cst (w : World) (g q cb base : Nat) (L : List Value) (va vb : Value) (cm : Bool) (rs : List (List UInt8 × Int × Int)) (ws : List (List UInt8 × List UInt8)) : Prop where
 box : Hold w q 202 [.pointer (some ⟨g, 0, none⟩)]
 res : Hold w (q + 1) 63 Z9
 cmd : Hold w cb 63 (L ++ [va, vb,.bool cm])
 ra : w.ownsRow base 113 3 va rs.length (rdsC rs)
 rb : w.ownsRow base 115 2 vb ws.length (wrsC ws)
 six : L.length = 6
 gq : g < q
 qc : q + 1 < cb
 cbb : cb < base
 top : base ≤ w.heap.size
theorem Cst.bel {w w' : World} {g q cb base : Nat} {L : List Value} {va vb : Value} {cm : Bool} {rs : List (List UInt8 × Int × Int)} {ws : List (List UInt8 × List UInt8)} (h : Cst w g q cb base L va vb cm rs ws) (k : Bel g w.heap.size w w') : Cst w' g q cb base L va vb cm rs ws :=
 have h1 := h.gq; have h2 := h.qc; have h3 := h.cbb
 ⟨h.box.bel k (by omega), h.res.bel k (by omega), h.cmd.bel k (by omega), ownsRow_bel h.ra k (by omega), ownsRow_bel h.rb k (by omega), h.six, h.gq, h.qc, h.cbb, Nat.le_trans h.top k.size⟩
theorem Cst.atA {w : World} {g q cb base : Nat} {L : List Value} {va vb : Value} {cm : Bool} {rs : List (List UInt8 × Int × Int)} {ws : List (List UInt8 × List UInt8)} (h : Cst w g q cb base L va vb cm rs ws) : w.cell? ⟨cb, 6, none⟩ = some va :=
 h.cmd.cell 6 (by rw [List.getElem?_append_right (by rw [h.six]; omega), h.six]; rfl)
theorem Cst.atB {w : World} {g q cb base : Nat} {L : List Value} {va vb : Value} {cm : Bool} {rs : List (List UInt8 × Int × Int)} {ws : List (List UInt8 × List UInt8)} (h : Cst w g q cb base L va vb cm rs ws) : w.cell? ⟨cb, 7, none⟩ = some vb :=
 h.cmd.cell 7 (by rw [List.getElem?_append_right (by rw [h.six]; omega), h.six]; rfl)
theorem rds_one (w : World) (x : List UInt8 × Int × Int) : Rds (w.alloc (.cells (rdC x).toArray 113)) (.slice (some ⟨w.heap.size, 0, none⟩) 1 1) [x] :=
 ⟨rfl, some ⟨w.heap.size, 0, none⟩, 1, rfl, Nat.le_refl _, fun _ => ⟨w.heap.size, 0, rfl, by simp, fun j y hj => by
  rw [Nat.zero_add]
  exact (Cel.new w (rdC x) 113).get j y (by simpa [rdsC] using hj)⟩⟩
theorem wrs_one (w : World) (x : List UInt8 × List UInt8) : Wrs (w.alloc (.cells (wrC x).toArray 115)) (.slice (some ⟨w.heap.size, 0, none⟩) 1 1) [x] :=
 ⟨rfl, some ⟨w.heap.size, 0, none⟩, 1, rfl, Nat.le_refl _, fun _ => ⟨w.heap.size, 0, rfl, by simp, fun j y hj => by
  rw [Nat.zero_add]
  exact (Cel.new w (wrC x) 115).get j y (by simpa [wrsC] using hj)⟩⟩
theorem Rdr.low {w w' : World} {g B : Nat} {s : P.Sr} (h : Rdr w g s) (k : Below B w w') (hB : g < B) : Rdr w' g s := by
 obtain ⟨A, c, h, hc, hx⟩ := h
 refine ⟨A, c, (k.block g hB).trans h, hc, fun h0 => ?_⟩
 obtain ⟨b', o, e, hb', hx⟩ := hx h0
 exact ⟨b', o, e, hb', fun j x hj => (World.cell?_of_block (w := w) (k.block b' (by omega))).trans (hx j x hj)⟩
theorem Cst.putA {w : World} {g q cb base : Nat} {L : List Value} {va vb : Value} {cm : Bool} {rs : List (List UInt8 × Int × Int)} {ws : List (List UInt8 × List UInt8)} (h : Cst w g q cb base L va vb cm rs ws) (x : List UInt8 × Int × Int) (hl : rs.length ≤ 1000) :
 ∃ v' w', (Builtin.append_ #[60, 60] 60 #[va,.slice (some ⟨w.heap.size, 0, none⟩) 1 1]).run Tryz.prog (w.alloc (.cells (rdC x).toArray 113)) = .ok v' w' ∧ w'.cell? ⟨cb, 6, none⟩ = some va ∧ w'.frozen? ⟨cb, 6, none⟩ = false ∧
   Cst (w'.setCell ⟨cb, 6, none⟩ v') g q cb base L v' vb cm (rs ++ [x]) ws ∧ Below q w (w'.setCell ⟨cb, 6, none⟩ v') := by
 have hgq := h.gq
 have hqc := h.qc
 have hcb := h.cbb
 have htop := h.top
 obtain ⟨v', w', hr, hown, hgrow⟩ := append_rds (World.ownsRow.alloc h.ra (.cells (rdC x).toArray 113)) (rds_one w x) (by simp; omega) (by simp; omega)
 have hge := ownsRow_ge h.ra
 have hs : (w.alloc (.cells (rdC x).toArray 113)).heap.size = w.heap.size + 1 := by simp
 have hgs := hgrow.size
 have kbox : Hold w' q 202 [.pointer (some ⟨g, 0, none⟩)] := (hgrow.block q (by have := h.box.lt; omega) (fun e => by have := hge q e.symm; omega)).trans (h.box.alloc _)
 have kres : Hold w' (q + 1) 63 Z9 := (hgrow.block (q + 1) (by have := h.res.lt; omega) (fun e => by have := hge (q + 1) e.symm; omega)).trans (h.res.alloc _)
 have kcmd : Hold w' cb 63 (L ++ [va, vb,.bool cm]) := (hgrow.block cb (by omega) (fun e => by have := hge cb e.symm; omega)).trans (h.cmd.alloc _)
 have kra : w'.ownsRow base 113 3 v' (rs ++ [x]).length (rdsC (rs ++ [x])) := by
  have e1 : (rs ++ [x]).length = rs.length + 1 := by simp
  have e2 : rdsC (rs ++ [x]) = rdsC rs ++ rdsC [x] := by unfold rdsC; rw [List.flatMap_append]
  rw [e1, e2]; exact hown
 have krb : w'.ownsRow base 115 2 vb ws.length (wrsC ws) := ownsRow_grown (World.ownsRow.alloc h.rb (.cells (rdC x).toArray 113)) hgrow (ownsRow_type (World.ownsRow.alloc h.ra (.cells (rdC x).toArray 113)) (by decide))
 have kset := kcmd.put 6 v'
 have e3 : (L ++ [va, vb,.bool cm]).set 6 v' = L ++ [v', vb,.bool cm] := by
  rw [List.set_append_right _ _ (by rw [h.six]; omega), h.six]; rfl
 rw [e3] at kset
 have hst : Bel cb w'.heap.size w' (w'.setCell ⟨cb, 6, none⟩ v') := Bel.store w' cb 6 v'
 refine ⟨v', w', hr, kcmd.cell 6 (by rw [List.getElem?_append_right (by rw [h.six]; omega), h.six]; rfl), kcmd.soft 6, ⟨kbox.bel hst (by omega), kres.bel hst (by omega), kset, ownsRow_bel kra hst hcb, ownsRow_bel krb hst hcb, h.six, hgq, hqc, hcb, ?_⟩, ?_⟩
 ·have := hst.size; omega
 ·exact (((Below.refl q w).alloc (by omega) _).grown hgrow (by omega) (fun k e => by have := hge k e; omega)).setCell (by simp only; omega) v'
theorem Cst.putB {w : World} {g q cb base : Nat} {L : List Value} {va vb : Value} {cm : Bool} {rs : List (List UInt8 × Int × Int)} {ws : List (List UInt8 × List UInt8)} (h : Cst w g q cb base L va vb cm rs ws) (x : List UInt8 × List UInt8) (hl : ws.length ≤ 1000) :
 ∃ v' w', (Builtin.append_ #[61, 61] 61 #[vb,.slice (some ⟨w.heap.size, 0, none⟩) 1 1]).run Tryz.prog (w.alloc (.cells (wrC x).toArray 115)) = .ok v' w' ∧ w'.cell? ⟨cb, 7, none⟩ = some vb ∧ w'.frozen? ⟨cb, 7, none⟩ = false ∧
   Cst (w'.setCell ⟨cb, 7, none⟩ v') g q cb base L va v' cm rs (ws ++ [x]) ∧ Below q w (w'.setCell ⟨cb, 7, none⟩ v') := by
 have hgq := h.gq
 have hqc := h.qc
 have hcb := h.cbb
 have htop := h.top
 obtain ⟨v', w', hr, hown, hgrow⟩ := append_wrs (World.ownsRow.alloc h.rb (.cells (wrC x).toArray 115)) (wrs_one w x) (by simp; omega) (by simp; omega)
 have hge := ownsRow_ge h.rb
 have hs : (w.alloc (.cells (wrC x).toArray 115)).heap.size = w.heap.size + 1 := by simp
 have hgs := hgrow.size
 have kbox : Hold w' q 202 [.pointer (some ⟨g, 0, none⟩)] := (hgrow.block q (by have := h.box.lt; omega) (fun e => by have := hge q e.symm; omega)).trans (h.box.alloc _)
 have kres : Hold w' (q + 1) 63 Z9 := (hgrow.block (q + 1) (by have := h.res.lt; omega) (fun e => by have := hge (q + 1) e.symm; omega)).trans (h.res.alloc _)
 have kcmd : Hold w' cb 63 (L ++ [va, vb,.bool cm]) := (hgrow.block cb (by omega) (fun e => by have := hge cb e.symm; omega)).trans (h.cmd.alloc _)
 have kra : w'.ownsRow base 115 2 v' (ws ++ [x]).length (wrsC (ws ++ [x])) := by
  have e1 : (ws ++ [x]).length = ws.length + 1 := by simp
  have e2 : wrsC (ws ++ [x]) = wrsC ws ++ wrsC [x] := by unfold wrsC; rw [List.flatMap_append]
  rw [e1, e2]; exact hown
 have krb : w'.ownsRow base 113 3 va rs.length (rdsC rs) := ownsRow_grown (World.ownsRow.alloc h.ra (.cells (wrC x).toArray 115)) hgrow (ownsRow_type (World.ownsRow.alloc h.rb (.cells (wrC x).toArray 115)) (by decide))
 have kset := kcmd.put 7 v'
 have e3 : (L ++ [va, vb,.bool cm]).set 7 v' = L ++ [va, v',.bool cm] := by
  rw [List.set_append_right _ _ (by rw [h.six]; omega), h.six]; rfl
 rw [e3] at kset
 have hst : Bel cb w'.heap.size w' (w'.setCell ⟨cb, 7, none⟩ v') := Bel.store w' cb 7 v'
 refine ⟨v', w', hr, kcmd.cell 7 (by rw [List.getElem?_append_right (by rw [h.six]; omega), h.six]; rfl), kcmd.soft 7, ⟨kbox.bel hst (by omega), kres.bel hst (by omega), kset, ownsRow_bel krb hst hcb, ownsRow_bel kra hst hcb, h.six, hgq, hqc, hcb, ?_⟩, ?_⟩
 ·have := hst.size; omega
 ·exact (((Below.refl q w).alloc (by omega) _).grown hgrow (by omega) (fun k e => by have := hge k e; omega)).setCell (by simp only; omega) v'
open Go.ChangeShapes Go.WideShapes Go.ChangeAt Go.RowKit
def Item {α : Type} (p : P.Ps α) (I : World → α → Prop) (g q : Nat) (s : P.Sr) (w : World) (e : Ending) (w' : World) : Prop :=
 e = .returned (.tuple #[]) ∧ ∃ s2 x, Rdr w' g s2 ∧ I w' x ∧ Bel g q w w' ∧ P.Ran p s s2 x
theorem Bel.belw {g B : Nat} {a w w' : World} (h : Bel g B a w) (k : Below B w w') : Bel g B a w' := ⟨k.os.trans h.os, k.tape.trans h.tape, k.output.trans h.output, Nat.le_trans h.size k.size, fun i hi hg => (k.block i hi).trans (h.block i hi hg)⟩
theorem Bel.undrew {g : Nat} {w w' : World} (h : Bel g w.drew.heap.size w.drew w') : Bel g w.heap.size w w' := ⟨h.os, h.tape, h.output, h.size, h.block⟩
theorem item_rd {w : World} {g q cb base : Nat} {L : List Value} {va vb : Value} {cm : Bool} {rs : List (List UInt8 × Int × Int)} {ws : List (List UInt8 × List UInt8)} {s : P.Sr} (h : Rdr w g s) (C : Cst w g q cb base L va vb cm rs ws) (hl : rs.length ≤ 1000) :
 Calls Tryz.prog 172 #[.pointer (some ⟨q, 0, none⟩),.pointer (some ⟨cb, 0, none⟩)] w (Item P.rd (fun w' x => ∃ v, Cst w' g q cb base L v vb cm (rs ++ [x]) ws) g q s w) := by
 have R0 := Lib.hid h
 have C0 := Lib.hid C
 have bq := C.box.cell 0 rfl
 have HL := Lib.hid hl
 clear h C hl
 go_enter Tryz.func172, Tryz.ntmps172
 go_wp2_with (fail)
 refine (text_any R0.out).mono ?_
 rintro e w1 ⟨s1, k, rfl, hk, hr, hb, hp⟩
 have R1 := Lib.hid hr
 have B1 := Lib.hid hb
 have P1 := Lib.hid hp
 have C1 := Lib.hid (C0.out.bel hb)
 clear hr hb hp bq hk
 have bq := C1.out.box.cell 0 rfl
 have c6 := C1.out.atA
 go_wp2
 go_region_law (first
  | (refine step_go 170 enter97 rfl #[.tmp 8] #[202] rfl #[.pointer (some ⟨g, 0, none⟩)] (by simp [Act.eval]) (Φ := fun v w' => ∃ s2 s3 a b, v = .agg #[encN a, encN b] ∧ Rdr w' g s3 ∧ Bel g w1.heap.size w1 w' ∧ P.Ran P.num s1 s2 a ∧ P.Ran P.num s2 s3 b) ((stamp_any (w := w1.drew) (R1.out.drew)).mono (by rintro e w' ⟨s2, s3, a, b, rfl, -, -, hr, hb, h1, h2⟩; exact ⟨_, rfl, s2, s3, a, b, rfl, hr, hb.undrew, h1, h2⟩)) ?_
     rintro v w2 ⟨s2, s3, a, b, rfl, hr2, hb2, hp2, hp3⟩
     have R2 := Lib.hid hr2
     have B2 := Lib.hid hb2
     have P2 := Lib.hid hp2
     have P3 := Lib.hid hp3
     have C2 := Lib.hid (C1.out.bel hb2)
     have c6' := C2.out.atA
     have c6'' : (w2.alloc (.cells #[encT k, encN a, encN b] 113)).cell? ⟨cb, 6, none⟩ = some va := (World.cell?_alloc_lt w2 _ _ (by have := C2.out.cmd.lt; exact this)).trans c6'
     obtain ⟨v', w', hrun, hcell, hsoft, hcst, hbel⟩ := C2.out.putA (k, (a : Int), (b : Int)) HL.out
     obtain ⟨A3, k3, hv3⟩ := ownsRow_slice hcst.ra
     rw [List.length_append, List.length_singleton] at hv3
     subst hv3
     have C3 := Lib.hid hcst
     have B3 := Lib.hid hbel
     clear hr2 hb2 hp2 hp3 hcst hbel)
  | refine step_app rfl (.tmp 6) (.tmp 11) 60 60 rfl _ _ (by simp [Act.eval]) (by simp [Act.eval]) _ _ hrun ?_)
 all_goals
  go_wp2
  refine bodyPost_end (v := .tuple #[]) (by simp [results, Tryz.results172]) rfl ?_
  refine ⟨rfl, s3, (k, (a : Int), (b : Int)), (R2.out.low B3.out C0.out.gq), ⟨_, C3.out⟩, ?_, ?_⟩
  ·exact ((B1.out.mono (Nat.le_of_lt C0.out.box.lt)).on (B2.out) (.inl rfl) (by have := C0.out.box.lt; have := B1.out.size; omega)).belw B3.out
  ·exact P.Ran.bind P.errs_text P1.out (P.Ran.bind P.errs_num P2.out (P.Ran.bind P.errs_num P3.out (P.Ran.ret _ _)))
theorem item_wr {w : World} {g q cb base : Nat} {L : List Value} {va vb : Value} {cm : Bool} {rs : List (List UInt8 × Int × Int)} {ws : List (List UInt8 × List UInt8)} {s : P.Sr} (h : Rdr w g s) (C : Cst w g q cb base L va vb cm rs ws) (hl : ws.length ≤ 1000) :
 Calls Tryz.prog 174 #[.pointer (some ⟨q, 0, none⟩),.pointer (some ⟨cb, 0, none⟩)] w (Item P.wr (fun w' x => ∃ v, Cst w' g q cb base L va v cm rs (ws ++ [x])) g q s w) := by
 have R0 := Lib.hid h
 have C0 := Lib.hid C
 have bq := C.box.cell 0 rfl
 have HL := Lib.hid hl
 clear h C hl
 go_enter Tryz.func174, Tryz.ntmps174
 go_wp2_with (fail)
 refine (text_any R0.out).mono ?_
 rintro e w1 ⟨s1, k, rfl, hk, hr, hb, hp⟩
 have R1 := Lib.hid hr
 have B1 := Lib.hid hb
 have P1 := Lib.hid hp
 have C1 := Lib.hid (C0.out.bel hb)
 clear hr hb hp bq hk
 have bq := C1.out.box.cell 0 rfl
 have c6 := C1.out.atB
 go_wp2
 go_region_law (first
  | (refine step_go 173 enter100 rfl #[.tmp 8, .const (.int .i64 8)] #[202, 3] rfl #[.pointer (some ⟨g, 0, none⟩),.int .i64 8] (by simp [Act.eval]) (Φ := fun v w' => ∃ s2 b, v = encT b ∧ Rdr w' g s2 ∧ Bel g w1.heap.size w1 w' ∧ P.Ran P.text s1 s2 b) ((text_any (w := w1.drew) (R1.out.drew)).mono (by rintro e w' ⟨s2, b, rfl, -, hr, hb, h1⟩; exact ⟨_, rfl, s2, b, rfl, hr, hb.undrew, h1⟩)) ?_
     rintro v w2 ⟨s2, b, rfl, hr2, hb2, hp2⟩
     have R2 := Lib.hid hr2
     have B2 := Lib.hid hb2
     have P2 := Lib.hid hp2
     have C2 := Lib.hid (C1.out.bel hb2)
     have c6' := C2.out.atB
     have c6'' : (w2.alloc (.cells #[encT k, encT b] 115)).cell? ⟨cb, 7, none⟩ = some vb := (World.cell?_alloc_lt w2 _ _ (by have := C2.out.cmd.lt; exact this)).trans c6'
     obtain ⟨v', w', hrun, hcell, hsoft, hcst, hbel⟩ := C2.out.putB (k, b) HL.out
     obtain ⟨A3, k3, hv3⟩ := ownsRow_slice hcst.rb
     rw [List.length_append, List.length_singleton] at hv3
     subst hv3
     have C3 := Lib.hid hcst
     have B3 := Lib.hid hbel
     clear hr2 hb2 hp2 hcst hbel)
  | refine step_app rfl (.tmp 6) (.tmp 11) 61 61 rfl _ _ (by simp [Act.eval]) (by simp [Act.eval]) _ _ hrun ?_)
 all_goals
  go_wp2
  refine bodyPost_end (v := .tuple #[]) (by simp [results, Tryz.results174]) rfl ?_
  refine ⟨rfl, s2, (k, b), (R2.out.low B3.out C0.out.gq), ⟨_, C3.out⟩, ?_, ?_⟩
  ·exact ((B1.out.mono (Nat.le_of_lt C0.out.box.lt)).on (B2.out) (.inl rfl) (by have := C0.out.box.lt; have := B1.out.size; omega)).belw B3.out
  ·exact P.Ran.bind P.errs_text P1.out (P.Ran.bind P.errs_text P2.out (P.Ran.ret _ _))
open Go.ChangeShapes Go.WideShapes Go.ChangeAt Go.RowKit
theorem Bel.next {g B : Nat} {a w w' : World} (h : Bel g B a w) (k : Bel g B w w') : Bel g B a w' := ⟨k.os.trans h.os, k.tape.trans h.tape, k.output.trans h.output, Nat.le_trans h.size k.size, fun i hi hg => (k.block i hi hg).trans (h.block i hi hg)⟩
theorem each_rd {w : World} {g q cb base : Nat} {L : List Value} {va vb : Value} {cm : Bool} {rs : List (List UInt8 × Int × Int)} {ws : List (List UInt8 × List UInt8)} {s : P.Sr} (h : Rdr w g s) (C : Cst w g q cb base L va vb cm rs ws) (e0 : rs = []) :
 Calls Tryz.prog 171 #[.pointer (some ⟨g, 0, none⟩), .func (.func 172) #[] #[.pointer (some ⟨q, 0, none⟩),.pointer (some ⟨cb, 0, none⟩)]] w
  fun e w' => e = .returned (.tuple #[]) ∧ ∃ s1 s2 n l v, P.Ran P.few s s1 n ∧ Rdr w' g s2 ∧ Cst w' g q cb base L v vb cm l ws ∧ Bel g q w w' ∧ P.Ran (P.rep P.rd n) s1 s2 l ∧ n ≤ 8 ∧ l.length = n := by
 subst e0
 have R0 := Lib.hid h
 have C0 := Lib.hid C
 have hqw := C.box.lt
 have HQ := Lib.hid hqw
 clear h C hqw
 go_enter Tryz.func171, Tryz.ntmps171
 go_wp2_with (fail)
 refine (count_any R0.out).mono ?_
 rintro e w1 ⟨s1, n, rfl, hn, hr, hb, hp⟩
 have R1 := Lib.hid hr
 have B1 := Lib.hid hb
 have P1 := Lib.hid hp
 have C1 := Lib.hid (C0.out.bel hb)
 clear hr hb hp
 go_wp2
 go_loopw [6] (fun i wr => ∃ (k : Nat) (s2 : P.Sr) (l : List (List UInt8 × Int × Int)) (v : Value), k ≤ n ∧ i = .int .i64 k ∧ Rdr wr g s2 ∧ Cst wr g q cb base L v vb cm l ws ∧ Bel g q w wr ∧ P.Ran (P.rep P.rd k) s1 s2 l ∧ l.length = k) (fun i _ => n - (intOf i).toNat)
 case atStart => exact ⟨0, s1, [], _, Nat.zero_le _, rfl, R1.out, C1.out, (B1.out.mono (Nat.le_of_lt HQ.out)), P.Ran.ret _ _, rfl⟩
 case round =>
  obtain ⟨k, s2, l, v, hk, rfl, hr, hc, hb, hp, hlen⟩ := hrel
  have R2 := Lib.hid hr
  have C2 := Lib.hid hc
  have B2 := Lib.hid hb
  have P2 := Lib.hid hp
  have HL := Lib.hid hlen
  have HK := Lib.hid hk
  have HN := Lib.hid hn
  clear hr hc hb hp hlen
  by_cases hlt : k < n
  ·go_wp2_with (fail)
   refine (item_rd R2.out C2.out (by have := HL.out; have := HN.out; omega)).mono ?_
   rintro e w3 ⟨rfl, s3, x, hr, ⟨v3, hc⟩, hb, hp⟩
   have R3 := Lib.hid hr
   have C3 := Lib.hid hc
   have B3 := Lib.hid (B2.out.next hb)
   have P3 := Lib.hid hp
   clear hr hc hb hp
   go_wp2
   go_roundw
   case rel => exact ⟨k + 1, s3, l ++ [x], v3, by omega, by go_num, R3.out, C3.out, B3.out, P.Ran.snoc P.errs_rd P2.out P3.out, by have := HL.out; simp; omega⟩
   case measure => simp [intOf]; omega
  ·obtain rfl : k = n := by omega
   go_wp2
   refine bodyPost_end (v := .tuple #[]) (by simp [results, Tryz.results171]) rfl ?_
   exact ⟨rfl, s1, s2, k, l, v, P1.out, R2.out, C2.out, B2.out, P2.out, HN.out, HL.out⟩
theorem each_wr {w : World} {g q cb base : Nat} {L : List Value} {va vb : Value} {cm : Bool} {rs : List (List UInt8 × Int × Int)} {ws : List (List UInt8 × List UInt8)} {s : P.Sr} (h : Rdr w g s) (C : Cst w g q cb base L va vb cm rs ws) (e0 : ws = []) :
 Calls Tryz.prog 171 #[.pointer (some ⟨g, 0, none⟩), .func (.func 174) #[] #[.pointer (some ⟨q, 0, none⟩),.pointer (some ⟨cb, 0, none⟩)]] w
  fun e w' => e = .returned (.tuple #[]) ∧ ∃ s1 s2 n l v, P.Ran P.few s s1 n ∧ Rdr w' g s2 ∧ Cst w' g q cb base L va v cm rs l ∧ Bel g q w w' ∧ P.Ran (P.rep P.wr n) s1 s2 l ∧ n ≤ 8 ∧ l.length = n := by
 subst e0
 have R0 := Lib.hid h
 have C0 := Lib.hid C
 have hqw := C.box.lt
 have HQ := Lib.hid hqw
 clear h C hqw
 go_enter Tryz.func171, Tryz.ntmps171
 go_wp2_with (fail)
 refine (count_any R0.out).mono ?_
 rintro e w1 ⟨s1, n, rfl, hn, hr, hb, hp⟩
 have R1 := Lib.hid hr
 have B1 := Lib.hid hb
 have P1 := Lib.hid hp
 have C1 := Lib.hid (C0.out.bel hb)
 clear hr hb hp
 go_wp2
 go_loopw [6] (fun i wr => ∃ (k : Nat) (s2 : P.Sr) (l : List (List UInt8 × List UInt8)) (v : Value), k ≤ n ∧ i = .int .i64 k ∧ Rdr wr g s2 ∧ Cst wr g q cb base L va v cm rs l ∧ Bel g q w wr ∧ P.Ran (P.rep P.wr k) s1 s2 l ∧ l.length = k) (fun i _ => n - (intOf i).toNat)
 case atStart => exact ⟨0, s1, [], _, Nat.zero_le _, rfl, R1.out, C1.out, (B1.out.mono (Nat.le_of_lt HQ.out)), P.Ran.ret _ _, rfl⟩
 case round =>
  obtain ⟨k, s2, l, v, hk, rfl, hr, hc, hb, hp, hlen⟩ := hrel
  have R2 := Lib.hid hr
  have C2 := Lib.hid hc
  have B2 := Lib.hid hb
  have P2 := Lib.hid hp
  have HL := Lib.hid hlen
  have HK := Lib.hid hk
  have HN := Lib.hid hn
  clear hr hc hb hp hlen
  by_cases hlt : k < n
  ·go_wp2_with (fail)
   refine (item_wr R2.out C2.out (by have := HL.out; have := HN.out; omega)).mono ?_
   rintro e w3 ⟨rfl, s3, x, hr, ⟨v3, hc⟩, hb, hp⟩
   have R3 := Lib.hid hr
   have C3 := Lib.hid hc
   have B3 := Lib.hid (B2.out.next hb)
   have P3 := Lib.hid hp
   clear hr hc hb hp
   go_wp2
   go_roundw
   case rel => exact ⟨k + 1, s3, l ++ [x], v3, by omega, by go_num, R3.out, C3.out, B3.out, P.Ran.snoc P.errs_wr P2.out P3.out, by have := HL.out; simp; omega⟩
   case measure => simp [intOf]; omega
  ·obtain rfl : k = n := by omega
   go_wp2
   refine bodyPost_end (v := .tuple #[]) (by simp [results, Tryz.results171]) rfl ?_
   exact ⟨rfl, s1, s2, k, l, v, P1.out, R2.out, C2.out, B2.out, P2.out, HN.out, HL.out⟩
open Go.ChangeShapes Go.WideShapes Go.ChangeAt Go.RowKit
theorem bel_setCells (w : World) (b : Nat) : ∀ (L : List Value) (o : Nat), Bel b w.heap.size w (w.setCells b o L) := fun L o =>
 ⟨(below_setCells (Nat.zero_le b) L o w w (Below.refl 0 w)).os, (below_setCells (Nat.zero_le b) L o w w (Below.refl 0 w)).tape, (below_setCells (Nat.zero_le b) L o w w (Below.refl 0 w)).output, (below_setCells (Nat.zero_le b) L o w w (Below.refl 0 w)).size, fun _ hk hb => World.heap_setCells_other w b o L hk hb⟩
def RdC (g : Nat) (s : P.Sr) (w : World) (e : Ending) (w' : World) : Prop := ∃ (s1 : P.Sr) (c : M.Cmd) (va vb : Value), e = .returned (.agg #[.int .i64 c.k,.int .i64 c.tc,.int .i64 c.tn,.int .i64 c.tt,.int .i64 c.tk,.int .i64 c.sh, va, vb,.bool c.cm]) ∧ w'.ownsRow w.heap.size 113 3 va c.rs.length (rdsC c.rs) ∧ w'.ownsRow w.heap.size 115 2 vb c.ws.length (wrsC c.ws) ∧ Rdr w' g s1 ∧ Bel g w.heap.size w w' ∧ P.Ran P.cmd s s1 c ∧ c.rs.length ≤ 8 ∧ c.ws.length ≤ 8
theorem command_any {w : World} {g : Nat} {s : P.Sr} (h : Rdr w g s) : Calls Tryz.prog 148 #[.pointer (some ⟨g, 0, none⟩)] w (RdC g s w) := by
 have hg := h.lt
 have hmf := hmf
 have R0 := Lib.hid (((h.alloc (.cells #[.pointer (some ⟨g, 0, none⟩)] 202)).alloc (.cells #[.int .i64 0,.int .i64 0,.int .i64 0,.int .i64 0,.int .i64 0,.int .i64 0,.slice none 0 0,.slice none 0 0,.bool false] 63)).alloc (.cells #[.int .i64 0,.int .i64 0,.int .i64 0,.int .i64 0,.int .i64 0,.int .i64 0,.slice none 0 0,.slice none 0 0,.bool false] 63))
 have B0 := Lib.hid ((((Bel.refl g w.heap.size w).alloc (Nat.le_refl _) (.cells #[.pointer (some ⟨g, 0, none⟩)] 202)).alloc (by simp) (.cells #[.int .i64 0,.int .i64 0,.int .i64 0,.int .i64 0,.int .i64 0,.int .i64 0,.slice none 0 0,.slice none 0 0,.bool false] 63)).alloc (by simp; omega) (.cells #[.int .i64 0,.int .i64 0,.int .i64 0,.int .i64 0,.int .i64 0,.int .i64 0,.slice none 0 0,.slice none 0 0,.bool false] 63))
 have Q0 := Lib.hid (((Hold.new w [.pointer (some ⟨g, 0, none⟩)] 202).alloc (.cells #[.int .i64 0,.int .i64 0,.int .i64 0,.int .i64 0,.int .i64 0,.int .i64 0,.slice none 0 0,.slice none 0 0,.bool false] 63)).alloc (.cells #[.int .i64 0,.int .i64 0,.int .i64 0,.int .i64 0,.int .i64 0,.int .i64 0,.slice none 0 0,.slice none 0 0,.bool false] 63))
 have Z0 := Lib.hid ((show Hold ((w.alloc (.cells #[.pointer (some ⟨g, 0, none⟩)] 202)).alloc (.cells #[.int .i64 0,.int .i64 0,.int .i64 0,.int .i64 0,.int .i64 0,.int .i64 0,.slice none 0 0,.slice none 0 0,.bool false] 63)) (w.heap.size + 1) 63 [.int .i64 0,.int .i64 0,.int .i64 0,.int .i64 0,.int .i64 0,.int .i64 0,.slice none 0 0,.slice none 0 0,.bool false] by simpa using Hold.new (w.alloc (.cells #[.pointer (some ⟨g, 0, none⟩)] 202)) [.int .i64 0,.int .i64 0,.int .i64 0,.int .i64 0,.int .i64 0,.int .i64 0,.slice none 0 0,.slice none 0 0,.bool false] 63).alloc (.cells #[.int .i64 0,.int .i64 0,.int .i64 0,.int .i64 0,.int .i64 0,.int .i64 0,.slice none 0 0,.slice none 0 0,.bool false] 63))
 have C0 := Lib.hid (show Hold (((w.alloc (.cells #[.pointer (some ⟨g, 0, none⟩)] 202)).alloc (.cells #[.int .i64 0,.int .i64 0,.int .i64 0,.int .i64 0,.int .i64 0,.int .i64 0,.slice none 0 0,.slice none 0 0,.bool false] 63)).alloc (.cells #[.int .i64 0,.int .i64 0,.int .i64 0,.int .i64 0,.int .i64 0,.int .i64 0,.slice none 0 0,.slice none 0 0,.bool false] 63)) (w.heap.size + 2) 63 [.int .i64 0,.int .i64 0,.int .i64 0,.int .i64 0,.int .i64 0,.int .i64 0,.slice none 0 0,.slice none 0 0,.bool false] by simpa using Hold.new ((w.alloc (.cells #[.pointer (some ⟨g, 0, none⟩)] 202)).alloc (.cells #[.int .i64 0,.int .i64 0,.int .i64 0,.int .i64 0,.int .i64 0,.int .i64 0,.slice none 0 0,.slice none 0 0,.bool false] 63)) [.int .i64 0,.int .i64 0,.int .i64 0,.int .i64 0,.int .i64 0,.int .i64 0,.slice none 0 0,.slice none 0 0,.bool false] 63)
 clear h
 go_enter Tryz.func148, Tryz.ntmps148
 go_wp2_with (fail)
 refine (number_any R0.out).mono ?_
 rintro e w1 ⟨s1, a1, rfl, -, hr, hb, ha1⟩
 have R1 := Lib.hid hr
 have B1 := Lib.hid (B0.out.trans hb (by have := B0.out.size; omega))
 have Q1 := Lib.hid (Q0.out.bel hb (by omega))
 have Z1 := Lib.hid (Z0.out.bel hb (by omega))
 have C1 := Lib.hid (C0.out.bel hb (by omega))
 have Pa1 := Lib.hid ha1
 clear hr hb ha1
 clear R0 B0 Q0 Z0 C0
 have bq := Q1.out.cell 0 rfl
 have c0 := C1.out.cell 0 rfl
 have f0 := C1.out.soft 0
 have R1a := Lib.hid (R1.out.bel (Bel.store (w1) (w.heap.size + 2) 0 (encN a1)) (by omega))
 have B1a := Lib.hid (B1.out.on (Bel.store (w1) (w.heap.size + 2) 0 (encN a1)) (.inr (by omega)) B1.out.size)
 have Q1a := Lib.hid (Q1.out.bel (Bel.store (w1) (w.heap.size + 2) 0 (encN a1)) (by omega))
 have Z1a := Lib.hid (Z1.out.bel (Bel.store (w1) (w.heap.size + 2) 0 (encN a1)) (by omega))
 have C1a := Lib.hid (show Hold ((w1).setCell ⟨(w.heap.size + 2), 0, none⟩ (encN a1)) (w.heap.size + 2) 63 [encN a1,.int .i64 0,.int .i64 0,.int .i64 0,.int .i64 0,.int .i64 0,.slice none 0 0,.slice none 0 0,.bool false] from C1.out.put 0 (encN a1))
 clear R1 B1 Q1 Z1 C1
 go_wp2_with (fail)
 refine (number_any R1a.out).mono ?_
 rintro e w2 ⟨s2, a2, rfl, -, hr, hb, ha2⟩
 have R2 := Lib.hid hr
 have B2 := Lib.hid (B1a.out.trans hb (by have := B1a.out.size; omega))
 have Q2 := Lib.hid (Q1a.out.bel hb (by omega))
 have Z2 := Lib.hid (Z1a.out.bel hb (by omega))
 have C2 := Lib.hid (C1a.out.bel hb (by omega))
 have Pa2 := Lib.hid ha2
 clear hr hb ha2
 clear R1a B1a Q1a Z1a C1a
 clear bq c0 f0
 have bq := Q2.out.cell 0 rfl
 have c0 := C2.out.cell 1 rfl
 have f0 := C2.out.soft 1
 have R2a := Lib.hid (R2.out.bel (Bel.store (w2) (w.heap.size + 2) 1 (encN a2)) (by omega))
 have B2a := Lib.hid (B2.out.on (Bel.store (w2) (w.heap.size + 2) 1 (encN a2)) (.inr (by omega)) B2.out.size)
 have Q2a := Lib.hid (Q2.out.bel (Bel.store (w2) (w.heap.size + 2) 1 (encN a2)) (by omega))
 have Z2a := Lib.hid (Z2.out.bel (Bel.store (w2) (w.heap.size + 2) 1 (encN a2)) (by omega))
 have C2a := Lib.hid (show Hold ((w2).setCell ⟨(w.heap.size + 2), 1, none⟩ (encN a2)) (w.heap.size + 2) 63 [encN a1, encN a2,.int .i64 0,.int .i64 0,.int .i64 0,.int .i64 0,.slice none 0 0,.slice none 0 0,.bool false] from C2.out.put 1 (encN a2))
 clear R2 B2 Q2 Z2 C2
 go_wp2_with (fail)
 refine (number_any R2a.out).mono ?_
 rintro e w3 ⟨s3, a3, rfl, -, hr, hb, ha3⟩
 have R3 := Lib.hid hr
 have B3 := Lib.hid (B2a.out.trans hb (by have := B2a.out.size; omega))
 have Q3 := Lib.hid (Q2a.out.bel hb (by omega))
 have Z3 := Lib.hid (Z2a.out.bel hb (by omega))
 have C3 := Lib.hid (C2a.out.bel hb (by omega))
 have Pa3 := Lib.hid ha3
 clear hr hb ha3
 clear R2a B2a Q2a Z2a C2a
 clear bq c0 f0
 have bq := Q3.out.cell 0 rfl
 have c0 := C3.out.cell 2 rfl
 have f0 := C3.out.soft 2
 have R3a := Lib.hid (R3.out.bel (Bel.store (w3) (w.heap.size + 2) 2 (encN a3)) (by omega))
 have B3a := Lib.hid (B3.out.on (Bel.store (w3) (w.heap.size + 2) 2 (encN a3)) (.inr (by omega)) B3.out.size)
 have Q3a := Lib.hid (Q3.out.bel (Bel.store (w3) (w.heap.size + 2) 2 (encN a3)) (by omega))
 have Z3a := Lib.hid (Z3.out.bel (Bel.store (w3) (w.heap.size + 2) 2 (encN a3)) (by omega))
 have C3a := Lib.hid (show Hold ((w3).setCell ⟨(w.heap.size + 2), 2, none⟩ (encN a3)) (w.heap.size + 2) 63 [encN a1, encN a2, encN a3,.int .i64 0,.int .i64 0,.int .i64 0,.slice none 0 0,.slice none 0 0,.bool false] from C3.out.put 2 (encN a3))
 clear R3 B3 Q3 Z3 C3
 go_wp2_with (fail)
 refine (stamp_any R3a.out).mono ?_
 rintro e w4 ⟨t4, s4, a4, a5, rfl, -, -, hr, hb, ha4, ha5⟩
 have R4 := Lib.hid hr
 have B4 := Lib.hid (B3a.out.trans hb (by have := B3a.out.size; omega))
 have Q4 := Lib.hid (Q3a.out.bel hb (by omega))
 have Z4 := Lib.hid (Z3a.out.bel hb (by omega))
 have C4 := Lib.hid (C3a.out.bel hb (by omega))
 have Pa4 := Lib.hid ha4
 have Pa5 := Lib.hid ha5
 clear hr hb ha4 ha5
 clear R3a B3a Q3a Z3a C3a
 clear bq c0 f0
 have bq := Q4.out.cell 0 rfl
 have c0 := C4.out.cell 3 rfl
 have f0 := C4.out.soft 3
 have c1 := C4.out.cell 4 rfl
 have f1 := C4.out.soft 4
 have R4a := Lib.hid (R4.out.bel (Bel.store (w4) (w.heap.size + 2) 3 (encN a4)) (by omega))
 have B4a := Lib.hid (B4.out.on (Bel.store (w4) (w.heap.size + 2) 3 (encN a4)) (.inr (by omega)) B4.out.size)
 have Q4a := Lib.hid (Q4.out.bel (Bel.store (w4) (w.heap.size + 2) 3 (encN a4)) (by omega))
 have Z4a := Lib.hid (Z4.out.bel (Bel.store (w4) (w.heap.size + 2) 3 (encN a4)) (by omega))
 have C4a := Lib.hid (show Hold ((w4).setCell ⟨(w.heap.size + 2), 3, none⟩ (encN a4)) (w.heap.size + 2) 63 [encN a1, encN a2, encN a3, encN a4,.int .i64 0,.int .i64 0,.slice none 0 0,.slice none 0 0,.bool false] from C4.out.put 3 (encN a4))
 clear R4 B4 Q4 Z4 C4
 have R4b := Lib.hid (R4a.out.bel (Bel.store ((w4).setCell ⟨(w.heap.size + 2), 3, none⟩ (encN a4)) (w.heap.size + 2) 4 (encN a5)) (by omega))
 have B4b := Lib.hid (B4a.out.on (Bel.store ((w4).setCell ⟨(w.heap.size + 2), 3, none⟩ (encN a4)) (w.heap.size + 2) 4 (encN a5)) (.inr (by omega)) B4a.out.size)
 have Q4b := Lib.hid (Q4a.out.bel (Bel.store ((w4).setCell ⟨(w.heap.size + 2), 3, none⟩ (encN a4)) (w.heap.size + 2) 4 (encN a5)) (by omega))
 have Z4b := Lib.hid (Z4a.out.bel (Bel.store ((w4).setCell ⟨(w.heap.size + 2), 3, none⟩ (encN a4)) (w.heap.size + 2) 4 (encN a5)) (by omega))
 have C4b := Lib.hid (show Hold (((w4).setCell ⟨(w.heap.size + 2), 3, none⟩ (encN a4)).setCell ⟨(w.heap.size + 2), 4, none⟩ (encN a5)) (w.heap.size + 2) 63 [encN a1, encN a2, encN a3, encN a4, encN a5,.int .i64 0,.slice none 0 0,.slice none 0 0,.bool false] from C4a.out.put 4 (encN a5))
 clear R4a B4a Q4a Z4a C4a
 go_wp2_with (fail)
 refine (number_any R4b.out).mono ?_
 rintro e w5 ⟨s5, a6, rfl, -, hr, hb, ha6⟩
 have R5 := Lib.hid hr
 have B5 := Lib.hid (B4b.out.trans hb (by have := B4b.out.size; omega))
 have Q5 := Lib.hid (Q4b.out.bel hb (by omega))
 have Z5 := Lib.hid (Z4b.out.bel hb (by omega))
 have C5 := Lib.hid (C4b.out.bel hb (by omega))
 have Pa6 := Lib.hid ha6
 clear hr hb ha6
 clear R4b B4b Q4b Z4b C4b
 clear bq c0 f0 c1 f1
 have bq := Q5.out.cell 0 rfl
 have c0 := C5.out.cell 5 rfl
 have f0 := C5.out.soft 5
 have R5a := Lib.hid (R5.out.bel (Bel.store (w5) (w.heap.size + 2) 5 (encN a6)) (by omega))
 have B5a := Lib.hid (B5.out.on (Bel.store (w5) (w.heap.size + 2) 5 (encN a6)) (.inr (by omega)) B5.out.size)
 have Q5a := Lib.hid (Q5.out.bel (Bel.store (w5) (w.heap.size + 2) 5 (encN a6)) (by omega))
 have Z5a := Lib.hid (Z5.out.bel (Bel.store (w5) (w.heap.size + 2) 5 (encN a6)) (by omega))
 have C5a := Lib.hid (show Hold ((w5).setCell ⟨(w.heap.size + 2), 5, none⟩ (encN a6)) (w.heap.size + 2) 63 [encN a1, encN a2, encN a3, encN a4, encN a5, encN a6,.slice none 0 0,.slice none 0 0,.bool false] from C5.out.put 5 (encN a6))
 clear R5 B5 Q5 Z5 C5
 have T0 := Lib.hid (show Cst ((w5).setCell ⟨(w.heap.size + 2), 5, none⟩ (encN a6)) g w.heap.size (w.heap.size + 2) (w.heap.size + 3) [encN a1, encN a2, encN a3, encN a4, encN a5, encN a6] (.slice none 0 0) (.slice none 0 0) false [] [] from ⟨Q5a.out, Z5a.out, C5a.out, World.ownsRow_nil _ _ _ _, World.ownsRow_nil _ _ _ _, rfl, by omega, by omega, by omega, by have := C5a.out.lt; omega⟩)
 go_wp2_with (fail)
 refine (each_rd R5a.out T0.out rfl).mono ?_
 rintro e w6 ⟨rfl, u1, s6, n1, rs, va, hf, hr, hc, hb, hp, hn, hlen⟩
 have R6 := Lib.hid hr
 have T6 := Lib.hid hc
 have B6 := Lib.hid (B5a.out.next hb)
 have P7 := Lib.hid hf
 have P8 := Lib.hid hp
 have N1 := Lib.hid (show rs.length ≤ 8 by omega)
 have M1 := Lib.hid hlen
 clear hf hr hc hb hp hn hlen R5a B5a Q5a Z5a C5a T0 bq c0 f0
 have bq := T6.out.box.cell 0 rfl
 go_wp2_with (fail)
 refine (each_wr R6.out T6.out rfl).mono ?_
 rintro e w7 ⟨rfl, u2, s7, n2, ws, vb, hf, hr, hc, hb, hp, hn, hlen⟩
 have R7 := Lib.hid hr
 have B7 := Lib.hid (B6.out.next hb)
 have P9 := Lib.hid hf
 have P10 := Lib.hid hp
 have N2 := Lib.hid (show ws.length ≤ 8 by omega)
 have M2 := Lib.hid hlen
 have T7 := Lib.hid hc
 clear hf hr hc hb hp hn hlen R6 B6 T6 bq
 have bq := T7.out.box.cell 0 rfl
 go_wp2_with (fail)
 refine (boolean_any R7.out).mono ?_
 rintro e w8 ⟨s8, cm, rfl, -, hr, hb, hp⟩
 have R8 := Lib.hid hr
 have B8 := Lib.hid (B7.out.trans hb (by have := B7.out.size; omega))
 have P11 := Lib.hid hp
 have T8 := Lib.hid (T7.out.bel hb)
 clear hr hb hp R7 B7 T7 bq
 obtain ⟨A1, k1, rfl⟩ := ownsRow_slice T8.out.ra
 obtain ⟨A2, k2, rfl⟩ := ownsRow_slice T8.out.rb
 have C8 := Lib.hid (show Hold w8 (w.heap.size + 2) 63 [encN a1, encN a2, encN a3, encN a4, encN a5, encN a6,.slice A1 rs.length k1,.slice A2 ws.length k2,.bool false] from T8.out.cmd)
 have c0 := C8.out.cell 8 rfl
 have f0 := C8.out.soft 8
 have st := Bel.store w8 (w.heap.size + 2) 8 (.bool cm)
 have C9 := Lib.hid (show Hold (w8.setCell ⟨w.heap.size + 2, 8, none⟩ (.bool cm)) (w.heap.size + 2) 63 [encN a1, encN a2, encN a3, encN a4, encN a5, encN a6,.slice A1 rs.length k1,.slice A2 ws.length k2,.bool cm] from C8.out.put 8 (.bool cm))
 have Z9 := Lib.hid (T8.out.res.bel st (by omega))
 have R9 := Lib.hid (R8.out.bel st (by omega))
 have B9 := Lib.hid (B8.out.on st (.inr (by omega)) B8.out.size)
 have K1 := Lib.hid (ownsRow_bel T8.out.ra st (by omega))
 have K2 := Lib.hid (ownsRow_bel T8.out.rb st (by omega))
 obtain ⟨w9, e9⟩ : ∃ w9, w9 = w8.setCell ⟨w.heap.size + 2, 8, none⟩ (.bool cm) := ⟨_, rfl⟩
 rw [← e9] at C9 Z9 R9 B9 K1 K2
 clear st R8 B8 C8 T8
 have TH := Lib.hid (show w9.there (w.heap.size + 1) 0 ([encN a1, encN a2, encN a3, encN a4, encN a5, encN a6,.slice A1 rs.length k1,.slice A2 ws.length k2,.bool cm] : List Value).length from Z9.out.there (Nat.le_refl 9))
 go_wp2_with
  (first
   | (with_reducible refine wpList_load_mid rfl 63 _ rfl (w.heap.size + 2) 0 rfl [encN a1, encN a2, encN a3, encN a4, encN a5, encN a6,.slice A1 rs.length k1,.slice A2 ws.length k2,.bool cm] _ (by rw [← e9]; exact C9.out.cel.whole) Tryz.underlying63 rfl (by kernel_rfl) ?_)
   | (with_reducible refine store_list rfl 63 _ _ rfl (w.heap.size + 1) 0 [encN a1, encN a2, encN a3, encN a4, encN a5, encN a6,.slice A1 rs.length k1,.slice A2 ws.length k2,.bool cm] rfl rfl (by rw [← e9]; exact TH.out) (by kernel_rfl) (by kernel_rfl) ?_))
 rw [← e9]
 have FP := Hold.set [encN a1, encN a2, encN a3, encN a4, encN a5, encN a6,.slice A1 rs.length k1,.slice A2 ws.length k2,.bool cm] [] [.int .i64 0,.int .i64 0,.int .i64 0,.int .i64 0,.int .i64 0,.int .i64 0,.slice none 0 0,.slice none 0 0,.bool false] [] rfl _ (show Hold w9 (w.heap.size + 1) 63 ([] ++ [.int .i64 0,.int .i64 0,.int .i64 0,.int .i64 0,.int .i64 0,.int .i64 0,.slice none 0 0,.slice none 0 0,.bool false] ++ []) from Z9.out)
 have FH := Lib.hid (show Hold (w9.setCells (w.heap.size + 1) 0 [encN a1, encN a2, encN a3, encN a4, encN a5, encN a6,.slice A1 rs.length k1,.slice A2 ws.length k2,.bool cm]) (w.heap.size + 1) 63 [encN a1, encN a2, encN a3, encN a4, encN a5, encN a6,.slice A1 rs.length k1,.slice A2 ws.length k2,.bool cm] from FP)
 have SB := bel_setCells w9 (w.heap.size + 1) [encN a1, encN a2, encN a3, encN a4, encN a5, encN a6,.slice A1 rs.length k1,.slice A2 ws.length k2,.bool cm] 0
 have K3 := Lib.hid (ownsRow_baseN (base' := w.heap.size) (ownsRow_bel (base := w.heap.size + 3) K1.out SB (by omega)) (by omega))
 have K4 := Lib.hid (ownsRow_baseN (base' := w.heap.size) (ownsRow_bel (base := w.heap.size + 3) K2.out SB (by omega)) (by omega))
 refine bodyPost_ret (results_c rfl rfl FH.out.cel.whole _ Tryz.underlying63 rfl (by kernel_rfl)) rfl ?_
 refine ⟨s8, ⟨a1, a2, a3, a4, a5, a6, rs, ws, cm⟩, _, _, rfl, K3.out, K4.out, R9.out.bel SB (by omega), B9.out.on SB (.inr (by omega)) B9.out.size, ?_, N1.out, N2.out⟩
 exact P.Ran.bind P.errs_num Pa1.out (P.Ran.bind P.errs_num Pa2.out (P.Ran.bind P.errs_num Pa3.out (P.Ran.bind P.errs_num Pa4.out (P.Ran.bind P.errs_num Pa5.out (P.Ran.bind P.errs_num Pa6.out (P.Ran.bind P.errs_few P7.out (P.Ran.bind (P.errs_rep P.errs_rd _) P8.out (P.Ran.bind P.errs_few P9.out (P.Ran.bind (P.errs_rep P.errs_wr _) P10.out (P.Ran.bind P.errs_boolean P11.out (P.Ran.ret _ _)))))))))))
open Go.ChangeShapes Go.WideShapes Go.ChangeAt Go.RowKit
def RdR (g : Nat) (s : P.Sr) (w : World) (e : Ending) (w' : World) : Prop := ∃ (s1 : P.Sr) (r : M.Rec) (va vb : Value), e = .returned (.agg #[.int .i64 r.ir,.int .i64 r.is,.int .i64 r.st,.int .i64 r.pn,.int .i64 r.pr,.int .i64 r.bn,.int .i64 r.br,.int .i64 r.c.k,.int .i64 r.c.tc,.int .i64 r.c.tn,.int .i64 r.c.tt,.int .i64 r.c.tk,.int .i64 r.c.sh, va, vb,.bool r.c.cm,.int .i64 r.sq,.int .i64 r.d0,.int .i64 r.d1,.int .i64 r.d2,.int .i64 r.d3,.int .i64 r.d4,.int .i64 r.d5,.int .i64 r.d6,.bool r.kp]) ∧ w'.ownsRow w.heap.size 113 3 va r.c.rs.length (rdsC r.c.rs) ∧ w'.ownsRow w.heap.size 115 2 vb r.c.ws.length (wrsC r.c.ws) ∧ Rdr w' g s1 ∧ Bel g w.heap.size w w' ∧ P.Ran P.rcd s s1 r ∧ r.c.rs.length ≤ 8 ∧ r.c.ws.length ≤ 8
def ds7 (k : Nat) (d : Nat → Nat) : List Value := (List.range 7).map fun j => if j < k then encN (d j) else .int .i64 0
theorem ds7_set {k : Nat} (hk : k < 7) (d : Nat → Nat) (v : Nat) (x1 x2 x3 x4 x5 x6 x7 x8 x9 x10 x11 x12 x13 x14 x15 x16 x17 y : Value) :
 ([x1, x2, x3, x4, x5, x6, x7, x8, x9, x10, x11, x12, x13, x14, x15, x16, x17] ++ ds7 k d ++ [y]).set (17 + k) (encN v) = [x1, x2, x3, x4, x5, x6, x7, x8, x9, x10, x11, x12, x13, x14, x15, x16, x17] ++ ds7 (k + 1) (fun j => if j = k then v else d j) ++ [y] := by
 have h : k = 0 ∨ k = 1 ∨ k = 2 ∨ k = 3 ∨ k = 4 ∨ k = 5 ∨ k = 6 := by omega
 rcases h with rfl | rfl | rfl | rfl | rfl | rfl | rfl <;> rfl
theorem ds7_at {k : Nat} (hk : k < 7) (d : Nat → Nat) (x1 x2 x3 x4 x5 x6 x7 x8 x9 x10 x11 x12 x13 x14 x15 x16 x17 y : Value) :
 ([x1, x2, x3, x4, x5, x6, x7, x8, x9, x10, x11, x12, x13, x14, x15, x16, x17] ++ ds7 k d ++ [y])[17 + k]? = some (.int .i64 0) := by
 have h : k = 0 ∨ k = 1 ∨ k = 2 ∨ k = 3 ∨ k = 4 ∨ k = 5 ∨ k = 6 := by omega
 rcases h with rfl | rfl | rfl | rfl | rfl | rfl | rfl <;> rfl
theorem record_any {w : World} {g : Nat} {s : P.Sr} (h : Rdr w g s) : Calls Tryz.prog 149 #[.pointer (some ⟨g, 0, none⟩)] w (RdR g s w) := by
 have hg := h.lt
 have R0 := Lib.hid ((h.alloc (.cells #[.int .i64 0,.int .i64 0,.int .i64 0,.int .i64 0,.int .i64 0,.int .i64 0,.int .i64 0,.int .i64 0,.int .i64 0,.int .i64 0,.int .i64 0,.int .i64 0,.int .i64 0,.slice none 0 0,.slice none 0 0,.bool false,.int .i64 0,.int .i64 0,.int .i64 0,.int .i64 0,.int .i64 0,.int .i64 0,.int .i64 0,.int .i64 0,.bool false] 67)).alloc (.cells #[.int .i64 0,.int .i64 0,.int .i64 0,.int .i64 0,.int .i64 0,.int .i64 0,.int .i64 0,.int .i64 0,.int .i64 0,.int .i64 0,.int .i64 0,.int .i64 0,.int .i64 0,.slice none 0 0,.slice none 0 0,.bool false,.int .i64 0,.int .i64 0,.int .i64 0,.int .i64 0,.int .i64 0,.int .i64 0,.int .i64 0,.int .i64 0,.bool false] 67))
 have B0 := Lib.hid (((Bel.refl g w.heap.size w).alloc (Nat.le_refl _) (.cells #[.int .i64 0,.int .i64 0,.int .i64 0,.int .i64 0,.int .i64 0,.int .i64 0,.int .i64 0,.int .i64 0,.int .i64 0,.int .i64 0,.int .i64 0,.int .i64 0,.int .i64 0,.slice none 0 0,.slice none 0 0,.bool false,.int .i64 0,.int .i64 0,.int .i64 0,.int .i64 0,.int .i64 0,.int .i64 0,.int .i64 0,.int .i64 0,.bool false] 67)).alloc (by simp) (.cells #[.int .i64 0,.int .i64 0,.int .i64 0,.int .i64 0,.int .i64 0,.int .i64 0,.int .i64 0,.int .i64 0,.int .i64 0,.int .i64 0,.int .i64 0,.int .i64 0,.int .i64 0,.slice none 0 0,.slice none 0 0,.bool false,.int .i64 0,.int .i64 0,.int .i64 0,.int .i64 0,.int .i64 0,.int .i64 0,.int .i64 0,.int .i64 0,.bool false] 67))
 have Z0 := Lib.hid ((Hold.new w [.int .i64 0,.int .i64 0,.int .i64 0,.int .i64 0,.int .i64 0,.int .i64 0,.int .i64 0,.int .i64 0,.int .i64 0,.int .i64 0,.int .i64 0,.int .i64 0,.int .i64 0,.slice none 0 0,.slice none 0 0,.bool false,.int .i64 0,.int .i64 0,.int .i64 0,.int .i64 0,.int .i64 0,.int .i64 0,.int .i64 0,.int .i64 0,.bool false] 67).alloc (.cells #[.int .i64 0,.int .i64 0,.int .i64 0,.int .i64 0,.int .i64 0,.int .i64 0,.int .i64 0,.int .i64 0,.int .i64 0,.int .i64 0,.int .i64 0,.int .i64 0,.int .i64 0,.slice none 0 0,.slice none 0 0,.bool false,.int .i64 0,.int .i64 0,.int .i64 0,.int .i64 0,.int .i64 0,.int .i64 0,.int .i64 0,.int .i64 0,.bool false] 67))
 have C0 := Lib.hid (show Hold ((w.alloc (.cells #[.int .i64 0,.int .i64 0,.int .i64 0,.int .i64 0,.int .i64 0,.int .i64 0,.int .i64 0,.int .i64 0,.int .i64 0,.int .i64 0,.int .i64 0,.int .i64 0,.int .i64 0,.slice none 0 0,.slice none 0 0,.bool false,.int .i64 0,.int .i64 0,.int .i64 0,.int .i64 0,.int .i64 0,.int .i64 0,.int .i64 0,.int .i64 0,.bool false] 67)).alloc (.cells #[.int .i64 0,.int .i64 0,.int .i64 0,.int .i64 0,.int .i64 0,.int .i64 0,.int .i64 0,.int .i64 0,.int .i64 0,.int .i64 0,.int .i64 0,.int .i64 0,.int .i64 0,.slice none 0 0,.slice none 0 0,.bool false,.int .i64 0,.int .i64 0,.int .i64 0,.int .i64 0,.int .i64 0,.int .i64 0,.int .i64 0,.int .i64 0,.bool false] 67)) (w.heap.size + 1) 67 [.int .i64 0,.int .i64 0,.int .i64 0,.int .i64 0,.int .i64 0,.int .i64 0,.int .i64 0,.int .i64 0,.int .i64 0,.int .i64 0,.int .i64 0,.int .i64 0,.int .i64 0,.slice none 0 0,.slice none 0 0,.bool false,.int .i64 0,.int .i64 0,.int .i64 0,.int .i64 0,.int .i64 0,.int .i64 0,.int .i64 0,.int .i64 0,.bool false] by simpa using Hold.new (w.alloc (.cells #[.int .i64 0,.int .i64 0,.int .i64 0,.int .i64 0,.int .i64 0,.int .i64 0,.int .i64 0,.int .i64 0,.int .i64 0,.int .i64 0,.int .i64 0,.int .i64 0,.int .i64 0,.slice none 0 0,.slice none 0 0,.bool false,.int .i64 0,.int .i64 0,.int .i64 0,.int .i64 0,.int .i64 0,.int .i64 0,.int .i64 0,.int .i64 0,.bool false] 67)) [.int .i64 0,.int .i64 0,.int .i64 0,.int .i64 0,.int .i64 0,.int .i64 0,.int .i64 0,.int .i64 0,.int .i64 0,.int .i64 0,.int .i64 0,.int .i64 0,.int .i64 0,.slice none 0 0,.slice none 0 0,.bool false,.int .i64 0,.int .i64 0,.int .i64 0,.int .i64 0,.int .i64 0,.int .i64 0,.int .i64 0,.int .i64 0,.bool false] 67)
 clear h
 go_enter Tryz.func149, Tryz.ntmps149
 go_wp2_with (fail)
 refine (number_any R0.out).mono ?_
 rintro e w1 ⟨s1, a1, rfl, -, hr, hb, ha1⟩
 have R1 := Lib.hid hr
 have B1 := Lib.hid (B0.out.trans hb (by have := B0.out.size; omega))
 have Z1 := Lib.hid (Z0.out.bel hb (by omega))
 have C1 := Lib.hid (C0.out.bel hb (by omega))
 have Pa1 := Lib.hid ha1
 clear hr hb ha1
 clear R0 B0 Z0 C0
 have c0 := C1.out.cell 0 rfl
 have f0 := C1.out.soft 0
 have R1a := Lib.hid (R1.out.bel (Bel.store (w1) (w.heap.size + 1) 0 (encN a1)) (by omega))
 have B1a := Lib.hid (B1.out.on (Bel.store (w1) (w.heap.size + 1) 0 (encN a1)) (.inr (by omega)) B1.out.size)
 have Z1a := Lib.hid (Z1.out.bel (Bel.store (w1) (w.heap.size + 1) 0 (encN a1)) (by omega))
 have C1a := Lib.hid (show Hold ((w1).setCell ⟨(w.heap.size + 1), 0, none⟩ (encN a1)) (w.heap.size + 1) 67 [encN a1,.int .i64 0,.int .i64 0,.int .i64 0,.int .i64 0,.int .i64 0,.int .i64 0,.int .i64 0,.int .i64 0,.int .i64 0,.int .i64 0,.int .i64 0,.int .i64 0,.slice none 0 0,.slice none 0 0,.bool false,.int .i64 0,.int .i64 0,.int .i64 0,.int .i64 0,.int .i64 0,.int .i64 0,.int .i64 0,.int .i64 0,.bool false] from C1.out.put 0 (encN a1))
 clear R1 B1 Z1 C1
 go_wp2_with (fail)
 refine (number_any R1a.out).mono ?_
 rintro e w2 ⟨s2, a2, rfl, -, hr, hb, ha2⟩
 have R2 := Lib.hid hr
 have B2 := Lib.hid (B1a.out.trans hb (by have := B1a.out.size; omega))
 have Z2 := Lib.hid (Z1a.out.bel hb (by omega))
 have C2 := Lib.hid (C1a.out.bel hb (by omega))
 have Pa2 := Lib.hid ha2
 clear hr hb ha2
 clear R1a B1a Z1a C1a
 clear c0 f0
 have c0 := C2.out.cell 1 rfl
 have f0 := C2.out.soft 1
 have R2a := Lib.hid (R2.out.bel (Bel.store (w2) (w.heap.size + 1) 1 (encN a2)) (by omega))
 have B2a := Lib.hid (B2.out.on (Bel.store (w2) (w.heap.size + 1) 1 (encN a2)) (.inr (by omega)) B2.out.size)
 have Z2a := Lib.hid (Z2.out.bel (Bel.store (w2) (w.heap.size + 1) 1 (encN a2)) (by omega))
 have C2a := Lib.hid (show Hold ((w2).setCell ⟨(w.heap.size + 1), 1, none⟩ (encN a2)) (w.heap.size + 1) 67 [encN a1, encN a2,.int .i64 0,.int .i64 0,.int .i64 0,.int .i64 0,.int .i64 0,.int .i64 0,.int .i64 0,.int .i64 0,.int .i64 0,.int .i64 0,.int .i64 0,.slice none 0 0,.slice none 0 0,.bool false,.int .i64 0,.int .i64 0,.int .i64 0,.int .i64 0,.int .i64 0,.int .i64 0,.int .i64 0,.int .i64 0,.bool false] from C2.out.put 1 (encN a2))
 clear R2 B2 Z2 C2
 go_wp2_with (fail)
 refine (number_any R2a.out).mono ?_
 rintro e w3 ⟨s3, a3, rfl, -, hr, hb, ha3⟩
 have R3 := Lib.hid hr
 have B3 := Lib.hid (B2a.out.trans hb (by have := B2a.out.size; omega))
 have Z3 := Lib.hid (Z2a.out.bel hb (by omega))
 have C3 := Lib.hid (C2a.out.bel hb (by omega))
 have Pa3 := Lib.hid ha3
 clear hr hb ha3
 clear R2a B2a Z2a C2a
 clear c0 f0
 have c0 := C3.out.cell 2 rfl
 have f0 := C3.out.soft 2
 have R3a := Lib.hid (R3.out.bel (Bel.store (w3) (w.heap.size + 1) 2 (encN a3)) (by omega))
 have B3a := Lib.hid (B3.out.on (Bel.store (w3) (w.heap.size + 1) 2 (encN a3)) (.inr (by omega)) B3.out.size)
 have Z3a := Lib.hid (Z3.out.bel (Bel.store (w3) (w.heap.size + 1) 2 (encN a3)) (by omega))
 have C3a := Lib.hid (show Hold ((w3).setCell ⟨(w.heap.size + 1), 2, none⟩ (encN a3)) (w.heap.size + 1) 67 [encN a1, encN a2, encN a3,.int .i64 0,.int .i64 0,.int .i64 0,.int .i64 0,.int .i64 0,.int .i64 0,.int .i64 0,.int .i64 0,.int .i64 0,.int .i64 0,.slice none 0 0,.slice none 0 0,.bool false,.int .i64 0,.int .i64 0,.int .i64 0,.int .i64 0,.int .i64 0,.int .i64 0,.int .i64 0,.int .i64 0,.bool false] from C3.out.put 2 (encN a3))
 clear R3 B3 Z3 C3
 go_wp2_with (fail)
 refine (ballot_any R3a.out).mono ?_
 rintro e w4 ⟨t4, s4, a4, a5, rfl, -, -, hr, hb, ha4, ha5⟩
 have R4 := Lib.hid hr
 have B4 := Lib.hid (B3a.out.trans hb (by have := B3a.out.size; omega))
 have Z4 := Lib.hid (Z3a.out.bel hb (by omega))
 have C4 := Lib.hid (C3a.out.bel hb (by omega))
 have Pa4 := Lib.hid ha4
 have Pa5 := Lib.hid ha5
 clear hr hb ha4 ha5
 clear R3a B3a Z3a C3a
 clear c0 f0
 have c0 := C4.out.cell 3 rfl
 have f0 := C4.out.soft 3
 have c1 := C4.out.cell 4 rfl
 have f1 := C4.out.soft 4
 have R4a := Lib.hid (R4.out.bel (Bel.store (w4) (w.heap.size + 1) 3 (encN a4)) (by omega))
 have B4a := Lib.hid (B4.out.on (Bel.store (w4) (w.heap.size + 1) 3 (encN a4)) (.inr (by omega)) B4.out.size)
 have Z4a := Lib.hid (Z4.out.bel (Bel.store (w4) (w.heap.size + 1) 3 (encN a4)) (by omega))
 have C4a := Lib.hid (show Hold ((w4).setCell ⟨(w.heap.size + 1), 3, none⟩ (encN a4)) (w.heap.size + 1) 67 [encN a1, encN a2, encN a3, encN a4,.int .i64 0,.int .i64 0,.int .i64 0,.int .i64 0,.int .i64 0,.int .i64 0,.int .i64 0,.int .i64 0,.int .i64 0,.slice none 0 0,.slice none 0 0,.bool false,.int .i64 0,.int .i64 0,.int .i64 0,.int .i64 0,.int .i64 0,.int .i64 0,.int .i64 0,.int .i64 0,.bool false] from C4.out.put 3 (encN a4))
 clear R4 B4 Z4 C4
 have R4b := Lib.hid (R4a.out.bel (Bel.store ((w4).setCell ⟨(w.heap.size + 1), 3, none⟩ (encN a4)) (w.heap.size + 1) 4 (encN a5)) (by omega))
 have B4b := Lib.hid (B4a.out.on (Bel.store ((w4).setCell ⟨(w.heap.size + 1), 3, none⟩ (encN a4)) (w.heap.size + 1) 4 (encN a5)) (.inr (by omega)) B4a.out.size)
 have Z4b := Lib.hid (Z4a.out.bel (Bel.store ((w4).setCell ⟨(w.heap.size + 1), 3, none⟩ (encN a4)) (w.heap.size + 1) 4 (encN a5)) (by omega))
 have C4b := Lib.hid (show Hold (((w4).setCell ⟨(w.heap.size + 1), 3, none⟩ (encN a4)).setCell ⟨(w.heap.size + 1), 4, none⟩ (encN a5)) (w.heap.size + 1) 67 [encN a1, encN a2, encN a3, encN a4, encN a5,.int .i64 0,.int .i64 0,.int .i64 0,.int .i64 0,.int .i64 0,.int .i64 0,.int .i64 0,.int .i64 0,.slice none 0 0,.slice none 0 0,.bool false,.int .i64 0,.int .i64 0,.int .i64 0,.int .i64 0,.int .i64 0,.int .i64 0,.int .i64 0,.int .i64 0,.bool false] from C4a.out.put 4 (encN a5))
 clear R4a B4a Z4a C4a
 go_wp2_with (fail)
 refine (ballot_any R4b.out).mono ?_
 rintro e w5 ⟨t5, s5, a6, a7, rfl, -, -, hr, hb, ha6, ha7⟩
 have R5 := Lib.hid hr
 have B5 := Lib.hid (B4b.out.trans hb (by have := B4b.out.size; omega))
 have Z5 := Lib.hid (Z4b.out.bel hb (by omega))
 have C5 := Lib.hid (C4b.out.bel hb (by omega))
 have Pa6 := Lib.hid ha6
 have Pa7 := Lib.hid ha7
 clear hr hb ha6 ha7
 clear R4b B4b Z4b C4b
 clear c0 f0 c1 f1
 have c0 := C5.out.cell 5 rfl
 have f0 := C5.out.soft 5
 have c1 := C5.out.cell 6 rfl
 have f1 := C5.out.soft 6
 have R5a := Lib.hid (R5.out.bel (Bel.store (w5) (w.heap.size + 1) 5 (encN a6)) (by omega))
 have B5a := Lib.hid (B5.out.on (Bel.store (w5) (w.heap.size + 1) 5 (encN a6)) (.inr (by omega)) B5.out.size)
 have Z5a := Lib.hid (Z5.out.bel (Bel.store (w5) (w.heap.size + 1) 5 (encN a6)) (by omega))
 have C5a := Lib.hid (show Hold ((w5).setCell ⟨(w.heap.size + 1), 5, none⟩ (encN a6)) (w.heap.size + 1) 67 [encN a1, encN a2, encN a3, encN a4, encN a5, encN a6,.int .i64 0,.int .i64 0,.int .i64 0,.int .i64 0,.int .i64 0,.int .i64 0,.int .i64 0,.slice none 0 0,.slice none 0 0,.bool false,.int .i64 0,.int .i64 0,.int .i64 0,.int .i64 0,.int .i64 0,.int .i64 0,.int .i64 0,.int .i64 0,.bool false] from C5.out.put 5 (encN a6))
 clear R5 B5 Z5 C5
 have R5b := Lib.hid (R5a.out.bel (Bel.store ((w5).setCell ⟨(w.heap.size + 1), 5, none⟩ (encN a6)) (w.heap.size + 1) 6 (encN a7)) (by omega))
 have B5b := Lib.hid (B5a.out.on (Bel.store ((w5).setCell ⟨(w.heap.size + 1), 5, none⟩ (encN a6)) (w.heap.size + 1) 6 (encN a7)) (.inr (by omega)) B5a.out.size)
 have Z5b := Lib.hid (Z5a.out.bel (Bel.store ((w5).setCell ⟨(w.heap.size + 1), 5, none⟩ (encN a6)) (w.heap.size + 1) 6 (encN a7)) (by omega))
 have C5b := Lib.hid (show Hold (((w5).setCell ⟨(w.heap.size + 1), 5, none⟩ (encN a6)).setCell ⟨(w.heap.size + 1), 6, none⟩ (encN a7)) (w.heap.size + 1) 67 [encN a1, encN a2, encN a3, encN a4, encN a5, encN a6, encN a7,.int .i64 0,.int .i64 0,.int .i64 0,.int .i64 0,.int .i64 0,.int .i64 0,.slice none 0 0,.slice none 0 0,.bool false,.int .i64 0,.int .i64 0,.int .i64 0,.int .i64 0,.int .i64 0,.int .i64 0,.int .i64 0,.int .i64 0,.bool false] from C5a.out.put 6 (encN a7))
 clear R5a B5a Z5a C5a
 go_wp2_with (fail)
 refine (number_any R5b.out).mono ?_
 rintro e w6 ⟨s6, a8, rfl, -, hr, hb, ha8⟩
 have R6 := Lib.hid hr
 have B6 := Lib.hid (B5b.out.trans hb (by have := B5b.out.size; omega))
 have Z6 := Lib.hid (Z5b.out.bel hb (by omega))
 have C6 := Lib.hid (C5b.out.bel hb (by omega))
 have Pa8 := Lib.hid ha8
 clear hr hb ha8
 clear R5b B5b Z5b C5b
 clear c0 f0 c1 f1
 have c0 := C6.out.cell 16 rfl
 have f0 := C6.out.soft 16
 have R6a := Lib.hid (R6.out.bel (Bel.store (w6) (w.heap.size + 1) 16 (encN a8)) (by omega))
 have B6a := Lib.hid (B6.out.on (Bel.store (w6) (w.heap.size + 1) 16 (encN a8)) (.inr (by omega)) B6.out.size)
 have Z6a := Lib.hid (Z6.out.bel (Bel.store (w6) (w.heap.size + 1) 16 (encN a8)) (by omega))
 have C6a := Lib.hid (show Hold ((w6).setCell ⟨(w.heap.size + 1), 16, none⟩ (encN a8)) (w.heap.size + 1) 67 [encN a1, encN a2, encN a3, encN a4, encN a5, encN a6, encN a7,.int .i64 0,.int .i64 0,.int .i64 0,.int .i64 0,.int .i64 0,.int .i64 0,.slice none 0 0,.slice none 0 0,.bool false, encN a8,.int .i64 0,.int .i64 0,.int .i64 0,.int .i64 0,.int .i64 0,.int .i64 0,.int .i64 0,.bool false] from C6.out.put 16 (encN a8))
 clear R6 B6 Z6 C6
 obtain ⟨wl, el⟩ : ∃ wl, wl = (w6).setCell ⟨(w.heap.size + 1), 16, none⟩ (encN a8) := ⟨_, rfl⟩
 have CL := Lib.hid (show Hold wl (w.heap.size + 1) 67 ([encN a1, encN a2, encN a3, encN a4, encN a5, encN a6, encN a7,.int .i64 0,.int .i64 0,.int .i64 0,.int .i64 0,.int .i64 0,.int .i64 0,.slice none 0 0,.slice none 0 0,.bool false, encN a8] ++ ds7 0 (fun _ => 0) ++ [.bool false]) from el ▸ C6a.out)
 have RL := Lib.hid (el ▸ R6a.out)
 have BL := Lib.hid (el ▸ B6a.out)
 have ZL := Lib.hid (el ▸ Z6a.out)
 clear R6a B6a Z6a C6a
 go_wp2
 rw [← el]
 clear el c0 f0
 go_loopw [25] (fun i wr => ∃ (k : Nat) (d : Nat → Nat) (st : Nat → P.Sr), k ≤ 7 ∧ i = .int .i64 k ∧ Rdr wr g (st k) ∧ Bel g w.heap.size w wr ∧ Hold wr w.heap.size 67 [.int .i64 0,.int .i64 0,.int .i64 0,.int .i64 0,.int .i64 0,.int .i64 0,.int .i64 0,.int .i64 0,.int .i64 0,.int .i64 0,.int .i64 0,.int .i64 0,.int .i64 0,.slice none 0 0,.slice none 0 0,.bool false,.int .i64 0,.int .i64 0,.int .i64 0,.int .i64 0,.int .i64 0,.int .i64 0,.int .i64 0,.int .i64 0,.bool false] ∧ Hold wr (w.heap.size + 1) 67 ([encN a1, encN a2, encN a3, encN a4, encN a5, encN a6, encN a7,.int .i64 0,.int .i64 0,.int .i64 0,.int .i64 0,.int .i64 0,.int .i64 0,.slice none 0 0,.slice none 0 0,.bool false, encN a8] ++ ds7 k d ++ [.bool false]) ∧ st 0 = s6 ∧ ∀ j, j < k → P.Ran P.num (st j) (st (j + 1)) (d j)) (fun i _ => 7 - (intOf i).toNat)
 case atStart => exact ⟨0, fun _ => 0, fun _ => s6, Nat.zero_le _, rfl, RL.out, BL.out, ZL.out, CL.out, rfl, fun j hj => absurd hj (by omega)⟩
 case round =>
  obtain ⟨k, d, st, hk, rfl, hr, hb, hz, hc, h0, hp⟩ := hrel
  have R0 := Lib.hid hr
  have B0 := Lib.hid hb
  have Z0 := Lib.hid hz
  have C0 := Lib.hid hc
  have H0 := Lib.hid h0
  have P0 := Lib.hid hp
  have HK := Lib.hid hk
  clear hr hb hz hc h0 hp RL BL ZL CL
  by_cases hlt : k < 7
  ·go_wp2_with (fail)
   refine (number_any R0.out).mono ?_
   rintro e w1 ⟨t, v, rfl, -, hr, hb, hp⟩
   have R1 := Lib.hid hr
   have B1 := Lib.hid (B0.out.trans hb (by have := B0.out.size; omega))
   have Z1 := Lib.hid (Z0.out.bel hb (by omega))
   have C1 := Lib.hid (C0.out.bel hb (by omega))
   have PP := Lib.hid hp
   clear hr hb hp R0 B0 Z0 C0
   have cc := C1.out.cell (17 + k) (ds7_at hlt d (encN a1) (encN a2) (encN a3) (encN a4) (encN a5) (encN a6) (encN a7) (.int .i64 0) (.int .i64 0) (.int .i64 0) (.int .i64 0) (.int .i64 0) (.int .i64 0) (.slice none 0 0) (.slice none 0 0) (.bool false) (encN a8) (.bool false))
   have ff := C1.out.soft (17 + k)
   have se := Bel.store w1 (w.heap.size + 1) (17 + k) (encN v)
   have R2 := Lib.hid (R1.out.bel se (by omega))
   have B2 := Lib.hid (B1.out.on se (.inr (by omega)) B1.out.size)
   have Z2 := Lib.hid (Z1.out.bel se (by omega))
   have C2 := Lib.hid (C1.out.put (17 + k) (encN v))
   have ES := Lib.hid (ds7_set hlt d v (encN a1) (encN a2) (encN a3) (encN a4) (encN a5) (encN a6) (encN a7) (.int .i64 0) (.int .i64 0) (.int .i64 0) (.int .i64 0) (.int .i64 0) (.int .i64 0) (.slice none 0 0) (.slice none 0 0) (.bool false) (encN a8) (.bool false))
   have hi1 : (k : Int) < 7 := by omega
   clear se R1 B1 Z1 C1
   go_wp2
   go_roundw
   case rel =>
    refine ⟨k + 1, fun j => if j = k then v else d j, fun j => if j = k + 1 then t else st j, by omega, by go_num, ?_, B2.out, Z2.out, ?_, ?_, ?_⟩
    ·simp only [if_pos]; exact R2.out
    ·rw [← ES.out]; exact C2.out
    ·simp only [if_neg (show ¬ 0 = k + 1 by omega)]; exact H0.out
    ·intro j hj
     by_cases e : j = k
     ·subst e; simp only [if_pos, if_neg (show ¬ j = j + 1 by omega)]; exact PP.out
     ·simp only [if_neg e, if_neg (show ¬ j = k + 1 by omega), if_neg (show ¬ j + 1 = k + 1 by omega)]; exact P0.out j (by omega)
   case measure => simp [intOf]; omega
  ·obtain rfl : k = 7 := by omega
   have CE := Lib.hid (show Hold wr (w.heap.size + 1) 67 [encN a1, encN a2, encN a3, encN a4, encN a5, encN a6, encN a7,.int .i64 0,.int .i64 0,.int .i64 0,.int .i64 0,.int .i64 0,.int .i64 0,.slice none 0 0,.slice none 0 0,.bool false, encN a8, encN (d 0), encN (d 1), encN (d 2), encN (d 3), encN (d 4), encN (d 5), encN (d 6),.bool false] from C0.out)
   have RE := Lib.hid R0.out
   have BE := Lib.hid B0.out
   have ZE := Lib.hid Z0.out
   clear R0 B0 Z0 C0
   go_wp2_with (fail)
   refine (boolean_any RE.out).mono ?_
   rintro e w9 ⟨s9, kp, rfl, -, hr, hb, hkp⟩
   have R9 := Lib.hid hr
   have B9 := Lib.hid (BE.out.trans hb (by have := BE.out.size; omega))
   have Z9 := Lib.hid (ZE.out.bel hb (by omega))
   have C9 := Lib.hid (CE.out.bel hb (by omega))
   have Pkp := Lib.hid hkp
   clear hr hb hkp
   clear RE BE ZE CE
   have c0 := C9.out.cell 24 rfl
   have f0 := C9.out.soft 24
   have R9a := Lib.hid (R9.out.bel (Bel.store (w9) (w.heap.size + 1) 24 (.bool kp)) (by omega))
   have B9a := Lib.hid (B9.out.on (Bel.store (w9) (w.heap.size + 1) 24 (.bool kp)) (.inr (by omega)) B9.out.size)
   have Z9a := Lib.hid (Z9.out.bel (Bel.store (w9) (w.heap.size + 1) 24 (.bool kp)) (by omega))
   have C9a := Lib.hid (show Hold ((w9).setCell ⟨(w.heap.size + 1), 24, none⟩ (.bool kp)) (w.heap.size + 1) 67 [encN a1, encN a2, encN a3, encN a4, encN a5, encN a6, encN a7,.int .i64 0,.int .i64 0,.int .i64 0,.int .i64 0,.int .i64 0,.int .i64 0,.slice none 0 0,.slice none 0 0,.bool false, encN a8, encN (d 0), encN (d 1), encN (d 2), encN (d 3), encN (d 4), encN (d 5), encN (d 6),.bool kp] from C9.out.put 24 (.bool kp))
   clear R9 B9 Z9 C9
   go_wp2_with (fail)
   refine (mark_any 1 rfl R9a.out).mono ?_
   rintro e w10 ⟨s10, _, rfl, -, hr, hb, hmk⟩
   have R10 := Lib.hid hr
   have B10 := Lib.hid (B9a.out.trans hb (by have := B9a.out.size; omega))
   have Z10 := Lib.hid (Z9a.out.bel hb (by omega))
   have C10 := Lib.hid (C9a.out.bel hb (by omega))
   have Pmk := Lib.hid hmk
   clear hr hb hmk
   clear R9a B9a Z9a C9a
   clear c0 f0
   go_wp2_with (fail)
   refine (command_any R10.out).mono ?_
   rintro e w11 ⟨s11, c, va, vb, rfl, hra, hrb, hr, hb, hp, hl1, hl2⟩
   obtain ⟨A1, k1, rfl⟩ := ownsRow_slice hra
   obtain ⟨A2, k2, rfl⟩ := ownsRow_slice hrb
   have BS := B10.out.size
   have zl := Z10.out.lt
   have xl := C10.out.lt
   have R11 := Lib.hid hr
   have B11 := Lib.hid (B10.out.trans hb (by have := B10.out.size; omega))
   have Z11 := Lib.hid (Z10.out.bel hb (by omega))
   have C11 := Lib.hid (C10.out.bel hb (by omega))
   have K1 := Lib.hid hra
   have K2 := Lib.hid hrb
   have PC := Lib.hid hp
   have N1 := Lib.hid hl1
   have N2 := Lib.hid hl2
   clear hr hb hp hl1 hl2 hra hrb
   clear R10 B10 Z10 C10
   have T1 := Lib.hid (show w11.there (w.heap.size + 1) 7 ([.int .i64 c.k,.int .i64 c.tc,.int .i64 c.tn,.int .i64 c.tt,.int .i64 c.tk,.int .i64 c.sh,.slice A1 c.rs.length k1,.slice A2 c.ws.length k2,.bool c.cm] : List Value).length from C11.out.there (by show 7 + 9 ≤ 25; omega))
   have FP := Hold.set [.int .i64 c.k,.int .i64 c.tc,.int .i64 c.tn,.int .i64 c.tt,.int .i64 c.tk,.int .i64 c.sh,.slice A1 c.rs.length k1,.slice A2 c.ws.length k2,.bool c.cm] [encN a1, encN a2, encN a3, encN a4, encN a5, encN a6, encN a7] [.int .i64 0,.int .i64 0,.int .i64 0,.int .i64 0,.int .i64 0,.int .i64 0,.slice none 0 0,.slice none 0 0,.bool false] [encN a8, encN (d 0), encN (d 1), encN (d 2), encN (d 3), encN (d 4), encN (d 5), encN (d 6),.bool kp] rfl _ (show Hold w11 (w.heap.size + 1) 67 ([encN a1, encN a2, encN a3, encN a4, encN a5, encN a6, encN a7] ++ [.int .i64 0,.int .i64 0,.int .i64 0,.int .i64 0,.int .i64 0,.int .i64 0,.slice none 0 0,.slice none 0 0,.bool false] ++ [encN a8, encN (d 0), encN (d 1), encN (d 2), encN (d 3), encN (d 4), encN (d 5), encN (d 6),.bool kp]) from C11.out)
   have se := bel_setCells w11 (w.heap.size + 1) [.int .i64 c.k,.int .i64 c.tc,.int .i64 c.tn,.int .i64 c.tt,.int .i64 c.tk,.int .i64 c.sh,.slice A1 c.rs.length k1,.slice A2 c.ws.length k2,.bool c.cm] 7
   have C12 := Lib.hid (show Hold (w11.setCells (w.heap.size + 1) 7 [.int .i64 c.k,.int .i64 c.tc,.int .i64 c.tn,.int .i64 c.tt,.int .i64 c.tk,.int .i64 c.sh,.slice A1 c.rs.length k1,.slice A2 c.ws.length k2,.bool c.cm]) (w.heap.size + 1) 67 [encN a1, encN a2, encN a3, encN a4, encN a5, encN a6, encN a7,.int .i64 c.k,.int .i64 c.tc,.int .i64 c.tn,.int .i64 c.tt,.int .i64 c.tk,.int .i64 c.sh,.slice A1 c.rs.length k1,.slice A2 c.ws.length k2,.bool c.cm, encN a8, encN (d 0), encN (d 1), encN (d 2), encN (d 3), encN (d 4), encN (d 5), encN (d 6),.bool kp] from FP)
   have R12 := Lib.hid (R11.out.bel se (by omega))
   have B12 := Lib.hid (B11.out.on se (.inr (by omega)) B11.out.size)
   have Z12 := Lib.hid (Z11.out.bel se (by omega))
   have K3 := Lib.hid (ownsRow_bel K1.out se xl)
   have K4 := Lib.hid (ownsRow_bel K2.out se xl)
   obtain ⟨w12, e12⟩ : ∃ w12, w12 = w11.setCells (w.heap.size + 1) 7 [.int .i64 c.k,.int .i64 c.tc,.int .i64 c.tn,.int .i64 c.tt,.int .i64 c.tk,.int .i64 c.sh,.slice A1 c.rs.length k1,.slice A2 c.ws.length k2,.bool c.cm] := ⟨_, rfl⟩
   rw [← e12] at C12 R12 B12 Z12 K3 K4
   clear FP se C11 R11 B11 Z11 K1 K2
   have T2 := Lib.hid (show w12.there w.heap.size 0 ([encN a1, encN a2, encN a3, encN a4, encN a5, encN a6, encN a7,.int .i64 c.k,.int .i64 c.tc,.int .i64 c.tn,.int .i64 c.tt,.int .i64 c.tk,.int .i64 c.sh,.slice A1 c.rs.length k1,.slice A2 c.ws.length k2,.bool c.cm, encN a8, encN (d 0), encN (d 1), encN (d 2), encN (d 3), encN (d 4), encN (d 5), encN (d 6),.bool kp] : List Value).length from Z12.out.there (Nat.le_refl 25))
   go_wp2_with
    (first
     | (with_reducible refine store_list rfl 63 _ _ rfl (w.heap.size + 1) 7 [.int .i64 c.k,.int .i64 c.tc,.int .i64 c.tn,.int .i64 c.tt,.int .i64 c.tk,.int .i64 c.sh,.slice A1 c.rs.length k1,.slice A2 c.ws.length k2,.bool c.cm] rfl rfl T1.out (by kernel_rfl) (by kernel_rfl) ?_)
     | (with_reducible refine wpList_load_mid rfl 67 _ rfl (w.heap.size + 1) 0 rfl [encN a1, encN a2, encN a3, encN a4, encN a5, encN a6, encN a7,.int .i64 c.k,.int .i64 c.tc,.int .i64 c.tn,.int .i64 c.tt,.int .i64 c.tk,.int .i64 c.sh,.slice A1 c.rs.length k1,.slice A2 c.ws.length k2,.bool c.cm, encN a8, encN (d 0), encN (d 1), encN (d 2), encN (d 3), encN (d 4), encN (d 5), encN (d 6),.bool kp] _ (by rw [← e12]; exact C12.out.cel.whole) Tryz.underlying67 rfl (by kernel_rfl) ?_)
     | (with_reducible refine store_list rfl 67 _ _ rfl w.heap.size 0 [encN a1, encN a2, encN a3, encN a4, encN a5, encN a6, encN a7,.int .i64 c.k,.int .i64 c.tc,.int .i64 c.tn,.int .i64 c.tt,.int .i64 c.tk,.int .i64 c.sh,.slice A1 c.rs.length k1,.slice A2 c.ws.length k2,.bool c.cm, encN a8, encN (d 0), encN (d 1), encN (d 2), encN (d 3), encN (d 4), encN (d 5), encN (d 6),.bool kp] rfl rfl (by rw [← e12]; exact T2.out) (by kernel_rfl) (by kernel_rfl) ?_))
   rw [← e12]
   have FP := Hold.set [encN a1, encN a2, encN a3, encN a4, encN a5, encN a6, encN a7,.int .i64 c.k,.int .i64 c.tc,.int .i64 c.tn,.int .i64 c.tt,.int .i64 c.tk,.int .i64 c.sh,.slice A1 c.rs.length k1,.slice A2 c.ws.length k2,.bool c.cm, encN a8, encN (d 0), encN (d 1), encN (d 2), encN (d 3), encN (d 4), encN (d 5), encN (d 6),.bool kp] [] [.int .i64 0,.int .i64 0,.int .i64 0,.int .i64 0,.int .i64 0,.int .i64 0,.int .i64 0,.int .i64 0,.int .i64 0,.int .i64 0,.int .i64 0,.int .i64 0,.int .i64 0,.slice none 0 0,.slice none 0 0,.bool false,.int .i64 0,.int .i64 0,.int .i64 0,.int .i64 0,.int .i64 0,.int .i64 0,.int .i64 0,.int .i64 0,.bool false] [] rfl _ (show Hold w12 w.heap.size 67 ([] ++ [.int .i64 0,.int .i64 0,.int .i64 0,.int .i64 0,.int .i64 0,.int .i64 0,.int .i64 0,.int .i64 0,.int .i64 0,.int .i64 0,.int .i64 0,.int .i64 0,.int .i64 0,.slice none 0 0,.slice none 0 0,.bool false,.int .i64 0,.int .i64 0,.int .i64 0,.int .i64 0,.int .i64 0,.int .i64 0,.int .i64 0,.int .i64 0,.bool false] ++ []) from Z12.out)
   have FH := Lib.hid (show Hold (w12.setCells w.heap.size 0 [encN a1, encN a2, encN a3, encN a4, encN a5, encN a6, encN a7,.int .i64 c.k,.int .i64 c.tc,.int .i64 c.tn,.int .i64 c.tt,.int .i64 c.tk,.int .i64 c.sh,.slice A1 c.rs.length k1,.slice A2 c.ws.length k2,.bool c.cm, encN a8, encN (d 0), encN (d 1), encN (d 2), encN (d 3), encN (d 4), encN (d 5), encN (d 6),.bool kp]) w.heap.size 67 [encN a1, encN a2, encN a3, encN a4, encN a5, encN a6, encN a7,.int .i64 c.k,.int .i64 c.tc,.int .i64 c.tn,.int .i64 c.tt,.int .i64 c.tk,.int .i64 c.sh,.slice A1 c.rs.length k1,.slice A2 c.ws.length k2,.bool c.cm, encN a8, encN (d 0), encN (d 1), encN (d 2), encN (d 3), encN (d 4), encN (d 5), encN (d 6),.bool kp] from FP)
   have SB := bel_setCells w12 w.heap.size [encN a1, encN a2, encN a3, encN a4, encN a5, encN a6, encN a7,.int .i64 c.k,.int .i64 c.tc,.int .i64 c.tn,.int .i64 c.tt,.int .i64 c.tk,.int .i64 c.sh,.slice A1 c.rs.length k1,.slice A2 c.ws.length k2,.bool c.cm, encN a8, encN (d 0), encN (d 1), encN (d 2), encN (d 3), encN (d 4), encN (d 5), encN (d 6),.bool kp] 0
   have K5 := Lib.hid (ownsRow_baseN (base' := w.heap.size) (ownsRow_bel K3.out SB zl) (by omega))
   have K6 := Lib.hid (ownsRow_baseN (base' := w.heap.size) (ownsRow_bel K4.out SB zl) (by omega))
   refine bodyPost_ret (results_c rfl rfl FH.out.cel.whole _ Tryz.underlying67 rfl (by kernel_rfl)) rfl ?_
   refine ⟨s11, ⟨a1, a2, a3, a4, a5, a6, a7, c, a8, d 0, d 1, d 2, d 3, d 4, d 5, d 6, kp⟩, _, _, rfl, K5.out, K6.out, R12.out.bel SB (by omega), B12.out.on SB (.inr (by omega)) B12.out.size, ?_, N1.out, N2.out⟩
   have PD := P0.out
   rw [← H0.out] at Pa8
   exact P.Ran.bind P.errs_num Pa1.out (P.Ran.bind P.errs_num Pa2.out (P.Ran.bind P.errs_num Pa3.out (P.Ran.bind P.errs_num Pa4.out (P.Ran.bind P.errs_num Pa5.out (P.Ran.bind P.errs_num Pa6.out (P.Ran.bind P.errs_num Pa7.out (P.Ran.bind P.errs_num Pa8.out (P.Ran.bind P.errs_num (PD 0 (by omega)) (P.Ran.bind P.errs_num (PD 1 (by omega)) (P.Ran.bind P.errs_num (PD 2 (by omega)) (P.Ran.bind P.errs_num (PD 3 (by omega)) (P.Ran.bind P.errs_num (PD 4 (by omega)) (P.Ran.bind P.errs_num (PD 5 (by omega)) (P.Ran.bind P.errs_num (PD 6 (by omega)) (P.Ran.bind P.errs_boolean Pkp.out (P.Ran.bind (P.errs_mark 1) Pmk.out (P.Ran.bind P.errs_cmd PC.out (P.Ran.ret _ _))))))))))))))))))
open Go.ChangeShapes Go.WideShapes Go.ChangeAt Go.RowKit
def RdM (g : Nat) (s : P.Sr) (w : World) (e : Ending) (w' : World) : Prop := ∃ (s1 : P.Sr) (m : M.Msg) (va vb : Value), e = .returned (.agg #[.int .i64 m.k,.int .i64 m.fr,.int .i64 m.to,.int .i64 m.bn,.int .i64 m.br,.int .i64 m.r.ir,.int .i64 m.r.is,.int .i64 m.r.st,.int .i64 m.r.pn,.int .i64 m.r.pr,.int .i64 m.r.bn,.int .i64 m.r.br,.int .i64 m.r.c.k,.int .i64 m.r.c.tc,.int .i64 m.r.c.tn,.int .i64 m.r.c.tt,.int .i64 m.r.c.tk,.int .i64 m.r.c.sh, va, vb,.bool m.r.c.cm,.int .i64 m.r.sq,.int .i64 m.r.d0,.int .i64 m.r.d1,.int .i64 m.r.d2,.int .i64 m.r.d3,.int .i64 m.r.d4,.int .i64 m.r.d5,.int .i64 m.r.d6,.bool m.r.kp]) ∧ w'.ownsRow w.heap.size 113 3 va m.r.c.rs.length (rdsC m.r.c.rs) ∧ w'.ownsRow w.heap.size 115 2 vb m.r.c.ws.length (wrsC m.r.c.ws) ∧ Rdr w' g s1 ∧ Bel g w.heap.size w w' ∧ P.Ran P.msg s s1 m ∧ m.r.c.rs.length ≤ 8 ∧ m.r.c.ws.length ≤ 8
theorem message_any {w : World} {g : Nat} {s : P.Sr} (h : Rdr w g s) : Calls Tryz.prog 150 #[.pointer (some ⟨g, 0, none⟩)] w (RdM g s w) := by
 have hg := h.lt
 have R0 := Lib.hid ((h.alloc (.cells #[.int .i64 0,.int .i64 0,.int .i64 0,.int .i64 0,.int .i64 0,.int .i64 0,.int .i64 0,.int .i64 0,.int .i64 0,.int .i64 0,.int .i64 0,.int .i64 0,.int .i64 0,.int .i64 0,.int .i64 0,.int .i64 0,.int .i64 0,.int .i64 0,.slice none 0 0,.slice none 0 0,.bool false,.int .i64 0,.int .i64 0,.int .i64 0,.int .i64 0,.int .i64 0,.int .i64 0,.int .i64 0,.int .i64 0,.bool false] 95)).alloc (.cells #[.int .i64 0,.int .i64 0,.int .i64 0,.int .i64 0,.int .i64 0,.int .i64 0,.int .i64 0,.int .i64 0,.int .i64 0,.int .i64 0,.int .i64 0,.int .i64 0,.int .i64 0,.int .i64 0,.int .i64 0,.int .i64 0,.int .i64 0,.int .i64 0,.slice none 0 0,.slice none 0 0,.bool false,.int .i64 0,.int .i64 0,.int .i64 0,.int .i64 0,.int .i64 0,.int .i64 0,.int .i64 0,.int .i64 0,.bool false] 95))
 have B0 := Lib.hid (((Bel.refl g w.heap.size w).alloc (Nat.le_refl _) (.cells #[.int .i64 0,.int .i64 0,.int .i64 0,.int .i64 0,.int .i64 0,.int .i64 0,.int .i64 0,.int .i64 0,.int .i64 0,.int .i64 0,.int .i64 0,.int .i64 0,.int .i64 0,.int .i64 0,.int .i64 0,.int .i64 0,.int .i64 0,.int .i64 0,.slice none 0 0,.slice none 0 0,.bool false,.int .i64 0,.int .i64 0,.int .i64 0,.int .i64 0,.int .i64 0,.int .i64 0,.int .i64 0,.int .i64 0,.bool false] 95)).alloc (by simp) (.cells #[.int .i64 0,.int .i64 0,.int .i64 0,.int .i64 0,.int .i64 0,.int .i64 0,.int .i64 0,.int .i64 0,.int .i64 0,.int .i64 0,.int .i64 0,.int .i64 0,.int .i64 0,.int .i64 0,.int .i64 0,.int .i64 0,.int .i64 0,.int .i64 0,.slice none 0 0,.slice none 0 0,.bool false,.int .i64 0,.int .i64 0,.int .i64 0,.int .i64 0,.int .i64 0,.int .i64 0,.int .i64 0,.int .i64 0,.bool false] 95))
 have Z0 := Lib.hid ((Hold.new w [.int .i64 0,.int .i64 0,.int .i64 0,.int .i64 0,.int .i64 0,.int .i64 0,.int .i64 0,.int .i64 0,.int .i64 0,.int .i64 0,.int .i64 0,.int .i64 0,.int .i64 0,.int .i64 0,.int .i64 0,.int .i64 0,.int .i64 0,.int .i64 0,.slice none 0 0,.slice none 0 0,.bool false,.int .i64 0,.int .i64 0,.int .i64 0,.int .i64 0,.int .i64 0,.int .i64 0,.int .i64 0,.int .i64 0,.bool false] 95).alloc (.cells #[.int .i64 0,.int .i64 0,.int .i64 0,.int .i64 0,.int .i64 0,.int .i64 0,.int .i64 0,.int .i64 0,.int .i64 0,.int .i64 0,.int .i64 0,.int .i64 0,.int .i64 0,.int .i64 0,.int .i64 0,.int .i64 0,.int .i64 0,.int .i64 0,.slice none 0 0,.slice none 0 0,.bool false,.int .i64 0,.int .i64 0,.int .i64 0,.int .i64 0,.int .i64 0,.int .i64 0,.int .i64 0,.int .i64 0,.bool false] 95))
 have C0 := Lib.hid (show Hold ((w.alloc (.cells #[.int .i64 0,.int .i64 0,.int .i64 0,.int .i64 0,.int .i64 0,.int .i64 0,.int .i64 0,.int .i64 0,.int .i64 0,.int .i64 0,.int .i64 0,.int .i64 0,.int .i64 0,.int .i64 0,.int .i64 0,.int .i64 0,.int .i64 0,.int .i64 0,.slice none 0 0,.slice none 0 0,.bool false,.int .i64 0,.int .i64 0,.int .i64 0,.int .i64 0,.int .i64 0,.int .i64 0,.int .i64 0,.int .i64 0,.bool false] 95)).alloc (.cells #[.int .i64 0,.int .i64 0,.int .i64 0,.int .i64 0,.int .i64 0,.int .i64 0,.int .i64 0,.int .i64 0,.int .i64 0,.int .i64 0,.int .i64 0,.int .i64 0,.int .i64 0,.int .i64 0,.int .i64 0,.int .i64 0,.int .i64 0,.int .i64 0,.slice none 0 0,.slice none 0 0,.bool false,.int .i64 0,.int .i64 0,.int .i64 0,.int .i64 0,.int .i64 0,.int .i64 0,.int .i64 0,.int .i64 0,.bool false] 95)) (w.heap.size + 1) 95 [.int .i64 0,.int .i64 0,.int .i64 0,.int .i64 0,.int .i64 0,.int .i64 0,.int .i64 0,.int .i64 0,.int .i64 0,.int .i64 0,.int .i64 0,.int .i64 0,.int .i64 0,.int .i64 0,.int .i64 0,.int .i64 0,.int .i64 0,.int .i64 0,.slice none 0 0,.slice none 0 0,.bool false,.int .i64 0,.int .i64 0,.int .i64 0,.int .i64 0,.int .i64 0,.int .i64 0,.int .i64 0,.int .i64 0,.bool false] by simpa using Hold.new (w.alloc (.cells #[.int .i64 0,.int .i64 0,.int .i64 0,.int .i64 0,.int .i64 0,.int .i64 0,.int .i64 0,.int .i64 0,.int .i64 0,.int .i64 0,.int .i64 0,.int .i64 0,.int .i64 0,.int .i64 0,.int .i64 0,.int .i64 0,.int .i64 0,.int .i64 0,.slice none 0 0,.slice none 0 0,.bool false,.int .i64 0,.int .i64 0,.int .i64 0,.int .i64 0,.int .i64 0,.int .i64 0,.int .i64 0,.int .i64 0,.bool false] 95)) [.int .i64 0,.int .i64 0,.int .i64 0,.int .i64 0,.int .i64 0,.int .i64 0,.int .i64 0,.int .i64 0,.int .i64 0,.int .i64 0,.int .i64 0,.int .i64 0,.int .i64 0,.int .i64 0,.int .i64 0,.int .i64 0,.int .i64 0,.int .i64 0,.slice none 0 0,.slice none 0 0,.bool false,.int .i64 0,.int .i64 0,.int .i64 0,.int .i64 0,.int .i64 0,.int .i64 0,.int .i64 0,.int .i64 0,.bool false] 95)
 clear h
 go_enter Tryz.func150, Tryz.ntmps150
 go_wp2_with (fail)
 refine (number_any R0.out).mono ?_
 rintro e w1 ⟨s1, a1, rfl, -, hr, hb, ha1⟩
 have R1 := Lib.hid hr
 have B1 := Lib.hid (B0.out.trans hb (by have := B0.out.size; omega))
 have Z1 := Lib.hid (Z0.out.bel hb (by omega))
 have C1 := Lib.hid (C0.out.bel hb (by omega))
 have Pa1 := Lib.hid ha1
 clear hr hb ha1
 clear R0 B0 Z0 C0
 have c0 := C1.out.cell 0 rfl
 have f0 := C1.out.soft 0
 have R1a := Lib.hid (R1.out.bel (Bel.store (w1) (w.heap.size + 1) 0 (encN a1)) (by omega))
 have B1a := Lib.hid (B1.out.on (Bel.store (w1) (w.heap.size + 1) 0 (encN a1)) (.inr (by omega)) B1.out.size)
 have Z1a := Lib.hid (Z1.out.bel (Bel.store (w1) (w.heap.size + 1) 0 (encN a1)) (by omega))
 have C1a := Lib.hid (show Hold ((w1).setCell ⟨(w.heap.size + 1), 0, none⟩ (encN a1)) (w.heap.size + 1) 95 [encN a1,.int .i64 0,.int .i64 0,.int .i64 0,.int .i64 0,.int .i64 0,.int .i64 0,.int .i64 0,.int .i64 0,.int .i64 0,.int .i64 0,.int .i64 0,.int .i64 0,.int .i64 0,.int .i64 0,.int .i64 0,.int .i64 0,.int .i64 0,.slice none 0 0,.slice none 0 0,.bool false,.int .i64 0,.int .i64 0,.int .i64 0,.int .i64 0,.int .i64 0,.int .i64 0,.int .i64 0,.int .i64 0,.bool false] from C1.out.put 0 (encN a1))
 clear R1 B1 Z1 C1
 go_wp2_with (fail)
 refine (number_any R1a.out).mono ?_
 rintro e w2 ⟨s2, a2, rfl, -, hr, hb, ha2⟩
 have R2 := Lib.hid hr
 have B2 := Lib.hid (B1a.out.trans hb (by have := B1a.out.size; omega))
 have Z2 := Lib.hid (Z1a.out.bel hb (by omega))
 have C2 := Lib.hid (C1a.out.bel hb (by omega))
 have Pa2 := Lib.hid ha2
 clear hr hb ha2
 clear R1a B1a Z1a C1a
 clear c0 f0
 have c0 := C2.out.cell 1 rfl
 have f0 := C2.out.soft 1
 have R2a := Lib.hid (R2.out.bel (Bel.store (w2) (w.heap.size + 1) 1 (encN a2)) (by omega))
 have B2a := Lib.hid (B2.out.on (Bel.store (w2) (w.heap.size + 1) 1 (encN a2)) (.inr (by omega)) B2.out.size)
 have Z2a := Lib.hid (Z2.out.bel (Bel.store (w2) (w.heap.size + 1) 1 (encN a2)) (by omega))
 have C2a := Lib.hid (show Hold ((w2).setCell ⟨(w.heap.size + 1), 1, none⟩ (encN a2)) (w.heap.size + 1) 95 [encN a1, encN a2,.int .i64 0,.int .i64 0,.int .i64 0,.int .i64 0,.int .i64 0,.int .i64 0,.int .i64 0,.int .i64 0,.int .i64 0,.int .i64 0,.int .i64 0,.int .i64 0,.int .i64 0,.int .i64 0,.int .i64 0,.int .i64 0,.slice none 0 0,.slice none 0 0,.bool false,.int .i64 0,.int .i64 0,.int .i64 0,.int .i64 0,.int .i64 0,.int .i64 0,.int .i64 0,.int .i64 0,.bool false] from C2.out.put 1 (encN a2))
 clear R2 B2 Z2 C2
 go_wp2_with (fail)
 refine (number_any R2a.out).mono ?_
 rintro e w3 ⟨s3, a3, rfl, -, hr, hb, ha3⟩
 have R3 := Lib.hid hr
 have B3 := Lib.hid (B2a.out.trans hb (by have := B2a.out.size; omega))
 have Z3 := Lib.hid (Z2a.out.bel hb (by omega))
 have C3 := Lib.hid (C2a.out.bel hb (by omega))
 have Pa3 := Lib.hid ha3
 clear hr hb ha3
 clear R2a B2a Z2a C2a
 clear c0 f0
 have c0 := C3.out.cell 2 rfl
 have f0 := C3.out.soft 2
 have R3a := Lib.hid (R3.out.bel (Bel.store (w3) (w.heap.size + 1) 2 (encN a3)) (by omega))
 have B3a := Lib.hid (B3.out.on (Bel.store (w3) (w.heap.size + 1) 2 (encN a3)) (.inr (by omega)) B3.out.size)
 have Z3a := Lib.hid (Z3.out.bel (Bel.store (w3) (w.heap.size + 1) 2 (encN a3)) (by omega))
 have C3a := Lib.hid (show Hold ((w3).setCell ⟨(w.heap.size + 1), 2, none⟩ (encN a3)) (w.heap.size + 1) 95 [encN a1, encN a2, encN a3,.int .i64 0,.int .i64 0,.int .i64 0,.int .i64 0,.int .i64 0,.int .i64 0,.int .i64 0,.int .i64 0,.int .i64 0,.int .i64 0,.int .i64 0,.int .i64 0,.int .i64 0,.int .i64 0,.int .i64 0,.slice none 0 0,.slice none 0 0,.bool false,.int .i64 0,.int .i64 0,.int .i64 0,.int .i64 0,.int .i64 0,.int .i64 0,.int .i64 0,.int .i64 0,.bool false] from C3.out.put 2 (encN a3))
 clear R3 B3 Z3 C3
 go_wp2_with (fail)
 refine (ballot_any R3a.out).mono ?_
 rintro e w4 ⟨t4, s4, a4, a5, rfl, -, -, hr, hb, ha4, ha5⟩
 have R4 := Lib.hid hr
 have B4 := Lib.hid (B3a.out.trans hb (by have := B3a.out.size; omega))
 have Z4 := Lib.hid (Z3a.out.bel hb (by omega))
 have C4 := Lib.hid (C3a.out.bel hb (by omega))
 have Pa4 := Lib.hid ha4
 have Pa5 := Lib.hid ha5
 clear hr hb ha4 ha5
 clear R3a B3a Z3a C3a
 clear c0 f0
 have c0 := C4.out.cell 3 rfl
 have f0 := C4.out.soft 3
 have c1 := C4.out.cell 4 rfl
 have f1 := C4.out.soft 4
 have R4a := Lib.hid (R4.out.bel (Bel.store (w4) (w.heap.size + 1) 3 (encN a4)) (by omega))
 have B4a := Lib.hid (B4.out.on (Bel.store (w4) (w.heap.size + 1) 3 (encN a4)) (.inr (by omega)) B4.out.size)
 have Z4a := Lib.hid (Z4.out.bel (Bel.store (w4) (w.heap.size + 1) 3 (encN a4)) (by omega))
 have C4a := Lib.hid (show Hold ((w4).setCell ⟨(w.heap.size + 1), 3, none⟩ (encN a4)) (w.heap.size + 1) 95 [encN a1, encN a2, encN a3, encN a4,.int .i64 0,.int .i64 0,.int .i64 0,.int .i64 0,.int .i64 0,.int .i64 0,.int .i64 0,.int .i64 0,.int .i64 0,.int .i64 0,.int .i64 0,.int .i64 0,.int .i64 0,.int .i64 0,.slice none 0 0,.slice none 0 0,.bool false,.int .i64 0,.int .i64 0,.int .i64 0,.int .i64 0,.int .i64 0,.int .i64 0,.int .i64 0,.int .i64 0,.bool false] from C4.out.put 3 (encN a4))
 clear R4 B4 Z4 C4
 have R4b := Lib.hid (R4a.out.bel (Bel.store ((w4).setCell ⟨(w.heap.size + 1), 3, none⟩ (encN a4)) (w.heap.size + 1) 4 (encN a5)) (by omega))
 have B4b := Lib.hid (B4a.out.on (Bel.store ((w4).setCell ⟨(w.heap.size + 1), 3, none⟩ (encN a4)) (w.heap.size + 1) 4 (encN a5)) (.inr (by omega)) B4a.out.size)
 have Z4b := Lib.hid (Z4a.out.bel (Bel.store ((w4).setCell ⟨(w.heap.size + 1), 3, none⟩ (encN a4)) (w.heap.size + 1) 4 (encN a5)) (by omega))
 have C4b := Lib.hid (show Hold (((w4).setCell ⟨(w.heap.size + 1), 3, none⟩ (encN a4)).setCell ⟨(w.heap.size + 1), 4, none⟩ (encN a5)) (w.heap.size + 1) 95 [encN a1, encN a2, encN a3, encN a4, encN a5,.int .i64 0,.int .i64 0,.int .i64 0,.int .i64 0,.int .i64 0,.int .i64 0,.int .i64 0,.int .i64 0,.int .i64 0,.int .i64 0,.int .i64 0,.int .i64 0,.int .i64 0,.slice none 0 0,.slice none 0 0,.bool false,.int .i64 0,.int .i64 0,.int .i64 0,.int .i64 0,.int .i64 0,.int .i64 0,.int .i64 0,.int .i64 0,.bool false] from C4a.out.put 4 (encN a5))
 clear R4a B4a Z4a C4a
 go_wp2_with (fail)
 refine (mark_any 2 rfl R4b.out).mono ?_
 rintro e w5 ⟨s5, _, rfl, -, hr, hb, hmk⟩
 have R5 := Lib.hid hr
 have B5 := Lib.hid (B4b.out.trans hb (by have := B4b.out.size; omega))
 have Z5 := Lib.hid (Z4b.out.bel hb (by omega))
 have C5 := Lib.hid (C4b.out.bel hb (by omega))
 have Pmk := Lib.hid hmk
 clear hr hb hmk
 clear R4b B4b Z4b C4b
 clear c0 f0 c1 f1
 go_wp2_with (fail)
 refine (record_any R5.out).mono ?_
 rintro e w11 ⟨s11, r, va, vb, rfl, hra, hrb, hr, hb, hp, hl1, hl2⟩
 obtain ⟨A1, k1, rfl⟩ := ownsRow_slice hra
 obtain ⟨A2, k2, rfl⟩ := ownsRow_slice hrb
 have BS := B5.out.size
 have zl := Z5.out.lt
 have xl := C5.out.lt
 have R11 := Lib.hid hr
 have B11 := Lib.hid (B5.out.trans hb (by have := B5.out.size; omega))
 have Z11 := Lib.hid (Z5.out.bel hb (by omega))
 have C11 := Lib.hid (C5.out.bel hb (by omega))
 have K1 := Lib.hid hra
 have K2 := Lib.hid hrb
 have PC := Lib.hid hp
 have N1 := Lib.hid hl1
 have N2 := Lib.hid hl2
 clear hr hb hp hl1 hl2 hra hrb
 clear R5 B5 Z5 C5
 have T1 := Lib.hid (show w11.there (w.heap.size + 1) 5 ([.int .i64 r.ir,.int .i64 r.is,.int .i64 r.st,.int .i64 r.pn,.int .i64 r.pr,.int .i64 r.bn,.int .i64 r.br,.int .i64 r.c.k,.int .i64 r.c.tc,.int .i64 r.c.tn,.int .i64 r.c.tt,.int .i64 r.c.tk,.int .i64 r.c.sh, (.slice A1 r.c.rs.length k1), (.slice A2 r.c.ws.length k2),.bool r.c.cm,.int .i64 r.sq,.int .i64 r.d0,.int .i64 r.d1,.int .i64 r.d2,.int .i64 r.d3,.int .i64 r.d4,.int .i64 r.d5,.int .i64 r.d6,.bool r.kp] : List Value).length from C11.out.there (by show 5 + 25 ≤ 30; omega))
 have FP := Hold.set [.int .i64 r.ir,.int .i64 r.is,.int .i64 r.st,.int .i64 r.pn,.int .i64 r.pr,.int .i64 r.bn,.int .i64 r.br,.int .i64 r.c.k,.int .i64 r.c.tc,.int .i64 r.c.tn,.int .i64 r.c.tt,.int .i64 r.c.tk,.int .i64 r.c.sh, (.slice A1 r.c.rs.length k1), (.slice A2 r.c.ws.length k2),.bool r.c.cm,.int .i64 r.sq,.int .i64 r.d0,.int .i64 r.d1,.int .i64 r.d2,.int .i64 r.d3,.int .i64 r.d4,.int .i64 r.d5,.int .i64 r.d6,.bool r.kp] [encN a1, encN a2, encN a3, encN a4, encN a5] [.int .i64 0,.int .i64 0,.int .i64 0,.int .i64 0,.int .i64 0,.int .i64 0,.int .i64 0,.int .i64 0,.int .i64 0,.int .i64 0,.int .i64 0,.int .i64 0,.int .i64 0,.slice none 0 0,.slice none 0 0,.bool false,.int .i64 0,.int .i64 0,.int .i64 0,.int .i64 0,.int .i64 0,.int .i64 0,.int .i64 0,.int .i64 0,.bool false] [] rfl _ (show Hold w11 (w.heap.size + 1) 95 ([encN a1, encN a2, encN a3, encN a4, encN a5] ++ [.int .i64 0,.int .i64 0,.int .i64 0,.int .i64 0,.int .i64 0,.int .i64 0,.int .i64 0,.int .i64 0,.int .i64 0,.int .i64 0,.int .i64 0,.int .i64 0,.int .i64 0,.slice none 0 0,.slice none 0 0,.bool false,.int .i64 0,.int .i64 0,.int .i64 0,.int .i64 0,.int .i64 0,.int .i64 0,.int .i64 0,.int .i64 0,.bool false] ++ []) from C11.out)
 have se := bel_setCells w11 (w.heap.size + 1) [.int .i64 r.ir,.int .i64 r.is,.int .i64 r.st,.int .i64 r.pn,.int .i64 r.pr,.int .i64 r.bn,.int .i64 r.br,.int .i64 r.c.k,.int .i64 r.c.tc,.int .i64 r.c.tn,.int .i64 r.c.tt,.int .i64 r.c.tk,.int .i64 r.c.sh, (.slice A1 r.c.rs.length k1), (.slice A2 r.c.ws.length k2),.bool r.c.cm,.int .i64 r.sq,.int .i64 r.d0,.int .i64 r.d1,.int .i64 r.d2,.int .i64 r.d3,.int .i64 r.d4,.int .i64 r.d5,.int .i64 r.d6,.bool r.kp] 5
 have C12 := Lib.hid (show Hold (w11.setCells (w.heap.size + 1) 5 [.int .i64 r.ir,.int .i64 r.is,.int .i64 r.st,.int .i64 r.pn,.int .i64 r.pr,.int .i64 r.bn,.int .i64 r.br,.int .i64 r.c.k,.int .i64 r.c.tc,.int .i64 r.c.tn,.int .i64 r.c.tt,.int .i64 r.c.tk,.int .i64 r.c.sh, (.slice A1 r.c.rs.length k1), (.slice A2 r.c.ws.length k2),.bool r.c.cm,.int .i64 r.sq,.int .i64 r.d0,.int .i64 r.d1,.int .i64 r.d2,.int .i64 r.d3,.int .i64 r.d4,.int .i64 r.d5,.int .i64 r.d6,.bool r.kp]) (w.heap.size + 1) 95 [encN a1, encN a2, encN a3, encN a4, encN a5,.int .i64 r.ir,.int .i64 r.is,.int .i64 r.st,.int .i64 r.pn,.int .i64 r.pr,.int .i64 r.bn,.int .i64 r.br,.int .i64 r.c.k,.int .i64 r.c.tc,.int .i64 r.c.tn,.int .i64 r.c.tt,.int .i64 r.c.tk,.int .i64 r.c.sh, (.slice A1 r.c.rs.length k1), (.slice A2 r.c.ws.length k2),.bool r.c.cm,.int .i64 r.sq,.int .i64 r.d0,.int .i64 r.d1,.int .i64 r.d2,.int .i64 r.d3,.int .i64 r.d4,.int .i64 r.d5,.int .i64 r.d6,.bool r.kp] from FP)
 have R12 := Lib.hid (R11.out.bel se (by omega))
 have B12 := Lib.hid (B11.out.on se (.inr (by omega)) B11.out.size)
 have Z12 := Lib.hid (Z11.out.bel se (by omega))
 have K3 := Lib.hid (ownsRow_bel K1.out se xl)
 have K4 := Lib.hid (ownsRow_bel K2.out se xl)
 obtain ⟨w12, e12⟩ : ∃ w12, w12 = w11.setCells (w.heap.size + 1) 5 [.int .i64 r.ir,.int .i64 r.is,.int .i64 r.st,.int .i64 r.pn,.int .i64 r.pr,.int .i64 r.bn,.int .i64 r.br,.int .i64 r.c.k,.int .i64 r.c.tc,.int .i64 r.c.tn,.int .i64 r.c.tt,.int .i64 r.c.tk,.int .i64 r.c.sh, (.slice A1 r.c.rs.length k1), (.slice A2 r.c.ws.length k2),.bool r.c.cm,.int .i64 r.sq,.int .i64 r.d0,.int .i64 r.d1,.int .i64 r.d2,.int .i64 r.d3,.int .i64 r.d4,.int .i64 r.d5,.int .i64 r.d6,.bool r.kp] := ⟨_, rfl⟩
 rw [← e12] at C12 R12 B12 Z12 K3 K4
 clear FP se C11 R11 B11 Z11 K1 K2
 have T2 := Lib.hid (show w12.there w.heap.size 0 ([encN a1, encN a2, encN a3, encN a4, encN a5,.int .i64 r.ir,.int .i64 r.is,.int .i64 r.st,.int .i64 r.pn,.int .i64 r.pr,.int .i64 r.bn,.int .i64 r.br,.int .i64 r.c.k,.int .i64 r.c.tc,.int .i64 r.c.tn,.int .i64 r.c.tt,.int .i64 r.c.tk,.int .i64 r.c.sh, (.slice A1 r.c.rs.length k1), (.slice A2 r.c.ws.length k2),.bool r.c.cm,.int .i64 r.sq,.int .i64 r.d0,.int .i64 r.d1,.int .i64 r.d2,.int .i64 r.d3,.int .i64 r.d4,.int .i64 r.d5,.int .i64 r.d6,.bool r.kp] : List Value).length from Z12.out.there (Nat.le_refl 30))
 go_wp2_with
  (first
   | (with_reducible refine store_list rfl 67 _ _ rfl (w.heap.size + 1) 5 [.int .i64 r.ir,.int .i64 r.is,.int .i64 r.st,.int .i64 r.pn,.int .i64 r.pr,.int .i64 r.bn,.int .i64 r.br,.int .i64 r.c.k,.int .i64 r.c.tc,.int .i64 r.c.tn,.int .i64 r.c.tt,.int .i64 r.c.tk,.int .i64 r.c.sh, (.slice A1 r.c.rs.length k1), (.slice A2 r.c.ws.length k2),.bool r.c.cm,.int .i64 r.sq,.int .i64 r.d0,.int .i64 r.d1,.int .i64 r.d2,.int .i64 r.d3,.int .i64 r.d4,.int .i64 r.d5,.int .i64 r.d6,.bool r.kp] rfl rfl T1.out (by kernel_rfl) (by kernel_rfl) ?_)
   | (with_reducible refine wpList_load_mid rfl 95 _ rfl (w.heap.size + 1) 0 rfl [encN a1, encN a2, encN a3, encN a4, encN a5,.int .i64 r.ir,.int .i64 r.is,.int .i64 r.st,.int .i64 r.pn,.int .i64 r.pr,.int .i64 r.bn,.int .i64 r.br,.int .i64 r.c.k,.int .i64 r.c.tc,.int .i64 r.c.tn,.int .i64 r.c.tt,.int .i64 r.c.tk,.int .i64 r.c.sh, (.slice A1 r.c.rs.length k1), (.slice A2 r.c.ws.length k2),.bool r.c.cm,.int .i64 r.sq,.int .i64 r.d0,.int .i64 r.d1,.int .i64 r.d2,.int .i64 r.d3,.int .i64 r.d4,.int .i64 r.d5,.int .i64 r.d6,.bool r.kp] _ (by rw [← e12]; exact C12.out.cel.whole) Tryz.underlying95 rfl (by kernel_rfl) ?_)
   | (with_reducible refine store_list rfl 95 _ _ rfl w.heap.size 0 [encN a1, encN a2, encN a3, encN a4, encN a5,.int .i64 r.ir,.int .i64 r.is,.int .i64 r.st,.int .i64 r.pn,.int .i64 r.pr,.int .i64 r.bn,.int .i64 r.br,.int .i64 r.c.k,.int .i64 r.c.tc,.int .i64 r.c.tn,.int .i64 r.c.tt,.int .i64 r.c.tk,.int .i64 r.c.sh, (.slice A1 r.c.rs.length k1), (.slice A2 r.c.ws.length k2),.bool r.c.cm,.int .i64 r.sq,.int .i64 r.d0,.int .i64 r.d1,.int .i64 r.d2,.int .i64 r.d3,.int .i64 r.d4,.int .i64 r.d5,.int .i64 r.d6,.bool r.kp] rfl rfl (by rw [← e12]; exact T2.out) (by kernel_rfl) (by kernel_rfl) ?_))
 rw [← e12]
 have FP := Hold.set [encN a1, encN a2, encN a3, encN a4, encN a5,.int .i64 r.ir,.int .i64 r.is,.int .i64 r.st,.int .i64 r.pn,.int .i64 r.pr,.int .i64 r.bn,.int .i64 r.br,.int .i64 r.c.k,.int .i64 r.c.tc,.int .i64 r.c.tn,.int .i64 r.c.tt,.int .i64 r.c.tk,.int .i64 r.c.sh, (.slice A1 r.c.rs.length k1), (.slice A2 r.c.ws.length k2),.bool r.c.cm,.int .i64 r.sq,.int .i64 r.d0,.int .i64 r.d1,.int .i64 r.d2,.int .i64 r.d3,.int .i64 r.d4,.int .i64 r.d5,.int .i64 r.d6,.bool r.kp] [] [.int .i64 0,.int .i64 0,.int .i64 0,.int .i64 0,.int .i64 0,.int .i64 0,.int .i64 0,.int .i64 0,.int .i64 0,.int .i64 0,.int .i64 0,.int .i64 0,.int .i64 0,.int .i64 0,.int .i64 0,.int .i64 0,.int .i64 0,.int .i64 0,.slice none 0 0,.slice none 0 0,.bool false,.int .i64 0,.int .i64 0,.int .i64 0,.int .i64 0,.int .i64 0,.int .i64 0,.int .i64 0,.int .i64 0,.bool false] [] rfl _ (show Hold w12 w.heap.size 95 ([] ++ [.int .i64 0,.int .i64 0,.int .i64 0,.int .i64 0,.int .i64 0,.int .i64 0,.int .i64 0,.int .i64 0,.int .i64 0,.int .i64 0,.int .i64 0,.int .i64 0,.int .i64 0,.int .i64 0,.int .i64 0,.int .i64 0,.int .i64 0,.int .i64 0,.slice none 0 0,.slice none 0 0,.bool false,.int .i64 0,.int .i64 0,.int .i64 0,.int .i64 0,.int .i64 0,.int .i64 0,.int .i64 0,.int .i64 0,.bool false] ++ []) from Z12.out)
 have FH := Lib.hid (show Hold (w12.setCells w.heap.size 0 [encN a1, encN a2, encN a3, encN a4, encN a5,.int .i64 r.ir,.int .i64 r.is,.int .i64 r.st,.int .i64 r.pn,.int .i64 r.pr,.int .i64 r.bn,.int .i64 r.br,.int .i64 r.c.k,.int .i64 r.c.tc,.int .i64 r.c.tn,.int .i64 r.c.tt,.int .i64 r.c.tk,.int .i64 r.c.sh, (.slice A1 r.c.rs.length k1), (.slice A2 r.c.ws.length k2),.bool r.c.cm,.int .i64 r.sq,.int .i64 r.d0,.int .i64 r.d1,.int .i64 r.d2,.int .i64 r.d3,.int .i64 r.d4,.int .i64 r.d5,.int .i64 r.d6,.bool r.kp]) w.heap.size 95 [encN a1, encN a2, encN a3, encN a4, encN a5,.int .i64 r.ir,.int .i64 r.is,.int .i64 r.st,.int .i64 r.pn,.int .i64 r.pr,.int .i64 r.bn,.int .i64 r.br,.int .i64 r.c.k,.int .i64 r.c.tc,.int .i64 r.c.tn,.int .i64 r.c.tt,.int .i64 r.c.tk,.int .i64 r.c.sh, (.slice A1 r.c.rs.length k1), (.slice A2 r.c.ws.length k2),.bool r.c.cm,.int .i64 r.sq,.int .i64 r.d0,.int .i64 r.d1,.int .i64 r.d2,.int .i64 r.d3,.int .i64 r.d4,.int .i64 r.d5,.int .i64 r.d6,.bool r.kp] from FP)
 have SB := bel_setCells w12 w.heap.size [encN a1, encN a2, encN a3, encN a4, encN a5,.int .i64 r.ir,.int .i64 r.is,.int .i64 r.st,.int .i64 r.pn,.int .i64 r.pr,.int .i64 r.bn,.int .i64 r.br,.int .i64 r.c.k,.int .i64 r.c.tc,.int .i64 r.c.tn,.int .i64 r.c.tt,.int .i64 r.c.tk,.int .i64 r.c.sh, (.slice A1 r.c.rs.length k1), (.slice A2 r.c.ws.length k2),.bool r.c.cm,.int .i64 r.sq,.int .i64 r.d0,.int .i64 r.d1,.int .i64 r.d2,.int .i64 r.d3,.int .i64 r.d4,.int .i64 r.d5,.int .i64 r.d6,.bool r.kp] 0
 have K5 := Lib.hid (ownsRow_baseN (base' := w.heap.size) (ownsRow_bel K3.out SB zl) (by omega))
 have K6 := Lib.hid (ownsRow_baseN (base' := w.heap.size) (ownsRow_bel K4.out SB zl) (by omega))
 refine bodyPost_ret (results_c rfl rfl FH.out.cel.whole _ Tryz.underlying95 rfl (by kernel_rfl)) rfl ?_
 refine ⟨s11, ⟨a1, a2, a3, a4, a5, r⟩, _, _, rfl, K5.out, K6.out, R12.out.bel SB (by omega), B12.out.on SB (.inr (by omega)) B12.out.size, ?_, N1.out, N2.out⟩
 exact P.Ran.bind P.errs_num Pa1.out (P.Ran.bind P.errs_num Pa2.out (P.Ran.bind P.errs_num Pa3.out (P.Ran.bind P.errs_num Pa4.out (P.Ran.bind P.errs_num Pa5.out (P.Ran.bind (P.errs_mark 2) Pmk.out (P.Ran.bind P.errs_rcd PC.out (P.Ran.ret _ _)))))))
open Go.ChangeShapes Go.WideShapes Go.ChangeAt Go.RowKit
def OwnV (w : World) (base : Nat) : P.Val → Value → Prop
 | .inl c, x => ∃ va vb, x = .iface 63 (.agg #[.int .i64 c.k,.int .i64 c.tc,.int .i64 c.tn,.int .i64 c.tt,.int .i64 c.tk,.int .i64 c.sh, va, vb,.bool c.cm]) ∧ w.ownsRow base 113 3 va c.rs.length (rdsC c.rs) ∧ w.ownsRow base 115 2 vb c.ws.length (wrsC c.ws) ∧ c.rs.length ≤ 8 ∧ c.ws.length ≤ 8
 | .inr (.inl r), x => ∃ va vb, x = .iface 67 (.agg #[.int .i64 r.ir,.int .i64 r.is,.int .i64 r.st,.int .i64 r.pn,.int .i64 r.pr,.int .i64 r.bn,.int .i64 r.br,.int .i64 r.c.k,.int .i64 r.c.tc,.int .i64 r.c.tn,.int .i64 r.c.tt,.int .i64 r.c.tk,.int .i64 r.c.sh, va, vb,.bool r.c.cm,.int .i64 r.sq,.int .i64 r.d0,.int .i64 r.d1,.int .i64 r.d2,.int .i64 r.d3,.int .i64 r.d4,.int .i64 r.d5,.int .i64 r.d6,.bool r.kp]) ∧ w.ownsRow base 113 3 va r.c.rs.length (rdsC r.c.rs) ∧ w.ownsRow base 115 2 vb r.c.ws.length (wrsC r.c.ws) ∧ r.c.rs.length ≤ 8 ∧ r.c.ws.length ≤ 8
 | .inr (.inr m), x => ∃ va vb, x = .iface 95 (.agg #[.int .i64 m.k,.int .i64 m.fr,.int .i64 m.to,.int .i64 m.bn,.int .i64 m.br,.int .i64 m.r.ir,.int .i64 m.r.is,.int .i64 m.r.st,.int .i64 m.r.pn,.int .i64 m.r.pr,.int .i64 m.r.bn,.int .i64 m.r.br,.int .i64 m.r.c.k,.int .i64 m.r.c.tc,.int .i64 m.r.c.tn,.int .i64 m.r.c.tt,.int .i64 m.r.c.tk,.int .i64 m.r.c.sh, va, vb,.bool m.r.c.cm,.int .i64 m.r.sq,.int .i64 m.r.d0,.int .i64 m.r.d1,.int .i64 m.r.d2,.int .i64 m.r.d3,.int .i64 m.r.d4,.int .i64 m.r.d5,.int .i64 m.r.d6,.bool m.r.kp]) ∧ w.ownsRow base 113 3 va m.r.c.rs.length (rdsC m.r.c.rs) ∧ w.ownsRow base 115 2 vb m.r.c.ws.length (wrsC m.r.c.ws) ∧ m.r.c.rs.length ≤ 8 ∧ m.r.c.ws.length ≤ 8
def RdV (g : Nat) (s : P.Sr) (w : World) (e : Ending) (w' : World) : Prop := ∃ (s1 : P.Sr) (x : Value), e = .returned x ∧ Rdr w' g s1 ∧ Bel g w.heap.size w w' ∧ ((s1.er ≠ 0 ∧ ∀ v, P.Ran P.val s s1 v) ∨ ∃ v, OwnV w' w.heap.size v x ∧ P.Ran P.val s s1 v)
theorem ownV_base {w : World} {base base' : Nat} {v : P.Val} {x : Value} (h : OwnV w base v x) (hb : base' ≤ base) : OwnV w base' v x := by
 rcases v with c | r | m
 ·obtain ⟨va, vb, e, h1, h2, h3⟩ := h
  exact ⟨va, vb, e, ownsRow_baseN h1 hb, ownsRow_baseN h2 hb, h3⟩
 ·obtain ⟨va, vb, e, h1, h2, h3⟩ := h
  exact ⟨va, vb, e, ownsRow_baseN h1 hb, ownsRow_baseN h2 hb, h3⟩
 ·obtain ⟨va, vb, e, h1, h2, h3⟩ := h
  exact ⟨va, vb, e, ownsRow_baseN h1 hb, ownsRow_baseN h2 hb, h3⟩
theorem value_any {w : World} {g : Nat} {s : P.Sr} (h : Rdr w g s) : Calls Tryz.prog 124 #[.pointer (some ⟨g, 0, none⟩)] w (RdV g s w) := by
 have R0 := Lib.hid h
 clear h
 go_enter Tryz.func124, Tryz.ntmps124
 go_wp2_with (fail)
 refine (one_any R0.out).mono ?_
 rintro e w1 ⟨s1, x, rfl, hx, hr, hb, hp⟩
 have R1 := Lib.hid hr
 have B1 := Lib.hid hb
 have P1 := Lib.hid hp
 clear hr hb hp hx
 by_cases h1 : x = 1
 ·subst h1
  go_wp2_with (fail)
  refine (command_any R1.out).mono ?_
  rintro e w2 ⟨s2, c, va, vb, rfl, ha, hb1, hr, hb, hp, hl1, hl2⟩
  have R2 := Lib.hid hr
  have B2 := Lib.hid (B1.out.trans hb B1.out.size)
  have P2 := Lib.hid hp
  have K1 := Lib.hid (ownsRow_baseN ha B1.out.size)
  have K2 := Lib.hid (ownsRow_baseN hb1 B1.out.size)
  have N := Lib.hid (And.intro hl1 hl2)
  clear hr hb hp ha hb1 hl1 hl2
  go_wp2
  go_ret
  refine ⟨s2, _, rfl, R2.out, B2.out, .inr ⟨.inl c, ⟨va, vb, rfl, K1.out, K2.out, N.out⟩, ?_⟩⟩
  refine P.Ran.bind P.errs_one P1.out ?_
  rw [if_pos rfl]
  exact P.Ran.bind P.errs_cmd P2.out (P.Ran.ret _ _)
 ·have q1 : ((x : Int) == 1) = false := by rw [beq_eq_false_iff_ne]; omega
  by_cases h2 : x = 2
  ·subst h2
   clear h1
   go_wp2_with (fail)
   refine (record_any R1.out).mono ?_
   rintro e w2 ⟨s2, c, va, vb, rfl, ha, hb1, hr, hb, hp, hl1, hl2⟩
   have R2 := Lib.hid hr
   have B2 := Lib.hid (B1.out.trans hb B1.out.size)
   have P2 := Lib.hid hp
   have K1 := Lib.hid (ownsRow_baseN ha B1.out.size)
   have K2 := Lib.hid (ownsRow_baseN hb1 B1.out.size)
   have N := Lib.hid (And.intro hl1 hl2)
   clear hr hb hp ha hb1 hl1 hl2
   go_wp2
   go_ret
   refine ⟨s2, _, rfl, R2.out, B2.out, .inr ⟨.inr (.inl c), ⟨va, vb, rfl, K1.out, K2.out, N.out⟩, ?_⟩⟩
   refine P.Ran.bind P.errs_one P1.out ?_
   rw [if_neg (by omega), if_pos rfl]
   exact P.Ran.bind P.errs_rcd P2.out (P.Ran.ret _ _)
  ·have q2 : ((x : Int) == 2) = false := by rw [beq_eq_false_iff_ne]; omega
   by_cases h3 : x = 3
   ·subst h3
    clear h1 h2
    go_wp2_with (fail)
    refine (message_any R1.out).mono ?_
    rintro e w2 ⟨s2, c, va, vb, rfl, ha, hb1, hr, hb, hp, hl1, hl2⟩
    have R2 := Lib.hid hr
    have B2 := Lib.hid (B1.out.trans hb B1.out.size)
    have P2 := Lib.hid hp
    have K1 := Lib.hid (ownsRow_baseN ha B1.out.size)
    have K2 := Lib.hid (ownsRow_baseN hb1 B1.out.size)
    have N := Lib.hid (And.intro hl1 hl2)
    clear hr hb hp ha hb1 hl1 hl2
    go_wp2
    go_ret
    refine ⟨s2, _, rfl, R2.out, B2.out, .inr ⟨.inr (.inr c), ⟨va, vb, rfl, K1.out, K2.out, N.out⟩, ?_⟩⟩
    refine P.Ran.bind P.errs_one P1.out ?_
    rw [if_neg (by omega), if_neg (by omega), if_pos rfl]
    exact P.Ran.bind P.errs_msg P2.out (P.Ran.ret _ _)
   ·have q3 : ((x : Int) == 3) = false := by rw [beq_eq_false_iff_ne]; omega
    have H := Lib.hid (And.intro h1 (And.intro h2 h3))
    clear h1 h2 h3
    go_wp2_with (fail)
    refine (fail_any 4 rfl R1.out).mono ?_
    rintro e w2 ⟨rfl, hr, hb⟩
    have R2 := Lib.hid hr
    have B2 := Lib.hid (B1.out.trans hb B1.out.size)
    clear hr hb
    go_wp2
    go_ret
    refine ⟨_, _, rfl, R2.out, B2.out, .inl ⟨P.fail_er (by omega), fun v => ?_⟩⟩
    refine P.Ran.bind P.errs_one P1.out ?_
    rw [if_neg H.out.1, if_neg H.out.2.1, if_neg H.out.2.2]
    exact P.Ran.err _ _
open Go.ChangeShapes Go.WideShapes Go.ChangeAt Go.RowKit
theorem P.Ran.err_of {α : Type} {p : P.Ps α} {xs : List UInt8} {s1 : P.Sr} {v : α} (h : P.Ran p ⟨xs, 0⟩ s1 v) (h1 : s1.er ≠ 0) : p xs = .error s1.er := by
 cases e : p xs with
 | error x => rw [h.bad rfl x e]
 | ok y => obtain ⟨r, u⟩ := y; obtain ⟨rfl, _⟩ := h.ok rfl r u e; exact absurd rfl h1
theorem P.Ran.ok_of {α : Type} {p : P.Ps α} {xs : List UInt8} {s1 : P.Sr} {v : α} (hp : P.Errs p) (h : P.Ran p ⟨xs, 0⟩ s1 v) (h1 : s1.er = 0) : p xs = .ok (s1.xs, v) := by
 cases e : p xs with
 | error x => exact absurd (h.bad rfl x e ▸ h1) (hp xs x e)
 | ok y => obtain ⟨r, u⟩ := y; obtain ⟨rfl, rfl⟩ := h.ok rfl r u e; rfl
theorem isRight_val {w : World} {base : Nat} {v : P.Val} {x : Value} (h : OwnV w base v x) : Calls Tryz.prog 95 #[x] w fun e w' => e = .returned (.bool (P.rightV v)) ∧ Below w.heap.size w w' := by
 rcases v with c | r | m
 ·obtain ⟨va, vb, rfl, h1, h2, h3, h4⟩ := h
  exact isRight_cmd c (RowN.of_owns h1) (RowN.of_owns h2) (by omega) (by omega)
 ·obtain ⟨va, vb, rfl, h1, h2, h3, h4⟩ := h
  exact isRight_rec r (RowN.of_owns h1) (RowN.of_owns h2) (by omega) (by omega)
 ·obtain ⟨va, vb, rfl, h1, h2, h3, h4⟩ := h
  exact isRight_msg m (RowN.of_owns h1) (RowN.of_owns h2) (by omega) (by omega)
theorem ownV_below {w w' : World} {base : Nat} {v : P.Val} {x : Value} (h : OwnV w base v x) (hb : Below w.heap.size w w') : OwnV w' base v x := by
 have k : ∀ {t : TypeId} {k : Nat} {u : Value} {n : Nat} {xs : List Value}, w.ownsRow base t k u n xs → w'.ownsRow base t k u n xs := by
  intro t k u n xs h
  refine ⟨h.1, ?_⟩
  rcases h.2 with h0 | ⟨b, cap, cur, hv, hbb, hblk, r⟩
  ·exact .inl h0
  ·exact .inr ⟨b, cap, cur, hv, hbb, (hb.block b (Array.getElem?_eq_some_iff.1 hblk).1).trans hblk, r⟩
 rcases v with c | r | m
 ·obtain ⟨va, vb, e, h1, h2, h3⟩ := h
  exact ⟨va, vb, e, k h1, k h2, h3⟩
 ·obtain ⟨va, vb, e, h1, h2, h3⟩ := h
  exact ⟨va, vb, e, k h1, k h2, h3⟩
 ·obtain ⟨va, vb, e, h1, h2, h3⟩ := h
  exact ⟨va, vb, e, k h1, k h2, h3⟩
def DecV (w : World) (y : Except Nat P.Val) (e : Ending) (w' : World) : Prop := Below w.heap.size w w' ∧ match y with
 | .error n => e = .returned (.tuple #[.nilIface,.int .i64 (n : Int)])
 | .ok v => ∃ x, e = .returned (.tuple #[x,.int .i64 0]) ∧ OwnV w' w.heap.size v x
theorem decode_any {w : World} {u : Value} {xs : List UInt8} (h : Bts w u xs) : Calls Tryz.prog 103 #[u] w (DecV w (P.dec xs)) := by
 obtain ⟨A, c, rfl, hc, hx⟩ := h
 rw [List.length_map] at hc hx ⊢
 have R0 : Rdr (w.alloc (.cells #[.slice A xs.length c,.int .i64 0] 183)) w.heap.size ⟨xs, 0⟩ := by
  refine ⟨A, c, Hold.new w [.slice A xs.length c,.int .i64 0] 183, hc, fun h0 => ?_⟩
  obtain ⟨b, o, e, hb, hy⟩ := hx h0
  exact ⟨b, o, e, hb, fun j x hj => (World.cell?_alloc_lt w _ _ hb).trans (hy j _ (by rw [List.getElem?_map, hj]; rfl))⟩
 have R := Lib.hid R0
 clear hx R0 hc
 have B0 := Lib.hid ((Bel.refl w.heap.size w.heap.size w).alloc (Nat.le_refl _) (.cells #[.slice A xs.length c,.int .i64 0] 183))
 go_enter Tryz.func103, Tryz.ntmps103
 go_wp2_with (fail)
 refine (value_any R.out).mono ?_
 rintro e w1 ⟨s1, x, rfl, hr, hb, hv⟩
 have B1 := Lib.hid ((B0.out.trans hb (by simp)).below (Nat.le_refl _))
 have HV := Lib.hid hv
 obtain ⟨A', c', hh, hc', -⟩ := hr
 have c0 := hh.cell 0 rfl
 have c1 := hh.cell 1 rfl
 have HS := Lib.hid (show w.heap.size ≤ (w.alloc (.cells #[.slice A xs.length c,.int .i64 0] 183)).heap.size by simp)
 obtain ⟨L, hL⟩ : ∃ L, L = s1.xs.length := ⟨_, rfl⟩
 obtain ⟨er, her⟩ : ∃ er, er = s1.er := ⟨_, rfl⟩
 rw [← hL] at c0
 rw [← her] at c1
 have HL := Lib.hid hL
 have HE := Lib.hid her
 clear hb hv hh hc' hL her R B0
 by_cases h0 : er = 0
 ·subst h0
  obtain ⟨v, ho, hp⟩ : ∃ v, OwnV w1 w.heap.size v x ∧ P.Ran P.val ⟨xs, 0⟩ s1 v := by
   rcases HV.out with ⟨h1, _⟩ | ⟨v, h1, h2⟩
   ·exact absurd HE.out.symm h1
   ·exact ⟨v, ownV_base h1 HS.out, h2⟩
  have HO := Lib.hid ho
  have hv := hp.ok_of P.errs_val HE.out.symm
  have HVal := Lib.hid hv
  clear ho hp hv HV
  by_cases hl : 0 < L
  ·have hD : P.dec xs = .error 5 := by
    unfold P.dec; rw [HVal.out]; simp only; rw [if_pos (by rw [← HL.out]; exact hl)]
   have HD := Lib.hid hD
   clear hD
   go_wp2
   go_ret2
   rw [HD.out]
   exact ⟨B1.out, rfl⟩
  ·obtain rfl : L = 0 := by omega
   rcases two (P.rightV v) with hr | hr
   ·have hD : P.dec xs = .ok v := by
     unfold P.dec; rw [HVal.out]; simp only; rw [if_neg (by rw [← HL.out]; exact hl), if_pos hr]
    have HD := Lib.hid hD
    clear hD hl
    go_wp2_with (fail)
    refine (isRight_val HO.out).mono ?_
    rintro e w2 ⟨rfl, hb⟩
    rw [hr]
    have B2 := Lib.hid (below_on B1.out hb)
    have H2 := Lib.hid (ownV_below HO.out hb)
    clear hb hr
    go_wp2
    go_ret2
    rw [HD.out]
    exact ⟨B2.out, _, rfl, H2.out⟩
   ·have hD : P.dec xs = .error 1 := by
     unfold P.dec; rw [HVal.out]; simp only; rw [if_neg (by rw [← HL.out]; exact hl), if_neg (by rw [hr]; decide)]
    have HD := Lib.hid hD
    clear hD hl
    go_wp2_with (fail)
    refine (isRight_val HO.out).mono ?_
    rintro e w2 ⟨rfl, hb⟩
    rw [hr]
    have B2 := Lib.hid (below_on B1.out hb)
    clear hb hr
    go_wp2
    go_ret2
    rw [HD.out]
    exact ⟨B2.out, rfl⟩
 ·have hD : P.dec xs = .error er := by
   have h1 : s1.er ≠ 0 := by rw [← HE.out]; exact h0
   have : P.val xs = .error s1.er := by
    rcases HV.out with ⟨_, h2⟩ | ⟨v, _, h2⟩
    ·exact (h2 (.inl M.zero)).err_of h1
    ·exact h2.err_of h1
   unfold P.dec; rw [this, HE.out]
  have HD := Lib.hid hD
  have q1 : ((er : Int) == 0) = false := by rw [beq_eq_false_iff_ne]; omega
  have q2 : ((er : Int) != 0) = true := by rw [bne, q1]; rfl
  clear hD
  go_wp2
  go_quiet (fail)
  go_wp2
  go_ret2
  rw [HD.out]
  exact ⟨⟨B1.out.os, B1.out.tape, B1.out.output, B1.out.size, B1.out.block⟩, rfl⟩
end Go.Proofs.YtdachohcjpjblaaGreatDoor.Wi
