/- Rows of bytes in memory, what stays where it is, appends and copies; contracts of same and copied; no conditions but the lengths that they name. -/
import Derived.Test.YtpdknamdladgnaaRows
import Derived.Test.YtpdknamdladgnaaMath
import Derived.WalkKit
import Derived.WalkSpells
import Derived.Lib.Hide
import Derived.Lib.OthersKept
import Derived.BigCall
import Derived.BigQuiet
import Derived.Deep.QuietTactic
import Derived.Laws.AppendOwn
import Derived.Laws.CopyOwn
import Derived.OwnWalk
import Derived.Lib.AppendZerosOnto
import Derived.Lib.SliceRun
namespace Go.Proofs.Ytpdknamdladgnaa
open Go.RowKit

theorem ret_int {k : IntKind} {a b : Int} (h : a = b) : Ending.returned (.int k a) = .returned (.int k b) := by rw [h]
theorem ret_bool {a b : Bool} (h : a = b) : Ending.returned (.bool a) = .returned (.bool b) := by rw [h]
theorem below_on {a b c : World} (h : Below a.heap.size a b) (k : Below b.heap.size b c) : Below a.heap.size a c := h.trans (k.mono h.size)
theorem below_new {a b : World} {o : Obj} (h : Below a.heap.size a b) : Below a.heap.size a (b.alloc o) := h.alloc h.size _
theorem below_drewN {a w : World} {B : Nat} (h : Below B a w) (n : Nat) : Below B a (w.drewN n) := ⟨h.os, h.tape, h.output, h.size, h.block⟩

/-- But for the blocks of F all that was there is as it was. -/
structure Keeps (F : Nat → Prop) (w w' : World) : Prop where
  os : w'.os = w.os
  tape : w'.tape = w.tape
  output : w'.output = w.output
  size : w.heap.size ≤ w'.heap.size
  block : ∀ k, k < w.heap.size → ¬ F k → w'.heap[k]? = w.heap[k]?
theorem Keeps.refl (F : Nat → Prop) (w : World) : Keeps F w w := ⟨rfl, rfl, rfl, Nat.le_refl _, fun _ _ _ => rfl⟩
theorem Keeps.trans {F G : Nat → Prop} {a b c : World} (h : Keeps F a b) (k : Keeps G b c) (hg : ∀ x, x < a.heap.size → G x → F x) : Keeps F a c :=
  ⟨k.os.trans h.os, k.tape.trans h.tape, k.output.trans h.output, Nat.le_trans h.size k.size, fun i hi hf => (k.block i (Nat.lt_of_lt_of_le hi h.size) (fun e => hf (hg i hi e))).trans (h.block i hi hf)⟩
theorem Keeps.of_below {F : Nat → Prop} {w w' : World} (h : Below w.heap.size w w') : Keeps F w w' := ⟨h.os, h.tape, h.output, h.size, fun k hk _ => h.block k hk⟩
theorem Keeps.below {F : Nat → Prop} {w w' : World} {B : Nat} (h : Keeps F w w') (hF : ∀ x, F x → B ≤ x) (hB : B ≤ w.heap.size) : Below B w w' :=
  ⟨h.os, h.tape, h.output, h.size, fun k hk => h.block k (by omega) (fun e => by have := hF k e; omega)⟩
theorem Keeps.of_grown {F : Nat → Prop} {w w' : World} {row : Option Nat} (h : w.grownBy w' row) (hr : ∀ x, row = some x → F x) : Keeps F w w' :=
  ⟨h.os, h.tape, h.output, h.size, fun k hk hf => h.block k hk (fun e => hf (hr k e.symm))⟩
theorem Keeps.setCell {F : Nat → Prop} {a w : World} (h : Keeps F a w) {p : Addr} (hp : F p.block ∨ a.heap.size ≤ p.block) (u : Value) : Keeps F a (w.setCell p u) :=
  ⟨h.os, h.tape, h.output, by rw [show (w.setCell p u).heap.size = w.heap.size by simp [World.setCell]]; exact h.size, fun k hk hf => (Below.heap_setCell w p u k (fun e => by
    subst e
    rcases hp with hp | hp
    · exact hf hp
    · omega)).trans (h.block k hk hf)⟩
theorem Keeps.alloc {F : Nat → Prop} {a w : World} (h : Keeps F a w) (o : Obj) : Keeps F a (w.alloc o) :=
  ⟨h.os, h.tape, h.output, Nat.le_trans h.size (by simp), fun k hk hf => (Below.heap_alloc w o k (Nat.lt_of_lt_of_le hk h.size)).trans (h.block k hk hf)⟩
theorem Keeps.drewN {F : Nat → Prop} {a w : World} (h : Keeps F a w) (n : Nat) : Keeps F a (w.drewN n) := ⟨h.os, h.tape, h.output, h.size, h.block⟩
theorem Keeps.wide {F G : Nat → Prop} {a w : World} (h : Keeps F a w) (hg : ∀ x, x < a.heap.size → F x → G x) : Keeps G a w := (Keeps.refl G a).trans h hg
theorem Keeps.on {F : Nat → Prop} {a b c : World} (h : Keeps F a b) (k : Below b.heap.size b c) : Keeps F a c := h.trans (Keeps.of_below (F := F) k) fun _ _ e => e
theorem Keeps.cell {F : Nat → Prop} {w w' : World} (h : Keeps F w w') {p : Addr} (hp : p.block < w.heap.size) (hf : ¬ F p.block) : w'.cell? p = w.cell? p := World.cell?_of_block (w := w) (h.block p.block hp hf)

/-- A slice that reads as a list. -/
def Row (w : World) (v : Value) (xs : List Value) : Prop := ∃ (A : Option Addr) (c : Nat), v = .slice A xs.length c ∧ xs.length ≤ c ∧ (0 < xs.length → ∃ b o, A = some ⟨b, o, none⟩ ∧ b < w.heap.size ∧ ∀ k x, xs[k]? = some x → w.cell? ⟨b, o + k, none⟩ = some x)
theorem Row.below {w w' : World} {v : Value} {xs : List Value} (h : Row w v xs) (hb : Below w.heap.size w w') : Row w' v xs := by
  obtain ⟨A, c, e, hl, hc⟩ := h
  refine ⟨A, c, e, hl, fun h0 => ?_⟩
  obtain ⟨b, o, e1, hlt, hx⟩ := hc h0
  exact ⟨b, o, e1, Nat.lt_of_lt_of_le hlt hb.size, fun k x hk => (hb.cell hlt).trans (hx k x hk)⟩
/-- The block of a slice is one of these. -/
def In (R : Nat → Prop) (v : Value) : Prop := ∀ b, v.ownBlock = some b → R b
theorem In.wide {R S : Nat → Prop} {v : Value} (h : In R v) (hs : ∀ x, R x → S x) : In S v := fun b e => hs b (h b e)
theorem In.nil (R : Nat → Prop) (n c : Nat) : In R (.slice none n c) := fun b e => by simp [Value.ownBlock] at e
theorem In.mk {R : Nat → Prop} {b o n c : Nat} (h : R b) : In R (.slice (some ⟨b, o, none⟩) n c) := fun x e => by simp [Value.ownBlock] at e; exact e ▸ h
theorem In.at_ {R : Nat → Prop} {b o n c : Nat} (h : In R (.slice (some ⟨b, o, none⟩) n c)) : R b := h b rfl
theorem Row.keeps {w w' : World} {v : Value} {xs : List Value} {F R : Nat → Prop} (h : Row w v xs) (hr : In R v) (hb : Keeps F w w') (hf : ∀ x, R x → ¬ F x) : Row w' v xs := by
  obtain ⟨A, c, e, hl, hc⟩ := h
  refine ⟨A, c, e, hl, fun h0 => ?_⟩
  obtain ⟨b, o, e1, hlt, hx⟩ := hc h0
  subst e e1
  exact ⟨b, o, rfl, Nat.lt_of_lt_of_le hlt hb.size, fun k x hk => (hb.cell (p := ⟨b, o + k, none⟩) hlt (hf b hr.at_)).trans (hx k x hk)⟩
theorem Row.of_owns {w : World} {base : Nat} {t : TypeId} {v : Value} {n : Nat} {xs : List Value} (h : w.ownsRow base t 1 v n xs) : Row w v xs := by
  obtain ⟨hl, h2⟩ := h
  rw [Nat.mul_one] at hl
  rcases h2 with ⟨rfl, rfl⟩ | ⟨g, cap, cur, rfl, hb, hg, hn, hm, hs, ht⟩
  · exact ⟨none, 0, by rw [hl], by omega, fun h => absurd h (by omega)⟩
  · refine ⟨some ⟨g, 0, none⟩, cap, by rw [hl], by omega, fun _ => ⟨g, 0, rfl, (Array.getElem?_eq_some_iff.1 hg).1, fun k x hx => ?_⟩⟩
    have hk : k < xs.length := (List.getElem?_eq_some_iff.1 hx).1
    have h1 : (cur.toList.take (n * 1))[k]? = some x := by rw [ht]; exact hx
    rw [List.getElem?_take_of_lt (by omega), Array.getElem?_toList] at h1
    simp only [World.cell?, hg, Nat.zero_add, Option.isSome_none, Bool.false_eq_true, if_false]
    exact h1

/-- A byte as a value. -/
def enc8 (x : UInt8) : Value := .int .u8 (x.toNat : Int)
/-- A slice of bytes. -/
def Bts (w : World) (v : Value) (xs : List UInt8) : Prop := Row w v (xs.map enc8)
theorem Bts.below {w w' : World} {v : Value} {xs : List UInt8} (h : Bts w v xs) (hb : Below w.heap.size w w') : Bts w' v xs := Row.below h hb
theorem Bts.keeps {w w' : World} {v : Value} {xs : List UInt8} {F R : Nat → Prop} (h : Bts w v xs) (hr : In R v) (hb : Keeps F w w') (hf : ∀ x, R x → ¬ F x) : Bts w' v xs := Row.keeps h hr hb hf
theorem Bts.keeps0 {w w' : World} {v : Value} {xs : List UInt8} {F R : Nat → Prop} (h : Bts w v xs) (hr : xs ≠ [] → In R v) (hb : Keeps F w w') (hf : ∀ x, R x → ¬ F x) : Bts w' v xs := by
  by_cases h0 : xs = []
  · subst h0
    obtain ⟨A, c, e, hl, hc⟩ := h
    exact ⟨A, c, e, hl, fun h => absurd h (by simp)⟩
  · exact h.keeps (hr h0) hb hf
/-- The block of bytes, if there are any, was there. -/
theorem Bts.in_ {w : World} {v : Value} {xs : List UInt8} (h : Bts w v xs) (h0 : xs ≠ []) : In (fun x => x < w.heap.size) v := by
  obtain ⟨A, c, e, hl, hc⟩ := h
  obtain ⟨b, o, rfl, hb, _⟩ := hc (by cases xs with | nil => exact absurd rfl h0 | cons => simp)
  rw [e]
  exact In.mk hb
theorem Bts.opened {w : World} {v : Value} {xs : List UInt8} (h : Bts w v xs) : ∃ (A : Option Addr) (c : Nat), v = .slice A xs.length c ∧ xs.length ≤ c ∧ (0 < xs.length → ∃ b o, A = some ⟨b, o, none⟩ ∧ b < w.heap.size ∧
    ∀ k, k < xs.length → w.cell? ⟨b, o + k, none⟩ = some (.int .u8 ((xs.getD k 0).toNat : Int))) := by
  obtain ⟨A, c, e, hl, hc⟩ := h
  rw [List.length_map] at e hl hc
  refine ⟨A, c, e, hl, fun h0 => ?_⟩
  obtain ⟨b, o, e1, hlt, hx⟩ := hc h0
  refine ⟨b, o, e1, hlt, fun k hk => hx k _ ?_⟩
  rw [List.getElem?_map, List.getElem?_eq_getElem hk, List.getD, List.getElem?_eq_getElem hk]; rfl
theorem Bts.nil (w : World) (A : Option Addr) (c : Nat) : Bts w (.slice A 0 c) [] := ⟨A, c, rfl, Nat.zero_le _, fun h => absurd h (by simp)⟩
theorem Bts.len {w : World} {A : Option Addr} {n c : Nat} {xs : List UInt8} (h : Bts w (.slice A n c) xs) : xs.length = n ∧ n ≤ c := by
  obtain ⟨A', c', e, hc, hx⟩ := h
  simp only [Value.slice.injEq, List.length_map] at e hc
  obtain ⟨rfl, rfl, rfl⟩ := e
  exact ⟨rfl, hc⟩
theorem Bts.take {w : World} {A : Option Addr} {n c : Nat} {xs : List UInt8} (h : Bts w (.slice A n c) xs) (m : Nat) (hm : m ≤ n) : Bts w (.slice A m c) (xs.take m) := by
  obtain ⟨A', c', e, hc, hx⟩ := h
  simp only [Value.slice.injEq, List.length_map] at e hc hx
  obtain ⟨rfl, rfl, rfl⟩ := e
  refine ⟨A, c, by simp; omega, by simp; omega, fun h0 => ?_⟩
  obtain ⟨b, o, e, hb, hy⟩ := hx (by simp at h0; omega)
  refine ⟨b, o, e, hb, fun k x hk => hy k x ?_⟩
  have hkm : k < m := by have := (List.getElem?_eq_some_iff.1 hk).1; simp at this; omega
  rw [List.map_take, List.getElem?_take_of_lt hkm] at hk
  exact hk
theorem info5 : (Try.prog.info? 5).map (fun i => (i.zero, i.size, i.bytes)) = some (some (.int .u8 0), 1, 1) := by kernel_rfl
theorem one_enc (xs : List UInt8) : ∀ u ∈ xs.map enc8, u.oneCell' = true := by
  intro u hu
  rw [List.mem_map] at hu
  obtain ⟨x, _, rfl⟩ := hu
  rfl
theorem add_plain' (b o k : Nat) : (⟨b, o, none⟩ : Addr).add k = ⟨b, o + k, none⟩ := Addr.add_lit ..
theorem byte_lt (x : UInt8) : x.toNat < 256 := x.toNat_lt
theorem wrap8 (n : Int) : IntKind.u8.wrap n = n % 256 := by
  simp [IntKind.wrap, IntKind.bits, IntKind.signed]

/-- A block that holds just these bytes. -/
def Blk (w : World) (g : Nat) (cs : List UInt8) : Prop := w.heap[g]? = some (.cells (cs.map enc8).toArray 5 (0, 0))
theorem Blk.lt {w : World} {g : Nat} {cs : List UInt8} (h : Blk w g cs) : g < w.heap.size := (Array.getElem?_eq_some_iff.1 h).1
theorem Blk.below {w w' : World} {g : Nat} {cs : List UInt8} (h : Blk w g cs) (hb : Below w.heap.size w w') : Blk w' g cs := (hb.block g h.lt).trans h
theorem Blk.keeps {w w' : World} {g : Nat} {cs : List UInt8} {F : Nat → Prop} (h : Blk w g cs) (hb : Keeps F w w') (hf : ¬ F g) : Blk w' g cs := (hb.block g h.lt hf).trans h
theorem Blk.cell {w : World} {g : Nat} {cs : List UInt8} (h : Blk w g cs) {k : Nat} {x : UInt8} (hk : cs[k]? = some x) : w.cell? ⟨g, k, none⟩ = some (enc8 x) := by
  unfold Blk at h
  simp only [World.cell?, h, Option.isSome_none, Bool.false_eq_true, if_false]
  simp [hk]
theorem Blk.at_ {w : World} {g : Nat} {cs : List UInt8} (h : Blk w g cs) {k : Nat} (hk : k < cs.length) : w.cell? ⟨g, k, none⟩ = some (.int .u8 ((cs.getD k 0).toNat : Int)) := by
  refine h.cell ?_
  rw [List.getD, List.getElem?_eq_getElem hk]; rfl
theorem Blk.unfrozen {w : World} {g : Nat} {cs : List UInt8} (h : Blk w g cs) (k : Nat) : w.frozen? ⟨g, k, none⟩ = false := frozen_of_row w g k _ 5 h
theorem Blk.bts {w : World} {g : Nat} {cs : List UInt8} (h : Blk w g cs) : Bts w (.slice (some ⟨g, 0, none⟩) cs.length cs.length) cs := by
  refine ⟨some ⟨g, 0, none⟩, cs.length, by simp, by simp, fun _ => ⟨g, 0, rfl, h.lt, fun k x hk => ?_⟩⟩
  rw [List.getElem?_map, Option.map_eq_some_iff] at hk
  obtain ⟨y, hy, rfl⟩ := hk
  rw [Nat.zero_add]
  exact h.cell hy
theorem Blk.made (w : World) (n : Nat) : Blk (w.alloc (.cells (madeCells #[.int .u8 0] n) 5)) w.heap.size (List.replicate n 0) := by
  unfold Blk
  rw [heap_alloc_new]
  have h := toList_madeCells_one (.int .u8 0) n
  have : madeCells #[.int .u8 0] n = ((List.replicate n (0 : UInt8)).map enc8).toArray := by
    apply Array.toList_inj.1
    rw [h]
    simp [enc8]
  rw [this]
theorem Blk.new (w : World) (cs : List UInt8) : Blk (w.alloc (.cells (cs.map enc8).toArray 5)) w.heap.size cs := heap_alloc_new w _
theorem Blk.set {w : World} {g : Nat} {cs : List UInt8} (h : Blk w g cs) (k : Nat) (x : UInt8) : Blk (w.setCell ⟨g, k, none⟩ (enc8 x)) g (cs.set k x) := by
  unfold Blk at h ⊢
  rw [heap_setCell_same w g k _ 5 _ h]
  simp [List.map_set]

/-- A row of bytes of one's own, in a block of F, or none. -/
def OwnB (F : Nat → Prop) (w : World) (v : Value) (xs : List UInt8) : Prop :=
  (v = .slice none 0 0 ∧ xs = []) ∨ ∃ b cap cur, v = .slice (some ⟨b, 0, none⟩) xs.length cap ∧ F b ∧ w.heap[b]? = some (.cells cur 5 (0, 0)) ∧ xs.length ≤ cap ∧ cap ≤ cur.size ∧ cur.toList.take xs.length = xs.map enc8
theorem OwnB.nil (F : Nat → Prop) (w : World) : OwnB F w (.slice none 0 0) [] := .inl ⟨rfl, rfl⟩
theorem OwnB.slice {F : Nat → Prop} {w : World} {v : Value} {xs : List UInt8} (h : OwnB F w v xs) : ∃ A c, v = .slice A xs.length c ∧ xs.length ≤ c := by
  rcases h with ⟨rfl, rfl⟩ | ⟨b, cap, cur, rfl, _, _, hn, _⟩
  · exact ⟨none, 0, rfl, Nat.le_refl _⟩
  · exact ⟨_, _, rfl, hn⟩
theorem OwnB.bts {F : Nat → Prop} {w : World} {v : Value} {xs : List UInt8} (h : OwnB F w v xs) : Bts w v xs := by
  rcases h with ⟨rfl, rfl⟩ | ⟨b, cap, cur, rfl, _, hg, hn, hc, ht⟩
  · exact Bts.nil _ _ _
  · refine ⟨some ⟨b, 0, none⟩, cap, by simp, by simpa using hn, fun _ => ⟨b, 0, rfl, (Array.getElem?_eq_some_iff.1 hg).1, fun k x hx => ?_⟩⟩
    have hk : k < xs.length := by simpa using (List.getElem?_eq_some_iff.1 hx).1
    rw [← ht, List.getElem?_take_of_lt (by omega), Array.getElem?_toList] at hx
    simp only [World.cell?, hg, Nat.zero_add, Option.isSome_none, Bool.false_eq_true, if_false]
    exact hx
theorem OwnB.in_ {F : Nat → Prop} {w : World} {v : Value} {xs : List UInt8} (h : OwnB F w v xs) : In F v := by
  rcases h with ⟨rfl, rfl⟩ | ⟨b, cap, cur, rfl, hf, _⟩
  · exact In.nil _ _ _
  · exact In.mk hf
theorem OwnB.lt {F : Nat → Prop} {w : World} {v : Value} {xs : List UInt8} (h : OwnB F w v xs) : ∀ b, v.ownBlock = some b → b < w.heap.size := by
  rcases h with ⟨rfl, rfl⟩ | ⟨b, cap, cur, rfl, _, hg, _⟩
  · intro b e; simp [Value.ownBlock] at e
  · intro x e; simp [Value.ownBlock] at e; subst e; exact (Array.getElem?_eq_some_iff.1 hg).1
theorem OwnB.wide {F G : Nat → Prop} {w : World} {v : Value} {xs : List UInt8} (h : OwnB F w v xs) (hg : ∀ x, F x → G x) : OwnB G w v xs := by
  rcases h with h | ⟨b, cap, cur, e, hf, r⟩
  · exact .inl h
  · exact .inr ⟨b, cap, cur, e, hg _ hf, r⟩
/-- All that is not the row's block may turn. -/
theorem OwnB.keeps' {F G : Nat → Prop} {w w' : World} {v : Value} {xs : List UInt8} (h : OwnB F w v xs) (hb : Keeps G w w') (hg : ∀ b, v.ownBlock = some b → ¬ G b) : OwnB F w' v xs := by
  rcases h with h | ⟨b, cap, cur, rfl, hf, hh, r⟩
  · exact .inl h
  · exact .inr ⟨b, cap, cur, rfl, hf, (hb.block b (Array.getElem?_eq_some_iff.1 hh).1 (hg b rfl)).trans hh, r⟩
theorem OwnB.keeps {F G : Nat → Prop} {w w' : World} {v : Value} {xs : List UInt8} (h : OwnB F w v xs) (hb : Keeps G w w') (hg : ∀ x, F x → ¬ G x) : OwnB F w' v xs := h.keeps' hb fun b e => hg b (h.in_ b e)
theorem OwnB.below {F : Nat → Prop} {w w' : World} {v : Value} {xs : List UInt8} (h : OwnB F w v xs) (hb : Below w.heap.size w w') : OwnB F w' v xs := h.keeps' (Keeps.of_below (F := fun _ => False) hb) fun _ _ e => e
theorem OwnB.cut {F : Nat → Prop} {w : World} {A : Option Addr} {n c : Nat} {xs : List UInt8} (h : OwnB F w (.slice A n c) xs) {m c' : Nat} (hm : m ≤ n) (hc : m ≤ c') (hc' : c' ≤ c) : OwnB F w (.slice A m c') (xs.take m) := by
  rcases h with ⟨e, rfl⟩ | ⟨b, cap, cur, e, hf, hh, hn, hs, ht⟩
  · cases e
    obtain rfl : m = 0 := by omega
    obtain rfl : c' = 0 := by omega
    exact .inl ⟨rfl, rfl⟩
  · cases e
    refine .inr ⟨b, c', cur, ?_, hf, hh, ?_, by omega, ?_⟩
    · simp; omega
    · simp; omega
    · rw [List.map_take, ← ht, List.take_take, List.length_take]
theorem Blk.own {F : Nat → Prop} {w : World} {g : Nat} {cs : List UInt8} (h : Blk w g cs) (hf : F g) : OwnB F w (.slice (some ⟨g, 0, none⟩) cs.length cs.length) cs :=
  .inr ⟨g, cs.length, _, rfl, hf, h, Nat.le_refl _, by simp, by simp; exact List.take_of_length_le (by simp)⟩
theorem OwnB.of_owns {F : Nat → Prop} {w : World} {base n : Nat} {v : Value} {xs : List UInt8} (h : w.ownsRow base 5 1 v n (xs.map enc8)) (hf : ∀ b, base ≤ b → b < w.heap.size → F b) : OwnB F w v xs := by
  obtain ⟨hl, h2⟩ := h
  rw [List.length_map, Nat.mul_one] at hl
  subst hl
  rcases h2 with ⟨rfl, e⟩ | ⟨g, cap, cur, rfl, hb, hg, hn, hm, hs, ht⟩
  · exact .inl ⟨rfl, List.eq_nil_of_length_eq_zero e⟩
  · exact .inr ⟨g, cap, cur, rfl, hf g hb (Array.getElem?_eq_some_iff.1 hg).1, hg, hn, by omega, by rw [Nat.mul_one] at ht; exact ht⟩

/-- append(own, others...), whether it fits or not. -/
theorem append_b {w : World} {F : Nat → Prop} {v u : Value} {xs new : List UInt8} (hown : OwnB F w v xs) (hu : Bts w u new) (hl : xs.length + new.length ≤ 10000000) :
    ∃ v' w', (Builtin.append_ #[27, 27] 27 #[v, u]).run Try.prog w = .ok v' w' ∧ OwnB (fun x => F x ∨ (w.heap.size ≤ x ∧ x < w'.heap.size)) w' v' (xs ++ new) ∧ w.grownBy w' v.ownBlock := by
  obtain ⟨i0, hi, hz0, hz1, hz2⟩ := info_parts info5
  have ht : Try.prog.underlying 27 = some (.slice 5) := Try.underlying27
  obtain ⟨A, c, rfl, hc, hx⟩ := hu
  rw [List.length_map] at hc hx ⊢
  by_cases h0 : new = []
  · subst h0
    cases A with
    | none =>
      refine ⟨v, w, ?_, by rw [List.append_nil]; exact hown.wide fun _ e => .inl e, World.grownBy.refl _ _⟩
      rcases hown with ⟨rfl, e⟩ | ⟨g, cap, cur, rfl, _, _, hnc, _⟩
      · simp [Builtin.append_, run_underlying ht, sizeOf, typeInfo, hi, Builtin.lenOf, Builtin.firstCells]
      · simp [Builtin.append_, run_underlying ht, sizeOf, typeInfo, hi, Builtin.lenOf, Builtin.firstCells, hnc, storeCells]
    | some a =>
      rcases hown with ⟨rfl, rfl⟩ | ⟨g, cap, cur, rfl, hf, hg, hnc, hs, hx2⟩
      · refine ⟨.slice none 0 0, w, ?_, .inl ⟨rfl, rfl⟩, World.grownBy.refl _ _⟩
        simp [Builtin.append_, run_underlying ht, sizeOf, typeInfo, hi, Builtin.lenOf, Builtin.firstCells, loadCells, loadCellsFrom]
      · refine ⟨_, _, run_append_room (P := Try.prog) w 27 27 5 i0 ht hi g xs.length cap cur hg a 0 c [] (by simp) (by simp) (by simp) (by omega) (by rw [hz1]; simp; omega), ?_, ⟨rfl, rfl, rfl, by simp, fun j _ hj => setRow_other w g j _ (fun e => hj (by simp [Value.ownBlock, e]))⟩⟩
        refine .inr ⟨g, cap, _, by simp, .inl hf, setRow_heap w g cur _ 5 (0, 0) hg, by simpa using hnc, ?_, ?_⟩
        · rw [hz1]; simp; omega
        · rw [hz1, Nat.mul_one, hx2]
          simp only [List.append_nil, List.length_nil, Nat.add_zero]
          rw [List.take_append_of_le_length (by simp)]
          exact List.take_of_length_le (by simp)
  · have hp : 0 < new.length := by cases new with | nil => exact absurd rfl h0 | cons => simp
    obtain ⟨b, o, rfl, hb, hy⟩ := hx hp
    have hnews : ∀ (j : Nat) (x : Value), (new.map enc8)[j]? = some x → w.cell? ((⟨b, o, none⟩ : Addr).add j) = some x := fun j y hj => by rw [add_plain']; exact hy j y hj
    rcases hown with ⟨rfl, rfl⟩ | ⟨g, cap, cur, rfl, hf, hg, hnc, hs, hx2⟩
    · obtain ⟨v', w', h1, h2, h3, _⟩ := run_append_own (P := Try.prog) w w.heap.size 27 27 5 i0 (.int .u8 0) 1 1 ht hi hz0 hz1 hz2 rfl (by decide) _ 0 [] (World.ownsRow_nil w w.heap.size 5 1) ⟨b, o, none⟩ new.length c (new.map enc8) (by simp) hnews (one_enc new) (by unfold maxLen; simp at hl; omega) (by simp at hl; omega) (Nat.le_refl _)
      exact ⟨v', w', h1, OwnB.of_owns (xs := [] ++ new) (by simpa using h2) (fun b hb hb' => .inr ⟨hb, hb'⟩), h3⟩
    · by_cases hroom : xs.length + new.length ≤ cap
      · refine ⟨_, _, run_append_room (P := Try.prog) w 27 27 5 i0 ht hi g xs.length cap cur hg ⟨b, o, none⟩ new.length c (new.map enc8) (by rw [hz1]; simp) hnews (one_enc new) hroom (by rw [hz1]; simp; omega), ?_, ⟨rfl, rfl, rfl, by simp, fun j _ hj => setRow_other w g j _ (fun e => hj (by simp [Value.ownBlock, e]))⟩⟩
        refine .inr ⟨g, cap, _, by simp, .inl hf, setRow_heap w g cur _ 5 (0, 0) hg, by simpa using hroom, ?_, ?_⟩
        · rw [hz1]; simp; omega
        · rw [hz1, Nat.mul_one, hx2]
          simp only [List.length_append, List.map_append]
          rw [List.take_append_of_le_length (by simp)]
          exact List.take_of_length_le (by simp)
      · have holds : ∀ (j : Nat) (x : Value), (xs.map enc8)[j]? = some x → w.cell? ((⟨g, 0, none⟩ : Addr).add j) = some x := fun j x hj => by
          have hk : j < xs.length := by simpa using (List.getElem?_eq_some_iff.1 hj).1
          rw [← hx2, List.getElem?_take_of_lt (by omega), Array.getElem?_toList] at hj
          rw [add_plain']
          simp only [World.cell?, hg, Nat.zero_add, Option.isSome_none, Bool.false_eq_true, if_false]
          exact hj
        have hr := run_append_grow (P := Try.prog) w 27 27 5 i0 (.int .u8 0) ht hi hz0 ⟨g, 0, none⟩ xs.length cap (xs.map enc8) (by rw [hz1]; simp) holds ⟨b, o, none⟩ new.length c (new.map enc8) (by rw [hz1]; simp) hnews (by omega) (by omega) (growslice_fits (by omega) (by rw [hz2]; omega))
        have hge := grownCap_ge w (xs.length + new.length) cap 5
        refine ⟨_, _, hr, ?_, ⟨rfl, rfl, rfl, by simp, fun k hk _ => Below.heap_alloc w.drew _ k hk⟩⟩
        refine .inr ⟨w.heap.size, grownCap w (xs.length + new.length) cap 5, _, by simp, .inr ⟨Nat.le_refl _, by simp⟩, heap_alloc_new w.drew _, by simpa using hge, ?_, ?_⟩
        · simp [size_zeroCells, Value.cells]; omega
        · simp only [Array.toList_append, List.append_assoc, List.map_append]
          rw [← List.append_assoc, show (xs ++ new).length = (xs.map enc8 ++ new.map enc8).length by simp]
          exact List.take_left
end Go.Proofs.Ytpdknamdladgnaa
