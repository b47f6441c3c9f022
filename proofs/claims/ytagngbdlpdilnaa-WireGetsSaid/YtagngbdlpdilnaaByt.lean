/- Rows of bytes, and what is appended to them; no conditions but the lengths that they name. -/
import Derived.Test.YtagngbdlpdilnaaCmdsC
import Derived.OwnWalk
import Derived.Maps.AppendAt
import Derived.Maps.Range
namespace Go.Proofs.Ytagngbdlpdilnaa
open Go.RowKit

namespace M
/-- A number's bytes. -/
def numF : Nat → Nat → List UInt8
  | 0, n => [UInt8.ofNat n]
  | f + 1, n => if n < 128 then [UInt8.ofNat n] else UInt8.ofNat (n % 128 + 128) :: numF f (n / 128)
def num (n : Nat) : List UInt8 := numF 6 n
def nums (l : List Nat) : List UInt8 := l.flatMap num
theorem numF_small {f n : Nat} (h : n < 128) : numF f n = [UInt8.ofNat n] := by
  cases f <;> simp [numF, h]
theorem numF_step {f n : Nat} (h : 128 ≤ n) : numF (f + 1) n = UInt8.ofNat (n % 128 + 128) :: numF f (n / 128) := by
  rw [numF, if_neg (by omega)]
theorem numF_len : ∀ (f n : Nat), 1 ≤ (numF f n).length ∧ (numF f n).length ≤ f + 1
  | 0, n => by simp [numF]
  | f + 1, n => by
    unfold numF
    split
    · simp
    · have := numF_len f (n / 128); simp; omega
theorem num_len (n : Nat) : 1 ≤ (num n).length ∧ (num n).length ≤ 7 := numF_len 6 n
theorem nums_nil : nums [] = [] := rfl
theorem nums_cons (n : Nat) (l : List Nat) : nums (n :: l) = num n ++ nums l := rfl
theorem nums_append (l m : List Nat) : nums (l ++ m) = nums l ++ nums m := List.flatMap_append
theorem nums_len (l : List Nat) : (nums l).length ≤ l.length * 7 := by
  induction l with
  | nil => simp [nums]
  | cons n l ih => rw [nums_cons, List.length_append, List.length_cons]; have := num_len n; omega
theorem nums_take {l : List Nat} {k : Nat} (h : k < l.length) : nums (l.take (k + 1)) = nums (l.take k) ++ num (l.getD k 0) := by
  rw [List.take_add_one, List.getElem?_eq_getElem h, nums_append, List.getD, List.getElem?_eq_getElem h]
  simp [nums]
end M

/-- A byte as a value. -/
def enc8 (x : UInt8) : Value := .int .u8 (x.toNat : Int)
/-- A slice of bytes. -/
def Bts (w : World) (v : Value) (xs : List UInt8) : Prop := Row w v (xs.map enc8)
theorem Bts.below {w w' : World} {v : Value} {xs : List UInt8} (h : Bts w v xs) (hb : Below w.heap.size w w') : Bts w' v xs := Row.below h hb
theorem Bts.opened {w : World} {v : Value} {xs : List UInt8} (h : Bts w v xs) : ∃ (A : Option Addr) (c : Nat), v = .slice A xs.length c ∧ xs.length ≤ c ∧ (0 < xs.length → ∃ b o, A = some ⟨b, o, none⟩ ∧ b < w.heap.size ∧
    ∀ k, k < xs.length → w.cell? ⟨b, o + k, none⟩ = some (.int .u8 ((xs.getD k 0).toNat : Int))) := by
  obtain ⟨A, c, e, hl, hc⟩ := h
  rw [List.length_map] at e hl hc
  refine ⟨A, c, e, hl, fun h0 => ?_⟩
  obtain ⟨b, o, e1, hlt, hx⟩ := hc h0
  refine ⟨b, o, e1, hlt, fun k hk => hx k _ ?_⟩
  rw [List.getElem?_map, List.getElem?_eq_getElem hk, List.getD, List.getElem?_eq_getElem hk]; rfl
theorem info5 : (Try.prog.info? 5).map (fun i => (i.zero, i.size, i.bytes)) = some (some (.int .u8 0), 1, 1) := by kernel_rfl
theorem one_enc (xs : List UInt8) : ∀ u ∈ xs.map enc8, u.oneCell' = true := by
  intro u hu
  rw [List.mem_map] at hu
  obtain ⟨x, _, rfl⟩ := hu
  rfl
theorem add_plain' (b o k : Nat) : (⟨b, o, none⟩ : Addr).add k = ⟨b, o + k, none⟩ := Addr.add_lit ..
theorem byte_of (n : Nat) (h : n < 256) : enc8 (UInt8.ofNat n) = .int .u8 (n : Int) := by
  unfold enc8; congr 1; simp; omega

/-- A row of bytes of one's own. -/
def Own (w : World) (base : Nat) (v : Value) (xs : List UInt8) : Prop := w.ownsRow base 5 1 v xs.length (xs.map enc8)
theorem Own.nil (w : World) (base : Nat) : Own w base (.slice none 0 0) [] := World.ownsRow_nil _ _ _ _
theorem Own.bts {w : World} {base : Nat} {v : Value} {xs : List UInt8} (h : Own w base v xs) : Bts w v xs := Row.of_owns h
theorem Own.lt {w : World} {base : Nat} {v : Value} {xs : List UInt8} (h : Own w base v xs) {k : Nat} (e : v.ownBlock = some k) : base ≤ k ∧ k < w.heap.size := World.ownsRow.lt h k e
theorem Own.alloc {w : World} {base : Nat} {v : Value} {xs : List UInt8} (h : Own w base v xs) (o : Obj) : Own (w.alloc o) base v xs := World.ownsRow.alloc h o
theorem Own.base {w : World} {base base' : Nat} {v : Value} {xs : List UInt8} (h : Own w base v xs) (hb : base' ≤ base) : Own w base' v xs := ownsRow_base h hb
theorem Own.slice {w : World} {base : Nat} {v : Value} {xs : List UInt8} (h : Own w base v xs) : ∃ A c, v = .slice A xs.length c ∧ xs.length ≤ c := by
  rcases h.2 with ⟨rfl, e⟩ | ⟨g, cap, cur, rfl, _, _, hn, _⟩
  · exact ⟨none, 0, by rw [e], by omega⟩
  · exact ⟨_, _, rfl, hn⟩

/-- All but the row v is as it was; what the row has become stands in it, or in new memory. -/
structure Ext (w w' : World) (v v' : Value) : Prop where
  grow : w.grownBy w' v.ownBlock
  at' : v'.ownBlock = v.ownBlock ∨ ∃ g, v'.ownBlock = some g ∧ w.heap.size ≤ g
theorem Ext.refl (w : World) (v : Value) : Ext w w v v := ⟨World.grownBy.refl _ _, .inl rfl⟩
theorem Ext.trans {a b c : World} {u v x : Value} (h : Ext a b u v) (k : Ext b c v x) : Ext a c u x := by
  refine ⟨h.grow.andThen k.grow (fun j hj => ?_), ?_⟩
  · rcases h.at' with e | ⟨g, e, hg⟩
    · exact .inr (by rw [← e, hj])
    · rw [hj] at e; cases e; exact .inl hg
  · rcases k.at' with e | ⟨g, e, hg⟩
    · rcases h.at' with e' | ⟨g, e', hg⟩
      · exact .inl (e.trans e')
      · exact .inr ⟨g, e.trans e', hg⟩
    · exact .inr ⟨g, e, Nat.le_trans h.grow.size hg⟩
theorem Ext.alloc {w w' : World} {v v' : Value} (h : Ext w w' v v') (o : Obj) : Ext w (w'.alloc o) v v' := h.trans ⟨World.grownBy_alloc _ _ _, .inl rfl⟩
theorem Ext.made {w w' : World} {v v' : Value} (h1 : w.grownBy w' v.ownBlock) (h2 : v'.ownBlock = v.ownBlock ∨ v'.ownBlock = some w.heap.size) : Ext w w' v v' :=
  ⟨h1, h2.imp id (fun e => ⟨_, e, Nat.le_refl _⟩)⟩
/-- A block that is not the row's. -/
def Off (v : Value) (g : Nat) : Prop := v.ownBlock ≠ some g
theorem Ext.off {w w' : World} {v v' : Value} {g : Nat} (h : Ext w w' v v') (hg : g < w.heap.size) (k : Off v g) : Off v' g := by
  intro e
  rcases h.at' with e' | ⟨j, e', hj⟩
  · exact k (by rw [← e', e])
  · rw [e] at e'; cases e'; omega
theorem Ext.block {w w' : World} {v v' : Value} {g : Nat} (h : Ext w w' v v') (hg : g < w.heap.size) (k : Off v g) : w'.heap[g]? = w.heap[g]? := h.grow.block g hg (fun e => k e.symm)
theorem Ext.below {w0 w w' : World} {base : Nat} {v v' : Value} (h : Ext w w' v v') (hb : Below base w0 w) (hw : base ≤ w.heap.size) (hv : ∀ k, v.ownBlock = some k → base ≤ k) : Below base w0 w' :=
  ⟨h.grow.os.trans hb.os, h.grow.tape.trans hb.tape, h.grow.output.trans hb.output, Nat.le_trans hb.size h.grow.size, fun k hk => (h.grow.block k (by omega) (fun e => by have := hv k e.symm; omega)).trans (hb.block k hk)⟩
theorem Own.off {w : World} {base g : Nat} {v : Value} {xs : List UInt8} (h : Own w base v xs) (hg : w.heap.size ≤ g) : Off v g := fun e => by have := (h.lt e).2; omega
theorem Own.off' {w : World} {base g : Nat} {v : Value} {xs : List UInt8} (h : Own w base v xs) (hg : g < base) : Off v g := fun e => by have := (h.lt e).1; omega

/-- What an append tells. -/
def Put (w : World) (base : Nat) (v : Value) (ys : List UInt8) (e : Ending) (w' : World) : Prop := ∃ v', e = .returned v' ∧ Own w' base v' ys ∧ Ext w w' v v'

/-- Numbers in a block. -/
def Ints (w : World) (u : Value) (b : Nat) (ns : List Nat) : Prop := ∃ o c, u = .slice (some ⟨b, o, none⟩) ns.length c ∧ ns.length ≤ c ∧ b < w.heap.size ∧ ∀ k, k < ns.length → w.cell? ⟨b, o + k, none⟩ = some (.int .i64 (ns.getD k 0 : Nat))

theorem wrap8 (n : Int) : IntKind.u8.wrap n = n % 256 := by
  simp [IntKind.wrap, IntKind.bits, IntKind.signed]
set_option maxRecDepth 100000 in
theorem or128 (a : Nat) (ha : a < 256) : bits .or .u8 128 (a : Int) = ((a % 128 + 128 : Nat) : Int) := by
  have e : bits .or .u8 128 (a : Int) = IntKind.u8.wrap ((BitVec.ofInt 8 ((128 : Nat) : Int) ||| BitVec.ofInt 8 (a : Int)).toNat : Int) := rfl
  rw [e, wrap8, BitVec.toNat_or, BitVec.ofInt_natCast, BitVec.ofInt_natCast, BitVec.toNat_ofNat, BitVec.toNat_ofNat, Nat.mod_eq_of_lt (by omega : a < 2 ^ 8)]
  have h : ∀ a : Fin 256, (128 % 2 ^ 8 ||| a.val) = a.val % 128 + 128 := by decide
  have := h ⟨a, ha⟩
  simp only at this
  rw [this]
  omega
end Go.Proofs.Ytagngbdlpdilnaa
