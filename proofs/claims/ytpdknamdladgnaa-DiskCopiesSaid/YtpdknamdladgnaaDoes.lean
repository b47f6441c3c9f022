/- What stands when a step begins in both disks; its own copy of bytes; no conditions but the lengths that they name. -/
import Derived.Test.YtpdknamdladgnaaRefE
import Derived.Test.YtpdknamdladgnaaFew
import Derived.Test.YtpdknamdladgnaaBump
namespace Go.Proofs.Ytpdknamdladgnaa
open Go.RowKit

/-- The block of a step. -/
def DBox (w : World) (g : Nat) (k n p : Int) (m : UInt8) (sv : Value) : Prop := w.heap[g]? = some (.cells #[.int .i64 k, .int .i64 n, .int .i64 p, .int .u8 (m.toNat : Int), sv] 33 (0, 0))
theorem DBox.lt {w : World} {g : Nat} {k n p : Int} {m : UInt8} {sv : Value} (h : DBox w g k n p m sv) : g < w.heap.size := (Array.getElem?_eq_some_iff.1 h).1
theorem DBox.new (w : World) (k n p : Int) (m : UInt8) (sv : Value) : DBox (w.alloc (.cells #[.int .i64 k, .int .i64 n, .int .i64 p, .int .u8 (m.toNat : Int), sv] 33)) w.heap.size k n p m sv := heap_alloc_new w _
theorem DBox.below {w w' : World} {g : Nat} {k n p : Int} {m : UInt8} {sv : Value} (h : DBox w g k n p m sv) (hb : Below w.heap.size w w') : DBox w' g k n p m sv := (hb.block g h.lt).trans h
theorem DBox.keeps {w w' : World} {g : Nat} {k n p : Int} {m : UInt8} {sv : Value} {F : Nat → Prop} (h : DBox w g k n p m sv) (hb : Keeps F w w') (hf : ¬ F g) : DBox w' g k n p m sv := (hb.block g h.lt hf).trans h
theorem DBox.at_ {w : World} {g : Nat} {k n p : Int} {m : UInt8} {sv : Value} (h : DBox w g k n p m sv) : w.cell? ⟨g, 0, none⟩ = some (.int .i64 k) ∧ w.cell? ⟨g, 1, none⟩ = some (.int .i64 n) ∧ w.cell? ⟨g, 2, none⟩ = some (.int .i64 p) ∧ w.cell? ⟨g, 3, none⟩ = some (.int .u8 (m.toNat : Int)) ∧ w.cell? ⟨g, 4, none⟩ = some sv := by
  unfold DBox at h
  simp [World.cell?, h]

/-- What stands when the step's own copy of the bytes is made. -/
structure Pre (w : World) (z : Nat) (a b : List UInt8) (A1 : Option Addr) (c1 : Nat) (A2 : Option Addr) (c2 : Nat) (k n p : Int) (m : UInt8) (sv : Value) (w1 : World) (v0 : Value) (bs : List UInt8) : Prop where
  below : Below w.heap.size w w1
  box : Box w1 w.heap.size (.slice A1 a.length c1) (.slice A2 b.length c2) z
  dbox : DBox w1 (w.heap.size + 1) k n p m sv
  res : Box w1 (w.heap.size + 2) (.slice none 0 0) (.slice none 0 0) 0
  own : OwnB (fun x => w.heap.size + 3 ≤ x ∧ x < w1.heap.size) w1 v0 bs
theorem pre_any {w : World} (z : Nat) (a b : List UInt8) (A1 : Option Addr) (c1 : Nat) (A2 : Option Addr) (c2 : Nat) (k n p : Int) (m : UInt8) {A3 : Option Addr} {c3 : Nat} {bs : List UInt8} (h : Bts w (.slice A3 bs.length c3) bs) (hl : bs.length ≤ 1000000) :
    ∃ A0 c0 w1, (Builtin.append_ #[27, 27] 27 #[.slice (some ⟨w.heap.size + 3, 0, none⟩) 0 0, .slice A3 bs.length c3]).run Try.prog ((((w.alloc (.cells #[.slice A1 a.length c1, .slice A2 b.length c2, .int .i64 z] 29)).alloc (.cells #[.int .i64 k, .int .i64 n, .int .i64 p, .int .u8 (m.toNat : Int), .slice A3 bs.length c3] 33)).alloc (.cells #[.slice none 0 0, .slice none 0 0, .int .i64 0] 29)).alloc (.cells #[] 5)) = .ok (.slice A0 bs.length c0) w1 ∧
      Pre w z a b A1 c1 A2 c2 k n p m (.slice A3 bs.length c3) w1 (.slice A0 bs.length c0) bs := by
  obtain ⟨W1, hW1⟩ : ∃ W, W = w.alloc (.cells #[.slice A1 a.length c1, .slice A2 b.length c2, .int .i64 z] 29) := ⟨_, rfl⟩
  obtain ⟨W2, hW2⟩ : ∃ W, W = W1.alloc (.cells #[.int .i64 k, .int .i64 n, .int .i64 p, .int .u8 (m.toNat : Int), .slice A3 bs.length c3] 33) := ⟨_, rfl⟩
  obtain ⟨W3, hW3⟩ : ∃ W, W = W2.alloc (.cells #[.slice none 0 0, .slice none 0 0, .int .i64 0] 29) := ⟨_, rfl⟩
  rw [← hW1, ← hW2, ← hW3]
  have s1 : W1.heap.size = w.heap.size + 1 := by rw [hW1]; simp
  have s2 : W2.heap.size = w.heap.size + 2 := by rw [hW2]; simp [s1]
  have s3 : W3.heap.size = w.heap.size + 3 := by rw [hW3]; simp [s2]
  have b1 : Below w.heap.size w W1 := by rw [hW1]; exact below_new (Below.refl _ _)
  have b2 : Below W1.heap.size W1 W2 := by rw [hW2]; exact below_new (Below.refl _ _)
  have b3 : Below W2.heap.size W2 W3 := by rw [hW3]; exact below_new (Below.refl _ _)
  have b4 : Below W3.heap.size W3 (W3.alloc (.cells #[] 5)) := below_new (Below.refl _ _)
  have x1 : Box W1 w.heap.size (.slice A1 a.length c1) (.slice A2 b.length c2) z := by rw [hW1]; exact Box.new w _ _ _
  have x2 : DBox W2 (w.heap.size + 1) k n p m (.slice A3 bs.length c3) := by rw [hW2, ← s1]; exact DBox.new W1 _ _ _ _ _
  have x3 : Box W3 (w.heap.size + 2) (.slice none 0 0) (.slice none 0 0) 0 := by rw [hW3, ← s2]; exact Box.new W2 _ _ _
  have hB : Bare (W3.alloc (.cells #[] 5)) (w.heap.size + 3) := by rw [← s3]; exact Bare.new W3
  have bw : Below w.heap.size w (W3.alloc (.cells #[] 5)) := below_on (below_on (below_on b1 b2) b3) b4
  obtain ⟨v1, w1, hr, kk, ⟨A0, c0, rfl, hc0⟩, ho⟩ := join_one hB (h.below bw) (by omega)
  have sw : (W3.alloc (.cells #[] 5)).heap.size = w.heap.size + 4 := by simp [s3]
  refine ⟨A0, c0, w1, hr, ⟨bw.trans (kk.below (B := w.heap.size) (fun x e => by omega) (by omega)), ?_, ?_, ?_, ho.wide fun x e => by have := kk.size; omega⟩⟩
  · exact (x1.below (below_on (below_on b2 b3) b4)).keeps kk (by omega)
  · exact (x2.below (below_on b3 b4)).keeps kk (by omega)
  · exact (x3.below b4).keeps kk (by omega)

/-- A step in both disks. -/
def Does (w : World) (g : Nat) (F R : Nat → Prop) (s t : M.St) (d : M.Do) (e : Ending) (w' : World) : Prop :=
  ∃ q F' R', e = .returned (.tuple #[q, .bool (M.alike s t d)]) ∧ Disk w' g F' (M.step s d) ∧ Doc w' R' q (M.step t d) ∧ Keeps F w w' ∧ Grew F F' w w' ∧ (∀ x, R' x → R x ∨ w.heap.size ≤ x) ∧ (∀ x, F' x → ¬ R' x)
theorem stept_drew {x : Ending} {W w' : World} {g : Nat} {F : Nat → Prop} {s : M.St} {e : Ending} (h : Stept x W.drew g F s e w') : Stept x W g F s e w' := by
  obtain ⟨he, F', hd, hk, hg⟩ := h
  exact ⟨he, F', hd, ⟨hk.os, hk.tape, hk.output, hk.size, hk.block⟩, hg⟩
theorem does_fin {w w4 : World} {g b' z' : Nat} {F F' R R' : Nat → Prop} {s' t' : M.St} {q v u : Value} (hd : Disk w4 g F' s') (hr : Doc w4 R' q t') (hk : Keeps F w w4) (hg : Grew F F' w w4) (hR : ∀ x, R' x → R x ∨ w.heap.size ≤ x) (hFR : ∀ x, F' x → ¬ R' x) (hb : w.heap.size ≤ b') (hnF : ¬ F' b') (hnR : ¬ R' b') :
    Disk (fill w4 b' v u (.int .i64 z')) g F' s' ∧ Doc (fill w4 b' v u (.int .i64 z')) R' q t' ∧ Keeps F w (fill w4 b' v u (.int .i64 z')) ∧ Grew F F' w (fill w4 b' v u (.int .i64 z')) ∧ (∀ x, R' x → R x ∨ w.heap.size ≤ x) ∧ (∀ x, F' x → ¬ R' x) := by
  have k := keeps_fill w4 b' v u (.int .i64 z')
  exact ⟨hd.keeps k fun x e f => hnF (f ▸ e), hr.keeps k fun x e f => hnR (f ▸ e), hk.trans k fun x hx e => by omega, ⟨hg.1, fun x e => Nat.lt_of_lt_of_le (hg.2 x e) k.size⟩, hR, hFR⟩
theorem does_mk {w w5 : World} {g : Nat} {F F' R R' : Nat → Prop} {s t : M.St} {d : M.Do} {q : Value} {B : Bool} (ha : M.alike s t d = B) (h : Disk w5 g F' (M.step s d) ∧ Doc w5 R' q (M.step t d) ∧ Keeps F w w5 ∧ Grew F F' w w5 ∧ (∀ x, R' x → R x ∨ w.heap.size ≤ x) ∧ (∀ x, F' x → ¬ R' x)) : Does w g F R s t d (.returned (.tuple #[q, .bool B])) w5 :=
  ⟨q, F', R', by rw [ha], h⟩
theorem Does.drew {w w' : World} {g : Nat} {F R : Nat → Prop} {s t : M.St} {d : M.Do} {e : Ending} (h : Does w g F R s t d e w') : Does w g F R s t d e w'.drew := by
  obtain ⟨q, F', R', he, hd, hr, hk, hg, hR, hF⟩ := h
  exact ⟨q, F', R', he, hd.below (Below.refl _ _).drew, hr.below (Below.refl _ _).drew, ⟨hk.os, hk.tape, hk.output, hk.size, hk.block⟩, hg, hR, hF⟩
end Go.Proofs.Ytpdknamdladgnaa
