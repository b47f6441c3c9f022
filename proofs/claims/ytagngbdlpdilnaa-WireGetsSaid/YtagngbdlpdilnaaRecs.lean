/- Records and messages, and blocks of them; contracts of putRecord and putMessage; no conditions but those that they name. -/
import Derived.Test.YtagngbdlpdilnaaPutC
import Derived.Deep.MidRow
namespace Go.Proofs.Ytagngbdlpdilnaa
open Go.RowKit

namespace M
/-- A record. -/
structure Rec where
  ir : Int
  is : Int
  st : Int
  pn : Int
  pr : Int
  bn : Int
  br : Int
  c : Cmd
  sq : Int
  d0 : Int
  d1 : Int
  d2 : Int
  d3 : Int
  d4 : Int
  d5 : Int
  d6 : Int
  kp : Bool
/-- A message. -/
structure Msg where
  k : Int
  fr : Int
  to : Int
  bn : Int
  br : Int
  r : Rec
end M

/-- A block whose first cells are these. -/
structure Cel (w : World) (b : Nat) (L : List Value) : Prop where
  lt : b < w.heap.size
  get : ∀ j x, L[j]? = some x → w.cell? ⟨b, j, none⟩ = some x
theorem Cel.new (w : World) (L : List Value) (t : TypeId) : Cel (w.alloc (.cells L.toArray t)) w.heap.size L :=
  ⟨by simp, fun j x h => by simp [h]⟩
theorem Cel.new1 (w : World) (o : Obj) (L : List Value) (t : TypeId) : Cel ((w.alloc o).alloc (.cells L.toArray t)) (w.heap.size + 1) L := by
  simpa using Cel.new (w.alloc o) L t
theorem Cel.on {w w' : World} {b : Nat} {L : List Value} (h : Cel w b L) (k : Below w.heap.size w w') : Cel w' b L :=
  ⟨Nat.lt_of_lt_of_le h.lt k.size, fun j x hj => (k.cell (p := ⟨b, j, none⟩) h.lt).trans (h.get j x hj)⟩
theorem Cel.push {w : World} {b : Nat} {L : List Value} (h : Cel w b L) (o : Obj) : Cel (w.alloc o) b L := h.on (below_new (Below.refl _ _))
theorem Cel.grown {w w' : World} {b : Nat} {L : List Value} {row : Option Nat} (h : Cel w b L) (k : w.grownBy w' row) (hn : row ≠ some b) : Cel w' b L :=
  ⟨Nat.lt_of_lt_of_le h.lt k.size, fun j x hj => k.cell (h.get j x hj) (fun e => hn e.symm)⟩
theorem Cel.range {w : World} {b o : Nat} {pre L : List Value} (X : Cel w b (pre ++ L)) (h : pre.length = o) : w.rangeAt b o L := fun j x hj => X.get (o + j) x (by
  rw [List.getElem?_append_right (by omega), show o + j - pre.length = j by omega]; exact hj)
theorem Cel.whole {w : World} {b : Nat} {L : List Value} (X : Cel w b L) : w.rangeAt b 0 L := fun j x hj => by rw [Nat.zero_add]; exact X.get j x hj
theorem Cel.st {wB w' : World} {base : Nat} {v y : Value} {ys : List UInt8} {g : Nat} {L : List Value} (X : Cel wB g L) (h : St wB base v w' y ys) (hoff : Off v g) : Cel w' g L := X.grown h.ext.grow hoff

theorem St.cmd {w0 wB w' : World} {v y : Value} {ys : List UInt8} (h : St wB w0.heap.size v w' y ys) (c : M.Cmd) {va vb : Value} (hr : Rds w0 va c.rs) (hw : Wrs w0 vb c.ws) (hb : Below w0.heap.size w0 w') (hl : ys.length ≤ 1000) (F : M.Fits c) :
    Calls Try.prog 74 #[y, .agg #[.int .i64 c.k, .int .i64 c.tc, .int .i64 c.tn, .int .i64 c.tt, .int .i64 c.tk, .int .i64 c.sh, va, vb, .bool c.cm]] w' (Stp wB w0.heap.size v (ys ++ M.encC c)) :=
  (putCommand_any c hr hw hb h.own hl F).mono fun _ _ ⟨z, e, hs⟩ => ⟨z, e, h.step hs.own hs.ext⟩

namespace M
/-- A record's bytes, a message's. -/
def encR (r : Rec) : List UInt8 := [2] ++ numsZ [r.ir, r.is, r.st] ++ numsZ [r.pn, r.pr] ++ numsZ [r.bn, r.br] ++ numsZ [r.sq] ++ numsZ [r.d0, r.d1, r.d2, r.d3, r.d4, r.d5, r.d6] ++ flag r.kp ++ encC r.c
def encM (m : Msg) : List UInt8 := [3] ++ numsZ [m.k, m.fr, m.to] ++ numsZ [m.bn, m.br] ++ encR m.r
structure FitsR (r : Rec) : Prop where
  ir : Nb r.ir
  is : Nb r.is
  st : Nb r.st
  pn : Nb r.pn
  pr : Nb r.pr
  bn : Nb r.bn
  br : Nb r.br
  c : Fits r.c
  sq : Nb r.sq
  d0 : Nb r.d0
  d1 : Nb r.d1
  d2 : Nb r.d2
  d3 : Nb r.d3
  d4 : Nb r.d4
  d5 : Nb r.d5
  d6 : Nb r.d6
structure FitsM (m : Msg) : Prop where
  k : Nb m.k
  fr : Nb m.fr
  to : Nb m.to
  bn : Nb m.bn
  br : Nb m.br
  r : FitsR m.r
theorem nb7 {a b c d e f g : Int} (h1 : Nb a) (h2 : Nb b) (h3 : Nb c) (h4 : Nb d) (h5 : Nb e) (h6 : Nb f) (h7 : Nb g) : ∀ z ∈ [a, b, c, d, e, f, g], 0 ≤ z ∧ z ≤ 1099511627776 := by
  intro z hz
  simp only [List.mem_cons, List.not_mem_nil, or_false] at hz
  rcases hz with rfl | rfl | rfl | rfl | rfl | rfl | rfl <;> assumption
end M

/-- Numbers within a block. -/
theorem Ints.of_cel {w : World} {b o : Nat} {zs : List Int} (hb : b < w.heap.size) (h : ∀ k, k < zs.length → w.cell? ⟨b, o + k, none⟩ = some (.int .i64 (zs.getD k 0))) (hz : ∀ z ∈ zs, 0 ≤ z) : Ints w (.slice (some ⟨b, o, none⟩) zs.length zs.length) b (zs.map Int.toNat) := by
  refine ⟨o, zs.length, by simp, by simp, hb, fun k hk => ?_⟩
  rw [List.length_map] at hk
  rw [h k hk]
  have e : (zs.map Int.toNat).getD k 0 = (zs[k]).toNat := by
    rw [List.getD, List.getElem?_map, List.getElem?_eq_getElem hk]; rfl
  have h0 := hz _ (List.getElem_mem hk)
  rw [e, Int.toNat_of_nonneg h0, List.getD, List.getElem?_eq_getElem hk]; rfl
theorem St.ints {wB w' : World} {base g o : Nat} {v y : Value} {ys : List UInt8} (h : St wB base v w' y ys) (zs : List Int) (hz : ∀ z ∈ zs, 0 ≤ z ∧ z ≤ 1099511627776) (hg : g < w'.heap.size) (hc : ∀ k, k < zs.length → w'.cell? ⟨g, o + k, none⟩ = some (.int .i64 (zs.getD k 0))) (hoff : Off y g) (hl : ys.length ≤ 90000) (hl' : zs.length ≤ 1000) :
    Calls Try.prog 93 #[y, .slice (some ⟨g, o, none⟩) zs.length zs.length] w' (Stp wB base v (ys ++ M.numsZ zs)) := by
  have hi := Ints.of_cel hg hc (fun z hz' => (hz z hz').1)
  have := putNumbers_any h.own h.size hi hoff (by
    intro n hn
    rw [List.mem_map] at hn
    obtain ⟨z, hz', rfl⟩ := hn
    have := hz z hz'
    omega) (by omega) (by simpa using hl')
  rw [M.numsZ_map] at this
  refine this.mono ?_
  rintro e w'' ⟨z, rfl, ho, he⟩
  exact ⟨z, rfl, h.step ho he⟩
theorem St.offs {wB w' : World} {base g : Nat} {v y : Value} {ys : List UInt8} (h : St wB base v w' y ys) (hg : g < wB.heap.size) (hoff : Off v g) : Off y g := h.ext.off hg hoff
end Go.Proofs.Ytagngbdlpdilnaa
