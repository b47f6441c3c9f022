/- Memory of one's own; no conditions but those that they name. -/
import Derived.Test.YtpknkhgkejkpkaaGreatWiD
import Derived.Deep.Upon
import Derived.Laws.ResultCell

namespace Go.Proofs.YtpknkhgkejkpkaaGreat
open Go.ChangeShapes Go.WideShapes Go.ChangeAt Go.RowKit
attribute [local go_sem ↓] ta_yes33 ta_nil33 ta_yes37 ta_nil37 ta_no33_3 ta_no33_37 ta_no37_3 ta_no37_33
/-- A block known whole. -/
def Hold (w : World) (b : Nat) (t : TypeId) (L : List Value) : Prop := w.heap[b]? = some (.cells L.toArray t (0, 0))
theorem Hold.new (w : World) (L : List Value) (t : TypeId) : Hold (w.alloc (.cells L.toArray t)) w.heap.size t L := heap_alloc_new w _
theorem Hold.on {w w' : World} {b : Nat} {t : TypeId} {L : List Value} (h : Hold w b t L) (k : Below w.heap.size w w') : Hold w' b t L := (k.block b (Array.getElem?_eq_some_iff.1 h).1).trans h
theorem Hold.cel {w : World} {b : Nat} {t : TypeId} {L : List Value} (h : Hold w b t L) : Cel w b L := by
  refine ⟨(Array.getElem?_eq_some_iff.1 h).1, fun j x hj => ?_⟩
  unfold Hold at h
  simp only [World.cell?, h, Option.isSome_none, Bool.false_eq_true, if_false]
  simpa using hj
theorem Hold.there {w : World} {b o n : Nat} {t : TypeId} {L : List Value} (h : Hold w b t L) (hl : o + n ≤ L.length) : w.there b o n := fun j hj => by
  have e : L[o + j]? = some (L[o + j]'(by omega)) := List.getElem?_eq_getElem (by omega)
  constructor
  · rw [h.cel.get (o + j) _ e]; rfl
  · unfold Hold at h
    unfold World.frozen?
    simp [h]
theorem Hold.set {b : Nat} {t : TypeId} : ∀ (L P Z S : List Value), Z.length = L.length → ∀ w : World, Hold w b t (P ++ Z ++ S) → Hold (w.setCells b P.length L) b t (P ++ L ++ S)
  | [], _, Z, _, h, _, hh => by
    have : Z = [] := List.length_eq_zero_iff.1 h
    subst this; exact hh
  | v :: r, P, [], S, h, _, _ => by simp at h
  | v :: r, P, z :: Z, S, h, w, hh => by
    rw [World.setCells]
    have h1 : Hold (w.setCell ⟨b, P.length, none⟩ v) b t ((P ++ [v]) ++ Z ++ S) := by
      unfold Hold at hh ⊢
      unfold World.setCell
      simp only [Option.isSome_none, Bool.false_eq_true, if_false]
      rw [Array.getElem?_modify, if_pos rfl, hh]
      simp
    have := Hold.set r (P ++ [v]) Z S (by simpa using h) _ h1
    rw [List.length_append] at this
    simp only [List.length_cons, List.length_nil, Nat.zero_add] at this
    simpa using this
theorem below_setCells {B b : Nat} (hb : B ≤ b) : ∀ (L : List Value) (o : Nat) (a w : World), Below B a w → Below B a (w.setCells b o L)
  | [], _, _, _, h => h
  | v :: r, o, a, _, h => below_setCells hb r (o + 1) a _ (h.setCell hb v)
theorem ownsRow_setCells {w : World} {base b : Nat} {t : TypeId} {k : Nat} {v : Value} {n : Nat} {xs : List Value} (h : w.ownsRow base t k v n xs) (hb : b < base) (L : List Value) (o : Nat) : (w.setCells b o L).ownsRow base t k v n xs := by
  refine ⟨h.1, ?_⟩
  rcases h.2 with h0 | ⟨g, cap, cur, hv, hg, hblk, r⟩
  · exact .inl h0
  · exact .inr ⟨g, cap, cur, hv, hg, (World.heap_setCells_other w b o L (Array.getElem?_eq_some_iff.1 hblk).1 (by omega)).trans hblk, r⟩

theorem store_list {P : Program} {ops : Array Oper} {rest : List Oper} {op : Oper} {a : Act} {w : World} {Q : Exit → Act → World → Prop} (hgd : op.guard = none) (ty : TypeId) (x y : Operand) (ho : op.op = .store ty x y)
    (b o : Nat) (L : List Value) (hx : a.eval x = .pointer (some ⟨b, o, none⟩)) (hy : a.eval y = .agg L.toArray)
    (ht : w.there b o L.length) (hi : (P.info? ty).map (·.size) = some L.length) (h1 : L.all (·.oneCell') = true)
    (h : wpList P ops Q rest (a.put op.dst undef) (w.setCells b o L)) : wpList P ops Q (op :: rest) a w :=
  wpList_store_mid hgd ty x y ho b o L.toArray hx hy ht hi (by simpa using h1) h

/-- A value of its own memory. -/
def AptC (c : M.Cmd) (w : World) (e : Ending) (w' : World) : Prop := ∃ va vb, e = .returned (.iface 30 (.agg #[.int .i64 c.k, .int .i64 c.tc, .int .i64 c.tn, .int .i64 c.tt, .int .i64 c.tk, .int .i64 c.sh, va, vb, .bool c.cm])) ∧ w'.ownsRow w.heap.size 66 3 va c.rs.length (rdsC c.rs) ∧ w'.ownsRow w.heap.size 68 2 vb c.ws.length (wrsC c.ws) ∧ Below w.heap.size w w'
def AptR (r : M.Rec) (w : World) (e : Ending) (w' : World) : Prop := ∃ va vb, e = .returned (.iface 41 (.agg #[.int .i64 r.ir, .int .i64 r.is, .int .i64 r.st, .int .i64 r.pn, .int .i64 r.pr, .int .i64 r.bn, .int .i64 r.br, .int .i64 r.c.k, .int .i64 r.c.tc, .int .i64 r.c.tn, .int .i64 r.c.tt, .int .i64 r.c.tk, .int .i64 r.c.sh, va, vb, .bool r.c.cm, .int .i64 r.sq, .int .i64 r.d0, .int .i64 r.d1, .int .i64 r.d2, .int .i64 r.d3, .int .i64 r.d4, .int .i64 r.d5, .int .i64 r.d6, .bool r.kp])) ∧ w'.ownsRow w.heap.size 66 3 va r.c.rs.length (rdsC r.c.rs) ∧ w'.ownsRow w.heap.size 68 2 vb r.c.ws.length (wrsC r.c.ws) ∧ Below w.heap.size w w'
end Go.Proofs.YtpknkhgkejkpkaaGreat

namespace Go.Proofs.YtpknkhgkejkpkaaGreat
open Go.ChangeShapes Go.WideShapes Go.ChangeAt Go.RowKit
attribute [local go_sem ↓] ta_yes33 ta_nil33 ta_yes37 ta_nil37 ta_no33_3 ta_no33_37 ta_no37_3 ta_no37_33
theorem ownsRow_pushN {w : World} {base : Nat} {t : TypeId} {k : Nat} {v : Value} {n : Nat} {xs : List Value} (h : w.ownsRow base t k v n xs) (o : Obj) : (w.alloc o).ownsRow base t k v n xs := by
  refine ⟨h.1, ?_⟩
  rcases h.2 with h0 | ⟨g, cap, cur, hv, hg, hblk, r⟩
  · exact .inl h0
  · exact .inr ⟨g, cap, cur, hv, hg, (heap_alloc_old w o (Array.getElem?_eq_some_iff.1 hblk).1).trans hblk, r⟩

/-- What Record answers. -/
def RecdR (r : M.Rec) (w : World) (e : Ending) (w' : World) : Prop := ∃ va vb, e = .returned (.tuple #[.agg #[.int .i64 r.ir, .int .i64 r.is, .int .i64 r.st, .int .i64 r.pn, .int .i64 r.pr, .int .i64 r.bn, .int .i64 r.br, .int .i64 r.c.k, .int .i64 r.c.tc, .int .i64 r.c.tn, .int .i64 r.c.tt, .int .i64 r.c.tk, .int .i64 r.c.sh, va, vb, .bool r.c.cm, .int .i64 r.sq, .int .i64 r.d0, .int .i64 r.d1, .int .i64 r.d2, .int .i64 r.d3, .int .i64 r.d4, .int .i64 r.d5, .int .i64 r.d6, .bool r.kp], .bool true]) ∧ Rds w' va r.c.rs ∧ Wrs w' vb r.c.ws ∧ Below w.heap.size w w'
def RecdN (w : World) (e : Ending) (w' : World) : Prop := e = .returned (.tuple #[.agg #[.int .i64 0, .int .i64 0, .int .i64 0, .int .i64 0, .int .i64 0, .int .i64 0, .int .i64 0, .int .i64 0, .int .i64 0, .int .i64 0, .int .i64 0, .int .i64 0, .int .i64 0, .slice none 0 0, .slice none 0 0, .bool false, .int .i64 0, .int .i64 0, .int .i64 0, .int .i64 0, .int .i64 0, .int .i64 0, .int .i64 0, .int .i64 0, .bool false], .bool false]) ∧ Below w.heap.size w w'
def MustR (r : M.Rec) (w : World) (e : Ending) (w' : World) : Prop := ∃ va vb, e = .returned (.agg #[.int .i64 r.ir, .int .i64 r.is, .int .i64 r.st, .int .i64 r.pn, .int .i64 r.pr, .int .i64 r.bn, .int .i64 r.br, .int .i64 r.c.k, .int .i64 r.c.tc, .int .i64 r.c.tn, .int .i64 r.c.tt, .int .i64 r.c.tk, .int .i64 r.c.sh, va, vb, .bool r.c.cm, .int .i64 r.sq, .int .i64 r.d0, .int .i64 r.d1, .int .i64 r.d2, .int .i64 r.d3, .int .i64 r.d4, .int .i64 r.d5, .int .i64 r.d6, .bool r.kp]) ∧ Rds w' va r.c.rs ∧ Wrs w' vb r.c.ws ∧ Below w.heap.size w w'

end Go.Proofs.YtpknkhgkejkpkaaGreat

namespace Go.Proofs.YtpknkhgkejkpkaaGreat
open Go.ChangeShapes Go.WideShapes Go.ChangeAt Go.RowKit
attribute [local go_sem ↓] ta_yes33 ta_nil33 ta_yes37 ta_nil37 ta_no33_3 ta_no33_37 ta_no37_3 ta_no37_33
def OwnR (B : Nat) (w : World) (v : Value) (l : List (List UInt8 × Int × Int)) : Prop := ∃ B', B ≤ B' ∧ w.ownsRow B' 66 3 v l.length (rdsC l)
def OwnW (B : Nat) (w : World) (v : Value) (l : List (List UInt8 × List UInt8)) : Prop := ∃ B', B ≤ B' ∧ w.ownsRow B' 68 2 v l.length (wrsC l)
theorem ownR_mk {B B' : Nat} {w : World} {v : Value} {l : List (List UInt8 × Int × Int)} (h : w.ownsRow B' 66 3 v l.length (rdsC l)) (hb : B ≤ B') : OwnR B w v l := ⟨B', hb, h⟩
theorem ownW_mk {B B' : Nat} {w : World} {v : Value} {l : List (List UInt8 × List UInt8)} (h : w.ownsRow B' 68 2 v l.length (wrsC l)) (hb : B ≤ B') : OwnW B w v l := ⟨B', hb, h⟩
theorem results_c {fn : Func} {j : Nat} {t : TypeId} {tmps : Array Value} {w : World} {b : Nat} {L : List Value} (hf : fn.results = #[ResultVar.cell j t]) (hp : tmps.getD j undef = .pointer (some ⟨b, 0, none⟩)) (hr : w.rangeAt b 0 L) (d : TypeDesc) (hu : Tryz.prog.underlying t = some d) (hd : d.isRow = true) (hi : (Tryz.prog.info? t).map (·.size) = some L.length) :
    (results fn tmps).run Tryz.prog w = .ok (.agg L.toArray) w := by
  have hp' : tmps[j]?.getD undef = .pointer (some ⟨b, 0, none⟩) := by simpa using hp
  simp [results, hf, hp', asAddr, run_loadVar_mid w b 0 t L _ hr hu hd hi]
theorem results_cv {fn : Func} {j k : Nat} {t : TypeId} {tmps : Array Value} {w : World} {b : Nat} {L : List Value} {x : Value} (hf : fn.results = #[ResultVar.cell j t, ResultVar.tmp k]) (hp : tmps.getD j undef = .pointer (some ⟨b, 0, none⟩)) (hx : tmps.getD k undef = x) (hr : w.rangeAt b 0 L) (d : TypeDesc) (hu : Tryz.prog.underlying t = some d) (hd : d.isRow = true) (hi : (Tryz.prog.info? t).map (·.size) = some L.length) :
    (results fn tmps).run Tryz.prog w = .ok (.tuple #[.agg L.toArray, x]) w := by
  rw [results_cell_tmp hf, hp, hx]
  simp [asAddr, run_loadVar_mid w b 0 t L _ hr hu hd hi, Result.andThen]
theorem results_ccv {fn : Func} {j k l : Nat} {t u : TypeId} {tmps : Array Value} {w : World} {b b' : Nat} {L L' : List Value} {x : Value} (hf : fn.results = #[ResultVar.cell j t, ResultVar.cell k u, ResultVar.tmp l]) (hp : tmps.getD j undef = .pointer (some ⟨b, 0, none⟩)) (hp' : tmps.getD k undef = .pointer (some ⟨b', 0, none⟩)) (hx : tmps.getD l undef = x) (hr : w.rangeAt b 0 L) (hr' : w.rangeAt b' 0 L')
    (d d' : TypeDesc) (hu : Tryz.prog.underlying t = some d) (hu' : Tryz.prog.underlying u = some d') (hd : d.isRow = true) (hd' : d'.isRow = true) (hi : (Tryz.prog.info? t).map (·.size) = some L.length) (hi' : (Tryz.prog.info? u).map (·.size) = some L'.length) :
    (results fn tmps).run Tryz.prog w = .ok (.tuple #[.agg L.toArray, .agg L'.toArray, x]) w := by
  have e : tmps[j]?.getD undef = .pointer (some ⟨b, 0, none⟩) := by simpa using hp
  have e' : tmps[k]?.getD undef = .pointer (some ⟨b', 0, none⟩) := by simpa using hp'
  have e2 : tmps[l]?.getD undef = x := by simpa using hx
  simp [results, hf, e, e', e2, asAddr, run_loadVar_mid w b 0 t L _ hr hu hd hi, run_loadVar_mid w b' 0 u L' _ hr' hu' hd' hi', Result.andThen]

/-- What Command answers of anything else. -/
def GotN33 (w : World) (e : Ending) (w' : World) : Prop := e = .returned (.tuple #[.agg #[.int .i64 0, .int .i64 0, .int .i64 0, .int .i64 0, .int .i64 0, .int .i64 0, .slice none 0 0, .slice none 0 0, .bool false], .bool false]) ∧ Below w.heap.size w w'
/-- What Command answers of such. -/
def Got33 (x : M.Cmd) (w : World) (e : Ending) (w' : World) : Prop := ∃ va vb, e = .returned (.tuple #[.agg #[.int .i64 x.k, .int .i64 x.tc, .int .i64 x.tn, .int .i64 x.tt, .int .i64 x.tk, .int .i64 x.sh, va, vb, .bool x.cm], .bool true]) ∧ Rds w' va x.rs ∧ Wrs w' vb x.ws ∧ Below w.heap.size w w'

/-- What Message answers of anything else. -/
def GotN39 (w : World) (e : Ending) (w' : World) : Prop := e = .returned (.tuple #[.agg #[.int .i64 0, .int .i64 0, .int .i64 0, .int .i64 0, .int .i64 0, .int .i64 0, .int .i64 0, .int .i64 0, .int .i64 0, .int .i64 0, .int .i64 0, .int .i64 0, .int .i64 0, .int .i64 0, .int .i64 0, .int .i64 0, .int .i64 0, .int .i64 0, .slice none 0 0, .slice none 0 0, .bool false, .int .i64 0, .int .i64 0, .int .i64 0, .int .i64 0, .int .i64 0, .int .i64 0, .int .i64 0, .int .i64 0, .bool false], .bool false]) ∧ Below w.heap.size w w'
/-- What Message answers of such. -/
def Got39 (x : M.Msg) (w : World) (e : Ending) (w' : World) : Prop := ∃ va vb, e = .returned (.tuple #[.agg #[.int .i64 x.k, .int .i64 x.fr, .int .i64 x.to, .int .i64 x.bn, .int .i64 x.br, .int .i64 x.r.ir, .int .i64 x.r.is, .int .i64 x.r.st, .int .i64 x.r.pn, .int .i64 x.r.pr, .int .i64 x.r.bn, .int .i64 x.r.br, .int .i64 x.r.c.k, .int .i64 x.r.c.tc, .int .i64 x.r.c.tn, .int .i64 x.r.c.tt, .int .i64 x.r.c.tk, .int .i64 x.r.c.sh, va, vb, .bool x.r.c.cm, .int .i64 x.r.sq, .int .i64 x.r.d0, .int .i64 x.r.d1, .int .i64 x.r.d2, .int .i64 x.r.d3, .int .i64 x.r.d4, .int .i64 x.r.d5, .int .i64 x.r.d6, .bool x.r.kp], .bool true]) ∧ OwnR w.heap.size w' va x.r.c.rs ∧ OwnW w.heap.size w' vb x.r.c.ws ∧ Below w.heap.size w w'

end Go.Proofs.YtpknkhgkejkpkaaGreat
