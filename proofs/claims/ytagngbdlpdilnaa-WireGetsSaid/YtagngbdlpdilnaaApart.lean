/- Contracts of apart; no conditions but the lengths that they name. -/
import Derived.Test.YtagngbdlpdilnaaCmdsH
import Derived.Test.YtagngbdlpdilnaaRecM
import Derived.Test.YtagngbdlpdilnaaFresh
import Derived.Deep.Upon
namespace Go.Proofs.Ytagngbdlpdilnaa
open Go.ChangeShapes Go.WideShapes Go.ChangeAt Go.RowKit
attribute [local go_sem ↓] ta_yes33 ta_nil33 ta_yes37 ta_nil37 ta_yes39 ta_nil39 ta_no33_3 ta_no33_37 ta_no33_39 ta_no37_3 ta_no37_33 ta_no37_39 ta_no39_3 ta_no39_33 ta_no39_37

/-- A block known whole. -/
def Hold (w : World) (b : Nat) (t : TypeId) (L : List Value) : Prop := w.heap[b]? = some (.cells L.toArray t (0, 0))
theorem Hold.new (w : World) (L : List Value) (t : TypeId) : Hold (w.alloc (.cells L.toArray t)) w.heap.size t L := heap_alloc_new w _
theorem Hold.on {w w' : World} {b : Nat} {t : TypeId} {L : List Value} (h : Hold w b t L) (k : Below w.heap.size w w') : Hold w' b t L := (k.block b (Array.getElem?_eq_some_iff.1 h).1).trans h
theorem Hold.cel {w : World} {b : Nat} {t : TypeId} {L : List Value} (h : Hold w b t L) : Cel w b L := by
  refine ⟨(Array.getElem?_eq_some_iff.1 h).1, fun j x hj => ?_⟩
  unfold Hold at h
  simp only [World.cell?, h, Option.isSome_none, Bool.false_eq_true, if_false]
  simpa using hj
theorem Hold.there {w : World} {b o n : Nat} {t : TypeId} {L : List Value} (h : Hold w b t L) (hl : o + n ≤ L.length) : w.there b o n := fun j hj => by
  have e : L[o + j]? = some (L[o + j]'(by omega)) := List.getElem?_eq_getElem (by omega)
  constructor
  · rw [h.cel.get (o + j) _ e]; rfl
  · unfold Hold at h
    unfold World.frozen?
    simp [h]
theorem Hold.set {b : Nat} {t : TypeId} : ∀ (L P Z S : List Value), Z.length = L.length → ∀ w : World, Hold w b t (P ++ Z ++ S) → Hold (w.setCells b P.length L) b t (P ++ L ++ S)
  | [], _, Z, _, h, _, hh => by
    have : Z = [] := List.length_eq_zero_iff.1 h
    subst this; exact hh
  | v :: r, P, [], S, h, _, _ => by simp at h
  | v :: r, P, z :: Z, S, h, w, hh => by
    rw [World.setCells]
    have h1 : Hold (w.setCell ⟨b, P.length, none⟩ v) b t ((P ++ [v]) ++ Z ++ S) := by
      unfold Hold at hh ⊢
      unfold World.setCell
      simp only [Option.isSome_none, Bool.false_eq_true, if_false]
      rw [Array.getElem?_modify, if_pos rfl, hh]
      simp
    have := Hold.set r (P ++ [v]) Z S (by simpa using h) _ h1
    rw [List.length_append] at this
    simp only [List.length_cons, List.length_nil, Nat.zero_add] at this
    simpa using this
theorem below_setCells {B b : Nat} (hb : B ≤ b) : ∀ (L : List Value) (o : Nat) (a w : World), Below B a w → Below B a (w.setCells b o L)
  | [], _, _, _, h => h
  | v :: r, o, a, _, h => below_setCells hb r (o + 1) a _ (h.setCell hb v)
theorem ownsRow_setCells {w : World} {base b : Nat} {t : TypeId} {k : Nat} {v : Value} {n : Nat} {xs : List Value} (h : w.ownsRow base t k v n xs) (hb : b < base) (L : List Value) (o : Nat) : (w.setCells b o L).ownsRow base t k v n xs := by
  refine ⟨h.1, ?_⟩
  rcases h.2 with h0 | ⟨g, cap, cur, hv, hg, hblk, r⟩
  · exact .inl h0
  · exact .inr ⟨g, cap, cur, hv, hg, (World.heap_setCells_other w b o L (Array.getElem?_eq_some_iff.1 hblk).1 (by omega)).trans hblk, r⟩

theorem store_list {P : Program} {ops : Array Oper} {rest : List Oper} {op : Oper} {a : Act} {w : World} {Q : Exit → Act → World → Prop} (hgd : op.guard = none) (ty : TypeId) (x y : Operand) (ho : op.op = .store ty x y)
    (b o : Nat) (L : List Value) (hx : a.eval x = .pointer (some ⟨b, o, none⟩)) (hy : a.eval y = .agg L.toArray)
    (ht : w.there b o L.length) (hi : (P.info? ty).map (·.size) = some L.length) (h1 : L.all (·.oneCell') = true)
    (h : wpList P ops Q rest (a.put op.dst undef) (w.setCells b o L)) : wpList P ops Q (op :: rest) a w :=
  wpList_store_mid hgd ty x y ho b o L.toArray hx hy ht hi (by simpa using h1) h

/-- A value of its own memory. -/
def AptC (c : M.Cmd) (w : World) (e : Ending) (w' : World) : Prop := ∃ va vb, e = .returned (.iface 33 (.agg #[.int .i64 c.k, .int .i64 c.tc, .int .i64 c.tn, .int .i64 c.tt, .int .i64 c.tk, .int .i64 c.sh, va, vb, .bool c.cm])) ∧ w'.ownsRow w.heap.size 74 3 va c.rs.length (rdsC c.rs) ∧ w'.ownsRow w.heap.size 76 2 vb c.ws.length (wrsC c.ws) ∧ Below w.heap.size w w'
def AptR (r : M.Rec) (w : World) (e : Ending) (w' : World) : Prop := ∃ va vb, e = .returned (.iface 37 (.agg #[.int .i64 r.ir, .int .i64 r.is, .int .i64 r.st, .int .i64 r.pn, .int .i64 r.pr, .int .i64 r.bn, .int .i64 r.br, .int .i64 r.c.k, .int .i64 r.c.tc, .int .i64 r.c.tn, .int .i64 r.c.tt, .int .i64 r.c.tk, .int .i64 r.c.sh, va, vb, .bool r.c.cm, .int .i64 r.sq, .int .i64 r.d0, .int .i64 r.d1, .int .i64 r.d2, .int .i64 r.d3, .int .i64 r.d4, .int .i64 r.d5, .int .i64 r.d6, .bool r.kp])) ∧ w'.ownsRow w.heap.size 74 3 va r.c.rs.length (rdsC r.c.rs) ∧ w'.ownsRow w.heap.size 76 2 vb r.c.ws.length (wrsC r.c.ws) ∧ Below w.heap.size w w'
def AptM (m : M.Msg) (w : World) (e : Ending) (w' : World) : Prop := ∃ va vb, e = .returned (.iface 39 (.agg #[.int .i64 m.k, .int .i64 m.fr, .int .i64 m.to, .int .i64 m.bn, .int .i64 m.br, .int .i64 m.r.ir, .int .i64 m.r.is, .int .i64 m.r.st, .int .i64 m.r.pn, .int .i64 m.r.pr, .int .i64 m.r.bn, .int .i64 m.r.br, .int .i64 m.r.c.k, .int .i64 m.r.c.tc, .int .i64 m.r.c.tn, .int .i64 m.r.c.tt, .int .i64 m.r.c.tk, .int .i64 m.r.c.sh, va, vb, .bool m.r.c.cm, .int .i64 m.r.sq, .int .i64 m.r.d0, .int .i64 m.r.d1, .int .i64 m.r.d2, .int .i64 m.r.d3, .int .i64 m.r.d4, .int .i64 m.r.d5, .int .i64 m.r.d6, .bool m.r.kp])) ∧ w'.ownsRow w.heap.size 74 3 va m.r.c.rs.length (rdsC m.r.c.rs) ∧ w'.ownsRow w.heap.size 76 2 vb m.r.c.ws.length (wrsC m.r.c.ws) ∧ Below w.heap.size w w'

set_option maxHeartbeats 1000000 in
theorem apart_int (x : Value) (w : World) : Calls Try.prog 63 #[.iface 3 x] w fun e w' => e = .returned (.iface 3 x) ∧ w = w' := by
  go_enter Try.func63, Try.ntmps63
  go_wp2
  go_ret
  exact ⟨rfl, rfl⟩
set_option maxHeartbeats 1000000 in
theorem apart_nil (w : World) : Calls Try.prog 63 #[.nilIface] w fun e w' => e = .returned .nilIface ∧ w = w' := by
  go_enter Try.func63, Try.ntmps63
  go_wp2
  go_ret
  exact ⟨rfl, rfl⟩
set_option maxHeartbeats 4000000 in
set_option maxRecDepth 100000 in
theorem apart_cmd {w : World} (c : M.Cmd) {va vb : Value} (h : Rds w va c.rs) (h' : Wrs w vb c.ws) (hl : c.rs.length ≤ 1000) (hl' : c.ws.length ≤ 1000) : Calls Try.prog 63 #[.iface 33 (.agg #[.int .i64 c.k, .int .i64 c.tc, .int .i64 c.tn, .int .i64 c.tt, .int .i64 c.tk, .int .i64 c.sh, va, vb, .bool c.cm])] w (AptC c w) := by
  obtain ⟨A, c1, rfl, -, -⟩ := h.opened
  obtain ⟨A', c2, rfl, -, -⟩ := h'.opened
  have HR := Lib.hid (h.push (.cells #[.int .i64 c.k, .int .i64 c.tc, .int .i64 c.tn, .int .i64 c.tt, .int .i64 c.tk, .int .i64 c.sh, (.slice A c.rs.length c1), (.slice A' c.ws.length c2), .bool c.cm] 33))
  have HW := Lib.hid (h'.push (.cells #[.int .i64 c.k, .int .i64 c.tc, .int .i64 c.tn, .int .i64 c.tt, .int .i64 c.tk, .int .i64 c.sh, (.slice A c.rs.length c1), (.slice A' c.ws.length c2), .bool c.cm] 33))
  have B0 := Lib.hid (below_new (o := .cells #[.int .i64 c.k, .int .i64 c.tc, .int .i64 c.tn, .int .i64 c.tt, .int .i64 c.tk, .int .i64 c.sh, (.slice A c.rs.length c1), (.slice A' c.ws.length c2), .bool c.cm] 33) (Below.refl w.heap.size w))
  clear h h'
  go_enter Try.func63, Try.ntmps63
  go_wp2_with (fail)
  refine (clone_any c HR.out HW.out hl hl').mono ?_
  rintro e w1 ⟨va, vb, rfl, o1, o2, hb⟩
  have R1 := Lib.hid (ownsRow_baseN (base' := w.heap.size) o1 (by simp))
  have W1 := Lib.hid (ownsRow_baseN (base' := w.heap.size) o2 (by simp))
  have B1 := Lib.hid (below_on B0.out hb)
  clear o1 o2 hb
  go_wp2
  go_ret
  exact ⟨_, _, rfl, R1.out, W1.out, B1.out⟩

set_option maxHeartbeats 8000000 in
set_option maxRecDepth 100000 in
theorem apart_rec {w : World} (r : M.Rec) {va vb : Value} (h : Rds w va r.c.rs) (h' : Wrs w vb r.c.ws) (hl : r.c.rs.length ≤ 1000) (hl' : r.c.ws.length ≤ 1000) : Calls Try.prog 63 #[.iface 37 (.agg #[.int .i64 r.ir, .int .i64 r.is, .int .i64 r.st, .int .i64 r.pn, .int .i64 r.pr, .int .i64 r.bn, .int .i64 r.br, .int .i64 r.c.k, .int .i64 r.c.tc, .int .i64 r.c.tn, .int .i64 r.c.tt, .int .i64 r.c.tk, .int .i64 r.c.sh, va, vb, .bool r.c.cm, .int .i64 r.sq, .int .i64 r.d0, .int .i64 r.d1, .int .i64 r.d2, .int .i64 r.d3, .int .i64 r.d4, .int .i64 r.d5, .int .i64 r.d6, .bool r.kp])] w (AptR r w) := by
  obtain ⟨A, c1, rfl, -, -⟩ := h.opened
  obtain ⟨A', c2, rfl, -, -⟩ := h'.opened
  have HR := Lib.hid (h.push (.cells #[.int .i64 r.ir, .int .i64 r.is, .int .i64 r.st, .int .i64 r.pn, .int .i64 r.pr, .int .i64 r.bn, .int .i64 r.br, .int .i64 r.c.k, .int .i64 r.c.tc, .int .i64 r.c.tn, .int .i64 r.c.tt, .int .i64 r.c.tk, .int .i64 r.c.sh, (.slice A r.c.rs.length c1), (.slice A' r.c.ws.length c2), .bool r.c.cm, .int .i64 r.sq, .int .i64 r.d0, .int .i64 r.d1, .int .i64 r.d2, .int .i64 r.d3, .int .i64 r.d4, .int .i64 r.d5, .int .i64 r.d6, .bool r.kp] 37))
  have HW := Lib.hid (h'.push (.cells #[.int .i64 r.ir, .int .i64 r.is, .int .i64 r.st, .int .i64 r.pn, .int .i64 r.pr, .int .i64 r.bn, .int .i64 r.br, .int .i64 r.c.k, .int .i64 r.c.tc, .int .i64 r.c.tn, .int .i64 r.c.tt, .int .i64 r.c.tk, .int .i64 r.c.sh, (.slice A r.c.rs.length c1), (.slice A' r.c.ws.length c2), .bool r.c.cm, .int .i64 r.sq, .int .i64 r.d0, .int .i64 r.d1, .int .i64 r.d2, .int .i64 r.d3, .int .i64 r.d4, .int .i64 r.d5, .int .i64 r.d6, .bool r.kp] 37))
  have H0 := Lib.hid (Hold.new w [.int .i64 r.ir, .int .i64 r.is, .int .i64 r.st, .int .i64 r.pn, .int .i64 r.pr, .int .i64 r.bn, .int .i64 r.br, .int .i64 r.c.k, .int .i64 r.c.tc, .int .i64 r.c.tn, .int .i64 r.c.tt, .int .i64 r.c.tk, .int .i64 r.c.sh, (.slice A r.c.rs.length c1), (.slice A' r.c.ws.length c2), .bool r.c.cm, .int .i64 r.sq, .int .i64 r.d0, .int .i64 r.d1, .int .i64 r.d2, .int .i64 r.d3, .int .i64 r.d4, .int .i64 r.d5, .int .i64 r.d6, .bool r.kp] 37)
  have RG := Lib.hid (H0.out.cel.range (pre := [.int .i64 r.ir, .int .i64 r.is, .int .i64 r.st, .int .i64 r.pn, .int .i64 r.pr, .int .i64 r.bn, .int .i64 r.br]) (L := [.int .i64 r.c.k, .int .i64 r.c.tc, .int .i64 r.c.tn, .int .i64 r.c.tt, .int .i64 r.c.tk, .int .i64 r.c.sh, (.slice A r.c.rs.length c1), (.slice A' r.c.ws.length c2), .bool r.c.cm] ++ [.int .i64 r.sq, .int .i64 r.d0, .int .i64 r.d1, .int .i64 r.d2, .int .i64 r.d3, .int .i64 r.d4, .int .i64 r.d5, .int .i64 r.d6, .bool r.kp]) (o := 7) rfl)
  have RC := Lib.hid (show (w.alloc (.cells #[.int .i64 r.ir, .int .i64 r.is, .int .i64 r.st, .int .i64 r.pn, .int .i64 r.pr, .int .i64 r.bn, .int .i64 r.br, .int .i64 r.c.k, .int .i64 r.c.tc, .int .i64 r.c.tn, .int .i64 r.c.tt, .int .i64 r.c.tk, .int .i64 r.c.sh, (.slice A r.c.rs.length c1), (.slice A' r.c.ws.length c2), .bool r.c.cm, .int .i64 r.sq, .int .i64 r.d0, .int .i64 r.d1, .int .i64 r.d2, .int .i64 r.d3, .int .i64 r.d4, .int .i64 r.d5, .int .i64 r.d6, .bool r.kp] 37)).rangeAt w.heap.size 7 [.int .i64 r.c.k, .int .i64 r.c.tc, .int .i64 r.c.tn, .int .i64 r.c.tt, .int .i64 r.c.tk, .int .i64 r.c.sh, (.slice A r.c.rs.length c1), (.slice A' r.c.ws.length c2), .bool r.c.cm] from fun j v hj => RG.out j v (by rw [List.getElem?_append_left (List.getElem?_eq_some_iff.1 hj).1]; exact hj))
  have B0 := Lib.hid (below_new (o := .cells #[.int .i64 r.ir, .int .i64 r.is, .int .i64 r.st, .int .i64 r.pn, .int .i64 r.pr, .int .i64 r.bn, .int .i64 r.br, .int .i64 r.c.k, .int .i64 r.c.tc, .int .i64 r.c.tn, .int .i64 r.c.tt, .int .i64 r.c.tk, .int .i64 r.c.sh, (.slice A r.c.rs.length c1), (.slice A' r.c.ws.length c2), .bool r.c.cm, .int .i64 r.sq, .int .i64 r.d0, .int .i64 r.d1, .int .i64 r.d2, .int .i64 r.d3, .int .i64 r.d4, .int .i64 r.d5, .int .i64 r.d6, .bool r.kp] 37) (Below.refl w.heap.size w))
  clear h h' RG
  go_enter Try.func63, Try.ntmps63
  go_wp2_with
    (first
     | (with_reducible refine wpList_store_fresh rfl 37 _ _ rfl w.heap.size rfl 37 _ [.int .i64 r.ir, .int .i64 r.is, .int .i64 r.st, .int .i64 r.pn, .int .i64 r.pr, .int .i64 r.bn, .int .i64 r.br, .int .i64 r.c.k, .int .i64 r.c.tc, .int .i64 r.c.tn, .int .i64 r.c.tt, .int .i64 r.c.tk, .int .i64 r.c.sh, (.slice A r.c.rs.length c1), (.slice A' r.c.ws.length c2), .bool r.c.cm, .int .i64 r.sq, .int .i64 r.d0, .int .i64 r.d1, .int .i64 r.d2, .int .i64 r.d3, .int .i64 r.d4, .int .i64 r.d5, .int .i64 r.d6, .bool r.kp] rfl rfl rfl (by kernel_rfl) rfl ?_)
     | (with_reducible refine wpList_load_mid rfl 33 _ rfl w.heap.size 7 rfl _ _ RC.out Try.underlying33 rfl (by kernel_rfl) ?_)
     | (go_at_call 86
        refine (clone_any r.c HR.out HW.out hl hl').mono ?_
        rintro e w1 ⟨va, vb, rfl, o1, o2, hb⟩
        obtain ⟨A1, k1, rfl⟩ := ownsRow_slice o1
        obtain ⟨A2, k2, rfl⟩ := ownsRow_slice o2
        have H1 := H0.out.on hb
        have TH := Lib.hid (show w1.there w.heap.size 7 ([.int .i64 r.c.k, .int .i64 r.c.tc, .int .i64 r.c.tn, .int .i64 r.c.tt, .int .i64 r.c.tk, .int .i64 r.c.sh, (.slice A1 r.c.rs.length k1), (.slice A2 r.c.ws.length k2), .bool r.c.cm] : List Value).length from H1.there (o := 7) (n := 9) (by simp))
        have H2p := Hold.set [.int .i64 r.c.k, .int .i64 r.c.tc, .int .i64 r.c.tn, .int .i64 r.c.tt, .int .i64 r.c.tk, .int .i64 r.c.sh, (.slice A1 r.c.rs.length k1), (.slice A2 r.c.ws.length k2), .bool r.c.cm] [.int .i64 r.ir, .int .i64 r.is, .int .i64 r.st, .int .i64 r.pn, .int .i64 r.pr, .int .i64 r.bn, .int .i64 r.br] [.int .i64 r.c.k, .int .i64 r.c.tc, .int .i64 r.c.tn, .int .i64 r.c.tt, .int .i64 r.c.tk, .int .i64 r.c.sh, (.slice A r.c.rs.length c1), (.slice A' r.c.ws.length c2), .bool r.c.cm] [.int .i64 r.sq, .int .i64 r.d0, .int .i64 r.d1, .int .i64 r.d2, .int .i64 r.d3, .int .i64 r.d4, .int .i64 r.d5, .int .i64 r.d6, .bool r.kp] rfl w1 H1
        have H2 := Lib.hid (show Hold (w1.setCells w.heap.size 7 [.int .i64 r.c.k, .int .i64 r.c.tc, .int .i64 r.c.tn, .int .i64 r.c.tt, .int .i64 r.c.tk, .int .i64 r.c.sh, (.slice A1 r.c.rs.length k1), (.slice A2 r.c.ws.length k2), .bool r.c.cm]) w.heap.size 37 [.int .i64 r.ir, .int .i64 r.is, .int .i64 r.st, .int .i64 r.pn, .int .i64 r.pr, .int .i64 r.bn, .int .i64 r.br, .int .i64 r.c.k, .int .i64 r.c.tc, .int .i64 r.c.tn, .int .i64 r.c.tt, .int .i64 r.c.tk, .int .i64 r.c.sh, (.slice A1 r.c.rs.length k1), (.slice A2 r.c.ws.length k2), .bool r.c.cm, .int .i64 r.sq, .int .i64 r.d0, .int .i64 r.d1, .int .i64 r.d2, .int .i64 r.d3, .int .i64 r.d4, .int .i64 r.d5, .int .i64 r.d6, .bool r.kp] from H2p)
        have RW := Lib.hid (H2.out.cel.whole)
        have R2 := Lib.hid (ownsRow_baseN (base' := w.heap.size) (ownsRow_setCells (b := w.heap.size) o1 (by simp) [.int .i64 r.c.k, .int .i64 r.c.tc, .int .i64 r.c.tn, .int .i64 r.c.tt, .int .i64 r.c.tk, .int .i64 r.c.sh, (.slice A1 r.c.rs.length k1), (.slice A2 r.c.ws.length k2), .bool r.c.cm] 7) (by simp))
        have W2 := Lib.hid (ownsRow_baseN (base' := w.heap.size) (ownsRow_setCells (b := w.heap.size) o2 (by simp) [.int .i64 r.c.k, .int .i64 r.c.tc, .int .i64 r.c.tn, .int .i64 r.c.tt, .int .i64 r.c.tk, .int .i64 r.c.sh, (.slice A1 r.c.rs.length k1), (.slice A2 r.c.ws.length k2), .bool r.c.cm] 7) (by simp))
        have B2 := Lib.hid (below_setCells (Nat.le_refl _) [.int .i64 r.c.k, .int .i64 r.c.tc, .int .i64 r.c.tn, .int .i64 r.c.tt, .int .i64 r.c.tk, .int .i64 r.c.sh, (.slice A1 r.c.rs.length k1), (.slice A2 r.c.ws.length k2), .bool r.c.cm] 7 w w1 (below_on B0.out hb))
        clear o1 o2 hb H1 H2p)
     | (with_reducible refine store_list rfl 33 _ _ rfl w.heap.size 7 [.int .i64 r.c.k, .int .i64 r.c.tc, .int .i64 r.c.tn, .int .i64 r.c.tt, .int .i64 r.c.tk, .int .i64 r.c.sh, (.slice A1 r.c.rs.length k1), (.slice A2 r.c.ws.length k2), .bool r.c.cm] rfl rfl TH.out (by kernel_rfl) (by kernel_rfl) ?_)
     | (with_reducible refine wpList_load_mid rfl 37 _ rfl w.heap.size 0 rfl [.int .i64 r.ir, .int .i64 r.is, .int .i64 r.st, .int .i64 r.pn, .int .i64 r.pr, .int .i64 r.bn, .int .i64 r.br, .int .i64 r.c.k, .int .i64 r.c.tc, .int .i64 r.c.tn, .int .i64 r.c.tt, .int .i64 r.c.tk, .int .i64 r.c.sh, (.slice A1 r.c.rs.length k1), (.slice A2 r.c.ws.length k2), .bool r.c.cm, .int .i64 r.sq, .int .i64 r.d0, .int .i64 r.d1, .int .i64 r.d2, .int .i64 r.d3, .int .i64 r.d4, .int .i64 r.d5, .int .i64 r.d6, .bool r.kp] _ RW.out Try.underlying37 rfl (by kernel_rfl) ?_))
  go_ret
  exact ⟨_, _, rfl, R2.out, W2.out, B2.out⟩

set_option maxHeartbeats 8000000 in
set_option maxRecDepth 100000 in
theorem apart_msg {w : World} (m : M.Msg) {va vb : Value} (h : Rds w va m.r.c.rs) (h' : Wrs w vb m.r.c.ws) (hl : m.r.c.rs.length ≤ 1000) (hl' : m.r.c.ws.length ≤ 1000) : Calls Try.prog 63 #[.iface 39 (.agg #[.int .i64 m.k, .int .i64 m.fr, .int .i64 m.to, .int .i64 m.bn, .int .i64 m.br, .int .i64 m.r.ir, .int .i64 m.r.is, .int .i64 m.r.st, .int .i64 m.r.pn, .int .i64 m.r.pr, .int .i64 m.r.bn, .int .i64 m.r.br, .int .i64 m.r.c.k, .int .i64 m.r.c.tc, .int .i64 m.r.c.tn, .int .i64 m.r.c.tt, .int .i64 m.r.c.tk, .int .i64 m.r.c.sh, va, vb, .bool m.r.c.cm, .int .i64 m.r.sq, .int .i64 m.r.d0, .int .i64 m.r.d1, .int .i64 m.r.d2, .int .i64 m.r.d3, .int .i64 m.r.d4, .int .i64 m.r.d5, .int .i64 m.r.d6, .bool m.r.kp])] w (AptM m w) := by
  obtain ⟨A, c1, rfl, -, -⟩ := h.opened
  obtain ⟨A', c2, rfl, -, -⟩ := h'.opened
  have HR := Lib.hid (h.push (.cells #[.int .i64 m.k, .int .i64 m.fr, .int .i64 m.to, .int .i64 m.bn, .int .i64 m.br, .int .i64 m.r.ir, .int .i64 m.r.is, .int .i64 m.r.st, .int .i64 m.r.pn, .int .i64 m.r.pr, .int .i64 m.r.bn, .int .i64 m.r.br, .int .i64 m.r.c.k, .int .i64 m.r.c.tc, .int .i64 m.r.c.tn, .int .i64 m.r.c.tt, .int .i64 m.r.c.tk, .int .i64 m.r.c.sh, (.slice A m.r.c.rs.length c1), (.slice A' m.r.c.ws.length c2), .bool m.r.c.cm, .int .i64 m.r.sq, .int .i64 m.r.d0, .int .i64 m.r.d1, .int .i64 m.r.d2, .int .i64 m.r.d3, .int .i64 m.r.d4, .int .i64 m.r.d5, .int .i64 m.r.d6, .bool m.r.kp] 39))
  have HW := Lib.hid (h'.push (.cells #[.int .i64 m.k, .int .i64 m.fr, .int .i64 m.to, .int .i64 m.bn, .int .i64 m.br, .int .i64 m.r.ir, .int .i64 m.r.is, .int .i64 m.r.st, .int .i64 m.r.pn, .int .i64 m.r.pr, .int .i64 m.r.bn, .int .i64 m.r.br, .int .i64 m.r.c.k, .int .i64 m.r.c.tc, .int .i64 m.r.c.tn, .int .i64 m.r.c.tt, .int .i64 m.r.c.tk, .int .i64 m.r.c.sh, (.slice A m.r.c.rs.length c1), (.slice A' m.r.c.ws.length c2), .bool m.r.c.cm, .int .i64 m.r.sq, .int .i64 m.r.d0, .int .i64 m.r.d1, .int .i64 m.r.d2, .int .i64 m.r.d3, .int .i64 m.r.d4, .int .i64 m.r.d5, .int .i64 m.r.d6, .bool m.r.kp] 39))
  have H0 := Lib.hid (Hold.new w [.int .i64 m.k, .int .i64 m.fr, .int .i64 m.to, .int .i64 m.bn, .int .i64 m.br, .int .i64 m.r.ir, .int .i64 m.r.is, .int .i64 m.r.st, .int .i64 m.r.pn, .int .i64 m.r.pr, .int .i64 m.r.bn, .int .i64 m.r.br, .int .i64 m.r.c.k, .int .i64 m.r.c.tc, .int .i64 m.r.c.tn, .int .i64 m.r.c.tt, .int .i64 m.r.c.tk, .int .i64 m.r.c.sh, (.slice A m.r.c.rs.length c1), (.slice A' m.r.c.ws.length c2), .bool m.r.c.cm, .int .i64 m.r.sq, .int .i64 m.r.d0, .int .i64 m.r.d1, .int .i64 m.r.d2, .int .i64 m.r.d3, .int .i64 m.r.d4, .int .i64 m.r.d5, .int .i64 m.r.d6, .bool m.r.kp] 39)
  have RG := Lib.hid (H0.out.cel.range (pre := [.int .i64 m.k, .int .i64 m.fr, .int .i64 m.to, .int .i64 m.bn, .int .i64 m.br, .int .i64 m.r.ir, .int .i64 m.r.is, .int .i64 m.r.st, .int .i64 m.r.pn, .int .i64 m.r.pr, .int .i64 m.r.bn, .int .i64 m.r.br]) (L := [.int .i64 m.r.c.k, .int .i64 m.r.c.tc, .int .i64 m.r.c.tn, .int .i64 m.r.c.tt, .int .i64 m.r.c.tk, .int .i64 m.r.c.sh, (.slice A m.r.c.rs.length c1), (.slice A' m.r.c.ws.length c2), .bool m.r.c.cm] ++ [.int .i64 m.r.sq, .int .i64 m.r.d0, .int .i64 m.r.d1, .int .i64 m.r.d2, .int .i64 m.r.d3, .int .i64 m.r.d4, .int .i64 m.r.d5, .int .i64 m.r.d6, .bool m.r.kp]) (o := 12) rfl)
  have RC := Lib.hid (show (w.alloc (.cells #[.int .i64 m.k, .int .i64 m.fr, .int .i64 m.to, .int .i64 m.bn, .int .i64 m.br, .int .i64 m.r.ir, .int .i64 m.r.is, .int .i64 m.r.st, .int .i64 m.r.pn, .int .i64 m.r.pr, .int .i64 m.r.bn, .int .i64 m.r.br, .int .i64 m.r.c.k, .int .i64 m.r.c.tc, .int .i64 m.r.c.tn, .int .i64 m.r.c.tt, .int .i64 m.r.c.tk, .int .i64 m.r.c.sh, (.slice A m.r.c.rs.length c1), (.slice A' m.r.c.ws.length c2), .bool m.r.c.cm, .int .i64 m.r.sq, .int .i64 m.r.d0, .int .i64 m.r.d1, .int .i64 m.r.d2, .int .i64 m.r.d3, .int .i64 m.r.d4, .int .i64 m.r.d5, .int .i64 m.r.d6, .bool m.r.kp] 39)).rangeAt w.heap.size 12 [.int .i64 m.r.c.k, .int .i64 m.r.c.tc, .int .i64 m.r.c.tn, .int .i64 m.r.c.tt, .int .i64 m.r.c.tk, .int .i64 m.r.c.sh, (.slice A m.r.c.rs.length c1), (.slice A' m.r.c.ws.length c2), .bool m.r.c.cm] from fun j v hj => RG.out j v (by rw [List.getElem?_append_left (List.getElem?_eq_some_iff.1 hj).1]; exact hj))
  have B0 := Lib.hid (below_new (o := .cells #[.int .i64 m.k, .int .i64 m.fr, .int .i64 m.to, .int .i64 m.bn, .int .i64 m.br, .int .i64 m.r.ir, .int .i64 m.r.is, .int .i64 m.r.st, .int .i64 m.r.pn, .int .i64 m.r.pr, .int .i64 m.r.bn, .int .i64 m.r.br, .int .i64 m.r.c.k, .int .i64 m.r.c.tc, .int .i64 m.r.c.tn, .int .i64 m.r.c.tt, .int .i64 m.r.c.tk, .int .i64 m.r.c.sh, (.slice A m.r.c.rs.length c1), (.slice A' m.r.c.ws.length c2), .bool m.r.c.cm, .int .i64 m.r.sq, .int .i64 m.r.d0, .int .i64 m.r.d1, .int .i64 m.r.d2, .int .i64 m.r.d3, .int .i64 m.r.d4, .int .i64 m.r.d5, .int .i64 m.r.d6, .bool m.r.kp] 39) (Below.refl w.heap.size w))
  clear h h' RG
  go_enter Try.func63, Try.ntmps63
  go_wp2_with
    (first
     | (with_reducible refine wpList_store_fresh rfl 39 _ _ rfl w.heap.size rfl 39 _ [.int .i64 m.k, .int .i64 m.fr, .int .i64 m.to, .int .i64 m.bn, .int .i64 m.br, .int .i64 m.r.ir, .int .i64 m.r.is, .int .i64 m.r.st, .int .i64 m.r.pn, .int .i64 m.r.pr, .int .i64 m.r.bn, .int .i64 m.r.br, .int .i64 m.r.c.k, .int .i64 m.r.c.tc, .int .i64 m.r.c.tn, .int .i64 m.r.c.tt, .int .i64 m.r.c.tk, .int .i64 m.r.c.sh, (.slice A m.r.c.rs.length c1), (.slice A' m.r.c.ws.length c2), .bool m.r.c.cm, .int .i64 m.r.sq, .int .i64 m.r.d0, .int .i64 m.r.d1, .int .i64 m.r.d2, .int .i64 m.r.d3, .int .i64 m.r.d4, .int .i64 m.r.d5, .int .i64 m.r.d6, .bool m.r.kp] rfl rfl rfl (by kernel_rfl) rfl ?_)
     | (with_reducible refine wpList_load_mid rfl 33 _ rfl w.heap.size 12 rfl _ _ RC.out Try.underlying33 rfl (by kernel_rfl) ?_)
     | (go_at_call 86
        refine (clone_any m.r.c HR.out HW.out hl hl').mono ?_
        rintro e w1 ⟨va, vb, rfl, o1, o2, hb⟩
        obtain ⟨A1, k1, rfl⟩ := ownsRow_slice o1
        obtain ⟨A2, k2, rfl⟩ := ownsRow_slice o2
        have H1 := H0.out.on hb
        have TH := Lib.hid (show w1.there w.heap.size 12 ([.int .i64 m.r.c.k, .int .i64 m.r.c.tc, .int .i64 m.r.c.tn, .int .i64 m.r.c.tt, .int .i64 m.r.c.tk, .int .i64 m.r.c.sh, (.slice A1 m.r.c.rs.length k1), (.slice A2 m.r.c.ws.length k2), .bool m.r.c.cm] : List Value).length from H1.there (o := 12) (n := 9) (by simp))
        have H2p := Hold.set [.int .i64 m.r.c.k, .int .i64 m.r.c.tc, .int .i64 m.r.c.tn, .int .i64 m.r.c.tt, .int .i64 m.r.c.tk, .int .i64 m.r.c.sh, (.slice A1 m.r.c.rs.length k1), (.slice A2 m.r.c.ws.length k2), .bool m.r.c.cm] [.int .i64 m.k, .int .i64 m.fr, .int .i64 m.to, .int .i64 m.bn, .int .i64 m.br, .int .i64 m.r.ir, .int .i64 m.r.is, .int .i64 m.r.st, .int .i64 m.r.pn, .int .i64 m.r.pr, .int .i64 m.r.bn, .int .i64 m.r.br] [.int .i64 m.r.c.k, .int .i64 m.r.c.tc, .int .i64 m.r.c.tn, .int .i64 m.r.c.tt, .int .i64 m.r.c.tk, .int .i64 m.r.c.sh, (.slice A m.r.c.rs.length c1), (.slice A' m.r.c.ws.length c2), .bool m.r.c.cm] [.int .i64 m.r.sq, .int .i64 m.r.d0, .int .i64 m.r.d1, .int .i64 m.r.d2, .int .i64 m.r.d3, .int .i64 m.r.d4, .int .i64 m.r.d5, .int .i64 m.r.d6, .bool m.r.kp] rfl w1 H1
        have H2 := Lib.hid (show Hold (w1.setCells w.heap.size 12 [.int .i64 m.r.c.k, .int .i64 m.r.c.tc, .int .i64 m.r.c.tn, .int .i64 m.r.c.tt, .int .i64 m.r.c.tk, .int .i64 m.r.c.sh, (.slice A1 m.r.c.rs.length k1), (.slice A2 m.r.c.ws.length k2), .bool m.r.c.cm]) w.heap.size 39 [.int .i64 m.k, .int .i64 m.fr, .int .i64 m.to, .int .i64 m.bn, .int .i64 m.br, .int .i64 m.r.ir, .int .i64 m.r.is, .int .i64 m.r.st, .int .i64 m.r.pn, .int .i64 m.r.pr, .int .i64 m.r.bn, .int .i64 m.r.br, .int .i64 m.r.c.k, .int .i64 m.r.c.tc, .int .i64 m.r.c.tn, .int .i64 m.r.c.tt, .int .i64 m.r.c.tk, .int .i64 m.r.c.sh, (.slice A1 m.r.c.rs.length k1), (.slice A2 m.r.c.ws.length k2), .bool m.r.c.cm, .int .i64 m.r.sq, .int .i64 m.r.d0, .int .i64 m.r.d1, .int .i64 m.r.d2, .int .i64 m.r.d3, .int .i64 m.r.d4, .int .i64 m.r.d5, .int .i64 m.r.d6, .bool m.r.kp] from H2p)
        have RW := Lib.hid (H2.out.cel.whole)
        have R2 := Lib.hid (ownsRow_baseN (base' := w.heap.size) (ownsRow_setCells (b := w.heap.size) o1 (by simp) [.int .i64 m.r.c.k, .int .i64 m.r.c.tc, .int .i64 m.r.c.tn, .int .i64 m.r.c.tt, .int .i64 m.r.c.tk, .int .i64 m.r.c.sh, (.slice A1 m.r.c.rs.length k1), (.slice A2 m.r.c.ws.length k2), .bool m.r.c.cm] 12) (by simp))
        have W2 := Lib.hid (ownsRow_baseN (base' := w.heap.size) (ownsRow_setCells (b := w.heap.size) o2 (by simp) [.int .i64 m.r.c.k, .int .i64 m.r.c.tc, .int .i64 m.r.c.tn, .int .i64 m.r.c.tt, .int .i64 m.r.c.tk, .int .i64 m.r.c.sh, (.slice A1 m.r.c.rs.length k1), (.slice A2 m.r.c.ws.length k2), .bool m.r.c.cm] 12) (by simp))
        have B2 := Lib.hid (below_setCells (Nat.le_refl _) [.int .i64 m.r.c.k, .int .i64 m.r.c.tc, .int .i64 m.r.c.tn, .int .i64 m.r.c.tt, .int .i64 m.r.c.tk, .int .i64 m.r.c.sh, (.slice A1 m.r.c.rs.length k1), (.slice A2 m.r.c.ws.length k2), .bool m.r.c.cm] 12 w w1 (below_on B0.out hb))
        clear o1 o2 hb H1 H2p)
     | (with_reducible refine store_list rfl 33 _ _ rfl w.heap.size 12 [.int .i64 m.r.c.k, .int .i64 m.r.c.tc, .int .i64 m.r.c.tn, .int .i64 m.r.c.tt, .int .i64 m.r.c.tk, .int .i64 m.r.c.sh, (.slice A1 m.r.c.rs.length k1), (.slice A2 m.r.c.ws.length k2), .bool m.r.c.cm] rfl rfl TH.out (by kernel_rfl) (by kernel_rfl) ?_)
     | (with_reducible refine wpList_load_mid rfl 39 _ rfl w.heap.size 0 rfl [.int .i64 m.k, .int .i64 m.fr, .int .i64 m.to, .int .i64 m.bn, .int .i64 m.br, .int .i64 m.r.ir, .int .i64 m.r.is, .int .i64 m.r.st, .int .i64 m.r.pn, .int .i64 m.r.pr, .int .i64 m.r.bn, .int .i64 m.r.br, .int .i64 m.r.c.k, .int .i64 m.r.c.tc, .int .i64 m.r.c.tn, .int .i64 m.r.c.tt, .int .i64 m.r.c.tk, .int .i64 m.r.c.sh, (.slice A1 m.r.c.rs.length k1), (.slice A2 m.r.c.ws.length k2), .bool m.r.c.cm, .int .i64 m.r.sq, .int .i64 m.r.d0, .int .i64 m.r.d1, .int .i64 m.r.d2, .int .i64 m.r.d3, .int .i64 m.r.d4, .int .i64 m.r.d5, .int .i64 m.r.d6, .bool m.r.kp] _ RW.out Try.underlying39 rfl (by kernel_rfl) ?_))
  go_ret
  exact ⟨_, _, rfl, R2.out, W2.out, B2.out⟩
end Go.Proofs.Ytagngbdlpdilnaa
