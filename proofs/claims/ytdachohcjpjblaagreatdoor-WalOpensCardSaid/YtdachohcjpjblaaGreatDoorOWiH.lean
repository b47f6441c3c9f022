/- Copies of records: contracts of apart, Record and MustRecord; no conditions but those that they name. -/
import Derived.Test.YtdachohcjpjblaaGreatDoorOWiF
import Derived.Deep.Upon
import Derived.Laws.ResultCell
import Derived.Defers
import Derived.Recover
import Derived.Laws.Pointers
set_option maxHeartbeats 8000000
set_option maxRecDepth 100000
open Go.Value renaming int → J
open Go.IntKind renaming i64 → U
open Go.Lib renaming hid → V
namespace Go.Proofs.YtdachohcjpjblaaGreatDoor.Wi
open Go.ChangeShapes Go.WideShapes Go.ChangeAt Go.RowKit
attribute [local go_sem ↓] ta_yes33 ta_nil33 ta_yes37 ta_nil37 ta_yes39 ta_nil39 ta_no33_3 ta_no33_37 ta_no33_39 ta_no37_3 ta_no37_33 ta_no37_39 ta_no39_3 ta_no39_33 ta_no39_37
def Hold (w : World) (b : Nat) (t : TypeId) (L : List Value) : Prop := w.heap[b]? = some (.cells L.toArray t (0, 0))
theorem Hold.new (w : World) (L : List Value) (t : TypeId) : Hold (w.alloc (.cells L.toArray t)) w.heap.size t L := heap_alloc_new w _
theorem Hold.on {w w' : World} {b : Nat} {t : TypeId} {L : List Value} (h : Hold w b t L) (k : Below w.heap.size w w') : Hold w' b t L := (k.block b (Array.getElem?_eq_some_iff.1 h).1).trans h
theorem Hold.cel {w : World} {b : Nat} {t : TypeId} {L : List Value} (h : Hold w b t L) : Cel w b L := by
 refine ⟨(Array.getElem?_eq_some_iff.1 h).1, fun j x hj => ?_⟩
 unfold Hold at h
 simp only [World.cell?, h, Option.isSome_none, Bool.false_eq_true, if_false]
 simpa using hj
theorem Hold.there {w : World} {b o n : Nat} {t : TypeId} {L : List Value} (h : Hold w b t L) (hl : o + n ≤ L.length) : w.there b o n := fun j hj => by
 have e : L[o + j]? = some (L[o + j]'(by omega)) := List.getElem?_eq_getElem (by omega)
 constructor
 ·rw [h.cel.get (o + j) _ e]; rfl
 ·unfold Hold at h
  unfold World.frozen?
  simp [h]
theorem Hold.set {b : Nat} {t : TypeId} : ∀ (L P Z S : List Value), Z.length = L.length → ∀ w : World, Hold w b t (P ++ Z ++ S) → Hold (w.setCells b P.length L) b t (P ++ L ++ S)
 | [], _, Z, _, h, _, hh => by
   have : Z = [] := List.length_eq_zero_iff.1 h
   subst this; exact hh
 | v :: r, P, [], S, h, _, _ => by simp at h
 | v :: r, P, z :: Z, S, h, w, hh => by
   rw [World.setCells]
   have h1 : Hold (w.setCell ⟨b, P.length, none⟩ v) b t ((P ++ [v]) ++ Z ++ S) := by
    unfold Hold at hh ⊢
    unfold World.setCell
    simp only [Option.isSome_none, Bool.false_eq_true, if_false]
    rw [Array.getElem?_modify, if_pos rfl, hh]
    simp
   have := Hold.set r (P ++ [v]) Z S (by simpa using h) _ h1
   rw [List.length_append] at this
   simp only [List.length_cons, List.length_nil, Nat.zero_add] at this
   simpa using this
theorem below_setCells {B b : Nat} (hb : B ≤ b) : ∀ (L : List Value) (o : Nat) (a w : World), Below B a w → Below B a (w.setCells b o L)
 | [], _, _, _, h => h
 | v :: r, o, a, _, h => below_setCells hb r (o + 1) a _ (h.setCell hb v)
theorem ownsRow_setCells {w : World} {base b : Nat} {t : TypeId} {k : Nat} {v : Value} {n : Nat} {xs : List Value} (h : w.ownsRow base t k v n xs) (hb : b < base) (L : List Value) (o : Nat) : (w.setCells b o L).ownsRow base t k v n xs := by
 refine ⟨h.1, ?_⟩
 rcases h.2 with h0 | ⟨g, cap, cur, hv, hg, hblk, r⟩
 ·exact .inl h0
 ·exact .inr ⟨g, cap, cur, hv, hg, (World.heap_setCells_other w b o L (Array.getElem?_eq_some_iff.1 hblk).1 (by omega)).trans hblk, r⟩
theorem store_list {P : Program} {ops : Array Oper} {rest : List Oper} {op : Oper} {a : Act} {w : World} {Q : Exit → Act → World → Prop} (hgd : op.guard = none) (ty : TypeId) (x y : Operand) (ho : op.op = .store ty x y)
 (b o : Nat) (L : List Value) (hx : a.eval x = .pointer (some ⟨b, o, none⟩)) (hy : a.eval y = .agg L.toArray)
 (ht : w.there b o L.length) (hi : (P.info? ty).map (·.size) = some L.length) (h1 : L.all (·.oneCell') = true)
 (h : wpList P ops Q rest (a.put op.dst undef) (w.setCells b o L)) : wpList P ops Q (op :: rest) a w :=
 wpList_store_mid hgd ty x y ho b o L.toArray hx hy ht hi (by simpa using h1) h
def AptC (c : M.Cmd) (w : World) (e : Ending) (w' : World) : Prop := ∃ va vb, e = .returned (.iface 63 (.agg #[J U c.k,J U c.tc,J U c.tn,J U c.tt,J U c.tk,J U c.sh, va, vb,.bool c.cm])) ∧ w'.ownsRow w.heap.size 113 3 va c.rs.length (rdsC c.rs) ∧ w'.ownsRow w.heap.size 115 2 vb c.ws.length (wrsC c.ws) ∧ Below w.heap.size w w'
def AptR (r : M.Rec) (w : World) (e : Ending) (w' : World) : Prop := ∃ va vb, e = .returned (.iface 67 (.agg #[J U r.ir,J U r.is,J U r.st,J U r.pn,J U r.pr,J U r.bn,J U r.br,J U r.c.k,J U r.c.tc,J U r.c.tn,J U r.c.tt,J U r.c.tk,J U r.c.sh, va, vb,.bool r.c.cm,J U r.sq,J U r.d0,J U r.d1,J U r.d2,J U r.d3,J U r.d4,J U r.d5,J U r.d6,.bool r.kp])) ∧ w'.ownsRow w.heap.size 113 3 va r.c.rs.length (rdsC r.c.rs) ∧ w'.ownsRow w.heap.size 115 2 vb r.c.ws.length (wrsC r.c.ws) ∧ Below w.heap.size w w'
def AptM (m : M.Msg) (w : World) (e : Ending) (w' : World) : Prop := ∃ va vb, e = .returned (.iface 95 (.agg #[J U m.k,J U m.fr,J U m.to,J U m.bn,J U m.br,J U m.r.ir,J U m.r.is,J U m.r.st,J U m.r.pn,J U m.r.pr,J U m.r.bn,J U m.r.br,J U m.r.c.k,J U m.r.c.tc,J U m.r.c.tn,J U m.r.c.tt,J U m.r.c.tk,J U m.r.c.sh, va, vb,.bool m.r.c.cm,J U m.r.sq,J U m.r.d0,J U m.r.d1,J U m.r.d2,J U m.r.d3,J U m.r.d4,J U m.r.d5,J U m.r.d6,.bool m.r.kp])) ∧ w'.ownsRow w.heap.size 113 3 va m.r.c.rs.length (rdsC m.r.c.rs) ∧ w'.ownsRow w.heap.size 115 2 vb m.r.c.ws.length (wrsC m.r.c.ws) ∧ Below w.heap.size w w'
theorem apart_nil (w : World) : Calls Tryz.prog 71 #[.nilIface] w fun e w' => e = .returned .nilIface ∧ w = w' := by
 go_enter Tryz.func71, Tryz.ntmps71
 go_wp2
 go_ret
 exact ⟨rfl, rfl⟩
theorem apart_cmd {w : World} (c : M.Cmd) {va vb : Value} (h : Rds w va c.rs) (h' : Wrs w vb c.ws) (hl : c.rs.length ≤ 1000) (hl' : c.ws.length ≤ 1000) : Calls Tryz.prog 71 #[.iface 63 (.agg #[J U c.k,J U c.tc,J U c.tn,J U c.tt,J U c.tk,J U c.sh, va, vb,.bool c.cm])] w (AptC c w) := by
 obtain ⟨A, c1, rfl, -, -⟩ := h.opened
 obtain ⟨A', c2, rfl, -, -⟩ := h'.opened
 have HR := V (h.push (.cells #[J U c.k,J U c.tc,J U c.tn,J U c.tt,J U c.tk,J U c.sh, (.slice A c.rs.length c1), (.slice A' c.ws.length c2),.bool c.cm] 63))
 have HW := V (h'.push (.cells #[J U c.k,J U c.tc,J U c.tn,J U c.tt,J U c.tk,J U c.sh, (.slice A c.rs.length c1), (.slice A' c.ws.length c2),.bool c.cm] 63))
 have B0 := V (below_new (o := .cells #[J U c.k,J U c.tc,J U c.tn,J U c.tt,J U c.tk,J U c.sh, (.slice A c.rs.length c1), (.slice A' c.ws.length c2),.bool c.cm] 63) (Below.refl w.heap.size w))
 clear h h'
 go_enter Tryz.func71, Tryz.ntmps71
 go_wp2_with (fail)
 refine (clone_any c HR.out HW.out hl hl').mono ?_
 rintro e w1 ⟨va, vb, rfl, o1, o2, hb⟩
 have R1 := V (ownsRow_baseN (base' := w.heap.size) o1 (by simp))
 have W1 := V (ownsRow_baseN (base' := w.heap.size) o2 (by simp))
 have B1 := V (below_on B0.out hb)
 clear o1 o2 hb
 go_wp2
 go_ret
 exact ⟨_, _, rfl, R1.out, W1.out, B1.out⟩
theorem apart_rec {w : World} (r : M.Rec) {va vb : Value} (h : Rds w va r.c.rs) (h' : Wrs w vb r.c.ws) (hl : r.c.rs.length ≤ 1000) (hl' : r.c.ws.length ≤ 1000) : Calls Tryz.prog 71 #[.iface 67 (.agg #[J U r.ir,J U r.is,J U r.st,J U r.pn,J U r.pr,J U r.bn,J U r.br,J U r.c.k,J U r.c.tc,J U r.c.tn,J U r.c.tt,J U r.c.tk,J U r.c.sh, va, vb,.bool r.c.cm,J U r.sq,J U r.d0,J U r.d1,J U r.d2,J U r.d3,J U r.d4,J U r.d5,J U r.d6,.bool r.kp])] w (AptR r w) := by
 obtain ⟨A, c1, rfl, -, -⟩ := h.opened
 obtain ⟨A', c2, rfl, -, -⟩ := h'.opened
 have HR := V (h.push (.cells #[J U r.ir,J U r.is,J U r.st,J U r.pn,J U r.pr,J U r.bn,J U r.br,J U r.c.k,J U r.c.tc,J U r.c.tn,J U r.c.tt,J U r.c.tk,J U r.c.sh, (.slice A r.c.rs.length c1), (.slice A' r.c.ws.length c2),.bool r.c.cm,J U r.sq,J U r.d0,J U r.d1,J U r.d2,J U r.d3,J U r.d4,J U r.d5,J U r.d6,.bool r.kp] 67))
 have HW := V (h'.push (.cells #[J U r.ir,J U r.is,J U r.st,J U r.pn,J U r.pr,J U r.bn,J U r.br,J U r.c.k,J U r.c.tc,J U r.c.tn,J U r.c.tt,J U r.c.tk,J U r.c.sh, (.slice A r.c.rs.length c1), (.slice A' r.c.ws.length c2),.bool r.c.cm,J U r.sq,J U r.d0,J U r.d1,J U r.d2,J U r.d3,J U r.d4,J U r.d5,J U r.d6,.bool r.kp] 67))
 have H0 := V (Hold.new w [J U r.ir,J U r.is,J U r.st,J U r.pn,J U r.pr,J U r.bn,J U r.br,J U r.c.k,J U r.c.tc,J U r.c.tn,J U r.c.tt,J U r.c.tk,J U r.c.sh, (.slice A r.c.rs.length c1), (.slice A' r.c.ws.length c2),.bool r.c.cm,J U r.sq,J U r.d0,J U r.d1,J U r.d2,J U r.d3,J U r.d4,J U r.d5,J U r.d6,.bool r.kp] 67)
 have RG := V (H0.out.cel.range (pre := [J U r.ir,J U r.is,J U r.st,J U r.pn,J U r.pr,J U r.bn,J U r.br]) (L := [J U r.c.k,J U r.c.tc,J U r.c.tn,J U r.c.tt,J U r.c.tk,J U r.c.sh, (.slice A r.c.rs.length c1), (.slice A' r.c.ws.length c2),.bool r.c.cm] ++ [J U r.sq,J U r.d0,J U r.d1,J U r.d2,J U r.d3,J U r.d4,J U r.d5,J U r.d6,.bool r.kp]) (o := 7) rfl)
 have RC := V (show (w.alloc (.cells #[J U r.ir,J U r.is,J U r.st,J U r.pn,J U r.pr,J U r.bn,J U r.br,J U r.c.k,J U r.c.tc,J U r.c.tn,J U r.c.tt,J U r.c.tk,J U r.c.sh, (.slice A r.c.rs.length c1), (.slice A' r.c.ws.length c2),.bool r.c.cm,J U r.sq,J U r.d0,J U r.d1,J U r.d2,J U r.d3,J U r.d4,J U r.d5,J U r.d6,.bool r.kp] 67)).rangeAt w.heap.size 7 [J U r.c.k,J U r.c.tc,J U r.c.tn,J U r.c.tt,J U r.c.tk,J U r.c.sh, (.slice A r.c.rs.length c1), (.slice A' r.c.ws.length c2),.bool r.c.cm] from fun j v hj => RG.out j v (by rw [List.getElem?_append_left (List.getElem?_eq_some_iff.1 hj).1]; exact hj))
 have B0 := V (below_new (o := .cells #[J U r.ir,J U r.is,J U r.st,J U r.pn,J U r.pr,J U r.bn,J U r.br,J U r.c.k,J U r.c.tc,J U r.c.tn,J U r.c.tt,J U r.c.tk,J U r.c.sh, (.slice A r.c.rs.length c1), (.slice A' r.c.ws.length c2),.bool r.c.cm,J U r.sq,J U r.d0,J U r.d1,J U r.d2,J U r.d3,J U r.d4,J U r.d5,J U r.d6,.bool r.kp] 67) (Below.refl w.heap.size w))
 clear h h' RG
 go_enter Tryz.func71, Tryz.ntmps71
 go_wp2_with
  (first
   | (with_reducible refine wpList_store_fresh rfl 67 _ _ rfl w.heap.size rfl 67 _ [J U r.ir,J U r.is,J U r.st,J U r.pn,J U r.pr,J U r.bn,J U r.br,J U r.c.k,J U r.c.tc,J U r.c.tn,J U r.c.tt,J U r.c.tk,J U r.c.sh, (.slice A r.c.rs.length c1), (.slice A' r.c.ws.length c2),.bool r.c.cm,J U r.sq,J U r.d0,J U r.d1,J U r.d2,J U r.d3,J U r.d4,J U r.d5,J U r.d6,.bool r.kp] rfl rfl rfl (by kernel_rfl) rfl ?_)
   | (with_reducible refine wpList_load_mid rfl 63 _ rfl w.heap.size 7 rfl _ _ RC.out Tryz.underlying63 rfl (by kernel_rfl) ?_)
   | (go_at_call 100
      refine (clone_any r.c HR.out HW.out hl hl').mono ?_
      rintro e w1 ⟨va, vb, rfl, o1, o2, hb⟩
      obtain ⟨A1, k1, rfl⟩ := ownsRow_slice o1
      obtain ⟨A2, k2, rfl⟩ := ownsRow_slice o2
      have H1 := H0.out.on hb
      have TH := V (show w1.there w.heap.size 7 ([J U r.c.k,J U r.c.tc,J U r.c.tn,J U r.c.tt,J U r.c.tk,J U r.c.sh, (.slice A1 r.c.rs.length k1), (.slice A2 r.c.ws.length k2),.bool r.c.cm] : List Value).length from H1.there (o := 7) (n := 9) (by simp))
      have H2p := Hold.set [J U r.c.k,J U r.c.tc,J U r.c.tn,J U r.c.tt,J U r.c.tk,J U r.c.sh, (.slice A1 r.c.rs.length k1), (.slice A2 r.c.ws.length k2),.bool r.c.cm] [J U r.ir,J U r.is,J U r.st,J U r.pn,J U r.pr,J U r.bn,J U r.br] [J U r.c.k,J U r.c.tc,J U r.c.tn,J U r.c.tt,J U r.c.tk,J U r.c.sh, (.slice A r.c.rs.length c1), (.slice A' r.c.ws.length c2),.bool r.c.cm] [J U r.sq,J U r.d0,J U r.d1,J U r.d2,J U r.d3,J U r.d4,J U r.d5,J U r.d6,.bool r.kp] rfl w1 H1
      have H2 := V (show Hold (w1.setCells w.heap.size 7 [J U r.c.k,J U r.c.tc,J U r.c.tn,J U r.c.tt,J U r.c.tk,J U r.c.sh, (.slice A1 r.c.rs.length k1), (.slice A2 r.c.ws.length k2),.bool r.c.cm]) w.heap.size 67 [J U r.ir,J U r.is,J U r.st,J U r.pn,J U r.pr,J U r.bn,J U r.br,J U r.c.k,J U r.c.tc,J U r.c.tn,J U r.c.tt,J U r.c.tk,J U r.c.sh, (.slice A1 r.c.rs.length k1), (.slice A2 r.c.ws.length k2),.bool r.c.cm,J U r.sq,J U r.d0,J U r.d1,J U r.d2,J U r.d3,J U r.d4,J U r.d5,J U r.d6,.bool r.kp] from H2p)
      have RW := V (H2.out.cel.whole)
      have R2 := V (ownsRow_baseN (base' := w.heap.size) (ownsRow_setCells (b := w.heap.size) o1 (by simp) [J U r.c.k,J U r.c.tc,J U r.c.tn,J U r.c.tt,J U r.c.tk,J U r.c.sh, (.slice A1 r.c.rs.length k1), (.slice A2 r.c.ws.length k2),.bool r.c.cm] 7) (by simp))
      have W2 := V (ownsRow_baseN (base' := w.heap.size) (ownsRow_setCells (b := w.heap.size) o2 (by simp) [J U r.c.k,J U r.c.tc,J U r.c.tn,J U r.c.tt,J U r.c.tk,J U r.c.sh, (.slice A1 r.c.rs.length k1), (.slice A2 r.c.ws.length k2),.bool r.c.cm] 7) (by simp))
      have B2 := V (below_setCells (Nat.le_refl _) [J U r.c.k,J U r.c.tc,J U r.c.tn,J U r.c.tt,J U r.c.tk,J U r.c.sh, (.slice A1 r.c.rs.length k1), (.slice A2 r.c.ws.length k2),.bool r.c.cm] 7 w w1 (below_on B0.out hb))
      clear o1 o2 hb H1 H2p)
   | (with_reducible refine store_list rfl 63 _ _ rfl w.heap.size 7 [J U r.c.k,J U r.c.tc,J U r.c.tn,J U r.c.tt,J U r.c.tk,J U r.c.sh, (.slice A1 r.c.rs.length k1), (.slice A2 r.c.ws.length k2),.bool r.c.cm] rfl rfl TH.out (by kernel_rfl) (by kernel_rfl) ?_)
   | (with_reducible refine wpList_load_mid rfl 67 _ rfl w.heap.size 0 rfl [J U r.ir,J U r.is,J U r.st,J U r.pn,J U r.pr,J U r.bn,J U r.br,J U r.c.k,J U r.c.tc,J U r.c.tn,J U r.c.tt,J U r.c.tk,J U r.c.sh, (.slice A1 r.c.rs.length k1), (.slice A2 r.c.ws.length k2),.bool r.c.cm,J U r.sq,J U r.d0,J U r.d1,J U r.d2,J U r.d3,J U r.d4,J U r.d5,J U r.d6,.bool r.kp] _ RW.out Tryz.underlying67 rfl (by kernel_rfl) ?_))
 go_ret
 exact ⟨_, _, rfl, R2.out, W2.out, B2.out⟩
theorem apart_msg {w : World} (m : M.Msg) {va vb : Value} (h : Rds w va m.r.c.rs) (h' : Wrs w vb m.r.c.ws) (hl : m.r.c.rs.length ≤ 1000) (hl' : m.r.c.ws.length ≤ 1000) : Calls Tryz.prog 71 #[.iface 95 (.agg #[J U m.k,J U m.fr,J U m.to,J U m.bn,J U m.br,J U m.r.ir,J U m.r.is,J U m.r.st,J U m.r.pn,J U m.r.pr,J U m.r.bn,J U m.r.br,J U m.r.c.k,J U m.r.c.tc,J U m.r.c.tn,J U m.r.c.tt,J U m.r.c.tk,J U m.r.c.sh, va, vb,.bool m.r.c.cm,J U m.r.sq,J U m.r.d0,J U m.r.d1,J U m.r.d2,J U m.r.d3,J U m.r.d4,J U m.r.d5,J U m.r.d6,.bool m.r.kp])] w (AptM m w) := by
 obtain ⟨A, c1, rfl, -, -⟩ := h.opened
 obtain ⟨A', c2, rfl, -, -⟩ := h'.opened
 have HR := V (h.push (.cells #[J U m.k,J U m.fr,J U m.to,J U m.bn,J U m.br,J U m.r.ir,J U m.r.is,J U m.r.st,J U m.r.pn,J U m.r.pr,J U m.r.bn,J U m.r.br,J U m.r.c.k,J U m.r.c.tc,J U m.r.c.tn,J U m.r.c.tt,J U m.r.c.tk,J U m.r.c.sh, (.slice A m.r.c.rs.length c1), (.slice A' m.r.c.ws.length c2),.bool m.r.c.cm,J U m.r.sq,J U m.r.d0,J U m.r.d1,J U m.r.d2,J U m.r.d3,J U m.r.d4,J U m.r.d5,J U m.r.d6,.bool m.r.kp] 95))
 have HW := V (h'.push (.cells #[J U m.k,J U m.fr,J U m.to,J U m.bn,J U m.br,J U m.r.ir,J U m.r.is,J U m.r.st,J U m.r.pn,J U m.r.pr,J U m.r.bn,J U m.r.br,J U m.r.c.k,J U m.r.c.tc,J U m.r.c.tn,J U m.r.c.tt,J U m.r.c.tk,J U m.r.c.sh, (.slice A m.r.c.rs.length c1), (.slice A' m.r.c.ws.length c2),.bool m.r.c.cm,J U m.r.sq,J U m.r.d0,J U m.r.d1,J U m.r.d2,J U m.r.d3,J U m.r.d4,J U m.r.d5,J U m.r.d6,.bool m.r.kp] 95))
 have H0 := V (Hold.new w [J U m.k,J U m.fr,J U m.to,J U m.bn,J U m.br,J U m.r.ir,J U m.r.is,J U m.r.st,J U m.r.pn,J U m.r.pr,J U m.r.bn,J U m.r.br,J U m.r.c.k,J U m.r.c.tc,J U m.r.c.tn,J U m.r.c.tt,J U m.r.c.tk,J U m.r.c.sh, (.slice A m.r.c.rs.length c1), (.slice A' m.r.c.ws.length c2),.bool m.r.c.cm,J U m.r.sq,J U m.r.d0,J U m.r.d1,J U m.r.d2,J U m.r.d3,J U m.r.d4,J U m.r.d5,J U m.r.d6,.bool m.r.kp] 95)
 have RG := V (H0.out.cel.range (pre := [J U m.k,J U m.fr,J U m.to,J U m.bn,J U m.br,J U m.r.ir,J U m.r.is,J U m.r.st,J U m.r.pn,J U m.r.pr,J U m.r.bn,J U m.r.br]) (L := [J U m.r.c.k,J U m.r.c.tc,J U m.r.c.tn,J U m.r.c.tt,J U m.r.c.tk,J U m.r.c.sh, (.slice A m.r.c.rs.length c1), (.slice A' m.r.c.ws.length c2),.bool m.r.c.cm] ++ [J U m.r.sq,J U m.r.d0,J U m.r.d1,J U m.r.d2,J U m.r.d3,J U m.r.d4,J U m.r.d5,J U m.r.d6,.bool m.r.kp]) (o := 12) rfl)
 have RC := V (show (w.alloc (.cells #[J U m.k,J U m.fr,J U m.to,J U m.bn,J U m.br,J U m.r.ir,J U m.r.is,J U m.r.st,J U m.r.pn,J U m.r.pr,J U m.r.bn,J U m.r.br,J U m.r.c.k,J U m.r.c.tc,J U m.r.c.tn,J U m.r.c.tt,J U m.r.c.tk,J U m.r.c.sh, (.slice A m.r.c.rs.length c1), (.slice A' m.r.c.ws.length c2),.bool m.r.c.cm,J U m.r.sq,J U m.r.d0,J U m.r.d1,J U m.r.d2,J U m.r.d3,J U m.r.d4,J U m.r.d5,J U m.r.d6,.bool m.r.kp] 95)).rangeAt w.heap.size 12 [J U m.r.c.k,J U m.r.c.tc,J U m.r.c.tn,J U m.r.c.tt,J U m.r.c.tk,J U m.r.c.sh, (.slice A m.r.c.rs.length c1), (.slice A' m.r.c.ws.length c2),.bool m.r.c.cm] from fun j v hj => RG.out j v (by rw [List.getElem?_append_left (List.getElem?_eq_some_iff.1 hj).1]; exact hj))
 have B0 := V (below_new (o := .cells #[J U m.k,J U m.fr,J U m.to,J U m.bn,J U m.br,J U m.r.ir,J U m.r.is,J U m.r.st,J U m.r.pn,J U m.r.pr,J U m.r.bn,J U m.r.br,J U m.r.c.k,J U m.r.c.tc,J U m.r.c.tn,J U m.r.c.tt,J U m.r.c.tk,J U m.r.c.sh, (.slice A m.r.c.rs.length c1), (.slice A' m.r.c.ws.length c2),.bool m.r.c.cm,J U m.r.sq,J U m.r.d0,J U m.r.d1,J U m.r.d2,J U m.r.d3,J U m.r.d4,J U m.r.d5,J U m.r.d6,.bool m.r.kp] 95) (Below.refl w.heap.size w))
 clear h h' RG
 go_enter Tryz.func71, Tryz.ntmps71
 go_wp2_with
  (first
   | (with_reducible refine wpList_store_fresh rfl 95 _ _ rfl w.heap.size rfl 95 _ [J U m.k,J U m.fr,J U m.to,J U m.bn,J U m.br,J U m.r.ir,J U m.r.is,J U m.r.st,J U m.r.pn,J U m.r.pr,J U m.r.bn,J U m.r.br,J U m.r.c.k,J U m.r.c.tc,J U m.r.c.tn,J U m.r.c.tt,J U m.r.c.tk,J U m.r.c.sh, (.slice A m.r.c.rs.length c1), (.slice A' m.r.c.ws.length c2),.bool m.r.c.cm,J U m.r.sq,J U m.r.d0,J U m.r.d1,J U m.r.d2,J U m.r.d3,J U m.r.d4,J U m.r.d5,J U m.r.d6,.bool m.r.kp] rfl rfl rfl (by kernel_rfl) rfl ?_)
   | (with_reducible refine wpList_load_mid rfl 63 _ rfl w.heap.size 12 rfl _ _ RC.out Tryz.underlying63 rfl (by kernel_rfl) ?_)
   | (go_at_call 100
      refine (clone_any m.r.c HR.out HW.out hl hl').mono ?_
      rintro e w1 ⟨va, vb, rfl, o1, o2, hb⟩
      obtain ⟨A1, k1, rfl⟩ := ownsRow_slice o1
      obtain ⟨A2, k2, rfl⟩ := ownsRow_slice o2
      have H1 := H0.out.on hb
      have TH := V (show w1.there w.heap.size 12 ([J U m.r.c.k,J U m.r.c.tc,J U m.r.c.tn,J U m.r.c.tt,J U m.r.c.tk,J U m.r.c.sh, (.slice A1 m.r.c.rs.length k1), (.slice A2 m.r.c.ws.length k2),.bool m.r.c.cm] : List Value).length from H1.there (o := 12) (n := 9) (by simp))
      have H2p := Hold.set [J U m.r.c.k,J U m.r.c.tc,J U m.r.c.tn,J U m.r.c.tt,J U m.r.c.tk,J U m.r.c.sh, (.slice A1 m.r.c.rs.length k1), (.slice A2 m.r.c.ws.length k2),.bool m.r.c.cm] [J U m.k,J U m.fr,J U m.to,J U m.bn,J U m.br,J U m.r.ir,J U m.r.is,J U m.r.st,J U m.r.pn,J U m.r.pr,J U m.r.bn,J U m.r.br] [J U m.r.c.k,J U m.r.c.tc,J U m.r.c.tn,J U m.r.c.tt,J U m.r.c.tk,J U m.r.c.sh, (.slice A m.r.c.rs.length c1), (.slice A' m.r.c.ws.length c2),.bool m.r.c.cm] [J U m.r.sq,J U m.r.d0,J U m.r.d1,J U m.r.d2,J U m.r.d3,J U m.r.d4,J U m.r.d5,J U m.r.d6,.bool m.r.kp] rfl w1 H1
      have H2 := V (show Hold (w1.setCells w.heap.size 12 [J U m.r.c.k,J U m.r.c.tc,J U m.r.c.tn,J U m.r.c.tt,J U m.r.c.tk,J U m.r.c.sh, (.slice A1 m.r.c.rs.length k1), (.slice A2 m.r.c.ws.length k2),.bool m.r.c.cm]) w.heap.size 95 [J U m.k,J U m.fr,J U m.to,J U m.bn,J U m.br,J U m.r.ir,J U m.r.is,J U m.r.st,J U m.r.pn,J U m.r.pr,J U m.r.bn,J U m.r.br,J U m.r.c.k,J U m.r.c.tc,J U m.r.c.tn,J U m.r.c.tt,J U m.r.c.tk,J U m.r.c.sh, (.slice A1 m.r.c.rs.length k1), (.slice A2 m.r.c.ws.length k2),.bool m.r.c.cm,J U m.r.sq,J U m.r.d0,J U m.r.d1,J U m.r.d2,J U m.r.d3,J U m.r.d4,J U m.r.d5,J U m.r.d6,.bool m.r.kp] from H2p)
      have RW := V (H2.out.cel.whole)
      have R2 := V (ownsRow_baseN (base' := w.heap.size) (ownsRow_setCells (b := w.heap.size) o1 (by simp) [J U m.r.c.k,J U m.r.c.tc,J U m.r.c.tn,J U m.r.c.tt,J U m.r.c.tk,J U m.r.c.sh, (.slice A1 m.r.c.rs.length k1), (.slice A2 m.r.c.ws.length k2),.bool m.r.c.cm] 12) (by simp))
      have W2 := V (ownsRow_baseN (base' := w.heap.size) (ownsRow_setCells (b := w.heap.size) o2 (by simp) [J U m.r.c.k,J U m.r.c.tc,J U m.r.c.tn,J U m.r.c.tt,J U m.r.c.tk,J U m.r.c.sh, (.slice A1 m.r.c.rs.length k1), (.slice A2 m.r.c.ws.length k2),.bool m.r.c.cm] 12) (by simp))
      have B2 := V (below_setCells (Nat.le_refl _) [J U m.r.c.k,J U m.r.c.tc,J U m.r.c.tn,J U m.r.c.tt,J U m.r.c.tk,J U m.r.c.sh, (.slice A1 m.r.c.rs.length k1), (.slice A2 m.r.c.ws.length k2),.bool m.r.c.cm] 12 w w1 (below_on B0.out hb))
      clear o1 o2 hb H1 H2p)
   | (with_reducible refine store_list rfl 63 _ _ rfl w.heap.size 12 [J U m.r.c.k,J U m.r.c.tc,J U m.r.c.tn,J U m.r.c.tt,J U m.r.c.tk,J U m.r.c.sh, (.slice A1 m.r.c.rs.length k1), (.slice A2 m.r.c.ws.length k2),.bool m.r.c.cm] rfl rfl TH.out (by kernel_rfl) (by kernel_rfl) ?_)
   | (with_reducible refine wpList_load_mid rfl 95 _ rfl w.heap.size 0 rfl [J U m.k,J U m.fr,J U m.to,J U m.bn,J U m.br,J U m.r.ir,J U m.r.is,J U m.r.st,J U m.r.pn,J U m.r.pr,J U m.r.bn,J U m.r.br,J U m.r.c.k,J U m.r.c.tc,J U m.r.c.tn,J U m.r.c.tt,J U m.r.c.tk,J U m.r.c.sh, (.slice A1 m.r.c.rs.length k1), (.slice A2 m.r.c.ws.length k2),.bool m.r.c.cm,J U m.r.sq,J U m.r.d0,J U m.r.d1,J U m.r.d2,J U m.r.d3,J U m.r.d4,J U m.r.d5,J U m.r.d6,.bool m.r.kp] _ RW.out Tryz.underlying95 rfl (by kernel_rfl) ?_))
 go_ret
 exact ⟨_, _, rfl, R2.out, W2.out, B2.out⟩
open Go.ChangeShapes Go.WideShapes Go.ChangeAt Go.RowKit
attribute [local go_sem ↓] ta_yes33 ta_nil33 ta_yes37 ta_nil37 ta_yes39 ta_nil39 ta_no33_3 ta_no33_37 ta_no33_39 ta_no37_3 ta_no37_33 ta_no37_39 ta_no39_3 ta_no39_33 ta_no39_37
theorem results28 {tmps : Array Value} {w : World} {b : Nat} {L : List Value} {x : Value} (hp : tmps.getD 2 undef = .pointer (some ⟨b, 0, none⟩)) (hx : tmps.getD 3 undef = x) (hr : w.rangeAt b 0 L) (hi : (Tryz.prog.info? 67).map (·.size) = some L.length) :
 (results Tryz.f104 tmps).run Tryz.prog w = .ok (.tuple #[.agg L.toArray, x]) w := by
 rw [results_cell_tmp rfl, hp, hx]
 simp [asAddr, run_loadVar_mid w b 0 67 L _ hr Tryz.underlying67 rfl hi, Result.andThen]
theorem results30 {tmps : Array Value} {w : World} {b : Nat} {L : List Value} (hp : tmps.getD 2 undef = .pointer (some ⟨b, 0, none⟩)) (hr : w.rangeAt b 0 L) (hi : (Tryz.prog.info? 67).map (·.size) = some L.length) :
 (results Tryz.f48 tmps).run Tryz.prog w = .ok (.agg L.toArray) w := by
 have hp' : tmps[2]?.getD undef = .pointer (some ⟨b, 0, none⟩) := by simpa using hp
 simp [results, hp', asAddr, run_loadVar_mid w b 0 67 L _ hr Tryz.underlying67 rfl hi]
theorem ownsRow_pushN {w : World} {base : Nat} {t : TypeId} {k : Nat} {v : Value} {n : Nat} {xs : List Value} (h : w.ownsRow base t k v n xs) (o : Obj) : (w.alloc o).ownsRow base t k v n xs := by
 refine ⟨h.1, ?_⟩
 rcases h.2 with h0 | ⟨g, cap, cur, hv, hg, hblk, r⟩
 ·exact .inl h0
 ·exact .inr ⟨g, cap, cur, hv, hg, (heap_alloc_old w o (Array.getElem?_eq_some_iff.1 hblk).1).trans hblk, r⟩
def OwnR (B : Nat) (w : World) (v : Value) (l : List (List UInt8 × Int × Int)) : Prop := ∃ B', B ≤ B' ∧ w.ownsRow B' 113 3 v l.length (rdsC l)
def OwnW (B : Nat) (w : World) (v : Value) (l : List (List UInt8 × List UInt8)) : Prop := ∃ B', B ≤ B' ∧ w.ownsRow B' 115 2 v l.length (wrsC l)
theorem ownR_mk {B B' : Nat} {w : World} {v : Value} {l : List (List UInt8 × Int × Int)} (h : w.ownsRow B' 113 3 v l.length (rdsC l)) (hb : B ≤ B') : OwnR B w v l := ⟨B', hb, h⟩
theorem ownW_mk {B B' : Nat} {w : World} {v : Value} {l : List (List UInt8 × List UInt8)} (h : w.ownsRow B' 115 2 v l.length (wrsC l)) (hb : B ≤ B') : OwnW B w v l := ⟨B', hb, h⟩
def RecdR (r : M.Rec) (w : World) (e : Ending) (w' : World) : Prop := ∃ va vb, e = .returned (.tuple #[.agg #[J U r.ir,J U r.is,J U r.st,J U r.pn,J U r.pr,J U r.bn,J U r.br,J U r.c.k,J U r.c.tc,J U r.c.tn,J U r.c.tt,J U r.c.tk,J U r.c.sh, va, vb,.bool r.c.cm,J U r.sq,J U r.d0,J U r.d1,J U r.d2,J U r.d3,J U r.d4,J U r.d5,J U r.d6,.bool r.kp],.bool true]) ∧ OwnR w.heap.size w' va r.c.rs ∧ OwnW w.heap.size w' vb r.c.ws ∧ Below w.heap.size w w'
def RecdN (w : World) (e : Ending) (w' : World) : Prop := e = .returned (.tuple #[.agg #[J U 0,J U 0,J U 0,J U 0,J U 0,J U 0,J U 0,J U 0,J U 0,J U 0,J U 0,J U 0,J U 0,.slice none 0 0,.slice none 0 0,.bool false,J U 0,J U 0,J U 0,J U 0,J U 0,J U 0,J U 0,J U 0,.bool false],.bool false]) ∧ Below w.heap.size w w'
def MustR (r : M.Rec) (w : World) (e : Ending) (w' : World) : Prop := ∃ va vb, e = .returned (.agg #[J U r.ir,J U r.is,J U r.st,J U r.pn,J U r.pr,J U r.bn,J U r.br,J U r.c.k,J U r.c.tc,J U r.c.tn,J U r.c.tt,J U r.c.tk,J U r.c.sh, va, vb,.bool r.c.cm,J U r.sq,J U r.d0,J U r.d1,J U r.d2,J U r.d3,J U r.d4,J U r.d5,J U r.d6,.bool r.kp]) ∧ OwnR w.heap.size w' va r.c.rs ∧ OwnW w.heap.size w' vb r.c.ws ∧ Below w.heap.size w w'
theorem record_rec {w : World} (r : M.Rec) {va vb : Value} (h : Rds w va r.c.rs) (h' : Wrs w vb r.c.ws) (hl : r.c.rs.length ≤ 1000) (hl' : r.c.ws.length ≤ 1000) : Calls Tryz.prog 104 #[.iface 67 (.agg #[J U r.ir,J U r.is,J U r.st,J U r.pn,J U r.pr,J U r.bn,J U r.br,J U r.c.k,J U r.c.tc,J U r.c.tn,J U r.c.tt,J U r.c.tk,J U r.c.sh, va, vb,.bool r.c.cm,J U r.sq,J U r.d0,J U r.d1,J U r.d2,J U r.d3,J U r.d4,J U r.d5,J U r.d6,.bool r.kp])] w (RecdR r w) := by
 have HR := V (h.push (.cells #[J U 0,J U 0,J U 0,J U 0,J U 0,J U 0,J U 0,J U 0,J U 0,J U 0,J U 0,J U 0,J U 0,.slice none 0 0,.slice none 0 0,.bool false,J U 0,J U 0,J U 0,J U 0,J U 0,J U 0,J U 0,J U 0,.bool false] 67))
 have HW := V (h'.push (.cells #[J U 0,J U 0,J U 0,J U 0,J U 0,J U 0,J U 0,J U 0,J U 0,J U 0,J U 0,J U 0,J U 0,.slice none 0 0,.slice none 0 0,.bool false,J U 0,J U 0,J U 0,J U 0,J U 0,J U 0,J U 0,J U 0,.bool false] 67))
 have H0 := V (Hold.new w [J U 0,J U 0,J U 0,J U 0,J U 0,J U 0,J U 0,J U 0,J U 0,J U 0,J U 0,J U 0,J U 0,.slice none 0 0,.slice none 0 0,.bool false,J U 0,J U 0,J U 0,J U 0,J U 0,J U 0,J U 0,J U 0,.bool false] 67)
 have B0 := V (below_new (o := .cells #[J U 0,J U 0,J U 0,J U 0,J U 0,J U 0,J U 0,J U 0,J U 0,J U 0,J U 0,J U 0,J U 0,.slice none 0 0,.slice none 0 0,.bool false,J U 0,J U 0,J U 0,J U 0,J U 0,J U 0,J U 0,J U 0,.bool false] 67) (Below.refl w.heap.size w))
 clear h h'
 go_enter Tryz.func104, Tryz.ntmps104
 go_wp2_with
  (first
   | (go_at_call 71
      refine (apart_rec r HR.out HW.out hl hl').mono ?_
      rintro e w1 ⟨va1, vb1, rfl, R1, W1, hb⟩
      obtain ⟨A1, k1, rfl⟩ := ownsRow_slice R1
      obtain ⟨A2, k2, rfl⟩ := ownsRow_slice W1
      have N1 := H0.out.on hb
      have N2 := N1.on (below_new (o := .cells #[J U r.ir,J U r.is,J U r.st,J U r.pn,J U r.pr,J U r.bn,J U r.br,J U r.c.k,J U r.c.tc,J U r.c.tn,J U r.c.tt,J U r.c.tk,J U r.c.sh, (.slice A1 r.c.rs.length k1), (.slice A2 r.c.ws.length k2),.bool r.c.cm,J U r.sq,J U r.d0,J U r.d1,J U r.d2,J U r.d3,J U r.d4,J U r.d5,J U r.d6,.bool r.kp] 67) (Below.refl w1.heap.size w1))
      have CW := V ((Hold.new w1 [J U r.ir,J U r.is,J U r.st,J U r.pn,J U r.pr,J U r.bn,J U r.br,J U r.c.k,J U r.c.tc,J U r.c.tn,J U r.c.tt,J U r.c.tk,J U r.c.sh, (.slice A1 r.c.rs.length k1), (.slice A2 r.c.ws.length k2),.bool r.c.cm,J U r.sq,J U r.d0,J U r.d1,J U r.d2,J U r.d3,J U r.d4,J U r.d5,J U r.d6,.bool r.kp] 67).cel.whole)
      have TH := V (show (w1.alloc (.cells #[J U r.ir,J U r.is,J U r.st,J U r.pn,J U r.pr,J U r.bn,J U r.br,J U r.c.k,J U r.c.tc,J U r.c.tn,J U r.c.tt,J U r.c.tk,J U r.c.sh, (.slice A1 r.c.rs.length k1), (.slice A2 r.c.ws.length k2),.bool r.c.cm,J U r.sq,J U r.d0,J U r.d1,J U r.d2,J U r.d3,J U r.d4,J U r.d5,J U r.d6,.bool r.kp] 67)).there w.heap.size 0 ([J U r.ir,J U r.is,J U r.st,J U r.pn,J U r.pr,J U r.bn,J U r.br,J U r.c.k,J U r.c.tc,J U r.c.tn,J U r.c.tt,J U r.c.tk,J U r.c.sh, (.slice A1 r.c.rs.length k1), (.slice A2 r.c.ws.length k2),.bool r.c.cm,J U r.sq,J U r.d0,J U r.d1,J U r.d2,J U r.d3,J U r.d4,J U r.d5,J U r.d6,.bool r.kp] : List Value).length from N2.there (by simp))
      have FP := Hold.set [J U r.ir,J U r.is,J U r.st,J U r.pn,J U r.pr,J U r.bn,J U r.br,J U r.c.k,J U r.c.tc,J U r.c.tn,J U r.c.tt,J U r.c.tk,J U r.c.sh, (.slice A1 r.c.rs.length k1), (.slice A2 r.c.ws.length k2),.bool r.c.cm,J U r.sq,J U r.d0,J U r.d1,J U r.d2,J U r.d3,J U r.d4,J U r.d5,J U r.d6,.bool r.kp] [] [J U 0,J U 0,J U 0,J U 0,J U 0,J U 0,J U 0,J U 0,J U 0,J U 0,J U 0,J U 0,J U 0,.slice none 0 0,.slice none 0 0,.bool false,J U 0,J U 0,J U 0,J U 0,J U 0,J U 0,J U 0,J U 0,.bool false] [] rfl _ (show Hold (w1.alloc (.cells #[J U r.ir,J U r.is,J U r.st,J U r.pn,J U r.pr,J U r.bn,J U r.br,J U r.c.k,J U r.c.tc,J U r.c.tn,J U r.c.tt,J U r.c.tk,J U r.c.sh, (.slice A1 r.c.rs.length k1), (.slice A2 r.c.ws.length k2),.bool r.c.cm,J U r.sq,J U r.d0,J U r.d1,J U r.d2,J U r.d3,J U r.d4,J U r.d5,J U r.d6,.bool r.kp] 67)) w.heap.size 67 ([] ++ [J U 0,J U 0,J U 0,J U 0,J U 0,J U 0,J U 0,J U 0,J U 0,J U 0,J U 0,J U 0,J U 0,.slice none 0 0,.slice none 0 0,.bool false,J U 0,J U 0,J U 0,J U 0,J U 0,J U 0,J U 0,J U 0,.bool false] ++ []) from N2)
      have FH := V (show Hold ((w1.alloc (.cells #[J U r.ir,J U r.is,J U r.st,J U r.pn,J U r.pr,J U r.bn,J U r.br,J U r.c.k,J U r.c.tc,J U r.c.tn,J U r.c.tt,J U r.c.tk,J U r.c.sh, (.slice A1 r.c.rs.length k1), (.slice A2 r.c.ws.length k2),.bool r.c.cm,J U r.sq,J U r.d0,J U r.d1,J U r.d2,J U r.d3,J U r.d4,J U r.d5,J U r.d6,.bool r.kp] 67)).setCells w.heap.size 0 [J U r.ir,J U r.is,J U r.st,J U r.pn,J U r.pr,J U r.bn,J U r.br,J U r.c.k,J U r.c.tc,J U r.c.tn,J U r.c.tt,J U r.c.tk,J U r.c.sh, (.slice A1 r.c.rs.length k1), (.slice A2 r.c.ws.length k2),.bool r.c.cm,J U r.sq,J U r.d0,J U r.d1,J U r.d2,J U r.d3,J U r.d4,J U r.d5,J U r.d6,.bool r.kp]) w.heap.size 67 [J U r.ir,J U r.is,J U r.st,J U r.pn,J U r.pr,J U r.bn,J U r.br,J U r.c.k,J U r.c.tc,J U r.c.tn,J U r.c.tt,J U r.c.tk,J U r.c.sh, (.slice A1 r.c.rs.length k1), (.slice A2 r.c.ws.length k2),.bool r.c.cm,J U r.sq,J U r.d0,J U r.d1,J U r.d2,J U r.d3,J U r.d4,J U r.d5,J U r.d6,.bool r.kp] from FP)
      have B1 := below_on B0.out hb
      have B2 := V (below_setCells (Nat.le_refl _) [J U r.ir,J U r.is,J U r.st,J U r.pn,J U r.pr,J U r.bn,J U r.br,J U r.c.k,J U r.c.tc,J U r.c.tn,J U r.c.tt,J U r.c.tk,J U r.c.sh, (.slice A1 r.c.rs.length k1), (.slice A2 r.c.ws.length k2),.bool r.c.cm,J U r.sq,J U r.d0,J U r.d1,J U r.d2,J U r.d3,J U r.d4,J U r.d5,J U r.d6,.bool r.kp] 0 w _ (below_new (o := .cells #[J U r.ir,J U r.is,J U r.st,J U r.pn,J U r.pr,J U r.bn,J U r.br,J U r.c.k,J U r.c.tc,J U r.c.tn,J U r.c.tt,J U r.c.tk,J U r.c.sh, (.slice A1 r.c.rs.length k1), (.slice A2 r.c.ws.length k2),.bool r.c.cm,J U r.sq,J U r.d0,J U r.d1,J U r.d2,J U r.d3,J U r.d4,J U r.d5,J U r.d6,.bool r.kp] 67) B1))
      have R2 := V (ownR_mk (B := w.heap.size) (ownsRow_setCells (b := w.heap.size) (ownsRow_pushN R1 (.cells #[J U r.ir,J U r.is,J U r.st,J U r.pn,J U r.pr,J U r.bn,J U r.br,J U r.c.k,J U r.c.tc,J U r.c.tn,J U r.c.tt,J U r.c.tk,J U r.c.sh, (.slice A1 r.c.rs.length k1), (.slice A2 r.c.ws.length k2),.bool r.c.cm,J U r.sq,J U r.d0,J U r.d1,J U r.d2,J U r.d3,J U r.d4,J U r.d5,J U r.d6,.bool r.kp] 67)) (by simp) [J U r.ir,J U r.is,J U r.st,J U r.pn,J U r.pr,J U r.bn,J U r.br,J U r.c.k,J U r.c.tc,J U r.c.tn,J U r.c.tt,J U r.c.tk,J U r.c.sh, (.slice A1 r.c.rs.length k1), (.slice A2 r.c.ws.length k2),.bool r.c.cm,J U r.sq,J U r.d0,J U r.d1,J U r.d2,J U r.d3,J U r.d4,J U r.d5,J U r.d6,.bool r.kp] 0) (by simp))
      have W2 := V (ownW_mk (B := w.heap.size) (ownsRow_setCells (b := w.heap.size) (ownsRow_pushN W1 (.cells #[J U r.ir,J U r.is,J U r.st,J U r.pn,J U r.pr,J U r.bn,J U r.br,J U r.c.k,J U r.c.tc,J U r.c.tn,J U r.c.tt,J U r.c.tk,J U r.c.sh, (.slice A1 r.c.rs.length k1), (.slice A2 r.c.ws.length k2),.bool r.c.cm,J U r.sq,J U r.d0,J U r.d1,J U r.d2,J U r.d3,J U r.d4,J U r.d5,J U r.d6,.bool r.kp] 67)) (by simp) [J U r.ir,J U r.is,J U r.st,J U r.pn,J U r.pr,J U r.bn,J U r.br,J U r.c.k,J U r.c.tc,J U r.c.tn,J U r.c.tt,J U r.c.tk,J U r.c.sh, (.slice A1 r.c.rs.length k1), (.slice A2 r.c.ws.length k2),.bool r.c.cm,J U r.sq,J U r.d0,J U r.d1,J U r.d2,J U r.d3,J U r.d4,J U r.d5,J U r.d6,.bool r.kp] 0) (by simp))
      clear R1 W1 N1 N2 FP B1 hb)
   | (with_reducible refine wpList_store_fresh rfl 67 _ _ rfl _ rfl 67 _ [J U r.ir,J U r.is,J U r.st,J U r.pn,J U r.pr,J U r.bn,J U r.br,J U r.c.k,J U r.c.tc,J U r.c.tn,J U r.c.tt,J U r.c.tk,J U r.c.sh, (.slice A1 r.c.rs.length k1), (.slice A2 r.c.ws.length k2),.bool r.c.cm,J U r.sq,J U r.d0,J U r.d1,J U r.d2,J U r.d3,J U r.d4,J U r.d5,J U r.d6,.bool r.kp] rfl rfl rfl (by kernel_rfl) rfl ?_)
   | (with_reducible refine wpList_load_mid rfl 67 _ rfl _ 0 rfl _ _ CW.out Tryz.underlying67 rfl (by kernel_rfl) ?_)
   | (with_reducible refine store_list rfl 67 _ _ rfl w.heap.size 0 [J U r.ir,J U r.is,J U r.st,J U r.pn,J U r.pr,J U r.bn,J U r.br,J U r.c.k,J U r.c.tc,J U r.c.tn,J U r.c.tt,J U r.c.tk,J U r.c.sh, (.slice A1 r.c.rs.length k1), (.slice A2 r.c.ws.length k2),.bool r.c.cm,J U r.sq,J U r.d0,J U r.d1,J U r.d2,J U r.d3,J U r.d4,J U r.d5,J U r.d6,.bool r.kp] rfl rfl TH.out (by kernel_rfl) (by kernel_rfl) ?_))
 refine bodyPost_ret (results28 rfl rfl FH.out.cel.whole (by kernel_rfl)) rfl ?_
 exact ⟨_, _, rfl, R2.out, W2.out, B2.out⟩
open Go.ChangeShapes Go.WideShapes Go.ChangeAt Go.RowKit
attribute [local go_sem ↓] ta_yes33 ta_nil33 ta_yes37 ta_nil37 ta_yes39 ta_nil39 ta_no33_3 ta_no33_37 ta_no33_39 ta_no37_3 ta_no37_33 ta_no37_39 ta_no39_3 ta_no39_33 ta_no39_37
attribute [local go_sem] must_yes
theorem record_nil {w : World} : Calls Tryz.prog 104 #[.nilIface] w (RecdN w) := by
 have H0 := V (Hold.new w [J U 0,J U 0,J U 0,J U 0,J U 0,J U 0,J U 0,J U 0,J U 0,J U 0,J U 0,J U 0,J U 0,.slice none 0 0,.slice none 0 0,.bool false,J U 0,J U 0,J U 0,J U 0,J U 0,J U 0,J U 0,J U 0,.bool false] 67)
 have B0 := V (below_new (o := .cells #[J U 0,J U 0,J U 0,J U 0,J U 0,J U 0,J U 0,J U 0,J U 0,J U 0,J U 0,J U 0,J U 0,.slice none 0 0,.slice none 0 0,.bool false,J U 0,J U 0,J U 0,J U 0,J U 0,J U 0,J U 0,J U 0,.bool false] 67) (Below.refl w.heap.size w))
 go_enter Tryz.func104, Tryz.ntmps104
 go_wp2_with
  (first
   | (go_at_call 71
      refine (apart_nil _).mono ?_
      rintro e w1 ⟨rfl, e1⟩
      have hb : Below (w.alloc (.cells #[J U 0,J U 0,J U 0,J U 0,J U 0,J U 0,J U 0,J U 0,J U 0,J U 0,J U 0,J U 0,J U 0,.slice none 0 0,.slice none 0 0,.bool false,J U 0,J U 0,J U 0,J U 0,J U 0,J U 0,J U 0,J U 0,.bool false] 67)).heap.size (w.alloc (.cells #[J U 0,J U 0,J U 0,J U 0,J U 0,J U 0,J U 0,J U 0,J U 0,J U 0,J U 0,J U 0,J U 0,.slice none 0 0,.slice none 0 0,.bool false,J U 0,J U 0,J U 0,J U 0,J U 0,J U 0,J U 0,J U 0,.bool false] 67)) w1 := e1 ▸ Below.refl _ _
      clear e1
      have N1 := H0.out.on hb
      have N2 := N1.on (below_new (o := .cells #[J U 0,J U 0,J U 0,J U 0,J U 0,J U 0,J U 0,J U 0,J U 0,J U 0,J U 0,J U 0,J U 0,.slice none 0 0,.slice none 0 0,.bool false,J U 0,J U 0,J U 0,J U 0,J U 0,J U 0,J U 0,J U 0,.bool false] 67) (Below.refl w1.heap.size w1))
      have CW := V ((Hold.new w1 [J U 0,J U 0,J U 0,J U 0,J U 0,J U 0,J U 0,J U 0,J U 0,J U 0,J U 0,J U 0,J U 0,.slice none 0 0,.slice none 0 0,.bool false,J U 0,J U 0,J U 0,J U 0,J U 0,J U 0,J U 0,J U 0,.bool false] 67).cel.whole)
      have TH := V (show (w1.alloc (.cells #[J U 0,J U 0,J U 0,J U 0,J U 0,J U 0,J U 0,J U 0,J U 0,J U 0,J U 0,J U 0,J U 0,.slice none 0 0,.slice none 0 0,.bool false,J U 0,J U 0,J U 0,J U 0,J U 0,J U 0,J U 0,J U 0,.bool false] 67)).there w.heap.size 0 ([J U 0,J U 0,J U 0,J U 0,J U 0,J U 0,J U 0,J U 0,J U 0,J U 0,J U 0,J U 0,J U 0,.slice none 0 0,.slice none 0 0,.bool false,J U 0,J U 0,J U 0,J U 0,J U 0,J U 0,J U 0,J U 0,.bool false] : List Value).length from N2.there (by simp))
      have FP := Hold.set [J U 0,J U 0,J U 0,J U 0,J U 0,J U 0,J U 0,J U 0,J U 0,J U 0,J U 0,J U 0,J U 0,.slice none 0 0,.slice none 0 0,.bool false,J U 0,J U 0,J U 0,J U 0,J U 0,J U 0,J U 0,J U 0,.bool false] [] [J U 0,J U 0,J U 0,J U 0,J U 0,J U 0,J U 0,J U 0,J U 0,J U 0,J U 0,J U 0,J U 0,.slice none 0 0,.slice none 0 0,.bool false,J U 0,J U 0,J U 0,J U 0,J U 0,J U 0,J U 0,J U 0,.bool false] [] rfl _ (show Hold (w1.alloc (.cells #[J U 0,J U 0,J U 0,J U 0,J U 0,J U 0,J U 0,J U 0,J U 0,J U 0,J U 0,J U 0,J U 0,.slice none 0 0,.slice none 0 0,.bool false,J U 0,J U 0,J U 0,J U 0,J U 0,J U 0,J U 0,J U 0,.bool false] 67)) w.heap.size 67 ([] ++ [J U 0,J U 0,J U 0,J U 0,J U 0,J U 0,J U 0,J U 0,J U 0,J U 0,J U 0,J U 0,J U 0,.slice none 0 0,.slice none 0 0,.bool false,J U 0,J U 0,J U 0,J U 0,J U 0,J U 0,J U 0,J U 0,.bool false] ++ []) from N2)
      have FH := V (show Hold ((w1.alloc (.cells #[J U 0,J U 0,J U 0,J U 0,J U 0,J U 0,J U 0,J U 0,J U 0,J U 0,J U 0,J U 0,J U 0,.slice none 0 0,.slice none 0 0,.bool false,J U 0,J U 0,J U 0,J U 0,J U 0,J U 0,J U 0,J U 0,.bool false] 67)).setCells w.heap.size 0 [J U 0,J U 0,J U 0,J U 0,J U 0,J U 0,J U 0,J U 0,J U 0,J U 0,J U 0,J U 0,J U 0,.slice none 0 0,.slice none 0 0,.bool false,J U 0,J U 0,J U 0,J U 0,J U 0,J U 0,J U 0,J U 0,.bool false]) w.heap.size 67 [J U 0,J U 0,J U 0,J U 0,J U 0,J U 0,J U 0,J U 0,J U 0,J U 0,J U 0,J U 0,J U 0,.slice none 0 0,.slice none 0 0,.bool false,J U 0,J U 0,J U 0,J U 0,J U 0,J U 0,J U 0,J U 0,.bool false] from FP)
      have B1 := below_on B0.out hb
      have B2 := V (below_setCells (Nat.le_refl _) [J U 0,J U 0,J U 0,J U 0,J U 0,J U 0,J U 0,J U 0,J U 0,J U 0,J U 0,J U 0,J U 0,.slice none 0 0,.slice none 0 0,.bool false,J U 0,J U 0,J U 0,J U 0,J U 0,J U 0,J U 0,J U 0,.bool false] 0 w _ (below_new (o := .cells #[J U 0,J U 0,J U 0,J U 0,J U 0,J U 0,J U 0,J U 0,J U 0,J U 0,J U 0,J U 0,J U 0,.slice none 0 0,.slice none 0 0,.bool false,J U 0,J U 0,J U 0,J U 0,J U 0,J U 0,J U 0,J U 0,.bool false] 67) B1))
      clear N1 N2 FP B1 hb)
   | (with_reducible refine wpList_store_fresh rfl 67 _ _ rfl _ rfl 67 _ [J U 0,J U 0,J U 0,J U 0,J U 0,J U 0,J U 0,J U 0,J U 0,J U 0,J U 0,J U 0,J U 0,.slice none 0 0,.slice none 0 0,.bool false,J U 0,J U 0,J U 0,J U 0,J U 0,J U 0,J U 0,J U 0,.bool false] rfl rfl rfl (by kernel_rfl) rfl ?_)
   | (with_reducible refine wpList_load_mid rfl 67 _ rfl _ 0 rfl _ _ CW.out Tryz.underlying67 rfl (by kernel_rfl) ?_)
   | (with_reducible refine store_list rfl 67 _ _ rfl w.heap.size 0 [J U 0,J U 0,J U 0,J U 0,J U 0,J U 0,J U 0,J U 0,J U 0,J U 0,J U 0,J U 0,J U 0,.slice none 0 0,.slice none 0 0,.bool false,J U 0,J U 0,J U 0,J U 0,J U 0,J U 0,J U 0,J U 0,.bool false] rfl rfl TH.out (by kernel_rfl) (by kernel_rfl) ?_))
 refine bodyPost_ret (results28 rfl rfl FH.out.cel.whole (by kernel_rfl)) rfl ?_
 exact ⟨rfl, B2.out⟩
theorem record_cmd {w : World} (c : M.Cmd) {va vb : Value} (h : Rds w va c.rs) (h' : Wrs w vb c.ws) (hl : c.rs.length ≤ 1000) (hl' : c.ws.length ≤ 1000) : Calls Tryz.prog 104 #[.iface 63 (.agg #[J U c.k,J U c.tc,J U c.tn,J U c.tt,J U c.tk,J U c.sh, va, vb,.bool c.cm])] w (RecdN w) := by
 have HR := V (h.push (.cells #[J U 0,J U 0,J U 0,J U 0,J U 0,J U 0,J U 0,J U 0,J U 0,J U 0,J U 0,J U 0,J U 0,.slice none 0 0,.slice none 0 0,.bool false,J U 0,J U 0,J U 0,J U 0,J U 0,J U 0,J U 0,J U 0,.bool false] 67))
 have HW := V (h'.push (.cells #[J U 0,J U 0,J U 0,J U 0,J U 0,J U 0,J U 0,J U 0,J U 0,J U 0,J U 0,J U 0,J U 0,.slice none 0 0,.slice none 0 0,.bool false,J U 0,J U 0,J U 0,J U 0,J U 0,J U 0,J U 0,J U 0,.bool false] 67))
 clear h h'
 have H0 := V (Hold.new w [J U 0,J U 0,J U 0,J U 0,J U 0,J U 0,J U 0,J U 0,J U 0,J U 0,J U 0,J U 0,J U 0,.slice none 0 0,.slice none 0 0,.bool false,J U 0,J U 0,J U 0,J U 0,J U 0,J U 0,J U 0,J U 0,.bool false] 67)
 have B0 := V (below_new (o := .cells #[J U 0,J U 0,J U 0,J U 0,J U 0,J U 0,J U 0,J U 0,J U 0,J U 0,J U 0,J U 0,J U 0,.slice none 0 0,.slice none 0 0,.bool false,J U 0,J U 0,J U 0,J U 0,J U 0,J U 0,J U 0,J U 0,.bool false] 67) (Below.refl w.heap.size w))
 go_enter Tryz.func104, Tryz.ntmps104
 go_wp2_with
  (first
   | (go_at_call 71
      refine (apart_cmd c HR.out HW.out hl hl').mono ?_
      rintro e w1 ⟨va1, vb1, rfl, -, -, hb⟩
      have N1 := H0.out.on hb
      have N2 := N1.on (below_new (o := .cells #[J U 0,J U 0,J U 0,J U 0,J U 0,J U 0,J U 0,J U 0,J U 0,J U 0,J U 0,J U 0,J U 0,.slice none 0 0,.slice none 0 0,.bool false,J U 0,J U 0,J U 0,J U 0,J U 0,J U 0,J U 0,J U 0,.bool false] 67) (Below.refl w1.heap.size w1))
      have CW := V ((Hold.new w1 [J U 0,J U 0,J U 0,J U 0,J U 0,J U 0,J U 0,J U 0,J U 0,J U 0,J U 0,J U 0,J U 0,.slice none 0 0,.slice none 0 0,.bool false,J U 0,J U 0,J U 0,J U 0,J U 0,J U 0,J U 0,J U 0,.bool false] 67).cel.whole)
      have TH := V (show (w1.alloc (.cells #[J U 0,J U 0,J U 0,J U 0,J U 0,J U 0,J U 0,J U 0,J U 0,J U 0,J U 0,J U 0,J U 0,.slice none 0 0,.slice none 0 0,.bool false,J U 0,J U 0,J U 0,J U 0,J U 0,J U 0,J U 0,J U 0,.bool false] 67)).there w.heap.size 0 ([J U 0,J U 0,J U 0,J U 0,J U 0,J U 0,J U 0,J U 0,J U 0,J U 0,J U 0,J U 0,J U 0,.slice none 0 0,.slice none 0 0,.bool false,J U 0,J U 0,J U 0,J U 0,J U 0,J U 0,J U 0,J U 0,.bool false] : List Value).length from N2.there (by simp))
      have FP := Hold.set [J U 0,J U 0,J U 0,J U 0,J U 0,J U 0,J U 0,J U 0,J U 0,J U 0,J U 0,J U 0,J U 0,.slice none 0 0,.slice none 0 0,.bool false,J U 0,J U 0,J U 0,J U 0,J U 0,J U 0,J U 0,J U 0,.bool false] [] [J U 0,J U 0,J U 0,J U 0,J U 0,J U 0,J U 0,J U 0,J U 0,J U 0,J U 0,J U 0,J U 0,.slice none 0 0,.slice none 0 0,.bool false,J U 0,J U 0,J U 0,J U 0,J U 0,J U 0,J U 0,J U 0,.bool false] [] rfl _ (show Hold (w1.alloc (.cells #[J U 0,J U 0,J U 0,J U 0,J U 0,J U 0,J U 0,J U 0,J U 0,J U 0,J U 0,J U 0,J U 0,.slice none 0 0,.slice none 0 0,.bool false,J U 0,J U 0,J U 0,J U 0,J U 0,J U 0,J U 0,J U 0,.bool false] 67)) w.heap.size 67 ([] ++ [J U 0,J U 0,J U 0,J U 0,J U 0,J U 0,J U 0,J U 0,J U 0,J U 0,J U 0,J U 0,J U 0,.slice none 0 0,.slice none 0 0,.bool false,J U 0,J U 0,J U 0,J U 0,J U 0,J U 0,J U 0,J U 0,.bool false] ++ []) from N2)
      have FH := V (show Hold ((w1.alloc (.cells #[J U 0,J U 0,J U 0,J U 0,J U 0,J U 0,J U 0,J U 0,J U 0,J U 0,J U 0,J U 0,J U 0,.slice none 0 0,.slice none 0 0,.bool false,J U 0,J U 0,J U 0,J U 0,J U 0,J U 0,J U 0,J U 0,.bool false] 67)).setCells w.heap.size 0 [J U 0,J U 0,J U 0,J U 0,J U 0,J U 0,J U 0,J U 0,J U 0,J U 0,J U 0,J U 0,J U 0,.slice none 0 0,.slice none 0 0,.bool false,J U 0,J U 0,J U 0,J U 0,J U 0,J U 0,J U 0,J U 0,.bool false]) w.heap.size 67 [J U 0,J U 0,J U 0,J U 0,J U 0,J U 0,J U 0,J U 0,J U 0,J U 0,J U 0,J U 0,J U 0,.slice none 0 0,.slice none 0 0,.bool false,J U 0,J U 0,J U 0,J U 0,J U 0,J U 0,J U 0,J U 0,.bool false] from FP)
      have B1 := below_on B0.out hb
      have B2 := V (below_setCells (Nat.le_refl _) [J U 0,J U 0,J U 0,J U 0,J U 0,J U 0,J U 0,J U 0,J U 0,J U 0,J U 0,J U 0,J U 0,.slice none 0 0,.slice none 0 0,.bool false,J U 0,J U 0,J U 0,J U 0,J U 0,J U 0,J U 0,J U 0,.bool false] 0 w _ (below_new (o := .cells #[J U 0,J U 0,J U 0,J U 0,J U 0,J U 0,J U 0,J U 0,J U 0,J U 0,J U 0,J U 0,J U 0,.slice none 0 0,.slice none 0 0,.bool false,J U 0,J U 0,J U 0,J U 0,J U 0,J U 0,J U 0,J U 0,.bool false] 67) B1))
      clear N1 N2 FP B1 hb)
   | (with_reducible refine wpList_store_fresh rfl 67 _ _ rfl _ rfl 67 _ [J U 0,J U 0,J U 0,J U 0,J U 0,J U 0,J U 0,J U 0,J U 0,J U 0,J U 0,J U 0,J U 0,.slice none 0 0,.slice none 0 0,.bool false,J U 0,J U 0,J U 0,J U 0,J U 0,J U 0,J U 0,J U 0,.bool false] rfl rfl rfl (by kernel_rfl) rfl ?_)
   | (with_reducible refine wpList_load_mid rfl 67 _ rfl _ 0 rfl _ _ CW.out Tryz.underlying67 rfl (by kernel_rfl) ?_)
   | (with_reducible refine store_list rfl 67 _ _ rfl w.heap.size 0 [J U 0,J U 0,J U 0,J U 0,J U 0,J U 0,J U 0,J U 0,J U 0,J U 0,J U 0,J U 0,J U 0,.slice none 0 0,.slice none 0 0,.bool false,J U 0,J U 0,J U 0,J U 0,J U 0,J U 0,J U 0,J U 0,.bool false] rfl rfl TH.out (by kernel_rfl) (by kernel_rfl) ?_))
 refine bodyPost_ret (results28 rfl rfl FH.out.cel.whole (by kernel_rfl)) rfl ?_
 exact ⟨rfl, B2.out⟩
theorem record_msg {w : World} (m : M.Msg) {va vb : Value} (h : Rds w va m.r.c.rs) (h' : Wrs w vb m.r.c.ws) (hl : m.r.c.rs.length ≤ 1000) (hl' : m.r.c.ws.length ≤ 1000) : Calls Tryz.prog 104 #[.iface 95 (.agg #[J U m.k,J U m.fr,J U m.to,J U m.bn,J U m.br,J U m.r.ir,J U m.r.is,J U m.r.st,J U m.r.pn,J U m.r.pr,J U m.r.bn,J U m.r.br,J U m.r.c.k,J U m.r.c.tc,J U m.r.c.tn,J U m.r.c.tt,J U m.r.c.tk,J U m.r.c.sh, va, vb,.bool m.r.c.cm,J U m.r.sq,J U m.r.d0,J U m.r.d1,J U m.r.d2,J U m.r.d3,J U m.r.d4,J U m.r.d5,J U m.r.d6,.bool m.r.kp])] w (RecdN w) := by
 have HR := V (h.push (.cells #[J U 0,J U 0,J U 0,J U 0,J U 0,J U 0,J U 0,J U 0,J U 0,J U 0,J U 0,J U 0,J U 0,.slice none 0 0,.slice none 0 0,.bool false,J U 0,J U 0,J U 0,J U 0,J U 0,J U 0,J U 0,J U 0,.bool false] 67))
 have HW := V (h'.push (.cells #[J U 0,J U 0,J U 0,J U 0,J U 0,J U 0,J U 0,J U 0,J U 0,J U 0,J U 0,J U 0,J U 0,.slice none 0 0,.slice none 0 0,.bool false,J U 0,J U 0,J U 0,J U 0,J U 0,J U 0,J U 0,J U 0,.bool false] 67))
 clear h h'
 have H0 := V (Hold.new w [J U 0,J U 0,J U 0,J U 0,J U 0,J U 0,J U 0,J U 0,J U 0,J U 0,J U 0,J U 0,J U 0,.slice none 0 0,.slice none 0 0,.bool false,J U 0,J U 0,J U 0,J U 0,J U 0,J U 0,J U 0,J U 0,.bool false] 67)
 have B0 := V (below_new (o := .cells #[J U 0,J U 0,J U 0,J U 0,J U 0,J U 0,J U 0,J U 0,J U 0,J U 0,J U 0,J U 0,J U 0,.slice none 0 0,.slice none 0 0,.bool false,J U 0,J U 0,J U 0,J U 0,J U 0,J U 0,J U 0,J U 0,.bool false] 67) (Below.refl w.heap.size w))
 go_enter Tryz.func104, Tryz.ntmps104
 go_wp2_with
  (first
   | (go_at_call 71
      refine (apart_msg m HR.out HW.out hl hl').mono ?_
      rintro e w1 ⟨va1, vb1, rfl, -, -, hb⟩
      have N1 := H0.out.on hb
      have N2 := N1.on (below_new (o := .cells #[J U 0,J U 0,J U 0,J U 0,J U 0,J U 0,J U 0,J U 0,J U 0,J U 0,J U 0,J U 0,J U 0,.slice none 0 0,.slice none 0 0,.bool false,J U 0,J U 0,J U 0,J U 0,J U 0,J U 0,J U 0,J U 0,.bool false] 67) (Below.refl w1.heap.size w1))
      have CW := V ((Hold.new w1 [J U 0,J U 0,J U 0,J U 0,J U 0,J U 0,J U 0,J U 0,J U 0,J U 0,J U 0,J U 0,J U 0,.slice none 0 0,.slice none 0 0,.bool false,J U 0,J U 0,J U 0,J U 0,J U 0,J U 0,J U 0,J U 0,.bool false] 67).cel.whole)
      have TH := V (show (w1.alloc (.cells #[J U 0,J U 0,J U 0,J U 0,J U 0,J U 0,J U 0,J U 0,J U 0,J U 0,J U 0,J U 0,J U 0,.slice none 0 0,.slice none 0 0,.bool false,J U 0,J U 0,J U 0,J U 0,J U 0,J U 0,J U 0,J U 0,.bool false] 67)).there w.heap.size 0 ([J U 0,J U 0,J U 0,J U 0,J U 0,J U 0,J U 0,J U 0,J U 0,J U 0,J U 0,J U 0,J U 0,.slice none 0 0,.slice none 0 0,.bool false,J U 0,J U 0,J U 0,J U 0,J U 0,J U 0,J U 0,J U 0,.bool false] : List Value).length from N2.there (by simp))
      have FP := Hold.set [J U 0,J U 0,J U 0,J U 0,J U 0,J U 0,J U 0,J U 0,J U 0,J U 0,J U 0,J U 0,J U 0,.slice none 0 0,.slice none 0 0,.bool false,J U 0,J U 0,J U 0,J U 0,J U 0,J U 0,J U 0,J U 0,.bool false] [] [J U 0,J U 0,J U 0,J U 0,J U 0,J U 0,J U 0,J U 0,J U 0,J U 0,J U 0,J U 0,J U 0,.slice none 0 0,.slice none 0 0,.bool false,J U 0,J U 0,J U 0,J U 0,J U 0,J U 0,J U 0,J U 0,.bool false] [] rfl _ (show Hold (w1.alloc (.cells #[J U 0,J U 0,J U 0,J U 0,J U 0,J U 0,J U 0,J U 0,J U 0,J U 0,J U 0,J U 0,J U 0,.slice none 0 0,.slice none 0 0,.bool false,J U 0,J U 0,J U 0,J U 0,J U 0,J U 0,J U 0,J U 0,.bool false] 67)) w.heap.size 67 ([] ++ [J U 0,J U 0,J U 0,J U 0,J U 0,J U 0,J U 0,J U 0,J U 0,J U 0,J U 0,J U 0,J U 0,.slice none 0 0,.slice none 0 0,.bool false,J U 0,J U 0,J U 0,J U 0,J U 0,J U 0,J U 0,J U 0,.bool false] ++ []) from N2)
      have FH := V (show Hold ((w1.alloc (.cells #[J U 0,J U 0,J U 0,J U 0,J U 0,J U 0,J U 0,J U 0,J U 0,J U 0,J U 0,J U 0,J U 0,.slice none 0 0,.slice none 0 0,.bool false,J U 0,J U 0,J U 0,J U 0,J U 0,J U 0,J U 0,J U 0,.bool false] 67)).setCells w.heap.size 0 [J U 0,J U 0,J U 0,J U 0,J U 0,J U 0,J U 0,J U 0,J U 0,J U 0,J U 0,J U 0,J U 0,.slice none 0 0,.slice none 0 0,.bool false,J U 0,J U 0,J U 0,J U 0,J U 0,J U 0,J U 0,J U 0,.bool false]) w.heap.size 67 [J U 0,J U 0,J U 0,J U 0,J U 0,J U 0,J U 0,J U 0,J U 0,J U 0,J U 0,J U 0,J U 0,.slice none 0 0,.slice none 0 0,.bool false,J U 0,J U 0,J U 0,J U 0,J U 0,J U 0,J U 0,J U 0,.bool false] from FP)
      have B1 := below_on B0.out hb
      have B2 := V (below_setCells (Nat.le_refl _) [J U 0,J U 0,J U 0,J U 0,J U 0,J U 0,J U 0,J U 0,J U 0,J U 0,J U 0,J U 0,J U 0,.slice none 0 0,.slice none 0 0,.bool false,J U 0,J U 0,J U 0,J U 0,J U 0,J U 0,J U 0,J U 0,.bool false] 0 w _ (below_new (o := .cells #[J U 0,J U 0,J U 0,J U 0,J U 0,J U 0,J U 0,J U 0,J U 0,J U 0,J U 0,J U 0,J U 0,.slice none 0 0,.slice none 0 0,.bool false,J U 0,J U 0,J U 0,J U 0,J U 0,J U 0,J U 0,J U 0,.bool false] 67) B1))
      clear N1 N2 FP B1 hb)
   | (with_reducible refine wpList_store_fresh rfl 67 _ _ rfl _ rfl 67 _ [J U 0,J U 0,J U 0,J U 0,J U 0,J U 0,J U 0,J U 0,J U 0,J U 0,J U 0,J U 0,J U 0,.slice none 0 0,.slice none 0 0,.bool false,J U 0,J U 0,J U 0,J U 0,J U 0,J U 0,J U 0,J U 0,.bool false] rfl rfl rfl (by kernel_rfl) rfl ?_)
   | (with_reducible refine wpList_load_mid rfl 67 _ rfl _ 0 rfl _ _ CW.out Tryz.underlying67 rfl (by kernel_rfl) ?_)
   | (with_reducible refine store_list rfl 67 _ _ rfl w.heap.size 0 [J U 0,J U 0,J U 0,J U 0,J U 0,J U 0,J U 0,J U 0,J U 0,J U 0,J U 0,J U 0,J U 0,.slice none 0 0,.slice none 0 0,.bool false,J U 0,J U 0,J U 0,J U 0,J U 0,J U 0,J U 0,J U 0,.bool false] rfl rfl TH.out (by kernel_rfl) (by kernel_rfl) ?_))
 refine bodyPost_ret (results28 rfl rfl FH.out.cel.whole (by kernel_rfl)) rfl ?_
 exact ⟨rfl, B2.out⟩
open Go.ChangeShapes Go.WideShapes Go.ChangeAt Go.RowKit
attribute [local go_sem ↓] ta_yes33 ta_nil33 ta_yes37 ta_nil37 ta_yes39 ta_nil39 ta_no33_3 ta_no33_37 ta_no33_39 ta_no37_3 ta_no37_33 ta_no37_39 ta_no39_3 ta_no39_33 ta_no39_37
attribute [local go_sem] must_yes
theorem must_rec {w : World} (r : M.Rec) {va vb : Value} (h : Rds w va r.c.rs) (h' : Wrs w vb r.c.ws) (hl : r.c.rs.length ≤ 1000) (hl' : r.c.ws.length ≤ 1000) : Calls Tryz.prog 48 #[.iface 67 (.agg #[J U r.ir,J U r.is,J U r.st,J U r.pn,J U r.pr,J U r.bn,J U r.br,J U r.c.k,J U r.c.tc,J U r.c.tn,J U r.c.tt,J U r.c.tk,J U r.c.sh, va, vb,.bool r.c.cm,J U r.sq,J U r.d0,J U r.d1,J U r.d2,J U r.d3,J U r.d4,J U r.d5,J U r.d6,.bool r.kp])] w (MustR r w) := by
 have HR := V (h.push (.cells #[J U 0,J U 0,J U 0,J U 0,J U 0,J U 0,J U 0,J U 0,J U 0,J U 0,J U 0,J U 0,J U 0,.slice none 0 0,.slice none 0 0,.bool false,J U 0,J U 0,J U 0,J U 0,J U 0,J U 0,J U 0,J U 0,.bool false] 67))
 have HW := V (h'.push (.cells #[J U 0,J U 0,J U 0,J U 0,J U 0,J U 0,J U 0,J U 0,J U 0,J U 0,J U 0,J U 0,J U 0,.slice none 0 0,.slice none 0 0,.bool false,J U 0,J U 0,J U 0,J U 0,J U 0,J U 0,J U 0,J U 0,.bool false] 67))
 have H0 := V (Hold.new w [J U 0,J U 0,J U 0,J U 0,J U 0,J U 0,J U 0,J U 0,J U 0,J U 0,J U 0,J U 0,J U 0,.slice none 0 0,.slice none 0 0,.bool false,J U 0,J U 0,J U 0,J U 0,J U 0,J U 0,J U 0,J U 0,.bool false] 67)
 have B0 := V (below_new (o := .cells #[J U 0,J U 0,J U 0,J U 0,J U 0,J U 0,J U 0,J U 0,J U 0,J U 0,J U 0,J U 0,J U 0,.slice none 0 0,.slice none 0 0,.bool false,J U 0,J U 0,J U 0,J U 0,J U 0,J U 0,J U 0,J U 0,.bool false] 67) (Below.refl w.heap.size w))
 clear h h'
 go_enter Tryz.func48, Tryz.ntmps48
 go_wp2_with
  (first
   | (go_at_call 71
      refine (apart_rec r HR.out HW.out hl hl').mono ?_
      rintro e w1 ⟨va1, vb1, rfl, R1, W1, hb⟩
      obtain ⟨A1, k1, rfl⟩ := ownsRow_slice R1
      obtain ⟨A2, k2, rfl⟩ := ownsRow_slice W1
      have N1 := H0.out.on hb
      have TH := V (show w1.there w.heap.size 0 ([J U r.ir,J U r.is,J U r.st,J U r.pn,J U r.pr,J U r.bn,J U r.br,J U r.c.k,J U r.c.tc,J U r.c.tn,J U r.c.tt,J U r.c.tk,J U r.c.sh, (.slice A1 r.c.rs.length k1), (.slice A2 r.c.ws.length k2),.bool r.c.cm,J U r.sq,J U r.d0,J U r.d1,J U r.d2,J U r.d3,J U r.d4,J U r.d5,J U r.d6,.bool r.kp] : List Value).length from N1.there (by simp))
      have FP := Hold.set [J U r.ir,J U r.is,J U r.st,J U r.pn,J U r.pr,J U r.bn,J U r.br,J U r.c.k,J U r.c.tc,J U r.c.tn,J U r.c.tt,J U r.c.tk,J U r.c.sh, (.slice A1 r.c.rs.length k1), (.slice A2 r.c.ws.length k2),.bool r.c.cm,J U r.sq,J U r.d0,J U r.d1,J U r.d2,J U r.d3,J U r.d4,J U r.d5,J U r.d6,.bool r.kp] [] [J U 0,J U 0,J U 0,J U 0,J U 0,J U 0,J U 0,J U 0,J U 0,J U 0,J U 0,J U 0,J U 0,.slice none 0 0,.slice none 0 0,.bool false,J U 0,J U 0,J U 0,J U 0,J U 0,J U 0,J U 0,J U 0,.bool false] [] rfl _ (show Hold w1 w.heap.size 67 ([] ++ [J U 0,J U 0,J U 0,J U 0,J U 0,J U 0,J U 0,J U 0,J U 0,J U 0,J U 0,J U 0,J U 0,.slice none 0 0,.slice none 0 0,.bool false,J U 0,J U 0,J U 0,J U 0,J U 0,J U 0,J U 0,J U 0,.bool false] ++ []) from N1)
      have FH := V (show Hold (w1.setCells w.heap.size 0 [J U r.ir,J U r.is,J U r.st,J U r.pn,J U r.pr,J U r.bn,J U r.br,J U r.c.k,J U r.c.tc,J U r.c.tn,J U r.c.tt,J U r.c.tk,J U r.c.sh, (.slice A1 r.c.rs.length k1), (.slice A2 r.c.ws.length k2),.bool r.c.cm,J U r.sq,J U r.d0,J U r.d1,J U r.d2,J U r.d3,J U r.d4,J U r.d5,J U r.d6,.bool r.kp]) w.heap.size 67 [J U r.ir,J U r.is,J U r.st,J U r.pn,J U r.pr,J U r.bn,J U r.br,J U r.c.k,J U r.c.tc,J U r.c.tn,J U r.c.tt,J U r.c.tk,J U r.c.sh, (.slice A1 r.c.rs.length k1), (.slice A2 r.c.ws.length k2),.bool r.c.cm,J U r.sq,J U r.d0,J U r.d1,J U r.d2,J U r.d3,J U r.d4,J U r.d5,J U r.d6,.bool r.kp] from FP)
      have B2 := V (below_setCells (Nat.le_refl _) [J U r.ir,J U r.is,J U r.st,J U r.pn,J U r.pr,J U r.bn,J U r.br,J U r.c.k,J U r.c.tc,J U r.c.tn,J U r.c.tt,J U r.c.tk,J U r.c.sh, (.slice A1 r.c.rs.length k1), (.slice A2 r.c.ws.length k2),.bool r.c.cm,J U r.sq,J U r.d0,J U r.d1,J U r.d2,J U r.d3,J U r.d4,J U r.d5,J U r.d6,.bool r.kp] 0 w _ (below_on B0.out hb))
      have R2 := V (ownR_mk (B := w.heap.size) (ownsRow_setCells (b := w.heap.size) R1 (by simp) [J U r.ir,J U r.is,J U r.st,J U r.pn,J U r.pr,J U r.bn,J U r.br,J U r.c.k,J U r.c.tc,J U r.c.tn,J U r.c.tt,J U r.c.tk,J U r.c.sh, (.slice A1 r.c.rs.length k1), (.slice A2 r.c.ws.length k2),.bool r.c.cm,J U r.sq,J U r.d0,J U r.d1,J U r.d2,J U r.d3,J U r.d4,J U r.d5,J U r.d6,.bool r.kp] 0) (by simp))
      have W2 := V (ownW_mk (B := w.heap.size) (ownsRow_setCells (b := w.heap.size) W1 (by simp) [J U r.ir,J U r.is,J U r.st,J U r.pn,J U r.pr,J U r.bn,J U r.br,J U r.c.k,J U r.c.tc,J U r.c.tn,J U r.c.tt,J U r.c.tk,J U r.c.sh, (.slice A1 r.c.rs.length k1), (.slice A2 r.c.ws.length k2),.bool r.c.cm,J U r.sq,J U r.d0,J U r.d1,J U r.d2,J U r.d3,J U r.d4,J U r.d5,J U r.d6,.bool r.kp] 0) (by simp))
      clear R1 W1 N1 FP hb)
   | (with_reducible refine store_list rfl 67 _ _ rfl w.heap.size 0 [J U r.ir,J U r.is,J U r.st,J U r.pn,J U r.pr,J U r.bn,J U r.br,J U r.c.k,J U r.c.tc,J U r.c.tn,J U r.c.tt,J U r.c.tk,J U r.c.sh, (.slice A1 r.c.rs.length k1), (.slice A2 r.c.ws.length k2),.bool r.c.cm,J U r.sq,J U r.d0,J U r.d1,J U r.d2,J U r.d3,J U r.d4,J U r.d5,J U r.d6,.bool r.kp] rfl rfl TH.out (by kernel_rfl) (by kernel_rfl) ?_))
 refine bodyPost_ret (results30 rfl FH.out.cel.whole (by kernel_rfl)) rfl ?_
 exact ⟨_, _, rfl, R2.out, W2.out, B2.out⟩
end Go.Proofs.YtdachohcjpjblaaGreatDoor.Wi
