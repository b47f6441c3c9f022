/- Contract: a message with lists of its own; no conditions but those that it names. -/
import Derived.Test.YtnahboflpipfpaaNt
namespace Go.Proofs.Ytnahboflpipfpaa
open Go.ChangeShapes Go.WideShapes Go.ChangeAt Go.RowKit

theorem Hold.push {w : World} {b : Nat} {t : TypeId} {L : List Value} (h : Hold w b t L) (o : Obj) : Hold (w.alloc o) b t L := h.on (below_new (Below.refl _ _))
theorem Txt.push {F : Nat → Prop} {w : World} {x : Mv} (h : Txt F w x) (o : Obj) : Txt F (w.alloc o) x := h.below (below_new (Below.refl _ _))
theorem mv_one {x : Mv} {A A' : Option Addr} {n n' c c' : Nat} (h : x.va = .slice A n c) (h' : x.vb = .slice A' n' c') : x.cells.all (·.oneCell') = true := by
  simp only [Mv.cells, h, h']
  rfl
theorem Txt.one {F : Nat → Prop} {w : World} {x : Mv} (h : Txt F w x) : x.cells.all (·.oneCell') = true := by
  obtain ⟨A, c, e, _⟩ := rowN_sliceOf h.rs
  obtain ⟨A', c', e', _⟩ := rowN_sliceOf h.ws
  exact mv_one e e'
theorem OwnM.one {B : Nat} {w : World} {x : Mv} (h : OwnM B w x) : x.cells.all (·.oneCell') = true := (h.txt (F := fun _ => False) (fun _ e => e.elim)).one
/-- What apart answers. -/
def Apt (x : Mv) (w : World) (e : Ending) (w' : World) : Prop := ∃ va vb, e = .returned (Mv.val ⟨x.m, va, vb⟩) ∧ OwnM w.heap.size w' ⟨x.m, va, vb⟩ ∧ Below w.heap.size w w'
/-- What Message answers at one. -/
def Mgd (x : Mv) (w : World) (e : Ending) (w' : World) : Prop := ∃ va vb, e = .returned (.tuple #[.agg (Mv.cells ⟨x.m, va, vb⟩).toArray, .bool true]) ∧ OwnM w.heap.size w' ⟨x.m, va, vb⟩ ∧ Below w.heap.size w w'
theorem message_mv {w : World} {F : Nat → Prop} {x : Mv} (h : Txt F w x) (K : M.Mod x.m.r.c) : Calls Try.prog 47 #[.iface 49 (.agg x.cells.toArray)] w (Mgd x w) :=
  (get39_msg x.m h.rs h.ws K.l K.l').mono fun _ _ ⟨va, vb, e, o1, o2, b⟩ => ⟨va, vb, e, ⟨o1, o2⟩, b⟩
theorem ownR_put {B b : Nat} {w : World} {v : Value} {l : List (List UInt8 × Int × Int)} (h : OwnR B w v l) (hb : b < B) (L : List Value) (o : Nat) : OwnR B (w.setCells b o L) v l := by
  obtain ⟨B', hB, q⟩ := h
  exact ⟨B', hB, ownsRow_setCells q (by omega) L o⟩
theorem ownW_put {B b : Nat} {w : World} {v : Value} {l : List (List UInt8 × List UInt8)} (h : OwnW B w v l) (hb : b < B) (L : List Value) (o : Nat) : OwnW B (w.setCells b o L) v l := by
  obtain ⟨B', hB, q⟩ := h
  exact ⟨B', hB, ownsRow_setCells q (by omega) L o⟩
theorem ownM_put {B b : Nat} {w : World} {x : Mv} (h : OwnM B w x) (hb : b < B) (L : List Value) (o : Nat) : OwnM B (w.setCells b o L) x := ⟨ownR_put h.rs hb L o, ownW_put h.ws hb L o⟩
theorem ownM_push {B : Nat} {w : World} {x : Mv} (h : OwnM B w x) (o : Obj) : OwnM B (w.alloc o) x := by
  obtain ⟨⟨B1, h1, q1⟩, ⟨B2, h2, q2⟩⟩ := h
  exact ⟨⟨B1, h1, ownsRow_pushN q1 o⟩, ⟨B2, h2, ownsRow_pushN q2 o⟩⟩
theorem ownM_base {B B' : Nat} {w : World} {x : Mv} (h : OwnM B w x) (hb : B' ≤ B) : OwnM B' w x := by
  obtain ⟨⟨B1, h1, q1⟩, ⟨B2, h2, q2⟩⟩ := h
  exact ⟨⟨B1, by omega, q1⟩, ⟨B2, by omega, q2⟩⟩

set_option maxHeartbeats 8000000 in
set_option maxRecDepth 100000 in
theorem apart_mv {w : World} {F : Nat → Prop} {x : Mv} (h : Txt F w x) (K : M.Mod x.m.r.c) : Calls Try.prog 36 #[x.val] w (Apt x w) := by
  have HT := Lib.hid ((h.push (.cells x.cells.toArray 49)).push (.cells #[.int .i64 0, .int .i64 0, .int .i64 0, .int .i64 0, .int .i64 0, .int .i64 0, .int .i64 0, .int .i64 0, .int .i64 0, .int .i64 0, .int .i64 0, .int .i64 0, .int .i64 0, .int .i64 0, .int .i64 0, .int .i64 0, .int .i64 0, .int .i64 0, .slice none 0 0, .slice none 0 0, .bool false, .int .i64 0, .int .i64 0, .int .i64 0, .int .i64 0, .int .i64 0, .int .i64 0, .int .i64 0, .int .i64 0, .bool false] 49))
  have HX := Lib.hid (((Hold.new w x.cells 49).push (.cells #[.int .i64 0, .int .i64 0, .int .i64 0, .int .i64 0, .int .i64 0, .int .i64 0, .int .i64 0, .int .i64 0, .int .i64 0, .int .i64 0, .int .i64 0, .int .i64 0, .int .i64 0, .int .i64 0, .int .i64 0, .int .i64 0, .int .i64 0, .int .i64 0, .slice none 0 0, .slice none 0 0, .bool false, .int .i64 0, .int .i64 0, .int .i64 0, .int .i64 0, .int .i64 0, .int .i64 0, .int .i64 0, .int .i64 0, .bool false] 49)).cel.whole)
  have HR := Lib.hid (show Hold ((w.alloc (.cells x.cells.toArray 49)).alloc (.cells #[.int .i64 0, .int .i64 0, .int .i64 0, .int .i64 0, .int .i64 0, .int .i64 0, .int .i64 0, .int .i64 0, .int .i64 0, .int .i64 0, .int .i64 0, .int .i64 0, .int .i64 0, .int .i64 0, .int .i64 0, .int .i64 0, .int .i64 0, .int .i64 0, .slice none 0 0, .slice none 0 0, .bool false, .int .i64 0, .int .i64 0, .int .i64 0, .int .i64 0, .int .i64 0, .int .i64 0, .int .i64 0, .int .i64 0, .bool false] 49)) (w.heap.size + 1) 49 [.int .i64 0, .int .i64 0, .int .i64 0, .int .i64 0, .int .i64 0, .int .i64 0, .int .i64 0, .int .i64 0, .int .i64 0, .int .i64 0, .int .i64 0, .int .i64 0, .int .i64 0, .int .i64 0, .int .i64 0, .int .i64 0, .int .i64 0, .int .i64 0, .slice none 0 0, .slice none 0 0, .bool false, .int .i64 0, .int .i64 0, .int .i64 0, .int .i64 0, .int .i64 0, .int .i64 0, .int .i64 0, .int .i64 0, .bool false] from by have := Hold.new (w.alloc (.cells x.cells.toArray 49)) [.int .i64 0, .int .i64 0, .int .i64 0, .int .i64 0, .int .i64 0, .int .i64 0, .int .i64 0, .int .i64 0, .int .i64 0, .int .i64 0, .int .i64 0, .int .i64 0, .int .i64 0, .int .i64 0, .int .i64 0, .int .i64 0, .int .i64 0, .int .i64 0, .slice none 0 0, .slice none 0 0, .bool false, .int .i64 0, .int .i64 0, .int .i64 0, .int .i64 0, .int .i64 0, .int .i64 0, .int .i64 0, .int .i64 0, .bool false] 49; simpa using this)
  have B0 := Lib.hid (below_new (o := .cells #[.int .i64 0, .int .i64 0, .int .i64 0, .int .i64 0, .int .i64 0, .int .i64 0, .int .i64 0, .int .i64 0, .int .i64 0, .int .i64 0, .int .i64 0, .int .i64 0, .int .i64 0, .int .i64 0, .int .i64 0, .int .i64 0, .int .i64 0, .int .i64 0, .slice none 0 0, .slice none 0 0, .bool false, .int .i64 0, .int .i64 0, .int .i64 0, .int .i64 0, .int .i64 0, .int .i64 0, .int .i64 0, .int .i64 0, .bool false] 49) (below_new (o := .cells x.cells.toArray 49) (Below.refl w.heap.size w)))
  clear h
  show Calls Try.prog 36 #[.agg x.cells.toArray] w (Apt x w)
  go_enter Try.func36, Try.ntmps36
  go_wp2_with
    (first
     | (go_at_call 47
        refine (message_mv HT.out K).mono ?_
        rintro e w1 ⟨va, vb, rfl, o, hb⟩
        have R1 := HR.out.on hb
        have TH := Lib.hid (show (w1.alloc (.cells (Mv.cells ⟨x.m, va, vb⟩).toArray 49)).there (w.heap.size + 1) 0 (Mv.cells ⟨x.m, va, vb⟩).length from (R1.push _).there (by show 0 + 30 ≤ 30; omega))
        have CW := Lib.hid (Hold.new w1 (Mv.cells ⟨x.m, va, vb⟩) 49).cel.whole
        have FH := Lib.hid (Hold.set (Mv.cells ⟨x.m, va, vb⟩) [] [.int .i64 0, .int .i64 0, .int .i64 0, .int .i64 0, .int .i64 0, .int .i64 0, .int .i64 0, .int .i64 0, .int .i64 0, .int .i64 0, .int .i64 0, .int .i64 0, .int .i64 0, .int .i64 0, .int .i64 0, .int .i64 0, .int .i64 0, .int .i64 0, .slice none 0 0, .slice none 0 0, .bool false, .int .i64 0, .int .i64 0, .int .i64 0, .int .i64 0, .int .i64 0, .int .i64 0, .int .i64 0, .int .i64 0, .bool false] [] rfl _ (R1.push (.cells (Mv.cells ⟨x.m, va, vb⟩).toArray 49)))
        have HO := Lib.hid o
        have B1 := below_on B0.out hb
        have B2 := Lib.hid (below_setCells (show w.heap.size ≤ w.heap.size + 1 by omega) (Mv.cells ⟨x.m, va, vb⟩) 0 w _ (below_new (o := .cells (Mv.cells ⟨x.m, va, vb⟩).toArray 49) B1))
        have HS := Lib.hid (show w.heap.size + 2 ≤ w1.heap.size from by have := hb.size; simp at this; omega)
        clear R1 B1 hb o)
     | (with_reducible refine wpList_load_mid rfl 49 _ rfl w.heap.size 0 rfl _ _ HX.out Try.underlying49 rfl (mv_size _) ?_)
     | (with_reducible refine wpList_store_fresh rfl 49 _ _ rfl _ rfl 49 _ (Mv.cells ⟨x.m, va, vb⟩) rfl rfl rfl (mv_size _) HO.out.one ?_)
     | (with_reducible refine wpList_load_mid rfl 49 _ rfl _ 0 rfl _ _ CW.out Try.underlying49 rfl (mv_size _) ?_)
     | (with_reducible refine store_list rfl 49 _ _ rfl (w.heap.size + 1) 0 (Mv.cells ⟨x.m, va, vb⟩) rfl rfl TH.out (mv_size _) HO.out.one ?_))
  refine bodyPost_ret (results_c rfl rfl FH.out.cel.whole _ Try.underlying49 rfl (by kernel_rfl)) rfl ?_
  exact ⟨va, vb, by simp only [List.nil_append, List.append_nil]; rfl, ownM_base (ownM_put (ownM_push HO.out _) (by simp) _ _) (by simp; omega), B2.out⟩
end Go.Proofs.Ytnahboflpipfpaa
