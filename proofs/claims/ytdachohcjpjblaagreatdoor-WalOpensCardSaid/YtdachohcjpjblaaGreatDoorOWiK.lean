/- The document's Decode: contract; no conditions but those that they name. -/
import Derived.Test.YtdachohcjpjblaaGreatDoorOWiJ
import Derived.Great.BuildSlice
set_option maxHeartbeats 8000000
set_option maxRecDepth 100000
open Go.Value renaming int → J
open Go.IntKind renaming i64 → U
open Go.Lib renaming hid → V
namespace Go.Proofs.YtdachohcjpjblaaGreatDoor.Wi
open Go.ChangeShapes Go.WideShapes Go.ChangeAt Go.RowKit
theorem docf_rec {w : World} (r : M.Rec) {va vb : Value} (h : Rds w va r.c.rs) (h' : Wrs w vb r.c.ws) (F : M.Mod r.c) : Calls Tryz.prog 59 #[.agg #[J U r.ir,J U r.is,J U r.st,J U r.pn,J U r.pr,J U r.bn,J U r.br,J U r.c.k,J U r.c.tc,J U r.c.tn,J U r.c.tt,J U r.c.tk,J U r.c.sh, va, vb,.bool r.c.cm,J U r.sq,J U r.d0,J U r.d1,J U r.d2,J U r.d3,J U r.d4,J U r.d5,J U r.d6,.bool r.kp]] w fun e w' => e = .returned (.bool (M.rightR r)) ∧ Below w.heap.size w w' := by
 rw [← M.right_eq]; exact dright_rec r h h' F
theorem docf_msg {w : World} (m : M.Msg) {va vb : Value} (h : Rds w va m.r.c.rs) (h' : Wrs w vb m.r.c.ws) (F : M.Mod m.r.c) : Calls Tryz.prog 62 #[.agg #[J U m.k,J U m.fr,J U m.to,J U m.bn,J U m.br,J U m.r.ir,J U m.r.is,J U m.r.st,J U m.r.pn,J U m.r.pr,J U m.r.bn,J U m.r.br,J U m.r.c.k,J U m.r.c.tc,J U m.r.c.tn,J U m.r.c.tt,J U m.r.c.tk,J U m.r.c.sh, va, vb,.bool m.r.c.cm,J U m.r.sq,J U m.r.d0,J U m.r.d1,J U m.r.d2,J U m.r.d3,J U m.r.d4,J U m.r.d5,J U m.r.d6,.bool m.r.kp]] w fun e w' => e = .returned (.bool (M.rightM m)) ∧ Below w.heap.size w w' := by
 rw [← M.rightM_eq]; exact dright_msg m h h' F
def AnyV (w : World) : P.Val → Value → Prop
 | .inl c, x => ∃ va vb, x = .agg #[J U 1,J U c.k,J U c.tc,J U c.tn,J U c.tt,J U c.tk,J U c.sh, va, vb,.bool c.cm,J U 0,J U 0,J U 0,J U 0,J U 0,J U 0,J U 0,J U 0,J U 0,J U 0,J U 0,J U 0,J U 0,.slice none 0 0,.slice none 0 0,.bool false,J U 0,J U 0,J U 0,J U 0,J U 0,J U 0,J U 0,J U 0,.bool false,J U 0,J U 0,J U 0,J U 0,J U 0,J U 0,J U 0,J U 0,J U 0,J U 0,J U 0,J U 0,J U 0,J U 0,J U 0,J U 0,J U 0,J U 0,.slice none 0 0,.slice none 0 0,.bool false,J U 0,J U 0,J U 0,J U 0,J U 0,J U 0,J U 0,J U 0,.bool false] ∧ Rds w va c.rs ∧ Wrs w vb c.ws ∧ M.Mod c
 | .inr (.inl r), x => ∃ va vb, x = .agg #[J U 2,J U 0,J U 0,J U 0,J U 0,J U 0,J U 0,.slice none 0 0,.slice none 0 0,.bool false,J U r.ir,J U r.is,J U r.st,J U r.pn,J U r.pr,J U r.bn,J U r.br,J U r.c.k,J U r.c.tc,J U r.c.tn,J U r.c.tt,J U r.c.tk,J U r.c.sh, va, vb,.bool r.c.cm,J U r.sq,J U r.d0,J U r.d1,J U r.d2,J U r.d3,J U r.d4,J U r.d5,J U r.d6,.bool r.kp,J U 0,J U 0,J U 0,J U 0,J U 0,J U 0,J U 0,J U 0,J U 0,J U 0,J U 0,J U 0,J U 0,J U 0,J U 0,J U 0,J U 0,J U 0,.slice none 0 0,.slice none 0 0,.bool false,J U 0,J U 0,J U 0,J U 0,J U 0,J U 0,J U 0,J U 0,.bool false] ∧ Rds w va r.c.rs ∧ Wrs w vb r.c.ws ∧ M.Mod r.c
 | .inr (.inr m), x => ∃ va vb, x = .agg #[J U 3,J U 0,J U 0,J U 0,J U 0,J U 0,J U 0,.slice none 0 0,.slice none 0 0,.bool false,J U 0,J U 0,J U 0,J U 0,J U 0,J U 0,J U 0,J U 0,J U 0,J U 0,J U 0,J U 0,J U 0,.slice none 0 0,.slice none 0 0,.bool false,J U 0,J U 0,J U 0,J U 0,J U 0,J U 0,J U 0,J U 0,.bool false,J U m.k,J U m.fr,J U m.to,J U m.bn,J U m.br,J U m.r.ir,J U m.r.is,J U m.r.st,J U m.r.pn,J U m.r.pr,J U m.r.bn,J U m.r.br,J U m.r.c.k,J U m.r.c.tc,J U m.r.c.tn,J U m.r.c.tt,J U m.r.c.tk,J U m.r.c.sh, va, vb,.bool m.r.c.cm,J U m.r.sq,J U m.r.d0,J U m.r.d1,J U m.r.d2,J U m.r.d3,J U m.r.d4,J U m.r.d5,J U m.r.d6,.bool m.r.kp] ∧ Rds w va m.r.c.rs ∧ Wrs w vb m.r.c.ws ∧ M.Mod m.r.c
def AnyO (w : World) (base : Nat) : P.Val → Value → Prop
 | .inl c, x => ∃ va vb, x = .agg #[J U 1,J U c.k,J U c.tc,J U c.tn,J U c.tt,J U c.tk,J U c.sh, va, vb,.bool c.cm,J U 0,J U 0,J U 0,J U 0,J U 0,J U 0,J U 0,J U 0,J U 0,J U 0,J U 0,J U 0,J U 0,.slice none 0 0,.slice none 0 0,.bool false,J U 0,J U 0,J U 0,J U 0,J U 0,J U 0,J U 0,J U 0,.bool false,J U 0,J U 0,J U 0,J U 0,J U 0,J U 0,J U 0,J U 0,J U 0,J U 0,J U 0,J U 0,J U 0,J U 0,J U 0,J U 0,J U 0,J U 0,.slice none 0 0,.slice none 0 0,.bool false,J U 0,J U 0,J U 0,J U 0,J U 0,J U 0,J U 0,J U 0,.bool false] ∧ w.ownsRow base 113 3 va c.rs.length (rdsC c.rs) ∧ w.ownsRow base 115 2 vb c.ws.length (wrsC c.ws) ∧ M.Mod c
 | .inr (.inl r), x => ∃ va vb, x = .agg #[J U 2,J U 0,J U 0,J U 0,J U 0,J U 0,J U 0,.slice none 0 0,.slice none 0 0,.bool false,J U r.ir,J U r.is,J U r.st,J U r.pn,J U r.pr,J U r.bn,J U r.br,J U r.c.k,J U r.c.tc,J U r.c.tn,J U r.c.tt,J U r.c.tk,J U r.c.sh, va, vb,.bool r.c.cm,J U r.sq,J U r.d0,J U r.d1,J U r.d2,J U r.d3,J U r.d4,J U r.d5,J U r.d6,.bool r.kp,J U 0,J U 0,J U 0,J U 0,J U 0,J U 0,J U 0,J U 0,J U 0,J U 0,J U 0,J U 0,J U 0,J U 0,J U 0,J U 0,J U 0,J U 0,.slice none 0 0,.slice none 0 0,.bool false,J U 0,J U 0,J U 0,J U 0,J U 0,J U 0,J U 0,J U 0,.bool false] ∧ w.ownsRow base 113 3 va r.c.rs.length (rdsC r.c.rs) ∧ w.ownsRow base 115 2 vb r.c.ws.length (wrsC r.c.ws) ∧ M.Mod r.c
 | .inr (.inr m), x => ∃ va vb, x = .agg #[J U 3,J U 0,J U 0,J U 0,J U 0,J U 0,J U 0,.slice none 0 0,.slice none 0 0,.bool false,J U 0,J U 0,J U 0,J U 0,J U 0,J U 0,J U 0,J U 0,J U 0,J U 0,J U 0,J U 0,J U 0,.slice none 0 0,.slice none 0 0,.bool false,J U 0,J U 0,J U 0,J U 0,J U 0,J U 0,J U 0,J U 0,.bool false,J U m.k,J U m.fr,J U m.to,J U m.bn,J U m.br,J U m.r.ir,J U m.r.is,J U m.r.st,J U m.r.pn,J U m.r.pr,J U m.r.bn,J U m.r.br,J U m.r.c.k,J U m.r.c.tc,J U m.r.c.tn,J U m.r.c.tt,J U m.r.c.tk,J U m.r.c.sh, va, vb,.bool m.r.c.cm,J U m.r.sq,J U m.r.d0,J U m.r.d1,J U m.r.d2,J U m.r.d3,J U m.r.d4,J U m.r.d5,J U m.r.d6,.bool m.r.kp] ∧ w.ownsRow base 113 3 va m.r.c.rs.length (rdsC m.r.c.rs) ∧ w.ownsRow base 115 2 vb m.r.c.ws.length (wrsC m.r.c.ws) ∧ M.Mod m.r.c
theorem AnyO.bel {w w' : World} {g base : Nat} {v : P.Val} {x : Value} (h : AnyO w base v x) (k : Bel g w.heap.size w w') (hg : g < base) : AnyO w' base v x := by
 rcases v with c | r | m
 ·obtain ⟨va, vb, e, h1, h2, h3⟩ := h
  exact ⟨va, vb, e, ownsRow_bel h1 k hg, ownsRow_bel h2 k hg, h3⟩
 ·obtain ⟨va, vb, e, h1, h2, h3⟩ := h
  exact ⟨va, vb, e, ownsRow_bel h1 k hg, ownsRow_bel h2 k hg, h3⟩
 ·obtain ⟨va, vb, e, h1, h2, h3⟩ := h
  exact ⟨va, vb, e, ownsRow_bel h1 k hg, ownsRow_bel h2 k hg, h3⟩
theorem AnyO.low {w : World} {base base' : Nat} {v : P.Val} {x : Value} (h : AnyO w base v x) (hb : base' ≤ base) : AnyO w base' v x := by
 rcases v with c | r | m
 ·obtain ⟨va, vb, e, h1, h2, h3⟩ := h
  exact ⟨va, vb, e, ownsRow_baseN h1 hb, ownsRow_baseN h2 hb, h3⟩
 ·obtain ⟨va, vb, e, h1, h2, h3⟩ := h
  exact ⟨va, vb, e, ownsRow_baseN h1 hb, ownsRow_baseN h2 hb, h3⟩
 ·obtain ⟨va, vb, e, h1, h2, h3⟩ := h
  exact ⟨va, vb, e, ownsRow_baseN h1 hb, ownsRow_baseN h2 hb, h3⟩
def DcD (w : World) (y : Except Nat P.Val) (e : Ending) (w' : World) : Prop := Below w.heap.size w w' ∧ match y with
 | .error n => e = .returned (.tuple #[.agg #[J U 0,J U 0,J U 0,J U 0,J U 0,J U 0,J U 0,.slice none 0 0,.slice none 0 0,.bool false,J U 0,J U 0,J U 0,J U 0,J U 0,J U 0,J U 0,J U 0,J U 0,J U 0,J U 0,J U 0,J U 0,.slice none 0 0,.slice none 0 0,.bool false,J U 0,J U 0,J U 0,J U 0,J U 0,J U 0,J U 0,J U 0,.bool false,J U 0,J U 0,J U 0,J U 0,J U 0,J U 0,J U 0,J U 0,J U 0,J U 0,J U 0,J U 0,J U 0,J U 0,J U 0,J U 0,J U 0,J U 0,.slice none 0 0,.slice none 0 0,.bool false,J U 0,J U 0,J U 0,J U 0,J U 0,J U 0,J U 0,J U 0,.bool false],J U (n : Int)])
 | .ok v => ∃ x, e = .returned (.tuple #[x,J U 0]) ∧ AnyO w' w.heap.size v x
theorem Cel.sub_of {w : World} {b o : Nat} {T L : List Value} (h : Cel w b T) (hL : (T.drop o).take L.length = L) : w.rangeAt b o L := fun j x hj => by
 refine h.get (o + j) x ?_
 rw [← hL] at hj
 have := (List.getElem?_eq_some_iff.1 hj).1
 rw [List.length_take] at this
 rw [List.getElem?_take_of_lt (by omega), List.getElem?_drop] at hj
 exact hj
theorem bad_facts {w wd : World} {vs : Value} {er : Int} {L : List Value} (PD : Hold wd (w.heap.size + 1) 119 [vs,J U er]) (OD : Hold wd w.heap.size 97 L) (BD : Below w.heap.size w wd) :
 wd.drew.cell? ⟨w.heap.size + 1, 1, none⟩ = some (J U er) ∧ wd.drew.there w.heap.size 0 L.length ∧ (wd.drew.setCells w.heap.size 0 L).cell? ⟨w.heap.size + 1, 1, none⟩ = some (J U er) ∧ Hold (wd.drew.setCells w.heap.size 0 L) w.heap.size 97 L ∧ Below w.heap.size w (wd.drew.setCells w.heap.size 0 L) := by
 have SO := bel_setCells wd.drew w.heap.size L 0
 have FO := Hold.set L [] L [] rfl _ (show Hold wd.drew w.heap.size 97 ([] ++ L ++ []) by rw [List.nil_append, List.append_nil]; exact OD)
 rw [List.nil_append, List.append_nil] at FO
 exact ⟨(show Hold wd.drew _ _ _ from PD).cell 1 rfl, (show Hold wd.drew _ _ _ from OD).there (by omega), ((show Hold wd.drew _ _ _ from PD).bel SO (by omega)).cell 1 rfl, FO, below_setCells (Nat.le_refl w.heap.size) L 0 _ _ BD.drew⟩
theorem decode_doc {w : World} {u : Value} {xs : List UInt8} (h : Bts w u xs) : Calls Tryz.prog 38 #[u] w (DcD w (P.dec xs)) := by
 obtain ⟨A0, c0, e0, hc, hx⟩ := h
 rw [List.length_map] at e0 hc
 subst e0
 have D0 := V (show Prt w (.agg #[.slice A0 xs.length c0,J U (((⟨xs, 0⟩ : P.Sr).er : Nat) : Int)]) ⟨xs, 0⟩ from ⟨A0, c0, rfl, ⟨A0, c0, by rw [List.length_map], by rw [List.length_map]; exact hc, hx⟩⟩)
 have HW := V (Below.refl w.heap.size w)
 have O0 := V (((Hold.new w [J U 0,J U 0,J U 0,J U 0,J U 0,J U 0,J U 0,.slice none 0 0,.slice none 0 0,.bool false,J U 0,J U 0,J U 0,J U 0,J U 0,J U 0,J U 0,J U 0,J U 0,J U 0,J U 0,J U 0,J U 0,.slice none 0 0,.slice none 0 0,.bool false,J U 0,J U 0,J U 0,J U 0,J U 0,J U 0,J U 0,J U 0,.bool false,J U 0,J U 0,J U 0,J U 0,J U 0,J U 0,J U 0,J U 0,J U 0,J U 0,J U 0,J U 0,J U 0,J U 0,J U 0,J U 0,J U 0,J U 0,.slice none 0 0,.slice none 0 0,.bool false,J U 0,J U 0,J U 0,J U 0,J U 0,J U 0,J U 0,J U 0,.bool false] 97).alloc (.cells #[.slice A0 xs.length c0,J U 0] 119)).alloc (.cells #[J U 0,J U 0,J U 0,J U 0,J U 0,J U 0,J U 0,.slice none 0 0,.slice none 0 0,.bool false,J U 0,J U 0,J U 0,J U 0,J U 0,J U 0,J U 0,J U 0,J U 0,J U 0,J U 0,J U 0,J U 0,.slice none 0 0,.slice none 0 0,.bool false,J U 0,J U 0,J U 0,J U 0,J U 0,J U 0,J U 0,J U 0,.bool false,J U 0,J U 0,J U 0,J U 0,J U 0,J U 0,J U 0,J U 0,J U 0,J U 0,J U 0,J U 0,J U 0,J U 0,J U 0,J U 0,J U 0,J U 0,.slice none 0 0,.slice none 0 0,.bool false,J U 0,J U 0,J U 0,J U 0,J U 0,J U 0,J U 0,J U 0,.bool false] 97))
 have P0 := V ((Hold.new1 w (.cells #[J U 0,J U 0,J U 0,J U 0,J U 0,J U 0,J U 0,.slice none 0 0,.slice none 0 0,.bool false,J U 0,J U 0,J U 0,J U 0,J U 0,J U 0,J U 0,J U 0,J U 0,J U 0,J U 0,J U 0,J U 0,.slice none 0 0,.slice none 0 0,.bool false,J U 0,J U 0,J U 0,J U 0,J U 0,J U 0,J U 0,J U 0,.bool false,J U 0,J U 0,J U 0,J U 0,J U 0,J U 0,J U 0,J U 0,J U 0,J U 0,J U 0,J U 0,J U 0,J U 0,J U 0,J U 0,J U 0,J U 0,.slice none 0 0,.slice none 0 0,.bool false,J U 0,J U 0,J U 0,J U 0,J U 0,J U 0,J U 0,J U 0,.bool false] 97) [.slice A0 xs.length c0,J U 0] 119).alloc (.cells #[J U 0,J U 0,J U 0,J U 0,J U 0,J U 0,J U 0,.slice none 0 0,.slice none 0 0,.bool false,J U 0,J U 0,J U 0,J U 0,J U 0,J U 0,J U 0,J U 0,J U 0,J U 0,J U 0,J U 0,J U 0,.slice none 0 0,.slice none 0 0,.bool false,J U 0,J U 0,J U 0,J U 0,J U 0,J U 0,J U 0,J U 0,.bool false,J U 0,J U 0,J U 0,J U 0,J U 0,J U 0,J U 0,J U 0,J U 0,J U 0,J U 0,J U 0,J U 0,J U 0,J U 0,J U 0,J U 0,J U 0,.slice none 0 0,.slice none 0 0,.bool false,J U 0,J U 0,J U 0,J U 0,J U 0,J U 0,J U 0,J U 0,.bool false] 97))
 have U0 := V (show Hold (((w.alloc (.cells #[J U 0,J U 0,J U 0,J U 0,J U 0,J U 0,J U 0,.slice none 0 0,.slice none 0 0,.bool false,J U 0,J U 0,J U 0,J U 0,J U 0,J U 0,J U 0,J U 0,J U 0,J U 0,J U 0,J U 0,J U 0,.slice none 0 0,.slice none 0 0,.bool false,J U 0,J U 0,J U 0,J U 0,J U 0,J U 0,J U 0,J U 0,.bool false,J U 0,J U 0,J U 0,J U 0,J U 0,J U 0,J U 0,J U 0,J U 0,J U 0,J U 0,J U 0,J U 0,J U 0,J U 0,J U 0,J U 0,J U 0,.slice none 0 0,.slice none 0 0,.bool false,J U 0,J U 0,J U 0,J U 0,J U 0,J U 0,J U 0,J U 0,.bool false] 97)).alloc (.cells #[.slice A0 xs.length c0,J U 0] 119)).alloc (.cells #[J U 0,J U 0,J U 0,J U 0,J U 0,J U 0,J U 0,.slice none 0 0,.slice none 0 0,.bool false,J U 0,J U 0,J U 0,J U 0,J U 0,J U 0,J U 0,J U 0,J U 0,J U 0,J U 0,J U 0,J U 0,.slice none 0 0,.slice none 0 0,.bool false,J U 0,J U 0,J U 0,J U 0,J U 0,J U 0,J U 0,J U 0,.bool false,J U 0,J U 0,J U 0,J U 0,J U 0,J U 0,J U 0,J U 0,J U 0,J U 0,J U 0,J U 0,J U 0,J U 0,J U 0,J U 0,J U 0,J U 0,.slice none 0 0,.slice none 0 0,.bool false,J U 0,J U 0,J U 0,J U 0,J U 0,J U 0,J U 0,J U 0,.bool false] 97)) (w.heap.size + 2) 97 [J U 0,J U 0,J U 0,J U 0,J U 0,J U 0,J U 0,.slice none 0 0,.slice none 0 0,.bool false,J U 0,J U 0,J U 0,J U 0,J U 0,J U 0,J U 0,J U 0,J U 0,J U 0,J U 0,J U 0,J U 0,.slice none 0 0,.slice none 0 0,.bool false,J U 0,J U 0,J U 0,J U 0,J U 0,J U 0,J U 0,J U 0,.bool false,J U 0,J U 0,J U 0,J U 0,J U 0,J U 0,J U 0,J U 0,J U 0,J U 0,J U 0,J U 0,J U 0,J U 0,J U 0,J U 0,J U 0,J U 0,.slice none 0 0,.slice none 0 0,.bool false,J U 0,J U 0,J U 0,J U 0,J U 0,J U 0,J U 0,J U 0,.bool false] by simpa using Hold.new ((w.alloc (.cells #[J U 0,J U 0,J U 0,J U 0,J U 0,J U 0,J U 0,.slice none 0 0,.slice none 0 0,.bool false,J U 0,J U 0,J U 0,J U 0,J U 0,J U 0,J U 0,J U 0,J U 0,J U 0,J U 0,J U 0,J U 0,.slice none 0 0,.slice none 0 0,.bool false,J U 0,J U 0,J U 0,J U 0,J U 0,J U 0,J U 0,J U 0,.bool false,J U 0,J U 0,J U 0,J U 0,J U 0,J U 0,J U 0,J U 0,J U 0,J U 0,J U 0,J U 0,J U 0,J U 0,J U 0,J U 0,J U 0,J U 0,.slice none 0 0,.slice none 0 0,.bool false,J U 0,J U 0,J U 0,J U 0,J U 0,J U 0,J U 0,J U 0,.bool false] 97)).alloc (.cells #[.slice A0 xs.length c0,J U 0] 119)) [J U 0,J U 0,J U 0,J U 0,J U 0,J U 0,J U 0,.slice none 0 0,.slice none 0 0,.bool false,J U 0,J U 0,J U 0,J U 0,J U 0,J U 0,J U 0,J U 0,J U 0,J U 0,J U 0,J U 0,J U 0,.slice none 0 0,.slice none 0 0,.bool false,J U 0,J U 0,J U 0,J U 0,J U 0,J U 0,J U 0,J U 0,.bool false,J U 0,J U 0,J U 0,J U 0,J U 0,J U 0,J U 0,J U 0,J U 0,J U 0,J U 0,J U 0,J U 0,J U 0,J U 0,J U 0,J U 0,J U 0,.slice none 0 0,.slice none 0 0,.bool false,J U 0,J U 0,J U 0,J U 0,J U 0,J U 0,J U 0,J U 0,.bool false] 97)
 have B0 := V (below_new (o := .cells #[J U 0,J U 0,J U 0,J U 0,J U 0,J U 0,J U 0,.slice none 0 0,.slice none 0 0,.bool false,J U 0,J U 0,J U 0,J U 0,J U 0,J U 0,J U 0,J U 0,J U 0,J U 0,J U 0,J U 0,J U 0,.slice none 0 0,.slice none 0 0,.bool false,J U 0,J U 0,J U 0,J U 0,J U 0,J U 0,J U 0,J U 0,.bool false,J U 0,J U 0,J U 0,J U 0,J U 0,J U 0,J U 0,J U 0,J U 0,J U 0,J U 0,J U 0,J U 0,J U 0,J U 0,J U 0,J U 0,J U 0,.slice none 0 0,.slice none 0 0,.bool false,J U 0,J U 0,J U 0,J U 0,J U 0,J U 0,J U 0,J U 0,.bool false] 97) (below_new (o := .cells #[.slice A0 xs.length c0,J U 0] 119) (below_new (o := .cells #[J U 0,J U 0,J U 0,J U 0,J U 0,J U 0,J U 0,.slice none 0 0,.slice none 0 0,.bool false,J U 0,J U 0,J U 0,J U 0,J U 0,J U 0,J U 0,J U 0,J U 0,J U 0,J U 0,J U 0,J U 0,.slice none 0 0,.slice none 0 0,.bool false,J U 0,J U 0,J U 0,J U 0,J U 0,J U 0,J U 0,J U 0,.bool false,J U 0,J U 0,J U 0,J U 0,J U 0,J U 0,J U 0,J U 0,J U 0,J U 0,J U 0,J U 0,J U 0,J U 0,J U 0,J U 0,J U 0,J U 0,.slice none 0 0,.slice none 0 0,.bool false,J U 0,J U 0,J U 0,J U 0,J U 0,J U 0,J U 0,J U 0,.bool false] 97) (Below.refl w.heap.size w))))
 clear hc hx
 have ez : Tryz.zeroCells97 = #[J U 0,J U 0,J U 0,J U 0,J U 0,J U 0,J U 0,.slice none 0 0,.slice none 0 0,.bool false,J U 0,J U 0,J U 0,J U 0,J U 0,J U 0,J U 0,J U 0,J U 0,J U 0,J U 0,J U 0,J U 0,.slice none 0 0,.slice none 0 0,.bool false,J U 0,J U 0,J U 0,J U 0,J U 0,J U 0,J U 0,J U 0,.bool false,J U 0,J U 0,J U 0,J U 0,J U 0,J U 0,J U 0,J U 0,J U 0,J U 0,J U 0,J U 0,J U 0,J U 0,J U 0,J U 0,J U 0,J U 0,.slice none 0 0,.slice none 0 0,.bool false,J U 0,J U 0,J U 0,J U 0,J U 0,J U 0,J U 0,J U 0,.bool false] := by kernel_rfl
 have EZ := V ez
 clear ez
 go_enter Tryz.func38, Tryz.ntmps38
 go_wp2_with (first
  | (with_reducible refine wpList_store_fresh rfl 119 _ _ rfl (w.heap.size + 1) (by simp) 119 _ [.slice A0 xs.length c0,J U 0] rfl rfl rfl (by kernel_rfl) rfl ?_)
  | (with_reducible refine wpList_buildTo rfl 97 #[] rfl (some 9) rfl #[J U 0,J U 0,J U 0,J U 0,J U 0,J U 0,J U 0,.slice none 0 0,.slice none 0 0,.bool false,J U 0,J U 0,J U 0,J U 0,J U 0,J U 0,J U 0,J U 0,J U 0,J U 0,J U 0,J U 0,J U 0,.slice none 0 0,.slice none 0 0,.bool false,J U 0,J U 0,J U 0,J U 0,J U 0,J U 0,J U 0,J U 0,.bool false,J U 0,J U 0,J U 0,J U 0,J U 0,J U 0,J U 0,J U 0,J U 0,J U 0,J U 0,J U 0,J U 0,J U 0,J U 0,J U 0,J U 0,J U 0,.slice none 0 0,.slice none 0 0,.bool false,J U 0,J U 0,J U 0,J U 0,J U 0,J U 0,J U 0,J U 0,.bool false] (by kernel_rfl) ?_)
  | (rw [EZ.out]; with_reducible refine wpList_store_fresh rfl 97 _ _ rfl (w.heap.size + 1 + 1) (by simp) 97 _ [J U 0,J U 0,J U 0,J U 0,J U 0,J U 0,J U 0,.slice none 0 0,.slice none 0 0,.bool false,J U 0,J U 0,J U 0,J U 0,J U 0,J U 0,J U 0,J U 0,J U 0,J U 0,J U 0,J U 0,J U 0,.slice none 0 0,.slice none 0 0,.bool false,J U 0,J U 0,J U 0,J U 0,J U 0,J U 0,J U 0,J U 0,.bool false,J U 0,J U 0,J U 0,J U 0,J U 0,J U 0,J U 0,J U 0,J U 0,J U 0,J U 0,J U 0,J U 0,J U 0,J U 0,J U 0,J U 0,J U 0,.slice none 0 0,.slice none 0 0,.bool false,J U 0,J U 0,J U 0,J U 0,J U 0,J U 0,J U 0,J U 0,.bool false] rfl rfl rfl (by kernel_rfl) rfl ?_; obtain ⟨wk, ek⟩ : ∃ wk, wk = ((w.alloc (.cells #[J U 0,J U 0,J U 0,J U 0,J U 0,J U 0,J U 0,.slice none 0 0,.slice none 0 0,.bool false,J U 0,J U 0,J U 0,J U 0,J U 0,J U 0,J U 0,J U 0,J U 0,J U 0,J U 0,J U 0,J U 0,.slice none 0 0,.slice none 0 0,.bool false,J U 0,J U 0,J U 0,J U 0,J U 0,J U 0,J U 0,J U 0,.bool false,J U 0,J U 0,J U 0,J U 0,J U 0,J U 0,J U 0,J U 0,J U 0,J U 0,J U 0,J U 0,J U 0,J U 0,J U 0,J U 0,J U 0,J U 0,.slice none 0 0,.slice none 0 0,.bool false,J U 0,J U 0,J U 0,J U 0,J U 0,J U 0,J U 0,J U 0,.bool false] 97)).alloc (.cells #[.slice A0 xs.length c0,J U 0] 119)).alloc (.cells #[J U 0,J U 0,J U 0,J U 0,J U 0,J U 0,J U 0,.slice none 0 0,.slice none 0 0,.bool false,J U 0,J U 0,J U 0,J U 0,J U 0,J U 0,J U 0,J U 0,J U 0,J U 0,J U 0,J U 0,J U 0,.slice none 0 0,.slice none 0 0,.bool false,J U 0,J U 0,J U 0,J U 0,J U 0,J U 0,J U 0,J U 0,.bool false,J U 0,J U 0,J U 0,J U 0,J U 0,J U 0,J U 0,J U 0,J U 0,J U 0,J U 0,J U 0,J U 0,J U 0,J U 0,J U 0,J U 0,J U 0,.slice none 0 0,.slice none 0 0,.bool false,J U 0,J U 0,J U 0,J U 0,J U 0,J U 0,J U 0,J U 0,.bool false] 97) := ⟨_, rfl⟩; rw [← ek] at P0 O0 U0 B0 ⊢; clear ek; have p0 := P0.out.cell 0 rfl; have p1 := P0.out.cell 1 rfl))
 refine (one_doc (HW.out.trans B0.out) D0.out).mono ?_
 rintro e w1 ⟨s1, b, x1, rfl, -, hx, hb, hp⟩
 obtain ⟨A1, c1, rfl, hq⟩ := hx
 have D1 := V (show Prt w _ s1 from ⟨A1, c1, rfl, hq⟩)
 clear hq
 have P1 := V (P0.out.on hb)
 have O1 := V (O0.out.on hb)
 have U1 := V (U0.out.on hb)
 have B1 := V (below_on B0.out hb)
 have H1 := V hp
 clear hb hp
 clear P0 O0 U0 B0
 clear p0 p1
 have za0 := P1.out.cell 0 rfl
 have zb0 := P1.out.soft 0
 have za1 := P1.out.cell 1 rfl
 have zb1 := P1.out.soft 1
 have za2 := U1.out.cell 0 rfl
 have zb2 := U1.out.soft 0
 have P1a := V (show Hold ((w1).setCell ⟨(w.heap.size + 1), 0, none⟩ (.slice A1 s1.xs.length c1)) (w.heap.size + 1) 119 [.slice A1 s1.xs.length c1,J U 0] from P1.out.put 0 (.slice A1 s1.xs.length c1))
 have O1a := V (O1.out.bel (Bel.store (w1) (w.heap.size + 1) 0 (.slice A1 s1.xs.length c1)) (by omega))
 have U1a := V (U1.out.bel (Bel.store (w1) (w.heap.size + 1) 0 (.slice A1 s1.xs.length c1)) (by omega))
 have B1a := V (B1.out.setCell (p := ⟨(w.heap.size + 1), 0, none⟩) (by show w.heap.size ≤ (w.heap.size + 1); omega) (.slice A1 s1.xs.length c1))
 clear P1 O1 U1 B1
 have P1b := V (show Hold (((w1).setCell ⟨(w.heap.size + 1), 0, none⟩ (.slice A1 s1.xs.length c1)).setCell ⟨(w.heap.size + 1), 1, none⟩ (J U (s1.er : Int))) (w.heap.size + 1) 119 [.slice A1 s1.xs.length c1,J U (s1.er : Int)] from P1a.out.put 1 (J U (s1.er : Int)))
 have O1b := V (O1a.out.bel (Bel.store ((w1).setCell ⟨(w.heap.size + 1), 0, none⟩ (.slice A1 s1.xs.length c1)) (w.heap.size + 1) 1 (J U (s1.er : Int))) (by omega))
 have U1b := V (U1a.out.bel (Bel.store ((w1).setCell ⟨(w.heap.size + 1), 0, none⟩ (.slice A1 s1.xs.length c1)) (w.heap.size + 1) 1 (J U (s1.er : Int))) (by omega))
 have B1b := V (B1a.out.setCell (p := ⟨(w.heap.size + 1), 1, none⟩) (by show w.heap.size ≤ (w.heap.size + 1); omega) (J U (s1.er : Int)))
 clear P1a O1a U1a B1a
 have P1c := V (P1b.out.bel (Bel.store (((w1).setCell ⟨(w.heap.size + 1), 0, none⟩ (.slice A1 s1.xs.length c1)).setCell ⟨(w.heap.size + 1), 1, none⟩ (J U (s1.er : Int))) (w.heap.size + 2) 0 (encN b)) (by omega))
 have O1c := V (O1b.out.bel (Bel.store (((w1).setCell ⟨(w.heap.size + 1), 0, none⟩ (.slice A1 s1.xs.length c1)).setCell ⟨(w.heap.size + 1), 1, none⟩ (J U (s1.er : Int))) (w.heap.size + 2) 0 (encN b)) (by omega))
 have U1c := V (show Hold ((((w1).setCell ⟨(w.heap.size + 1), 0, none⟩ (.slice A1 s1.xs.length c1)).setCell ⟨(w.heap.size + 1), 1, none⟩ (J U (s1.er : Int))).setCell ⟨(w.heap.size + 2), 0, none⟩ (encN b)) (w.heap.size + 2) 97 [encN b,J U 0,J U 0,J U 0,J U 0,J U 0,J U 0,.slice none 0 0,.slice none 0 0,.bool false,J U 0,J U 0,J U 0,J U 0,J U 0,J U 0,J U 0,J U 0,J U 0,J U 0,J U 0,J U 0,J U 0,.slice none 0 0,.slice none 0 0,.bool false,J U 0,J U 0,J U 0,J U 0,J U 0,J U 0,J U 0,J U 0,.bool false,J U 0,J U 0,J U 0,J U 0,J U 0,J U 0,J U 0,J U 0,J U 0,J U 0,J U 0,J U 0,J U 0,J U 0,J U 0,J U 0,J U 0,J U 0,.slice none 0 0,.slice none 0 0,.bool false,J U 0,J U 0,J U 0,J U 0,J U 0,J U 0,J U 0,J U 0,.bool false] from U1b.out.put 0 (encN b))
 have B1c := V (B1b.out.setCell (p := ⟨(w.heap.size + 2), 0, none⟩) (by show w.heap.size ≤ (w.heap.size + 2); omega) (encN b))
 clear P1b O1b U1b B1b
 go_upto_if 18 with (fail)
 go_cut [6] from 10 to 93 (fun s6 wc => ∃ (s2 : P.Sr) (A2 : Option Addr) (c2 : Nat) (rb : Bool) (UL : List Value), s6 = .bool rb ∧ Hold wc (w.heap.size + 1) 119 [.slice A2 s2.xs.length c2,J U (s2.er : Int)] ∧ Hold wc w.heap.size 97 [J U 0,J U 0,J U 0,J U 0,J U 0,J U 0,J U 0,.slice none 0 0,.slice none 0 0,.bool false,J U 0,J U 0,J U 0,J U 0,J U 0,J U 0,J U 0,J U 0,J U 0,J U 0,J U 0,J U 0,J U 0,.slice none 0 0,.slice none 0 0,.bool false,J U 0,J U 0,J U 0,J U 0,J U 0,J U 0,J U 0,J U 0,.bool false,J U 0,J U 0,J U 0,J U 0,J U 0,J U 0,J U 0,J U 0,J U 0,J U 0,J U 0,J U 0,J U 0,J U 0,J U 0,J U 0,J U 0,J U 0,.slice none 0 0,.slice none 0 0,.bool false,J U 0,J U 0,J U 0,J U 0,J U 0,J U 0,J U 0,J U 0,.bool false] ∧ Hold wc (w.heap.size + 2) 97 UL ∧ UL.length = 65 ∧ UL.all (·.oneCell') = true ∧ Below w.heap.size w wc ∧ Prt w (.agg #[.slice A2 s2.xs.length c2,J U (s2.er : Int)]) s2 ∧ ((s2.er ≠ 0 ∧ ∀ v, P.Ran P.val ⟨xs, 0⟩ s2 v) ∨ ∃ v, P.Ran P.val ⟨xs, 0⟩ s2 v ∧ rb = P.rightV v ∧ AnyO wc (w.heap.size + 3) v (.agg UL.toArray)))
 case first =>
  by_cases h1 : b = 1
  ·subst h1
   go_wp2_with (fail)
   have hcs : w.heap.size + 3 ≤ ((((w1).setCell ⟨(w.heap.size + 1), 0, none⟩ (.slice A1 s1.xs.length c1)).setCell ⟨(w.heap.size + 1), 1, none⟩ (J U (s1.er : Int))).setCell ⟨(w.heap.size + 2), 0, none⟩ (encN 1)).heap.size := by have := U1c.out.lt; omega
   refine (command_doc (HW.out.trans B1c.out) D1.out).mono ?_
   rintro e w2 ⟨s2, c, va, vb, x2, rfl, hx, hra, hrb, hb, hp, hm⟩
   obtain ⟨A2, c2, rfl, hq⟩ := hx
   have D2 := V (show Prt w _ s2 from ⟨A2, c2, rfl, hq⟩)
   clear hq
   have P2 := V (P1c.out.on hb)
   have O2 := V (O1c.out.on hb)
   have U2 := V (U1c.out.on hb)
   have B2 := V (below_on B1c.out hb)
   have H2 := V hp
   have MD := V hm
   clear hb hp hm
   clear P1c O1c U1c B1c
   clear za0 zb0 za1 zb1 za2 zb2
   have Ix := V (ownsRow_baseN hra hcs)
   have Jx := V (ownsRow_baseN hrb hcs)
   clear hra hrb hcs
   obtain ⟨A1q, k1, rfl⟩ := ownsRow_slice Ix.out
   obtain ⟨A2q, k2, rfl⟩ := ownsRow_slice Jx.out
   have I2 := V Ix.out
   have J2 := V Jx.out
   clear Ix Jx
   have KI := V (fun q (e : (.slice A1q c.rs.length k1 : Value).ownBlock = some q) => World.ownsRow.lt I2.out q e)
   have KJ := V (fun q (e : (.slice A2q c.ws.length k2 : Value).ownBlock = some q) => World.ownsRow.lt J2.out q e)
   have za0 := P2.out.cell 0 rfl
   have zb0 := P2.out.soft 0
   have za1 := P2.out.cell 1 rfl
   have zb1 := P2.out.soft 1
   have P2a := V (show Hold ((w2).setCell ⟨(w.heap.size + 1), 0, none⟩ (.slice A2 s2.xs.length c2)) (w.heap.size + 1) 119 [.slice A2 s2.xs.length c2,J U (s1.er : Int)] from P2.out.put 0 (.slice A2 s2.xs.length c2))
   have O2a := V (O2.out.bel (Bel.store (w2) (w.heap.size + 1) 0 (.slice A2 s2.xs.length c2)) (by omega))
   have U2a := V (U2.out.bel (Bel.store (w2) (w.heap.size + 1) 0 (.slice A2 s2.xs.length c2)) (by omega))
   have I2a := V (ownsRow_put I2.out (w.heap.size + 1) 0 (.slice A2 s2.xs.length c2) (fun q e => by have := KI.out q e; omega))
   have J2a := V (ownsRow_put J2.out (w.heap.size + 1) 0 (.slice A2 s2.xs.length c2) (fun q e => by have := KJ.out q e; omega))
   have B2a := V (B2.out.setCell (p := ⟨(w.heap.size + 1), 0, none⟩) (by show w.heap.size ≤ (w.heap.size + 1); omega) (.slice A2 s2.xs.length c2))
   clear P2 O2 U2 I2 J2 B2
   have P2b := V (show Hold (((w2).setCell ⟨(w.heap.size + 1), 0, none⟩ (.slice A2 s2.xs.length c2)).setCell ⟨(w.heap.size + 1), 1, none⟩ (J U (s2.er : Int))) (w.heap.size + 1) 119 [.slice A2 s2.xs.length c2,J U (s2.er : Int)] from P2a.out.put 1 (J U (s2.er : Int)))
   have O2b := V (O2a.out.bel (Bel.store ((w2).setCell ⟨(w.heap.size + 1), 0, none⟩ (.slice A2 s2.xs.length c2)) (w.heap.size + 1) 1 (J U (s2.er : Int))) (by omega))
   have U2b := V (U2a.out.bel (Bel.store ((w2).setCell ⟨(w.heap.size + 1), 0, none⟩ (.slice A2 s2.xs.length c2)) (w.heap.size + 1) 1 (J U (s2.er : Int))) (by omega))
   have I2b := V (ownsRow_put I2a.out (w.heap.size + 1) 1 (J U (s2.er : Int)) (fun q e => by have := KI.out q e; omega))
   have J2b := V (ownsRow_put J2a.out (w.heap.size + 1) 1 (J U (s2.er : Int)) (fun q e => by have := KJ.out q e; omega))
   have B2b := V (B2a.out.setCell (p := ⟨(w.heap.size + 1), 1, none⟩) (by show w.heap.size ≤ (w.heap.size + 1); omega) (J U (s2.er : Int)))
   clear P2a O2a U2a I2a J2a B2a
   have T1 := V (show (((w2).setCell ⟨(w.heap.size + 1), 0, none⟩ (.slice A2 s2.xs.length c2)).setCell ⟨(w.heap.size + 1), 1, none⟩ (J U (s2.er : Int))).there (w.heap.size + 2) 1 ([J U c.k,J U c.tc,J U c.tn,J U c.tt,J U c.tk,J U c.sh,.slice A1q c.rs.length k1,.slice A2q c.ws.length k2,.bool c.cm] : List Value).length from U2b.out.there (by show 1 + 9 ≤ 65; omega))
   have se := bel_setCells (((w2).setCell ⟨(w.heap.size + 1), 0, none⟩ (.slice A2 s2.xs.length c2)).setCell ⟨(w.heap.size + 1), 1, none⟩ (J U (s2.er : Int))) (w.heap.size + 2) [J U c.k,J U c.tc,J U c.tn,J U c.tt,J U c.tk,J U c.sh,.slice A1q c.rs.length k1,.slice A2q c.ws.length k2,.bool c.cm] 1
   have FP := Hold.set [J U c.k,J U c.tc,J U c.tn,J U c.tt,J U c.tk,J U c.sh,.slice A1q c.rs.length k1,.slice A2q c.ws.length k2,.bool c.cm] [encN 1] [J U 0,J U 0,J U 0,J U 0,J U 0,J U 0,.slice none 0 0,.slice none 0 0,.bool false] ([J U 0,J U 0,J U 0,J U 0,J U 0,J U 0,J U 0,J U 0,J U 0,J U 0,J U 0,J U 0,J U 0,.slice none 0 0,.slice none 0 0,.bool false,J U 0,J U 0,J U 0,J U 0,J U 0,J U 0,J U 0,J U 0,.bool false,J U 0,J U 0,J U 0,J U 0,J U 0,J U 0,J U 0,J U 0,J U 0,J U 0,J U 0,J U 0,J U 0,J U 0,J U 0,J U 0,J U 0,J U 0,.slice none 0 0,.slice none 0 0,.bool false,J U 0,J U 0,J U 0,J U 0,J U 0,J U 0,J U 0,J U 0,.bool false] : List Value) rfl _ (show Hold (((w2).setCell ⟨(w.heap.size + 1), 0, none⟩ (.slice A2 s2.xs.length c2)).setCell ⟨(w.heap.size + 1), 1, none⟩ (J U (s2.er : Int))) (w.heap.size + 2) 97 ([encN 1] ++ [J U 0,J U 0,J U 0,J U 0,J U 0,J U 0,.slice none 0 0,.slice none 0 0,.bool false] ++ ([J U 0,J U 0,J U 0,J U 0,J U 0,J U 0,J U 0,J U 0,J U 0,J U 0,J U 0,J U 0,J U 0,.slice none 0 0,.slice none 0 0,.bool false,J U 0,J U 0,J U 0,J U 0,J U 0,J U 0,J U 0,J U 0,.bool false,J U 0,J U 0,J U 0,J U 0,J U 0,J U 0,J U 0,J U 0,J U 0,J U 0,J U 0,J U 0,J U 0,J U 0,J U 0,J U 0,J U 0,J U 0,.slice none 0 0,.slice none 0 0,.bool false,J U 0,J U 0,J U 0,J U 0,J U 0,J U 0,J U 0,J U 0,.bool false] : List Value)) from U2b.out)
   obtain ⟨wf, ef⟩ : ∃ wf, wf = (((w2).setCell ⟨(w.heap.size + 1), 0, none⟩ (.slice A2 s2.xs.length c2)).setCell ⟨(w.heap.size + 1), 1, none⟩ (J U (s2.er : Int))).setCells (w.heap.size + 2) 1 [J U c.k,J U c.tc,J U c.tn,J U c.tt,J U c.tk,J U c.sh,.slice A1q c.rs.length k1,.slice A2q c.ws.length k2,.bool c.cm] := ⟨_, rfl⟩
   have UF := V (show Hold wf (w.heap.size + 2) 97 [encN 1,J U c.k,J U c.tc,J U c.tn,J U c.tt,J U c.tk,J U c.sh,.slice A1q c.rs.length k1,.slice A2q c.ws.length k2,.bool c.cm,J U 0,J U 0,J U 0,J U 0,J U 0,J U 0,J U 0,J U 0,J U 0,J U 0,J U 0,J U 0,J U 0,.slice none 0 0,.slice none 0 0,.bool false,J U 0,J U 0,J U 0,J U 0,J U 0,J U 0,J U 0,J U 0,.bool false,J U 0,J U 0,J U 0,J U 0,J U 0,J U 0,J U 0,J U 0,J U 0,J U 0,J U 0,J U 0,J U 0,J U 0,J U 0,J U 0,J U 0,J U 0,.slice none 0 0,.slice none 0 0,.bool false,J U 0,J U 0,J U 0,J U 0,J U 0,J U 0,J U 0,J U 0,.bool false] from ef ▸ FP)
   have PF := V (show Hold wf _ _ _ from ef ▸ P2b.out.bel se (by omega))
   have OF := V (show Hold wf _ _ _ from ef ▸ O2b.out.bel se (by omega))
   have IF := V (show wf.ownsRow _ _ _ _ _ _ from ef ▸ ownsRow_bel I2b.out se (by omega))
   have JF := V (show wf.ownsRow _ _ _ _ _ _ from ef ▸ ownsRow_bel J2b.out se (by omega))
   have BF := V (show Below w.heap.size w wf from ef ▸ below_setCells (by omega : w.heap.size ≤ w.heap.size + 2) [J U c.k,J U c.tc,J U c.tn,J U c.tt,J U c.tk,J U c.sh,.slice A1q c.rs.length k1,.slice A2q c.ws.length k2,.bool c.cm] 1 _ _ B2b.out)
   clear se FP P2b O2b U2b I2b J2b B2b
   have XL := V (show wf.rangeAt (w.heap.size + 2) 1 [J U c.k,J U c.tc,J U c.tn,J U c.tt,J U c.tk,J U c.sh,.slice A1q c.rs.length k1,.slice A2q c.ws.length k2,.bool c.cm] from Cel.sub_of UF.out.cel rfl)
   go_wp2_with (first
    | (with_reducible refine store_list rfl 63 _ _ rfl (w.heap.size + 2) 1 [J U c.k,J U c.tc,J U c.tn,J U c.tt,J U c.tk,J U c.sh,.slice A1q c.rs.length k1,.slice A2q c.ws.length k2,.bool c.cm] rfl rfl T1.out (by kernel_rfl) (by kernel_rfl) ?_)
    | (with_reducible refine wpList_load_mid rfl 63 _ rfl (w.heap.size + 2) 1 rfl [J U c.k,J U c.tc,J U c.tn,J U c.tt,J U c.tk,J U c.sh,.slice A1q c.rs.length k1,.slice A2q c.ws.length k2,.bool c.cm] _ (by rw [← ef]; exact XL.out) Tryz.underlying63 rfl (by kernel_rfl) ?_))
   rw [← ef]
   clear ef T1 XL za0 zb0 za1 zb1
   refine (drightC c (RowN.of_owns IF.out) (RowN.of_owns JF.out) MD.out).mono ?_
   rintro e wg ⟨rfl, hb⟩
   have PG := V (PF.out.on hb)
   have OG := V (OF.out.on hb)
   have UG := V (UF.out.on hb)
   have BG := V (below_on BF.out hb)
   have RG := V (ownsRow_bel (g := 0) IF.out (Bel.of hb) (by omega))
   have WG := V (ownsRow_bel (g := 0) JF.out (Bel.of hb) (by omega))
   clear hb PF OF UF BF IF JF
   have RAN := V (show P.Ran P.val ⟨xs, 0⟩ s2 (.inl c) from P.Ran.bind P.errs_one H1.out (by rw [if_pos rfl]; exact P.Ran.bind P.errs_cmd H2.out (P.Ran.ret _ _)))
   go_wp2
   go_meet
   case rel => exact ⟨s2, _, _, _, [encN 1,J U c.k,J U c.tc,J U c.tn,J U c.tt,J U c.tk,J U c.sh,.slice A1q c.rs.length k1,.slice A2q c.ws.length k2,.bool c.cm,J U 0,J U 0,J U 0,J U 0,J U 0,J U 0,J U 0,J U 0,J U 0,J U 0,J U 0,J U 0,J U 0,.slice none 0 0,.slice none 0 0,.bool false,J U 0,J U 0,J U 0,J U 0,J U 0,J U 0,J U 0,J U 0,.bool false,J U 0,J U 0,J U 0,J U 0,J U 0,J U 0,J U 0,J U 0,J U 0,J U 0,J U 0,J U 0,J U 0,J U 0,J U 0,J U 0,J U 0,J U 0,.slice none 0 0,.slice none 0 0,.bool false,J U 0,J U 0,J U 0,J U 0,J U 0,J U 0,J U 0,J U 0,.bool false], rfl, PG.out, OG.out, UG.out, rfl, (by kernel_rfl), BG.out, D2.out, .inr ⟨.inl c, RAN.out, rfl, ⟨_, _, rfl, RG.out, WG.out, MD.out⟩⟩⟩
  ·have q1 : ((b : Int) == 1) = false := by rw [beq_eq_false_iff_ne]; omega
   by_cases h2 : b = 2
   ·subst h2
    clear q1
    go_wp2_with (fail)
    have hcs : w.heap.size + 3 ≤ ((((w1).setCell ⟨(w.heap.size + 1), 0, none⟩ (.slice A1 s1.xs.length c1)).setCell ⟨(w.heap.size + 1), 1, none⟩ (J U (s1.er : Int))).setCell ⟨(w.heap.size + 2), 0, none⟩ (encN 2)).heap.size := by have := U1c.out.lt; omega
    refine (record_doc (HW.out.trans B1c.out) D1.out).mono ?_
    rintro e w2 ⟨s2, r, va, vb, x2, rfl, hx, hra, hrb, hb, hp, hm⟩
    obtain ⟨A2, c2, rfl, hq⟩ := hx
    have D2 := V (show Prt w _ s2 from ⟨A2, c2, rfl, hq⟩)
    clear hq
    have P2 := V (P1c.out.on hb)
    have O2 := V (O1c.out.on hb)
    have U2 := V (U1c.out.on hb)
    have B2 := V (below_on B1c.out hb)
    have H2 := V hp
    have MD := V hm
    clear hb hp hm
    clear P1c O1c U1c B1c
    clear za0 zb0 za1 zb1 za2 zb2
    have Ix := V (ownsRow_baseN hra hcs)
    have Jx := V (ownsRow_baseN hrb hcs)
    clear hra hrb hcs
    obtain ⟨A1q, k1, rfl⟩ := ownsRow_slice Ix.out
    obtain ⟨A2q, k2, rfl⟩ := ownsRow_slice Jx.out
    have I2 := V Ix.out
    have J2 := V Jx.out
    clear Ix Jx
    have KI := V (fun q (e : (.slice A1q r.c.rs.length k1 : Value).ownBlock = some q) => World.ownsRow.lt I2.out q e)
    have KJ := V (fun q (e : (.slice A2q r.c.ws.length k2 : Value).ownBlock = some q) => World.ownsRow.lt J2.out q e)
    have za0 := P2.out.cell 0 rfl
    have zb0 := P2.out.soft 0
    have za1 := P2.out.cell 1 rfl
    have zb1 := P2.out.soft 1
    have P2a := V (show Hold ((w2).setCell ⟨(w.heap.size + 1), 0, none⟩ (.slice A2 s2.xs.length c2)) (w.heap.size + 1) 119 [.slice A2 s2.xs.length c2,J U (s1.er : Int)] from P2.out.put 0 (.slice A2 s2.xs.length c2))
    have O2a := V (O2.out.bel (Bel.store (w2) (w.heap.size + 1) 0 (.slice A2 s2.xs.length c2)) (by omega))
    have U2a := V (U2.out.bel (Bel.store (w2) (w.heap.size + 1) 0 (.slice A2 s2.xs.length c2)) (by omega))
    have I2a := V (ownsRow_put I2.out (w.heap.size + 1) 0 (.slice A2 s2.xs.length c2) (fun q e => by have := KI.out q e; omega))
    have J2a := V (ownsRow_put J2.out (w.heap.size + 1) 0 (.slice A2 s2.xs.length c2) (fun q e => by have := KJ.out q e; omega))
    have B2a := V (B2.out.setCell (p := ⟨(w.heap.size + 1), 0, none⟩) (by show w.heap.size ≤ (w.heap.size + 1); omega) (.slice A2 s2.xs.length c2))
    clear P2 O2 U2 I2 J2 B2
    have P2b := V (show Hold (((w2).setCell ⟨(w.heap.size + 1), 0, none⟩ (.slice A2 s2.xs.length c2)).setCell ⟨(w.heap.size + 1), 1, none⟩ (J U (s2.er : Int))) (w.heap.size + 1) 119 [.slice A2 s2.xs.length c2,J U (s2.er : Int)] from P2a.out.put 1 (J U (s2.er : Int)))
    have O2b := V (O2a.out.bel (Bel.store ((w2).setCell ⟨(w.heap.size + 1), 0, none⟩ (.slice A2 s2.xs.length c2)) (w.heap.size + 1) 1 (J U (s2.er : Int))) (by omega))
    have U2b := V (U2a.out.bel (Bel.store ((w2).setCell ⟨(w.heap.size + 1), 0, none⟩ (.slice A2 s2.xs.length c2)) (w.heap.size + 1) 1 (J U (s2.er : Int))) (by omega))
    have I2b := V (ownsRow_put I2a.out (w.heap.size + 1) 1 (J U (s2.er : Int)) (fun q e => by have := KI.out q e; omega))
    have J2b := V (ownsRow_put J2a.out (w.heap.size + 1) 1 (J U (s2.er : Int)) (fun q e => by have := KJ.out q e; omega))
    have B2b := V (B2a.out.setCell (p := ⟨(w.heap.size + 1), 1, none⟩) (by show w.heap.size ≤ (w.heap.size + 1); omega) (J U (s2.er : Int)))
    clear P2a O2a U2a I2a J2a B2a
    have T1 := V (show (((w2).setCell ⟨(w.heap.size + 1), 0, none⟩ (.slice A2 s2.xs.length c2)).setCell ⟨(w.heap.size + 1), 1, none⟩ (J U (s2.er : Int))).there (w.heap.size + 2) 10 ([J U r.ir,J U r.is,J U r.st,J U r.pn,J U r.pr,J U r.bn,J U r.br,J U r.c.k,J U r.c.tc,J U r.c.tn,J U r.c.tt,J U r.c.tk,J U r.c.sh,.slice A1q r.c.rs.length k1,.slice A2q r.c.ws.length k2,.bool r.c.cm,J U r.sq,J U r.d0,J U r.d1,J U r.d2,J U r.d3,J U r.d4,J U r.d5,J U r.d6,.bool r.kp] : List Value).length from U2b.out.there (by show 10 + 25 ≤ 65; omega))
    have se := bel_setCells (((w2).setCell ⟨(w.heap.size + 1), 0, none⟩ (.slice A2 s2.xs.length c2)).setCell ⟨(w.heap.size + 1), 1, none⟩ (J U (s2.er : Int))) (w.heap.size + 2) [J U r.ir,J U r.is,J U r.st,J U r.pn,J U r.pr,J U r.bn,J U r.br,J U r.c.k,J U r.c.tc,J U r.c.tn,J U r.c.tt,J U r.c.tk,J U r.c.sh,.slice A1q r.c.rs.length k1,.slice A2q r.c.ws.length k2,.bool r.c.cm,J U r.sq,J U r.d0,J U r.d1,J U r.d2,J U r.d3,J U r.d4,J U r.d5,J U r.d6,.bool r.kp] 10
    have FP := Hold.set [J U r.ir,J U r.is,J U r.st,J U r.pn,J U r.pr,J U r.bn,J U r.br,J U r.c.k,J U r.c.tc,J U r.c.tn,J U r.c.tt,J U r.c.tk,J U r.c.sh,.slice A1q r.c.rs.length k1,.slice A2q r.c.ws.length k2,.bool r.c.cm,J U r.sq,J U r.d0,J U r.d1,J U r.d2,J U r.d3,J U r.d4,J U r.d5,J U r.d6,.bool r.kp] [encN 2,J U 0,J U 0,J U 0,J U 0,J U 0,J U 0,.slice none 0 0,.slice none 0 0,.bool false] [J U 0,J U 0,J U 0,J U 0,J U 0,J U 0,J U 0,J U 0,J U 0,J U 0,J U 0,J U 0,J U 0,.slice none 0 0,.slice none 0 0,.bool false,J U 0,J U 0,J U 0,J U 0,J U 0,J U 0,J U 0,J U 0,.bool false] ([J U 0,J U 0,J U 0,J U 0,J U 0,J U 0,J U 0,J U 0,J U 0,J U 0,J U 0,J U 0,J U 0,J U 0,J U 0,J U 0,J U 0,J U 0,.slice none 0 0,.slice none 0 0,.bool false,J U 0,J U 0,J U 0,J U 0,J U 0,J U 0,J U 0,J U 0,.bool false] : List Value) rfl _ (show Hold (((w2).setCell ⟨(w.heap.size + 1), 0, none⟩ (.slice A2 s2.xs.length c2)).setCell ⟨(w.heap.size + 1), 1, none⟩ (J U (s2.er : Int))) (w.heap.size + 2) 97 ([encN 2,J U 0,J U 0,J U 0,J U 0,J U 0,J U 0,.slice none 0 0,.slice none 0 0,.bool false] ++ [J U 0,J U 0,J U 0,J U 0,J U 0,J U 0,J U 0,J U 0,J U 0,J U 0,J U 0,J U 0,J U 0,.slice none 0 0,.slice none 0 0,.bool false,J U 0,J U 0,J U 0,J U 0,J U 0,J U 0,J U 0,J U 0,.bool false] ++ ([J U 0,J U 0,J U 0,J U 0,J U 0,J U 0,J U 0,J U 0,J U 0,J U 0,J U 0,J U 0,J U 0,J U 0,J U 0,J U 0,J U 0,J U 0,.slice none 0 0,.slice none 0 0,.bool false,J U 0,J U 0,J U 0,J U 0,J U 0,J U 0,J U 0,J U 0,.bool false] : List Value)) from U2b.out)
    obtain ⟨wf, ef⟩ : ∃ wf, wf = (((w2).setCell ⟨(w.heap.size + 1), 0, none⟩ (.slice A2 s2.xs.length c2)).setCell ⟨(w.heap.size + 1), 1, none⟩ (J U (s2.er : Int))).setCells (w.heap.size + 2) 10 [J U r.ir,J U r.is,J U r.st,J U r.pn,J U r.pr,J U r.bn,J U r.br,J U r.c.k,J U r.c.tc,J U r.c.tn,J U r.c.tt,J U r.c.tk,J U r.c.sh,.slice A1q r.c.rs.length k1,.slice A2q r.c.ws.length k2,.bool r.c.cm,J U r.sq,J U r.d0,J U r.d1,J U r.d2,J U r.d3,J U r.d4,J U r.d5,J U r.d6,.bool r.kp] := ⟨_, rfl⟩
    have UF := V (show Hold wf (w.heap.size + 2) 97 [encN 2,J U 0,J U 0,J U 0,J U 0,J U 0,J U 0,.slice none 0 0,.slice none 0 0,.bool false,J U r.ir,J U r.is,J U r.st,J U r.pn,J U r.pr,J U r.bn,J U r.br,J U r.c.k,J U r.c.tc,J U r.c.tn,J U r.c.tt,J U r.c.tk,J U r.c.sh,.slice A1q r.c.rs.length k1,.slice A2q r.c.ws.length k2,.bool r.c.cm,J U r.sq,J U r.d0,J U r.d1,J U r.d2,J U r.d3,J U r.d4,J U r.d5,J U r.d6,.bool r.kp,J U 0,J U 0,J U 0,J U 0,J U 0,J U 0,J U 0,J U 0,J U 0,J U 0,J U 0,J U 0,J U 0,J U 0,J U 0,J U 0,J U 0,J U 0,.slice none 0 0,.slice none 0 0,.bool false,J U 0,J U 0,J U 0,J U 0,J U 0,J U 0,J U 0,J U 0,.bool false] from ef ▸ FP)
    have PF := V (show Hold wf _ _ _ from ef ▸ P2b.out.bel se (by omega))
    have OF := V (show Hold wf _ _ _ from ef ▸ O2b.out.bel se (by omega))
    have IF := V (show wf.ownsRow _ _ _ _ _ _ from ef ▸ ownsRow_bel I2b.out se (by omega))
    have JF := V (show wf.ownsRow _ _ _ _ _ _ from ef ▸ ownsRow_bel J2b.out se (by omega))
    have BF := V (show Below w.heap.size w wf from ef ▸ below_setCells (by omega : w.heap.size ≤ w.heap.size + 2) [J U r.ir,J U r.is,J U r.st,J U r.pn,J U r.pr,J U r.bn,J U r.br,J U r.c.k,J U r.c.tc,J U r.c.tn,J U r.c.tt,J U r.c.tk,J U r.c.sh,.slice A1q r.c.rs.length k1,.slice A2q r.c.ws.length k2,.bool r.c.cm,J U r.sq,J U r.d0,J U r.d1,J U r.d2,J U r.d3,J U r.d4,J U r.d5,J U r.d6,.bool r.kp] 10 _ _ B2b.out)
    clear se FP P2b O2b U2b I2b J2b B2b
    have XL := V (show wf.rangeAt (w.heap.size + 2) 10 [J U r.ir,J U r.is,J U r.st,J U r.pn,J U r.pr,J U r.bn,J U r.br,J U r.c.k,J U r.c.tc,J U r.c.tn,J U r.c.tt,J U r.c.tk,J U r.c.sh,.slice A1q r.c.rs.length k1,.slice A2q r.c.ws.length k2,.bool r.c.cm,J U r.sq,J U r.d0,J U r.d1,J U r.d2,J U r.d3,J U r.d4,J U r.d5,J U r.d6,.bool r.kp] from Cel.sub_of UF.out.cel rfl)
    go_wp2_with (first
     | (with_reducible refine store_list rfl 67 _ _ rfl (w.heap.size + 2) 10 [J U r.ir,J U r.is,J U r.st,J U r.pn,J U r.pr,J U r.bn,J U r.br,J U r.c.k,J U r.c.tc,J U r.c.tn,J U r.c.tt,J U r.c.tk,J U r.c.sh,.slice A1q r.c.rs.length k1,.slice A2q r.c.ws.length k2,.bool r.c.cm,J U r.sq,J U r.d0,J U r.d1,J U r.d2,J U r.d3,J U r.d4,J U r.d5,J U r.d6,.bool r.kp] rfl rfl T1.out (by kernel_rfl) (by kernel_rfl) ?_)
     | (with_reducible refine wpList_load_mid rfl 67 _ rfl (w.heap.size + 2) 10 rfl [J U r.ir,J U r.is,J U r.st,J U r.pn,J U r.pr,J U r.bn,J U r.br,J U r.c.k,J U r.c.tc,J U r.c.tn,J U r.c.tt,J U r.c.tk,J U r.c.sh,.slice A1q r.c.rs.length k1,.slice A2q r.c.ws.length k2,.bool r.c.cm,J U r.sq,J U r.d0,J U r.d1,J U r.d2,J U r.d3,J U r.d4,J U r.d5,J U r.d6,.bool r.kp] _ (by rw [← ef]; exact XL.out) Tryz.underlying67 rfl (by kernel_rfl) ?_))
    rw [← ef]
    clear ef T1 XL za0 zb0 za1 zb1
    refine (docf_rec r (RowN.of_owns IF.out) (RowN.of_owns JF.out) MD.out).mono ?_
    rintro e wg ⟨rfl, hb⟩
    have PG := V (PF.out.on hb)
    have OG := V (OF.out.on hb)
    have UG := V (UF.out.on hb)
    have BG := V (below_on BF.out hb)
    have RG := V (ownsRow_bel (g := 0) IF.out (Bel.of hb) (by omega))
    have WG := V (ownsRow_bel (g := 0) JF.out (Bel.of hb) (by omega))
    clear hb PF OF UF BF IF JF
    have RAN := V (show P.Ran P.val ⟨xs, 0⟩ s2 (.inr (.inl r)) from P.Ran.bind P.errs_one H1.out (by rw [if_neg (by omega), if_pos rfl]; exact P.Ran.bind P.errs_rcd H2.out (P.Ran.ret _ _)))
    go_wp2
    go_meet
    case rel => exact ⟨s2, _, _, _, [encN 2,J U 0,J U 0,J U 0,J U 0,J U 0,J U 0,.slice none 0 0,.slice none 0 0,.bool false,J U r.ir,J U r.is,J U r.st,J U r.pn,J U r.pr,J U r.bn,J U r.br,J U r.c.k,J U r.c.tc,J U r.c.tn,J U r.c.tt,J U r.c.tk,J U r.c.sh,.slice A1q r.c.rs.length k1,.slice A2q r.c.ws.length k2,.bool r.c.cm,J U r.sq,J U r.d0,J U r.d1,J U r.d2,J U r.d3,J U r.d4,J U r.d5,J U r.d6,.bool r.kp,J U 0,J U 0,J U 0,J U 0,J U 0,J U 0,J U 0,J U 0,J U 0,J U 0,J U 0,J U 0,J U 0,J U 0,J U 0,J U 0,J U 0,J U 0,.slice none 0 0,.slice none 0 0,.bool false,J U 0,J U 0,J U 0,J U 0,J U 0,J U 0,J U 0,J U 0,.bool false], rfl, PG.out, OG.out, UG.out, rfl, (by kernel_rfl), BG.out, D2.out, .inr ⟨.inr (.inl r), RAN.out, rfl, ⟨_, _, rfl, RG.out, WG.out, MD.out⟩⟩⟩
   ·have q2 : ((b : Int) == 2) = false := by rw [beq_eq_false_iff_ne]; omega
    by_cases h3 : b = 3
    ·subst h3
     clear q1 q2
     go_wp2_with (fail)
     refine (number_doc (HW.out.trans (B1c.out.mono HW.out.size)) D1.out).mono ?_
     rintro e w2 ⟨s2, a1, x2, rfl, -, hx, hb, hp⟩
     obtain ⟨A2, c2, rfl, hq⟩ := hx
     have D2 := V (show Prt w _ s2 from ⟨A2, c2, rfl, hq⟩)
     clear hq
     have P2 := V (P1c.out.on hb)
     have O2 := V (O1c.out.on hb)
     have U2 := V (U1c.out.on hb)
     have B2 := V (below_on B1c.out hb)
     have Ha1 := V hp
     clear hb hp
     clear P1c O1c U1c B1c
     clear za0 zb0 za1 zb1 za2 zb2
     have za0 := P2.out.cell 0 rfl
     have zb0 := P2.out.soft 0
     have za1 := P2.out.cell 1 rfl
     have zb1 := P2.out.soft 1
     have za2 := U2.out.cell 35 rfl
     have zb2 := U2.out.soft 35
     have P2a := V (show Hold ((w2).setCell ⟨(w.heap.size + 1), 0, none⟩ (.slice A2 s2.xs.length c2)) (w.heap.size + 1) 119 [.slice A2 s2.xs.length c2,J U (s1.er : Int)] from P2.out.put 0 (.slice A2 s2.xs.length c2))
     have O2a := V (O2.out.bel (Bel.store (w2) (w.heap.size + 1) 0 (.slice A2 s2.xs.length c2)) (by omega))
     have U2a := V (U2.out.bel (Bel.store (w2) (w.heap.size + 1) 0 (.slice A2 s2.xs.length c2)) (by omega))
     have B2a := V (B2.out.setCell (p := ⟨(w.heap.size + 1), 0, none⟩) (by show w.heap.size ≤ (w.heap.size + 1); omega) (.slice A2 s2.xs.length c2))
     clear P2 O2 U2 B2
     have P2b := V (show Hold (((w2).setCell ⟨(w.heap.size + 1), 0, none⟩ (.slice A2 s2.xs.length c2)).setCell ⟨(w.heap.size + 1), 1, none⟩ (J U (s2.er : Int))) (w.heap.size + 1) 119 [.slice A2 s2.xs.length c2,J U (s2.er : Int)] from P2a.out.put 1 (J U (s2.er : Int)))
     have O2b := V (O2a.out.bel (Bel.store ((w2).setCell ⟨(w.heap.size + 1), 0, none⟩ (.slice A2 s2.xs.length c2)) (w.heap.size + 1) 1 (J U (s2.er : Int))) (by omega))
     have U2b := V (U2a.out.bel (Bel.store ((w2).setCell ⟨(w.heap.size + 1), 0, none⟩ (.slice A2 s2.xs.length c2)) (w.heap.size + 1) 1 (J U (s2.er : Int))) (by omega))
     have B2b := V (B2a.out.setCell (p := ⟨(w.heap.size + 1), 1, none⟩) (by show w.heap.size ≤ (w.heap.size + 1); omega) (J U (s2.er : Int)))
     clear P2a O2a U2a B2a
     have P2c := V (P2b.out.bel (Bel.store (((w2).setCell ⟨(w.heap.size + 1), 0, none⟩ (.slice A2 s2.xs.length c2)).setCell ⟨(w.heap.size + 1), 1, none⟩ (J U (s2.er : Int))) (w.heap.size + 2) 35 (encN a1)) (by omega))
     have O2c := V (O2b.out.bel (Bel.store (((w2).setCell ⟨(w.heap.size + 1), 0, none⟩ (.slice A2 s2.xs.length c2)).setCell ⟨(w.heap.size + 1), 1, none⟩ (J U (s2.er : Int))) (w.heap.size + 2) 35 (encN a1)) (by omega))
     have U2c := V (show Hold ((((w2).setCell ⟨(w.heap.size + 1), 0, none⟩ (.slice A2 s2.xs.length c2)).setCell ⟨(w.heap.size + 1), 1, none⟩ (J U (s2.er : Int))).setCell ⟨(w.heap.size + 2), 35, none⟩ (encN a1)) (w.heap.size + 2) 97 [encN 3,J U 0,J U 0,J U 0,J U 0,J U 0,J U 0,.slice none 0 0,.slice none 0 0,.bool false,J U 0,J U 0,J U 0,J U 0,J U 0,J U 0,J U 0,J U 0,J U 0,J U 0,J U 0,J U 0,J U 0,.slice none 0 0,.slice none 0 0,.bool false,J U 0,J U 0,J U 0,J U 0,J U 0,J U 0,J U 0,J U 0,.bool false, encN a1,J U 0,J U 0,J U 0,J U 0,J U 0,J U 0,J U 0,J U 0,J U 0,J U 0,J U 0,J U 0,J U 0,J U 0,J U 0,J U 0,J U 0,.slice none 0 0,.slice none 0 0,.bool false,J U 0,J U 0,J U 0,J U 0,J U 0,J U 0,J U 0,J U 0,.bool false] from U2b.out.put 35 (encN a1))
     have B2c := V (B2b.out.setCell (p := ⟨(w.heap.size + 2), 35, none⟩) (by show w.heap.size ≤ (w.heap.size + 2); omega) (encN a1))
     clear P2b O2b U2b B2b
     go_wp2_with (fail)
     refine (number_doc (HW.out.trans (B2c.out.mono HW.out.size)) D2.out).mono ?_
     rintro e w3 ⟨s3, a2, x3, rfl, -, hx, hb, hp⟩
     obtain ⟨A3, c3, rfl, hq⟩ := hx
     have D3 := V (show Prt w _ s3 from ⟨A3, c3, rfl, hq⟩)
     clear hq
     have P3 := V (P2c.out.on hb)
     have O3 := V (O2c.out.on hb)
     have U3 := V (U2c.out.on hb)
     have B3 := V (below_on B2c.out hb)
     have Ha2 := V hp
     clear hb hp
     clear P2c O2c U2c B2c
     clear za0 zb0 za1 zb1 za2 zb2
     have za0 := P3.out.cell 0 rfl
     have zb0 := P3.out.soft 0
     have za1 := P3.out.cell 1 rfl
     have zb1 := P3.out.soft 1
     have za2 := U3.out.cell 36 rfl
     have zb2 := U3.out.soft 36
     have P3a := V (show Hold ((w3).setCell ⟨(w.heap.size + 1), 0, none⟩ (.slice A3 s3.xs.length c3)) (w.heap.size + 1) 119 [.slice A3 s3.xs.length c3,J U (s2.er : Int)] from P3.out.put 0 (.slice A3 s3.xs.length c3))
     have O3a := V (O3.out.bel (Bel.store (w3) (w.heap.size + 1) 0 (.slice A3 s3.xs.length c3)) (by omega))
     have U3a := V (U3.out.bel (Bel.store (w3) (w.heap.size + 1) 0 (.slice A3 s3.xs.length c3)) (by omega))
     have B3a := V (B3.out.setCell (p := ⟨(w.heap.size + 1), 0, none⟩) (by show w.heap.size ≤ (w.heap.size + 1); omega) (.slice A3 s3.xs.length c3))
     clear P3 O3 U3 B3
     have P3b := V (show Hold (((w3).setCell ⟨(w.heap.size + 1), 0, none⟩ (.slice A3 s3.xs.length c3)).setCell ⟨(w.heap.size + 1), 1, none⟩ (J U (s3.er : Int))) (w.heap.size + 1) 119 [.slice A3 s3.xs.length c3,J U (s3.er : Int)] from P3a.out.put 1 (J U (s3.er : Int)))
     have O3b := V (O3a.out.bel (Bel.store ((w3).setCell ⟨(w.heap.size + 1), 0, none⟩ (.slice A3 s3.xs.length c3)) (w.heap.size + 1) 1 (J U (s3.er : Int))) (by omega))
     have U3b := V (U3a.out.bel (Bel.store ((w3).setCell ⟨(w.heap.size + 1), 0, none⟩ (.slice A3 s3.xs.length c3)) (w.heap.size + 1) 1 (J U (s3.er : Int))) (by omega))
     have B3b := V (B3a.out.setCell (p := ⟨(w.heap.size + 1), 1, none⟩) (by show w.heap.size ≤ (w.heap.size + 1); omega) (J U (s3.er : Int)))
     clear P3a O3a U3a B3a
     have P3c := V (P3b.out.bel (Bel.store (((w3).setCell ⟨(w.heap.size + 1), 0, none⟩ (.slice A3 s3.xs.length c3)).setCell ⟨(w.heap.size + 1), 1, none⟩ (J U (s3.er : Int))) (w.heap.size + 2) 36 (encN a2)) (by omega))
     have O3c := V (O3b.out.bel (Bel.store (((w3).setCell ⟨(w.heap.size + 1), 0, none⟩ (.slice A3 s3.xs.length c3)).setCell ⟨(w.heap.size + 1), 1, none⟩ (J U (s3.er : Int))) (w.heap.size + 2) 36 (encN a2)) (by omega))
     have U3c := V (show Hold ((((w3).setCell ⟨(w.heap.size + 1), 0, none⟩ (.slice A3 s3.xs.length c3)).setCell ⟨(w.heap.size + 1), 1, none⟩ (J U (s3.er : Int))).setCell ⟨(w.heap.size + 2), 36, none⟩ (encN a2)) (w.heap.size + 2) 97 [encN 3,J U 0,J U 0,J U 0,J U 0,J U 0,J U 0,.slice none 0 0,.slice none 0 0,.bool false,J U 0,J U 0,J U 0,J U 0,J U 0,J U 0,J U 0,J U 0,J U 0,J U 0,J U 0,J U 0,J U 0,.slice none 0 0,.slice none 0 0,.bool false,J U 0,J U 0,J U 0,J U 0,J U 0,J U 0,J U 0,J U 0,.bool false, encN a1, encN a2,J U 0,J U 0,J U 0,J U 0,J U 0,J U 0,J U 0,J U 0,J U 0,J U 0,J U 0,J U 0,J U 0,J U 0,J U 0,J U 0,.slice none 0 0,.slice none 0 0,.bool false,J U 0,J U 0,J U 0,J U 0,J U 0,J U 0,J U 0,J U 0,.bool false] from U3b.out.put 36 (encN a2))
     have B3c := V (B3b.out.setCell (p := ⟨(w.heap.size + 2), 36, none⟩) (by show w.heap.size ≤ (w.heap.size + 2); omega) (encN a2))
     clear P3b O3b U3b B3b
     go_wp2_with (fail)
     refine (number_doc (HW.out.trans (B3c.out.mono HW.out.size)) D3.out).mono ?_
     rintro e w4 ⟨s4, a3, x4, rfl, -, hx, hb, hp⟩
     obtain ⟨A4, c4, rfl, hq⟩ := hx
     have D4 := V (show Prt w _ s4 from ⟨A4, c4, rfl, hq⟩)
     clear hq
     have P4 := V (P3c.out.on hb)
     have O4 := V (O3c.out.on hb)
     have U4 := V (U3c.out.on hb)
     have B4 := V (below_on B3c.out hb)
     have Ha3 := V hp
     clear hb hp
     clear P3c O3c U3c B3c
     clear za0 zb0 za1 zb1 za2 zb2
     have za0 := P4.out.cell 0 rfl
     have zb0 := P4.out.soft 0
     have za1 := P4.out.cell 1 rfl
     have zb1 := P4.out.soft 1
     have za2 := U4.out.cell 37 rfl
     have zb2 := U4.out.soft 37
     have P4a := V (show Hold ((w4).setCell ⟨(w.heap.size + 1), 0, none⟩ (.slice A4 s4.xs.length c4)) (w.heap.size + 1) 119 [.slice A4 s4.xs.length c4,J U (s3.er : Int)] from P4.out.put 0 (.slice A4 s4.xs.length c4))
     have O4a := V (O4.out.bel (Bel.store (w4) (w.heap.size + 1) 0 (.slice A4 s4.xs.length c4)) (by omega))
     have U4a := V (U4.out.bel (Bel.store (w4) (w.heap.size + 1) 0 (.slice A4 s4.xs.length c4)) (by omega))
     have B4a := V (B4.out.setCell (p := ⟨(w.heap.size + 1), 0, none⟩) (by show w.heap.size ≤ (w.heap.size + 1); omega) (.slice A4 s4.xs.length c4))
     clear P4 O4 U4 B4
     have P4b := V (show Hold (((w4).setCell ⟨(w.heap.size + 1), 0, none⟩ (.slice A4 s4.xs.length c4)).setCell ⟨(w.heap.size + 1), 1, none⟩ (J U (s4.er : Int))) (w.heap.size + 1) 119 [.slice A4 s4.xs.length c4,J U (s4.er : Int)] from P4a.out.put 1 (J U (s4.er : Int)))
     have O4b := V (O4a.out.bel (Bel.store ((w4).setCell ⟨(w.heap.size + 1), 0, none⟩ (.slice A4 s4.xs.length c4)) (w.heap.size + 1) 1 (J U (s4.er : Int))) (by omega))
     have U4b := V (U4a.out.bel (Bel.store ((w4).setCell ⟨(w.heap.size + 1), 0, none⟩ (.slice A4 s4.xs.length c4)) (w.heap.size + 1) 1 (J U (s4.er : Int))) (by omega))
     have B4b := V (B4a.out.setCell (p := ⟨(w.heap.size + 1), 1, none⟩) (by show w.heap.size ≤ (w.heap.size + 1); omega) (J U (s4.er : Int)))
     clear P4a O4a U4a B4a
     have P4c := V (P4b.out.bel (Bel.store (((w4).setCell ⟨(w.heap.size + 1), 0, none⟩ (.slice A4 s4.xs.length c4)).setCell ⟨(w.heap.size + 1), 1, none⟩ (J U (s4.er : Int))) (w.heap.size + 2) 37 (encN a3)) (by omega))
     have O4c := V (O4b.out.bel (Bel.store (((w4).setCell ⟨(w.heap.size + 1), 0, none⟩ (.slice A4 s4.xs.length c4)).setCell ⟨(w.heap.size + 1), 1, none⟩ (J U (s4.er : Int))) (w.heap.size + 2) 37 (encN a3)) (by omega))
     have U4c := V (show Hold ((((w4).setCell ⟨(w.heap.size + 1), 0, none⟩ (.slice A4 s4.xs.length c4)).setCell ⟨(w.heap.size + 1), 1, none⟩ (J U (s4.er : Int))).setCell ⟨(w.heap.size + 2), 37, none⟩ (encN a3)) (w.heap.size + 2) 97 [encN 3,J U 0,J U 0,J U 0,J U 0,J U 0,J U 0,.slice none 0 0,.slice none 0 0,.bool false,J U 0,J U 0,J U 0,J U 0,J U 0,J U 0,J U 0,J U 0,J U 0,J U 0,J U 0,J U 0,J U 0,.slice none 0 0,.slice none 0 0,.bool false,J U 0,J U 0,J U 0,J U 0,J U 0,J U 0,J U 0,J U 0,.bool false, encN a1, encN a2, encN a3,J U 0,J U 0,J U 0,J U 0,J U 0,J U 0,J U 0,J U 0,J U 0,J U 0,J U 0,J U 0,J U 0,J U 0,J U 0,.slice none 0 0,.slice none 0 0,.bool false,J U 0,J U 0,J U 0,J U 0,J U 0,J U 0,J U 0,J U 0,.bool false] from U4b.out.put 37 (encN a3))
     have B4c := V (B4b.out.setCell (p := ⟨(w.heap.size + 2), 37, none⟩) (by show w.heap.size ≤ (w.heap.size + 2); omega) (encN a3))
     clear P4b O4b U4b B4b
     go_wp2_with (fail)
     refine (number_doc (HW.out.trans (B4c.out.mono HW.out.size)) D4.out).mono ?_
     rintro e w5 ⟨s5, a4, x5, rfl, -, hx, hb, hp⟩
     obtain ⟨A5, c5, rfl, hq⟩ := hx
     have D5 := V (show Prt w _ s5 from ⟨A5, c5, rfl, hq⟩)
     clear hq
     have P5 := V (P4c.out.on hb)
     have O5 := V (O4c.out.on hb)
     have U5 := V (U4c.out.on hb)
     have B5 := V (below_on B4c.out hb)
     have Ha4 := V hp
     clear hb hp
     clear P4c O4c U4c B4c
     clear za0 zb0 za1 zb1 za2 zb2
     have za0 := P5.out.cell 0 rfl
     have zb0 := P5.out.soft 0
     have za1 := P5.out.cell 1 rfl
     have zb1 := P5.out.soft 1
     have za2 := U5.out.cell 38 rfl
     have zb2 := U5.out.soft 38
     have P5a := V (show Hold ((w5).setCell ⟨(w.heap.size + 1), 0, none⟩ (.slice A5 s5.xs.length c5)) (w.heap.size + 1) 119 [.slice A5 s5.xs.length c5,J U (s4.er : Int)] from P5.out.put 0 (.slice A5 s5.xs.length c5))
     have O5a := V (O5.out.bel (Bel.store (w5) (w.heap.size + 1) 0 (.slice A5 s5.xs.length c5)) (by omega))
     have U5a := V (U5.out.bel (Bel.store (w5) (w.heap.size + 1) 0 (.slice A5 s5.xs.length c5)) (by omega))
     have B5a := V (B5.out.setCell (p := ⟨(w.heap.size + 1), 0, none⟩) (by show w.heap.size ≤ (w.heap.size + 1); omega) (.slice A5 s5.xs.length c5))
     clear P5 O5 U5 B5
     have P5b := V (show Hold (((w5).setCell ⟨(w.heap.size + 1), 0, none⟩ (.slice A5 s5.xs.length c5)).setCell ⟨(w.heap.size + 1), 1, none⟩ (J U (s5.er : Int))) (w.heap.size + 1) 119 [.slice A5 s5.xs.length c5,J U (s5.er : Int)] from P5a.out.put 1 (J U (s5.er : Int)))
     have O5b := V (O5a.out.bel (Bel.store ((w5).setCell ⟨(w.heap.size + 1), 0, none⟩ (.slice A5 s5.xs.length c5)) (w.heap.size + 1) 1 (J U (s5.er : Int))) (by omega))
     have U5b := V (U5a.out.bel (Bel.store ((w5).setCell ⟨(w.heap.size + 1), 0, none⟩ (.slice A5 s5.xs.length c5)) (w.heap.size + 1) 1 (J U (s5.er : Int))) (by omega))
     have B5b := V (B5a.out.setCell (p := ⟨(w.heap.size + 1), 1, none⟩) (by show w.heap.size ≤ (w.heap.size + 1); omega) (J U (s5.er : Int)))
     clear P5a O5a U5a B5a
     have P5c := V (P5b.out.bel (Bel.store (((w5).setCell ⟨(w.heap.size + 1), 0, none⟩ (.slice A5 s5.xs.length c5)).setCell ⟨(w.heap.size + 1), 1, none⟩ (J U (s5.er : Int))) (w.heap.size + 2) 38 (encN a4)) (by omega))
     have O5c := V (O5b.out.bel (Bel.store (((w5).setCell ⟨(w.heap.size + 1), 0, none⟩ (.slice A5 s5.xs.length c5)).setCell ⟨(w.heap.size + 1), 1, none⟩ (J U (s5.er : Int))) (w.heap.size + 2) 38 (encN a4)) (by omega))
     have U5c := V (show Hold ((((w5).setCell ⟨(w.heap.size + 1), 0, none⟩ (.slice A5 s5.xs.length c5)).setCell ⟨(w.heap.size + 1), 1, none⟩ (J U (s5.er : Int))).setCell ⟨(w.heap.size + 2), 38, none⟩ (encN a4)) (w.heap.size + 2) 97 [encN 3,J U 0,J U 0,J U 0,J U 0,J U 0,J U 0,.slice none 0 0,.slice none 0 0,.bool false,J U 0,J U 0,J U 0,J U 0,J U 0,J U 0,J U 0,J U 0,J U 0,J U 0,J U 0,J U 0,J U 0,.slice none 0 0,.slice none 0 0,.bool false,J U 0,J U 0,J U 0,J U 0,J U 0,J U 0,J U 0,J U 0,.bool false, encN a1, encN a2, encN a3, encN a4,J U 0,J U 0,J U 0,J U 0,J U 0,J U 0,J U 0,J U 0,J U 0,J U 0,J U 0,J U 0,J U 0,J U 0,.slice none 0 0,.slice none 0 0,.bool false,J U 0,J U 0,J U 0,J U 0,J U 0,J U 0,J U 0,J U 0,.bool false] from U5b.out.put 38 (encN a4))
     have B5c := V (B5b.out.setCell (p := ⟨(w.heap.size + 2), 38, none⟩) (by show w.heap.size ≤ (w.heap.size + 2); omega) (encN a4))
     clear P5b O5b U5b B5b
     go_wp2_with (fail)
     refine (number_doc (HW.out.trans (B5c.out.mono HW.out.size)) D5.out).mono ?_
     rintro e w6 ⟨s6, a5, x6, rfl, -, hx, hb, hp⟩
     obtain ⟨A6, c6, rfl, hq⟩ := hx
     have D6 := V (show Prt w _ s6 from ⟨A6, c6, rfl, hq⟩)
     clear hq
     have P6 := V (P5c.out.on hb)
     have O6 := V (O5c.out.on hb)
     have U6 := V (U5c.out.on hb)
     have B6 := V (below_on B5c.out hb)
     have Ha5 := V hp
     clear hb hp
     clear P5c O5c U5c B5c
     clear za0 zb0 za1 zb1 za2 zb2
     have za0 := P6.out.cell 0 rfl
     have zb0 := P6.out.soft 0
     have za1 := P6.out.cell 1 rfl
     have zb1 := P6.out.soft 1
     have za2 := U6.out.cell 39 rfl
     have zb2 := U6.out.soft 39
     have P6a := V (show Hold ((w6).setCell ⟨(w.heap.size + 1), 0, none⟩ (.slice A6 s6.xs.length c6)) (w.heap.size + 1) 119 [.slice A6 s6.xs.length c6,J U (s5.er : Int)] from P6.out.put 0 (.slice A6 s6.xs.length c6))
     have O6a := V (O6.out.bel (Bel.store (w6) (w.heap.size + 1) 0 (.slice A6 s6.xs.length c6)) (by omega))
     have U6a := V (U6.out.bel (Bel.store (w6) (w.heap.size + 1) 0 (.slice A6 s6.xs.length c6)) (by omega))
     have B6a := V (B6.out.setCell (p := ⟨(w.heap.size + 1), 0, none⟩) (by show w.heap.size ≤ (w.heap.size + 1); omega) (.slice A6 s6.xs.length c6))
     clear P6 O6 U6 B6
     have P6b := V (show Hold (((w6).setCell ⟨(w.heap.size + 1), 0, none⟩ (.slice A6 s6.xs.length c6)).setCell ⟨(w.heap.size + 1), 1, none⟩ (J U (s6.er : Int))) (w.heap.size + 1) 119 [.slice A6 s6.xs.length c6,J U (s6.er : Int)] from P6a.out.put 1 (J U (s6.er : Int)))
     have O6b := V (O6a.out.bel (Bel.store ((w6).setCell ⟨(w.heap.size + 1), 0, none⟩ (.slice A6 s6.xs.length c6)) (w.heap.size + 1) 1 (J U (s6.er : Int))) (by omega))
     have U6b := V (U6a.out.bel (Bel.store ((w6).setCell ⟨(w.heap.size + 1), 0, none⟩ (.slice A6 s6.xs.length c6)) (w.heap.size + 1) 1 (J U (s6.er : Int))) (by omega))
     have B6b := V (B6a.out.setCell (p := ⟨(w.heap.size + 1), 1, none⟩) (by show w.heap.size ≤ (w.heap.size + 1); omega) (J U (s6.er : Int)))
     clear P6a O6a U6a B6a
     have P6c := V (P6b.out.bel (Bel.store (((w6).setCell ⟨(w.heap.size + 1), 0, none⟩ (.slice A6 s6.xs.length c6)).setCell ⟨(w.heap.size + 1), 1, none⟩ (J U (s6.er : Int))) (w.heap.size + 2) 39 (encN a5)) (by omega))
     have O6c := V (O6b.out.bel (Bel.store (((w6).setCell ⟨(w.heap.size + 1), 0, none⟩ (.slice A6 s6.xs.length c6)).setCell ⟨(w.heap.size + 1), 1, none⟩ (J U (s6.er : Int))) (w.heap.size + 2) 39 (encN a5)) (by omega))
     have U6c := V (show Hold ((((w6).setCell ⟨(w.heap.size + 1), 0, none⟩ (.slice A6 s6.xs.length c6)).setCell ⟨(w.heap.size + 1), 1, none⟩ (J U (s6.er : Int))).setCell ⟨(w.heap.size + 2), 39, none⟩ (encN a5)) (w.heap.size + 2) 97 [encN 3,J U 0,J U 0,J U 0,J U 0,J U 0,J U 0,.slice none 0 0,.slice none 0 0,.bool false,J U 0,J U 0,J U 0,J U 0,J U 0,J U 0,J U 0,J U 0,J U 0,J U 0,J U 0,J U 0,J U 0,.slice none 0 0,.slice none 0 0,.bool false,J U 0,J U 0,J U 0,J U 0,J U 0,J U 0,J U 0,J U 0,.bool false, encN a1, encN a2, encN a3, encN a4, encN a5,J U 0,J U 0,J U 0,J U 0,J U 0,J U 0,J U 0,J U 0,J U 0,J U 0,J U 0,J U 0,J U 0,.slice none 0 0,.slice none 0 0,.bool false,J U 0,J U 0,J U 0,J U 0,J U 0,J U 0,J U 0,J U 0,.bool false] from U6b.out.put 39 (encN a5))
     have B6c := V (B6b.out.setCell (p := ⟨(w.heap.size + 2), 39, none⟩) (by show w.heap.size ≤ (w.heap.size + 2); omega) (encN a5))
     clear P6b O6b U6b B6b
     go_wp2_with (fail)
     refine (tag_doc 2 rfl (HW.out.trans (B6c.out.mono HW.out.size)) D6.out).mono ?_
     rintro e w7 ⟨s7, x7, rfl, hx, hb, hp⟩
     obtain ⟨A7, c7, rfl, hq⟩ := hx
     have D7 := V (show Prt w _ s7 from ⟨A7, c7, rfl, hq⟩)
     clear hq
     have P7 := V (P6c.out.on hb)
     have O7 := V (O6c.out.on hb)
     have U7 := V (U6c.out.on hb)
     have B7 := V (below_on B6c.out hb)
     have H7 := V hp
     clear hb hp
     clear P6c O6c U6c B6c
     clear za0 zb0 za1 zb1 za2 zb2
     have za0 := P7.out.cell 0 rfl
     have zb0 := P7.out.soft 0
     have za1 := P7.out.cell 1 rfl
     have zb1 := P7.out.soft 1
     have P7a := V (show Hold ((w7).setCell ⟨(w.heap.size + 1), 0, none⟩ (.slice A7 s7.xs.length c7)) (w.heap.size + 1) 119 [.slice A7 s7.xs.length c7,J U (s6.er : Int)] from P7.out.put 0 (.slice A7 s7.xs.length c7))
     have O7a := V (O7.out.bel (Bel.store (w7) (w.heap.size + 1) 0 (.slice A7 s7.xs.length c7)) (by omega))
     have U7a := V (U7.out.bel (Bel.store (w7) (w.heap.size + 1) 0 (.slice A7 s7.xs.length c7)) (by omega))
     have B7a := V (B7.out.setCell (p := ⟨(w.heap.size + 1), 0, none⟩) (by show w.heap.size ≤ (w.heap.size + 1); omega) (.slice A7 s7.xs.length c7))
     clear P7 O7 U7 B7
     have P7b := V (show Hold (((w7).setCell ⟨(w.heap.size + 1), 0, none⟩ (.slice A7 s7.xs.length c7)).setCell ⟨(w.heap.size + 1), 1, none⟩ (J U (s7.er : Int))) (w.heap.size + 1) 119 [.slice A7 s7.xs.length c7,J U (s7.er : Int)] from P7a.out.put 1 (J U (s7.er : Int)))
     have O7b := V (O7a.out.bel (Bel.store ((w7).setCell ⟨(w.heap.size + 1), 0, none⟩ (.slice A7 s7.xs.length c7)) (w.heap.size + 1) 1 (J U (s7.er : Int))) (by omega))
     have U7b := V (U7a.out.bel (Bel.store ((w7).setCell ⟨(w.heap.size + 1), 0, none⟩ (.slice A7 s7.xs.length c7)) (w.heap.size + 1) 1 (J U (s7.er : Int))) (by omega))
     have B7b := V (B7a.out.setCell (p := ⟨(w.heap.size + 1), 1, none⟩) (by show w.heap.size ≤ (w.heap.size + 1); omega) (J U (s7.er : Int)))
     clear P7a O7a U7a B7a
     go_wp2_with (fail)
     have hcs : w.heap.size + 3 ≤ (((w7).setCell ⟨(w.heap.size + 1), 0, none⟩ (.slice A7 s7.xs.length c7)).setCell ⟨(w.heap.size + 1), 1, none⟩ (J U (s7.er : Int))).heap.size := by have := U7b.out.lt; omega
     refine (record_doc (HW.out.trans (B7b.out.mono HW.out.size)) D7.out).mono ?_
     rintro e w8 ⟨s8, r, va, vb, x8, rfl, hx, hra, hrb, hb, hp, hm⟩
     obtain ⟨A8, c8, rfl, hq⟩ := hx
     have D8 := V (show Prt w _ s8 from ⟨A8, c8, rfl, hq⟩)
     clear hq
     have P8 := V (P7b.out.on hb)
     have O8 := V (O7b.out.on hb)
     have U8 := V (U7b.out.on hb)
     have B8 := V (below_on B7b.out hb)
     have H8 := V hp
     have MD := V hm
     clear hb hp hm
     clear P7b O7b U7b B7b
     clear za0 zb0 za1 zb1
     have Ix := V (ownsRow_baseN hra hcs)
     have Jx := V (ownsRow_baseN hrb hcs)
     clear hra hrb hcs
     obtain ⟨A1q, k1, rfl⟩ := ownsRow_slice Ix.out
     obtain ⟨A2q, k2, rfl⟩ := ownsRow_slice Jx.out
     have I8 := V Ix.out
     have J8 := V Jx.out
     clear Ix Jx
     have KI := V (fun q (e : (.slice A1q r.c.rs.length k1 : Value).ownBlock = some q) => World.ownsRow.lt I8.out q e)
     have KJ := V (fun q (e : (.slice A2q r.c.ws.length k2 : Value).ownBlock = some q) => World.ownsRow.lt J8.out q e)
     have za0 := P8.out.cell 0 rfl
     have zb0 := P8.out.soft 0
     have za1 := P8.out.cell 1 rfl
     have zb1 := P8.out.soft 1
     have P8a := V (show Hold ((w8).setCell ⟨(w.heap.size + 1), 0, none⟩ (.slice A8 s8.xs.length c8)) (w.heap.size + 1) 119 [.slice A8 s8.xs.length c8,J U (s7.er : Int)] from P8.out.put 0 (.slice A8 s8.xs.length c8))
     have O8a := V (O8.out.bel (Bel.store (w8) (w.heap.size + 1) 0 (.slice A8 s8.xs.length c8)) (by omega))
     have U8a := V (U8.out.bel (Bel.store (w8) (w.heap.size + 1) 0 (.slice A8 s8.xs.length c8)) (by omega))
     have I8a := V (ownsRow_put I8.out (w.heap.size + 1) 0 (.slice A8 s8.xs.length c8) (fun q e => by have := KI.out q e; omega))
     have J8a := V (ownsRow_put J8.out (w.heap.size + 1) 0 (.slice A8 s8.xs.length c8) (fun q e => by have := KJ.out q e; omega))
     have B8a := V (B8.out.setCell (p := ⟨(w.heap.size + 1), 0, none⟩) (by show w.heap.size ≤ (w.heap.size + 1); omega) (.slice A8 s8.xs.length c8))
     clear P8 O8 U8 I8 J8 B8
     have P8b := V (show Hold (((w8).setCell ⟨(w.heap.size + 1), 0, none⟩ (.slice A8 s8.xs.length c8)).setCell ⟨(w.heap.size + 1), 1, none⟩ (J U (s8.er : Int))) (w.heap.size + 1) 119 [.slice A8 s8.xs.length c8,J U (s8.er : Int)] from P8a.out.put 1 (J U (s8.er : Int)))
     have O8b := V (O8a.out.bel (Bel.store ((w8).setCell ⟨(w.heap.size + 1), 0, none⟩ (.slice A8 s8.xs.length c8)) (w.heap.size + 1) 1 (J U (s8.er : Int))) (by omega))
     have U8b := V (U8a.out.bel (Bel.store ((w8).setCell ⟨(w.heap.size + 1), 0, none⟩ (.slice A8 s8.xs.length c8)) (w.heap.size + 1) 1 (J U (s8.er : Int))) (by omega))
     have I8b := V (ownsRow_put I8a.out (w.heap.size + 1) 1 (J U (s8.er : Int)) (fun q e => by have := KI.out q e; omega))
     have J8b := V (ownsRow_put J8a.out (w.heap.size + 1) 1 (J U (s8.er : Int)) (fun q e => by have := KJ.out q e; omega))
     have B8b := V (B8a.out.setCell (p := ⟨(w.heap.size + 1), 1, none⟩) (by show w.heap.size ≤ (w.heap.size + 1); omega) (J U (s8.er : Int)))
     clear P8a O8a U8a I8a J8a B8a
     have T1 := V (show (((w8).setCell ⟨(w.heap.size + 1), 0, none⟩ (.slice A8 s8.xs.length c8)).setCell ⟨(w.heap.size + 1), 1, none⟩ (J U (s8.er : Int))).there (w.heap.size + 2) 40 ([J U r.ir,J U r.is,J U r.st,J U r.pn,J U r.pr,J U r.bn,J U r.br,J U r.c.k,J U r.c.tc,J U r.c.tn,J U r.c.tt,J U r.c.tk,J U r.c.sh,.slice A1q r.c.rs.length k1,.slice A2q r.c.ws.length k2,.bool r.c.cm,J U r.sq,J U r.d0,J U r.d1,J U r.d2,J U r.d3,J U r.d4,J U r.d5,J U r.d6,.bool r.kp] : List Value).length from U8b.out.there (by show 40 + 25 ≤ 65; omega))
     have se := bel_setCells (((w8).setCell ⟨(w.heap.size + 1), 0, none⟩ (.slice A8 s8.xs.length c8)).setCell ⟨(w.heap.size + 1), 1, none⟩ (J U (s8.er : Int))) (w.heap.size + 2) [J U r.ir,J U r.is,J U r.st,J U r.pn,J U r.pr,J U r.bn,J U r.br,J U r.c.k,J U r.c.tc,J U r.c.tn,J U r.c.tt,J U r.c.tk,J U r.c.sh,.slice A1q r.c.rs.length k1,.slice A2q r.c.ws.length k2,.bool r.c.cm,J U r.sq,J U r.d0,J U r.d1,J U r.d2,J U r.d3,J U r.d4,J U r.d5,J U r.d6,.bool r.kp] 40
     have FP := Hold.set [J U r.ir,J U r.is,J U r.st,J U r.pn,J U r.pr,J U r.bn,J U r.br,J U r.c.k,J U r.c.tc,J U r.c.tn,J U r.c.tt,J U r.c.tk,J U r.c.sh,.slice A1q r.c.rs.length k1,.slice A2q r.c.ws.length k2,.bool r.c.cm,J U r.sq,J U r.d0,J U r.d1,J U r.d2,J U r.d3,J U r.d4,J U r.d5,J U r.d6,.bool r.kp] [encN 3,J U 0,J U 0,J U 0,J U 0,J U 0,J U 0,.slice none 0 0,.slice none 0 0,.bool false,J U 0,J U 0,J U 0,J U 0,J U 0,J U 0,J U 0,J U 0,J U 0,J U 0,J U 0,J U 0,J U 0,.slice none 0 0,.slice none 0 0,.bool false,J U 0,J U 0,J U 0,J U 0,J U 0,J U 0,J U 0,J U 0,.bool false, encN a1, encN a2, encN a3, encN a4, encN a5] [J U 0,J U 0,J U 0,J U 0,J U 0,J U 0,J U 0,J U 0,J U 0,J U 0,J U 0,J U 0,J U 0,.slice none 0 0,.slice none 0 0,.bool false,J U 0,J U 0,J U 0,J U 0,J U 0,J U 0,J U 0,J U 0,.bool false] ([] : List Value) rfl _ (show Hold (((w8).setCell ⟨(w.heap.size + 1), 0, none⟩ (.slice A8 s8.xs.length c8)).setCell ⟨(w.heap.size + 1), 1, none⟩ (J U (s8.er : Int))) (w.heap.size + 2) 97 ([encN 3,J U 0,J U 0,J U 0,J U 0,J U 0,J U 0,.slice none 0 0,.slice none 0 0,.bool false,J U 0,J U 0,J U 0,J U 0,J U 0,J U 0,J U 0,J U 0,J U 0,J U 0,J U 0,J U 0,J U 0,.slice none 0 0,.slice none 0 0,.bool false,J U 0,J U 0,J U 0,J U 0,J U 0,J U 0,J U 0,J U 0,.bool false, encN a1, encN a2, encN a3, encN a4, encN a5] ++ [J U 0,J U 0,J U 0,J U 0,J U 0,J U 0,J U 0,J U 0,J U 0,J U 0,J U 0,J U 0,J U 0,.slice none 0 0,.slice none 0 0,.bool false,J U 0,J U 0,J U 0,J U 0,J U 0,J U 0,J U 0,J U 0,.bool false] ++ ([] : List Value)) from U8b.out)
     obtain ⟨wf, ef⟩ : ∃ wf, wf = (((w8).setCell ⟨(w.heap.size + 1), 0, none⟩ (.slice A8 s8.xs.length c8)).setCell ⟨(w.heap.size + 1), 1, none⟩ (J U (s8.er : Int))).setCells (w.heap.size + 2) 40 [J U r.ir,J U r.is,J U r.st,J U r.pn,J U r.pr,J U r.bn,J U r.br,J U r.c.k,J U r.c.tc,J U r.c.tn,J U r.c.tt,J U r.c.tk,J U r.c.sh,.slice A1q r.c.rs.length k1,.slice A2q r.c.ws.length k2,.bool r.c.cm,J U r.sq,J U r.d0,J U r.d1,J U r.d2,J U r.d3,J U r.d4,J U r.d5,J U r.d6,.bool r.kp] := ⟨_, rfl⟩
     have UF := V (show Hold wf (w.heap.size + 2) 97 [encN 3,J U 0,J U 0,J U 0,J U 0,J U 0,J U 0,.slice none 0 0,.slice none 0 0,.bool false,J U 0,J U 0,J U 0,J U 0,J U 0,J U 0,J U 0,J U 0,J U 0,J U 0,J U 0,J U 0,J U 0,.slice none 0 0,.slice none 0 0,.bool false,J U 0,J U 0,J U 0,J U 0,J U 0,J U 0,J U 0,J U 0,.bool false, encN a1, encN a2, encN a3, encN a4, encN a5,J U r.ir,J U r.is,J U r.st,J U r.pn,J U r.pr,J U r.bn,J U r.br,J U r.c.k,J U r.c.tc,J U r.c.tn,J U r.c.tt,J U r.c.tk,J U r.c.sh,.slice A1q r.c.rs.length k1,.slice A2q r.c.ws.length k2,.bool r.c.cm,J U r.sq,J U r.d0,J U r.d1,J U r.d2,J U r.d3,J U r.d4,J U r.d5,J U r.d6,.bool r.kp] from ef ▸ FP)
     have PF := V (show Hold wf _ _ _ from ef ▸ P8b.out.bel se (by omega))
     have OF := V (show Hold wf _ _ _ from ef ▸ O8b.out.bel se (by omega))
     have IF := V (show wf.ownsRow _ _ _ _ _ _ from ef ▸ ownsRow_bel I8b.out se (by omega))
     have JF := V (show wf.ownsRow _ _ _ _ _ _ from ef ▸ ownsRow_bel J8b.out se (by omega))
     have BF := V (show Below w.heap.size w wf from ef ▸ below_setCells (by omega : w.heap.size ≤ w.heap.size + 2) [J U r.ir,J U r.is,J U r.st,J U r.pn,J U r.pr,J U r.bn,J U r.br,J U r.c.k,J U r.c.tc,J U r.c.tn,J U r.c.tt,J U r.c.tk,J U r.c.sh,.slice A1q r.c.rs.length k1,.slice A2q r.c.ws.length k2,.bool r.c.cm,J U r.sq,J U r.d0,J U r.d1,J U r.d2,J U r.d3,J U r.d4,J U r.d5,J U r.d6,.bool r.kp] 40 _ _ B8b.out)
     clear se FP P8b O8b U8b I8b J8b B8b
     have XL := V (show wf.rangeAt (w.heap.size + 2) 35 [encN a1, encN a2, encN a3, encN a4, encN a5,J U r.ir,J U r.is,J U r.st,J U r.pn,J U r.pr,J U r.bn,J U r.br,J U r.c.k,J U r.c.tc,J U r.c.tn,J U r.c.tt,J U r.c.tk,J U r.c.sh,.slice A1q r.c.rs.length k1,.slice A2q r.c.ws.length k2,.bool r.c.cm,J U r.sq,J U r.d0,J U r.d1,J U r.d2,J U r.d3,J U r.d4,J U r.d5,J U r.d6,.bool r.kp] from Cel.sub_of UF.out.cel rfl)
     go_wp2_with (first
      | (with_reducible refine store_list rfl 67 _ _ rfl (w.heap.size + 2) 40 [J U r.ir,J U r.is,J U r.st,J U r.pn,J U r.pr,J U r.bn,J U r.br,J U r.c.k,J U r.c.tc,J U r.c.tn,J U r.c.tt,J U r.c.tk,J U r.c.sh,.slice A1q r.c.rs.length k1,.slice A2q r.c.ws.length k2,.bool r.c.cm,J U r.sq,J U r.d0,J U r.d1,J U r.d2,J U r.d3,J U r.d4,J U r.d5,J U r.d6,.bool r.kp] rfl rfl T1.out (by kernel_rfl) (by kernel_rfl) ?_)
      | (with_reducible refine wpList_load_mid rfl 95 _ rfl (w.heap.size + 2) 35 rfl [encN a1, encN a2, encN a3, encN a4, encN a5,J U r.ir,J U r.is,J U r.st,J U r.pn,J U r.pr,J U r.bn,J U r.br,J U r.c.k,J U r.c.tc,J U r.c.tn,J U r.c.tt,J U r.c.tk,J U r.c.sh,.slice A1q r.c.rs.length k1,.slice A2q r.c.ws.length k2,.bool r.c.cm,J U r.sq,J U r.d0,J U r.d1,J U r.d2,J U r.d3,J U r.d4,J U r.d5,J U r.d6,.bool r.kp] _ (by rw [← ef]; exact XL.out) Tryz.underlying95 rfl (by kernel_rfl) ?_))
     rw [← ef]
     clear ef T1 XL za0 zb0 za1 zb1
     refine (docf_msg (⟨a1, a2, a3, a4, a5, r⟩ : M.Msg) (RowN.of_owns IF.out) (RowN.of_owns JF.out) MD.out).mono ?_
     rintro e wg ⟨rfl, hb⟩
     have PG := V (PF.out.on hb)
     have OG := V (OF.out.on hb)
     have UG := V (UF.out.on hb)
     have BG := V (below_on BF.out hb)
     have RG := V (ownsRow_bel (g := 0) IF.out (Bel.of hb) (by omega))
     have WG := V (ownsRow_bel (g := 0) JF.out (Bel.of hb) (by omega))
     clear hb PF OF UF BF IF JF
     have RAN := V (show P.Ran P.val ⟨xs, 0⟩ s8 (.inr (.inr (⟨a1, a2, a3, a4, a5, r⟩ : M.Msg))) from P.Ran.bind P.errs_one H1.out (by rw [if_neg (by omega), if_neg (by omega), if_pos rfl]; exact P.Ran.bind P.errs_msg (P.Ran.bind P.errs_num Ha1.out (P.Ran.bind P.errs_num Ha2.out (P.Ran.bind P.errs_num Ha3.out (P.Ran.bind P.errs_num Ha4.out (P.Ran.bind P.errs_num Ha5.out (P.Ran.bind (P.errs_mark 2) H7.out (P.Ran.bind P.errs_rcd H8.out (P.Ran.ret _ _)))))))) (P.Ran.ret _ _)))
     go_wp2
     go_meet
     case rel => exact ⟨s8, _, _, _, [encN 3,J U 0,J U 0,J U 0,J U 0,J U 0,J U 0,.slice none 0 0,.slice none 0 0,.bool false,J U 0,J U 0,J U 0,J U 0,J U 0,J U 0,J U 0,J U 0,J U 0,J U 0,J U 0,J U 0,J U 0,.slice none 0 0,.slice none 0 0,.bool false,J U 0,J U 0,J U 0,J U 0,J U 0,J U 0,J U 0,J U 0,.bool false, encN a1, encN a2, encN a3, encN a4, encN a5,J U r.ir,J U r.is,J U r.st,J U r.pn,J U r.pr,J U r.bn,J U r.br,J U r.c.k,J U r.c.tc,J U r.c.tn,J U r.c.tt,J U r.c.tk,J U r.c.sh,.slice A1q r.c.rs.length k1,.slice A2q r.c.ws.length k2,.bool r.c.cm,J U r.sq,J U r.d0,J U r.d1,J U r.d2,J U r.d3,J U r.d4,J U r.d5,J U r.d6,.bool r.kp], rfl, PG.out, OG.out, UG.out, rfl, (by kernel_rfl), BG.out, D8.out, .inr ⟨.inr (.inr (⟨a1, a2, a3, a4, a5, r⟩ : M.Msg)), RAN.out, rfl, ⟨_, _, rfl, RG.out, WG.out, MD.out⟩⟩⟩
    ·have q3 : ((b : Int) == 3) = false := by rw [beq_eq_false_iff_ne]; omega
     have HN := V (And.intro h1 (And.intro h2 h3))
     clear h1 h2 h3
     go_wp2_with (fail)
     refine (fail_doc 4 rfl D1.out).mono ?_
     rintro e w2 ⟨x2, rfl, hx, hb⟩
     obtain ⟨A2, c2, rfl, hq⟩ := hx
     have D2 := V (show Prt w _ (P.fail 4 s1) from ⟨A2, c2, rfl, hq⟩)
     clear hq
     have P2 := V (P1c.out.on hb)
     have O2 := V (O1c.out.on hb)
     have U2 := V (U1c.out.on hb)
     have B2 := V (below_on B1c.out hb)
     clear hb
     clear P1c O1c U1c B1c
     clear za0 zb0 za1 zb1 za2 zb2
     obtain ⟨s2, hs⟩ : ∃ s2, s2 = P.fail 4 s1 := ⟨_, rfl⟩
     rw [← hs] at D2 ⊢
     have HS := V hs
     clear hs
     have za0 := P2.out.cell 0 rfl
     have zb0 := P2.out.soft 0
     have za1 := P2.out.cell 1 rfl
     have zb1 := P2.out.soft 1
     have P2a := V (show Hold ((w2).setCell ⟨(w.heap.size + 1), 0, none⟩ (.slice A2 s2.xs.length c2)) (w.heap.size + 1) 119 [.slice A2 s2.xs.length c2,J U (s1.er : Int)] from P2.out.put 0 (.slice A2 s2.xs.length c2))
     have O2a := V (O2.out.bel (Bel.store (w2) (w.heap.size + 1) 0 (.slice A2 s2.xs.length c2)) (by omega))
     have U2a := V (U2.out.bel (Bel.store (w2) (w.heap.size + 1) 0 (.slice A2 s2.xs.length c2)) (by omega))
     have B2a := V (B2.out.setCell (p := ⟨(w.heap.size + 1), 0, none⟩) (by show w.heap.size ≤ (w.heap.size + 1); omega) (.slice A2 s2.xs.length c2))
     clear P2 O2 U2 B2
     have P2b := V (show Hold (((w2).setCell ⟨(w.heap.size + 1), 0, none⟩ (.slice A2 s2.xs.length c2)).setCell ⟨(w.heap.size + 1), 1, none⟩ (J U (s2.er : Int))) (w.heap.size + 1) 119 [.slice A2 s2.xs.length c2,J U (s2.er : Int)] from P2a.out.put 1 (J U (s2.er : Int)))
     have O2b := V (O2a.out.bel (Bel.store ((w2).setCell ⟨(w.heap.size + 1), 0, none⟩ (.slice A2 s2.xs.length c2)) (w.heap.size + 1) 1 (J U (s2.er : Int))) (by omega))
     have U2b := V (U2a.out.bel (Bel.store ((w2).setCell ⟨(w.heap.size + 1), 0, none⟩ (.slice A2 s2.xs.length c2)) (w.heap.size + 1) 1 (J U (s2.er : Int))) (by omega))
     have B2b := V (B2a.out.setCell (p := ⟨(w.heap.size + 1), 1, none⟩) (by show w.heap.size ≤ (w.heap.size + 1); omega) (J U (s2.er : Int)))
     clear P2a O2a U2a B2a
     have EN := V (show s2.er ≠ 0 from HS.out ▸ P.fail_er (by omega))
     have RA := V (show ∀ v, P.Ran P.val ⟨xs, 0⟩ s2 v from fun v => P.Ran.bind P.errs_one H1.out (by rw [if_neg HN.out.1, if_neg HN.out.2.1, if_neg HN.out.2.2, HS.out]; exact P.Ran.err _ _))
     go_wp2
     go_meet
     case rel => exact ⟨s2, _, _, false, [encN b,J U 0,J U 0,J U 0,J U 0,J U 0,J U 0,.slice none 0 0,.slice none 0 0,.bool false,J U 0,J U 0,J U 0,J U 0,J U 0,J U 0,J U 0,J U 0,J U 0,J U 0,J U 0,J U 0,J U 0,.slice none 0 0,.slice none 0 0,.bool false,J U 0,J U 0,J U 0,J U 0,J U 0,J U 0,J U 0,J U 0,.bool false,J U 0,J U 0,J U 0,J U 0,J U 0,J U 0,J U 0,J U 0,J U 0,J U 0,J U 0,J U 0,J U 0,J U 0,J U 0,J U 0,J U 0,J U 0,.slice none 0 0,.slice none 0 0,.bool false,J U 0,J U 0,J U 0,J U 0,J U 0,J U 0,J U 0,J U 0,.bool false], rfl, P2b.out, O2b.out, U2b.out, rfl, (by kernel_rfl), B2b.out, D2.out, .inl ⟨EN.out, RA.out⟩⟩
 case rest =>
  obtain ⟨s2, A2, c2, rb, UL, rfl, hp, ho, hu, hlen, hone, hb, hd, hv⟩ := hcut
  have P2 := V hp
  have O2 := V ho
  have U2 := V hu
  have HLEN := V hlen
  have HONE := V hone
  have B2 := V hb
  have D2 := V hd
  have HV := V hv
  clear hp ho hu hlen hone hb hd hv
  have p0 := P2.out.cell 0 rfl
  have p1q := P2.out.cell 1 rfl
  by_cases he : s2.er = 0
  ·have HE := V he
   have q1 : ((s2.er : Int) == 0) = true := by rw [beq_iff_eq]; omega
   have q2 : ((s2.er : Int) != 0) = false := by rw [bne, q1]; rfl
   obtain ⟨v, hv1, hv2, hv3⟩ : ∃ v, P.val xs = .ok (s2.xs, v) ∧ rb = P.rightV v ∧ AnyO wc (w.heap.size + 3) v (.agg UL.toArray) := by
    rcases HV.out with ⟨h1, _⟩ | ⟨v, h2, h3, h4⟩
    ·exact absurd he h1
    ·exact ⟨v, h2.ok_of P.errs_val he, h3, h4⟩
   have HV1 := V hv1
   have HV2 := V hv2
   have HV3 := V hv3
   clear hv1 hv2 hv3 he HV
   by_cases hl : 0 < s2.xs.length
   ·have hD : P.dec xs = .error 5 := by unfold P.dec; rw [HV1.out]; simp only; rw [if_pos hl]
    have HD := V hD
    clear hD
    go_wp2_with (fail)
    have fd := fail_doc (w := wc) 5 (y := 5) rfl D2.out
    have ef : P.fail 5 s2 = ⟨s2.xs, 5⟩ := by unfold P.fail; rw [if_pos HE.out]
    rw [ef] at fd
    clear ef
    obtain ⟨s3, h3⟩ : ∃ s3, s3 = (⟨s2.xs, 5⟩ : P.Sr) := ⟨_, rfl⟩
    rw [← h3] at fd
    have h5 : s3.er = 5 := by rw [h3]
    have H5 := V h5
    clear h3 h5 q1 q2
    refine (fd).mono ?_
    rintro e w31 ⟨xq, rfl, hx, hb⟩
    obtain ⟨A31, c31, rfl, hq⟩ := hx
    have D31 := V (show Prt w _ s3 from ⟨A31, c31, rfl, hq⟩)
    clear hq
    have P31 := V (P2.out.on hb)
    have O31 := V (O2.out.on hb)
    have U31 := V (U2.out.on hb)
    have B31 := V (below_on B2.out hb)
    clear hb
    clear P2 O2 U2 B2
    clear p0 p1q
    clear fd hl
    have za0 := P31.out.cell 0 rfl
    have zb0 := P31.out.soft 0
    have za1 := P31.out.cell 1 rfl
    have zb1 := P31.out.soft 1
    have P31a := V (show Hold ((w31).setCell ⟨(w.heap.size + 1), 0, none⟩ (.slice A31 s3.xs.length c31)) (w.heap.size + 1) 119 [.slice A31 s3.xs.length c31,J U (s2.er : Int)] from P31.out.put 0 (.slice A31 s3.xs.length c31))
    have O31a := V (O31.out.bel (Bel.store (w31) (w.heap.size + 1) 0 (.slice A31 s3.xs.length c31)) (by omega))
    have U31a := V (U31.out.bel (Bel.store (w31) (w.heap.size + 1) 0 (.slice A31 s3.xs.length c31)) (by omega))
    have B31a := V (B31.out.setCell (p := ⟨(w.heap.size + 1), 0, none⟩) (by show w.heap.size ≤ (w.heap.size + 1); omega) (.slice A31 s3.xs.length c31))
    clear P31 O31 U31 B31
    have P31b := V (show Hold (((w31).setCell ⟨(w.heap.size + 1), 0, none⟩ (.slice A31 s3.xs.length c31)).setCell ⟨(w.heap.size + 1), 1, none⟩ (J U (s3.er : Int))) (w.heap.size + 1) 119 [.slice A31 s3.xs.length c31,J U (s3.er : Int)] from P31a.out.put 1 (J U (s3.er : Int)))
    have O31b := V (O31a.out.bel (Bel.store ((w31).setCell ⟨(w.heap.size + 1), 0, none⟩ (.slice A31 s3.xs.length c31)) (w.heap.size + 1) 1 (J U (s3.er : Int))) (by omega))
    have U31b := V (U31a.out.bel (Bel.store ((w31).setCell ⟨(w.heap.size + 1), 0, none⟩ (.slice A31 s3.xs.length c31)) (w.heap.size + 1) 1 (J U (s3.er : Int))) (by omega))
    have B31b := V (B31a.out.setCell (p := ⟨(w.heap.size + 1), 1, none⟩) (by show w.heap.size ≤ (w.heap.size + 1); omega) (J U (s3.er : Int)))
    clear P31a O31a U31a B31a
    have q1 : ((s3.er : Int) == 0) = false := by rw [beq_eq_false_iff_ne, H5.out]; decide
    have q2 : ((s3.er : Int) != 0) = true := by rw [bne, q1]; rfl
    have HD5 := V (show P.dec xs = .error s3.er by rw [HD.out, H5.out])
    clear HV2
    cases rb with
    | false =>
      go_wp2_with (fail)
      have ef : P.fail 1 s3 = s3 := by unfold P.fail; rw [if_neg (by rw [H5.out]; decide)]
      have fd := fail_doc (w := ((w31).setCell ⟨(w.heap.size + 1), 0, none⟩ (.slice A31 s3.xs.length c31)).setCell ⟨(w.heap.size + 1), 1, none⟩ (J U (s3.er : Int))) 1 (y := 1) rfl D31.out
      rw [ef] at fd
      clear ef
      refine (fd).mono ?_
      rintro e w32 ⟨xr, rfl, hx, hb⟩
      obtain ⟨A32, c32, rfl, hq⟩ := hx
      have D32 := V (show Prt w _ s3 from ⟨A32, c32, rfl, hq⟩)
      clear hq
      have P32 := V (P31b.out.on hb)
      have O32 := V (O31b.out.on hb)
      have U32 := V (U31b.out.on hb)
      have B32 := V (below_on B31b.out hb)
      clear hb
      clear P31b O31b U31b B31b
      clear za0 zb0 za1 zb1
      clear fd
      have za0 := P32.out.cell 0 rfl
      have zb0 := P32.out.soft 0
      have za1 := P32.out.cell 1 rfl
      have zb1 := P32.out.soft 1
      have P32a := V (show Hold ((w32).setCell ⟨(w.heap.size + 1), 0, none⟩ (.slice A32 s3.xs.length c32)) (w.heap.size + 1) 119 [.slice A32 s3.xs.length c32,J U (s3.er : Int)] from P32.out.put 0 (.slice A32 s3.xs.length c32))
      have O32a := V (O32.out.bel (Bel.store (w32) (w.heap.size + 1) 0 (.slice A32 s3.xs.length c32)) (by omega))
      have U32a := V (U32.out.bel (Bel.store (w32) (w.heap.size + 1) 0 (.slice A32 s3.xs.length c32)) (by omega))
      have B32a := V (B32.out.setCell (p := ⟨(w.heap.size + 1), 0, none⟩) (by show w.heap.size ≤ (w.heap.size + 1); omega) (.slice A32 s3.xs.length c32))
      clear P32 O32 U32 B32
      have P32b := V (show Hold (((w32).setCell ⟨(w.heap.size + 1), 0, none⟩ (.slice A32 s3.xs.length c32)).setCell ⟨(w.heap.size + 1), 1, none⟩ (J U (s3.er : Int))) (w.heap.size + 1) 119 [.slice A32 s3.xs.length c32,J U (s3.er : Int)] from P32a.out.put 1 (J U (s3.er : Int)))
      have O32b := V (O32a.out.bel (Bel.store ((w32).setCell ⟨(w.heap.size + 1), 0, none⟩ (.slice A32 s3.xs.length c32)) (w.heap.size + 1) 1 (J U (s3.er : Int))) (by omega))
      have U32b := V (U32a.out.bel (Bel.store ((w32).setCell ⟨(w.heap.size + 1), 0, none⟩ (.slice A32 s3.xs.length c32)) (w.heap.size + 1) 1 (J U (s3.er : Int))) (by omega))
      have B32b := V (B32a.out.setCell (p := ⟨(w.heap.size + 1), 1, none⟩) (by show w.heap.size ≤ (w.heap.size + 1); omega) (J U (s3.er : Int)))
      clear P32a O32a U32a B32a
      obtain ⟨wd, ed⟩ : ∃ wd, wd = ((w32).setCell ⟨(w.heap.size + 1), 0, none⟩ (.slice A32 s3.xs.length c32)).setCell ⟨(w.heap.size + 1), 1, none⟩ (J U (s3.er : Int)) := ⟨_, rfl⟩
      have PD := V (ed ▸ P32b.out)
      have OD := V (ed ▸ O32b.out)
      have UD := V (ed ▸ U32b.out)
      have BD := V (ed ▸ B32b.out)
      clear P32b O32b U32b B32b
      go_wp2
      try rw [← ed]
      clear ed za0 zb0 za1 zb1
      obtain ⟨p1, TO0, p2, OE0, BE0⟩ := bad_facts PD.out OD.out BD.out
      have TO := V TO0
      have OE := V OE0
      have BE := V BE0
      clear TO0 OE0 BE0
      refine wp_region_any (by kernel_rfl) ?_
      try (change wpAny _ _ _ _ _ _ _ (World.drew _))
      refine wpAny_take (i := 0) (v := ?va0_11) rfl (by kernel_rfl) (by kernel_rfl) (by kernel_rfl) (fun _ _ _ h => h) (Or.inl ⟨by rfl, ?ha0_11⟩) ?ra0_11
      case ha0_11 => intro w; go_simp; try with_reducible rfl
      go_simp
      refine wpAny_take (i := 1) (v := ?va1_12) rfl (by kernel_rfl) (by kernel_rfl) (by kernel_rfl) (fun _ _ _ h => h) (Or.inl ⟨by rfl, ?ha1_12⟩) ?ra1_12
      case ha1_12 => intro w; go_simp; try with_reducible rfl
      go_simp
      refine wpAny_ready (rs := [2, 3]) (by kernel_rfl) (by simp) ?_
      refine AllReady.cons rfl (fun K hK => ?_) (AllReady.cons rfl (fun K hK => ?_) AllReady.nil)
      ·go_simp
       refine hK _ _ ?_
       clear hK K
       refine wpAny_ready (rs := [3]) (by kernel_rfl) (by simp) ?_
       refine AllReady.cons rfl (fun K hK => ?_) AllReady.nil
       refine step_st (by rfl) 97 _ _ rfl w.heap.size 0 _ rfl (by kernel_rfl) TO.out (by kernel_rfl) (by kernel_rfl) ?_
       try go_simp
       refine hK _ _ ?_
       clear hK K
       refine wpAny_take (i := 4) (v := ?va4_9) rfl (by kernel_rfl) (by kernel_rfl) (by kernel_rfl) (fun _ _ _ h => h) (Or.inl ⟨by rfl, ?ha4_9⟩) ?ra4_9
       case ha4_9 => intro w; go_simp; try with_reducible rfl
       go_simp
       refine wpAny_done (by kernel_rfl) ?_ _
       go_wp2
       refine bodyPost_ret (results_cv rfl rfl rfl OE.out.cel.whole _ Tryz.underlying97 rfl (by kernel_rfl)) rfl ?_
       rw [HD5.out]
       exact ⟨BE.out, rfl⟩
      ·refine step_st (by rfl) 97 _ _ rfl w.heap.size 0 _ rfl (by kernel_rfl) TO.out (by kernel_rfl) (by kernel_rfl) ?_
       try go_simp
       refine hK _ _ ?_
       clear hK K
       refine wpAny_ready (rs := [2]) (by kernel_rfl) (by simp) ?_
       refine AllReady.cons rfl (fun K hK => ?_) AllReady.nil
       go_simp
       refine hK _ _ ?_
       clear hK K
       refine wpAny_take (i := 4) (v := ?va4_10) rfl (by kernel_rfl) (by kernel_rfl) (by kernel_rfl) (fun _ _ _ h => h) (Or.inl ⟨by rfl, ?ha4_10⟩) ?ra4_10
       case ha4_10 => intro w; go_simp; try with_reducible rfl
       go_simp
       refine wpAny_done (by kernel_rfl) ?_ _
       go_wp2
       refine bodyPost_ret (results_cv rfl rfl rfl OE.out.cel.whole _ Tryz.underlying97 rfl (by kernel_rfl)) rfl ?_
       rw [HD5.out]
       exact ⟨BE.out, rfl⟩
    | true =>
      obtain ⟨wd, ed⟩ : ∃ wd, wd = ((w31).setCell ⟨(w.heap.size + 1), 0, none⟩ (.slice A31 s3.xs.length c31)).setCell ⟨(w.heap.size + 1), 1, none⟩ (J U (s3.er : Int)) := ⟨_, rfl⟩
      have PD := V (ed ▸ P31b.out)
      have OD := V (ed ▸ O31b.out)
      have UD := V (ed ▸ U31b.out)
      have BD := V (ed ▸ B31b.out)
      clear P31b O31b U31b B31b
      go_wp2
      try rw [← ed]
      clear ed za0 zb0 za1 zb1
      obtain ⟨p1, TO0, p2, OE0, BE0⟩ := bad_facts PD.out OD.out BD.out
      have TO := V TO0
      have OE := V OE0
      have BE := V BE0
      clear TO0 OE0 BE0
      refine wp_region_any (by kernel_rfl) ?_
      try (change wpAny _ _ _ _ _ _ _ (World.drew _))
      refine wpAny_take (i := 0) (v := ?va0_15) rfl (by kernel_rfl) (by kernel_rfl) (by kernel_rfl) (fun _ _ _ h => h) (Or.inl ⟨by rfl, ?ha0_15⟩) ?ra0_15
      case ha0_15 => intro w; go_simp; try with_reducible rfl
      go_simp
      refine wpAny_take (i := 1) (v := ?va1_16) rfl (by kernel_rfl) (by kernel_rfl) (by kernel_rfl) (fun _ _ _ h => h) (Or.inl ⟨by rfl, ?ha1_16⟩) ?ra1_16
      case ha1_16 => intro w; go_simp; try with_reducible rfl
      go_simp
      refine wpAny_ready (rs := [2, 3]) (by kernel_rfl) (by simp) ?_
      refine AllReady.cons rfl (fun K hK => ?_) (AllReady.cons rfl (fun K hK => ?_) AllReady.nil)
      ·go_simp
       refine hK _ _ ?_
       clear hK K
       refine wpAny_ready (rs := [3]) (by kernel_rfl) (by simp) ?_
       refine AllReady.cons rfl (fun K hK => ?_) AllReady.nil
       refine step_st (by rfl) 97 _ _ rfl w.heap.size 0 _ rfl (by kernel_rfl) TO.out (by kernel_rfl) (by kernel_rfl) ?_
       try go_simp
       refine hK _ _ ?_
       clear hK K
       refine wpAny_take (i := 4) (v := ?va4_13) rfl (by kernel_rfl) (by kernel_rfl) (by kernel_rfl) (fun _ _ _ h => h) (Or.inl ⟨by rfl, ?ha4_13⟩) ?ra4_13
       case ha4_13 => intro w; go_simp; try with_reducible rfl
       go_simp
       refine wpAny_done (by kernel_rfl) ?_ _
       go_wp2
       refine bodyPost_ret (results_cv rfl rfl rfl OE.out.cel.whole _ Tryz.underlying97 rfl (by kernel_rfl)) rfl ?_
       rw [HD5.out]
       exact ⟨BE.out, rfl⟩
      ·refine step_st (by rfl) 97 _ _ rfl w.heap.size 0 _ rfl (by kernel_rfl) TO.out (by kernel_rfl) (by kernel_rfl) ?_
       try go_simp
       refine hK _ _ ?_
       clear hK K
       refine wpAny_ready (rs := [2]) (by kernel_rfl) (by simp) ?_
       refine AllReady.cons rfl (fun K hK => ?_) AllReady.nil
       go_simp
       refine hK _ _ ?_
       clear hK K
       refine wpAny_take (i := 4) (v := ?va4_14) rfl (by kernel_rfl) (by kernel_rfl) (by kernel_rfl) (fun _ _ _ h => h) (Or.inl ⟨by rfl, ?ha4_14⟩) ?ra4_14
       case ha4_14 => intro w; go_simp; try with_reducible rfl
       go_simp
       refine wpAny_done (by kernel_rfl) ?_ _
       go_wp2
       refine bodyPost_ret (results_cv rfl rfl rfl OE.out.cel.whole _ Tryz.underlying97 rfl (by kernel_rfl)) rfl ?_
       rw [HD5.out]
       exact ⟨BE.out, rfl⟩
   ·have HL := V hl
    cases rb with
    | false =>
      have hD : P.dec xs = .error 1 := by unfold P.dec; rw [HV1.out]; simp only; rw [if_neg hl, ← HV2.out]; rfl
      have HD := V hD
      clear hD
      go_wp2_with (fail)
      have fd := fail_doc (w := wc) 1 (y := 1) rfl D2.out
      have ef : P.fail 1 s2 = ⟨s2.xs, 1⟩ := by unfold P.fail; rw [if_pos HE.out]
      rw [ef] at fd
      clear ef
      obtain ⟨s3, h3⟩ : ∃ s3, s3 = (⟨s2.xs, 1⟩ : P.Sr) := ⟨_, rfl⟩
      rw [← h3] at fd
      have h5 : s3.er = 1 := by rw [h3]
      have H5 := V h5
      clear h3 h5 q1 q2 hl
      refine (fd).mono ?_
      rintro e w31 ⟨xq, rfl, hx, hb⟩
      obtain ⟨A31, c31, rfl, hq⟩ := hx
      have D31 := V (show Prt w _ s3 from ⟨A31, c31, rfl, hq⟩)
      clear hq
      have P31 := V (P2.out.on hb)
      have O31 := V (O2.out.on hb)
      have U31 := V (U2.out.on hb)
      have B31 := V (below_on B2.out hb)
      clear hb
      clear P2 O2 U2 B2
      clear p0 p1q
      clear fd
      have za0 := P31.out.cell 0 rfl
      have zb0 := P31.out.soft 0
      have za1 := P31.out.cell 1 rfl
      have zb1 := P31.out.soft 1
      have P31a := V (show Hold ((w31).setCell ⟨(w.heap.size + 1), 0, none⟩ (.slice A31 s3.xs.length c31)) (w.heap.size + 1) 119 [.slice A31 s3.xs.length c31,J U (s2.er : Int)] from P31.out.put 0 (.slice A31 s3.xs.length c31))
      have O31a := V (O31.out.bel (Bel.store (w31) (w.heap.size + 1) 0 (.slice A31 s3.xs.length c31)) (by omega))
      have U31a := V (U31.out.bel (Bel.store (w31) (w.heap.size + 1) 0 (.slice A31 s3.xs.length c31)) (by omega))
      have B31a := V (B31.out.setCell (p := ⟨(w.heap.size + 1), 0, none⟩) (by show w.heap.size ≤ (w.heap.size + 1); omega) (.slice A31 s3.xs.length c31))
      clear P31 O31 U31 B31
      have P31b := V (show Hold (((w31).setCell ⟨(w.heap.size + 1), 0, none⟩ (.slice A31 s3.xs.length c31)).setCell ⟨(w.heap.size + 1), 1, none⟩ (J U (s3.er : Int))) (w.heap.size + 1) 119 [.slice A31 s3.xs.length c31,J U (s3.er : Int)] from P31a.out.put 1 (J U (s3.er : Int)))
      have O31b := V (O31a.out.bel (Bel.store ((w31).setCell ⟨(w.heap.size + 1), 0, none⟩ (.slice A31 s3.xs.length c31)) (w.heap.size + 1) 1 (J U (s3.er : Int))) (by omega))
      have U31b := V (U31a.out.bel (Bel.store ((w31).setCell ⟨(w.heap.size + 1), 0, none⟩ (.slice A31 s3.xs.length c31)) (w.heap.size + 1) 1 (J U (s3.er : Int))) (by omega))
      have B31b := V (B31a.out.setCell (p := ⟨(w.heap.size + 1), 1, none⟩) (by show w.heap.size ≤ (w.heap.size + 1); omega) (J U (s3.er : Int)))
      clear P31a O31a U31a B31a
      have q1 : ((s3.er : Int) == 0) = false := by rw [beq_eq_false_iff_ne, H5.out]; decide
      have q2 : ((s3.er : Int) != 0) = true := by rw [bne, q1]; rfl
      have HD5 := V (show P.dec xs = .error s3.er by rw [HD.out, H5.out])
      obtain ⟨wd, ed⟩ : ∃ wd, wd = ((w31).setCell ⟨(w.heap.size + 1), 0, none⟩ (.slice A31 s3.xs.length c31)).setCell ⟨(w.heap.size + 1), 1, none⟩ (J U (s3.er : Int)) := ⟨_, rfl⟩
      have PD := V (ed ▸ P31b.out)
      have OD := V (ed ▸ O31b.out)
      have UD := V (ed ▸ U31b.out)
      have BD := V (ed ▸ B31b.out)
      clear P31b O31b U31b B31b
      go_wp2
      try rw [← ed]
      clear ed za0 zb0 za1 zb1
      obtain ⟨p1, TO0, p2, OE0, BE0⟩ := bad_facts PD.out OD.out BD.out
      have TO := V TO0
      have OE := V OE0
      have BE := V BE0
      clear TO0 OE0 BE0
      refine wp_region_any (by kernel_rfl) ?_
      try (change wpAny _ _ _ _ _ _ _ (World.drew _))
      refine wpAny_take (i := 0) (v := ?va0_19) rfl (by kernel_rfl) (by kernel_rfl) (by kernel_rfl) (fun _ _ _ h => h) (Or.inl ⟨by rfl, ?ha0_19⟩) ?ra0_19
      case ha0_19 => intro w; go_simp; try with_reducible rfl
      go_simp
      refine wpAny_take (i := 1) (v := ?va1_20) rfl (by kernel_rfl) (by kernel_rfl) (by kernel_rfl) (fun _ _ _ h => h) (Or.inl ⟨by rfl, ?ha1_20⟩) ?ra1_20
      case ha1_20 => intro w; go_simp; try with_reducible rfl
      go_simp
      refine wpAny_ready (rs := [2, 3]) (by kernel_rfl) (by simp) ?_
      refine AllReady.cons rfl (fun K hK => ?_) (AllReady.cons rfl (fun K hK => ?_) AllReady.nil)
      ·go_simp
       refine hK _ _ ?_
       clear hK K
       refine wpAny_ready (rs := [3]) (by kernel_rfl) (by simp) ?_
       refine AllReady.cons rfl (fun K hK => ?_) AllReady.nil
       refine step_st (by rfl) 97 _ _ rfl w.heap.size 0 _ rfl (by kernel_rfl) TO.out (by kernel_rfl) (by kernel_rfl) ?_
       try go_simp
       refine hK _ _ ?_
       clear hK K
       refine wpAny_take (i := 4) (v := ?va4_17) rfl (by kernel_rfl) (by kernel_rfl) (by kernel_rfl) (fun _ _ _ h => h) (Or.inl ⟨by rfl, ?ha4_17⟩) ?ra4_17
       case ha4_17 => intro w; go_simp; try with_reducible rfl
       go_simp
       refine wpAny_done (by kernel_rfl) ?_ _
       go_wp2
       refine bodyPost_ret (results_cv rfl rfl rfl OE.out.cel.whole _ Tryz.underlying97 rfl (by kernel_rfl)) rfl ?_
       rw [HD5.out]
       exact ⟨BE.out, rfl⟩
      ·refine step_st (by rfl) 97 _ _ rfl w.heap.size 0 _ rfl (by kernel_rfl) TO.out (by kernel_rfl) (by kernel_rfl) ?_
       try go_simp
       refine hK _ _ ?_
       clear hK K
       refine wpAny_ready (rs := [2]) (by kernel_rfl) (by simp) ?_
       refine AllReady.cons rfl (fun K hK => ?_) AllReady.nil
       go_simp
       refine hK _ _ ?_
       clear hK K
       refine wpAny_take (i := 4) (v := ?va4_18) rfl (by kernel_rfl) (by kernel_rfl) (by kernel_rfl) (fun _ _ _ h => h) (Or.inl ⟨by rfl, ?ha4_18⟩) ?ra4_18
       case ha4_18 => intro w; go_simp; try with_reducible rfl
       go_simp
       refine wpAny_done (by kernel_rfl) ?_ _
       go_wp2
       refine bodyPost_ret (results_cv rfl rfl rfl OE.out.cel.whole _ Tryz.underlying97 rfl (by kernel_rfl)) rfl ?_
       rw [HD5.out]
       exact ⟨BE.out, rfl⟩
    | true =>
      have hD : P.dec xs = .ok v := by unfold P.dec; rw [HV1.out]; simp only; rw [if_neg hl, ← HV2.out]; rfl
      have HD := V hD
      clear hD
      have TH := V (show wc.there w.heap.size 0 UL.length from O2.out.there (by rw [HLEN.out]; exact Nat.le_refl 65))
      have hi := (show (Tryz.prog.info? 97).map (·.size) = some UL.length by rw [HLEN.out]; kernel_rfl)
      have HI := V hi
      clear hi
      have SO := bel_setCells wc w.heap.size UL 0
      have FO := Hold.set UL [] [J U 0,J U 0,J U 0,J U 0,J U 0,J U 0,J U 0,.slice none 0 0,.slice none 0 0,.bool false,J U 0,J U 0,J U 0,J U 0,J U 0,J U 0,J U 0,J U 0,J U 0,J U 0,J U 0,J U 0,J U 0,.slice none 0 0,.slice none 0 0,.bool false,J U 0,J U 0,J U 0,J U 0,J U 0,J U 0,J U 0,J U 0,.bool false,J U 0,J U 0,J U 0,J U 0,J U 0,J U 0,J U 0,J U 0,J U 0,J U 0,J U 0,J U 0,J U 0,J U 0,J U 0,J U 0,J U 0,J U 0,.slice none 0 0,.slice none 0 0,.bool false,J U 0,J U 0,J U 0,J U 0,J U 0,J U 0,J U 0,J U 0,.bool false] [] (by rw [HLEN.out]; rfl) _ (show Hold wc w.heap.size 97 ([] ++ [J U 0,J U 0,J U 0,J U 0,J U 0,J U 0,J U 0,.slice none 0 0,.slice none 0 0,.bool false,J U 0,J U 0,J U 0,J U 0,J U 0,J U 0,J U 0,J U 0,J U 0,J U 0,J U 0,J U 0,J U 0,.slice none 0 0,.slice none 0 0,.bool false,J U 0,J U 0,J U 0,J U 0,J U 0,J U 0,J U 0,J U 0,.bool false,J U 0,J U 0,J U 0,J U 0,J U 0,J U 0,J U 0,J U 0,J U 0,J U 0,J U 0,J U 0,J U 0,J U 0,J U 0,J U 0,J U 0,J U 0,.slice none 0 0,.slice none 0 0,.bool false,J U 0,J U 0,J U 0,J U 0,J U 0,J U 0,J U 0,J U 0,.bool false] ++ []) from O2.out)
      rw [List.nil_append, List.append_nil] at FO
      have OE := V FO
      have BE := V (below_setCells (Nat.le_refl w.heap.size) UL 0 _ _ B2.out)
      have AE := V (HV3.out.bel SO (by omega))
      clear SO FO
      go_wp2_with (first
       | (with_reducible refine wpList_load_mid rfl 97 _ rfl (w.heap.size + 2) 0 rfl UL _ U2.out.cel.whole Tryz.underlying97 rfl HI.out ?_)
       | (with_reducible refine store_list rfl 97 _ _ rfl w.heap.size 0 UL rfl rfl TH.out HI.out HONE.out ?_))
      refine bodyPost_ret (results_cv rfl rfl rfl OE.out.cel.whole _ Tryz.underlying97 rfl HI.out) rfl ?_
      rw [HD.out]
      exact ⟨BE.out, _, rfl, AE.out.low (by omega)⟩
  ·have HE := V he
   have q1 : ((s2.er : Int) == 0) = false := by rw [beq_eq_false_iff_ne]; omega
   have q2 : ((s2.er : Int) != 0) = true := by rw [bne, q1]; rfl
   have hD : P.dec xs = .error s2.er := by
    have : P.val xs = .error s2.er := by
     rcases HV.out with ⟨_, h2⟩ | ⟨v, h2, _⟩
     ·exact (h2 (.inl M.zero)).err_of he
     ·exact h2.err_of he
    unfold P.dec; rw [this]
   have HD := V hD
   clear hD he
   cases rb with
   | false =>
     go_wp2_with (fail)
     have ef : P.fail 1 s2 = s2 := by unfold P.fail; rw [if_neg HE.out]
     have fd := fail_doc (w := wc) 1 (y := 1) rfl D2.out
     rw [ef] at fd
     clear ef
     refine (fd).mono ?_
     rintro e w31 ⟨xq, rfl, hx, hb⟩
     obtain ⟨A31, c31, rfl, hq⟩ := hx
     have D31 := V (show Prt w _ s2 from ⟨A31, c31, rfl, hq⟩)
     clear hq
     have P31 := V (P2.out.on hb)
     have O31 := V (O2.out.on hb)
     have U31 := V (U2.out.on hb)
     have B31 := V (below_on B2.out hb)
     clear hb
     clear P2 O2 U2 B2
     clear p0 p1q
     clear fd
     have za0 := P31.out.cell 0 rfl
     have zb0 := P31.out.soft 0
     have za1 := P31.out.cell 1 rfl
     have zb1 := P31.out.soft 1
     have P31a := V (show Hold ((w31).setCell ⟨(w.heap.size + 1), 0, none⟩ (.slice A31 s2.xs.length c31)) (w.heap.size + 1) 119 [.slice A31 s2.xs.length c31,J U (s2.er : Int)] from P31.out.put 0 (.slice A31 s2.xs.length c31))
     have O31a := V (O31.out.bel (Bel.store (w31) (w.heap.size + 1) 0 (.slice A31 s2.xs.length c31)) (by omega))
     have U31a := V (U31.out.bel (Bel.store (w31) (w.heap.size + 1) 0 (.slice A31 s2.xs.length c31)) (by omega))
     have B31a := V (B31.out.setCell (p := ⟨(w.heap.size + 1), 0, none⟩) (by show w.heap.size ≤ (w.heap.size + 1); omega) (.slice A31 s2.xs.length c31))
     clear P31 O31 U31 B31
     have P31b := V (show Hold (((w31).setCell ⟨(w.heap.size + 1), 0, none⟩ (.slice A31 s2.xs.length c31)).setCell ⟨(w.heap.size + 1), 1, none⟩ (J U (s2.er : Int))) (w.heap.size + 1) 119 [.slice A31 s2.xs.length c31,J U (s2.er : Int)] from P31a.out.put 1 (J U (s2.er : Int)))
     have O31b := V (O31a.out.bel (Bel.store ((w31).setCell ⟨(w.heap.size + 1), 0, none⟩ (.slice A31 s2.xs.length c31)) (w.heap.size + 1) 1 (J U (s2.er : Int))) (by omega))
     have U31b := V (U31a.out.bel (Bel.store ((w31).setCell ⟨(w.heap.size + 1), 0, none⟩ (.slice A31 s2.xs.length c31)) (w.heap.size + 1) 1 (J U (s2.er : Int))) (by omega))
     have B31b := V (B31a.out.setCell (p := ⟨(w.heap.size + 1), 1, none⟩) (by show w.heap.size ≤ (w.heap.size + 1); omega) (J U (s2.er : Int)))
     clear P31a O31a U31a B31a
     obtain ⟨wd, ed⟩ : ∃ wd, wd = ((w31).setCell ⟨(w.heap.size + 1), 0, none⟩ (.slice A31 s2.xs.length c31)).setCell ⟨(w.heap.size + 1), 1, none⟩ (J U (s2.er : Int)) := ⟨_, rfl⟩
     have PD := V (ed ▸ P31b.out)
     have OD := V (ed ▸ O31b.out)
     have UD := V (ed ▸ U31b.out)
     have BD := V (ed ▸ B31b.out)
     clear P31b O31b U31b B31b
     go_wp2
     try rw [← ed]
     clear ed za0 zb0 za1 zb1
     obtain ⟨p1, TO0, p2, OE0, BE0⟩ := bad_facts PD.out OD.out BD.out
     have TO := V TO0
     have OE := V OE0
     have BE := V BE0
     clear TO0 OE0 BE0
     refine wp_region_any (by kernel_rfl) ?_
     try (change wpAny _ _ _ _ _ _ _ (World.drew _))
     refine wpAny_take (i := 0) (v := ?va0_3) rfl (by kernel_rfl) (by kernel_rfl) (by kernel_rfl) (fun _ _ _ h => h) (Or.inl ⟨by rfl, ?ha0_3⟩) ?ra0_3
     case ha0_3 => intro w; go_simp; try with_reducible rfl
     go_simp
     refine wpAny_take (i := 1) (v := ?va1_4) rfl (by kernel_rfl) (by kernel_rfl) (by kernel_rfl) (fun _ _ _ h => h) (Or.inl ⟨by rfl, ?ha1_4⟩) ?ra1_4
     case ha1_4 => intro w; go_simp; try with_reducible rfl
     go_simp
     refine wpAny_ready (rs := [2, 3]) (by kernel_rfl) (by simp) ?_
     refine AllReady.cons rfl (fun K hK => ?_) (AllReady.cons rfl (fun K hK => ?_) AllReady.nil)
     ·go_simp
      refine hK _ _ ?_
      clear hK K
      refine wpAny_ready (rs := [3]) (by kernel_rfl) (by simp) ?_
      refine AllReady.cons rfl (fun K hK => ?_) AllReady.nil
      refine step_st (by rfl) 97 _ _ rfl w.heap.size 0 _ rfl (by kernel_rfl) TO.out (by kernel_rfl) (by kernel_rfl) ?_
      try go_simp
      refine hK _ _ ?_
      clear hK K
      refine wpAny_take (i := 4) (v := ?va4_1) rfl (by kernel_rfl) (by kernel_rfl) (by kernel_rfl) (fun _ _ _ h => h) (Or.inl ⟨by rfl, ?ha4_1⟩) ?ra4_1
      case ha4_1 => intro w; go_simp; try with_reducible rfl
      go_simp
      refine wpAny_done (by kernel_rfl) ?_ _
      go_wp2
      refine bodyPost_ret (results_cv rfl rfl rfl OE.out.cel.whole _ Tryz.underlying97 rfl (by kernel_rfl)) rfl ?_
      rw [HD.out]
      exact ⟨BE.out, rfl⟩
     ·refine step_st (by rfl) 97 _ _ rfl w.heap.size 0 _ rfl (by kernel_rfl) TO.out (by kernel_rfl) (by kernel_rfl) ?_
      try go_simp
      refine hK _ _ ?_
      clear hK K
      refine wpAny_ready (rs := [2]) (by kernel_rfl) (by simp) ?_
      refine AllReady.cons rfl (fun K hK => ?_) AllReady.nil
      go_simp
      refine hK _ _ ?_
      clear hK K
      refine wpAny_take (i := 4) (v := ?va4_2) rfl (by kernel_rfl) (by kernel_rfl) (by kernel_rfl) (fun _ _ _ h => h) (Or.inl ⟨by rfl, ?ha4_2⟩) ?ra4_2
      case ha4_2 => intro w; go_simp; try with_reducible rfl
      go_simp
      refine wpAny_done (by kernel_rfl) ?_ _
      go_wp2
      refine bodyPost_ret (results_cv rfl rfl rfl OE.out.cel.whole _ Tryz.underlying97 rfl (by kernel_rfl)) rfl ?_
      rw [HD.out]
      exact ⟨BE.out, rfl⟩
   | true =>
     obtain ⟨wd, ed⟩ : ∃ wd, wd = wc := ⟨_, rfl⟩
     have PD := V (ed ▸ P2.out)
     have OD := V (ed ▸ O2.out)
     have UD := V (ed ▸ U2.out)
     have BD := V (ed ▸ B2.out)
     clear P2 O2 U2 B2
     go_wp2
     try rw [← ed]
     clear ed p0 p1q
     obtain ⟨p1, TO0, p2, OE0, BE0⟩ := bad_facts PD.out OD.out BD.out
     have TO := V TO0
     have OE := V OE0
     have BE := V BE0
     clear TO0 OE0 BE0
     refine wp_region_any (by kernel_rfl) ?_
     try (change wpAny _ _ _ _ _ _ _ (World.drew _))
     refine wpAny_take (i := 0) (v := ?va0_7) rfl (by kernel_rfl) (by kernel_rfl) (by kernel_rfl) (fun _ _ _ h => h) (Or.inl ⟨by rfl, ?ha0_7⟩) ?ra0_7
     case ha0_7 => intro w; go_simp; try with_reducible rfl
     go_simp
     refine wpAny_take (i := 1) (v := ?va1_8) rfl (by kernel_rfl) (by kernel_rfl) (by kernel_rfl) (fun _ _ _ h => h) (Or.inl ⟨by rfl, ?ha1_8⟩) ?ra1_8
     case ha1_8 => intro w; go_simp; try with_reducible rfl
     go_simp
     refine wpAny_ready (rs := [2, 3]) (by kernel_rfl) (by simp) ?_
     refine AllReady.cons rfl (fun K hK => ?_) (AllReady.cons rfl (fun K hK => ?_) AllReady.nil)
     ·go_simp
      refine hK _ _ ?_
      clear hK K
      refine wpAny_ready (rs := [3]) (by kernel_rfl) (by simp) ?_
      refine AllReady.cons rfl (fun K hK => ?_) AllReady.nil
      refine step_st (by rfl) 97 _ _ rfl w.heap.size 0 _ rfl (by kernel_rfl) TO.out (by kernel_rfl) (by kernel_rfl) ?_
      try go_simp
      refine hK _ _ ?_
      clear hK K
      refine wpAny_take (i := 4) (v := ?va4_5) rfl (by kernel_rfl) (by kernel_rfl) (by kernel_rfl) (fun _ _ _ h => h) (Or.inl ⟨by rfl, ?ha4_5⟩) ?ra4_5
      case ha4_5 => intro w; go_simp; try with_reducible rfl
      go_simp
      refine wpAny_done (by kernel_rfl) ?_ _
      go_wp2
      refine bodyPost_ret (results_cv rfl rfl rfl OE.out.cel.whole _ Tryz.underlying97 rfl (by kernel_rfl)) rfl ?_
      rw [HD.out]
      exact ⟨BE.out, rfl⟩
     ·refine step_st (by rfl) 97 _ _ rfl w.heap.size 0 _ rfl (by kernel_rfl) TO.out (by kernel_rfl) (by kernel_rfl) ?_
      try go_simp
      refine hK _ _ ?_
      clear hK K
      refine wpAny_ready (rs := [2]) (by kernel_rfl) (by simp) ?_
      refine AllReady.cons rfl (fun K hK => ?_) AllReady.nil
      go_simp
      refine hK _ _ ?_
      clear hK K
      refine wpAny_take (i := 4) (v := ?va4_6) rfl (by kernel_rfl) (by kernel_rfl) (by kernel_rfl) (fun _ _ _ h => h) (Or.inl ⟨by rfl, ?ha4_6⟩) ?ra4_6
      case ha4_6 => intro w; go_simp; try with_reducible rfl
      go_simp
      refine wpAny_done (by kernel_rfl) ?_ _
      go_wp2
      refine bodyPost_ret (results_cv rfl rfl rfl OE.out.cel.whole _ Tryz.underlying97 rfl (by kernel_rfl)) rfl ?_
      rw [HD.out]
      exact ⟨BE.out, rfl⟩
end Go.Proofs.YtdachohcjpjblaaGreatDoor.Wi
