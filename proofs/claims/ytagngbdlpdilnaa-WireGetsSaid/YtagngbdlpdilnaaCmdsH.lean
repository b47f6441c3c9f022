/- Contract of Clone; no conditions but the lengths that it names. -/
import Derived.Test.YtagngbdlpdilnaaCmdsG
import Derived.Deep.RegionWith
namespace Go.Proofs.Ytagngbdlpdilnaa
open Go.ChangeShapes Go.WideShapes Go.ChangeAt Go.RowKit

theorem ownsRow_baseN {w : World} {base base' : Nat} {t : TypeId} {k : Nat} {v : Value} {n : Nat} {xs : List Value} (h : w.ownsRow base t k v n xs) (hb : base' ≤ base) : w.ownsRow base' t k v n xs := by
  refine ⟨h.1, ?_⟩
  rcases h.2 with h0 | ⟨g, cap, cur, hv, hg, r⟩
  · exact .inl h0
  · exact .inr ⟨g, cap, cur, hv, Nat.le_trans hb hg, r⟩
theorem ownsRow_on {w w' : World} {base : Nat} {t : TypeId} {k : Nat} {v : Value} {n : Nat} {xs : List Value} (h : w.ownsRow base t k v n xs) (hb : Below w.heap.size w w') : w'.ownsRow base t k v n xs := by
  refine ⟨h.1, ?_⟩
  rcases h.2 with h0 | ⟨g, cap, cur, hv, hg, hblk, r⟩
  · exact .inl h0
  · exact .inr ⟨g, cap, cur, hv, hg, (hb.block g (Array.getElem?_eq_some_iff.1 hblk).1).trans hblk, r⟩
theorem ownsRow_slice {w : World} {base : Nat} {t : TypeId} {k : Nat} {v : Value} {n : Nat} {xs : List Value} (h : w.ownsRow base t k v n xs) : ∃ A c, v = .slice A n c := by
  rcases h.2 with ⟨rfl, rfl⟩ | ⟨g, cap, cur, hv, r⟩
  · exact ⟨none, 0, rfl⟩
  · exact ⟨_, _, hv⟩
theorem ownsRow_set {w : World} {base : Nat} {t : TypeId} {k : Nat} {v : Value} {n : Nat} {xs : List Value} (h : w.ownsRow base t k v n xs) {p : Addr} (hp : p.block < base) (u : Value) : (w.setCell p u).ownsRow base t k v n xs := by
  refine ⟨h.1, ?_⟩
  rcases h.2 with h0 | ⟨g, cap, cur, hv, hg, hblk, r⟩
  · exact .inl h0
  · exact .inr ⟨g, cap, cur, hv, hg, (Below.heap_setCell _ _ _ _ (by omega)).trans hblk, r⟩
/-- A command of its own memory. -/
def Cloned (c : M.Cmd) (w : World) (e : Ending) (w' : World) : Prop := ∃ va vb, e = .returned (.agg #[.int .i64 c.k, .int .i64 c.tc, .int .i64 c.tn, .int .i64 c.tt, .int .i64 c.tk, .int .i64 c.sh, va, vb, .bool c.cm]) ∧ w'.ownsRow w.heap.size 74 3 va c.rs.length (rdsC c.rs) ∧ w'.ownsRow w.heap.size 76 2 vb c.ws.length (wrsC c.ws) ∧ Below w.heap.size w w'
/-- Blocks that may be written. -/
def Soft9 (w : World) (b : Nat) : Prop := ∀ o, w.frozen? ⟨b, o, none⟩ = false
theorem Soft9.on {w w' : World} {b : Nat} (h : Soft9 w b) (hl : b < w.heap.size) (hb : Below w.heap.size w w') : Soft9 w' b := fun o => (hb.frozen (p := ⟨b, o, none⟩) hl).trans (h o)

theorem soft_new (w : World) (cs : Array Value) (t : TypeId) : Soft9 (w.alloc (.cells cs t)) w.heap.size := fun o => by simp [go_sem]
theorem soft_push {w : World} {b : Nat} (h : Soft9 w b) (hl : b < w.heap.size) (o : Obj) : Soft9 (w.alloc o) b := h.on hl (below_new (Below.refl _ _))
theorem soft_new1 (w : World) (o : Obj) (cs : Array Value) (t : TypeId) : Soft9 ((w.alloc o).alloc (.cells cs t)) (w.heap.size + 1) := by
  simpa using soft_new (w.alloc o) cs t

set_option maxHeartbeats 4000000 in
set_option maxRecDepth 100000 in
theorem clone_any {w : World} (c : M.Cmd) {va vb : Value} (h : Rds w va c.rs) (h' : Wrs w vb c.ws) (hl : c.rs.length ≤ 1000) (hl' : c.ws.length ≤ 1000) : Calls Try.prog 86 #[.agg #[.int .i64 c.k, .int .i64 c.tc, .int .i64 c.tn, .int .i64 c.tt, .int .i64 c.tk, .int .i64 c.sh, va, vb, .bool c.cm]] w (Cloned c w) := by
  have X0 := Lib.hid ((Box.new w c va vb).push (.cells #[.int .i64 0, .int .i64 0, .int .i64 0, .int .i64 0, .int .i64 0, .int .i64 0, .slice none 0 0, .slice none 0 0, .bool false] 33))
  have Y0 := Lib.hid (show Box ((w.alloc (.cells #[.int .i64 c.k, .int .i64 c.tc, .int .i64 c.tn, .int .i64 c.tt, .int .i64 c.tk, .int .i64 c.sh, va, vb, .bool c.cm] 33)).alloc (.cells #[.int .i64 0, .int .i64 0, .int .i64 0, .int .i64 0, .int .i64 0, .int .i64 0, .slice none 0 0, .slice none 0 0, .bool false] 33)) (w.heap.size + 1) M.zero (.slice none 0 0) (.slice none 0 0) from Box.new1 w _ M.zero (.slice none 0 0) (.slice none 0 0))
  have R0 := Lib.hid ((h.push (.cells #[.int .i64 c.k, .int .i64 c.tc, .int .i64 c.tn, .int .i64 c.tt, .int .i64 c.tk, .int .i64 c.sh, va, vb, .bool c.cm] 33)).push (.cells #[.int .i64 0, .int .i64 0, .int .i64 0, .int .i64 0, .int .i64 0, .int .i64 0, .slice none 0 0, .slice none 0 0, .bool false] 33))
  have W0 := Lib.hid ((h'.push (.cells #[.int .i64 c.k, .int .i64 c.tc, .int .i64 c.tn, .int .i64 c.tt, .int .i64 c.tk, .int .i64 c.sh, va, vb, .bool c.cm] 33)).push (.cells #[.int .i64 0, .int .i64 0, .int .i64 0, .int .i64 0, .int .i64 0, .int .i64 0, .slice none 0 0, .slice none 0 0, .bool false] 33))
  have B0 := Lib.hid (below_new (o := .cells #[.int .i64 0, .int .i64 0, .int .i64 0, .int .i64 0, .int .i64 0, .int .i64 0, .slice none 0 0, .slice none 0 0, .bool false] 33) (below_new (o := .cells #[.int .i64 c.k, .int .i64 c.tc, .int .i64 c.tn, .int .i64 c.tt, .int .i64 c.tk, .int .i64 c.sh, va, vb, .bool c.cm] 33) (Below.refl w.heap.size w)))
  have S0 := Lib.hid (soft_push (soft_new w #[.int .i64 c.k, .int .i64 c.tc, .int .i64 c.tn, .int .i64 c.tt, .int .i64 c.tk, .int .i64 c.sh, va, vb, .bool c.cm] 33) (by simp) (.cells #[.int .i64 0, .int .i64 0, .int .i64 0, .int .i64 0, .int .i64 0, .int .i64 0, .slice none 0 0, .slice none 0 0, .bool false] 33))
  have T0 := Lib.hid (soft_new1 w (.cells #[.int .i64 c.k, .int .i64 c.tc, .int .i64 c.tn, .int .i64 c.tt, .int .i64 c.tk, .int .i64 c.sh, va, vb, .bool c.cm] 33) #[.int .i64 0, .int .i64 0, .int .i64 0, .int .i64 0, .int .i64 0, .int .i64 0, .slice none 0 0, .slice none 0 0, .bool false] 33)
  clear h h'
  go_enter Try.func86, Try.ntmps86
  go_wp2
  generalize ((w.alloc (.cells #[.int .i64 c.k, .int .i64 c.tc, .int .i64 c.tn, .int .i64 c.tt, .int .i64 c.tk, .int .i64 c.sh, va, vb, .bool c.cm] 33)).alloc (.cells #[.int .i64 0, .int .i64 0, .int .i64 0, .int .i64 0, .int .i64 0, .int .i64 0, .slice none 0 0, .slice none 0 0, .bool false] 33)) = w0 at *
  obtain ⟨l0, p0, p1, p2, p3, p4, p5, p6, p7, p8⟩ := X0.out
  have hs0 : w.heap.size ≤ w0.heap.size := B0.out.size
  go_region_with (first
    | (go_at_call 105; refine (copiedR_any (w := w0.drew) (R0.out.below (Below.refl _ _).drew) hl).mono ?_; rintro e w1 ⟨v1, rfl, o1, hb1⟩
       have hb1 := (Below.refl _ w0).drew.trans hb1
       obtain ⟨A1, k1, rfl⟩ := ownsRow_slice o1
       have O1 := Lib.hid o1
       have D1 := Lib.hid hb1
       clear o1 hb1
       have q7 := (D1.out.cell (p := ⟨w.heap.size, 7, none⟩) l0).trans p7)
    | (go_at_call 106; refine (copiedW_any (w := w1) (W0.out.below D1.out) hl').mono ?_; rintro e w2 ⟨v2, rfl, o2, hb2⟩
       obtain ⟨A2, k2, rfl⟩ := ownsRow_slice o2
       have O2 := Lib.hid o2
       have D2 := Lib.hid hb2
       clear o2 hb2
       have z6 := (S0.out.on l0 D1.out).on (Nat.lt_of_lt_of_le l0 D1.out.size) D2.out 6
       have z7 := (S0.out.on l0 D1.out).on (Nat.lt_of_lt_of_le l0 D1.out.size) D2.out 7
       have y6 := ((X0.out.on D1.out).on D2.out).c6
       have y7 := ((X0.out.on D1.out).on D2.out).c7))
  all_goals
    clear y6 y7 z6 z7 q7 p0 p1 p2 p3 p4 p5 p6 p7 p8
    have DD := Lib.hid (D1.out.trans (D2.out.mono D1.out.size))
    obtain ⟨m0, x0, x1, x2, x3, x4, x5, x6, x7, x8⟩ := X0.out.on DD.out
    obtain ⟨m1, y0, y1, y2, y3, y4, y5, y6, y7, y8⟩ := Y0.out.on DD.out
    have hz : ∀ o, w2.frozen? ⟨w.heap.size + 1, o, none⟩ = false := T0.out.on Y0.out.lt DD.out
    have O1' := Lib.hid (ownsRow_on O1.out D2.out)
    have j0 : w.heap.size < w0.drew.heap.size := l0
    have j1 : w.heap.size + 1 < w0.drew.heap.size := Y0.out.lt
    have j2 : w0.drew.heap.size ≤ w1.heap.size := D1.out.size
    go_wp2
    refine bodyPost_ret (v := .agg #[.int .i64 c.k, .int .i64 c.tc, .int .i64 c.tn, .int .i64 c.tt, .int .i64 c.tk, .int .i64 c.sh, (.slice A1 c.rs.length k1), (.slice A2 c.ws.length k2), .bool c.cm]) (by simp [results, Try.results86, go_sem, y0, y1, y2, y3, y4, y5, y6, y7, y8]) rfl ⟨_, _, rfl, ownsRow_baseN (base := w0.drew.heap.size) ?_ (by omega), ownsRow_baseN (base := w1.heap.size) ?_ (by omega), ?_⟩
    · iterate 11 (refine ownsRow_set ?_ (by dsimp only; omega) _)
      exact O1'.out
    · iterate 11 (refine ownsRow_set ?_ (by dsimp only; omega) _)
      exact O2.out
    · iterate 11 (refine Below.setCell ?_ (by dsimp only; omega) _)
      exact B0.out.trans (DD.out.mono (by omega))
end Go.Proofs.Ytagngbdlpdilnaa
