/- Contract of Decided; no conditions but the lengths that it names. -/
import Derived.Test.YtacieiddhkkahaaCmdsH
namespace Go.Proofs.Ytacieiddhkkahaa
open Go.ChangeShapes Go.WideShapes Go.ChangeAt Go.RowKit

namespace M
def decB (c : Cmd) : Bool := rightC c && decide (c.k = 1)
end M
theorem below_set9 {B b : Nat} {a w : World} (h : Below B a w) (hb : B ≤ b) (v0 v1 v2 v3 v4 v5 v6 v7 v8 : Value) : Below B a (((((((((w.setCell ⟨b, 0, none⟩ v0).setCell ⟨b, 1, none⟩ v1).setCell ⟨b, 2, none⟩ v2).setCell ⟨b, 3, none⟩ v3).setCell ⟨b, 4, none⟩ v4).setCell ⟨b, 5, none⟩ v5).setCell ⟨b, 6, none⟩ v6).setCell ⟨b, 7, none⟩ v7).setCell ⟨b, 8, none⟩ v8) := (((((((((h).setCell (p := ⟨b, 0, none⟩) hb v0).setCell (p := ⟨b, 1, none⟩) hb v1).setCell (p := ⟨b, 2, none⟩) hb v2).setCell (p := ⟨b, 3, none⟩) hb v3).setCell (p := ⟨b, 4, none⟩) hb v4).setCell (p := ⟨b, 5, none⟩) hb v5).setCell (p := ⟨b, 6, none⟩) hb v6).setCell (p := ⟨b, 7, none⟩) hb v7).setCell (p := ⟨b, 8, none⟩) hb v8
theorem owns_set9 {w : World} {base b : Nat} {t : TypeId} {k : Nat} {v : Value} {n : Nat} {xs : List Value} (h : w.ownsRow base t k v n xs) (hb : b < base) (v0 v1 v2 v3 v4 v5 v6 v7 v8 : Value) : World.ownsRow (((((((((w.setCell ⟨b, 0, none⟩ v0).setCell ⟨b, 1, none⟩ v1).setCell ⟨b, 2, none⟩ v2).setCell ⟨b, 3, none⟩ v3).setCell ⟨b, 4, none⟩ v4).setCell ⟨b, 5, none⟩ v5).setCell ⟨b, 6, none⟩ v6).setCell ⟨b, 7, none⟩ v7).setCell ⟨b, 8, none⟩ v8) base t k v n xs := ownsRow_set (p := ⟨b, 8, none⟩) (ownsRow_set (p := ⟨b, 7, none⟩) (ownsRow_set (p := ⟨b, 6, none⟩) (ownsRow_set (p := ⟨b, 5, none⟩) (ownsRow_set (p := ⟨b, 4, none⟩) (ownsRow_set (p := ⟨b, 3, none⟩) (ownsRow_set (p := ⟨b, 2, none⟩) (ownsRow_set (p := ⟨b, 1, none⟩) (ownsRow_set (p := ⟨b, 0, none⟩) (h) hb v0) hb v1) hb v2) hb v3) hb v4) hb v5) hb v6) hb v7) hb v8
/-- The Decide of a command, of its own memory. -/
def DecidedC (c : M.Cmd) (cm : Bool) (w : World) (e : Ending) (w' : World) : Prop := ∃ va vb, e = .returned (.tuple #[.agg #[.int .i64 2, .int .i64 c.tc, .int .i64 c.tn, .int .i64 c.tt, .int .i64 c.tk, .int .i64 c.sh, va, vb, .bool cm], .int .i64 0]) ∧ w'.ownsRow w.heap.size 40 3 va c.rs.length (rdsC c.rs) ∧ w'.ownsRow w.heap.size 42 2 vb c.ws.length (wrsC c.ws) ∧ Below w.heap.size w w'


set_option maxHeartbeats 4000000 in
set_option maxRecDepth 100000 in
theorem decided_no {w : World} (c : M.Cmd) (cm : Bool) {va vb : Value} (h : Rds w va c.rs) (h' : Wrs w vb c.ws) (hl : c.rs.length ≤ 1000) (hl' : c.ws.length ≤ 1000) (hd : M.decB c = false) : Calls Try.prog 12 #[.agg #[.int .i64 c.k, .int .i64 c.tc, .int .i64 c.tn, .int .i64 c.tt, .int .i64 c.tk, .int .i64 c.sh, va, vb, .bool c.cm], .bool cm] w fun e w' => e = .returned (.tuple #[.agg #[.int .i64 0, .int .i64 0, .int .i64 0, .int .i64 0, .int .i64 0, .int .i64 0, .slice none 0 0, .slice none 0 0, .bool false], .int .i64 1]) ∧ Below w.heap.size w w' := by
  have X0 := Lib.hid ((Box.new w c va vb).push (.cells #[.int .i64 0, .int .i64 0, .int .i64 0, .int .i64 0, .int .i64 0, .int .i64 0, .slice none 0 0, .slice none 0 0, .bool false] 29))
  have Y0 := Lib.hid (show Box ((w.alloc (.cells #[.int .i64 c.k, .int .i64 c.tc, .int .i64 c.tn, .int .i64 c.tt, .int .i64 c.tk, .int .i64 c.sh, va, vb, .bool c.cm] 29)).alloc (.cells #[.int .i64 0, .int .i64 0, .int .i64 0, .int .i64 0, .int .i64 0, .int .i64 0, .slice none 0 0, .slice none 0 0, .bool false] 29)) (w.heap.size + 1) M.zero (.slice none 0 0) (.slice none 0 0) from Box.new1 w _ M.zero (.slice none 0 0) (.slice none 0 0))
  have R0 := Lib.hid ((h.push (.cells #[.int .i64 c.k, .int .i64 c.tc, .int .i64 c.tn, .int .i64 c.tt, .int .i64 c.tk, .int .i64 c.sh, va, vb, .bool c.cm] 29)).push (.cells #[.int .i64 0, .int .i64 0, .int .i64 0, .int .i64 0, .int .i64 0, .int .i64 0, .slice none 0 0, .slice none 0 0, .bool false] 29))
  have W0 := Lib.hid ((h'.push (.cells #[.int .i64 c.k, .int .i64 c.tc, .int .i64 c.tn, .int .i64 c.tt, .int .i64 c.tk, .int .i64 c.sh, va, vb, .bool c.cm] 29)).push (.cells #[.int .i64 0, .int .i64 0, .int .i64 0, .int .i64 0, .int .i64 0, .int .i64 0, .slice none 0 0, .slice none 0 0, .bool false] 29))
  have B0 := Lib.hid (below_new (o := .cells #[.int .i64 0, .int .i64 0, .int .i64 0, .int .i64 0, .int .i64 0, .int .i64 0, .slice none 0 0, .slice none 0 0, .bool false] 29) (below_new (o := .cells #[.int .i64 c.k, .int .i64 c.tc, .int .i64 c.tn, .int .i64 c.tt, .int .i64 c.tk, .int .i64 c.sh, va, vb, .bool c.cm] 29) (Below.refl w.heap.size w)))
  have T0 := Lib.hid (soft_new1 w (.cells #[.int .i64 c.k, .int .i64 c.tc, .int .i64 c.tn, .int .i64 c.tt, .int .i64 c.tk, .int .i64 c.sh, va, vb, .bool c.cm] 29) #[.int .i64 0, .int .i64 0, .int .i64 0, .int .i64 0, .int .i64 0, .int .i64 0, .slice none 0 0, .slice none 0 0, .bool false] 29)
  clear h h'
  rcases two (M.rightC c) with e | e
  · have hk : ¬ c.k = 1 := fun hk => by unfold M.decB at hd; rw [e, decide_eq_true hk] at hd; cases hd
    obtain ⟨q1, q2⟩ := neI hk
    clear hk hd
    go_enter Try.func12, Try.ntmps12
    go_wp2_with (fail)
    refine (right_cmd c R0.out W0.out hl hl').mono ?_
    rintro e w1 ⟨rfl, hb⟩
    have X1 := Lib.hid (X0.out.on hb)
    have Y1 := Lib.hid (Y0.out.on hb)
    have R1 := Lib.hid (R0.out.below hb)
    have W1 := Lib.hid (W0.out.below hb)
    have B1 := Lib.hid (below_on B0.out hb)
    have T1 := Lib.hid (T0.out.on Y0.out.lt hb)
    clear hb X0 Y0 R0 W0 B0 T0
    obtain ⟨l0, p0, p1, p2, p3, p4, p5, p6, p7, p8⟩ := X1.out
    have s1 : w.heap.size ≤ w1.heap.size := B1.out.size
    obtain ⟨m1, y0, y1, y2, y3, y4, y5, y6, y7, y8⟩ := Y1.out
    have hz : ∀ o, w1.frozen? ⟨w.heap.size + 1, o, none⟩ = false := T1.out
    go_wp2
    refine bodyPost_ret (v := .tuple #[.agg #[.int .i64 0, .int .i64 0, .int .i64 0, .int .i64 0, .int .i64 0, .int .i64 0, .slice none 0 0, .slice none 0 0, .bool false], .int .i64 1]) (by simp [results, Try.results12, go_sem, y0, y1, y2, y3, y4, y5, y6, y7, y8]) rfl ?_
    exact ⟨rfl, below_set9 B1.out (by omega) _ _ _ _ _ _ _ _ _⟩
  · clear hd
    go_enter Try.func12, Try.ntmps12
    go_wp2_with (fail)
    refine (right_cmd c R0.out W0.out hl hl').mono ?_
    rintro e w1 ⟨rfl, hb⟩
    have X1 := Lib.hid (X0.out.on hb)
    have Y1 := Lib.hid (Y0.out.on hb)
    have R1 := Lib.hid (R0.out.below hb)
    have W1 := Lib.hid (W0.out.below hb)
    have B1 := Lib.hid (below_on B0.out hb)
    have T1 := Lib.hid (T0.out.on Y0.out.lt hb)
    clear hb X0 Y0 R0 W0 B0 T0
    obtain ⟨l0, p0, p1, p2, p3, p4, p5, p6, p7, p8⟩ := X1.out
    have s1 : w.heap.size ≤ w1.heap.size := B1.out.size
    obtain ⟨m1, y0, y1, y2, y3, y4, y5, y6, y7, y8⟩ := Y1.out
    have hz : ∀ o, w1.frozen? ⟨w.heap.size + 1, o, none⟩ = false := T1.out
    go_wp2
    refine bodyPost_ret (v := .tuple #[.agg #[.int .i64 0, .int .i64 0, .int .i64 0, .int .i64 0, .int .i64 0, .int .i64 0, .slice none 0 0, .slice none 0 0, .bool false], .int .i64 1]) (by simp [results, Try.results12, go_sem, y0, y1, y2, y3, y4, y5, y6, y7, y8]) rfl ?_
    exact ⟨rfl, below_set9 B1.out (by omega) _ _ _ _ _ _ _ _ _⟩

set_option maxHeartbeats 4000000 in
set_option maxRecDepth 100000 in
theorem decided_yes {w : World} (c : M.Cmd) (cm : Bool) {va vb : Value} (h : Rds w va c.rs) (h' : Wrs w vb c.ws) (hl : c.rs.length ≤ 1000) (hl' : c.ws.length ≤ 1000) (hd : M.decB c = true) : Calls Try.prog 12 #[.agg #[.int .i64 c.k, .int .i64 c.tc, .int .i64 c.tn, .int .i64 c.tt, .int .i64 c.tk, .int .i64 c.sh, va, vb, .bool c.cm], .bool cm] w (DecidedC c cm w) := by
  have X0 := Lib.hid ((Box.new w c va vb).push (.cells #[.int .i64 0, .int .i64 0, .int .i64 0, .int .i64 0, .int .i64 0, .int .i64 0, .slice none 0 0, .slice none 0 0, .bool false] 29))
  have Y0 := Lib.hid (show Box ((w.alloc (.cells #[.int .i64 c.k, .int .i64 c.tc, .int .i64 c.tn, .int .i64 c.tt, .int .i64 c.tk, .int .i64 c.sh, va, vb, .bool c.cm] 29)).alloc (.cells #[.int .i64 0, .int .i64 0, .int .i64 0, .int .i64 0, .int .i64 0, .int .i64 0, .slice none 0 0, .slice none 0 0, .bool false] 29)) (w.heap.size + 1) M.zero (.slice none 0 0) (.slice none 0 0) from Box.new1 w _ M.zero (.slice none 0 0) (.slice none 0 0))
  have R0 := Lib.hid ((h.push (.cells #[.int .i64 c.k, .int .i64 c.tc, .int .i64 c.tn, .int .i64 c.tt, .int .i64 c.tk, .int .i64 c.sh, va, vb, .bool c.cm] 29)).push (.cells #[.int .i64 0, .int .i64 0, .int .i64 0, .int .i64 0, .int .i64 0, .int .i64 0, .slice none 0 0, .slice none 0 0, .bool false] 29))
  have W0 := Lib.hid ((h'.push (.cells #[.int .i64 c.k, .int .i64 c.tc, .int .i64 c.tn, .int .i64 c.tt, .int .i64 c.tk, .int .i64 c.sh, va, vb, .bool c.cm] 29)).push (.cells #[.int .i64 0, .int .i64 0, .int .i64 0, .int .i64 0, .int .i64 0, .int .i64 0, .slice none 0 0, .slice none 0 0, .bool false] 29))
  have B0 := Lib.hid (below_new (o := .cells #[.int .i64 0, .int .i64 0, .int .i64 0, .int .i64 0, .int .i64 0, .int .i64 0, .slice none 0 0, .slice none 0 0, .bool false] 29) (below_new (o := .cells #[.int .i64 c.k, .int .i64 c.tc, .int .i64 c.tn, .int .i64 c.tt, .int .i64 c.tk, .int .i64 c.sh, va, vb, .bool c.cm] 29) (Below.refl w.heap.size w)))
  have T0 := Lib.hid (soft_new1 w (.cells #[.int .i64 c.k, .int .i64 c.tc, .int .i64 c.tn, .int .i64 c.tt, .int .i64 c.tk, .int .i64 c.sh, va, vb, .bool c.cm] 29) #[.int .i64 0, .int .i64 0, .int .i64 0, .int .i64 0, .int .i64 0, .int .i64 0, .slice none 0 0, .slice none 0 0, .bool false] 29)
  clear h h'
  have e : M.rightC c = true := by unfold M.decB at hd; rw [Bool.and_eq_true] at hd; exact hd.1
  have hk : c.k = 1 := by unfold M.decB at hd; rw [Bool.and_eq_true] at hd; exact of_decide_eq_true hd.2
  obtain ⟨q1, q2⟩ := eqI hk
  clear hk hd
  go_enter Try.func12, Try.ntmps12
  go_wp2_with (fail)
  refine (right_cmd c R0.out W0.out hl hl').mono ?_
  rintro e w1 ⟨rfl, hb⟩
  have X1 := Lib.hid (X0.out.on hb)
  have Y1 := Lib.hid (Y0.out.on hb)
  have R1 := Lib.hid (R0.out.below hb)
  have W1 := Lib.hid (W0.out.below hb)
  have B1 := Lib.hid (below_on B0.out hb)
  have T1 := Lib.hid (T0.out.on Y0.out.lt hb)
  clear hb X0 Y0 R0 W0 B0 T0
  obtain ⟨l0, p0, p1, p2, p3, p4, p5, p6, p7, p8⟩ := X1.out
  have s1 : w.heap.size ≤ w1.heap.size := B1.out.size
  go_wp2_with (fail)
  refine (clone_any c R1.out W1.out hl hl').mono ?_
  rintro e w2 ⟨va2, vb2, rfl, o1, o2, hb⟩
  obtain ⟨A1, k1, rfl⟩ := ownsRow_slice o1
  obtain ⟨A2, k2, rfl⟩ := ownsRow_slice o2
  have O1 := Lib.hid o1
  have O2 := Lib.hid o2
  have Y2 := Lib.hid (Y1.out.on hb)
  have T2 := Lib.hid (T1.out.on Y1.out.lt hb)
  have B2 := Lib.hid (below_on B1.out hb)
  have l1 := Y1.out.lt
  have s2 : w1.heap.size ≤ w2.heap.size := hb.size
  clear o1 o2 hb X1 Y1 R1 W1 B1 T1 p0 p1 p2 p3 p4 p5 p6 p7 p8
  obtain ⟨m1, y0, y1, y2, y3, y4, y5, y6, y7, y8⟩ := Y2.out
  have hz : ∀ o, w2.frozen? ⟨w.heap.size + 1, o, none⟩ = false := T2.out
  go_wp2
  refine bodyPost_ret (v := .tuple #[.agg #[.int .i64 2, .int .i64 c.tc, .int .i64 c.tn, .int .i64 c.tt, .int .i64 c.tk, .int .i64 c.sh, .slice A1 c.rs.length k1, .slice A2 c.ws.length k2, .bool cm], .int .i64 0]) (by simp [results, Try.results12, go_sem, m1, y0, y1, y2, y3, y4, y5, y6, y7, y8]) rfl ?_
  exact ⟨_, _, rfl, ownsRow_baseN ((owns_set9 O1.out (by omega) _ _ _ _ _ _ _ _ _).alloc _) (by omega), ownsRow_baseN ((owns_set9 O2.out (by omega) _ _ _ _ _ _ _ _ _).alloc _) (by omega), below_new (below_set9 B2.out (by omega) _ _ _ _ _ _ _ _ _)⟩
end Go.Proofs.Ytacieiddhkkahaa
