/- Contract of the document's Part; no conditions but the lengths that it names. -/
import Derived.Test.YtacieiddhkkahaaCmdsZ
import Derived.Test.YtacieiddhkkahaaCmdsT
import Derived.Test.YtacieiddhkkahaaWalksO
namespace Go.Proofs.Ytacieiddhkkahaa
open Go.ChangeShapes Go.WideShapes Go.ChangeAt Go.RowKit


set_option maxHeartbeats 8000000 in
set_option maxRecDepth 100000 in
theorem dpart_bad {w : World} (c : M.Cmd) (k n : Int) {va vb : Value} (h : Rds w va c.rs) (h' : Wrs w vb c.ws) (F : M.Mod c) (hd : M.pokB c n = false) : Calls Try.prog 11 #[.agg #[.int .i64 c.k, .int .i64 c.tc, .int .i64 c.tn, .int .i64 c.tt, .int .i64 c.tk, .int .i64 c.sh, va, vb, .bool c.cm], .int .i64 k, .int .i64 n] w fun e w' => e = .returned (.tuple #[.agg #[.int .i64 0, .int .i64 0, .int .i64 0, .int .i64 0, .int .i64 0, .int .i64 0, .slice none 0 0, .slice none 0 0, .bool false], .int .i64 1]) ∧ Below w.heap.size w w' := by
  have X0 := Lib.hid ((Box.new w c va vb).push (.cells #[.int .i64 0, .int .i64 0, .int .i64 0, .int .i64 0, .int .i64 0, .int .i64 0, .slice none 0 0, .slice none 0 0, .bool false] 29))
  have Y0 := Lib.hid (show Box ((w.alloc (.cells #[.int .i64 c.k, .int .i64 c.tc, .int .i64 c.tn, .int .i64 c.tt, .int .i64 c.tk, .int .i64 c.sh, va, vb, .bool c.cm] 29)).alloc (.cells #[.int .i64 0, .int .i64 0, .int .i64 0, .int .i64 0, .int .i64 0, .int .i64 0, .slice none 0 0, .slice none 0 0, .bool false] 29)) (w.heap.size + 1) M.zero (.slice none 0 0) (.slice none 0 0) from Box.new1 w _ M.zero (.slice none 0 0) (.slice none 0 0))
  have R0 := Lib.hid ((h.push (.cells #[.int .i64 c.k, .int .i64 c.tc, .int .i64 c.tn, .int .i64 c.tt, .int .i64 c.tk, .int .i64 c.sh, va, vb, .bool c.cm] 29)).push (.cells #[.int .i64 0, .int .i64 0, .int .i64 0, .int .i64 0, .int .i64 0, .int .i64 0, .slice none 0 0, .slice none 0 0, .bool false] 29))
  have W0 := Lib.hid ((h'.push (.cells #[.int .i64 c.k, .int .i64 c.tc, .int .i64 c.tn, .int .i64 c.tt, .int .i64 c.tk, .int .i64 c.sh, va, vb, .bool c.cm] 29)).push (.cells #[.int .i64 0, .int .i64 0, .int .i64 0, .int .i64 0, .int .i64 0, .int .i64 0, .slice none 0 0, .slice none 0 0, .bool false] 29))
  have B0 := Lib.hid (below_new (o := .cells #[.int .i64 0, .int .i64 0, .int .i64 0, .int .i64 0, .int .i64 0, .int .i64 0, .slice none 0 0, .slice none 0 0, .bool false] 29) (below_new (o := .cells #[.int .i64 c.k, .int .i64 c.tc, .int .i64 c.tn, .int .i64 c.tt, .int .i64 c.tk, .int .i64 c.sh, va, vb, .bool c.cm] 29) (Below.refl w.heap.size w)))
  have T0 := Lib.hid (soft_new1 w (.cells #[.int .i64 c.k, .int .i64 c.tc, .int .i64 c.tn, .int .i64 c.tt, .int .i64 c.tk, .int .i64 c.sh, va, vb, .bool c.cm] 29) #[.int .i64 0, .int .i64 0, .int .i64 0, .int .i64 0, .int .i64 0, .int .i64 0, .slice none 0 0, .slice none 0 0, .bool false] 29)
  obtain ⟨A1, c1, rfl, g1, -⟩ := h.opened
  obtain ⟨A2, c2, rfl, g2, -⟩ := h'.opened
  clear h h'
  rcases two (M.rightC c) with e | e
  · by_cases ek : c.k = 0
    · obtain ⟨q1, q2⟩ := eqI ek
      clear hd ek
      go_enter Try.func11, Try.ntmps11
      go_wp2_with (fail)
      refine (drightC c R0.out W0.out F).mono ?_
      rintro e w1 ⟨rfl, hb⟩
      have X1 := Lib.hid (X0.out.on hb)
      have Y1 := Lib.hid (Y0.out.on hb)
      have B1 := Lib.hid (below_on B0.out hb)
      have R1 := Lib.hid (R0.out.below hb)
      have W1 := Lib.hid (W0.out.below hb)
      have T1 := Lib.hid (T0.out.on Y0.out.lt hb)
      clear hb X0 Y0 R0 W0 B0 T0
      obtain ⟨l0, p0, p1, p2, p3, p4, p5, p6, p7, p8⟩ := X1.out
      have s1 : w.heap.size ≤ w1.heap.size := B1.out.size
      obtain ⟨m1, y0, y1, y2, y3, y4, y5, y6, y7, y8⟩ := Y1.out
      have hz : ∀ o, w1.frozen? ⟨w.heap.size + 1, o, none⟩ = false := T1.out
      go_wp2
      refine bodyPost_ret (v := .tuple #[.agg #[.int .i64 0, .int .i64 0, .int .i64 0, .int .i64 0, .int .i64 0, .int .i64 0, .slice none 0 0, .slice none 0 0, .bool false], .int .i64 1]) (by simp [results, Try.results11, go_sem, y0, y1, y2, y3, y4, y5, y6, y7, y8]) rfl ?_
      exact ⟨rfl, below_set9 B1.out (by omega) _ _ _ _ _ _ _ _ _⟩
    · obtain ⟨q1, q2⟩ := neI ek
      by_cases h1 : 1 ≤ n
      · have h4 : ¬ n ≤ 4 := fun h4 => by unfold M.pokB at hd; rw [e, decide_eq_false ek, decide_eq_true h1, decide_eq_true h4] at hd; cases hd
        clear hd ek
        go_enter Try.func11, Try.ntmps11
        go_wp2_with (fail)
        refine (drightC c R0.out W0.out F).mono ?_
        rintro e w1 ⟨rfl, hb⟩
        have X1 := Lib.hid (X0.out.on hb)
        have Y1 := Lib.hid (Y0.out.on hb)
        have B1 := Lib.hid (below_on B0.out hb)
        have R1 := Lib.hid (R0.out.below hb)
        have W1 := Lib.hid (W0.out.below hb)
        have T1 := Lib.hid (T0.out.on Y0.out.lt hb)
        clear hb X0 Y0 R0 W0 B0 T0
        obtain ⟨l0, p0, p1, p2, p3, p4, p5, p6, p7, p8⟩ := X1.out
        have s1 : w.heap.size ≤ w1.heap.size := B1.out.size
        obtain ⟨m1, y0, y1, y2, y3, y4, y5, y6, y7, y8⟩ := Y1.out
        have hz : ∀ o, w1.frozen? ⟨w.heap.size + 1, o, none⟩ = false := T1.out
        go_wp2
        refine bodyPost_ret (v := .tuple #[.agg #[.int .i64 0, .int .i64 0, .int .i64 0, .int .i64 0, .int .i64 0, .int .i64 0, .slice none 0 0, .slice none 0 0, .bool false], .int .i64 1]) (by simp [results, Try.results11, go_sem, y0, y1, y2, y3, y4, y5, y6, y7, y8]) rfl ?_
        exact ⟨rfl, below_set9 B1.out (by omega) _ _ _ _ _ _ _ _ _⟩
      · clear hd ek
        go_enter Try.func11, Try.ntmps11
        go_wp2_with (fail)
        refine (drightC c R0.out W0.out F).mono ?_
        rintro e w1 ⟨rfl, hb⟩
        have X1 := Lib.hid (X0.out.on hb)
        have Y1 := Lib.hid (Y0.out.on hb)
        have B1 := Lib.hid (below_on B0.out hb)
        have R1 := Lib.hid (R0.out.below hb)
        have W1 := Lib.hid (W0.out.below hb)
        have T1 := Lib.hid (T0.out.on Y0.out.lt hb)
        clear hb X0 Y0 R0 W0 B0 T0
        obtain ⟨l0, p0, p1, p2, p3, p4, p5, p6, p7, p8⟩ := X1.out
        have s1 : w.heap.size ≤ w1.heap.size := B1.out.size
        obtain ⟨m1, y0, y1, y2, y3, y4, y5, y6, y7, y8⟩ := Y1.out
        have hz : ∀ o, w1.frozen? ⟨w.heap.size + 1, o, none⟩ = false := T1.out
        go_wp2
        refine bodyPost_ret (v := .tuple #[.agg #[.int .i64 0, .int .i64 0, .int .i64 0, .int .i64 0, .int .i64 0, .int .i64 0, .slice none 0 0, .slice none 0 0, .bool false], .int .i64 1]) (by simp [results, Try.results11, go_sem, y0, y1, y2, y3, y4, y5, y6, y7, y8]) rfl ?_
        exact ⟨rfl, below_set9 B1.out (by omega) _ _ _ _ _ _ _ _ _⟩
  · clear hd
    go_enter Try.func11, Try.ntmps11
    go_wp2_with (fail)
    refine (drightC c R0.out W0.out F).mono ?_
    rintro e w1 ⟨rfl, hb⟩
    have X1 := Lib.hid (X0.out.on hb)
    have Y1 := Lib.hid (Y0.out.on hb)
    have B1 := Lib.hid (below_on B0.out hb)
    have R1 := Lib.hid (R0.out.below hb)
    have W1 := Lib.hid (W0.out.below hb)
    have T1 := Lib.hid (T0.out.on Y0.out.lt hb)
    clear hb X0 Y0 R0 W0 B0 T0
    obtain ⟨l0, p0, p1, p2, p3, p4, p5, p6, p7, p8⟩ := X1.out
    have s1 : w.heap.size ≤ w1.heap.size := B1.out.size
    obtain ⟨m1, y0, y1, y2, y3, y4, y5, y6, y7, y8⟩ := Y1.out
    have hz : ∀ o, w1.frozen? ⟨w.heap.size + 1, o, none⟩ = false := T1.out
    go_wp2
    refine bodyPost_ret (v := .tuple #[.agg #[.int .i64 0, .int .i64 0, .int .i64 0, .int .i64 0, .int .i64 0, .int .i64 0, .slice none 0 0, .slice none 0 0, .bool false], .int .i64 1]) (by simp [results, Try.results11, go_sem, y0, y1, y2, y3, y4, y5, y6, y7, y8]) rfl ?_
    exact ⟨rfl, below_set9 B1.out (by omega) _ _ _ _ _ _ _ _ _⟩
end Go.Proofs.Ytacieiddhkkahaa
