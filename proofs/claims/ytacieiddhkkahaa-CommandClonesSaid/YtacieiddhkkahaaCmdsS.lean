/- Contract of Part; no conditions but the lengths that it names. -/
import Derived.Test.YtacieiddhkkahaaCmdsR
import Derived.Test.YtacieiddhkkahaaCmdsI
namespace Go.Proofs.Ytacieiddhkkahaa
open Go.ChangeShapes Go.WideShapes Go.ChangeAt Go.RowKit

namespace M
/-- What a shard has of a command. -/
def cut (c : Cmd) (k n : Int) : Cmd := ⟨c.k, c.tc, c.tn, c.tt, c.tk, c.sh, partR k n c.rs, partW k n c.ws, c.cm⟩
def pokB (c : Cmd) (n : Int) : Bool := rightC c && (!decide (c.k = 0) && (decide (1 ≤ n) && decide (n ≤ 4)))
def voidB (c : Cmd) (k n : Int) : Bool := emptyB (partR k n c.rs).length (partW k n c.ws).length
end M
theorem Box.new' (w : World) (c : M.Cmd) (va vb : Value) {b : Nat} (hb : b = w.heap.size) : Box (w.alloc (.cells #[.int .i64 c.k, .int .i64 c.tc, .int .i64 c.tn, .int .i64 c.tt, .int .i64 c.tk, .int .i64 c.sh, va, vb, .bool c.cm] 29)) b c va vb := by subst hb; exact Box.new w c va vb
theorem soft_new' (w : World) (cs : Array Value) (t : TypeId) {b : Nat} (hb : b = w.heap.size) : Soft9 (w.alloc (.cells cs t)) b := by subst hb; exact soft_new w cs t
theorem cell_new' (w : World) (v : Value) (t : TypeId) {b : Nat} (hb : b = w.heap.size) : (w.alloc (.cells #[v] t)).cell? ⟨b, 0, none⟩ = some v := by subst hb; simp
theorem cell_push {w : World} {b : Nat} {v : Value} (h : w.cell? ⟨b, 0, none⟩ = some v) (o : Obj) : (w.alloc o).cell? ⟨b, 0, none⟩ = some v := (World.cell?_alloc_lt w o _ (World.block_lt_of_cell? w _ h)).trans h
theorem grown_set (w : World) (p : Addr) (u : Value) : w.grownBy (w.setCell p u) (some p.block) :=
  ⟨rfl, rfl, rfl, by simp [World.setCell], fun i _ hi => Below.heap_setCell _ _ _ _ (fun e => hi (by rw [e]))⟩
theorem Box.far {w w' : World} {b : Nat} {c : M.Cmd} {va vb : Value} {row : Option Nat} (h : Box w b c va vb) (g : w.grownBy w' row) (hn : some b ≠ row) : Box w' b c va vb :=
  ⟨Nat.lt_of_lt_of_le h.lt g.size, g.cell h.c0 hn, g.cell h.c1 hn, g.cell h.c2 hn, g.cell h.c3 hn, g.cell h.c4 hn, g.cell h.c5 hn, g.cell h.c6 hn, g.cell h.c7 hn, g.cell h.c8 hn⟩
theorem Soft9.far {w w' : World} {b : Nat} {row : Option Nat} (h : Soft9 w b) (hl : b < w.heap.size) (g : w.grownBy w' row) (hn : some b ≠ row) : Soft9 w' b := fun o => (World.frozen?_of_block (g.block b hl hn)).trans (h o)
theorem Cap.away {w w' : World} {b1 b2 b3 : Nat} {n k : Int} {row : Option Nat} (h : Cap w b1 b2 b3 n k) (g : w.grownBy w' row) (h1 : some b1 ≠ row) (h2 : some b2 ≠ row) (h3 : some b3 ≠ row) : Cap w' b1 b2 b3 n k :=
  ⟨Nat.lt_of_lt_of_le h.l1 g.size, Nat.lt_of_lt_of_le h.l2 g.size, Nat.lt_of_lt_of_le h.l3 g.size, g.cell h.n1 h1, g.cell h.k2 h2, g.cell h.f3 h3⟩
theorem Box.set6 {w : World} {b : Nat} {c : M.Cmd} {va vb : Value} (h : Box w b c va vb) (u : Value) : Box (w.setCell ⟨b, 6, none⟩ u) b c u vb :=
  ⟨by have := h.lt; simpa [World.setCell] using this, (World.cell?_setCell_other _ _ _ _ (by simp)).trans h.c0, (World.cell?_setCell_other _ _ _ _ (by simp)).trans h.c1, (World.cell?_setCell_other _ _ _ _ (by simp)).trans h.c2, (World.cell?_setCell_other _ _ _ _ (by simp)).trans h.c3, (World.cell?_setCell_other _ _ _ _ (by simp)).trans h.c4, (World.cell?_setCell_other _ _ _ _ (by simp)).trans h.c5, World.cell?_setCell_same _ _ _ h.c6, (World.cell?_setCell_other _ _ _ _ (by simp)).trans h.c7, (World.cell?_setCell_other _ _ _ _ (by simp)).trans h.c8⟩
theorem Box.set7 {w : World} {b : Nat} {c : M.Cmd} {va vb : Value} (h : Box w b c va vb) (u : Value) : Box (w.setCell ⟨b, 7, none⟩ u) b c va u :=
  ⟨by have := h.lt; simpa [World.setCell] using this, (World.cell?_setCell_other _ _ _ _ (by simp)).trans h.c0, (World.cell?_setCell_other _ _ _ _ (by simp)).trans h.c1, (World.cell?_setCell_other _ _ _ _ (by simp)).trans h.c2, (World.cell?_setCell_other _ _ _ _ (by simp)).trans h.c3, (World.cell?_setCell_other _ _ _ _ (by simp)).trans h.c4, (World.cell?_setCell_other _ _ _ _ (by simp)).trans h.c5, (World.cell?_setCell_other _ _ _ _ (by simp)).trans h.c6, World.cell?_setCell_same _ _ _ h.c7, (World.cell?_setCell_other _ _ _ _ (by simp)).trans h.c8⟩
theorem apart {w : World} {b1 b2 : Nat} {u v : Value} {n m : Nat} {xs ys : List Value} (h : w.ownsRow b1 40 3 u n xs) (h' : w.ownsRow b2 42 2 v m ys) : (u.ownBlock = none ∨ u.ownBlock ≠ v.ownBlock) ∧ (v.ownBlock = none ∨ v.ownBlock ≠ u.ownBlock) := by
  rcases h.2 with ⟨rfl, _⟩ | ⟨g, cap, cur, rfl, _, hg, _⟩
  · rcases h'.2 with ⟨rfl, _⟩ | ⟨g', cap', cur', rfl, _, hg', _⟩
    · exact ⟨.inl rfl, .inl rfl⟩
    · exact ⟨.inl rfl, .inr (by simp [Value.ownBlock])⟩
  · rcases h'.2 with ⟨rfl, _⟩ | ⟨g', cap', cur', rfl, _, hg', _⟩
    · exact ⟨.inr (by simp [Value.ownBlock]), .inl rfl⟩
    · have hne : g ≠ g' := by
        rintro rfl
        rw [hg] at hg'
        simp at hg'
      exact ⟨.inr (fun e => hne (Option.some.inj e)), .inr (fun e => hne (Option.some.inj e).symm)⟩
theorem own_ne {w : World} {base b : Nat} {t : TypeId} {k : Nat} {v : Value} {n : Nat} {xs : List Value} (h : w.ownsRow base t k v n xs) (hb : b < base ∨ w.heap.size ≤ b) : some b ≠ v.ownBlock := fun e => by
  have := h.lt b e.symm
  omega

set_option maxHeartbeats 8000000 in
set_option maxRecDepth 100000 in
theorem part_bad {w : World} (c : M.Cmd) (k n : Int) {va vb : Value} (h : Rds w va c.rs) (h' : Wrs w vb c.ws) (hl : c.rs.length ≤ 1000) (hl' : c.ws.length ≤ 1000) (hd : M.pokB c n = false) : Calls Try.prog 10 #[.agg #[.int .i64 c.k, .int .i64 c.tc, .int .i64 c.tn, .int .i64 c.tt, .int .i64 c.tk, .int .i64 c.sh, va, vb, .bool c.cm], .int .i64 k, .int .i64 n] w fun e w' => e = .returned (.tuple #[.agg #[.int .i64 0, .int .i64 0, .int .i64 0, .int .i64 0, .int .i64 0, .int .i64 0, .slice none 0 0, .slice none 0 0, .bool false], .int .i64 1]) ∧ Below w.heap.size w w' := by
  have X0 := Lib.hid ((((Box.new w c va vb).push (.cells #[.int .i64 k] 3)).push (.cells #[.int .i64 n] 3)).push (.cells #[.int .i64 0, .int .i64 0, .int .i64 0, .int .i64 0, .int .i64 0, .int .i64 0, .slice none 0 0, .slice none 0 0, .bool false] 29))
  have Y0 := Lib.hid (show Box ((((w.alloc (.cells #[.int .i64 c.k, .int .i64 c.tc, .int .i64 c.tn, .int .i64 c.tt, .int .i64 c.tk, .int .i64 c.sh, va, vb, .bool c.cm] 29)).alloc (.cells #[.int .i64 k] 3)).alloc (.cells #[.int .i64 n] 3)).alloc (.cells #[.int .i64 0, .int .i64 0, .int .i64 0, .int .i64 0, .int .i64 0, .int .i64 0, .slice none 0 0, .slice none 0 0, .bool false] 29)) (w.heap.size + 1 + 1 + 1) M.zero (.slice none 0 0) (.slice none 0 0) from Box.new' _ M.zero _ _ (by simp))
  have R0 := Lib.hid ((((h.push (.cells #[.int .i64 c.k, .int .i64 c.tc, .int .i64 c.tn, .int .i64 c.tt, .int .i64 c.tk, .int .i64 c.sh, va, vb, .bool c.cm] 29)).push (.cells #[.int .i64 k] 3)).push (.cells #[.int .i64 n] 3)).push (.cells #[.int .i64 0, .int .i64 0, .int .i64 0, .int .i64 0, .int .i64 0, .int .i64 0, .slice none 0 0, .slice none 0 0, .bool false] 29))
  have W0 := Lib.hid ((((h'.push (.cells #[.int .i64 c.k, .int .i64 c.tc, .int .i64 c.tn, .int .i64 c.tt, .int .i64 c.tk, .int .i64 c.sh, va, vb, .bool c.cm] 29)).push (.cells #[.int .i64 k] 3)).push (.cells #[.int .i64 n] 3)).push (.cells #[.int .i64 0, .int .i64 0, .int .i64 0, .int .i64 0, .int .i64 0, .int .i64 0, .slice none 0 0, .slice none 0 0, .bool false] 29))
  have B0 := Lib.hid (below_new (o := .cells #[.int .i64 0, .int .i64 0, .int .i64 0, .int .i64 0, .int .i64 0, .int .i64 0, .slice none 0 0, .slice none 0 0, .bool false] 29) (below_new (o := .cells #[.int .i64 n] 3) (below_new (o := .cells #[.int .i64 k] 3) (below_new (o := .cells #[.int .i64 c.k, .int .i64 c.tc, .int .i64 c.tn, .int .i64 c.tt, .int .i64 c.tk, .int .i64 c.sh, va, vb, .bool c.cm] 29) (Below.refl w.heap.size w)))))
  have T0 := Lib.hid (show Soft9 ((((w.alloc (.cells #[.int .i64 c.k, .int .i64 c.tc, .int .i64 c.tn, .int .i64 c.tt, .int .i64 c.tk, .int .i64 c.sh, va, vb, .bool c.cm] 29)).alloc (.cells #[.int .i64 k] 3)).alloc (.cells #[.int .i64 n] 3)).alloc (.cells #[.int .i64 0, .int .i64 0, .int .i64 0, .int .i64 0, .int .i64 0, .int .i64 0, .slice none 0 0, .slice none 0 0, .bool false] 29)) (w.heap.size + 1 + 1 + 1) from soft_new' _ _ _ (by simp))
  have N0 := Lib.hid (show World.cell? ((((w.alloc (.cells #[.int .i64 c.k, .int .i64 c.tc, .int .i64 c.tn, .int .i64 c.tt, .int .i64 c.tk, .int .i64 c.sh, va, vb, .bool c.cm] 29)).alloc (.cells #[.int .i64 k] 3)).alloc (.cells #[.int .i64 n] 3)).alloc (.cells #[.int .i64 0, .int .i64 0, .int .i64 0, .int .i64 0, .int .i64 0, .int .i64 0, .slice none 0 0, .slice none 0 0, .bool false] 29)) ⟨w.heap.size + 1 + 1, 0, none⟩ = some (.int .i64 n) from cell_push (cell_new' _ _ _ (by simp)) _)
  have K0 := Lib.hid (show World.cell? ((((w.alloc (.cells #[.int .i64 c.k, .int .i64 c.tc, .int .i64 c.tn, .int .i64 c.tt, .int .i64 c.tk, .int .i64 c.sh, va, vb, .bool c.cm] 29)).alloc (.cells #[.int .i64 k] 3)).alloc (.cells #[.int .i64 n] 3)).alloc (.cells #[.int .i64 0, .int .i64 0, .int .i64 0, .int .i64 0, .int .i64 0, .int .i64 0, .slice none 0 0, .slice none 0 0, .bool false] 29)) ⟨w.heap.size + 1, 0, none⟩ = some (.int .i64 k) from cell_push (cell_push (cell_new' _ _ _ (by simp)) _) _)
  clear h h'
  rcases two (M.rightC c) with e | e
  · by_cases ek : c.k = 0
    · obtain ⟨q1, q2⟩ := eqI ek
      clear ek
      clear hd
      go_enter Try.func10, Try.ntmps10
      go_wp2_with (fail)
      refine (right_cmd c R0.out W0.out hl hl').mono ?_
      rintro e w1 ⟨rfl, hb⟩
      have X1 := Lib.hid (X0.out.on hb)
      have Y1 := Lib.hid (Y0.out.on hb)
      have R1 := Lib.hid (R0.out.below hb)
      have W1 := Lib.hid (W0.out.below hb)
      have B1 := Lib.hid (below_on B0.out hb)
      have T1 := Lib.hid (T0.out.on Y0.out.lt hb)
      have N1 := Lib.hid ((hb.cell (p := ⟨w.heap.size + 1 + 1, 0, none⟩) (by simp)).trans N0.out)
      have K1 := Lib.hid ((hb.cell (p := ⟨w.heap.size + 1, 0, none⟩) (by simp)).trans K0.out)
      clear hb X0 Y0 R0 W0 B0 T0 N0 K0
      obtain ⟨l0, p0, p1, p2, p3, p4, p5, p6, p7, p8⟩ := X1.out
      have n1 := N1.out
      have k1' := K1.out
      have ly := Y1.out.lt
      have s1 : w.heap.size ≤ w1.heap.size := B1.out.size
      obtain ⟨m1, y0, y1, y2, y3, y4, y5, y6, y7, y8⟩ := Y1.out
      have hz : ∀ o, w1.frozen? ⟨w.heap.size + 1 + 1 + 1, o, none⟩ = false := T1.out
      go_wp2
      refine bodyPost_ret (v := .tuple #[.agg #[.int .i64 0, .int .i64 0, .int .i64 0, .int .i64 0, .int .i64 0, .int .i64 0, .slice none 0 0, .slice none 0 0, .bool false], .int .i64 1]) (by simp [results, Try.results10, go_sem, y0, y1, y2, y3, y4, y5, y6, y7, y8]) rfl ?_
      exact ⟨rfl, below_set9 B1.out (by omega) _ _ _ _ _ _ _ _ _⟩
    · by_cases h1 : 1 ≤ n
      · by_cases h4 : n ≤ 4
        · exfalso
          unfold M.pokB at hd
          rw [e, decide_eq_false ek, decide_eq_true h1, decide_eq_true h4] at hd
          cases hd
        · obtain ⟨q1, q2⟩ := neI ek
          clear ek
          clear hd
          go_enter Try.func10, Try.ntmps10
          go_wp2_with (fail)
          refine (right_cmd c R0.out W0.out hl hl').mono ?_
          rintro e w1 ⟨rfl, hb⟩
          have X1 := Lib.hid (X0.out.on hb)
          have Y1 := Lib.hid (Y0.out.on hb)
          have R1 := Lib.hid (R0.out.below hb)
          have W1 := Lib.hid (W0.out.below hb)
          have B1 := Lib.hid (below_on B0.out hb)
          have T1 := Lib.hid (T0.out.on Y0.out.lt hb)
          have N1 := Lib.hid ((hb.cell (p := ⟨w.heap.size + 1 + 1, 0, none⟩) (by simp)).trans N0.out)
          have K1 := Lib.hid ((hb.cell (p := ⟨w.heap.size + 1, 0, none⟩) (by simp)).trans K0.out)
          clear hb X0 Y0 R0 W0 B0 T0 N0 K0
          obtain ⟨l0, p0, p1, p2, p3, p4, p5, p6, p7, p8⟩ := X1.out
          have n1 := N1.out
          have k1' := K1.out
          have ly := Y1.out.lt
          have s1 : w.heap.size ≤ w1.heap.size := B1.out.size
          obtain ⟨m1, y0, y1, y2, y3, y4, y5, y6, y7, y8⟩ := Y1.out
          have hz : ∀ o, w1.frozen? ⟨w.heap.size + 1 + 1 + 1, o, none⟩ = false := T1.out
          go_wp2
          refine bodyPost_ret (v := .tuple #[.agg #[.int .i64 0, .int .i64 0, .int .i64 0, .int .i64 0, .int .i64 0, .int .i64 0, .slice none 0 0, .slice none 0 0, .bool false], .int .i64 1]) (by simp [results, Try.results10, go_sem, y0, y1, y2, y3, y4, y5, y6, y7, y8]) rfl ?_
          exact ⟨rfl, below_set9 B1.out (by omega) _ _ _ _ _ _ _ _ _⟩
      · obtain ⟨q1, q2⟩ := neI ek
        clear ek
        clear hd
        go_enter Try.func10, Try.ntmps10
        go_wp2_with (fail)
        refine (right_cmd c R0.out W0.out hl hl').mono ?_
        rintro e w1 ⟨rfl, hb⟩
        have X1 := Lib.hid (X0.out.on hb)
        have Y1 := Lib.hid (Y0.out.on hb)
        have R1 := Lib.hid (R0.out.below hb)
        have W1 := Lib.hid (W0.out.below hb)
        have B1 := Lib.hid (below_on B0.out hb)
        have T1 := Lib.hid (T0.out.on Y0.out.lt hb)
        have N1 := Lib.hid ((hb.cell (p := ⟨w.heap.size + 1 + 1, 0, none⟩) (by simp)).trans N0.out)
        have K1 := Lib.hid ((hb.cell (p := ⟨w.heap.size + 1, 0, none⟩) (by simp)).trans K0.out)
        clear hb X0 Y0 R0 W0 B0 T0 N0 K0
        obtain ⟨l0, p0, p1, p2, p3, p4, p5, p6, p7, p8⟩ := X1.out
        have n1 := N1.out
        have k1' := K1.out
        have ly := Y1.out.lt
        have s1 : w.heap.size ≤ w1.heap.size := B1.out.size
        obtain ⟨m1, y0, y1, y2, y3, y4, y5, y6, y7, y8⟩ := Y1.out
        have hz : ∀ o, w1.frozen? ⟨w.heap.size + 1 + 1 + 1, o, none⟩ = false := T1.out
        go_wp2
        refine bodyPost_ret (v := .tuple #[.agg #[.int .i64 0, .int .i64 0, .int .i64 0, .int .i64 0, .int .i64 0, .int .i64 0, .slice none 0 0, .slice none 0 0, .bool false], .int .i64 1]) (by simp [results, Try.results10, go_sem, y0, y1, y2, y3, y4, y5, y6, y7, y8]) rfl ?_
        exact ⟨rfl, below_set9 B1.out (by omega) _ _ _ _ _ _ _ _ _⟩
  · clear hd
    go_enter Try.func10, Try.ntmps10
    go_wp2_with (fail)
    refine (right_cmd c R0.out W0.out hl hl').mono ?_
    rintro e w1 ⟨rfl, hb⟩
    have X1 := Lib.hid (X0.out.on hb)
    have Y1 := Lib.hid (Y0.out.on hb)
    have R1 := Lib.hid (R0.out.below hb)
    have W1 := Lib.hid (W0.out.below hb)
    have B1 := Lib.hid (below_on B0.out hb)
    have T1 := Lib.hid (T0.out.on Y0.out.lt hb)
    have N1 := Lib.hid ((hb.cell (p := ⟨w.heap.size + 1 + 1, 0, none⟩) (by simp)).trans N0.out)
    have K1 := Lib.hid ((hb.cell (p := ⟨w.heap.size + 1, 0, none⟩) (by simp)).trans K0.out)
    clear hb X0 Y0 R0 W0 B0 T0 N0 K0
    obtain ⟨l0, p0, p1, p2, p3, p4, p5, p6, p7, p8⟩ := X1.out
    have n1 := N1.out
    have k1' := K1.out
    have ly := Y1.out.lt
    have s1 : w.heap.size ≤ w1.heap.size := B1.out.size
    obtain ⟨m1, y0, y1, y2, y3, y4, y5, y6, y7, y8⟩ := Y1.out
    have hz : ∀ o, w1.frozen? ⟨w.heap.size + 1 + 1 + 1, o, none⟩ = false := T1.out
    go_wp2
    refine bodyPost_ret (v := .tuple #[.agg #[.int .i64 0, .int .i64 0, .int .i64 0, .int .i64 0, .int .i64 0, .int .i64 0, .slice none 0 0, .slice none 0 0, .bool false], .int .i64 1]) (by simp [results, Try.results10, go_sem, y0, y1, y2, y3, y4, y5, y6, y7, y8]) rfl ?_
    exact ⟨rfl, below_set9 B1.out (by omega) _ _ _ _ _ _ _ _ _⟩
end Go.Proofs.Ytacieiddhkkahaa
