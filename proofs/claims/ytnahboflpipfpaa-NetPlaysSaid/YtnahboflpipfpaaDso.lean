/- A step of both: of a verb that is none, Look; no conditions but those that they name. -/
import Derived.Test.YtnahboflpipfpaaBmp
namespace Go.Proofs.Ytnahboflpipfpaa
open Go.ChangeShapes Go.WideShapes Go.ChangeAt Go.RowKit

/-- What stands where a step begins: the boxes. -/
structure Beg (w W : World) (g : Nat) (F : Nat → Prop) (s : St) (A : Option Addr) (c : Nat) (d : Dv) : Prop where
  bel : Below w.heap.size w W
  hd : Hold W w.heap.size 29 (([.int .i64 s.room, (.slice A s.ms.length c), .int .i64 s.sent, .int .i64 s.came, .int .i64 s.lost] : List Value))
  hx : Hold W (w.heap.size + 1) 51 d.cells
  hr : Hold W (w.heap.size + 2) 29 ([.int .i64 0, .slice none 0 0, .int .i64 0, .int .i64 0, .int .i64 0] : List Value)
  nt : Nt W g (Fb F w.heap.size 3) s
  dv : Dv0 (Or1 g (Fb F w.heap.size 3)) W (.slice A s.ms.length c) s
  tx : Txt (Or1 g (Fb F w.heap.size 3)) W d.x
  sz : w.heap.size + 3 ≤ W.heap.size
  gl : g < w.heap.size
theorem or1_fb {g : Nat} {F : Nat → Prop} {B n : Nat} {x : Nat} (h : Or1 g (Fb F B n) x) : Or1 g F x ∨ B ≤ x := h.elim (fun e => .inl (.inl e)) (fun e => e.elim (fun f => .inl (.inr f)) (fun q => .inr q.1))
theorem or1_sub {g : Nat} {F : Nat → Prop} {B n : Nat} {x : Nat} (h : Or1 g F x) : Or1 g (Fb F B n) x := h.imp id .inl
theorem beg_of {w : World} {g : Nat} {F : Nat → Prop} {s : St} {A : Option Addr} {c : Nat} {d : Dv} (h : Nt w g F s) (hv : Dv0 (Or1 g F) w (.slice A s.ms.length c) s) (ht : Txt (Or1 g F) w d.x) :
    Beg w (((w.alloc (.cells (([.int .i64 s.room, (.slice A s.ms.length c), .int .i64 s.sent, .int .i64 s.came, .int .i64 s.lost] : List Value)).toArray 29)).alloc (.cells d.cells.toArray 51)).alloc (.cells (([.int .i64 0, .slice none 0 0, .int .i64 0, .int .i64 0, .int .i64 0] : List Value)).toArray 29)) g F s A c d := by
  have b0 : Below w.heap.size w (((w.alloc (.cells (([.int .i64 s.room, (.slice A s.ms.length c), .int .i64 s.sent, .int .i64 s.came, .int .i64 s.lost] : List Value)).toArray 29)).alloc (.cells d.cells.toArray 51)).alloc (.cells (([.int .i64 0, .slice none 0 0, .int .i64 0, .int .i64 0, .int .i64 0] : List Value)).toArray 29)) := below_new (below_new (below_new (Below.refl w.heap.size w)))
  have hz : w.heap.size + 3 ≤ (((w.alloc (.cells (([.int .i64 s.room, (.slice A s.ms.length c), .int .i64 s.sent, .int .i64 s.came, .int .i64 s.lost] : List Value)).toArray 29)).alloc (.cells d.cells.toArray 51)).alloc (.cells (([.int .i64 0, .slice none 0 0, .int .i64 0, .int .i64 0, .int .i64 0] : List Value)).toArray 29)).heap.size := by simp
  refine ⟨b0, (Hold.new w ([.int .i64 s.room, (.slice A s.ms.length c), .int .i64 s.sent, .int .i64 s.came, .int .i64 s.lost] : List Value) 29).on (below_new (below_new (Below.refl _ _))), (hold_new1 w _ d.cells 51).on (below_new (Below.refl _ _)), hold_new2 w _ _ ([.int .i64 0, .slice none 0 0, .int .i64 0, .int .i64 0, .int .i64 0] : List Value) 29, h.boxed 3 b0 hz, ?_, ?_, hz, h.lt⟩
  · exact hv.step (K := fun _ => False) (Keeps.of_below b0) (fun _ e => e.elim) (fun _ e => or1_fb e)
  · exact ht.step (K := fun _ => False) (Keeps.of_below b0) (fun _ e => e.elim) (fun _ e => or1_fb e)
/-- What a step leaves, of what stands behind it. -/
theorem dsr_mk {w W W' : World} {g : Nat} {F : Nat → Prop} {s' : St} {v' : Value} {L : List Value} (hn : Nt W g (Fb F w.heap.size 3) s') (hv : Dv0 (Or1 g (Fb F w.heap.size 3)) W v' s') (k : Keeps (only g) w W) (hW : W' = W.setCells (w.heap.size + 2) 0 L) : Nt W' g F s' ∧ Dv0 (Or1 g F) W' v' s' ∧ Keeps (only g) w W' := by
  subst hW
  have kk := keeps_puts L 0 (b := w.heap.size + 2) (w := W)
  refine ⟨(hn.keep kk (fun x e => by unfold only at e; omega)).unbox, (hv.step kk (fun x e => by unfold only at e; exact .inr (.inr (by omega))) (fun _ e => .inl (or1_sub e))), k.trans kk (fun x hx e => by unfold only at e; omega)⟩
set_option maxHeartbeats 16000000 in
set_option maxRecDepth 100000 in
theorem does_no {w : World} {g : Nat} {F : Nat → Prop} {s : St} {v : Value} {d : Dv} (h : Nt w g F s) (hv : Dv0 (Or1 g F) w v s) (ht : Txt (Or1 g F) w d.x) (h0 : d.vb ≠ 0) (h1 : d.vb ≠ 1) (h2 : d.vb ≠ 2) (h3 : d.vb ≠ 3) (h4 : d.vb ≠ 4) : Calls Try.prog 13 #[ptrV g, .agg (dnL s v).toArray, .agg d.cells.toArray] w (Dsr g F s w) := by
  obtain ⟨A, c, rfl⟩ := hv.slice
  have HB := Lib.hid (beg_of h hv ht)
  have c0 := hold_cell HB.out.hx 0 rfl
  have LA := Lib.hid HB.out.hd.cel.whole
  have TH := Lib.hid (show World.there _ (w.heap.size + 2) 0 (([.int .i64 s.room, (.slice A s.ms.length c), .int .i64 s.sent, .int .i64 s.came, .int .i64 s.lost] : List Value) : List Value).length from HB.out.hr.there (by show 0 + 5 ≤ 5; omega))
  have RH := Lib.hid (Hold.set (([.int .i64 s.room, (.slice A s.ms.length c), .int .i64 s.sent, .int .i64 s.came, .int .i64 s.lost] : List Value)) [] ([.int .i64 0, .slice none 0 0, .int .i64 0, .int .i64 0, .int .i64 0] : List Value) [] rfl _ HB.out.hr)
  have HK := Lib.hid (Keeps.of_below (F := only g) HB.out.bel)
  have q0 : decide (d.vb = 0) = false := by simpa using h0
  have q1 : decide (d.vb = 1) = false := by simpa using h1
  have q2 : decide (d.vb = 2) = false := by simpa using h2
  have q3 : decide (d.vb = 3) = false := by simpa using h3
  have q4 : decide (d.vb = 4) = false := by simpa using h4
  have r0 : (d.vb == 0) = false := by simpa using h0
  have r1 : (d.vb == 1) = false := by simpa using h1
  have r2 : (d.vb == 2) = false := by simpa using h2
  have r3 : (d.vb == 3) = false := by simpa using h3
  have r4 : (d.vb == 4) = false := by simpa using h4
  unfold ptrV dnL
  clear h hv ht h0 h1 h2 h3 h4
  go_enter Try.func13, Try.ntmps13
  go_wp2_with (first
    | (with_reducible refine wpList_load_mid rfl 29 _ rfl w.heap.size 0 rfl _ _ LA.out Try.underlying29 rfl (by kernel_rfl) ?_)
    | (with_reducible refine store_list rfl 29 _ _ rfl (w.heap.size + 2) 0 (([.int .i64 s.room, (.slice A s.ms.length c), .int .i64 s.sent, .int .i64 s.came, .int .i64 s.lost] : List Value)) rfl rfl TH.out (by kernel_rfl) rfl ?_))
  refine bodyPost_ret (results_cv rfl rfl rfl RH.out.cel.whole _ Try.underlying29 rfl (by kernel_rfl)) rfl ?_
  exact ⟨.slice A s.ms.length c, rfl, dsr_mk HB.out.nt HB.out.dv HK.out rfl⟩
end Go.Proofs.Ytnahboflpipfpaa
