/- A step of both, whatever it is; what stands between two steps; no conditions but those that they name. -/
import Derived.Test.YtnahboflpipfpaaDss
namespace Go.Proofs.Ytnahboflpipfpaa
open Go.ChangeShapes Go.WideShapes Go.ChangeAt Go.RowKit

theorem does_any {w : World} {g : Nat} {F : Nat → Prop} {s : St} {v : Value} {d : Dv} {n : Int} (h : Nt w g F s) (hv : Dv0 (Or1 g F) w v s) (ht : Txt (Or1 g F) w d.x) (ok : s.OkN n) (hn : n ≤ 1000) (K : M.Mod d.x.m.r.c) : Calls Try.prog 13 #[ptrV g, .agg (dnL s v).toArray, .agg d.cells.toArray] w (Dsr g F (stepS d s) w) := by
  unfold stepS
  by_cases h0 : d.vb = 0
  · rw [if_pos h0]; exact does_send h hv ht (ok.ok hn) K h0
  rw [if_neg h0]
  by_cases h2 : d.vb = 2
  · rw [if_pos h2]; exact does_take h hv ht (ok.ok hn) h2
  rw [if_neg h2]
  by_cases h3 : d.vb = 3
  · rw [if_pos h3]; exact does_lose h hv ht ok hn h3
  rw [if_neg h3]
  by_cases h4 : d.vb = 4
  · rw [if_pos h4]; exact does_twice h hv ht ok hn h4
  rw [if_neg h4]
  by_cases h1 : d.vb = 1
  · exact does_look h hv ht (ok.ok hn) h1
  · exact does_no h hv ht h0 h1 h2 h3 h4
/-- What stands between two steps. -/
structure Std (w wr : World) (g br : Nat) (s : St) (v : Value) (n rm : Int) : Prop where
  nt : Nt wr g (only br) s
  dv : Dv0 (Or1 g (only br)) wr v s
  hd : Hold wr br 29 (dnL s v)
  ok : s.OkN n
  rm : s.room = rm
  bel : Below w.heap.size w wr
  gl : w.heap.size ≤ g
  bl : w.heap.size ≤ br
theorem Std.ne {w wr : World} {g br : Nat} {s : St} {v : Value} {n rm : Int} (h : Std w wr g br s v n rm) : g ≠ br := fun e => by
  obtain ⟨v0, Y, q⟩ := h.nt
  exact q.ng e
theorem Std.below {w wr wz : World} {g br : Nat} {s : St} {v : Value} {n rm : Int} (h : Std w wr g br s v n rm) (k : Below wr.heap.size wr wz) : Std w wz g br s v n rm :=
  ⟨h.nt.below k, h.dv.below k, h.hd.on k, h.ok, h.rm, below_on h.bel k, h.gl, h.bl⟩
/-- Behind a step, its answer stored. -/
theorem Std.next {w wr w2 : World} {g br : Nat} {s s' : St} {v v' : Value} {n m rm : Int} (h : Std w wr g br s v n rm) (hn : Nt w2 g (only br) s') (hv : Dv0 (Or1 g (only br)) w2 v' s') (k : Keeps (only g) wr w2) (hok : s'.OkN m) (hr : s'.room = rm) :
    Std w (w2.setCells br 0 (dnL s' v')) g br s' v' m rm ∧ Hold w2 br 29 (dnL s v) := by
  have h2 := hold_keeps h.hd k (fun e => h.ne e.symm)
  have kk := keeps_puts (dnL s' v') 0 (b := br) (w := w2)
  have b2 : Below w.heap.size w w2 := h.bel.trans (k.below (fun x e => by unfold only at e; rw [e]; exact h.gl) h.bel.size)
  refine ⟨⟨?_, ?_, ?_, hok, hr, b2.trans (kk.below (fun x e => by unfold only at e; rw [e]; exact h.bl) b2.size), h.gl, h.bl⟩, h2⟩
  · exact hn.step kk (fun _ e => e) (fun _ e => .inl e) (fun x e => Nat.lt_of_lt_of_le (hn.ltall x (.inr e)) kk.size)
  · exact hv.step kk (fun x e => .inr e) (fun _ e => .inl e)
  · have := Hold.set (dnL s' v') [] (dnL s v) [] rfl _ (by simpa using h2)
    simpa using this
/-- How a play begins: both nets are new. -/
theorem Std.start {w w1 w3 : World} {g : Nat} {rm : Int} (h1 : 1 ≤ rm) (hn : Nt w1 g (fun _ => False) (St.new rm)) (b : Below w.heap.size w w1) (k : Below w1.heap.size w1 w3) (hg : w.heap.size ≤ g) : Std w (w3.alloc (.cells (dnL (St.new rm) (.slice none 0 0)).toArray 29)) g w3.heap.size (St.new rm) (.slice none 0 0) 0 rm := by
  have k2 := below_new (o := .cells (dnL (St.new rm) (.slice none 0 0)).toArray 29) k
  have hl : g < w1.heap.size := hn.lt
  have ks := k.size
  refine ⟨?_, ⟨[], Msgs.nil _ _ _ _, rfl⟩, Hold.new w3 _ 29, St.OkN.new h1, rfl, below_on b k2, hg, Nat.le_trans b.size k.size⟩
  exact hn.step (K := fun _ => False) (Keeps.of_below k2) (fun _ e => e) (fun x e => by unfold only at e; exact .inr (by omega)) (fun x e => by unfold only at e; rw [e]; simp)
/-- A step's texts lie ahead of both nets. -/
theorem Std.txt {w wr : World} {g br : Nat} {s : St} {v : Value} {n rm : Int} (h : Std w wr g br s v n rm) {x : Mv} (hx : Rds w x.va x.m.r.c.rs ∧ Wrs w x.vb x.m.r.c.ws) : Txt (Or1 g (only br)) wr x :=
  (Txt.of (F := Or1 g (only br)) hx.1 hx.2 (fun y e => e.elim (fun e => e ▸ h.gl) (fun e => by unfold only at e; rw [e]; exact h.bl))).below h.bel
end Go.Proofs.Ytnahboflpipfpaa
