/- Contract of a log's Get; no conditions but those that it names. -/
import Derived.Test.YtdachohcjpjblaaGreatDoorFGetA
set_option maxHeartbeats 8000000
set_option maxRecDepth 100000
namespace Go.Proofs.YtdachohcjpjblaaGreatDoor
open Go.ChangeShapes Go.WideShapes Go.ChangeAt Go.RowKit
open Di (Keeps In below_on below_new)
open Wi (Hold)
def K.lastR (A : List K.Rec) (k : Ky) : Option K.Rec := A.reverse.find? fun r => decide (k = (r.ir, r.is))
theorem lastX_rcs (X : List Rv) (k : Ky) : (lastX X k).map (·.r) = K.lastR (rcs X) k := by
 unfold lastX K.lastR rcs
 rw [← List.map_reverse, List.find?_map]
 rfl
structure Seen (w : World) (gl gd gc : Nat) (Fd : Nat → Prop) (s : Di.M.St) (F : Nat → Prop) (W w' : World) (Fc : Nat → Prop) (X : List Rv) (rest : Int) (A : Option Addr) (c : Nat) (vr ve : Value) (gm : Nat) : Prop where
 lg : Lg w' gl gd gc Fd Fc s X rest A c vr ve gm
 ap : ∀ x, (Fd x ∨ Fc x ∨ x = gl) → ¬ Bet w W x
 tx : ∀ x ∈ X, Out (Bet w W) w' x.va ∧ Out (Bet w W) w' x.vb
 fr : Out (Bet w W) w' (.slice A (K.fb (rcs X)).length c)
 kp : Keeps F w w'
 gr : ∀ x, (Fd x ∨ Fc x ∨ x = gl) → F x ∨ w.heap.size ≤ x
def LogGot (w : World) (gl gd : Nat) (F : Nat → Prop) (s : Di.M.St) (W w' : World) : Prop := ∃ gc Fd Fc X rest A c vr ve gm, Seen w gl gd gc Fd s F W w' Fc X rest A c vr ve gm
theorem LogGot.keeps {w : World} {gl gd : Nat} {F : Nat → Prop} {s : Di.M.St} {W W1 W2 : World} (h : LogGot w gl gd F s W W1) (k : Keeps (Bet w W) W1 W2) (h0 : 0 < w.heap.size) : LogGot w gl gd F s W W2 := by
 obtain ⟨gc, Fd, Fc, X, rest, A, c, vr, ve, gm, h⟩ := h
 exact ⟨gc, Fd, Fc, X, rest, A, c, vr, ve, gm, h.lg.keeps k (fun x f => h.ap x (.inl f)) (fun x f => h.ap x (.inr (.inl f))) (h.ap gl (.inr (.inr rfl))) (fun f => by have := f.1; omega) h.tx h.fr, h.ap, fun x hx => ⟨(h.tx x hx).1.below k.size, (h.tx x hx).2.below k.size⟩, h.fr.below k.size,
  h.kp.trans k (fun x hx f => absurd hx (by have := f.1; omega)), h.gr⟩
theorem LogGot.logs {w : World} {gl gd : Nat} {F : Nat → Prop} {s : Di.M.St} {W w' : World} (h : LogGot w gl gd F s W w') : Logs w gl gd F s w' := by
 obtain ⟨gc, Fd, Fc, X, rest, A, c, vr, ve, gm, h⟩ := h
 exact ⟨fun x => Fd x ∨ Fc x ∨ x = gl, ⟨gc, Fd, Fc, X, rest, A, c, vr, ve, gm, h.lg, fun _ => Iff.rfl⟩, h.kp, h.gr, h.lg.f_lt⟩
theorem txt_zero (w : World) : Txt w Rv.zero := ⟨Wi.RowN.of_owns (World.ownsRow_nil w 0 113 3), Wi.RowN.of_owns (World.ownsRow_nil w 0 115 2)⟩
def K.norec : K.Rec := Rv.zero.r
theorem getL_any {w : World} {gl gd : Nat} {F : Nat → Prop} {s : Di.M.St} (k : Ky) (h : Log w gl gd F s) (hs : s.bs.length ≤ 100000) :
 Calls Tryz.prog 25 #[.pointer (some ⟨gl, 0, none⟩),.agg #[.int .i64 k.1,.int .i64 k.2]] w fun e w' => ∃ y : Rv, e = .returned (.tuple #[y.val,.bool (K.lastR (K.rd s.bs) k).isSome]) ∧ y.r = (K.lastR (K.rd s.bs) k).getD K.norec ∧ Wi.OwnR w.heap.size w' y.va y.r.c.rs ∧ Wi.OwnW w.heap.size w' y.vb y.r.c.ws ∧ Logs w gl gd F s w' := by
 have h0 : 0 < w.heap.size := h.tab.1
 have hmod : ∀ r ∈ K.rd s.bs, Wi.M.Mod r.c := fun r hr => Wi.M.tiny_mod (K.tiny (K.rd_rg _ r hr))
 have hlast : Wi.M.Mod ((K.lastR (K.rd s.bs) k).getD K.norec).c := by
  cases e : K.lastR (K.rd s.bs) k with
  | none => exact ⟨by simp [K.norec, Rv.zero], by simp [K.norec, Rv.zero], fun r hr => (List.not_mem_nil hr).elim, fun r hr => (List.not_mem_nil hr).elim, fun r hr => (List.not_mem_nil hr).elim⟩
  | some r => exact hmod r (List.mem_reverse.1 (List.mem_of_find?_eq_some e))
 have hlt := h.lt
 obtain ⟨gc, Fd, Fc, X, rest, A, c, vr, ve, gm, L, hF⟩ := h
 refine (get_gen (Φ := LogGot w gl gd F s) k ((K.lastR (K.rd s.bs) k).getD K.norec) (K.lastR (K.rd s.bs) k).isSome (fun W hW => ?_) (fun W W1 W2 a b => a.keeps b h0) hlast.l hlast.l').mono ?_
 ·refine (look_any (L.below hW) hs).mono ?_
  rintro e w1 ⟨rfl, Fc1, X1, A1, c1, vr1, ve1, hX, L1, k1, g1, hn, hA⟩
  have hWs := hW.size
  have hb1 : ∀ x, (Fd x ∨ Fc1 x ∨ x = gl) → ¬ Bet w W x := fun x f b => by
   have h1 := b.1
   have h2 := b.2
   rcases f with f | f | f
   ·have := hlt x ((hF x).2 (.inl f)); omega
   ·rcases g1.1 x f with f | f
    ·have := hlt x ((hF x).2 (.inr (.inl f))); omega
    ·omega
   ·have := hlt x ((hF x).2 (.inr (.inr f))); omega
  have hb2 : ∀ x ∈ X1, Out (Bet w W) w1 x.va ∧ Out (Bet w W) w1 x.vb := fun x hx => by
   have a1 := (L1.ct.tx x hx).oa
   have a2 := (L1.ct.tx x hx).ob
   rcases hn x hx with hx' | hN
   ·have q1 := (L.ct.tx x hx').oa
    have q2 := (L.ct.tx x hx').ob
    exact ⟨fun b e => ⟨fun f => by have := (q1 b e).2; have := f.1; omega, (a1 b e).2⟩, fun b e => ⟨fun f => by have := (q2 b e).2; have := f.1; omega, (a2 b e).2⟩⟩
   ·exact ⟨fun b e => ⟨fun f => by have := hN b (.inl e); have := f.2; omega, (a1 b e).2⟩, fun b e => ⟨fun f => by have := hN b (.inr e); have := f.2; omega, (a2 b e).2⟩⟩
  have hb3 : Out (Bet w W) w1 (.slice A1 (K.fb (rcs X1)).length c1) := fun b e => ⟨fun f => by
   rw [hA] at e
   cases e
   exact absurd f.2 (Nat.lt_irrefl _), (L1.fo b e).2⟩
  have hm : (mget (cur X1) k).map (·.r) = K.lastR (K.rd s.bs) k := by rw [mget_cur, lastX_rcs, hX]
  have hsome : (mget (cur X1) k).isSome = (K.lastR (K.rd s.bs) k).isSome := by rw [← hm, Option.isSome_map]
  refine ⟨gc, .map (some gm), (mget (cur X1) k).getD Rv.zero, rfl, hold_cell L1.ct.blk 4 rfl, hold_lt L1.ct.blk, fun W' hW' => ?_, ?_, ?_, ?_, fun j hj => ?_, k1.size, ⟨gc, Fd, Fc1, X1, _, A1, c1, vr1, ve1, gm, L1, hb1, hb2, hb3, ?_, ?_⟩⟩
  ·rw [← hsome]
   exact run_look (L1.ct.mp.keeps (F := fun _ => False) (Keeps.of_below hW') id) k
  ·rw [← hm]
   cases mget (cur X1) k <;> rfl
  ·cases e : mget (cur X1) k with
   | none => exact txt_zero _
   | some x =>
     rw [mget_cur] at e
     have := L1.ct.tx x (lastX_mem e).1
     exact ⟨this.rs, this.ws⟩
  ·cases e : mget (cur X1) k with
   | none => exact ⟨Out.nil _ _ _ _, Out.nil _ _ _ _⟩
   | some x =>
     rw [mget_cur] at e
     exact hb2 x (lastX_mem e).1
  ·exact k1.block j hj.2 (fun f => by have := hlt j ((hF j).2 (.inr (.inl f))); have := hj.1; omega)
  ·exact ((Keeps.of_below hW).trans k1 (fun x _ f => (hF x).2 (.inr (.inl f))))
  ·intro x f
   rcases f with f | f | f
   ·exact .inl ((hF x).2 (.inl f))
   ·exact (g1.1 x f).imp (fun f => (hF x).2 (.inr (.inl f))) (fun e => by omega)
   ·exact .inl ((hF x).2 (.inr (.inr f)))
 ·rintro e w' ⟨y, rfl, hy, h1, h2, W, -, hg⟩
  rw [← hy] at h1 h2
  exact ⟨y, rfl, hy, h1, h2, hg.logs⟩
end Go.Proofs.YtdachohcjpjblaaGreatDoor
