/- A variable that holds a document's log is written: all else reads on; conditions: those that each names. -/
import Derived.Test.YtdachohcjpjblaaGreatDoorFMet
set_option maxHeartbeats 8000000
set_option maxRecDepth 100000
namespace Go.Proofs.YtdachohcjpjblaaGreatDoor
open Go.ChangeShapes Go.WideShapes Go.ChangeAt Go.RowKit
open Di (Keeps In below_on below_new)
open Wi (Hold)
namespace Bx
def strange (x : Value) : Prop := (∀ A n c, x ≠ .slice A n c) ∧ ∀ a, x ≠ .int .i64 a
structure Box (g : Nat) (w w' : World) : Prop where
 k : Keeps (fun j => j = g) w w'
 m : ∃ A n c a b, Hold w g 41 [.slice A n c,.int .i64 a,.int .i64 b]
section
variable {g : Nat} {w w' : World}
theorem Box.not (h : Box g w w') {o : Nat} {x : Value} (hx : strange x) : w.cell? ⟨g, o, none⟩ ≠ some x := by
 obtain ⟨A, n, c, a, b, hh⟩ := h.m
 have hb : w.heap[g]? = some (.cells #[.slice A n c,.int .i64 a,.int .i64 b] 41 (0, 0)) := hh
 intro e
 match o, e with
 | 0, e => simp [World.cell?, hb] at e; exact hx.1 _ _ _ e.symm
 | 1, e => simp [World.cell?, hb] at e; exact hx.2 _ e.symm
 | 2, e => simp [World.cell?, hb] at e; exact hx.2 _ e.symm
 | o + 3, e => simp [World.cell?, hb] at e
theorem Box.rowN (h : Box g w w') {k : Nat} {v : Value} {n : Nat} {xs : List Value} (r : Wi.RowN k w v n xs) (hs : 0 < n → ∃ (j : Nat) (x : Value), xs[j]? = some x ∧ strange x) : Wi.RowN k w' v n xs := by
 obtain ⟨hl, A, c, e, hc, hx⟩ := r
 refine ⟨hl, A, c, e, hc, fun h0 => ?_⟩
 obtain ⟨b, o, rfl, hb, hy⟩ := hx h0
 obtain ⟨j0, x0, hj0, hst⟩ := hs h0
 have hne : b ≠ g := fun e => h.not hst (e ▸ hy j0 x0 hj0)
 exact ⟨b, o, rfl, Nat.lt_of_lt_of_le hb h.k.size, fun j x hj => (h.k.cell (p := ⟨b, o + j, none⟩) hb hne).trans (hy j x hj)⟩
theorem Box.bts (h : Box g w w') {v : Value} {xs : List UInt8} (r : Fr.Bts w v xs) : Fr.Bts w' v xs := by
 obtain ⟨A, c, e, hc, hx⟩ := r
 refine ⟨A, c, e, hc, fun h0 => ?_⟩
 obtain ⟨b, o, rfl, hb, hy⟩ := hx h0
 have hne : b ≠ g := by
  cases xs with
  | nil => simp at h0
  | cons u xs => exact fun e => h.not (o := o + 0) (x := Fr.enc8 u) ⟨fun _ _ _ e => by simp [Fr.enc8] at e, fun _ e => by simp [Fr.enc8] at e⟩ (e ▸ hy 0 _ rfl)
 exact ⟨b, o, rfl, Nat.lt_of_lt_of_le hb h.k.size, fun j x hj => (h.k.cell (p := ⟨b, o + j, none⟩) hb hne).trans (hy j x hj)⟩
theorem rds_odd (l : List (List UInt8 × Int × Int)) (h : 0 < l.length) : ∃ (j : Nat) (x : Value), (Wi.rdsC l)[j]? = some x ∧ strange x := by
 cases l with
 | nil => simp at h
 | cons r l => exact ⟨0, _, rfl, fun _ _ _ e => by simp at e, fun _ e => by simp at e⟩
theorem wrs_odd (l : List (List UInt8 × List UInt8)) (h : 0 < l.length) : ∃ (j : Nat) (x : Value), (Wi.wrsC l)[j]? = some x ∧ strange x := by
 cases l with
 | nil => simp at h
 | cons r l => exact ⟨0, _, rfl, fun _ _ _ e => by simp at e, fun _ e => by simp at e⟩
theorem recs_odd (Y : List Rv) (h : 0 < Y.length) : ∃ (j : Nat) (x : Value), (Y.flatMap Rv.cells)[j]? = some x ∧ strange x := by
 cases Y with
 | nil => simp at h
 | cons r l => exact ⟨15, _, rfl, fun _ _ _ e => by simp at e, fun _ e => by simp at e⟩
theorem Box.rds (h : Box g w w') {v : Value} {l : List (List UInt8 × Int × Int)} (r : Wi.Rds w v l) : Wi.Rds w' v l := h.rowN r (rds_odd l)
theorem Box.wrs (h : Box g w w') {v : Value} {l : List (List UInt8 × List UInt8)} (r : Wi.Wrs w v l) : Wi.Wrs w' v l := h.rowN r (wrs_odd l)
theorem Box.tx (h : Box g w w') {F : Nat → Prop} {x : Rv} (t : Tx w F x) : Tx w' F x :=
 ⟨h.rds t.rs, h.wrs t.ws, t.oa.below h.k.size, t.ob.below h.k.size, t.rg⟩
theorem Box.txt (h : Box g w w') {x : Rv} (t : Txt w x) : Txt w' x := ⟨h.rds t.rs, h.wrs t.ws⟩
theorem Box.rows (h : Box g w w') {v : Value} {X : List Rv} (t : Rows w v X) : Rows w' v X := ⟨h.rowN t.row (recs_odd X), fun x hx => h.txt (t.tx x hx)⟩
theorem Box.rws (h : Box g w w') {F : Nat → Prop} {v : Value} {X : List Rv} (t : Rws F w v X) : Rws F w' v X :=
 ⟨h.rows t.rows, fun h0 => (t.ov h0).below h.k.size, fun y hy => ⟨fun h0 => ((t.ot y hy).1 h0).below h.k.size, fun h0 => ((t.ot y hy).2 h0).below h.k.size⟩⟩
theorem Box.log (h : Box g w w') {gl gd : Nat} {F : Nat → Prop} {s : Di.M.St} (l : Log w gl gd F s) (hF : ¬ F g) (h0 : g ≠ 0) : Log w' gl gd F s := by
 obtain ⟨gc, Fd, Fc, X, rest, A, c, vr, ve, gm', L, hf⟩ := l
 have n1 : ∀ x, Fd x → ¬ x = g := fun x f e => hF ((hf g).2 (.inl (e ▸ f)))
 have n2 : ∀ x, Fc x → ¬ x = g := fun x f e => hF ((hf g).2 (.inr (.inl (e ▸ f))))
 have n3 : ¬ gl = g := fun e => hF ((hf g).2 (.inr (.inr e.symm)))
 have C := L.ct
 refine ⟨gc, Fd, Fc, X, rest, A, c, vr, ve, gm', ⟨hold_keeps L.blk h.k n3, L.dk.keeps h.k n1,
  ⟨hold_keeps C.blk h.k (n2 _ C.fgc), owns_keeps C.row h.k fun b e => n2 b (C.fvr b e), owns_keeps C.ends h.k fun b e => n2 b (C.fve b e), C.mp.keeps h.k (n2 _ C.fgm), fun x hx => h.tx (C.tx x hx), fun p hp => h.tx (C.tm p hp), C.fgc, C.fgm, C.fvr, C.fve, fun x f => Nat.lt_of_lt_of_le (C.lt x f) h.k.size⟩,
  h.bts L.fr, L.fo.below h.k.size, fun x hx' => ⟨(L.txd x hx').1.below h.k.size, (L.txd x hx').2.below h.k.size⟩, L.ap, L.nd, L.nc, L.sz, tab_keeps L.tab h.k (fun e => h0 e.symm), L.zd, L.zc, L.zl⟩, hf⟩
end
theorem box_fill {w : World} {g : Nat} {A : Option Addr} {n c : Nat} {a b : Int} (h : Hold w g 41 [.slice A n c,.int .i64 a,.int .i64 b]) (x y z : Value) :
 Box g w (((w.setCell ⟨g, 0, none⟩ x).setCell ⟨g, 1, none⟩ y).setCell ⟨g, 2, none⟩ z) ∧ Hold (((w.setCell ⟨g, 0, none⟩ x).setCell ⟨g, 1, none⟩ y).setCell ⟨g, 2, none⟩ z) g 41 [x, y, z] := by
 have k1 := ((((Keeps.refl (fun j => j = g) w).setCell (p := ⟨g, 0, none⟩) (.inl rfl) x).setCell (p := ⟨g, 1, none⟩) (.inl rfl) y).setCell (p := ⟨g, 2, none⟩) (.inl rfl) z)
 exact ⟨⟨k1, ⟨A, n, c, a, b, h⟩⟩, hold_put (hold_put (hold_put h 0 x) 1 y) 2 z⟩
section
variable {f : Func} {p u a : Tmp} {w : World} {x y z : Value}
theorem res_one (h : f.results = #[.cell p 41]) (tmps : Array Value) (g : Nat) (hp : tmps.getD p undef = .pointer (some ⟨g, 0, none⟩)) (hh : Hold w g 41 [x, y, z]) : (results f tmps).run Tryz.prog w = .ok (.agg #[x, y, z]) w :=
 results_cell_row h tmps w g 41 #[x, y, z] (0, 0) _ hp hh Tryz.underlying41 rfl (by kernel_rfl)
theorem res_two (h : f.results = #[.cell p 41, .tmp u]) (tmps : Array Value) (g : Nat) (hp : tmps.getD p undef = .pointer (some ⟨g, 0, none⟩)) (hh : Hold w g 41 [x, y, z]) : (results f tmps).run Tryz.prog w = .ok (.tuple #[.agg #[x, y, z], tmps.getD u undef]) w := by
 have hp' : tmps[p]?.getD undef = .pointer (some ⟨g, 0, none⟩) := by simpa using hp
 have hh' : w.heap[g]? = some (.cells #[x, y, z] 41 (0, 0)) := hh
 simp [results, h, hp', asAddr, run_loadVar_row w g 41 41 #[x, y, z] (0, 0) _ hh' Tryz.underlying41 rfl (by kernel_rfl), Result.andThen]
theorem res_three (h : f.results = #[.tmp a, .cell p 41, .tmp u]) (tmps : Array Value) (g : Nat) (hp : tmps.getD p undef = .pointer (some ⟨g, 0, none⟩)) (hh : Hold w g 41 [x, y, z]) : (results f tmps).run Tryz.prog w = .ok (.tuple #[tmps.getD a undef,.agg #[x, y, z], tmps.getD u undef]) w := by
 have hp' : tmps[p]?.getD undef = .pointer (some ⟨g, 0, none⟩) := by simpa using hp
 have hh' : w.heap[g]? = some (.cells #[x, y, z] 41 (0, 0)) := hh
 simp [results, h, hp', asAddr, run_loadVar_row w g 41 41 #[x, y, z] (0, 0) _ hh' Tryz.underlying41 rfl (by kernel_rfl), Result.andThen]
end
end Bx
end Go.Proofs.YtdachohcjpjblaaGreatDoor
