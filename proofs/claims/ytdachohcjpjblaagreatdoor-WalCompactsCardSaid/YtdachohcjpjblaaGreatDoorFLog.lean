/- A log in memory: its block, its disk, what it has read; contracts of look and of what asks for the disk; no conditions but those that they name. -/
import Derived.Test.YtdachohcjpjblaaGreatDoorFFol
import Derived.Test.YtdachohcjpjblaaGreatDoorFWit
set_option maxHeartbeats 8000000
set_option maxRecDepth 100000
namespace Go.Proofs.YtdachohcjpjblaaGreatDoor
open Go.ChangeShapes Go.WideShapes Go.ChangeAt Go.RowKit
open Di (Keeps In below_on below_new)
open Wi (Hold)
structure Lg (w : World) (gl gd gc : Nat) (Fd Fc : Nat → Prop) (s : Di.M.St) (X : List Rv) (rest : Int) (A : Option Addr) (c : Nat) (vr ve : Value) (gm : Nat) : Prop where
 blk : Hold w gl 88 [.pointer (some ⟨gd, 0, none⟩),.pointer (some ⟨gc, 0, none⟩)]
 dk : Di.Disk w gd Fd s
 ct : Cts w gc Fc X rest (.slice A (K.fb (rcs X)).length c) vr ve gm
 fr : Fr.Bts w (.slice A (K.fb (rcs X)).length c) (K.fb (rcs X))
 fo : Out (fun x => Fd x ∨ Fc x) w (.slice A (K.fb (rcs X)).length c)
 txd : ∀ x ∈ X, Out Fd w x.va ∧ Out Fd w x.vb
 ap : ∀ x, Fd x → ¬ Fc x
 nd : ¬ Fd gl
 nc : ¬ Fc gl
 sz : (K.fb (rcs X)).length ≤ 100000
 tab : Fr.Tab w
 zd : ¬ Fd 0
 zc : ¬ Fc 0
 zl : gl ≠ 0
def Log (w : World) (gl gd : Nat) (F : Nat → Prop) (s : Di.M.St) : Prop := ∃ gc Fd Fc X rest A c vr ve gm, Lg w gl gd gc Fd Fc s X rest A c vr ve gm ∧ ∀ x, F x ↔ Fd x ∨ Fc x ∨ x = gl
theorem Out.sub {F G : Nat → Prop} {w : World} {v : Value} (h : Out F w v) (hG : ∀ x, G x → F x) : Out G w v := fun b e => ⟨fun g => (h b e).1 (hG b g), (h b e).2⟩
theorem Out.below {F : Nat → Prop} {w w' : World} {v : Value} (h : Out F w v) (hs : w.heap.size ≤ w'.heap.size) : Out F w' v := fun b e => ⟨(h b e).1, Nat.lt_of_lt_of_le (h b e).2 hs⟩
theorem Lg.keeps {w w' : World} {gl gd gc : Nat} {Fd Fc G : Nat → Prop} {s : Di.M.St} {X : List Rv} {rest : Int} {A : Option Addr} {c : Nat} {vr ve : Value} {gm : Nat} (h : Lg w gl gd gc Fd Fc s X rest A c vr ve gm) (k : Keeps G w w') (h1 : ∀ x, Fd x → ¬ G x) (h2 : ∀ x, Fc x → ¬ G x) (h3 : ¬ G gl) (h0 : ¬ G 0)
 (hx : ∀ x ∈ X, Out G w x.va ∧ Out G w x.vb) (hf : Out G w (.slice A (K.fb (rcs X)).length c)) : Lg w' gl gd gc Fd Fc s X rest A c vr ve gm :=
 ⟨hold_keeps h.blk k h3, h.dk.keeps k h1, Ct.turn h.ct k h2 (fun b hb hF hG x hx' => by
  have hxm : x ∈ X := hx'.elim id (fun ⟨q, hq⟩ => (cur_mem X _ hq).1)
  exact ⟨fun e => ((hx x hxm).1 b e).1 hG, fun e => ((hx x hxm).2 b e).1 hG⟩), bts_keeps h.fr k hf, h.fo.below k.size, fun x hx' => ⟨(h.txd x hx').1.below k.size, (h.txd x hx').2.below k.size⟩, h.ap, h.nd, h.nc, h.sz, tab_keeps h.tab k h0, h.zd, h.zc, h.zl⟩
theorem out_false {w : World} {v : Value} {F : Nat → Prop} (h : Out F w v) : Out (fun _ => False) w v := fun b e => ⟨id, (h b e).2⟩
theorem Lg.below {w w' : World} {gl gd gc : Nat} {Fd Fc : Nat → Prop} {s : Di.M.St} {X : List Rv} {rest : Int} {A : Option Addr} {c : Nat} {vr ve : Value} {gm : Nat} (h : Lg w gl gd gc Fd Fc s X rest A c vr ve gm) (k : Below w.heap.size w w') : Lg w' gl gd gc Fd Fc s X rest A c vr ve gm :=
 h.keeps (G := fun _ => False) (Keeps.of_below k) (fun _ _ e => e) (fun _ _ e => e) id id (fun x hx => ⟨out_false (h.txd x hx).1, out_false (h.txd x hx).2⟩) (out_false h.fo)
theorem Lg.disk {w w' : World} {gl gd gc : Nat} {Fd Fc Fd' : Nat → Prop} {s s' : Di.M.St} {X : List Rv} {rest : Int} {A : Option Addr} {c : Nat} {vr ve : Value} {gm : Nat} (h : Lg w gl gd gc Fd Fc s X rest A c vr ve gm) (hd : Di.Disk w' gd Fd' s') (k : Keeps Fd w w') (g : Di.Grew Fd Fd' w w') : Lg w' gl gd gc Fd' Fc s' X rest A c vr ve gm :=
 ⟨hold_keeps h.blk k h.nd, hd, Ct.turn h.ct k (fun x f f' => h.ap x f' f) (fun b hb hF hG x hx' => by
  have hxm : x ∈ X := hx'.elim id (fun ⟨q, hq⟩ => (cur_mem X _ hq).1)
  exact ⟨fun e => ((h.txd x hxm).1 b e).1 hG, fun e => ((h.txd x hxm).2 b e).1 hG⟩), bts_keeps h.fr k (h.fo.sub fun x f => .inl f), h.fo.step k.size (fun x f => f.elim (fun f => (g.1 x f).imp .inl id) (fun f => .inl (.inr f))),
  fun x hx => ⟨(h.txd x hx).1.step k.size g.1, (h.txd x hx).2.step k.size g.1⟩, fun x f f' => (g.1 x f).elim (fun f => h.ap x f f') (fun e => by have := h.ct.lt x f'; omega), fun f => (g.1 _ f).elim h.nd (fun e => by have := hold_lt h.blk; omega), h.nc, h.sz, tab_keeps h.tab k h.zd, fun f => (g.1 _ f).elim h.zd (fun e => by have := h.tab.1; omega), h.zc, h.zl⟩
theorem Lg.read {w w' : World} {gl gd gc : Nat} {Fd Fc Fc' : Nat → Prop} {s : Di.M.St} {X X' : List Rv} {rest rest' : Int} {A A' : Option Addr} {c c' : Nat} {vr ve vr' ve' : Value} {gm gm' : Nat} (h : Lg w gl gd gc Fd Fc s X rest A c vr ve gm) (k : Keeps Fc w w') (g : Di.Grew Fc Fc' w w')
 (ct : Cts w' gc Fc' X' rest' (.slice A' (K.fb (rcs X')).length c') vr' ve' gm') (fr : Fr.Bts w' (.slice A' (K.fb (rcs X')).length c') (K.fb (rcs X'))) (fo : Out (fun x => Fd x ∨ Fc' x) w' (.slice A' (K.fb (rcs X')).length c')) (tx : ∀ x ∈ X', Out Fd w' x.va ∧ Out Fd w' x.vb) (sz : (K.fb (rcs X')).length ≤ 100000) : Lg w' gl gd gc Fd Fc' s X' rest' A' c' vr' ve' gm' :=
 ⟨hold_keeps h.blk k h.nc, h.dk.keeps k h.ap, ct, fr, fo, tx, fun x f f' => (g.1 x f').elim (h.ap x f) (fun e => by have := h.dk.lt x f; omega), h.nd, fun f => (g.1 _ f).elim h.nc (fun e => by have := hold_lt h.blk; omega), sz, tab_keeps h.tab k h.zc, h.zd, fun f => (g.1 _ f).elim h.zc (fun e => by have := h.tab.1; omega), h.zl⟩
theorem Lg.f_lt {w : World} {gl gd gc : Nat} {Fd Fc : Nat → Prop} {s : Di.M.St} {X : List Rv} {rest : Int} {A : Option Addr} {c : Nat} {vr ve : Value} {gm : Nat} (h : Lg w gl gd gc Fd Fc s X rest A c vr ve gm) : ∀ x, (Fd x ∨ Fc x ∨ x = gl) → x < w.heap.size := fun x e => by
 rcases e with e | e | rfl
 ·exact h.dk.lt x e
 ·exact h.ct.lt x e
 ·exact hold_lt h.blk
theorem Log.lt {w : World} {gl gd : Nat} {F : Nat → Prop} {s : Di.M.St} (h : Log w gl gd F s) : ∀ x, F x → x < w.heap.size := by
 obtain ⟨gc, Fd, Fc, X, rest, A, c, vr, ve, gm, h, e⟩ := h
 exact fun x f => h.f_lt x ((e x).1 f)
theorem Log.below {w w' : World} {gl gd : Nat} {F : Nat → Prop} {s : Di.M.St} (h : Log w gl gd F s) (k : Below w.heap.size w w') : Log w' gl gd F s := by
 obtain ⟨gc, Fd, Fc, X, rest, A, c, vr, ve, gm, h, e⟩ := h
 exact ⟨gc, Fd, Fc, X, rest, A, c, vr, ve, gm, h.below k, e⟩
theorem Log.ok {w : World} {gl gd : Nat} {F : Nat → Prop} {s : Di.M.St} (h : Log w gl gd F s) : Di.M.Ok s := by
 obtain ⟨gc, Fd, Fc, X, rest, A, c, vr, ve, gm, h, e⟩ := h
 exact h.dk.ok
theorem Log.tab {w : World} {gl gd : Nat} {F : Nat → Prop} {s : Di.M.St} (h : Log w gl gd F s) : Fr.Tab w := by
 obtain ⟨gc, Fd, Fc, X, rest, A, c, vr, ve, gm, h, e⟩ := h
 exact h.tab
def Logs (w : World) (gl gd : Nat) (F : Nat → Prop) (s : Di.M.St) (w' : World) : Prop := ∃ F', Log w' gl gd F' s ∧ Keeps F w w' ∧ Di.Grew F F' w w'
theorem Logs.below {w w1 w' : World} {gl gd : Nat} {F : Nat → Prop} {s : Di.M.St} (h : Logs w gl gd F s w1) (k : Below w1.heap.size w1 w') : Logs w gl gd F s w' := by
 obtain ⟨F', a, b, g⟩ := h
 exact ⟨F', a.below k, b.on k, g.1, fun x f => Nat.lt_of_lt_of_le (g.2 x f) k.size⟩
theorem Logs.then {w w1 w' : World} {gl gd : Nat} {F F1 : Nat → Prop} {s : Di.M.St} (k : Keeps F w w1) (g : Di.Grew F F1 w w1) (h : Logs w1 gl gd F1 s w') : Logs w gl gd F s w' := by
 obtain ⟨F', a, b, g'⟩ := h
 exact ⟨F', a, k.trans b (fun x hx f => (g.1 x f).elim id (fun e => absurd hx (by omega))), fun x f => (g'.1 x f).elim (g.1 x) (fun e => .inr (Nat.le_trans k.size e)), g'.2⟩
theorem Logs.of {w : World} {gl gd : Nat} {F : Nat → Prop} {s : Di.M.St} {w' : World} (h : Log w gl gd F s) (k : Below w.heap.size w w') : Logs w gl gd F s w' := ⟨F, h.below k, Keeps.of_below k, fun _ e => .inl e, fun x f => Nat.lt_of_lt_of_le (h.lt x f) k.size⟩
def Looks (w : World) (gl gd gc gm : Nat) (Fd Fc : Nat → Prop) (s : Di.M.St) (X : List Rv) (w' : World) : Prop := ∃ Fc' X' A' c' vr' ve', rcs X' = K.rd s.bs ∧ Lg w' gl gd gc Fd Fc' s X' ((s.bs.length : Int) - (K.fb (K.rd s.bs)).length) A' c' vr' ve' gm ∧ Keeps Fc w w' ∧ Di.Grew Fc Fc' w w' ∧ (∀ x ∈ X', x ∈ X ∨ New w x) ∧ A' = some ⟨w.heap.size, 0, none⟩
theorem diskL_any {w : World} {gl gd gc : Nat} (h : Hold w gl 88 [.pointer (some ⟨gd, 0, none⟩),.pointer (some ⟨gc, 0, none⟩)]) : Calls Tryz.prog 20 #[.pointer (some ⟨gl, 0, none⟩)] w fun e w' => e = .returned (.pointer (some ⟨gd, 0, none⟩)) ∧ w = w' := by
 have c0 := hold_cell h 0 rfl
 clear h
 go_enter Tryz.func20, Tryz.ntmps20
 go_wp2
 go_ret
 exact ⟨rfl, rfl⟩
theorem look_fol {w w1 : World} {gl gd gc : Nat} {Fd Fc : Nat → Prop} {s : Di.M.St} {X : List Rv} {rest : Int} {A : Option Addr} {c : Nat} {vr ve : Value} {gm : Nat} (H : Hid (Lg w gl gd gc Fd Fc s X rest A c vr ve gm)) (B1 : Hid (Below w.heap.size w w1)) (HB1 : Hid (Di.Blk w1 w.heap.size s.bs)) (HS : Hid (s.bs.length ≤ 100000)) :
 Calls Tryz.prog 53 #[.pointer (some ⟨gc, 0, none⟩),.slice (some ⟨w.heap.size, 0, none⟩) s.bs.length s.bs.length] w1 fun e w' => e = .returned (.tuple #[]) ∧ Hid (Hold w' gl 88 [.pointer (some ⟨gd, 0, none⟩),.pointer (some ⟨gc, 0, none⟩)] ∧ Looks w gl gd gc gm Fd Fc s X w') := by
 have L1 := H.out.below B1.out
 have hu : Fr.Bts w1 (.slice (some ⟨w.heap.size, 0, none⟩) s.bs.length s.bs.length) s.bs := Di.Blk.bts HB1.out
 have hb1 : w.heap.size < w1.heap.size := HB1.out.lt
 have nd : ¬ Fd w.heap.size := fun f => by have := H.out.dk.lt _ f; omega
 have nc : ¬ Fc w.heap.size := fun f => by have := H.out.ct.lt _ f; omega
 refine (follow_any L1.tab L1.zc hu HS.out nc hb1 L1.ct L1.fr L1.sz).mono ?_
 rintro e w2 ⟨rfl, F2, X2, vr2, ve2, hX, hct, hk, hg, hnew⟩
 have hle := K.rd_len s.bs
 have hfr : Fr.Bts w2 (.slice (some ⟨w.heap.size, 0, none⟩) (K.fb (rcs X2)).length s.bs.length) (K.fb (rcs X2)) := by
  have h1 := hu.take (K.fb (K.rd s.bs)).length hle
  rw [K.rd_take] at h1
  rw [hX]
  exact bts_keeps h1 hk (fun b e => by cases e; exact ⟨nc, hb1⟩)
 refine ⟨rfl, ⟨hold_keeps L1.blk hk L1.nc, F2, X2, some ⟨w.heap.size, 0, none⟩, s.bs.length, vr2, ve2, hX, L1.read hk hg (by rw [hX]; exact hct) hfr ?_ ?_ (by rw [hX]; have := HS.out; omega), ?_, ?_, fun x hx => (hnew x hx).imp id (fun h => h.later B1.out.size), rfl⟩⟩
 ·intro b e
  cases e
  refine ⟨fun f => f.elim nd (fun f => (hg.1 _ f).elim nc (fun e => absurd hb1 (Nat.not_lt.2 e))), Nat.lt_of_lt_of_le hb1 hk.size⟩
 ·intro x hx
  rcases hnew x hx with hx' | hn
  ·exact ⟨(L1.txd x hx').1.below hk.size, (L1.txd x hx').2.below hk.size⟩
  ·exact hn.out L1.dk.lt (hct.tx x hx).oa (hct.tx x hx).ob
 ·exact (Keeps.of_below B1.out).trans hk (fun _ _ e => e)
 ·exact ⟨fun x f => (hg.1 x f).imp id (fun e => Nat.le_trans B1.out.size e), hg.2⟩
theorem look_any {w : World} {gl gd gc : Nat} {Fd Fc : Nat → Prop} {s : Di.M.St} {X : List Rv} {rest : Int} {A : Option Addr} {c : Nat} {vr ve : Value} {gm : Nat} (h : Lg w gl gd gc Fd Fc s X rest A c vr ve gm) (hs : s.bs.length ≤ 100000) :
 Calls Tryz.prog 36 #[.pointer (some ⟨gl, 0, none⟩)] w fun e w' => e = .returned (.pointer (some ⟨gc, 0, none⟩)) ∧ Looks w gl gd gc gm Fd Fc s X w' := by
 have c0 := hold_cell h.blk 0 rfl
 have c1 := hold_cell h.blk 1 rfl
 have H := Lib.hid h
 have HS := Lib.hid hs
 clear h hs
 go_enter Tryz.func36, Tryz.ntmps36
 go_wp2
 go_region_held3 (fun w' => w'.cell? ⟨gl, 0, none⟩ = some (.pointer (some ⟨gd, 0, none⟩)) ∧ w'.cell? ⟨gl, 1, none⟩ = some (.pointer (some ⟨gc, 0, none⟩))) (first | exact ⟨c0, c1⟩ | exact ⟨by assumption, by assumption⟩)
  (first
   | (go_at_call 16; refine Calls.mono (Di.bytes_any (H.out.dk.below (Below.refl _ _).drew)) ?_; rintro e w1 ⟨rfl, hB, hb⟩; have B1 := Lib.hid (show Below w.heap.size w w1 from (Below.refl _ _).drew.trans hb); have HB1 := Lib.hid hB; have x0 := hold_cell (H.out.blk.on B1.out) 0 rfl; have x1 := hold_cell (H.out.blk.on B1.out) 1 rfl; clear hB hb)
   | (go_at_call 53; refine Calls.mono (look_fol H B1 HB1 HS) ?_; rintro e w2 ⟨rfl, HL⟩; have x2 := hold_cell HL.out.1 0 rfl; have x3 := hold_cell HL.out.1 1 rfl))
 clear c0 x0 x1 x2
 go_wp2
 go_ret
 exact ⟨rfl, HL.out.2⟩
end Go.Proofs.YtdachohcjpjblaaGreatDoor
