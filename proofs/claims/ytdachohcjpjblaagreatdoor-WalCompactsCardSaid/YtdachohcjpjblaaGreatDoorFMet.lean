/- Contracts of a log's methods: All, Sync, Synced, Open; no conditions but those that they name. -/
import Derived.Test.YtdachohcjpjblaaGreatDoorFLog
import Derived.Test.YtdachohcjpjblaaGreatDoorFFrs
set_option maxHeartbeats 8000000
set_option maxRecDepth 100000
namespace Go.Proofs.YtdachohcjpjblaaGreatDoor
open Go.ChangeShapes Go.WideShapes Go.ChangeAt Go.RowKit
open Di (Keeps In below_on below_new)
open Wi (Hold)
def OutN (F : Nat → Prop) (w : World) (v : Value) (n : Nat) : Prop := 0 < n → Out F w v
theorem rowN_keepsN {k : Nat} {w w' : World} {v : Value} {n : Nat} {xs : List Value} {F : Nat → Prop} (h : Wi.RowN k w v n xs) (ho : OutN F w v n) (hb : Keeps F w w') : Wi.RowN k w' v n xs := by
 rcases Nat.eq_zero_or_pos n with h0 | h0
 ·obtain ⟨hl, A, c, e, hc, _⟩ := h
  exact ⟨hl, A, c, e, hc, fun h1 => absurd h1 (by omega)⟩
 ·exact rowN_keeps h (ho h0) hb
def OutT (F : Nat → Prop) (w : World) (y : Rv) : Prop := OutN F w y.va y.r.c.rs.length ∧ OutN F w y.vb y.r.c.ws.length
theorem OutT.of {F : Nat → Prop} {w : World} {y : Rv} (h : Out F w y.va ∧ Out F w y.vb) : OutT F w y := ⟨fun _ => h.1, fun _ => h.2⟩
theorem OutT.step {F F' : Nat → Prop} {w w' : World} {y : Rv} (h : OutT F w y) (hs : w.heap.size ≤ w'.heap.size) (hF : ∀ x, F' x → F x ∨ w.heap.size ≤ x) : OutT F' w' y := ⟨fun h0 => (h.1 h0).step hs hF, fun h0 => (h.2 h0).step hs hF⟩
structure Rws (F : Nat → Prop) (w : World) (v : Value) (Y : List Rv) : Prop where
 rows : Rows w v Y
 ov : OutN F w v Y.length
 ot : ∀ y ∈ Y, OutT F w y
theorem txt_keeps {w w' : World} {F : Nat → Prop} {x : Rv} (h : Txt w x) (k : Keeps F w w') (ho : Out F w x.va ∧ Out F w x.vb) : Txt w' x := ⟨rowN_keeps h.rs ho.1 k, rowN_keeps h.ws ho.2 k⟩
theorem txt_keepsN {w w' : World} {F : Nat → Prop} {x : Rv} (h : Txt w x) (k : Keeps F w w') (ho : OutT F w x) : Txt w' x := ⟨rowN_keepsN h.rs ho.1 k, rowN_keepsN h.ws ho.2 k⟩
theorem Rws.step {F F' : Nat → Prop} {w w' : World} {v : Value} {Y : List Rv} (h : Rws F w v Y) (k : Keeps F w w') (g : Di.Grew F F' w w') : Rws F' w' v Y :=
 ⟨⟨rowN_keepsN h.rows.row h.ov k, fun y hy => txt_keepsN (h.rows.tx y hy) k (h.ot y hy)⟩, fun h0 => (h.ov h0).step k.size g.1, fun y hy => (h.ot y hy).step k.size g.1⟩
theorem Rws.below {F : Nat → Prop} {w w' : World} {v : Value} {Y : List Rv} (h : Rws F w v Y) (k : Below w.heap.size w w') : Rws F w' v Y :=
 ⟨h.rows.below k, fun h0 => (h.ov h0).below k.size, fun y hy => (h.ot y hy).step k.size (fun _ f => .inl f)⟩
theorem OwnX.rws {F : Nat → Prop} {w : World} {B : Nat} {v : Value} {Y : List Rv} (h : OwnX w B v Y) (hF : ∀ x, F x → x < B) : Rws F w v Y :=
 ⟨⟨Wi.RowN.of_owns h.row, fun y hy => ⟨by obtain ⟨_, _, q⟩ := h.rs y hy; exact Wi.RowN.of_owns q, by obtain ⟨_, _, q⟩ := h.ws y hy; exact Wi.RowN.of_owns q⟩⟩, fun _ => Out.of_owns h.row hF, fun y hy => .of ⟨by
  obtain ⟨B', hB, q⟩ := h.rs y hy; exact Out.of_owns q (fun x f => Nat.lt_of_lt_of_le (hF x f) hB), by
  obtain ⟨B', hB, q⟩ := h.ws y hy; exact Out.of_owns q (fun x f => Nat.lt_of_lt_of_le (hF x f) hB)⟩⟩
theorem outN_of {k : Nat} {w : World} {v : Value} {n : Nat} {xs : List Value} {F : Nat → Prop} (h : Wi.RowN k w v n xs) (hF : ∀ x, F x → w.heap.size ≤ x) : OutN F w v n := fun h0 b e => by
 obtain ⟨hl, A, c, rfl, hc, hx⟩ := h
 obtain ⟨b', o, rfl, hlt, _⟩ := hx h0
 cases e
 exact ⟨fun f => absurd hlt (Nat.not_lt.2 (hF _ f)), hlt⟩
theorem Rows.rws {F : Nat → Prop} {w : World} {v : Value} {Y : List Rv} (h : Rows w v Y) (hF : ∀ x, F x → w.heap.size ≤ x) : Rws F w v Y :=
 ⟨h, outN_of h.row hF, fun y hy => ⟨outN_of (h.tx y hy).rs hF, outN_of (h.tx y hy).ws hF⟩⟩
section
variable {w w' : World} {gl gd gc : Nat} {F Fd Fc Fd' Fc' : Nat → Prop} {s s' : Di.M.St} {X X' : List Rv} {rest rest' : Int} {A A' : Option Addr} {c c' : Nat} {vr ve vr' ve' : Value} {gm gm' : Nat}
theorem logs_disk (L : Lg w gl gd gc Fd Fc s X rest A c vr ve gm) (hF : ∀ x, F x ↔ Fd x ∨ Fc x ∨ x = gl) (hd : Di.Disk w' gd Fd' s') (k : Keeps Fd w w') (g : Di.Grew Fd Fd' w w') : Logs w gl gd F s' w' :=
 ⟨fun x => Fd' x ∨ Fc x ∨ x = gl, ⟨gc, Fd', Fc, X, rest, A, c, vr, ve, gm, L.disk hd k g, fun _ => Iff.rfl⟩, k.wide (fun x _ f => (hF x).2 (.inl f)), fun x f => by
  rcases f with f | f
  ·exact (g.1 x f).imp (fun e => (hF x).2 (.inl e)) id
  ·exact .inl ((hF x).2 (.inr f)), (L.disk hd k g).f_lt⟩
theorem logs_read (hF : ∀ x, F x ↔ Fd x ∨ Fc x ∨ x = gl) (L : Lg w' gl gd gc Fd Fc' s X' rest' A' c' vr' ve' gm') (k : Keeps Fc w w') (g : Di.Grew Fc Fc' w w') : Logs w gl gd F s w' :=
 ⟨fun x => Fd x ∨ Fc' x ∨ x = gl, ⟨gc, Fd, Fc', X', rest', A', c', vr', ve', gm', L, fun _ => Iff.rfl⟩, k.wide (fun x _ f => (hF x).2 (.inr (.inl f))), fun x f => by
  rcases f with f | f | f
  ·exact .inl ((hF x).2 (.inl f))
  ·exact (g.1 x f).imp (fun e => (hF x).2 (.inr (.inl e))) id
  ·exact .inl ((hF x).2 (.inr (.inr f))), L.f_lt⟩
end
theorem Lg.mod {w : World} {gl gd gc : Nat} {Fd Fc : Nat → Prop} {s : Di.M.St} {X : List Rv} {rest : Int} {A : Option Addr} {c : Nat} {vr ve : Value} {gm : Nat} (h : Lg w gl gd gc Fd Fc s X rest A c vr ve gm) : ∀ x ∈ X, Wi.M.Mod x.r.c := fun x hx => Wi.M.tiny_mod (K.tiny (h.ct.tx x hx).rg)
theorem Lg.count {w : World} {gl gd gc : Nat} {Fd Fc : Nat → Prop} {s : Di.M.St} {X : List Rv} {rest : Int} {A : Option Addr} {c : Nat} {vr ve : Value} {gm : Nat} (h : Lg w gl gd gc Fd Fc s X rest A c vr ve gm) : X.length ≤ 100000 := by
 have h1 := h.ct.rg.count
 have := h.sz
 rw [rcs_len] at h1
 omega
def Alls (w : World) (gl gd : Nat) (F : Nat → Prop) (s : Di.M.St) (e : Ending) (w' : World) : Prop := ∃ v Y F', e = .returned v ∧ rcs Y = K.rd s.bs ∧ Rws F' w' v Y ∧ Log w' gl gd F' s ∧ Keeps F w w' ∧ Di.Grew F F' w w'
theorem all_any {w : World} {gl gd : Nat} {F : Nat → Prop} {s : Di.M.St} (h : Log w gl gd F s) (hs : s.bs.length ≤ 100000) : Calls Tryz.prog 15 #[.pointer (some ⟨gl, 0, none⟩)] w (Alls w gl gd F s) := by
 obtain ⟨gc, Fd, Fc, X, rest, A, c, vr, ve, gm, L, hF⟩ := h
 have HL := Lib.hid L
 have HF := Lib.hid hF
 clear L hF
 go_enter Tryz.func15, Tryz.ntmps15
 go_wp2_with (fail)
 refine (look_any HL.out hs).mono ?_
 rintro e w1 ⟨rfl, Fc1, X1, A1, c1, vr1, ve1, hX, L1, k1, g1, -⟩
 have c0 := hold_cell L1.ct.blk 0 rfl
 have HL1 := Lib.hid L1
 have HX := Lib.hid hX
 have HG := Lib.hid (logs_read HF.out L1 k1 g1)
 have HW := Lib.hid (within_any (m := ((K.fb (rcs X1)).length : Int)) L1.ct.blk L1.ct.row (by have := L1.ct.ends; rwa [K.ends_len, rcs_len] at this) (fun x hx => ⟨(L1.ct.tx x hx).rs, (L1.ct.tx x hx).ws⟩) L1.mod (by omega) L1.count)
 clear hX k1 g1 L1
 generalize (K.fb (rcs X1)).length = q at *
 go_wp2_with (fail)
 refine HW.out.mono ?_
 rintro e w2 ⟨v, Y, rfl, hY, hO, hb⟩
 have HG2 := Lib.hid (HG.out.below hb)
 have HO := Lib.hid hO
 have HY := Lib.hid (hY.trans HX.out)
 have HB := Lib.hid hb
 clear hY hO hb
 go_wp2
 go_ret
 obtain ⟨F', a, k, g⟩ := HG.out
 exact ⟨v, Y, F', rfl, HY.out, HO.out.rws a.lt, a.below HB.out, k.on HB.out, g.1, fun x f => Nat.lt_of_lt_of_le (g.2 x f) HB.out.size⟩
theorem syncL_any {w : World} {gl gd : Nat} {F : Nat → Prop} {s : Di.M.St} (h : Log w gl gd F s) : Calls Tryz.prog 28 #[.pointer (some ⟨gl, 0, none⟩)] w fun e w' => e = .returned (.tuple #[]) ∧ Logs w gl gd F (Di.M.syn s) w' := by
 obtain ⟨gc, Fd, Fc, X, rest, A, c, vr, ve, gm, L, hF⟩ := h
 have HL := Lib.hid L
 have HF := Lib.hid hF
 clear L hF
 go_enter Tryz.func28, Tryz.ntmps28
 go_wp2_with (fail)
 refine (diskL_any HL.out.blk).mono ?_
 rintro e w1 ⟨rfl, rfl⟩
 go_wp2_with (fail)
 refine (Di.sync_any HL.out.dk).mono ?_
 rintro e w2 ⟨rfl, Fd', d, k, g⟩
 have HG := Lib.hid (logs_disk HL.out HF.out d k g)
 clear d k g
 go_wp2
 refine bodyPost_end (v := .tuple #[]) (by simp [results, Tryz.results28]) rfl ?_
 exact ⟨rfl, HG.out⟩
theorem syncedL_any {w : World} {gl gd : Nat} {F : Nat → Prop} {s : Di.M.St} (h : Log w gl gd F s) : Calls Tryz.prog 22 #[.pointer (some ⟨gl, 0, none⟩)] w fun e w' => e = .returned (.bool (decide (s.k = s.bs.length))) ∧ Below w.heap.size w w' := by
 obtain ⟨gc, Fd, Fc, X, rest, A, c, vr, ve, gm, L, hF⟩ := h
 have HL := Lib.hid L
 have HD := Lib.hid (show ((s.k : Int) == (s.bs.length : Int)) = decide (s.k = s.bs.length) by rw [Bool.eq_iff_iff, beq_iff_eq, decide_eq_true_iff]; omega)
 clear L hF
 go_enter Tryz.func22, Tryz.ntmps22
 go_wp2_with (fail)
 refine (diskL_any HL.out.blk).mono ?_
 rintro e w1 ⟨rfl, rfl⟩
 go_wp2_with (fail)
 refine (Di.safe_any HL.out.dk).mono ?_
 rintro e w1 ⟨rfl, rfl⟩
 go_wp2_with (fail)
 refine (Di.bytes_any HL.out.dk).mono ?_
 rintro e w2 ⟨rfl, hB, hb⟩
 have HB := Lib.hid hb
 clear hB hb
 go_wp2
 go_ret
 exact ⟨by rw [← HD.out]; rfl, HB.out⟩
def K.opn (s : Di.M.St) : Di.M.St := ⟨s.z, K.fb (K.rd s.bs), min s.k (K.fb (K.rd s.bs)).length⟩
def Opens (w : World) (gd : Nat) (Fd : Nat → Prop) (s : Di.M.St) (e : Ending) (w' : World) : Prop := ∃ gl F', e = .returned (.tuple #[.pointer (some ⟨gl, 0, none⟩),.int .i64 0]) ∧ Log w' gl gd F' (K.opn s) ∧ Keeps Fd w w' ∧ Di.Grew Fd F' w w'
def OpenW (w : World) (gd : Nat) : World := ((w.alloc (.map #[] 0)).alloc (.cells #[.slice none 0 0,.int .i64 0,.slice none 0 0,.slice none 0 0, .map (some w.heap.size)] 86)).alloc (.cells #[.pointer (some ⟨gd, 0, none⟩),.pointer (some ⟨w.heap.size + 1, 0, none⟩)] 88)
theorem openW_below (w : World) (gd : Nat) : Below w.heap.size w (OpenW w gd) := below_new (below_new (below_new (Below.refl _ _)))
theorem openW_size (w : World) (gd : Nat) : (OpenW w gd).heap.size = w.heap.size + 3 := by unfold OpenW; simp
theorem openW_lg {w : World} {gd : Nat} {Fd : Nat → Prop} {s : Di.M.St} (h : Di.Disk w gd Fd s) (hT : Fr.Tab w) (hz : ¬ Fd 0) : Lg (OpenW w gd) (w.heap.size + 2) gd (w.heap.size + 1) Fd (fun x => x = w.heap.size ∨ x = w.heap.size + 1) s [] 0 none 0 (.slice none 0 0) (.slice none 0 0) w.heap.size := by
 have hb := openW_below w gd
 have hs := openW_size w gd
 have b2 : (OpenW w gd).heap[w.heap.size + 2]? = some (.cells #[.pointer (some ⟨gd, 0, none⟩),.pointer (some ⟨w.heap.size + 1, 0, none⟩)] 88 (0, 0)) := by
  have := heap_alloc_new ((w.alloc (.map #[] 0)).alloc (.cells #[.slice none 0 0,.int .i64 0,.slice none 0 0,.slice none 0 0, .map (some w.heap.size)] 86)) (.cells #[.pointer (some ⟨gd, 0, none⟩),.pointer (some ⟨w.heap.size + 1, 0, none⟩)] 88)
  simpa [OpenW] using this
 have b1 : (OpenW w gd).heap[w.heap.size + 1]? = some (.cells #[.slice none 0 0,.int .i64 0,.slice none 0 0,.slice none 0 0, .map (some w.heap.size)] 86 (0, 0)) := by
  have h1 := heap_alloc_new (w.alloc (.map #[] 0)) (.cells #[.slice none 0 0,.int .i64 0,.slice none 0 0,.slice none 0 0, .map (some w.heap.size)] 86)
  have h2 := Below.heap_alloc ((w.alloc (.map #[] 0)).alloc (.cells #[.slice none 0 0,.int .i64 0,.slice none 0 0,.slice none 0 0, .map (some w.heap.size)] 86)) (.cells #[.pointer (some ⟨gd, 0, none⟩),.pointer (some ⟨w.heap.size + 1, 0, none⟩)] 88) (w.heap.size + 1) (by simp)
  rw [show (w.alloc (.map #[] 0)).heap.size = w.heap.size + 1 by simp] at h1
  exact h2.trans h1
 have b0 : MapIs (OpenW w gd) w.heap.size [] := (MapIs.new w).keeps (F := fun _ => False) (Keeps.of_below (below_new (below_new (Below.refl _ _)))) id
 have mt : ∀ {P : Rv → Prop}, ∀ x ∈ ([] : List Rv), P x := fun _ hx => (List.not_mem_nil hx).elim
 exact ⟨b2, h.below hb, ⟨b1, World.ownsRow_nil _ _ _ _, World.ownsRow_nil _ _ _ _, b0, mt, fun p hp => (List.not_mem_nil hp).elim, .inr rfl, .inl rfl, fun b e => (by cases e), fun b e => (by cases e), fun x f => by rcases f with rfl | rfl <;> omega⟩, Fr.Bts.nil _ _ _, Out.nil _ _ _ _, mt,
  fun x f f' => by have := h.lt x f; rcases f' with rfl | rfl <;> omega, fun f => by have := h.lt _ f; omega, fun f => by rcases f with f | f <;> omega, by simp [rcs_nil, K.fb_nil], hT.below hb, hz, fun f => by have := hT.1; rcases f with f | f <;> omega, by omega⟩
theorem open_any {w : World} {gd : Nat} {Fd : Nat → Prop} {s : Di.M.St} (h : Di.Disk w gd Fd s) (hT : Fr.Tab w) (hz : ¬ Fd 0) (hs : s.bs.length ≤ 100000) : Calls Tryz.prog 12 #[.pointer (some ⟨gd, 0, none⟩)] w (Opens w gd Fd s) := by
 have HL := Lib.hid (openW_lg h hT hz)
 have HB := Lib.hid (openW_below w gd)
 have HD := Lib.hid h.lt
 have HK := Lib.hid (look_any HL.out hs)
 have HS := Lib.hid (openW_size w gd)
 unfold OpenW at HK HS
 clear h hT hz
 have hmm := @run_makeMap Tryz.prog
 go_enter Tryz.func12, Tryz.ntmps12
 go_wp2_with (fail)
 refine HK.out.mono ?_
 rintro e w1 ⟨rfl, Fc1, X1, A1, c1, vr1, ve1, hX, L1, k1, g1, -⟩
 have c0 := hold_cell L1.ct.blk 0 rfl
 have HL1 := Lib.hid L1
 have HX := Lib.hid hX
 have HK1 := Lib.hid k1
 have HG1 := Lib.hid g1
 have HLE := Lib.hid (show (K.fb (rcs X1)).length ≤ s.bs.length by rw [hX]; exact K.rd_len _)
 clear hX k1 g1 L1 HK
 generalize hq : (K.fb (rcs X1)).length = q at *
 have HQ := Lib.hid hq
 clear hq
 go_wp2_with (fail)
 refine (Di.cutD_any HL1.out.dk _).mono ?_
 rintro e w2 ⟨rfl, Fd2, d, k2, g2⟩
 have hc : Di.M.cut (q : Int) s = K.opn s := by
  have hqq : (K.fb (K.rd s.bs)).length = q := by rw [← HX.out]; exact HQ.out
  have h1 := K.rd_take s.bs
  rw [hqq] at h1
  unfold Di.M.cut K.opn
  rw [if_pos ⟨by omega, by have := HLE.out; omega⟩, hqq, Int.toNat_natCast, h1]
 rw [hc] at d
 have HF := Lib.hid (logs_disk (F := fun x => Fd x ∨ Fc1 x ∨ x = w.heap.size + 2) HL1.out (fun _ => Iff.rfl) d k2 g2)
 clear hc d k2 g2
 go_wp2
 go_ret2
 obtain ⟨F', a, k, g⟩ := HF.out
 have hsz := HS.out
 have hk1 := HK1.out.size
 refine ⟨w.heap.size + 2, F', rfl, a, ?_, ?_, g.2⟩
 ·refine ((Keeps.of_below HB.out).trans HK1.out (fun x hx f => ?_)).trans k (fun x hx f => ?_)
  ·rcases f with rfl | rfl <;> omega
  ·rcases f with f | f | f
   ·exact f
   ·rcases HG1.out.1 x f with (f | f) | f
    ·omega
    ·omega
    ·exact absurd hx (by have := openW_size w gd; unfold OpenW at *; omega)
   ·omega
 ·intro x f
  rcases g.1 x f with (f | f | f) | f
  ·exact .inl f
  ·rcases HG1.out.1 x f with (f | f) | f
   ·exact .inr (by omega)
   ·exact .inr (by omega)
   ·exact .inr (Nat.le_trans HB.out.size f)
  ·exact .inr (by omega)
  ·exact .inr (Nat.le_trans HB.out.size (Nat.le_trans hk1 f))
end Go.Proofs.YtdachohcjpjblaaGreatDoor
