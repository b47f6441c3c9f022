/- A step in both logs: the law's does; conditions: a log, the document's that agrees with it, a step's records that read. -/
import Derived.Test.YtdachohcjpjblaaGreatDoorFAgr
import Derived.Test.YtdachohcjpjblaaGreatDoorFRfc
import Derived.Test.YtdachohcjpjblaaGreatDoorFRfp
import Derived.Test.YtdachohcjpjblaaGreatDoorFBx
set_option maxHeartbeats 8000000
set_option maxRecDepth 100000
namespace Go.Proofs.YtdachohcjpjblaaGreatDoor
open Go.ChangeShapes Go.WideShapes Go.ChangeAt Go.RowKit
open Di (Keeps In below_on below_new)
open Wi (Hold)
namespace Ds
def Doesd (w : World) (gd : Nat) (F : Nat → Prop) (s : Di.M.St) (Y : List Rv) (e : Ending) (w' : World) : Prop := ∃ (gl : Nat) (F' : Nat → Prop) (s' : Di.M.St) (v : Value) (Y' : List Rv) (sf : Nat) (b : Bool),
 e = .returned (.tuple #[.pointer (some ⟨gl, 0, none⟩),.agg #[v,.int .i64 sf,.int .i64 s.z],.bool b]) ∧ Log w' gl gd F' s' ∧ Keeps F w w' ∧ Di.Grew F F' w w' ∧ Rws F' w' v Y' ∧ Ag.Agr s' (rcs Y') sf ∧ s'.z = s.z ∧ Y'.length ≤ Y.length + 4
theorem finish {w wz : World} {gl gd g : Nat} {F F' : Nat → Prop} {s s' : Di.M.St} {Y Y' : List Rv} {v : Value} {A : Option Addr} {n c : Nat} {a b : Int} {sf : Nat} (t : Bool) (hL : Log wz gl gd F' s') (hk : Keeps F w wz) (hg : Di.Grew F F' w wz) (hr : Rws F' wz v Y') (ha : Ag.Agr s' (rcs Y') sf) (hz : s'.z = s.z) (hy : Y'.length ≤ Y.length + 4)
 (hh : Hold wz g 41 [.slice A n c,.int .i64 a,.int .i64 b]) (h1 : w.heap.size ≤ g) (h2 : ¬ F' g) (h0 : 0 < w.heap.size) :
 Doesd w gd F s Y (.returned (.tuple #[.pointer (some ⟨gl, 0, none⟩),.agg #[v,.int .i64 sf,.int .i64 s.z],.bool t])) (((wz.setCell ⟨g, 0, none⟩ v).setCell ⟨g, 1, none⟩ (.int .i64 sf)).setCell ⟨g, 2, none⟩ (.int .i64 s.z)) := by
 obtain ⟨hb, -⟩ := Bx.box_fill hh v (.int .i64 sf) (.int .i64 s.z)
 exact ⟨gl, F', s', v, Y', sf, t, rfl, hb.log hL h2 (by omega), hk.trans hb.k (fun x hx e => by omega), ⟨hg.1, fun x f => Nat.lt_of_lt_of_le (hg.2 x f) hb.k.size⟩, hb.rws hr, ha, hz, hy⟩
theorem disk_log {w : World} {gl gd : Nat} {F : Nat → Prop} {s : Di.M.St} (h : Log w gl gd F s) : Calls Tryz.prog 20 #[.pointer (some ⟨gl, 0, none⟩)] w fun e w' => e = .returned (.pointer (some ⟨gd, 0, none⟩)) ∧ w = w' := by
 obtain ⟨gc, Fd, Fc, X, rest, A, c, vr, ve, gm, L, hF⟩ := h
 exact diskL_any L.blk
theorem crash_log {w : World} {gl gd : Nat} {F : Nat → Prop} {s : Di.M.St} (h : Log w gl gd F s) (keep pos : Int) (mask : UInt8) : Calls Tryz.prog 21 #[.pointer (some ⟨gd, 0, none⟩),.int .i64 keep,.int .i64 pos,.int .u8 (mask.toNat : Int)] w fun e w' => e = .returned (.tuple #[]) ∧ Logs w gl gd F (Di.M.crash keep pos mask s) w' := by
 obtain ⟨gc, Fd, Fc, X, rest, A, c, vr, ve, gm, L, hF⟩ := h
 refine (Di.crashD_any L.dk keep pos mask).mono ?_
 rintro e w' ⟨rfl, Fd', d, k, g⟩
 exact ⟨rfl, logs_disk L hF d k g⟩
theorem open_log {w : World} {gl gd : Nat} {F : Nat → Prop} {s : Di.M.St} (h : Log w gl gd F s) (hs : s.bs.length ≤ 100000) : Calls Tryz.prog 12 #[.pointer (some ⟨gd, 0, none⟩)] w fun e w' => ∃ gl', e = .returned (.tuple #[.pointer (some ⟨gl', 0, none⟩),.int .i64 0]) ∧ ∃ F', Log w' gl' gd F' (K.opn s) ∧ Keeps F w w' ∧ Di.Grew F F' w w' := by
 have hT := h.tab
 obtain ⟨Fd, hd, hsb, hz⟩ := h.parts
 refine (open_any hd hT hz hs).mono ?_
 rintro e w' ⟨gl', F', rfl, hL, hk, hg⟩
 exact ⟨gl', rfl, F', hL, Keeps.sub hk hsb, Grew.sub hg hsb⟩
theorem bytes_log {w : World} {gl gd : Nat} {F : Nat → Prop} {s : Di.M.St} (h : Log w gl gd F s) : Calls Tryz.prog 16 #[.pointer (some ⟨gd, 0, none⟩)] w (Di.Copied w s.bs) := by
 obtain ⟨Fd, hd, -, -⟩ := h.parts
 exact Di.bytes_any hd
theorem after {w W0 w1 : World} {F F1 : Nat → Prop} (hb0 : Below w.heap.size w W0) (hlt : ∀ x, F x → x < w.heap.size) (hk1 : Keeps F W0 w1) (hg1 : Di.Grew F F1 W0 w1) : Keeps F w w1 ∧ Di.Grew F F1 w w1 ∧ ∀ g, w.heap.size ≤ g → g < W0.heap.size → ¬ F1 g ∧ ¬ F g :=
 ⟨(Keeps.of_below hb0).trans hk1 (fun x _ f => f), ⟨fun x f => (hg1.1 x f).imp id (fun e => Nat.le_trans hb0.size e), hg1.2⟩, fun g h1 h2 => ⟨fun f => (hg1.1 g f).elim (fun f => by have := hlt g f; omega) (fun e => by omega), fun f => by have := hlt g f; omega⟩⟩
theorem grew_on {w w1 w2 : World} {F F1 : Nat → Prop} (g : Di.Grew F F1 w w1) (k : Below w1.heap.size w1 w2) : Di.Grew F F1 w w2 := ⟨g.1, fun x f => Nat.lt_of_lt_of_le (g.2 x f) k.size⟩
theorem step_store41 {ops : Array Oper} {o : Oper} {a : Act} {w : World} {K : Act → World → Prop} {Q : Exit → Act → World → Prop} {E : Prop} (hg : o.guard = none) (x z : Operand) (ho : o.op = .store 41 x z) (b : Nat) (Z : List Value) (v0 v1 v2 : Value) (hx : a.eval x = .pointer (some ⟨b, 0, none⟩)) (hy : a.eval z = .agg #[v0, v1, v2])
 (hh : Hold w b 41 Z) (hl : Z.length = 3) (h1 : ∀ u ∈ [v0, v1, v2], u.oneCell' = true) (hK : K (a.put o.dst undef) (((w.setCell ⟨b, 0, none⟩ v0).setCell ⟨b, 1, none⟩ v1).setCell ⟨b, 2, none⟩ v2)) : if Region.wanted o (yielded ops a.tmps) = true then Oper.wp Tryz.prog o a w K Q else E := by
 rw [if_pos (by simp [Region.wanted, hg])]
 exact wp_store_mid 41 x z ho b 0 #[v0, v1, v2] hx hy (hh.there (by rw [hl]; exact Nat.le_refl 3)) (by kernel_rfl) (all_oneCell_toArray h1) hK
theorem crash_len {s : Di.M.St} (h : Di.M.Ok s) (keep pos : Int) (mask : UInt8) : (Di.M.crash keep pos mask s).bs.length ≤ s.bs.length := by
 have h1 := Di.M.fell_len (keep := keep) (pos := pos) (mask := mask) h
 have h2 := Di.M.left_le keep s
 have h3 := h.2.2
 show (Di.M.fell keep pos mask s).length ≤ _
 omega
def Stands (w0 w : World) (gl gd br : Nat) (n k : Nat) (sf : Nat) (v : Value) : Prop := ∃ (F : Nat → Prop) (s : Di.M.St) (Y : List Rv), Log w gl gd F s ∧ (∀ x, F x → w0.heap.size ≤ x) ∧ ¬ F br ∧ Hold w br 41 [v,.int .i64 sf,.int .i64 n] ∧ Rws F w v Y ∧ Ag.Agr s (rcs Y) sf ∧ s.z = n ∧ Y.length ≤ 4 * k ∧ Below w0.heap.size w0 w
theorem does_any {w : World} {gl gd : Nat} {F : Nat → Prop} {s : Di.M.St} {v rv : Value} {Y X : List Rv} {sf : Nat} (vb n ps : Int) (msk : UInt8) (h : Log w gl gd F s) (hr : Rws F w v Y) (ha : Ag.Agr s (rcs Y) sf) (hd : Rws F w rv X) (hm : ∀ x ∈ X, Wi.M.Mod x.r.c) (hx : X.length ≤ 4) (hy : Y.length ≤ 116) :
 Calls Tryz.prog 19 #[.pointer (some ⟨gl, 0, none⟩),.agg #[v,.int .i64 sf,.int .i64 s.z],.agg #[.int .i64 vb,.int .i64 n,.int .i64 ps,.int .u8 (msk.toNat : Int), rv]] w (Doesd w gd F s Y) := by
 obtain ⟨A, c, rfl⟩ := rowN_sliceOf hr.rows.row
 obtain ⟨A2, c2, rfl⟩ := rowN_sliceOf hd.rows.row
 have hsm := ha.small
 rw [rcs_len] at hsm
 have hS : s.bs.length ≤ 100000 := by omega
 have hlt := h.lt
 have h0 := h.tab.1
 have hzm : s.z ≤ 1048576 := h.ok.2.1
 have hb0 : Below w.heap.size w (((w.alloc (.cells #[.slice A Y.length c,.int .i64 sf,.int .i64 s.z] 41)).alloc (.cells #[.int .i64 vb,.int .i64 n,.int .i64 ps,.int .u8 (msk.toNat : Int),.slice A2 X.length c2] 43)).alloc (.cells #[.slice none 0 0,.int .i64 0,.int .i64 0] 41)) := below_new (below_new (below_new (Below.refl _ _)))
 have HR := Lib.hid (hr.below hb0)
 have HD := Lib.hid (hd.below hb0)
 have HL := Lib.hid (h.below hb0)
 have HLT := Lib.hid hlt
 have HLW := Lib.hid h
 have HRW := Lib.hid hr
 have HOK := Lib.hid h.ok
 have HAG := Lib.hid ha
 have HM := Lib.hid hm
 have HB0 := Lib.hid hb0
 have HS := Lib.hid hS
 have H0 := Lib.hid h0
 have HRG := Lib.hid ha.rd.1.r'
 have HN := Lib.hid (show (K.rd s.bs).length ≤ 1000 by rw [ha.rd.1.n, rcs_len]; omega)
 have HA0 := Lib.hid (show Hold (((w.alloc (.cells #[.slice A Y.length c,.int .i64 sf,.int .i64 s.z] 41)).alloc (.cells #[.int .i64 vb,.int .i64 n,.int .i64 ps,.int .u8 (msk.toNat : Int),.slice A2 X.length c2] 43)).alloc (.cells #[.slice none 0 0,.int .i64 0,.int .i64 0] 41)) w.heap.size 41 [.slice A Y.length c,.int .i64 sf,.int .i64 s.z] from (Wi.Hold.new w [.slice A Y.length c,.int .i64 sf,.int .i64 s.z] 41).on (below_new (below_new (Below.refl _ _))))
 have HE0 := Lib.hid (show Hold (((w.alloc (.cells #[.slice A Y.length c,.int .i64 sf,.int .i64 s.z] 41)).alloc (.cells #[.int .i64 vb,.int .i64 n,.int .i64 ps,.int .u8 (msk.toNat : Int),.slice A2 X.length c2] 43)).alloc (.cells #[.slice none 0 0,.int .i64 0,.int .i64 0] 41)) (w.heap.size + 1) 43 [.int .i64 vb,.int .i64 n,.int .i64 ps,.int .u8 (msk.toNat : Int),.slice A2 X.length c2] from by
  have := (Wi.Hold.new (w.alloc (.cells #[.slice A Y.length c,.int .i64 sf,.int .i64 s.z] 41)) [.int .i64 vb,.int .i64 n,.int .i64 ps,.int .u8 (msk.toNat : Int),.slice A2 X.length c2] 43).on (below_new (o := .cells #[.slice none 0 0,.int .i64 0,.int .i64 0] 41) (Below.refl _ _))
  rw [show (w.alloc (.cells #[.slice A Y.length c,.int .i64 sf,.int .i64 s.z] 41)).heap.size = w.heap.size + 1 by simp] at this
  exact this)
 have HC0 := Lib.hid (show Hold (((w.alloc (.cells #[.slice A Y.length c,.int .i64 sf,.int .i64 s.z] 41)).alloc (.cells #[.int .i64 vb,.int .i64 n,.int .i64 ps,.int .u8 (msk.toNat : Int),.slice A2 X.length c2] 43)).alloc (.cells #[.slice none 0 0,.int .i64 0,.int .i64 0] 41)) (w.heap.size + 1 + 1) 41 [.slice none 0 0,.int .i64 0,.int .i64 0] from by
  have := Wi.Hold.new ((w.alloc (.cells #[.slice A Y.length c,.int .i64 sf,.int .i64 s.z] 41)).alloc (.cells #[.int .i64 vb,.int .i64 n,.int .i64 ps,.int .u8 (msk.toNat : Int),.slice A2 X.length c2] 43)) [.slice none 0 0,.int .i64 0,.int .i64 0] 41
  rw [show ((w.alloc (.cells #[.slice A Y.length c,.int .i64 sf,.int .i64 s.z] 41)).alloc (.cells #[.int .i64 vb,.int .i64 n,.int .i64 ps,.int .u8 (msk.toNat : Int),.slice A2 X.length c2] 43)).heap.size = w.heap.size + 1 + 1 by simp] at this
  exact this)
 have HS0 := Lib.hid (show ((((w.alloc (.cells #[.slice A Y.length c,.int .i64 sf,.int .i64 s.z] 41)).alloc (.cells #[.int .i64 vb,.int .i64 n,.int .i64 ps,.int .u8 (msk.toNat : Int),.slice A2 X.length c2] 43)).alloc (.cells #[.slice none 0 0,.int .i64 0,.int .i64 0] 41))).heap.size = w.heap.size + 3 by simp)
 clear h hr ha hd hm hsm hS hlt h0 hb0
 obtain ⟨W0, hW0⟩ : ∃ W0, W0 = (((w.alloc (.cells #[.slice A Y.length c,.int .i64 sf,.int .i64 s.z] 41)).alloc (.cells #[.int .i64 vb,.int .i64 n,.int .i64 ps,.int .u8 (msk.toNat : Int),.slice A2 X.length c2] 43)).alloc (.cells #[.slice none 0 0,.int .i64 0,.int .i64 0] 41)) := ⟨_, rfl⟩
 rw [← hW0] at HR HD HL HB0 HA0 HE0 HC0 HS0
 have NF := Lib.hid (show ∀ i, ¬ F (w.heap.size + i) from fun i f => by have := HLT.out _ f; omega)
 by_cases h0 : vb = 0
 ·subst h0
  have HAP := Lib.hid (Rf.append_ref (sf : Int) s.z HR.out HD.out (fun x f => Nat.lt_of_lt_of_le (HLT.out x f) HB0.out.size) HM.out HRG.out (by omega) (by omega))
  rw [hW0] at HAP
  go_enter Tryz.func19, Tryz.ntmps19
  go_wp2_with (fail)
  refine HAP.out.mono ?_
  rintro e w1 ⟨v1, Y1, E, rfl, hY1, hl1, hr1, hb1⟩
  rw [← hW0] at hb1
  obtain ⟨A1, c1, rfl⟩ := rowN_sliceOf hr1.rows.row
  have hbn : Below w1.heap.size w1 (w1.alloc (.cells #[.slice A1 Y1.length c1,.int .i64 sf,.int .i64 s.z] 41)) := below_new (Below.refl _ _)
  have hb2 := below_on hb1 hbn
  have HT9 := Lib.hid (show Hold (w1.alloc (.cells #[.slice A1 Y1.length c1,.int .i64 sf,.int .i64 s.z] 41)) w1.heap.size 41 [.slice A1 Y1.length c1,.int .i64 sf,.int .i64 s.z] from Wi.Hold.new w1 [.slice A1 Y1.length c1,.int .i64 sf,.int .i64 s.z] 41)
  have HR2 := Lib.hid (hr1.below hbn)
  have HX2 := Lib.hid (HD.out.below hb2)
  have HL2 := Lib.hid (HL.out.below hb2)
  have HC2 := Lib.hid (HC0.out.on hb2)
  have HE2 := Lib.hid (HE0.out.on hb2)
  have HB2 := Lib.hid (below_on HB0.out hb2)
  have HY1 := Lib.hid hY1
  have HL1 := Lib.hid hl1
  have HS9 := Lib.hid (show W0.heap.size ≤ w1.heap.size from hb1.size)
  clear hr1 hY1 hl1 hb1 hb2 hbn
  go_wp2
  generalize hW2 : w1.alloc (.cells #[.slice A1 Y1.length c1,.int .i64 sf,.int .i64 s.z] 41) = W2 at *
  have HS2 := Lib.hid (show W2.heap.size = w1.heap.size + 1 by rw [← hW2]; simp)
  clear hW2
  obtain ⟨Wd, hWd⟩ : ∃ Wd, Wd = W2.drew := ⟨_, rfl⟩
  have hbd : Below W2.heap.size W2 Wd := by rw [hWd]; exact (Below.refl _ _).drew
  have HLD := Lib.hid (HL2.out.below hbd)
  have HTD := Lib.hid (HT9.out.on hbd)
  have HED := Lib.hid (HE2.out.on hbd)
  have HCD := Lib.hid (HC2.out.on hbd)
  have HBD := Lib.hid (HB2.out.trans (hbd.mono HB2.out.size))
  have HAPL := Lib.hid (appendL_any HLD.out HAG.out.rd.2 (K.rd_rg _) HS.out (HX2.out.below hbd) HM.out (by omega))
  have HSC := Lib.hid (show ∀ W, Hold W w1.heap.size 41 [.slice A1 Y1.length c1,.int .i64 sf,.int .i64 s.z] → Hold W (w.heap.size + 1) 43 [.int .i64 0,.int .i64 n,.int .i64 ps,.int .u8 (msk.toNat : Int),.slice A2 X.length c2] → W.cell? ⟨w1.heap.size, 0, none⟩ = some (.slice A1 Y1.length c1) ∧ W.cell? ⟨w1.heap.size, 1, none⟩ = some (.int .i64 sf) ∧ W.cell? ⟨w1.heap.size, 2, none⟩ = some (.int .i64 s.z) ∧ W.cell? ⟨w.heap.size + 1, 4, none⟩ = some (.slice A2 X.length c2) from fun W a b => ⟨hold_cell a 0 rfl, hold_cell a 1 rfl, hold_cell a 2 rfl, hold_cell b 4 rfl⟩)
  have HRD := Lib.hid (HR2.out.below hbd)
  clear hbd
  refine wp_region_held_drew (S := fun w' => w'.cell? ⟨w1.heap.size, 0, none⟩ = some (.slice A1 Y1.length c1) ∧ w'.cell? ⟨w1.heap.size, 1, none⟩ = some (.int .i64 sf) ∧ w'.cell? ⟨w1.heap.size, 2, none⟩ = some (.int .i64 s.z) ∧ w'.cell? ⟨w.heap.size + 1, 4, none⟩ = some (.slice A2 X.length c2)) (by kernel_rfl) (by rw [← hWd]; exact HSC.out _ HTD.out HED.out) (fun hHeld => ?_)
  rw [← hWd] at hHeld ⊢
  clear hWd
  refine wpAnyH_take (i := 0) (v := ?_) rfl (by kernel_rfl) (by kernel_rfl) (by kernel_rfl) (fun _ _ _ h => h) (Or.inl ⟨by rfl, ?_⟩) (by assumption) ?_
  rotate_left
  ·(intro w hSw; (try dsimp only at hSw); go_split_ands; go_simp; (try with_reducible rfl))
  (try simp only [Act.put]); (try simp only [List.setIfInBounds_toArray]); (try simp only [List.set_cons_succ]); (try simp only [List.set_cons_zero])
  refine wpAnyH_take (i := 1) (v := ?_) rfl (by kernel_rfl) (by kernel_rfl) (by kernel_rfl) (fun _ _ _ h => h) (Or.inl ⟨by rfl, ?_⟩) (by assumption) ?_
  rotate_left
  ·(intro w hSw; (try dsimp only at hSw); go_split_ands; go_simp; (try with_reducible rfl))
  (try simp only [Act.put]); (try simp only [List.setIfInBounds_toArray]); (try simp only [List.set_cons_succ]); (try simp only [List.set_cons_zero])
  refine wpAnyH_take (i := 2) (v := ?_) rfl (by kernel_rfl) (by kernel_rfl) (by kernel_rfl) (fun _ _ _ h => h) (Or.inl ⟨by rfl, ?_⟩) (by assumption) ?_
  rotate_left
  ·(intro w hSw; (try dsimp only at hSw); go_split_ands; go_simp; (try with_reducible rfl))
  (try simp only [Act.put]); (try simp only [List.setIfInBounds_toArray]); (try simp only [List.set_cons_succ]); (try simp only [List.set_cons_zero])
  refine wpAnyH_take (i := 3) (v := ?_) rfl (by kernel_rfl) (by kernel_rfl) (by kernel_rfl) (fun _ _ _ h => h) (Or.inl ⟨by rfl, ?_⟩) (by assumption) ?_
  rotate_left
  ·(intro w hSw; (try dsimp only at hSw); go_split_ands; go_simp; (try with_reducible rfl))
  (try simp only [Act.put]); (try simp only [List.setIfInBounds_toArray]); (try simp only [List.set_cons_succ]); (try simp only [List.set_cons_zero])
  refine wpAnyH_take (i := 4) (v := ?_) rfl (by kernel_rfl) (by kernel_rfl) (by kernel_rfl) (fun _ _ _ h => h) (Or.inl ⟨by rfl, ?_⟩) (by assumption) ?_
  rotate_left
  ·(intro w hSw; (try dsimp only at hSw); go_split_ands; go_simp; (try with_reducible rfl))
  (try simp only [Act.put]); (try simp only [List.setIfInBounds_toArray]); (try simp only [List.set_cons_succ]); (try simp only [List.set_cons_zero])
  refine wpAnyH_take (i := 5) (v := ?_) rfl (by kernel_rfl) (by kernel_rfl) (by kernel_rfl) (fun _ _ _ h => h) (Or.inl ⟨by rfl, ?_⟩) (by assumption) ?_
  rotate_left
  ·(intro w hSw; (try dsimp only at hSw); go_split_ands; go_simp; (try with_reducible rfl))
  (try simp only [Act.put]); (try simp only [List.setIfInBounds_toArray]); (try simp only [List.set_cons_succ]); (try simp only [List.set_cons_zero])
  refine wpAnyH_ready (rs := [6]) (by kernel_rfl) (by simp) ?_
  refine AllReadyH.cons rfl (fun K hK => ?_) AllReadyH.nil
  go_simp
  refine HAPL.out.mono ?_
  rintro e w3 ⟨rfl, F3, hL3, hk3, hg3⟩
  have hn3 : ¬ F w1.heap.size := fun f => by have := HLT.out _ f; have := HS9.out; have := HS0.out; omega
  have ht3 := hold_keeps HTD.out hk3 hn3
  have he3 := hold_keeps HED.out hk3 (NF.out 1)
  have hc3 := hold_keeps HCD.out hk3 (NF.out 2)
  go_simp
  refine hK.out _ _ (by exact HSC.out _ ht3 he3) (fun hHeld => ?_)
  clear hK K
  (try simp only [List.getElem_toArray, List.getElem_cons_succ, List.getElem_cons_zero, Act.put])
  (try simp only [Act.put]); (try simp only [List.setIfInBounds_toArray]); (try simp only [List.set_cons_succ]); (try simp only [List.set_cons_zero])
  refine wpAnyH_take (i := 7) (v := ?_) rfl (by kernel_rfl) (by kernel_rfl) (by kernel_rfl) (fun _ _ _ h => h) (Or.inl ⟨by rfl, ?_⟩) (by assumption) ?_
  rotate_left
  ·(intro w hSw; (try dsimp only at hSw); go_split_ands; go_simp; (try with_reducible rfl))
  (try simp only [List.getElem_toArray, List.getElem_cons_succ, List.getElem_cons_zero, Act.put])
  (try simp only [Act.put]); (try simp only [List.setIfInBounds_toArray]); (try simp only [List.set_cons_succ]); (try simp only [List.set_cons_zero])
  refine wpAnyH_take (i := 8) (v := ?_) rfl (by kernel_rfl) (by kernel_rfl) (by kernel_rfl) (fun _ _ _ h => h) (Or.inl ⟨by rfl, ?_⟩) (by assumption) ?_
  rotate_left
  ·(intro w hSw; (try dsimp only at hSw); go_split_ands; go_simp; (try with_reducible rfl))
  (try simp only [List.getElem_toArray, List.getElem_cons_succ, List.getElem_cons_zero, Act.put])
  (try simp only [Act.put]); (try simp only [List.setIfInBounds_toArray]); (try simp only [List.set_cons_succ]); (try simp only [List.set_cons_zero])
  obtain ⟨hbb, hh⟩ := Bx.box_fill hc3 (.slice A1 Y1.length c1) (.int .i64 sf) (.int .i64 s.z)
  have ht4 := hold_keeps ht3 hbb.k (by have := HS9.out; have := HS0.out; omega)
  have he4 := hold_keeps he3 hbb.k (by omega)
  refine wpAnyH_ready (rs := [9]) (by kernel_rfl) (by simp) ?_
  refine AllReadyH.cons rfl (fun K hK => ?_) AllReadyH.nil
  refine step_store41 rfl (.tmp 7) (.tmp 25) rfl (w.heap.size + 1 + 1) _ _ _ _ rfl rfl hc3 rfl (by intro u hu; simp only [List.mem_cons, List.not_mem_nil, or_false] at hu; rcases hu with rfl | rfl | rfl <;> rfl) ?_
  refine hK.out _ _ (by exact HSC.out _ ht4 he4) (fun hHeld => ?_)
  clear hK K
  (try simp only [List.getElem_toArray, List.getElem_cons_succ, List.getElem_cons_zero, Act.put])
  (try simp only [Act.put]); (try simp only [List.setIfInBounds_toArray]); (try simp only [List.set_cons_succ]); (try simp only [List.set_cons_zero])
  refine wpAnyH_take (i := 10) (v := ?_) rfl (by kernel_rfl) (by kernel_rfl) (by kernel_rfl) (fun _ _ _ h => h) (Or.inl ⟨by rfl, ?_⟩) (by assumption) ?_
  rotate_left
  ·(intro w hSw; (try dsimp only at hSw); go_split_ands; go_simp; (try with_reducible rfl))
  (try simp only [List.getElem_toArray, List.getElem_cons_succ, List.getElem_cons_zero, Act.put])
  (try simp only [Act.put]); (try simp only [List.setIfInBounds_toArray]); (try simp only [List.set_cons_succ]); (try simp only [List.set_cons_zero])
  refine wpAnyH_done (by kernel_rfl) ?_ _
  obtain ⟨hk4, hg4, hng⟩ := after HBD.out HLT.out hk3 hg3
  have hr4 := HRD.out.step hk3 hg3
  have hag := HAG.out.app X
  rw [← HY1.out] at hag
  have hn4 := (hng (w.heap.size + 1 + 1) (by omega) (by have := hold_lt HCD.out; omega)).1
  go_wp2
  refine bodyPost_ret (Bx.res_three rfl _ (w.heap.size + 1 + 1) rfl hh) rfl ?_
  exact finish _ hL3 hk4 hg4 hr4 hag K.ap_z (by have := HL1.out; omega) hc3 (by omega) hn4 H0.out
 ·have e0 : (vb == 0) = false := beq_eq_false_iff_ne.2 h0
  by_cases h1 : vb = 1
  ·subst h1
   have HSY := Lib.hid (syncL_any HL.out)
   rw [hW0] at HSY
   go_enter Tryz.func19, Tryz.ntmps19
   go_wp2_with (fail)
   refine HSY.out.mono ?_
   rintro e w1 ⟨rfl, F1, hL1, hk1, hg1⟩
   rw [← hW0] at hk1 hg1
   obtain ⟨hk2, hg2, hng⟩ := after HB0.out HLT.out hk1 hg1
   have HA1 := Lib.hid (hold_keeps HA0.out hk1 (NF.out 0))
   have HC1 := Lib.hid (hold_keeps HC0.out hk1 (NF.out 2))
   have HR1 := Lib.hid (HR.out.step hk1 hg1)
   have HL1 := Lib.hid hL1
   have HK1 := Lib.hid hk2
   have HG1 := Lib.hid hg2
   have HNG := Lib.hid (show ¬ F1 (w.heap.size + 1 + 1) from (hng _ (by omega) (by have := HS0.out; omega)).1)
   clear hL1 hk1 hg1 hk2 hg2 hng
   have x0 := hold_cell HA1.out 0 rfl
   have x1 := hold_cell HA1.out 1 rfl
   have x2 := hold_cell HA1.out 2 rfl
   go_wp2_with (fail)
   refine (Rf.sync_ref A Y.length c (sf : Int) (s.z : Int)).mono ?_
   rintro e w2 ⟨rfl, hb2⟩
   have HB2 := Lib.hid hb2
   have z0 := hold_cell (HC1.out.on hb2) 0 rfl
   have z1 := hold_cell (HC1.out.on hb2) 1 rfl
   have z2 := hold_cell (HC1.out.on hb2) 2 rfl
   have f0 := hold_soft (HC1.out.on hb2) 0
   have f1 := hold_soft (HC1.out.on hb2) 1
   have f2 := hold_soft (HC1.out.on hb2) 2
   clear x0 x1 x2 hb2
   go_wp2
   obtain ⟨hbb, hh⟩ := Bx.box_fill (HC1.out.on HB2.out) (.slice A Y.length c) (.int .i64 Y.length) (.int .i64 s.z)
   refine bodyPost_ret (Bx.res_three rfl _ (w.heap.size + 1 + 1) rfl hh) rfl ?_
   have hag := HAG.out.syn
   rw [rcs_len] at hag
   exact finish true (HL1.out.below HB2.out) (HK1.out.on HB2.out) (grew_on HG1.out HB2.out) (HR1.out.below HB2.out) hag rfl (by omega) (HC1.out.on HB2.out) (by omega) HNG.out H0.out
  ·have e1 : (vb == 1) = false := beq_eq_false_iff_ne.2 h1
   by_cases h2 : vb = 2
   ·subst h2
    have HCP := Lib.hid (Rf.compact_ref (sf : Int) (s.z : Int) HR.out (fun x f => Nat.lt_of_lt_of_le (HLT.out x f) HB0.out.size) (by omega))
    rw [hW0] at HCP
    have x0 := hold_cell HA0.out 0 rfl
    have x1 := hold_cell HA0.out 1 rfl
    have x2 := hold_cell HA0.out 2 rfl
    rw [hW0] at x0 x1 x2
    go_enter Tryz.func19, Tryz.ntmps19
    go_wp2_with (fail)
    refine HCP.out.mono ?_
    rintro e w1 ⟨v1, Y1, rfl, hY1, hr1, hb1⟩
    rw [← hW0] at hb1
    obtain ⟨A1, c1, rfl⟩ := rowN_sliceOf hr1.rows.row
    have HB1 := Lib.hid (below_on HB0.out hb1)
    have HL1 := Lib.hid (HL.out.below hb1)
    have HC1 := Lib.hid (HC0.out.on hb1)
    have HR1 := Lib.hid hr1
    have HY1 := Lib.hid hY1
    have HCL := Lib.hid (Cp.compL_any HL1.out HS.out HN.out)
    clear hr1 hY1 hb1 x0 x1 x2
    go_wp2_with (fail)
    refine HCL.out.mono ?_
    rintro e w2 ⟨X2, ks, rfl, hX2, hp2, -, -, F2, hL2, hk2, hg2⟩
    obtain ⟨hk3, hg3, hng⟩ := after HB1.out HLT.out hk2 hg2
    have hag := HAG.out.compact hX2 hp2 (Nn.up_nodup (Nn.all_up (Y.map Rv.key))) (Rf.all_keys Y)
    rw [← HY1.out] at hag
    have HAG2 := Lib.hid hag
    have hyl : Y1.length = (Nn.all (Y.map Rv.key)).length := by have := congrArg List.length HY1.out; rw [rcs_len, Ag.pick_len] at this; exact this
    have HYL := Lib.hid hyl
    have HYY := Lib.hid (show Y1.length ≤ Y.length by rw [hyl]; have := Nn.all_len (Y.map Rv.key); rwa [List.length_map] at this)
    have HL2 := Lib.hid hL2
    have HK2 := Lib.hid hk3
    have HG2 := Lib.hid hg3
    have HR2 := Lib.hid (HR1.out.step hk2 hg2)
    have HNG := Lib.hid (show ¬ F2 (w.heap.size + 1 + 1) from (hng _ (by omega) (by have := hold_lt HC1.out; omega)).1)
    have HC2 := Lib.hid (hold_keeps HC1.out hk2 (NF.out 2))
    clear hX2 hp2 hL2 hk2 hg2 hk3 hg3 hng hag hyl
    have z0 := hold_cell HC2.out 0 rfl
    have z1 := hold_cell HC2.out 1 rfl
    have z2 := hold_cell HC2.out 2 rfl
    have f0 := hold_soft HC2.out 0
    have f1 := hold_soft HC2.out 1
    have f2 := hold_soft HC2.out 2
    go_wp2
    obtain ⟨hbb, hh⟩ := Bx.box_fill HC2.out (.slice A1 Y1.length c1) (.int .i64 Y1.length) (.int .i64 s.z)
    refine bodyPost_ret (Bx.res_three rfl _ (w.heap.size + 1 + 1) rfl hh) rfl ?_
    have hag := HAG2.out
    rw [← HYL.out] at hag
    exact finish true HL2.out HK2.out HG2.out HR2.out hag rfl (by have := HYY.out; omega) HC2.out (by omega) HNG.out H0.out
   ·have e2 : (vb == 2) = false := beq_eq_false_iff_ne.2 h2
    by_cases h3 : vb = 3
    ·subst h3
     subst hW0
     obtain ⟨tn, htn⟩ : ∃ tn, tn = decide (msk ≠ 0) := ⟨_, rfl⟩
     have hmk : ((msk.toNat : Int) != 0) = tn := by
      rw [htn]
      by_cases hm : msk = 0
      ·rw [hm]; rfl
      ·have : msk.toNat ≠ 0 := fun e => hm (UInt8.toNat_inj.1 e)
       rw [decide_eq_true hm, bne_iff_ne]
       omega
     have HTN := Lib.hid htn
     clear htn
     have y1 := hold_cell HE0.out 1 rfl
     have y2 := hold_cell HE0.out 2 rfl
     have y3 := hold_cell HE0.out 3 rfl
     have HCR := Lib.hid (crash_log (HL.out.below (Below.refl _ _).drew) n ps msk)
     go_enter Tryz.func19, Tryz.ntmps19
     go_wp2
     go_region_held3 (fun w' => w'.cell? ⟨w.heap.size + 1, 1, none⟩ = some (.int .i64 n) ∧ w'.cell? ⟨w.heap.size + 1, 2, none⟩ = some (.int .i64 ps) ∧ w'.cell? ⟨w.heap.size + 1, 3, none⟩ = some (.int .u8 (msk.toNat : Int))) (first | exact ⟨y1, y2, y3⟩ | exact ⟨by assumption, by assumption, by assumption⟩)
      (first
       | (go_at_call 20; refine Calls.mono (disk_log (HL.out.below (Below.refl _ _).drew)) ?_; rintro e w1 ⟨rfl, rfl⟩)
       | (go_at_call 21; refine Calls.mono HCR.out ?_; rintro e w1 ⟨rfl, F1, hL1, hk1, hg1⟩; have hk1 := (Keeps.of_below (F := F) (Below.refl _ _).drew).trans hk1 (fun x _ f => f); have hg1 : Di.Grew F F1 (((w.alloc (.cells #[.slice A Y.length c,.int .i64 sf,.int .i64 s.z] 41)).alloc (.cells #[.int .i64 3,.int .i64 n,.int .i64 ps,.int .u8 (msk.toNat : Int),.slice A2 X.length c2] 43)).alloc (.cells #[.slice none 0 0,.int .i64 0,.int .i64 0] 41)) w1 := ⟨fun x f => (hg1.1 x f).imp id (fun e => e), hg1.2⟩; have hE1 := hold_keeps HE0.out hk1 (NF.out 1); have y1' := hold_cell hE1 1 rfl; have y2' := hold_cell hE1 2 rfl; have y3' := hold_cell hE1 3 rfl))
     have HL1 := Lib.hid hL1
     obtain ⟨hk1', hg1', hng⟩ := after HB0.out HLT.out hk1 hg1
     have HA1 := Lib.hid (hold_keeps HA0.out hk1 (NF.out 0))
     have HE1 := Lib.hid hE1
     have HC1 := Lib.hid (hold_keeps HC0.out hk1 (NF.out 2))
     have HR1 := Lib.hid (HR.out.step hk1 hg1)
     have HK1 := Lib.hid hk1'
     have HG1 := Lib.hid hg1'
     have HN1 := Lib.hid (show ∀ i, i ≤ 2 → ¬ F1 (w.heap.size + i) from fun i hi => (hng _ (by omega) (by have := HS0.out; omega)).1)
     clear hL1 hk1 hg1 hk1' hg1' hng hE1 y1 y2 y3 y1' y2' y3'
     have HOP := Lib.hid (open_log HL1.out (by have := crash_len HOK.out n ps msk; have := HS.out; omega))
     go_wp2_with (fail)
     refine (disk_log HL1.out).mono ?_
     rintro e wx ⟨rfl, rfl⟩
     go_wp2_with (fail)
     refine HOP.out.mono ?_
     rintro e w2 ⟨gl2, rfl, F2, hL2, hk2, hg2⟩
     have HL2 := Lib.hid hL2
     have HA2 := Lib.hid (hold_keeps HA1.out hk2 (HN1.out 0 (by omega)))
     have HE2 := Lib.hid (hold_keeps HE1.out hk2 (HN1.out 1 (by omega)))
     have HC2 := Lib.hid (hold_keeps HC1.out hk2 (HN1.out 2 (by omega)))
     have HR2 := Lib.hid (HR1.out.step hk2 hg2)
     have HK2 := Lib.hid (HK1.out.trans hk2 (fun x hx f => (HG1.out.1 x f).elim id (fun e => by omega)))
     have HG2 := Lib.hid (show Di.Grew F F2 w w2 from ⟨fun x f => (hg2.1 x f).elim (HG1.out.1 x) (fun e => .inr (Nat.le_trans HK1.out.size e)), hg2.2⟩)
     have HN2 := Lib.hid (show ¬ F2 (w.heap.size + 1 + 1) from fun f => (hg2.1 _ f).elim (HN1.out 2 (by omega)) (fun e => by have := hold_lt HC1.out; omega))
     clear hL2 hk2 hg2 HOP
     have x0 := hold_cell HA2.out 0 rfl
     have x1 := hold_cell HA2.out 1 rfl
     have x2 := hold_cell HA2.out 2 rfl
     have y1 := hold_cell HE2.out 1 rfl
     have y2 := hold_cell HE2.out 2 rfl
     have y3 := hold_cell HE2.out 3 rfl
     have HCX := Lib.hid (Rf.crash_ref sf (s.z : Int) n ps tn HR2.out.rows (by have := HAG.out.sf_le; rwa [rcs_len] at this) HRG.out (by omega))
     have hag := HAG.out.crash n ps msk
     rw [← HTN.out] at hag
     have hnl : sf + K.cnt tn n ps ((rcs Y).drop sf) ≤ Y.length := by
      have h1 := K.cnt_le tn ((rcs Y).drop sf) n ps
      have h2 := HAG.out.sf_le
      rw [List.length_drop] at h1
      rw [rcs_len] at h1 h2
      omega
     generalize sf + K.cnt tn n ps ((rcs Y).drop sf) = N at *
     have HAGN := Lib.hid (show Ag.Agr (K.opn (Di.M.crash n ps msk s)) (rcs (Y.take N)) N by rw [show rcs (Y.take N) = (rcs Y).take N by simp [rcs, List.map_take]]; exact hag)
     have HNL := Lib.hid hnl
     clear hag hnl
     go_wp2_with (fail)
     refine HCX.out.mono ?_
     rintro e w3 ⟨rfl, hb3⟩
     have HB3 := Lib.hid hb3
     have z0 := hold_cell (HC2.out.on hb3) 0 rfl
     have z1 := hold_cell (HC2.out.on hb3) 1 rfl
     have z2 := hold_cell (HC2.out.on hb3) 2 rfl
     have f0 := hold_soft (HC2.out.on hb3) 0
     have f1 := hold_soft (HC2.out.on hb3) 1
     have f2 := hold_soft (HC2.out.on hb3) 2
     clear x0 x1 x2 y1 y2 y3 hb3 HCX
     go_wp2
     obtain ⟨hbb, hh⟩ := Bx.box_fill (HC2.out.on HB3.out) (.slice A N c) (.int .i64 N) (.int .i64 s.z)
     refine bodyPost_ret (Bx.res_three rfl _ (w.heap.size + 1 + 1) rfl hh) rfl ?_
     exact finish true (HL2.out.below HB3.out) (HK2.out.on HB3.out) (grew_on HG2.out HB3.out) (Rf.rws_take (HR2.out.below HB3.out) HNL.out) HAGN.out rfl (by rw [List.length_take]; omega) (HC2.out.on HB3.out) (by omega) HN2.out H0.out
    ·have e3 : (vb == 3) = false := beq_eq_false_iff_ne.2 h3
     subst hW0
     have x0 := hold_cell HA0.out 0 rfl
     have x1 := hold_cell HA0.out 1 rfl
     have x2 := hold_cell HA0.out 2 rfl
     go_enter Tryz.func19, Tryz.ntmps19
     go_wp2
     go_region_with (fail)
     all_goals
      have hbf : Below w.heap.size w ((((w.alloc (.cells #[.slice A Y.length c,.int .i64 sf,.int .i64 s.z] 41)).alloc (.cells #[.int .i64 vb,.int .i64 n,.int .i64 ps,.int .u8 (msk.toNat : Int),.slice A2 X.length c2] 43)).alloc (.cells #[.slice A Y.length c,.int .i64 sf,.int .i64 s.z] 41)).drew) := (below_new (below_new (below_new (Below.refl _ _)))).drew
      have hh : Hold ((((w.alloc (.cells #[.slice A Y.length c,.int .i64 sf,.int .i64 s.z] 41)).alloc (.cells #[.int .i64 vb,.int .i64 n,.int .i64 ps,.int .u8 (msk.toNat : Int),.slice A2 X.length c2] 43)).alloc (.cells #[.slice A Y.length c,.int .i64 sf,.int .i64 s.z] 41)).drew) (w.heap.size + 1 + 1) 41 [.slice A Y.length c,.int .i64 sf,.int .i64 s.z] := by
       have := (Wi.Hold.new ((w.alloc (.cells #[.slice A Y.length c,.int .i64 sf,.int .i64 s.z] 41)).alloc (.cells #[.int .i64 vb,.int .i64 n,.int .i64 ps,.int .u8 (msk.toNat : Int),.slice A2 X.length c2] 43)) [.slice A Y.length c,.int .i64 sf,.int .i64 s.z] 41).on (Below.refl _ _).drew
       rw [show ((w.alloc (.cells #[.slice A Y.length c,.int .i64 sf,.int .i64 s.z] 41)).alloc (.cells #[.int .i64 vb,.int .i64 n,.int .i64 ps,.int .u8 (msk.toNat : Int),.slice A2 X.length c2] 43)).heap.size = w.heap.size + 1 + 1 by simp] at this
       exact this
      (try simp only [List.getElem_toArray, List.getElem_cons_succ, List.getElem_cons_zero, Act.put])
      go_wp2
      refine bodyPost_ret (Bx.res_three rfl _ (w.heap.size + 1 + 1) rfl hh) rfl ?_
      exact ⟨gl, F, s, _, Y, sf, true, rfl, HLW.out.below hbf, Keeps.of_below hbf, Di.Grew.refl HLT.out hbf.size, HRW.out.below hbf, HAG.out, rfl, by omega⟩
end Ds
end Go.Proofs.YtdachohcjpjblaaGreatDoor
