/- Contracts: how many bytes records have, by the document; what bytes are opened as, by the document; no conditions but those that they name. -/
import Derived.Test.YtdachohcjpjblaaGreatDoorFRow
set_option maxHeartbeats 8000000
set_option maxRecDepth 100000
namespace Go.Proofs.YtdachohcjpjblaaGreatDoor
open Go.ChangeShapes Go.WideShapes Go.ChangeAt Go.RowKit
open Di (Keeps In below_on below_new)
open Wi (Hold)
theorem length_any {w : World} (r : K.Rec) {va vb : Value} (h : Wi.Rds w va r.c.rs) (h' : Wi.Wrs w vb r.c.ws) (F : Wi.M.FitsR r) (hl : (K.enc r).length ≤ 100000) : Calls Tryz.prog 40 #[.agg #[.int .i64 r.ir,.int .i64 r.is,.int .i64 r.st,.int .i64 r.pn,.int .i64 r.pr,.int .i64 r.bn,.int .i64 r.br,.int .i64 r.c.k,.int .i64 r.c.tc,.int .i64 r.c.tn,.int .i64 r.c.tt,.int .i64 r.c.tk,.int .i64 r.c.sh, va, vb,.bool r.c.cm,.int .i64 r.sq,.int .i64 r.d0,.int .i64 r.d1,.int .i64 r.d2,.int .i64 r.d3,.int .i64 r.d4,.int .i64 r.d5,.int .i64 r.d6,.bool r.kp]] w fun e w' => e = .returned (.int .i64 (K.len r : Nat)) ∧ Below w.heap.size w w' := by
 have hb0 : Below w.heap.size w (w.alloc (.cells #[.int .i64 r.ir,.int .i64 r.is,.int .i64 r.st,.int .i64 r.pn,.int .i64 r.pr,.int .i64 r.bn,.int .i64 r.br,.int .i64 r.c.k,.int .i64 r.c.tc,.int .i64 r.c.tn,.int .i64 r.c.tt,.int .i64 r.c.tk,.int .i64 r.c.sh, va, vb,.bool r.c.cm,.int .i64 r.sq,.int .i64 r.d0,.int .i64 r.d1,.int .i64 r.d2,.int .i64 r.d3,.int .i64 r.d4,.int .i64 r.d5,.int .i64 r.d6,.bool r.kp] 67)) := below_new (Below.refl _ _)
 have CW := Lib.hid ((Wi.Hold.new w [.int .i64 r.ir,.int .i64 r.is,.int .i64 r.st,.int .i64 r.pn,.int .i64 r.pr,.int .i64 r.bn,.int .i64 r.br,.int .i64 r.c.k,.int .i64 r.c.tc,.int .i64 r.c.tn,.int .i64 r.c.tt,.int .i64 r.c.tk,.int .i64 r.c.sh, va, vb,.bool r.c.cm,.int .i64 r.sq,.int .i64 r.d0,.int .i64 r.d1,.int .i64 r.d2,.int .i64 r.d3,.int .i64 r.d4,.int .i64 r.d5,.int .i64 r.d6,.bool r.kp] 67).cel.whole)
 have HE := Lib.hid (Wi.refRecord_any r (h.below hb0) (h'.below hb0) F)
 have HB0 := Lib.hid hb0
 have e1 : IntKind.i64.wrap (((K.enc r).length : Int) + 8) = (K.len r : Nat) := by
  rw [show ((K.enc r).length : Int) + 8 = ((K.len r : Nat) : Int) by unfold K.len; simp]
  exact IntWalk.i64_in _ (by unfold K.len; omega)
 clear h h' hb0
 go_enter Tryz.func40, Tryz.ntmps40
 go_wp2_with (first
  | (with_reducible refine wpList_load_mid rfl 67 _ rfl _ 0 rfl _ _ CW.out Tryz.underlying67 rfl (by kernel_rfl) ?_)
  | fail)
 refine HE.out.mono ?_
 rintro e w1 ⟨u, rfl, ho, hb⟩
 obtain ⟨A, c, rfl, -⟩ := ho.slice
 have HB := Lib.hid (below_on HB0.out hb)
 clear ho hb HE
 go_wp2
 go_ret
 exact ⟨rfl, HB.out⟩
theorem bytes_ref {w : World} {v : Value} {X : List Rv} (h : Rows w v X) (hf : ∀ x ∈ X, Wi.M.FitsR x.r ∧ (K.enc x.r).length ≤ 100000) (hl : X.length ≤ 100000) : Calls Tryz.prog 17 #[v] w fun e w' => e = .returned (.int .i64 ((K.fb (rcs X)).length : Nat)) ∧ Below w.heap.size w w' := by
 obtain ⟨A, c, rfl⟩ := rowN_sliceOf h.row
 have HH := Lib.hid h
 have HF := Lib.hid hf
 have hbd : ∀ k, k ≤ X.length → (K.fb ((rcs X).take k)).length ≤ 100008 * k := by
  intro k
  induction k with
  | zero => intro _; simp [K.fb_nil]
  | succ k ih =>
    intro hk
    have hx : X[k]? = some X[k] := List.getElem?_eq_getElem (by omega)
    have e1 : (rcs X)[k]? = some X[k].r := by unfold rcs; rw [List.getElem?_map, hx]; rfl
    have := (hf X[k] (List.getElem_mem _)).2
    have := ih (by omega)
    rw [List.take_add_one, e1, K.fb_append, List.length_append, Option.toList_some, K.fb_len_cons, K.fb_nil, K.len, List.length_nil]
    omega
 have HBD := Lib.hid hbd
 clear h hf hbd
 go_enter Tryz.func17, Tryz.ntmps17
 go_wp2
 go_loopw [3, 4] (fun n i wr => ∃ k : Nat, i = .int .i64 k ∧ k ≤ X.length ∧ n = .int .i64 ((K.fb ((rcs X).take k)).length : Nat) ∧ Hid (Below w.heap.size w wr)) (fun _ i _ => X.length - (intOf i).toNat)
 case atStart => exact ⟨0, rfl, Nat.zero_le _, by simp [K.fb_nil], Lib.hid (Below.refl _ _)⟩
 case round =>
  obtain ⟨k, rfl, hk, rfl, HW⟩ := hrel
  by_cases hlt : k < X.length
  ·obtain ⟨x, hx⟩ : ∃ x, X[k]? = some x := ⟨_, List.getElem?_eq_getElem hlt⟩
   have hxm : x ∈ X := List.mem_of_getElem? hx
   obtain ⟨b, o, rfl, hbl, hrr⟩ := rowN_range (HH.out.below HW.out).row hx
   have HX := Lib.hid ((HH.out.tx x hxm).below HW.out)
   have HFX := Lib.hid (HF.out x hxm)
   have hnx : (K.fb ((rcs X).take (k + 1))).length = (K.fb ((rcs X).take k)).length + K.len x.r := by
    have e1 : (rcs X)[k]? = some x.r := by unfold rcs; rw [List.getElem?_map, hx]; rfl
    rw [List.take_add_one, e1, K.fb_append, List.length_append, Option.toList_some, K.fb_len_cons, K.fb_nil]; simp
   have HNX := Lib.hid hnx
   have hb1 := HBD.out k hk
   have hb2 := HBD.out (k + 1) hlt
   obtain ⟨r, va, vb⟩ := x
   have HRR := Lib.hid (show wr.rangeAt b (o + k * 25) [.int .i64 r.ir,.int .i64 r.is,.int .i64 r.st,.int .i64 r.pn,.int .i64 r.pr,.int .i64 r.bn,.int .i64 r.br,.int .i64 r.c.k,.int .i64 r.c.tc,.int .i64 r.c.tn,.int .i64 r.c.tt,.int .i64 r.c.tk,.int .i64 r.c.sh, va, vb,.bool r.c.cm,.int .i64 r.sq,.int .i64 r.d0,.int .i64 r.d1,.int .i64 r.d2,.int .i64 r.d3,.int .i64 r.d4,.int .i64 r.d5,.int .i64 r.d6,.bool r.kp] from hrr)
   dsimp only at hnx
   have e1 : IntKind.i64.wrap (((K.fb ((rcs X).take k)).length : Int) + (K.len r : Nat)) = ((K.fb ((rcs X).take (k + 1))).length : Int) := by
    rw [show ((K.fb ((rcs X).take k)).length : Int) + (K.len r : Nat) = ((K.fb ((rcs X).take (k + 1))).length : Int) by rw [hnx]; simp]
    exact IntWalk.i64_in _ (by omega)
   have hk1 : (k : Int) < (X.length : Int) := by omega
   clear hx hxm hbl hrr hnx hb1 hb2
   generalize (K.fb ((rcs X).take k)).length = m at *
   go_wp2_with (first
    | (with_reducible refine wpList_load_mid rfl 67 _ rfl b (o + k * 25) rfl [.int .i64 r.ir,.int .i64 r.is,.int .i64 r.st,.int .i64 r.pn,.int .i64 r.pr,.int .i64 r.bn,.int .i64 r.br,.int .i64 r.c.k,.int .i64 r.c.tc,.int .i64 r.c.tn,.int .i64 r.c.tt,.int .i64 r.c.tk,.int .i64 r.c.sh, va, vb,.bool r.c.cm,.int .i64 r.sq,.int .i64 r.d0,.int .i64 r.d1,.int .i64 r.d2,.int .i64 r.d3,.int .i64 r.d4,.int .i64 r.d5,.int .i64 r.d6,.bool r.kp] _ HRR.out Tryz.underlying67 rfl (by kernel_rfl) ?_)
    | fail)
   refine (length_any r HX.out.rs HX.out.ws HFX.out.1 HFX.out.2).mono ?_
   rintro e w1 ⟨rfl, hb⟩
   have HB := Lib.hid (below_on HW.out hb)
   clear hb
   go_wp2
   go_roundw
   case rel => exact ⟨k + 1, by go_num, hlt, rfl, HB⟩
   case measure => simp [intOf]; omega
  ·obtain rfl : k = X.length := by omega
   have HT := Lib.hid (show (rcs X).take X.length = rcs X by rw [← rcs_len, List.take_length])
   rw [HT.out]
   go_wp2
   go_ret
   exact ⟨rfl, HW.out⟩
end Go.Proofs.YtdachohcjpjblaaGreatDoor
