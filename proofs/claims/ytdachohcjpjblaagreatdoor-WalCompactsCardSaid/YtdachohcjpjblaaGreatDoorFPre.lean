/- Contracts of what tells a prefix, and of what forgets what was read; no conditions but those that they name. -/
import Derived.Test.YtdachohcjpjblaaGreatDoorFCur
set_option maxHeartbeats 8000000
set_option maxRecDepth 100000
namespace Go.Proofs.YtdachohcjpjblaaGreatDoor
open Go.ChangeShapes Go.WideShapes Go.ChangeAt Go.RowKit
open Di (Keeps In below_on below_new)
open Wi (Hold)
def preB (xs ys : List UInt8) : Bool := decide (xs.take ys.length = ys)
theorem preB_iff {xs ys : List UInt8} : preB xs ys = true ↔ ∃ z, xs = ys ++ z := by
 unfold preB
 rw [decide_eq_true_iff]
 constructor
 ·intro h
  exact ⟨xs.drop ys.length, by have := List.take_append_drop ys.length xs; rw [h] at this; exact this.symm⟩
 ·rintro ⟨z, rfl⟩
  simp
theorem preB_short {xs ys : List UInt8} (h : xs.length < ys.length) : preB xs ys = false := by
 unfold preB
 rw [decide_eq_false_iff_not]
 intro e
 have := congrArg List.length e
 rw [List.length_take] at this
 omega
theorem pre_any {w : World} {u : Value} {b o n c : Nat} {xs ys : List UInt8} (h : Fr.Bts w (.slice (some ⟨b, o, none⟩) n c) xs) (h' : Fr.Bts w u ys) :
 Calls Tryz.prog 73 #[.slice (some ⟨b, o, none⟩) n c, u] w fun e w' => e = .returned (.bool (preB xs ys)) ∧ w = w' := by
 have hc := h.len.2
 have hx := h.len.1
 obtain ⟨A', c', rfl, hc', hx'⟩ := h'.opened
 by_cases hy : ys.length ≤ n
 ·have ht := h.take ys.length hy
  have HE := Lib.hid (Fr.equal_any ht h')
  have HP := Lib.hid (show Fr.M.sameB (xs.take ys.length) ys = preB xs ys from rfl)
  clear h h' hx' ht hx
  generalize hm : ys.length = m at *
  have d1 : decide ((m : Int) ≤ (n : Int)) = true := by simp; omega
  clear hm
  go_enter Tryz.func73, Tryz.ntmps73
  go_wp2_with (fail)
  refine HE.out.mono ?_
  rintro e w' ⟨rfl, rfl⟩
  rw [HP.out]
  go_wp2
  go_ret
  exact ⟨rfl, rfl⟩
 ·have HP := Lib.hid (preB_short (xs := xs) (ys := ys) (by omega))
  have d1 : decide ((ys.length : Int) ≤ (n : Int)) = false := by simp; omega
  rw [HP.out]
  clear h h' hx' hx
  go_enter Tryz.func73, Tryz.ntmps73
  go_wp2
  go_ret
  exact ⟨rfl, rfl⟩
theorem forget_any {w : World} {gc : Nat} {F : Nat → Prop} {X : List Rv} {E : List Int} {m : List (Ky × Rv)} {rest : Int} {fr vr ve : Value} {gm : Nat} (h : Ct w gc F X E m rest fr vr ve gm) :
 Calls Tryz.prog 74 #[.pointer (some ⟨gc, 0, none⟩)] w fun e w' => e = .returned (.tuple #[]) ∧ Ct w' gc F [] [] [] rest (.slice none 0 0) (.slice none 0 0) (.slice none 0 0) gm ∧ Keeps (fun y => y = gc ∨ y = gm) w w' ∧ w'.heap.size = w.heap.size := by
 have c0 := hold_cell h.blk 0 rfl
 have c2 := hold_cell h.blk 2 rfl
 have c3 := hold_cell h.blk 3 rfl
 have c4 := hold_cell h.blk 4 rfl
 have f0 := hold_soft h.blk 0
 have f2 := hold_soft h.blk 2
 have f3 := hold_soft h.blk 3
 obtain ⟨W, hW⟩ : ∃ W, W = ((w.setCell ⟨gc, 0, none⟩ (.slice none 0 0)).setCell ⟨gc, 2, none⟩ (.slice none 0 0)).setCell ⟨gc, 3, none⟩ (.slice none 0 0) := ⟨_, rfl⟩
 have k1 : Keeps (fun y => y = gc) w W := by rw [hW]; exact (((Keeps.refl (fun y => y = gc) w).setCell (p := ⟨gc, 0, none⟩) (.inl rfl) _).setCell (p := ⟨gc, 2, none⟩) (.inl rfl) _).setCell (p := ⟨gc, 3, none⟩) (.inl rfl) _
 have hs : W.heap.size = w.heap.size := by rw [hW]; simp only [Di.size_set]
 have hb1 : Hold W gc 86 [.slice none 0 0,.int .i64 rest,.slice none 0 0,.slice none 0 0, .map (some gm)] := by
  rw [hW]; exact hold_put (hold_put (hold_put h.blk 0 _) 2 _) 3 _
 have ngm : ¬ gm = gc := by have := h.blk; unfold Wi.Hold at this; exact (h.mp.apart this).symm
 have hm1 := h.mp.keeps k1 ngm
 obtain ⟨w1, hr, hm, k2, hs2⟩ := run_clear73 hm1 0
 have hr' : ∀ ty, (Builtin.clear_ #[73] ty #[.map (some gm)]).run Tryz.prog W = .ok (.tuple #[]) w1 := fun ty => hr
 have hk : Keeps (fun y => y = gc ∨ y = gm) w w1 := (k1.wide (fun _ _ e => .inl e)).trans k2 (fun _ _ e => .inr e)
 have HF := Lib.hid (show Ct w1 gc F [] [] [] rest (.slice none 0 0) (.slice none 0 0) (.slice none 0 0) gm from
  ⟨hold_keeps hb1 k2 (fun e => ngm e.symm), World.ownsRow_nil _ _ _ _, World.ownsRow_nil _ _ _ _, hm, fun x hx => (List.not_mem_nil hx).elim, fun x hx => (List.not_mem_nil hx).elim, h.fgc, h.fgm, fun b e => (by cases e), fun b e => (by cases e), fun x f => by rw [hs2, hs]; exact h.lt x f⟩)
 have HK := Lib.hid hk
 have HS := Lib.hid (hs2.trans hs)
 have cw : W.cell? ⟨gc, 4, none⟩ = some (.map (some gm)) := hold_cell hb1 4 rfl
 rw [hW] at hr' cw
 clear h k1 hs hb1 hm1 hr hm k2 hs2 hk hW
 go_enter Tryz.func74, Tryz.ntmps74
 go_wp2
 refine bodyPost_end (v := .tuple #[]) (by simp [results, Tryz.results74]) rfl ?_
 exact ⟨rfl, HF.out, HK.out, HS.out⟩
end Go.Proofs.YtdachohcjpjblaaGreatDoor
