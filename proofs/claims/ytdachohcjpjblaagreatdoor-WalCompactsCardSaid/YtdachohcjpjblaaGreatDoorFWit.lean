/- Contracts: records in memory of their own, all that were read; the frames of records; no conditions but those that they name. -/
import Derived.Test.YtdachohcjpjblaaGreatDoorFCur
set_option maxHeartbeats 8000000
set_option maxRecDepth 100000
namespace Go.Proofs.YtdachohcjpjblaaGreatDoor
open Go.ChangeShapes Go.WideShapes Go.ChangeAt Go.RowKit
open Di (Keeps In below_on below_new)
open Wi (Hold)
theorem ownsRow_at {w : World} {base : Nat} {t : TypeId} {v : Value} {n k : Nat} {vs : List Value} (h : w.ownsRow base t 1 v n vs) (hk : k < n) : ∃ b cap u, v = .slice (some ⟨b, 0, none⟩) n cap ∧ vs[k]? = some u ∧ w.cell? ⟨b, k, none⟩ = some u ∧ b < w.heap.size ∧ base ≤ b ∧ n ≤ cap := by
 have hl := h.1
 rcases h.2 with ⟨rfl, rfl⟩ | ⟨b, cap, cur, rfl, hb, hblk, hc, _, hs, ht⟩
 ·omega
 ·refine ⟨b, cap, vs[k], rfl, List.getElem?_eq_getElem (by omega), ?_, (Array.getElem?_eq_some_iff.1 hblk).1, hb, hc⟩
  have := h.cellAt k (by omega)
  rw [this, List.getElem?_eq_getElem (by omega)]
structure Txt (w : World) (x : Rv) : Prop where
 rs : Wi.Rds w x.va x.r.c.rs
 ws : Wi.Wrs w x.vb x.r.c.ws
theorem Txt.below {w w' : World} {x : Rv} (h : Txt w x) (k : Below w.heap.size w w') : Txt w' x := ⟨h.rs.below k, h.ws.below k⟩
structure OwnX (w : World) (base : Nat) (v : Value) (Y : List Rv) : Prop where
 row : w.ownsRow base 67 25 v Y.length (Y.flatMap Rv.cells)
 rs : ∀ y ∈ Y, Wi.OwnR base w y.va y.r.c.rs
 ws : ∀ y ∈ Y, Wi.OwnW base w y.vb y.r.c.ws
theorem ownR_on {w w' : World} {base : Nat} {v : Value} {l : List (List UInt8 × Int × Int)} (h : Wi.OwnR base w v l) (k : Below w.heap.size w w') : Wi.OwnR base w' v l := by
 obtain ⟨B, hB, h⟩ := h
 exact ⟨B, hB, Wi.ownsRow_on h k⟩
theorem ownW_on {w w' : World} {base : Nat} {v : Value} {l : List (List UInt8 × List UInt8)} (h : Wi.OwnW base w v l) (k : Below w.heap.size w w') : Wi.OwnW base w' v l := by
 obtain ⟨B, hB, h⟩ := h
 exact ⟨B, hB, Wi.ownsRow_on h k⟩
theorem OwnX.below {w w' : World} {base : Nat} {v : Value} {Y : List Rv} (h : OwnX w base v Y) (k : Below w.heap.size w w') : OwnX w' base v Y :=
 ⟨Wi.ownsRow_on h.row k, fun y hy => ownR_on (h.rs y hy) k, fun y hy => ownW_on (h.ws y hy) k⟩
theorem OwnX.nil (w : World) (base : Nat) : OwnX w base (.slice none 0 0) [] := ⟨World.ownsRow_nil _ _ _ _, fun _ hy => (List.not_mem_nil hy).elim, fun _ hy => (List.not_mem_nil hy).elim⟩
theorem flat_len (X : List Rv) : (X.flatMap Rv.cells).length = X.length * 25 := by
 induction X with
 | nil => rfl
 | cons x X ih => rw [List.flatMap_cons, List.length_append, ih, show x.cells.length = 25 from rfl, List.length_cons]; omega
theorem flat_at {X : List Rv} : ∀ {k : Nat} {x : Rv}, X[k]? = some x → ∀ j v, x.cells[j]? = some v → (X.flatMap Rv.cells)[k * 25 + j]? = some v := by
 induction X with
 | nil => intro k x h; simp at h
 | cons y X ih =>
   intro k x h j v hv
   rw [List.flatMap_cons]
   have hl : y.cells.length = 25 := rfl
   have hj : j < 25 := by have := (List.getElem?_eq_some_iff.1 hv).1; exact this
   cases k with
   | zero =>
     simp only [List.getElem?_cons_zero, Option.some.injEq] at h
     subst h
     rw [Nat.zero_mul, Nat.zero_add, List.getElem?_append_left (by omega)]
     exact hv
   | succ k =>
     rw [List.getElem?_append_right (by omega), show (k + 1) * 25 + j - y.cells.length = k * 25 + j by omega]
     exact ih (by simpa using h) j v hv
theorem owns_range {w : World} {base b cap k : Nat} {X : List Rv} {x : Rv} (h : w.ownsRow base 67 25 (.slice (some ⟨b, 0, none⟩) X.length cap) X.length (X.flatMap Rv.cells)) (hx : X[k]? = some x) : w.rangeAt b (k * 25) x.cells := fun j v hj => by
 have hk := (List.getElem?_eq_some_iff.1 hx).1
 have hj' : j < 25 := (List.getElem?_eq_some_iff.1 hj).1
 have := h.cellAt (k * 25 + j) (by omega)
 rw [this]
 exact flat_at hx j v hj
theorem rowN_range {w : World} {A : Option Addr} {c k : Nat} {X : List Rv} {x : Rv} (h : Wi.RowN 25 w (.slice A X.length c) X.length (X.flatMap Rv.cells)) (hx : X[k]? = some x) : ∃ b o, A = some ⟨b, o, none⟩ ∧ b < w.heap.size ∧ w.rangeAt b (o + k * 25) x.cells := by
 have hk := (List.getElem?_eq_some_iff.1 hx).1
 obtain ⟨hl, A', c', ev, hc, hy⟩ := h
 simp only [Value.slice.injEq] at ev
 obtain ⟨rfl, -, rfl⟩ := ev
 obtain ⟨b, o, rfl, hb, hz⟩ := hy (by omega)
 refine ⟨b, o, rfl, hb, fun j v hj => ?_⟩
 have hj' : j < 25 := (List.getElem?_eq_some_iff.1 hj).1
 have := hz (k * 25 + j) v (flat_at hx j v hj)
 rwa [← Nat.add_assoc] at this
theorem wpList_build67 {ops : Array Oper} {rest : List Oper} {o : Oper} {a : Act} {w : World} {Q : Exit → Act → World → Prop} (hg : o.guard = none) (y : Operand) (ho : o.op = .buildSlice 31 1 #[(0, y)]) (x : Rv) (hy : a.eval y = .agg x.cells.toArray)
 (h : wpList Tryz.prog ops Q rest (a.put o.dst (.slice (some ⟨w.heap.size, 0, none⟩) 1 1)) (w.alloc (.cells x.cells.toArray 67))) : wpList Tryz.prog ops Q (o :: rest) a w := by
 obtain ⟨i0, hi, hz0, hz1, hz2⟩ := info_parts info67
 refine wpList_buildSlice hg 31 67 1 #[(0, y)] ho x.cells.toArray i0 Rv.zero.val Tryz.underlying31 hi hz0 (by rw [hz1]; omega) (by rw [hz1]; omega) ?_ h
 rw [hz1]
 simp only [List.map_toArray, List.map_cons, List.map_nil, hy]
 exact fill_rec x
theorem rec_new (w : World) (x : Rv) : ∀ (j : Nat) (u : Value), x.cells[j]? = some u → (w.alloc (.cells x.cells.toArray 67)).cell? ((⟨w.heap.size, 0, none⟩ : Addr).add j) = some u := fun j u hj => by
 rw [Di.add_plain', Nat.zero_add]
 exact (Wi.Cel.new w x.cells 67).get j u hj
theorem rec_one {w : World} {x : Rv} {base : Nat} (h1 : Wi.OwnR base w x.va x.r.c.rs) (h2 : Wi.OwnW base w x.vb x.r.c.ws) : ∀ u ∈ x.cells, u.oneCell' = true := by
 obtain ⟨B1, _, h1⟩ := h1
 obtain ⟨B2, _, h2⟩ := h2
 obtain ⟨A1, c1, ea⟩ := Wi.ownsRow_slice h1
 obtain ⟨A2, c2, eb⟩ := Wi.ownsRow_slice h2
 intro u hu
 simp only [Rv.cells, ea, eb, List.mem_cons, List.not_mem_nil, or_false] at hu
 rcases hu with rfl | rfl | rfl | rfl | rfl | rfl | rfl | rfl | rfl | rfl | rfl | rfl | rfl | rfl | rfl | rfl | rfl | rfl | rfl | rfl | rfl | rfl | rfl | rfl | rfl <;> rfl
theorem OwnX.snoc {w w2 : World} {base : Nat} {v v' : Value} {Y : List Rv} {x : Rv} (h : OwnX w base v Y) (h1 : Wi.OwnR base w x.va x.r.c.rs) (h2 : Wi.OwnW base w x.vb x.r.c.ws) (ho : w2.ownsRow base 67 25 v' (Y.length + 1) (Y.flatMap Rv.cells ++ x.cells)) (hg : w.grownBy w2 v.ownBlock) : OwnX w2 base v' (Y ++ [x]) := by
 have k : Keeps (fun y => v.ownBlock = some y) w w2 := Keeps.of_grown hg (fun y e => e)
 have ne : ∀ t u n k xs B, t ≠ 67 → w.ownsRow B t k u n xs → ∀ b, u.ownBlock = some b → ¬ v.ownBlock = some b := by
  intro t u n k xs B ht hu b e e2
  obtain ⟨c1, h1⟩ := owns_lt hu b e
  obtain ⟨c2, h2⟩ := owns_lt h.row b e2
  rw [h1] at h2
  simp only [Option.some.injEq, Obj.cells.injEq] at h2
  exact ht h2.2.1
 have kr : ∀ u l, Wi.OwnR base w u l → Wi.OwnR base w2 u l := fun u l ⟨B, hB, q⟩ => ⟨B, hB, owns_keeps q k (ne _ _ _ _ _ _ (by decide) q)⟩
 have kw : ∀ u l, Wi.OwnW base w u l → Wi.OwnW base w2 u l := fun u l ⟨B, hB, q⟩ => ⟨B, hB, owns_keeps q k (ne _ _ _ _ _ _ (by decide) q)⟩
 refine ⟨?_, fun y hy => ?_, fun y hy => ?_⟩
 ·rw [List.length_append, List.length_singleton, List.flatMap_append, List.flatMap_singleton]
  exact ho
 ·rcases List.mem_append.1 hy with hy | hy
  ·exact kr _ _ (h.rs y hy)
  ·rw [List.mem_singleton.1 hy]; exact kr _ _ h1
 ·rcases List.mem_append.1 hy with hy | hy
  ·exact kw _ _ (h.ws y hy)
  ·rw [List.mem_singleton.1 hy]; exact kw _ _ h2
theorem within_any {w : World} {gc : Nat} {X : List Rv} {rest : Int} {fr vr ve mp : Value} {m : Int} (hb : Hold w gc 86 [fr,.int .i64 rest, vr, ve, mp]) (hr : w.ownsRow 0 67 25 vr X.length (X.flatMap Rv.cells)) (he : w.ownsRow 0 3 1 ve X.length ((K.ends (rcs X)).map (.int .i64))) (ht : ∀ x ∈ X, Txt w x) (hm : ∀ x ∈ X, Wi.M.Mod x.r.c) (hf : (K.fb (rcs X)).length ≤ m) (hl : X.length ≤ 100000) :
 Calls Tryz.prog 39 #[.pointer (some ⟨gc, 0, none⟩),.int .i64 m] w fun e w' => ∃ v Y, e = .returned v ∧ rcs Y = rcs X ∧ OwnX w' w.heap.size v Y ∧ Below w.heap.size w w' := by
 obtain ⟨i0, hi, hz0, hz1, hz2⟩ := info_parts info67
 have HB := Lib.hid hb
 have HR := Lib.hid hr
 have HE := Lib.hid he
 have HT := Lib.hid ht
 have HM := Lib.hid hm
 have HF := Lib.hid hf
 have c3 := hold_cell hb 3 rfl
 have hsx : ∀ x : Rv, (Tryz.prog.info? 67).map (·.size) = some x.cells.length := fun _ => by kernel_rfl
 obtain ⟨A3, k3, rfl⟩ := Wi.ownsRow_slice hr
 obtain ⟨A4, k4, rfl⟩ := Wi.ownsRow_slice he
 clear hb hr he ht hm hf
 go_enter Tryz.func39, Tryz.ntmps39
 go_wp2
 go_loopw [5, 13] (fun v i wr => ∃ (k : Nat) (Y : List Rv), i = .int .i64 k ∧ k ≤ X.length ∧ Hid (OwnX wr w.heap.size v Y) ∧ Hid (Below w.heap.size w wr) ∧ Hid (rcs Y = (rcs X).take k) ∧ Y.length = k) (fun _ i _ => X.length - (intOf i).toNat)
 case atStart => exact ⟨0, [], rfl, Nat.zero_le _, Lib.hid (OwnX.nil _ _), Lib.hid (Below.refl _ _), Lib.hid rfl, rfl⟩
 case round =>
  obtain ⟨k, Y, rfl, hk, HY, HW, HI, hyl⟩ := hrel
  by_cases hlt : k < X.length
  ·obtain ⟨x, hx⟩ : ∃ x, X[k]? = some x := ⟨_, List.getElem?_eq_getElem hlt⟩
   have hxm : x ∈ X := List.mem_of_getElem? hx
   obtain ⟨b4, cap4, u4, ev4, hu4, hc4, hl4, -, -⟩ := ownsRow_at HE.out hlt
   have hA4 := (Value.slice.inj ev4).1
   subst hA4
   obtain ⟨b3, hA3⟩ : ∃ b3, A3 = some ⟨b3, 0, none⟩ := by
    rcases HR.out.2 with ⟨_, h0⟩ | ⟨g, cap, cur, ev, _⟩
    ·omega
    ·exact ⟨g, (Value.slice.inj ev).1⟩
   subst hA3
   have hend : u4 = .int .i64 ((K.fb ((rcs X).take (k + 1))).length : Int) := by
    rw [List.getElem?_map, K.ends_get (by rw [rcs_len]; exact hlt)] at hu4
    simpa using hu4.symm
   subst hend
   have hle : ((K.fb ((rcs X).take (k + 1))).length : Int) ≤ m := by have := K.fb_take_le (rcs X) (k + 1); have := HF.out; omega
   have hw := HW.out
   have q4 : wr.cell? ⟨b4, k, none⟩ = some (.int .i64 ((K.fb ((rcs X).take (k + 1))).length : Int)) := (hw.cell (p := ⟨b4, k, none⟩) hl4).trans hc4
   have q2 : wr.cell? ⟨gc, 2, none⟩ = some (.slice (some ⟨b3, 0, none⟩) X.length k3) := (hw.cell (p := ⟨gc, 2, none⟩) (hold_lt HB.out)).trans (hold_cell HB.out 2 rfl)
   have hrr : wr.rangeAt b3 (k * 25) x.cells := owns_range (Wi.ownsRow_on HR.out hw) hx
   have HX := Lib.hid ((HT.out x hxm).below hw)
   have HMX := Lib.hid (HM.out x hxm)
   have HNX := Lib.hid (show (rcs X).take (k + 1) = (rcs X).take k ++ [x.r] by
    rw [List.take_add_one]; unfold rcs; rw [List.getElem?_map, hx]; rfl)
   have HRR := Lib.hid hrr
   have hsz : w.heap.size ≤ wr.heap.size := hw.size
   generalize ((K.fb ((rcs X).take (k + 1))).length : Int) = z at *
   clear hw hc4 hu4 ev4 hx hxm hrr
   have hk1 : (k : Int) < (X.length : Int) := by omega
   go_wp2_with (first
    | (with_reducible refine wpList_load_mid rfl 67 _ rfl b3 (k * 25) rfl x.cells _ HRR.out Tryz.underlying67 rfl (hsx x) ?_)
    | fail)
   refine (Wi.must_rec x.r HX.out.rs HX.out.ws (HMX.out.l) (HMX.out.l')).mono ?_
   rintro e w1 ⟨va, vb, rfl, o1, o2, hb1⟩
   have HY1 := Lib.hid (HY.out.below hb1)
   have HB1 := Lib.hid (below_on HW.out hb1)
   have o1' : Wi.OwnR w.heap.size w1 va x.r.c.rs := by obtain ⟨B, hB, q⟩ := o1; exact ⟨B, by omega, q⟩
   have o2' : Wi.OwnW w.heap.size w1 vb x.r.c.ws := by obtain ⟨B, hB, q⟩ := o2; exact ⟨B, by omega, q⟩
   have HO1 := Lib.hid o1'
   have HO2 := Lib.hid o2'
   have HS := Lib.hid (Nat.le_trans hsz hb1.size)
   clear o1 o2 o1' o2' hb1 HRR HX HMX
   subst hyl
   go_wp2_with (first
    | (with_reducible refine wpList_build67 rfl (.tmp 30) rfl ⟨x.r, va, vb⟩ rfl ?_)
    | (at_builtin; refine wpList_append_own _ rfl _ _ 31 rfl w.heap.size 67 i0 Rv.zero.val 25 232 Tryz.underlying31 hi hz0 hz1 hz2 rfl (by decide) _ _ _ rfl (HY1.out.row.alloc _) ⟨w1.heap.size, 0, none⟩ 1 1 (Rv.cells ⟨x.r, va, vb⟩) rfl rfl (rec_new w1 ⟨x.r, va, vb⟩) (rec_one (x := ⟨x.r, va, vb⟩) HO1.out HO2.out) (by unfold maxLen; omega) (by omega) (by simp; have := HS.out; omega) ?_; intro v' w2 hown' hgrow hnil))
   have hba : Below w1.heap.size w1 (w1.alloc (.cells (Rv.cells ⟨x.r, va, vb⟩).toArray 67)) := (Below.refl _ _).alloc (Nat.le_refl _) _
   have HY2 := Lib.hid ((HY1.out.below hba).snoc (x := ⟨x.r, va, vb⟩) (ownR_on HO1.out hba) (ownW_on HO2.out hba) hown' hgrow)
   have HB2 := Lib.hid ((below_on HB1.out hba).grown hgrow (by simp; have := HS.out; omega) (fun k hk => (HY1.out.row.lt k hk).1))
   clear hown' hgrow hnil hba
   go_roundw
   case rel => exact ⟨Y.length + 1, Y ++ [⟨x.r, va, vb⟩], by go_num, hlt, HY2, HB2, Lib.hid (by rw [rcs_snoc, HI.out, HNX.out]), by simp⟩
   case measure => simp [intOf]; omega
  ·obtain rfl : k = X.length := by omega
   go_wp2
   go_ret
   exact ⟨_, Y, rfl, by rw [HI.out, ← rcs_len, List.take_length], HY.out, HW.out⟩
end Go.Proofs.YtdachohcjpjblaaGreatDoor
