/- Contract of the function that takes in one record more; no conditions but those that it names. -/
import Derived.Test.YtdachohcjpjblaaGreatDoorFCt
import Derived.Deep.RegionHeld3
import Derived.IntWalk
import Derived.Great.BuildSlice
set_option maxHeartbeats 8000000
set_option maxRecDepth 100000
namespace Go.Proofs.YtdachohcjpjblaaGreatDoor
open Go.ChangeShapes Go.WideShapes Go.ChangeAt Go.RowKit
open Di (Keeps In)
open Wi (Hold)
theorem hold_ne {w : World} {a b : Nat} {t u : TypeId} {L M : List Value} (h : Hold w a t L) (h' : Hold w b u M) (ht : t ≠ u) : a ≠ b := by
 rintro rfl
 unfold Wi.Hold at h h'
 rw [h] at h'
 simp only [Option.some.injEq, Obj.cells.injEq] at h'
 exact ht h'.2.1
theorem hold_own {w : World} {b base k n : Nat} {t u : TypeId} {L xs : List Value} {v : Value} (h : Hold w b t L) (h' : w.ownsRow base u k v n xs) (ht : t ≠ u) : ∀ x, v.ownBlock = some x → ¬ x = b := by
 rintro x e rfl
 obtain ⟨cur, hc⟩ := owns_lt h' x e
 unfold Wi.Hold at h
 rw [h] at hc
 simp only [Option.some.injEq, Obj.cells.injEq] at hc
 exact ht hc.2.1
theorem hold_alloc {w : World} {b : Nat} {t : TypeId} {L : List Value} (h : Hold w b t L) (o : Obj) : Hold (w.alloc o) b t L := hold_keeps h ((Keeps.refl (fun _ => False) w).alloc o) id
theorem Ct.box {w : World} {gc : Nat} {F : Nat → Prop} {X : List Rv} {E : List Int} {m : List (Ky × Rv)} {rest : Int} {fr vr ve : Value} {gm be : Nat} {e : Int} (h : Ct w gc F X E m rest fr vr ve gm) (hb : Hold w be 3 [.int .i64 e]) (fb : F be) (nv : ∀ b, ve.ownBlock = some b → ¬ b = be) (n : Value) :
 Ct (w.setCell ⟨be, 0, none⟩ n) gc F X E m rest fr vr ve gm ∧ Keeps F w (w.setCell ⟨be, 0, none⟩ n) := by
 have k : Keeps (fun x => x = be) w (w.setCell ⟨be, 0, none⟩ n) := (Keeps.refl (fun x => x = be) w).setCell (p := ⟨be, 0, none⟩) (.inl rfl) n
 refine ⟨h.store k (fun x e => e ▸ fb) (hold_ne h.blk hb (by decide)) ?_ (hold_own hb h.row (by decide)) nv, k.wide fun x _ e => e ▸ fb⟩
 have := hb
 unfold Wi.Hold at this
 exact (h.mp.apart this).symm
theorem step_appr {P : Program} {ops : Array Oper} {o : Oper} {a : Act} {w : World} {K : Act → World → Prop} {Q : Exit → Act → World → Prop} {E : Prop}
 (hg : o.guard = none) (s x : Operand) (t tn : TypeId) (hop : o.op = Op.call { callee := Callee.builtin Builtin.append, args := #[s, x], argTypes := #[t, tn] })
 (vs vx : Value) (hs : a.eval s = vs) (hx : a.eval x = vx) (v' : Value) (w' : World) (hr : (Builtin.append_ #[t, tn] o.type #[vs, vx]).run P w = .ok v' w')
 (hK : K (a.put o.dst v') w') : if Region.wanted o (yielded ops a.tmps) = true then Oper.wp P o a w K Q else E := by
 have hw : Region.wanted o (yielded ops a.tmps) = true := by simp [Region.wanted, hg]
 rw [if_pos hw]
 unfold Oper.wp
 simp [execOp, hop, resolve, invoke, builtin, hs, hx, hr, Result.andThen]
 exact hK
theorem fill_rec (x : Rv) : Instr.fill (fun i => some (i * 25, 25)) ((Array.range (1 * 25)).map (Rv.zero.val.cells[· % Rv.zero.val.cells.size]!)) [(0, Value.agg x.cells.toArray)] = some x.cells.toArray := by kernel_rfl
theorem step_build67 {ops : Array Oper} {o : Oper} {a : Act} {w : World} {K : Act → World → Prop} {Q : Exit → Act → World → Prop} {E : Prop} (hg : o.guard = none) (y : Operand) (ho : o.op = .buildSlice 31 1 #[(0, y)]) (x : Rv) (hy : a.eval y = .agg x.cells.toArray)
 (hK : K (a.put o.dst (.slice (some ⟨w.heap.size, 0, none⟩) 1 1)) (w.alloc (.cells x.cells.toArray 67))) : if Region.wanted o (yielded ops a.tmps) = true then Oper.wp Tryz.prog o a w K Q else E := by
 rw [if_pos (by simp [Region.wanted, hg])]
 obtain ⟨i0, hi, hz0, hz1, hz2⟩ := info_parts info67
 refine wp_buildSlice 31 67 1 #[(0, y)] ho x.cells.toArray i0 Rv.zero.val Tryz.underlying31 hi hz0 (by rw [hz1]; omega) (by rw [hz1]; omega) ?_ hK
 rw [hz1]
 simp only [List.map_toArray, List.map_cons, List.map_nil, hy]
 exact fill_rec x
theorem col_any {w : World} {gc : Nat} {F : Nat → Prop} {X : List Rv} {E : List Int} {m : List (Ky × Rv)} {rest : Int} {fr vr ve : Value} {gm be bc : Nat} {e sz : Int} (h : Ct w gc F X E m rest fr vr ve gm) (hb : Hold w be 3 [.int .i64 e]) (fb : F be) (nv : ∀ b, ve.ownBlock = some b → ¬ b = be)
 (hc : Hold w bc 83 [.pointer (some ⟨gc, 0, none⟩)]) (nc : ¬ F bc) (x : Rv) (hx : Tx w F x) (he : 0 ≤ e ∧ e ≤ 1000000000) (hs : 0 ≤ sz ∧ sz ≤ 1000000000) (hl : X.length ≤ 500000) (hl' : E.length ≤ 500000) :
 Calls Tryz.prog 76 #[.agg x.cells.toArray,.int .i64 sz,.pointer (some ⟨be, 0, none⟩),.pointer (some ⟨bc, 0, none⟩)] w fun e' w' => e' = .returned (.tuple #[]) ∧ ∃ F' vr' ve',
  Ct w' gc F' (X ++ [x]) (E ++ [e + sz]) (mput m x.key x) rest fr vr' ve' gm ∧ Hold w' be 3 [.int .i64 (e + sz)] ∧ (∀ y, F y → F' y) ∧ (∀ b, ve'.ownBlock = some b → ¬ b = be) ∧ Keeps F w w' ∧ Di.Grew F F' w w' := by
 have c0 := hold_cell hb 0 rfl
 have z0 := hold_soft hb 0
 have l0 := hold_lt hb
 have c1 := hold_cell hc 0 rfl
 have l1 := hold_lt hc
 have e1 : IntKind.i64.wrap (e + sz) = e + sz := IntWalk.i64_in _ (by omega)
 have H0 := Lib.hid h
 have HB := Lib.hid hb
 have HC := Lib.hid hc
 have HX := Lib.hid hx
 have HN := Lib.hid nv
 have HF := Lib.hid fb
 have HM := Lib.hid nc
 have HL := Lib.hid hl
 have HE := Lib.hid hl'
 clear h hb hc hx nv fb nc hl hl' he hs
 go_enter Tryz.func76, Tryz.ntmps76
 go_wp2
 obtain ⟨C0, K0⟩ := H0.out.box HB.out HF.out HN.out (.int .i64 (e + sz))
 obtain ⟨W1, hW1⟩ : ∃ W1, W1 = (w.setCell ⟨be, 0, none⟩ (.int .i64 (e + sz))).alloc (.cells x.cells.toArray 67) := ⟨_, rfl⟩
 have kb : Below (w.setCell ⟨be, 0, none⟩ (.int .i64 (e + sz))).heap.size (w.setCell ⟨be, 0, none⟩ (.int .i64 (e + sz))) W1 := by rw [hW1]; exact (Below.refl _ _).alloc (Nat.le_refl _) _
 have hb2 : Hold W1 be 3 [.int .i64 (e + sz)] := by rw [hW1]; exact hold_alloc (hold_put HB.out 0 _) _
 have kF : Keeps F w W1 := K0.trans (Keeps.of_below (F := F) kb) (fun _ _ e => e)
 have hc1 : Hold W1 bc 83 [.pointer (some ⟨gc, 0, none⟩)] := hold_keeps HC.out kF HM.out
 have hx1 : Hold W1 w.heap.size 67 x.cells := by
  have := Wi.Hold.new (w.setCell ⟨be, 0, none⟩ (.int .i64 (e + sz))) x.cells 67
  rw [Di.size_set] at this
  rw [hW1]; exact this
 have C1 : Ct W1 gc F X E m rest fr vr ve gm := C0.below kb
 have T1 : Tx W1 F x := HX.out.step kF (fun _ f => .inl f)
 rw [← hW1]
 have HC1 := Lib.hid C1
 have HT1 := Lib.hid T1
 have HB2 := Lib.hid hb2
 have HCC := Lib.hid hc1
 have HX1 := Lib.hid hx1
 have HK := Lib.hid kF
 have HX0 := Lib.hid (show ¬ F w.heap.size from fun f => by have := H0.out.lt _ f; omega)
 clear C0 K0 kb hb2 kF hc1 hx1 C1 T1 hW1 c0 z0 l0 c1 l1
 obtain ⟨Wd, hWd⟩ : ∃ W', W' = W1.drew := ⟨_, rfl⟩
 have kd : Below W1.heap.size W1 Wd := by rw [hWd]; exact (Below.refl _ W1).drew
 have HCd := Lib.hid (HC1.out.below kd)
 have HTd := Lib.hid (HT1.out.step (Keeps.of_below (F := F) kd) (fun _ f => .inl f))
 have HCCd := Lib.hid (hold_keeps HCC.out (Keeps.of_below (F := F) kd) HM.out)
 have HXd := Lib.hid (hold_keeps (G := fun _ => False) HX1.out (Keeps.of_below kd) id)
 have HB2d := Lib.hid (hold_keeps (G := fun _ => False) HB2.out (Keeps.of_below kd) id)
 have HKd := Lib.hid (HK.out.on kd)
 clear HC1 HT1 HCC HX1 HB2 HK kd
 have LS1 := HKd.out.size
 have LS1 := Lib.hid LS1
 obtain ⟨v2, w2, hrun, hcell, hsoft, hcst, hkp, hsz, hkn⟩ := HCd.out.putR x HTd.out HL.out
 obtain ⟨A2, k2, hv2⟩ := Wi.ownsRow_slice hcst.row
 rw [List.length_append, List.length_singleton] at hv2
 subst hv2
 have hi : (Tryz.prog.info? 67).map (·.size) = some x.cells.length := by kernel_rfl
 have g2 : Wd.cell? ⟨gc, 2, none⟩ = some vr := hold_cell HCd.out.blk 2 rfl
 have c1 : Wd.cell? ⟨bc, 0, none⟩ = some (.pointer (some ⟨gc, 0, none⟩)) := hold_cell HCCd.out 0 rfl
 have r1 : Wd.rangeAt w.heap.size 0 x.cells := HXd.out.cel.whole
 have ka : Below Wd.heap.size Wd (Wd.alloc (.cells x.cells.toArray 67)) := (Below.refl _ _).alloc (Nat.le_refl _) _
 have g2a : (Wd.alloc (.cells x.cells.toArray 67)).cell? ⟨gc, 2, none⟩ = some vr := (ka.cell (p := ⟨gc, 2, none⟩) (hold_lt HCd.out.blk)).trans g2
 have c1a : (Wd.alloc (.cells x.cells.toArray 67)).cell? ⟨bc, 0, none⟩ = some (.pointer (some ⟨gc, 0, none⟩)) := (ka.cell (p := ⟨bc, 0, none⟩) (hold_lt HCCd.out)).trans c1
 have r1a : (Wd.alloc (.cells x.cells.toArray 67)).rangeAt w.heap.size 0 x.cells := (hold_alloc (w := Wd) (b := w.heap.size) (t := 67) (L := x.cells) HXd.out _).cel.whole
 have nX : ¬ (w.heap.size = gc ∨ vr.ownBlock = some w.heap.size) := fun e => e.elim (fun e => hold_ne HXd.out HCd.out.blk (by decide) e) (fun e => HX0.out (by have := H0.out.fvr _ e; exact this))
 have nC : ¬ (bc = gc ∨ vr.ownBlock = some bc) := fun e => e.elim (fun e => HM.out (e ▸ H0.out.fgc)) (fun e => HM.out (H0.out.fvr _ e))
 have nB : ¬ (be = gc ∨ vr.ownBlock = some be) := fun e => e.elim (fun e => hold_ne HB2d.out HCd.out.blk (by decide) e) (fun e => hold_own HB2d.out HCd.out.row (by decide) _ e rfl)
 obtain ⟨W2, hW2⟩ : ∃ W', W' = w2.setCell ⟨gc, 2, none⟩ (.slice A2 (X.length + 1) k2) := ⟨_, rfl⟩
 rw [← hW2] at hcst hkp hkn
 have HX2 := Lib.hid (hold_keeps HXd.out hkn nX)
 have HCC2 := Lib.hid (hold_keeps HCCd.out hkn nC)
 have HB3 := Lib.hid (hold_keeps HB2d.out hkn nB)
 have HC2 := Lib.hid hcst
 have HK2 := Lib.hid (HKd.out.trans hkp (fun _ _ e => e))
 have HT2 := Lib.hid (HTd.out.step hkp (F' := Add F Wd w2) (fun y e => e.imp id (·.1)))
 have LW2 := Lib.hid (show W2.heap.size = w2.heap.size by rw [hW2, Di.size_set])
 have hb2 : Keeps (fun y => y = gc) w2 W2 := by rw [hW2]; exact (Keeps.refl (fun y => y = gc) w2).setCell (p := ⟨gc, 2, none⟩) (.inl rfl) _
 have c2 : w2.cell? ⟨bc, 0, none⟩ = some (.pointer (some ⟨gc, 0, none⟩)) := (hb2.cell (p := ⟨bc, 0, none⟩) (by have := hold_lt HCCd.out; show bc < _; omega) (fun e => nC (.inl e))).symm.trans (hold_cell HCC2.out 0 rfl)
 have r2 : w2.rangeAt w.heap.size 0 x.cells := fun j v hj => (hb2.cell (p := ⟨w.heap.size, 0 + j, none⟩) (by have := hold_lt HXd.out; show w.heap.size < _; omega) (fun e => nX (.inl e))).symm.trans (HX2.out.cel.whole j v hj)
 have c3 : W2.cell? ⟨bc, 0, none⟩ = some (.pointer (some ⟨gc, 0, none⟩)) := hold_cell HCC2.out 0 rfl
 have r3 : W2.rangeAt w.heap.size 0 x.cells := HX2.out.cel.whole
 have HWa := Lib.hid hW2
 rw [hW2] at c3 r3
 clear hcst hkp hkn hW2 hb2 HTd HX0 HKd
 refine wp_region_held_drew (S := fun w' => w'.cell? ⟨bc, 0, none⟩ = some (.pointer (some ⟨gc, 0, none⟩)) ∧ w'.rangeAt w.heap.size 0 x.cells) (by kernel_rfl) (by rw [← hWd]; exact ⟨c1, r1⟩) (fun hHeld => ?_)
 rw [← hWd] at hHeld ⊢
 clear hWd
 refine wpAnyH_take (i := 0) (v := ?_) rfl (by kernel_rfl) (by kernel_rfl) (by kernel_rfl) (fun _ _ _ h => h) (Or.inl ⟨by rfl, ?_⟩) (by assumption) ?_
 rotate_left
 ·(intro w hSw; (try dsimp only at hSw); go_split_ands; go_simp; (try with_reducible rfl))
 (try simp only [Act.put]); (try simp only [List.setIfInBounds_toArray]); (try simp only [List.set_cons_succ]); (try simp only [List.set_cons_zero])
 refine wpAnyH_take (i := 1) (v := ?_) rfl (by kernel_rfl) (by kernel_rfl) (by kernel_rfl) (fun _ _ _ h => h) (Or.inl ⟨by rfl, ?_⟩) (by assumption) ?_
 rotate_left
 ·(intro w hSw; (try dsimp only at hSw); go_split_ands; go_simp; (try with_reducible rfl))
 (try simp only [Act.put]); (try simp only [List.setIfInBounds_toArray]); (try simp only [List.set_cons_succ]); (try simp only [List.set_cons_zero])
 refine wpAnyH_take (i := 2) (v := ?_) rfl (by kernel_rfl) (by kernel_rfl) (by kernel_rfl) (fun _ _ _ h => h) (Or.inl ⟨by rfl, ?_⟩) (by assumption) ?_
 rotate_left
 ·(intro w hSw; (try dsimp only at hSw); go_split_ands; go_simp; (try with_reducible rfl))
 (try simp only [Act.put]); (try simp only [List.setIfInBounds_toArray]); (try simp only [List.set_cons_succ]); (try simp only [List.set_cons_zero])
 refine wpAnyH_take (i := 3) (v := ?_) rfl (by kernel_rfl) (by kernel_rfl) (by kernel_rfl) (fun _ _ _ h => h) (Or.inl ⟨by rfl, ?_⟩) (by assumption) ?_
 rotate_left
 ·(intro w hSw; (try dsimp only at hSw); go_split_ands; go_simp; (try with_reducible rfl))
 (try simp only [Act.put]); (try simp only [List.setIfInBounds_toArray]); (try simp only [List.set_cons_succ]); (try simp only [List.set_cons_zero])
 refine wpAnyH_take (i := 5) (v := .agg (x.cells).toArray) rfl (by kernel_rfl) (by kernel_rfl) (by kernel_rfl) (fun _ _ _ h => h) (yieldsIf_load_mid (by rfl) 67 _ rfl w.heap.size 0 rfl x.cells _ (fun w hSw => hSw.2) Tryz.underlying67 rfl hi) (by assumption) ?_
 (try simp only [Act.put]); (try simp only [List.setIfInBounds_toArray]); (try simp only [List.set_cons_succ]); (try simp only [List.set_cons_zero])
 refine wpAnyH_ready (rs := [4, 6]) (by kernel_rfl) (by simp) ?_
 refine AllReadyH.cons rfl (fun K hK => ?_) (AllReadyH.cons rfl (fun K hK => ?_) AllReadyH.nil)
 focus
  go_simp
  refine hK.out _ _ ⟨c1, r1⟩ (fun hHeld => ?_)
  clear hK K
  (try simp only [Act.put]); (try simp only [List.setIfInBounds_toArray]); (try simp only [List.set_cons_succ]); (try simp only [List.set_cons_zero])
  refine wpAnyH_ready (rs := [6]) (by kernel_rfl) (by simp) ?_
  refine AllReadyH.cons rfl (fun K hK => ?_) AllReadyH.nil
  refine step_build67 rfl (.tmp 14) rfl x (by simp [Act.eval]) ?_
  refine hK.out _ _ ⟨c1a, r1a⟩ (fun hHeld => ?_)
  clear hK K
  (try simp only [Act.put]); (try simp only [List.setIfInBounds_toArray]); (try simp only [List.set_cons_succ]); (try simp only [List.set_cons_zero])
  refine wpAnyH_ready (rs := [7]) (by kernel_rfl) (by simp) ?_
  refine AllReadyH.cons rfl (fun K hK => ?_) AllReadyH.nil
  refine step_appr rfl (.tmp 13) (.tmp 15) 31 31 rfl _ _ (by simp [Act.eval]) (by simp [Act.eval]) _ _ hrun ?_
  refine hK.out _ _ ⟨c2, r2⟩ (fun hHeld => ?_)
  clear hK K
  (try simp only [Act.put]); (try simp only [List.setIfInBounds_toArray]); (try simp only [List.set_cons_succ]); (try simp only [List.set_cons_zero])
  refine wpAnyH_take (i := 8) (v := ?_) rfl (by kernel_rfl) (by kernel_rfl) (by kernel_rfl) (fun _ _ _ h => h) (Or.inl ⟨by rfl, ?_⟩) (by assumption) ?_
  rotate_left
  ·(intro w hSw; (try dsimp only at hSw); go_split_ands; go_simp; (try with_reducible rfl))
  (try simp only [Act.put]); (try simp only [List.setIfInBounds_toArray]); (try simp only [List.set_cons_succ]); (try simp only [List.set_cons_zero])
  refine wpAnyH_take (i := 9) (v := ?_) rfl (by kernel_rfl) (by kernel_rfl) (by kernel_rfl) (fun _ _ _ h => h) (Or.inl ⟨by rfl, ?_⟩) (by assumption) ?_
  rotate_left
  ·(intro w hSw; (try dsimp only at hSw); go_split_ands; go_simp; (try with_reducible rfl))
  (try simp only [Act.put]); (try simp only [List.setIfInBounds_toArray]); (try simp only [List.set_cons_succ]); (try simp only [List.set_cons_zero])
  refine wpAnyH_ready (rs := [10]) (by kernel_rfl) (by simp) ?_
  refine AllReadyH.cons rfl (fun K hK => ?_) AllReadyH.nil
  go_simp
  refine hK.out _ _ ⟨c3, r3⟩ (fun hHeld => ?_)
  clear hK K
  (try simp only [Act.put]); (try simp only [List.setIfInBounds_toArray]); (try simp only [List.set_cons_succ]); (try simp only [List.set_cons_zero])
  refine wpAnyH_done (by kernel_rfl) ?_ _
 rotate_left
 focus
  refine step_build67 rfl (.tmp 14) rfl x (by simp [Act.eval]) ?_
  refine hK.out _ _ ⟨c1a, r1a⟩ (fun hHeld => ?_)
  clear hK K
  (try simp only [Act.put]); (try simp only [List.setIfInBounds_toArray]); (try simp only [List.set_cons_succ]); (try simp only [List.set_cons_zero])
  refine wpAnyH_ready (rs := [4]) (by kernel_rfl) (by simp) ?_
  refine AllReadyH.cons rfl (fun K hK => ?_) AllReadyH.nil
  go_simp
  refine hK.out _ _ ⟨c1a, r1a⟩ (fun hHeld => ?_)
  clear hK K
  (try simp only [Act.put]); (try simp only [List.setIfInBounds_toArray]); (try simp only [List.set_cons_succ]); (try simp only [List.set_cons_zero])
  refine wpAnyH_ready (rs := [7]) (by kernel_rfl) (by simp) ?_
  refine AllReadyH.cons rfl (fun K hK => ?_) AllReadyH.nil
  refine step_appr rfl (.tmp 13) (.tmp 15) 31 31 rfl _ _ (by simp [Act.eval]) (by simp [Act.eval]) _ _ hrun ?_
  refine hK.out _ _ ⟨c2, r2⟩ (fun hHeld => ?_)
  clear hK K
  (try simp only [Act.put]); (try simp only [List.setIfInBounds_toArray]); (try simp only [List.set_cons_succ]); (try simp only [List.set_cons_zero])
  refine wpAnyH_take (i := 8) (v := ?_) rfl (by kernel_rfl) (by kernel_rfl) (by kernel_rfl) (fun _ _ _ h => h) (Or.inl ⟨by rfl, ?_⟩) (by assumption) ?_
  rotate_left
  ·(intro w hSw; (try dsimp only at hSw); go_split_ands; go_simp; (try with_reducible rfl))
  (try simp only [Act.put]); (try simp only [List.setIfInBounds_toArray]); (try simp only [List.set_cons_succ]); (try simp only [List.set_cons_zero])
  refine wpAnyH_take (i := 9) (v := ?_) rfl (by kernel_rfl) (by kernel_rfl) (by kernel_rfl) (fun _ _ _ h => h) (Or.inl ⟨by rfl, ?_⟩) (by assumption) ?_
  rotate_left
  ·(intro w hSw; (try dsimp only at hSw); go_split_ands; go_simp; (try with_reducible rfl))
  (try simp only [Act.put]); (try simp only [List.setIfInBounds_toArray]); (try simp only [List.set_cons_succ]); (try simp only [List.set_cons_zero])
  refine wpAnyH_ready (rs := [10]) (by kernel_rfl) (by simp) ?_
  refine AllReadyH.cons rfl (fun K hK => ?_) AllReadyH.nil
  go_simp
  refine hK.out _ _ ⟨c3, r3⟩ (fun hHeld => ?_)
  clear hK K
  (try simp only [Act.put]); (try simp only [List.setIfInBounds_toArray]); (try simp only [List.set_cons_succ]); (try simp only [List.set_cons_zero])
  refine wpAnyH_done (by kernel_rfl) ?_ _
 all_goals
  rw [← HWa.out]
  clear hHeld c1 r1 ka g2 g2a c1a r1a c2 r2 c3 r3 hrun hcell hsoft hsz HWa HCd HCCd HXd HB2d nX nC nB LW2
  go_wp2
  obtain ⟨We, hWe⟩ : ∃ W', W' = W2.drew := ⟨_, rfl⟩
  have kd : Below W2.heap.size W2 We := by rw [hWe]; exact (Below.refl _ W2).drew
  have HCd := Lib.hid (HC2.out.below kd)
  have HTd := Lib.hid (HT2.out.step (Keeps.of_below (F := Add F Wd w2) kd) (fun _ f => .inl f))
  have HCCd := Lib.hid (hold_keeps (G := fun _ => False) HCC2.out (Keeps.of_below kd) id)
  have HXd := Lib.hid (hold_keeps (G := fun _ => False) HX2.out (Keeps.of_below kd) id)
  have HB2d := Lib.hid (hold_keeps (G := fun _ => False) HB3.out (Keeps.of_below kd) id)
  have HKd := Lib.hid (HK2.out.on kd)
  clear HC2 HT2 HCC2 HX2 HB3 HK2 kd
  have LS2 := HKd.out.size
  have LS2 := Lib.hid LS2
  obtain ⟨v3, w3, hrun, hcell, hsoft, hcst, hkp, hsz, hloc, hkn⟩ := HCd.out.putE (e + sz) HE.out
  obtain ⟨A3, k3, hv3⟩ := Wi.ownsRow_slice hcst.ends
  rw [List.length_append, List.length_singleton] at hv3
  subst hv3
  have g2 : We.cell? ⟨gc, 3, none⟩ = some ve := hold_cell HCd.out.blk 3 rfl
  have c1 : We.cell? ⟨bc, 0, none⟩ = some (.pointer (some ⟨gc, 0, none⟩)) := hold_cell HCCd.out 0 rfl
  have b1 : We.cell? ⟨be, 0, none⟩ = some (.int .i64 (e + sz)) := hold_cell HB2d.out 0 rfl
  have ka : Below We.heap.size We (We.alloc (.cells #[.int .i64 (e + sz)] 3)) := (Below.refl _ _).alloc (Nat.le_refl _) _
  have g2a : (We.alloc (.cells #[.int .i64 (e + sz)] 3)).cell? ⟨gc, 3, none⟩ = some ve := (ka.cell (p := ⟨gc, 3, none⟩) (hold_lt HCd.out.blk)).trans g2
  have c1a : (We.alloc (.cells #[.int .i64 (e + sz)] 3)).cell? ⟨bc, 0, none⟩ = some (.pointer (some ⟨gc, 0, none⟩)) := (ka.cell (p := ⟨bc, 0, none⟩) (hold_lt HCCd.out)).trans c1
  have b1a : (We.alloc (.cells #[.int .i64 (e + sz)] 3)).cell? ⟨be, 0, none⟩ = some (.int .i64 (e + sz)) := (ka.cell (p := ⟨be, 0, none⟩) (hold_lt HB2d.out)).trans b1
  have nX : ¬ (w.heap.size = gc ∨ ve.ownBlock = some w.heap.size) := fun e => e.elim (fun e => hold_ne HXd.out HCd.out.blk (by decide) e) (fun e => hold_own HXd.out HCd.out.ends (by decide) _ e rfl)
  have nC : ¬ (bc = gc ∨ ve.ownBlock = some bc) := fun e => e.elim (fun e => HM.out (e ▸ H0.out.fgc)) (fun e => HM.out (H0.out.fve _ e))
  have nB : ¬ (be = gc ∨ ve.ownBlock = some be) := fun e => e.elim (fun e => hold_ne HB2d.out HCd.out.blk (by decide) e) (fun e => HN.out _ e rfl)
  obtain ⟨W3, hW3⟩ : ∃ W', W' = w3.setCell ⟨gc, 3, none⟩ (.slice A3 (E.length + 1) k3) := ⟨_, rfl⟩
  rw [← hW3] at hcst hkp hkn
  have HX2 := Lib.hid (hold_keeps HXd.out hkn nX)
  have HCC2 := Lib.hid (hold_keeps HCCd.out hkn nC)
  have HB3 := Lib.hid (hold_keeps HB2d.out hkn nB)
  have HC2 := Lib.hid hcst
  have HK2 := Lib.hid (HKd.out.trans hkp (fun y hy hy' => hy'.elim id (fun e => (by have := e.1; have := LS1.out; omega))))
  have HT2 := Lib.hid (HTd.out.step hkp (F' := Add (Add F Wd w2) We w3) (fun y e => e.imp id (·.1)))
  have HN3 := Lib.hid (show ∀ b, (Value.slice A3 (E.length + 1) k3).ownBlock = some b → ¬ b = be from fun b hb hbe => by
   rcases hloc with h1 | h1
   ·exact HN.out b (h1.symm.trans hb) hbe
   ·rw [h1] at hb; cases hb; have := hold_lt HB2d.out; omega)
  have hb2 : Keeps (fun y => y = gc) w3 W3 := by rw [hW3]; exact (Keeps.refl (fun y => y = gc) w3).setCell (p := ⟨gc, 3, none⟩) (.inl rfl) _
  have c2 : w3.cell? ⟨bc, 0, none⟩ = some (.pointer (some ⟨gc, 0, none⟩)) := (hb2.cell (p := ⟨bc, 0, none⟩) (by have := hold_lt HCCd.out; show bc < _; omega) (fun e => nC (.inl e))).symm.trans (hold_cell HCC2.out 0 rfl)
  have b2 : w3.cell? ⟨be, 0, none⟩ = some (.int .i64 (e + sz)) := (hb2.cell (p := ⟨be, 0, none⟩) (by have := hold_lt HB2d.out; show be < _; omega) (fun e => nB (.inl e))).symm.trans (hold_cell HB3.out 0 rfl)
  have c3 : W3.cell? ⟨bc, 0, none⟩ = some (.pointer (some ⟨gc, 0, none⟩)) := hold_cell HCC2.out 0 rfl
  have b3 : W3.cell? ⟨be, 0, none⟩ = some (.int .i64 (e + sz)) := hold_cell HB3.out 0 rfl
  have HWa := Lib.hid hW3
  rw [hW3] at c3 b3
  clear hcst hkp hkn hW3 hb2 HTd HKd hloc
  refine wp_region_held_drew (S := fun w' => w'.cell? ⟨bc, 0, none⟩ = some (.pointer (some ⟨gc, 0, none⟩)) ∧ w'.cell? ⟨be, 0, none⟩ = some (.int .i64 (e + sz))) (by kernel_rfl) (by rw [← hWe]; exact ⟨c1, b1⟩) (fun hHeld => ?_)
  rw [← hWe] at hHeld ⊢
  clear hWe
  refine wpAnyH_take (i := 0) (v := ?_) rfl (by kernel_rfl) (by kernel_rfl) (by kernel_rfl) (fun _ _ _ h => h) (Or.inl ⟨by rfl, ?_⟩) (by assumption) ?_
  rotate_left
  ·(intro w hSw; (try dsimp only at hSw); go_split_ands; go_simp; (try with_reducible rfl))
  (try simp only [Act.put]); (try simp only [List.setIfInBounds_toArray]); (try simp only [List.set_cons_succ]); (try simp only [List.set_cons_zero])
  refine wpAnyH_take (i := 1) (v := ?_) rfl (by kernel_rfl) (by kernel_rfl) (by kernel_rfl) (fun _ _ _ h => h) (Or.inl ⟨by rfl, ?_⟩) (by assumption) ?_
  rotate_left
  ·(intro w hSw; (try dsimp only at hSw); go_split_ands; go_simp; (try with_reducible rfl))
  (try simp only [Act.put]); (try simp only [List.setIfInBounds_toArray]); (try simp only [List.set_cons_succ]); (try simp only [List.set_cons_zero])
  refine wpAnyH_take (i := 2) (v := ?_) rfl (by kernel_rfl) (by kernel_rfl) (by kernel_rfl) (fun _ _ _ h => h) (Or.inl ⟨by rfl, ?_⟩) (by assumption) ?_
  rotate_left
  ·(intro w hSw; (try dsimp only at hSw); go_split_ands; go_simp; (try with_reducible rfl))
  (try simp only [Act.put]); (try simp only [List.setIfInBounds_toArray]); (try simp only [List.set_cons_succ]); (try simp only [List.set_cons_zero])
  refine wpAnyH_take (i := 3) (v := ?_) rfl (by kernel_rfl) (by kernel_rfl) (by kernel_rfl) (fun _ _ _ h => h) (Or.inl ⟨by rfl, ?_⟩) (by assumption) ?_
  rotate_left
  ·(intro w hSw; (try dsimp only at hSw); go_split_ands; go_simp; (try with_reducible rfl))
  (try simp only [Act.put]); (try simp only [List.setIfInBounds_toArray]); (try simp only [List.set_cons_succ]); (try simp only [List.set_cons_zero])
  refine wpAnyH_take (i := 5) (v := ?_) rfl (by kernel_rfl) (by kernel_rfl) (by kernel_rfl) (fun _ _ _ h => h) (Or.inl ⟨by rfl, ?_⟩) (by assumption) ?_
  rotate_left
  ·(intro w hSw; (try dsimp only at hSw); go_split_ands; go_simp; (try with_reducible rfl))
  (try simp only [Act.put]); (try simp only [List.setIfInBounds_toArray]); (try simp only [List.set_cons_succ]); (try simp only [List.set_cons_zero])
  refine wpAnyH_ready (rs := [4, 6]) (by kernel_rfl) (by simp) ?_
  refine AllReadyH.cons rfl (fun K hK => ?_) (AllReadyH.cons rfl (fun K hK => ?_) AllReadyH.nil)
  focus
   go_simp
   refine hK.out _ _ ⟨c1, b1⟩ (fun hHeld => ?_)
   clear hK K
   (try simp only [Act.put]); (try simp only [List.setIfInBounds_toArray]); (try simp only [List.set_cons_succ]); (try simp only [List.set_cons_zero])
   refine wpAnyH_ready (rs := [6]) (by kernel_rfl) (by simp) ?_
   refine AllReadyH.cons rfl (fun K hK => ?_) AllReadyH.nil
   go_simp
   refine hK.out _ _ ⟨c1a, b1a⟩ (fun hHeld => ?_)
   clear hK K
   (try simp only [Act.put]); (try simp only [List.setIfInBounds_toArray]); (try simp only [List.set_cons_succ]); (try simp only [List.set_cons_zero])
   refine wpAnyH_ready (rs := [7]) (by kernel_rfl) (by simp) ?_
   refine AllReadyH.cons rfl (fun K hK => ?_) AllReadyH.nil
   refine step_appr rfl (.tmp 23) (.tmp 25) 84 84 rfl _ _ (by simp [Act.eval]) (by simp [Act.eval]) _ _ hrun ?_
   refine hK.out _ _ ⟨c2, b2⟩ (fun hHeld => ?_)
   clear hK K
   (try simp only [Act.put]); (try simp only [List.setIfInBounds_toArray]); (try simp only [List.set_cons_succ]); (try simp only [List.set_cons_zero])
   refine wpAnyH_take (i := 8) (v := ?_) rfl (by kernel_rfl) (by kernel_rfl) (by kernel_rfl) (fun _ _ _ h => h) (Or.inl ⟨by rfl, ?_⟩) (by assumption) ?_
   rotate_left
   ·(intro w hSw; (try dsimp only at hSw); go_split_ands; go_simp; (try with_reducible rfl))
   (try simp only [Act.put]); (try simp only [List.setIfInBounds_toArray]); (try simp only [List.set_cons_succ]); (try simp only [List.set_cons_zero])
   refine wpAnyH_take (i := 9) (v := ?_) rfl (by kernel_rfl) (by kernel_rfl) (by kernel_rfl) (fun _ _ _ h => h) (Or.inl ⟨by rfl, ?_⟩) (by assumption) ?_
   rotate_left
   ·(intro w hSw; (try dsimp only at hSw); go_split_ands; go_simp; (try with_reducible rfl))
   (try simp only [Act.put]); (try simp only [List.setIfInBounds_toArray]); (try simp only [List.set_cons_succ]); (try simp only [List.set_cons_zero])
   refine wpAnyH_ready (rs := [10]) (by kernel_rfl) (by simp) ?_
   refine AllReadyH.cons rfl (fun K hK => ?_) AllReadyH.nil
   go_simp
   refine hK.out _ _ ⟨c3, b3⟩ (fun hHeld => ?_)
   clear hK K
   (try simp only [Act.put]); (try simp only [List.setIfInBounds_toArray]); (try simp only [List.set_cons_succ]); (try simp only [List.set_cons_zero])
   refine wpAnyH_done (by kernel_rfl) ?_ _
  rotate_left
  focus
   go_simp
   refine hK.out _ _ ⟨c1a, b1a⟩ (fun hHeld => ?_)
   clear hK K
   (try simp only [Act.put]); (try simp only [List.setIfInBounds_toArray]); (try simp only [List.set_cons_succ]); (try simp only [List.set_cons_zero])
   refine wpAnyH_ready (rs := [4]) (by kernel_rfl) (by simp) ?_
   refine AllReadyH.cons rfl (fun K hK => ?_) AllReadyH.nil
   go_simp
   refine hK.out _ _ ⟨c1a, b1a⟩ (fun hHeld => ?_)
   clear hK K
   (try simp only [Act.put]); (try simp only [List.setIfInBounds_toArray]); (try simp only [List.set_cons_succ]); (try simp only [List.set_cons_zero])
   refine wpAnyH_ready (rs := [7]) (by kernel_rfl) (by simp) ?_
   refine AllReadyH.cons rfl (fun K hK => ?_) AllReadyH.nil
   refine step_appr rfl (.tmp 23) (.tmp 25) 84 84 rfl _ _ (by simp [Act.eval]) (by simp [Act.eval]) _ _ hrun ?_
   refine hK.out _ _ ⟨c2, b2⟩ (fun hHeld => ?_)
   clear hK K
   (try simp only [Act.put]); (try simp only [List.setIfInBounds_toArray]); (try simp only [List.set_cons_succ]); (try simp only [List.set_cons_zero])
   refine wpAnyH_take (i := 8) (v := ?_) rfl (by kernel_rfl) (by kernel_rfl) (by kernel_rfl) (fun _ _ _ h => h) (Or.inl ⟨by rfl, ?_⟩) (by assumption) ?_
   rotate_left
   ·(intro w hSw; (try dsimp only at hSw); go_split_ands; go_simp; (try with_reducible rfl))
   (try simp only [Act.put]); (try simp only [List.setIfInBounds_toArray]); (try simp only [List.set_cons_succ]); (try simp only [List.set_cons_zero])
   refine wpAnyH_take (i := 9) (v := ?_) rfl (by kernel_rfl) (by kernel_rfl) (by kernel_rfl) (fun _ _ _ h => h) (Or.inl ⟨by rfl, ?_⟩) (by assumption) ?_
   rotate_left
   ·(intro w hSw; (try dsimp only at hSw); go_split_ands; go_simp; (try with_reducible rfl))
   (try simp only [Act.put]); (try simp only [List.setIfInBounds_toArray]); (try simp only [List.set_cons_succ]); (try simp only [List.set_cons_zero])
   refine wpAnyH_ready (rs := [10]) (by kernel_rfl) (by simp) ?_
   refine AllReadyH.cons rfl (fun K hK => ?_) AllReadyH.nil
   go_simp
   refine hK.out _ _ ⟨c3, b3⟩ (fun hHeld => ?_)
   clear hK K
   (try simp only [Act.put]); (try simp only [List.setIfInBounds_toArray]); (try simp only [List.set_cons_succ]); (try simp only [List.set_cons_zero])
   refine wpAnyH_done (by kernel_rfl) ?_ _
  all_goals
   rw [← HWa.out]
   clear hHeld c1 b1 ka g2 g2a c1a b1a c2 b2 c3 b3 hrun hcell hsoft hsz HWa HCd HCCd HXd HB2d nX nC nB
   go_wp2
   obtain ⟨Wf, hWf⟩ : ∃ W', W' = W3.drew := ⟨_, rfl⟩
   have kd : Below W3.heap.size W3 Wf := by rw [hWf]; exact (Below.refl _ W3).drew
   have HCd := Lib.hid (HC2.out.below kd)
   have HTd := Lib.hid (HT2.out.step (Keeps.of_below (F := Add (Add F Wd w2) We w3) kd) (fun _ f => .inl f))
   have HCCd := Lib.hid (hold_keeps (G := fun _ => False) HCC2.out (Keeps.of_below kd) id)
   have HXd := Lib.hid (hold_keeps (G := fun _ => False) HX2.out (Keeps.of_below kd) id)
   have HB2d := Lib.hid (hold_keeps (G := fun _ => False) HB3.out (Keeps.of_below kd) id)
   have HKd := Lib.hid (HK2.out.on kd)
   clear HC2 HT2 HCC2 HX2 HB3 HK2 kd
   obtain ⟨w4, hmu, hcst, hkp, hsz, hkn⟩ := HCd.out.putM x HTd.out
   have hmu' : (Instr.mapUpdate 73 (.map (some gm)) (.agg ([.int .i64 x.r.ir,.int .i64 x.r.is] : List Value).toArray) (.agg x.cells.toArray)).run Tryz.prog Wf = .ok () w4 := hmu
   clear hmu
   have nm : ∀ b t L, Hold Wf b t L → ¬ b = gm := fun b t L hh => by have := hh; unfold Wi.Hold at this; exact HCd.out.mp.apart this
   have hi : (Tryz.prog.info? 67).map (·.size) = some x.cells.length := by kernel_rfl
   have hi5 : (Tryz.prog.info? 53).map (·.size) = some ([.int .i64 x.r.ir,.int .i64 x.r.is] : List Value).length := by kernel_rfl
   have c1 : Wf.cell? ⟨bc, 0, none⟩ = some (.pointer (some ⟨gc, 0, none⟩)) := hold_cell HCCd.out 0 rfl
   have g4 : Wf.cell? ⟨gc, 4, none⟩ = some (.map (some gm)) := hold_cell HCd.out.blk 4 rfl
   have r1 : Wf.rangeAt w.heap.size 0 x.cells := HXd.out.cel.whole
   have HX4 := hold_keeps HXd.out hkn (nm _ _ _ HXd.out)
   have c2 : w4.cell? ⟨bc, 0, none⟩ = some (.pointer (some ⟨gc, 0, none⟩)) := hold_cell (hold_keeps HCCd.out hkn (nm _ _ _ HCCd.out)) 0 rfl
   have g5 : w4.cell? ⟨gc, 4, none⟩ = some (.map (some gm)) := hold_cell hcst.blk 4 rfl
   have r2 : w4.rangeAt w.heap.size 0 x.cells := HX4.cel.whole
   refine wp_region_held_drew (S := fun w' => w'.cell? ⟨bc, 0, none⟩ = some (.pointer (some ⟨gc, 0, none⟩)) ∧ w'.cell? ⟨gc, 4, none⟩ = some (.map (some gm)) ∧ w'.rangeAt w.heap.size 0 x.cells) (by kernel_rfl) (by rw [← hWf]; exact ⟨c1, g4, r1⟩) (fun hHeld => ?_)
   rw [← hWf] at hHeld ⊢
   clear hWf
   refine wpAnyH_take (i := 0) (v := ?_) rfl (by kernel_rfl) (by kernel_rfl) (by kernel_rfl) (fun _ _ _ h => h) (Or.inl ⟨by rfl, ?_⟩) (by assumption) ?_
   rotate_left
   ·(intro w hSw; (try dsimp only at hSw); go_split_ands; go_simp; (try with_reducible rfl))
   (try simp only [Act.put]); (try simp only [List.setIfInBounds_toArray]); (try simp only [List.set_cons_succ]); (try simp only [List.set_cons_zero])
   refine wpAnyH_take (i := 1) (v := ?_) rfl (by kernel_rfl) (by kernel_rfl) (by kernel_rfl) (fun _ _ _ h => h) (Or.inl ⟨by rfl, ?_⟩) (by assumption) ?_
   rotate_left
   ·(intro w hSw; (try dsimp only at hSw); go_split_ands; go_simp; (try with_reducible rfl))
   (try simp only [Act.put]); (try simp only [List.setIfInBounds_toArray]); (try simp only [List.set_cons_succ]); (try simp only [List.set_cons_zero])
   refine wpAnyH_take (i := 2) (v := ?_) rfl (by kernel_rfl) (by kernel_rfl) (by kernel_rfl) (fun _ _ _ h => h) (Or.inl ⟨by rfl, ?_⟩) (by assumption) ?_
   rotate_left
   ·(intro w hSw; (try dsimp only at hSw); go_split_ands; go_simp; (try with_reducible rfl))
   (try simp only [Act.put]); (try simp only [List.setIfInBounds_toArray]); (try simp only [List.set_cons_succ]); (try simp only [List.set_cons_zero])
   refine wpAnyH_take (i := 3) (v := ?_) rfl (by kernel_rfl) (by kernel_rfl) (by kernel_rfl) (fun _ _ _ h => h) (Or.inl ⟨by rfl, ?_⟩) (by assumption) ?_
   rotate_left
   ·(intro w hSw; (try dsimp only at hSw); go_split_ands; go_simp; (try with_reducible rfl))
   (try simp only [Act.put]); (try simp only [List.setIfInBounds_toArray]); (try simp only [List.set_cons_succ]); (try simp only [List.set_cons_zero])
   refine wpAnyH_take (i := 4) (v := ?_) rfl (by kernel_rfl) (by kernel_rfl) (by kernel_rfl) (fun _ _ _ h => h) (Or.inl ⟨by rfl, ?_⟩) (by assumption) ?_
   rotate_left
   ·(intro w hSw; (try dsimp only at hSw); go_split_ands; go_simp; (try with_reducible rfl))
   (try simp only [Act.put]); (try simp only [List.setIfInBounds_toArray]); (try simp only [List.set_cons_succ]); (try simp only [List.set_cons_zero])
   refine wpAnyH_take (i := 5) (v := .agg ([.int .i64 x.r.ir,.int .i64 x.r.is]).toArray) rfl (by kernel_rfl) (by kernel_rfl) (by kernel_rfl) (fun _ _ _ h => h) (yieldsIf_load_mid (by rfl) 53 _ rfl w.heap.size 0 rfl [.int .i64 x.r.ir,.int .i64 x.r.is] _ (fun w hSw => (fun j v hj => hSw.2.2 j v (by match j, hj with | 0, hj => exact hj | 1, hj => exact hj))) Tryz.underlying53 rfl hi5) (by assumption) ?_
   (try simp only [Act.put]); (try simp only [List.setIfInBounds_toArray]); (try simp only [List.set_cons_succ]); (try simp only [List.set_cons_zero])
   refine wpAnyH_take (i := 6) (v := .agg (x.cells).toArray) rfl (by kernel_rfl) (by kernel_rfl) (by kernel_rfl) (fun _ _ _ h => h) (yieldsIf_load_mid (by rfl) 67 _ rfl w.heap.size 0 rfl x.cells _ (fun w hSw => hSw.2.2) Tryz.underlying67 rfl hi) (by assumption) ?_
   (try simp only [Act.put]); (try simp only [List.setIfInBounds_toArray]); (try simp only [List.set_cons_succ]); (try simp only [List.set_cons_zero])
   refine wpAnyH_ready (rs := [7]) (by kernel_rfl) (by simp) ?_
   refine AllReadyH.cons rfl (fun K hK => ?_) AllReadyH.nil
   go_simp
   refine hK.out _ _ ⟨c2, g5, r2⟩ (fun hHeld => ?_)
   clear hK K
   (try simp only [Act.put]); (try simp only [List.setIfInBounds_toArray]); (try simp only [List.set_cons_succ]); (try simp only [List.set_cons_zero])
   refine wpAnyH_done (by kernel_rfl) ?_ _
   go_wp2
   refine bodyPost_end (v := .tuple #[]) (by simp [results, Tryz.results76]) rfl ?_
   refine ⟨rfl, _, _, _, hcst, hold_keeps HB2d.out hkn (nm _ _ _ HB2d.out), fun y hy => .inl (.inl hy), HN3.out, HKd.out.trans hkp (fun y hy hy' => hy'.elim (fun e => e.elim id (fun e => (by have := e.1; have := LS1.out; omega))) (fun e => (by have := e.1; have := LS2.out; omega))), fun y hy => ?_, fun y hy => hcst.lt y hy⟩
   rcases hy with (hy | hy) | hy
   ·exact .inl hy
   ·exact .inr (by have := LS1.out; omega)
   ·exact .inr (by have := LS2.out; omega)
end Go.Proofs.YtdachohcjpjblaaGreatDoor
