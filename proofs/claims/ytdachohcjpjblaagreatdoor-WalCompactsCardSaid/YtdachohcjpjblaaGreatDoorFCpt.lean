/- Contract of a log's Compact; no conditions but those that it names. -/
import Derived.Test.YtdachohcjpjblaaGreatDoorFLst
set_option maxHeartbeats 8000000
set_option maxRecDepth 100000
namespace Go.Proofs.YtdachohcjpjblaaGreatDoor
open Go.ChangeShapes Go.WideShapes Go.ChangeAt Go.RowKit
open Di (Keeps In below_on below_new)
open Wi (Hold)
open Ls
namespace Cp
def kf (m : List (Ky × Rv)) (k : Ky) : Rv := (mget m k).getD Rv.zero
theorem row_kc {w : World} {base : Nat} {v : Value} {ks : List Ky} (h : w.ownsRow base 53 2 v ks.length (ks.flatMap It.kc)) {j : Nat} {k : Ky} (hk : ks[j]? = some k) : ∃ g cap, v = .slice (some ⟨g, 0, none⟩) ks.length cap ∧ base ≤ g ∧ g < w.heap.size ∧ w.cell? ⟨g, j * 2, none⟩ = some (.int .i64 k.1) ∧ w.cell? ⟨g, j * 2 + 1, none⟩ = some (.int .i64 k.2) := by
 have hj := (List.getElem?_eq_some_iff.1 hk).1
 rcases h.2 with ⟨-, h0⟩ | ⟨g, cap, cr, rfl, hb, hg, h1, h2, h3, h4⟩
 ·omega
 ·have e : ∀ i u, i < 2 → (It.kc k)[i]? = some u → w.cell? ⟨g, j * 2 + i, none⟩ = some u := fun i u hi hu => by
   have h5 := Sr.kc_at ks (j * 2 + i) (by omega)
   rw [show (j * 2 + i) / 2 = j by omega, show (j * 2 + i) % 2 = i by omega, getElem!_pos ks j hj] at h5
   have h6 : ks[j] = k := (List.getElem?_eq_some_iff.1 hk).2
   rw [h6, ← h4, List.getElem?_take_of_lt (by omega)] at h5
   have h7 : (It.kc k)[i]! = u := by rw [getElem!_pos (It.kc k) i (by simpa [It.kc] using hi)]; exact (List.getElem?_eq_some_iff.1 hu).2
   rw [h7] at h5
   simp [World.cell?, hg, ← Array.getElem?_toList, h5]
  refine ⟨g, cap, rfl, hb, (Array.getElem?_eq_some_iff.1 hg).1, ?_, ?_⟩
  ·simpa using e 0 _ (by omega) rfl
  ·exact e 1 _ (by omega) rfl
def msum (m : List (Ky × Rv)) : Nat := (m.map (fun p => K.len p.2.r)).sum
theorem fb_sum : ∀ (A : List K.Rec), (K.fb A).length = (A.map K.len).sum
 | [] => by simp [K.fb_nil]
 | r :: A => by rw [K.fb_len_cons, fb_sum A, List.map_cons, List.sum_cons]
theorem msum_put (m : List (Ky × Rv)) (k : Ky) (x : Rv) : msum (mput m k x) ≤ msum m + K.len x.r := by
 induction m with
 | nil => simp [msum, mput]
 | cons p m ih =>
   unfold mput
   split
   ·simp only [msum, List.map_cons, List.sum_cons]; omega
   ·simp only [msum, List.map_cons, List.sum_cons] at ih ⊢; omega
theorem msum_cur (X : List Rv) : msum (cur X) ≤ (K.fb (rcs X)).length := by
 refine snoc_ind (P := fun X => msum (cur X) ≤ (K.fb (rcs X)).length) (by simp [cur_nil, msum]) (fun l x ih => ?_) X
 have h1 := msum_put (cur l) x.key x
 rw [cur_snoc, rcs_snoc, K.fb_append, List.length_append]
 have h2 : (K.fb [x.r]).length = K.len x.r := by rw [K.fb_len_cons, K.fb_nil]; rfl
 omega
theorem picked_len {X : List Rv} {ks : List Ky} (h : ks.Perm ((cur X).map (·.1))) : (K.fb (rcs (ks.map (kf (cur X))))).length ≤ (K.fb (rcs X)).length := by
 have e1 : (rcs (ks.map (kf (cur X)))).map K.len = ks.map (fun k => K.len (kf (cur X) k).r) := by simp [rcs, Function.comp_def]
 have e2 : ((cur X).map (·.1)).map (fun k => K.len (kf (cur X) k).r) = (cur X).map (fun p => K.len p.2.r) := by
  rw [List.map_map]
  refine List.map_congr_left (fun p hp => ?_)
  have := mget_mem (cur_nodup X) (show (p.1, p.2) ∈ cur X from hp)
  simp [kf, this]
 have e3 := (h.map (fun k => K.len (kf (cur X) k).r)).sum_nat
 rw [fb_sum, e1, e3, e2]
 exact msum_cur X
def Compd (w : World) (gl gd : Nat) (F : Nat → Prop) (s : Di.M.St) (e : Ending) (w' : World) : Prop := ∃ (X : List Rv) (ks : List Ky), e = .returned (.int .i64 0) ∧ rcs X = K.rd s.bs ∧ ks.Perm ((cur X).map (·.1)) ∧ K.Rg (rcs (ks.map (kf (cur X)))) ∧ (K.fb (rcs (ks.map (kf (cur X))))).length ≤ s.bs.length ∧
 Logs w gl gd F ⟨s.z, K.fb (rcs (ks.map (kf (cur X)))), (K.fb (rcs (ks.map (kf (cur X))))).length⟩ w'
theorem compL_any {w : World} {gl gd : Nat} {F : Nat → Prop} {s : Di.M.St} (h : Log w gl gd F s) (hs : s.bs.length ≤ 100000) (hn : (K.rd s.bs).length ≤ 1000) : Calls Tryz.prog 24 #[.pointer (some ⟨gl, 0, none⟩)] w (Compd w gl gd F s) := by
 have hlt0 := h.lt
 have HLT0 := Lib.hid hlt0
 clear hlt0
 obtain ⟨gc, Fd, Fc, X, rest, A, c, vr, ve, gm0, L, hF⟩ := h
 have HL := Lib.hid L
 have HF := Lib.hid hF
 clear L hF
 obtain ⟨i0, hi, hz0, hz1, hz2⟩ := info_parts info67
 go_enter Tryz.func24, Tryz.ntmps24
 go_wp2_with (fail)
 refine (look_any HL.out hs).mono ?_
 rintro e w1 ⟨rfl, Fc1, X1, A1, c1, vr1, ve1, hX, L1, k1, g1, -⟩
 have hlen : (cur X1).length ≤ 1000 := by
  have h1 := Sr.cur_len X1
  have h4 := congrArg List.length hX
  rw [rcs_len] at h4
  omega
 have HX := Lib.hid hX
 have HK1 := Lib.hid k1
 have HG1 := Lib.hid g1
 have HL1 := Lib.hid L1
 have HLEN := Lib.hid hlen
 have HI := Lib.hid (Sr.insts_any (hold_cell L1.ct.blk 4 rfl) L1.ct.mp (by omega))
 generalize hgm : gm0 = gm at *
 clear hX k1 g1 L1 hlen hgm
 go_wp2_with (fail)
 refine HI.out.mono ?_
 rintro e w2 ⟨v, ks, rfl, hp, hrow, hb⟩
 obtain ⟨A2, c2, rfl⟩ : ∃ A c, v = .slice A ks.length c := by
  rcases hrow.2 with ⟨rfl, hz0⟩ | ⟨g, cap, cr, rfl, -⟩
  ·exact ⟨_, _, by rw [hz0]⟩
  ·exact ⟨_, _, rfl⟩
 have HR := Lib.hid hrow
 have HP := Lib.hid hp
 have HL2 := Lib.hid (HL1.out.below hb)
 have HB2 := Lib.hid hb
 have HKL := Lib.hid (show ks.length ≤ 1000 by have := hp.length_eq; rw [List.length_map] at this; rw [this]; exact HLEN.out)
 obtain ⟨m, hm⟩ : ∃ m, m = cur X1 := ⟨_, rfl⟩
 have HMM := Lib.hid hm
 clear hrow hp hb HI hm
 go_wp2
 go_loopw [4, 14] (fun sl i wr => ∃ (j : Nat) (o : Value), sl = o ∧ i = .int .i64 j ∧ j ≤ ks.length ∧ Hid (wr.ownsRow w2.heap.size 67 25 o j (((ks.take j).map (kf m)).flatMap Rv.cells)) ∧ Hid (Below w2.heap.size w2 wr)) (fun _ i _ => ks.length - (intOf i).toNat)
 case atStart => exact ⟨0, _, rfl, rfl, Nat.zero_le _, Lib.hid (World.ownsRow_nil _ _ _ _), Lib.hid (Below.refl _ _)⟩
 case round =>
  obtain ⟨j, o, ho, rfl, hj, HO, HW⟩ := hrel
  have ho2 := ho.symm
  subst ho2
  clear ho
  by_cases hlt : j < ks.length
  ·obtain ⟨⟨k1, k2⟩, hk⟩ : ∃ k, ks[j]? = some k := ⟨_, List.getElem?_eq_getElem hlt⟩
   have hkm : (k1, k2) ∈ (cur X1).map (·.1) := HP.out.mem_iff.1 (List.mem_of_getElem? hk)
   obtain ⟨⟨k', y⟩, hy1, hy2⟩ := List.mem_map.1 hkm
   dsimp only at hy2
   subst hy2
   have hmg := mget_mem (cur_nodup X1) hy1
   have hym := (cur_mem X1 _ hy1).1
   have hlw : Lg wr gl gd gc Fd Fc1 s X1 _ A1 c1 vr1 ve1 gm := HL2.out.below HW.out
   have hty := hlw.ct.tx y hym
   have hyk : kf m (k1, k2) = y := by rw [HMM.out]; unfold kf; rw [hmg]; rfl
   have HY := Lib.hid (show (mget m (k1, k2)).getD Rv.zero = y from hyk)
   obtain ⟨g, cap, ev, hgb, hgl, d0, d1⟩ := row_kc HR.out hk
   simp only [Value.slice.injEq] at ev
   obtain ⟨rfl, -, rfl⟩ := ev
   have HLW := Lib.hid hlw
   have HTY := Lib.hid (show Txt wr y from ⟨hty.rs, hty.ws⟩)
   have HJ := Lib.hid hlt
   have HTK := Lib.hid (show (ks.take (j + 1)).map (kf m) = (ks.take j).map (kf m) ++ [y] by rw [List.take_add_one, hk]; simp [hyk])
   have x0 : wr.cell? ⟨g, j * 2, none⟩ = some (.int .i64 k1) := (HW.out.cell (p := ⟨g, j * 2, none⟩) hgl).trans d0
   have x1 : wr.cell? ⟨g, j * 2 + 1, none⟩ = some (.int .i64 k2) := (HW.out.cell (p := ⟨g, j * 2 + 1, none⟩) hgl).trans d1
   have hj1 : (j : Int) < (ks.length : Int) := by omega
   have hkb := HKL.out
   obtain ⟨Wd, hWd⟩ : ∃ Wd, Wd = (wr.alloc (.cells #[.int .i64 k1,.int .i64 k2] 53)).drew := ⟨_, rfl⟩
   have hbd : Below wr.heap.size wr Wd := by rw [hWd]; exact (below_new (Below.refl _ _)).drew
   have hsd : Wd.heap.size = wr.heap.size + 1 := by rw [hWd]; simp
   have hkd : Hold Wd wr.heap.size 53 [.int .i64 k1,.int .i64 k2] := by rw [hWd]; exact (Wi.Hold.new wr [.int .i64 k1,.int .i64 k2] 53).on (Below.refl _ _).drew
   have hod : Wd.ownsRow w2.heap.size 67 25 o j (((ks.take j).map (kf m)).flatMap Rv.cells) := Wi.ownsRow_on HO.out hbd
   have hba : Below Wd.heap.size Wd (Wd.alloc (.cells y.cells.toArray 67)) := below_new (Below.refl _ _)
   have htd : Txt Wd y := HTY.out.below hbd
   have h1 : ∀ u ∈ y.cells, u.oneCell' = true := by
    obtain ⟨A1, c1, ea⟩ : ∃ A c, y.va = .slice A y.r.c.rs.length c := rowN_sliceOf htd.rs
    obtain ⟨A2, c2, eb⟩ : ∃ A c, y.vb = .slice A y.r.c.ws.length c := rowN_sliceOf htd.ws
    intro u hu
    simp only [Rv.cells, ea, eb, List.mem_cons, List.not_mem_nil, or_false] at hu
    rcases hu with rfl | rfl | rfl | rfl | rfl | rfl | rfl | rfl | rfl | rfl | rfl | rfl | rfl | rfl | rfl | rfl | rfl | rfl | rfl | rfl | rfl | rfl | rfl | rfl | rfl <;> rfl
   have hw2 : w2.heap.size ≤ wr.heap.size := HW.out.size
   obtain ⟨o', w5, hrun, hown5, hgrow5, -⟩ := run_append_own (P := Tryz.prog) (Wd.alloc (.cells y.cells.toArray 67)) w2.heap.size 31 31 67 i0 Rv.zero.val 25 232 Tryz.underlying31 hi hz0 hz1 hz2 rfl (by omega) o j _ (hod.alloc _) ⟨Wd.heap.size, 0, none⟩ 1 1 y.cells rfl (rec_new Wd y) h1 (by have := HKL.out; unfold maxLen; omega) (by have := HKL.out; omega) (by simp; omega)
   have hb5 : Below w2.heap.size w2 w5 := (HW.out.trans ((hbd.trans (hba.mono (by omega))).mono hw2)).grown hgrow5 (by simp; omega) (fun k e => (hod.lt k e).1)
   have kA : Keeps (fun q => o.ownBlock = some q) (Wd.alloc (.cells y.cells.toArray 67)) w5 := Keeps.of_grown (F := fun q => o.ownBlock = some q) hgrow5 (fun _ e => e)
   have hk5 : Hold w5 wr.heap.size 53 [.int .i64 k1,.int .i64 k2] := hold_keeps (hkd.on hba) kA (fun e => by have := (HO.out.lt _ e).2; omega)
   have hm0 : MapIs wr gm m := by rw [HMM.out]; exact hlw.ct.mp
   have hm4 : MapIs Wd gm m := hm0.keeps (F := fun _ => False) (Di.Keeps.of_below hbd) id
   have hm4a : MapIs (Wd.alloc (.cells y.cells.toArray 67)) gm m := hm4.keeps (F := fun _ => False) (Di.Keeps.of_below hba) id
   have hm4b : MapIs w5 gm m := by rw [HMM.out]; exact HL2.out.ct.mp.keeps (F := fun _ => False) (Di.Keeps.of_below hb5) id
   have hbk := hlw.ct.blk
   have c4 : Wd.cell? ⟨gc, 4, none⟩ = some (.map (some gm)) := hold_cell (hbk.on hbd) 4 rfl
   have c4a : (Wd.alloc (.cells y.cells.toArray 67)).cell? ⟨gc, 4, none⟩ = some (.map (some gm)) := hold_cell ((hbk.on hbd).on hba) 4 rfl
   have c4b : w5.cell? ⟨gc, 4, none⟩ = some (.map (some gm)) := hold_cell (HL2.out.ct.blk.on hb5) 4 rfl
   have b0 := hold_cell hkd 0 rfl
   have b1 := hold_cell hkd 1 rfl
   have b0a := hold_cell (hkd.on hba) 0 rfl
   have b1a := hold_cell (hkd.on hba) 1 rfl
   have b0b := hold_cell hk5 0 rfl
   have b1b := hold_cell hk5 1 rfl
   have HO5 := Lib.hid (show w5.ownsRow w2.heap.size 67 25 o' (j + 1) (((ks.take (j + 1)).map (kf m)).flatMap Rv.cells) by rw [HTK.out, List.flatMap_append, List.flatMap_singleton]; exact hown5)
   have HB5 := Lib.hid hb5
   clear hk hkm hy1 hmg hym hlw hty hyk hgb hgl d0 d1 hlt hbd hsd hkd hod hba htd h1 hw2 hown5 hgrow5 hb5 kA hk5 hm0 hbk
   go_wp2
   refine wp_region_held_drew (S := fun w' => w'.cell? ⟨gc, 4, none⟩ = some (.map (some gm)) ∧ w'.cell? ⟨wr.heap.size, 0, none⟩ = some (.int .i64 k1) ∧ w'.cell? ⟨wr.heap.size, 1, none⟩ = some (.int .i64 k2) ∧ MapIs w' gm m) (by kernel_rfl) (by rw [← hWd]; exact ⟨c4, b0, b1, hm4⟩) (fun hHeld => ?_)
   rw [← hWd] at hHeld ⊢
   clear hWd
   refine wpAnyH_take (i := 0) (v := ?_) rfl (by kernel_rfl) (by kernel_rfl) (by kernel_rfl) (fun _ _ _ h => h) (Or.inl ⟨by rfl, ?_⟩) (by assumption) ?_
   rotate_left
   ·(intro w hSw; (try dsimp only at hSw); go_split_ands; go_simp; (try with_reducible rfl))
   (try simp only [Act.put]); (try simp only [List.setIfInBounds_toArray]); (try simp only [List.set_cons_succ]); (try simp only [List.set_cons_zero])
   refine wpAnyH_take (i := 1) (v := ?_) rfl (by kernel_rfl) (by kernel_rfl) (by kernel_rfl) (fun _ _ _ h => h) (Or.inl ⟨by rfl, ?_⟩) (by assumption) ?_
   rotate_left
   ·(intro w hSw; (try dsimp only at hSw); go_split_ands; go_simp; (try with_reducible rfl))
   (try simp only [Act.put]); (try simp only [List.setIfInBounds_toArray]); (try simp only [List.set_cons_succ]); (try simp only [List.set_cons_zero])
   refine wpAnyH_take (i := 2) (v := ?_) rfl (by kernel_rfl) (by kernel_rfl) (by kernel_rfl) (fun _ _ _ h => h) (Or.inl ⟨by rfl, ?_⟩) (by assumption) ?_
   rotate_left
   ·(intro w hSw; (try dsimp only at hSw); go_split_ands; go_simp; (try with_reducible rfl))
   (try simp only [Act.put]); (try simp only [List.setIfInBounds_toArray]); (try simp only [List.set_cons_succ]); (try simp only [List.set_cons_zero])
   refine wpAnyH_take (i := 3) (v := ?_) rfl (by kernel_rfl) (by kernel_rfl) (by kernel_rfl) (fun _ _ _ h => h) (Or.inl ⟨by rfl, ?_⟩) (by assumption) ?_
   rotate_left
   ·(intro w hSw; (try dsimp only at hSw); go_split_ands; go_simp; (try with_reducible rfl))
   (try simp only [Act.put]); (try simp only [List.setIfInBounds_toArray]); (try simp only [List.set_cons_succ]); (try simp only [List.set_cons_zero])
   refine wpAnyH_take (i := 4) (v := ?_) rfl (by kernel_rfl) (by kernel_rfl) (by kernel_rfl) (fun _ _ _ h => h) (Or.inl ⟨by rfl, ?_⟩) (by assumption) ?_
   rotate_left
   ·(intro w hSw; (try dsimp only at hSw); go_split_ands; go_simp; (try with_reducible rfl))
   (try simp only [Act.put]); (try simp only [List.setIfInBounds_toArray]); (try simp only [List.set_cons_succ]); (try simp only [List.set_cons_zero])
   refine wpAnyH_take (i := 5) (v := ?_) rfl (by kernel_rfl) (by kernel_rfl) (by kernel_rfl) (fun _ _ _ h => h) (Or.inl ⟨by rfl, ?_⟩) (by assumption) ?_
   rotate_left
   ·(intro w hSw; (try dsimp only at hSw); go_split_ands; go_simp; (try with_reducible rfl))
   (try simp only [Act.put]); (try simp only [List.setIfInBounds_toArray]); (try simp only [List.set_cons_succ]); (try simp only [List.set_cons_zero])
   refine wpAnyH_take (i := 6) (v := y.val) rfl (by kernel_rfl) (by kernel_rfl) (by kernel_rfl) (fun _ _ _ h => h) (Or.inl ⟨by rfl, ?_⟩) (by assumption) ?_
   ·(intro w hSw; (try dsimp only at hSw); have hq := run_look1 hSw.2.2.2 (k1, k2); rw [HY.out] at hq; simp only [kv] at hq; simp only [execOp, Act.eval]; simp [hq, Result.andThen])
   (try simp only [Act.put]); (try simp only [List.setIfInBounds_toArray]); (try simp only [List.set_cons_succ]); (try simp only [List.set_cons_zero])
   refine wpAnyH_ready (rs := [7]) (by kernel_rfl) (by simp) ?_
   refine AllReadyH.cons rfl (fun K hK => ?_) AllReadyH.nil
   refine step_build67 rfl (.tmp 24) rfl y (by simp [Act.eval, Rv.val]) ?_
   refine hK.out _ _ ⟨c4a, b0a, b1a, hm4a⟩ (fun hHeld => ?_)
   clear hK K
   (try simp only [Act.put]); (try simp only [List.setIfInBounds_toArray]); (try simp only [List.set_cons_succ]); (try simp only [List.set_cons_zero])
   refine wpAnyH_ready (rs := [8]) (by kernel_rfl) (by simp) ?_
   refine AllReadyH.cons rfl (fun K hK => ?_) AllReadyH.nil
   refine step_appr rfl (.tmp 18) (.tmp 25) 31 31 rfl _ _ (by simp [Act.eval]) (by simp [Act.eval]) _ _ hrun ?_
   refine hK.out _ _ ⟨c4b, b0b, b1b, hm4b⟩ (fun hHeld => ?_)
   clear hK K
   (try simp only [Act.put]); (try simp only [List.setIfInBounds_toArray]); (try simp only [List.set_cons_succ]); (try simp only [List.set_cons_zero])
   refine wpAnyH_take (i := 9) (v := ?_) rfl (by kernel_rfl) (by kernel_rfl) (by kernel_rfl) (fun _ _ _ h => h) (Or.inl ⟨by rfl, ?_⟩) (by assumption) ?_
   rotate_left
   ·(intro w hSw; (try dsimp only at hSw); go_split_ands; go_simp; (try with_reducible rfl))
   (try simp only [Act.put]); (try simp only [List.setIfInBounds_toArray]); (try simp only [List.set_cons_succ]); (try simp only [List.set_cons_zero])
   refine wpAnyH_done (by kernel_rfl) ?_ _
   go_wp2
   go_roundw
   case rel => exact ⟨j + 1, o', rfl, by go_num, HJ.out, HO5, HB5⟩
   case measure => simp [intOf]; have := HJ.out; omega
  ·obtain rfl : j = ks.length := by omega
   have hall : (ks.take ks.length).map (kf m) = ks.map (kf m) := by rw [List.take_length]
   rw [hall] at HO
   have hin : ∀ y ∈ ks.map (kf m), y ∈ X1 := fun y hy => by
    obtain ⟨k, hk, rfl⟩ := List.mem_map.1 hy
    obtain ⟨⟨k', y⟩, hy1, rfl⟩ := List.mem_map.1 (HP.out.mem_iff.1 hk)
    have hmg := mget_mem (cur_nodup X1) hy1
    have : kf m k' = y := by rw [HMM.out]; unfold kf; rw [hmg]; rfl
    dsimp only
    rw [this]
    exact (cur_mem X1 _ hy1).1
   have hlw : Lg wr gl gd gc Fd Fc1 s X1 _ A1 c1 vr1 ve1 gm := HL2.out.below HW.out
   have hrows : Rows wr o (ks.map (kf m)) := ⟨Wi.RowN.of_owns (by simpa using HO.out), fun y hy => ⟨(hlw.ct.tx y (hin y hy)).rs, (hlw.ct.tx y (hin y hy)).ws⟩⟩
   have hrg : K.Rg (rcs (ks.map (kf m))) := fun r hr => by
    obtain ⟨y, hy, rfl⟩ := List.mem_map.1 hr
    exact (hlw.ct.tx y (hin y hy)).rg
   have hpl := picked_len HP.out
   rw [← HMM.out, HX.out] at hpl
   have hfb : (K.fb (rcs (ks.map (kf m)))).length ≤ s.bs.length := Nat.le_trans hpl (K.rd_len s.bs)
   have hok := hlw.dk.ok
   have HRG := Lib.hid hrg
   have HFB := Lib.hid hfb
   have HLW := Lib.hid hlw
   have HWB := Lib.hid (below_on HB2.out HW.out)
   have hrgb : rgB (ks.map (kf m)) = true := rgB_iff.2 hrg
   have HOK := Lib.hid hok
   have hfr := frames_any hlw.tab hrows (fun y hy => Wi.M.tiny_mod (K.tiny (hrg y.r (List.mem_map.2 ⟨y, hy, rfl⟩)))) (by rw [List.length_map]; exact HKL.out)
   unfold Framed at hfr
   rw [hrgb] at hfr
   simp only [if_true] at hfr
   have HFR := Lib.hid hfr
   obtain ⟨A9, c9, ev9⟩ : ∃ A c, o = .slice A ks.length c := by
    rcases HO.out.2 with ⟨e, h0⟩ | ⟨g, cap, cr, e, -⟩
    ·exact ⟨_, _, by rw [e, h0]⟩
    ·exact ⟨_, _, e⟩
   clear hall hin hlw hrows hrg hpl hfb hok hrgb hfr HO ev9
   go_wp2_with (fail)
   refine HFR.out.mono ?_
   rintro e w3 ⟨u, rfl, ho, hb⟩
   have HL3 := Lib.hid (HLW.out.below hb)
   have HW3 := Lib.hid (below_on HWB.out hb)
   have HRP := Lib.hid (Di.replaceD_any (new := K.fb (rcs (ks.map (kf m)))) HL3.out.dk (Wi.Own.bts ho) (by have := HFB.out; omega))
   rw [show Di.M.repE (K.fb (rcs (ks.map (kf m)))) s = 0 from if_pos (Nat.le_trans HFB.out HOK.out.1), show Di.M.rep (K.fb (rcs (ks.map (kf m)))) s = ⟨s.z, K.fb (rcs (ks.map (kf m))), (K.fb (rcs (ks.map (kf m)))).length⟩ from if_pos (Nat.le_trans HFB.out HOK.out.1)] at HRP
   clear ho hb HFR
   go_wp2_with (fail)
   refine (diskL_any HL3.out.blk).mono ?_
   rintro e w4 ⟨rfl, rfl⟩
   go_wp2_with (fail)
   refine HRP.out.mono ?_
   rintro e w5 ⟨rfl, Fd5, d5, k5, g5⟩
   have HG5 := Lib.hid (logs_disk (F := fun x => Fd x ∨ Fc1 x ∨ x = gl) HL3.out (fun _ => Iff.rfl) d5 k5 g5)
   have HK4 := Lib.hid (Keeps.of_below (F := Fd) HW3.out)
   have HG4 := Lib.hid (Di.Grew.refl (w := w1) HL1.out.dk.lt HW3.out.size)
   clear d5 k5 g5
   go_wp2
   go_ret
   refine ⟨X1, ks, rfl, HX.out, HP.out, by rw [← HMM.out]; exact HRG.out, by rw [← HMM.out]; exact HFB.out, ?_⟩
   rw [← HMM.out]
   exact app_join (Below.refl _ _) (fun x => HLT0.out x) HF.out HK1.out HG1.out HK4.out HG4.out HG5.out
end Cp
end Go.Proofs.YtdachohcjpjblaaGreatDoor
