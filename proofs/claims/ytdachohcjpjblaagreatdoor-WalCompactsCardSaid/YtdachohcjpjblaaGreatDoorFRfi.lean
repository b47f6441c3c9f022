/- The document's Insts of a log by value; conditions: rows that read. -/
import Derived.Test.YtdachohcjpjblaaGreatDoorFRfh
import Derived.Test.YtdachohcjpjblaaGreatDoorFIsr
import Derived.Test.YtdachohcjpjblaaGreatDoorFItr
import Derived.Maps.AppendAt
set_option maxHeartbeats 8000000
set_option maxRecDepth 100000
namespace Go.Proofs.YtdachohcjpjblaaGreatDoor
open Go.ChangeShapes Go.WideShapes Go.ChangeAt Go.RowKit
open Di (Keeps In below_on below_new)
open Wi (Hold)
namespace Rf
theorem before90 (a b c d : Int) (w : World) : Calls Tryz.prog 90 #[.agg #[.int .i64 a,.int .i64 b],.agg #[.int .i64 c,.int .i64 d]] w fun e w' => e = .returned (.bool (Nn.bef (a, b) (c, d))) ∧ Below w.heap.size w w' := by
 go_enter Tryz.func90, Tryz.ntmps90
 go_wp2_with (go_at_call 106; refine (Wi.order_any _ _ _ _ _).mono ?_; rintro e w' ⟨rfl, rfl⟩)
 go_ret
 exact ⟨rfl, below_new (below_new (Below.refl _ _))⟩
theorem kflat_len (ks : List Ky) : (ks.flatMap It.kc).length = ks.length * 2 := by
 induction ks with
 | nil => rfl
 | cons k ks ih => rw [List.flatMap_cons, List.length_append, ih, show (It.kc k).length = 2 from rfl, List.length_cons]; omega
theorem kflat_take : ∀ (L : List Ky) (p : Nat), (L.flatMap It.kc).take (p * 2) = (L.take p).flatMap It.kc
 | [], p => by simp
 | k :: L, 0 => by simp
 | k :: L, p + 1 => by
   rw [List.flatMap_cons, List.take_succ_cons, List.flatMap_cons, List.take_append, show (It.kc k).length = 2 from rfl, List.take_of_length_le (by rw [show (It.kc k).length = 2 from rfl]; omega), show (p + 1) * 2 - 2 = p * 2 by omega, kflat_take L p]
theorem kflat_drop : ∀ (L : List Ky) (p : Nat), (L.flatMap It.kc).drop (p * 2) = (L.drop p).flatMap It.kc
 | [], p => by simp
 | k :: L, 0 => by simp
 | k :: L, p + 1 => by
   rw [List.flatMap_cons, List.drop_succ_cons, List.drop_append, show (It.kc k).length = 2 from rfl, List.drop_of_length_le (by rw [show (It.kc k).length = 2 from rfl]; omega), show (p + 1) * 2 - 2 = p * 2 by omega, kflat_drop L p, List.nil_append]
theorem one_keys (L : List Ky) : ∀ u ∈ L.flatMap It.kc, u.oneCell' = true := fun u hu => by
 obtain ⟨k, _, hu⟩ := List.mem_flatMap.1 hu
 simp only [It.kc, List.mem_cons, List.not_mem_nil, or_false] at hu
 rcases hu with rfl | rfl <;> rfl
theorem own_cut {w : World} {base : Nat} {e : TypeId} {k g n cap : Nat} {xs : List Value} (h : w.ownsRow base e k (.slice (some ⟨g, 0, none⟩) n cap) n xs) {p : Nat} (hp : p ≤ n) : w.ownsRow base e k (.slice (some ⟨g, 0, none⟩) p cap) p (xs.take (p * k)) := by
 obtain ⟨hl, h⟩ := h
 have hpk : p * k ≤ n * k := Nat.mul_le_mul_right _ hp
 refine ⟨by rw [List.length_take]; omega, ?_⟩
 rcases h with ⟨e, -⟩ | ⟨g', cap', cr, e, hb, hg, h1, h2, h3, h4⟩
 ·simp at e
 ·simp only [Value.slice.injEq, Option.some.injEq, Addr.mk.injEq, and_true, true_and] at e
  obtain ⟨rfl, rfl⟩ := e
  exact .inr ⟨g, cap, cr, rfl, hb, hg, by omega, h2, h3, by rw [← h4, List.take_take, Nat.min_eq_left hpk]⟩
theorem own_rest {w : World} {base : Nat} {e : TypeId} {k g n cap c' o : Nat} {xs : List Value} (h : w.ownsRow base e k (.slice (some ⟨g, 0, none⟩) n cap) n xs) {p : Nat} (hp : p ≤ n) (ho : p < n → o = p * k) (hc : n - p ≤ c') : Wi.RowN k w (.slice (some ⟨g, o, none⟩) (n - p) c') (n - p) (xs.drop (p * k)) := by
 obtain ⟨hl, h⟩ := h
 refine ⟨by rw [List.length_drop, hl, Nat.sub_mul], some ⟨g, o, none⟩, c', rfl, hc, fun h0 => ?_⟩
 rcases h with ⟨e, -⟩ | ⟨g', cap', cr, e, hb, hg, h1, h2, h3, h4⟩
 ·simp at e
 ·simp only [Value.slice.injEq, Option.some.injEq, Addr.mk.injEq, and_true, true_and] at e
  obtain ⟨rfl, rfl⟩ := e
  refine ⟨g, o, rfl, (Array.getElem?_eq_some_iff.1 hg).1, fun j x hj => ?_⟩
  rw [ho (by omega), ← h4, List.getElem?_drop] at *
  have hlt : p * k + j < n * k := by
   have := (List.getElem?_eq_some_iff.1 hj).1
   rw [List.length_take] at this
   omega
  rw [List.getElem?_take_of_lt hlt] at hj
  simp [World.cell?, hg, ← Array.getElem?_toList, hj]
theorem row_kc {w : World} {base : Nat} {v : Value} {ks : List Ky} (h : w.ownsRow base 53 2 v ks.length (ks.flatMap It.kc)) {j : Nat} {k : Ky} (hk : ks[j]? = some k) : ∃ g cap, v = .slice (some ⟨g, 0, none⟩) ks.length cap ∧ base ≤ g ∧ g < w.heap.size ∧ ks.length ≤ cap ∧ w.cell? ⟨g, j * 2, none⟩ = some (.int .i64 k.1) ∧ w.cell? ⟨g, j * 2 + 1, none⟩ = some (.int .i64 k.2) := by
 have hj := (List.getElem?_eq_some_iff.1 hk).1
 rcases h.2 with ⟨-, h0⟩ | ⟨g, cap, cr, rfl, hb, hg, h1, h2, h3, h4⟩
 ·omega
 ·have e : ∀ i u, i < 2 → (It.kc k)[i]? = some u → w.cell? ⟨g, j * 2 + i, none⟩ = some u := fun i u hi hu => by
   have h5 : (ks.flatMap It.kc)[j * 2 + i]? = some u := by
    have h6 : ((ks.flatMap It.kc).drop (j * 2))[i]? = some u := by
     rw [kflat_drop, List.drop_eq_getElem_cons hj, List.flatMap_cons, List.getElem?_append_left (by simpa [It.kc] using hi)]
     rw [(List.getElem?_eq_some_iff.1 hk).2]; exact hu
    rwa [List.getElem?_drop] at h6
   rw [← h4, List.getElem?_take_of_lt (by omega)] at h5
   simp [World.cell?, hg, ← Array.getElem?_toList, h5]
  refine ⟨g, cap, rfl, hb, (Array.getElem?_eq_some_iff.1 hg).1, h1, ?_, ?_⟩
  ·simpa using e 0 _ (by omega) rfl
  ·exact e 1 _ (by omega) rfl
theorem bareK (W : World) : (W.alloc (.cells #[] 53)).ownsRow W.heap.size 53 2 (.slice (some ⟨W.heap.size, 0, none⟩) 0 0) 0 [] := by
 refine ⟨by simp, .inr ⟨W.heap.size, 0, #[], rfl, Nat.le_refl _, ?_, by simp, by simp, by simp, by simp⟩⟩
 exact heap_alloc_new W _
theorem put_run1 {W : World} {L : List Ky} {p : Nat} {u : Value} (hu : Wi.RowN 2 W u (L.length - p) ((L.drop p).flatMap It.kc)) (hl : L.length ≤ 1000) :
 ∃ v1 W1, (Builtin.append_ #[49, 49] 49 #[.slice (some ⟨W.heap.size, 0, none⟩) 0 0, u]).run Tryz.prog (W.alloc (.cells #[] 53)) = .ok v1 W1 ∧ W1.ownsRow W.heap.size 53 2 v1 (L.length - p) ((L.drop p).flatMap It.kc) ∧ Below W.heap.size W W1 := by
 obtain ⟨i0, hi, hz0, hz1, hz2⟩ := info_parts It.info53
 have nb : Below W.heap.size W (W.alloc (.cells #[] 53)) := below_new (Below.refl _ _)
 obtain ⟨v1, W1, r1, o1, g1⟩ := Wi.append_rowN (z := .agg #[.int .i64 0,.int .i64 0]) (bytes := 16) Tryz.underlying49 hi hz0 hz1 hz2 rfl (by omega) (by omega) (bareK W) (hu.below nb) (one_keys _) (by omega) (by simp)
 rw [Nat.zero_add, List.nil_append] at o1
 exact ⟨v1, W1, r1, o1, nb.grown g1 (by simp) (fun k e => ((bareK W).lt k e).1)⟩
theorem put_run2 {W0 W Wd : World} {L : List Ky} {p : Nat} {t v1 : Value} (q1 q2 : Int) (ho : W.ownsRow W0.heap.size 53 2 t p ((L.take p).flatMap It.kc)) (hv : Wd.ownsRow W.heap.size 53 2 v1 (L.length - p) ((L.drop p).flatMap It.kc)) (hp : p ≤ L.length) (hl : L.length ≤ 1000) (hB : Below W0.heap.size W0 W) (hd : Below W.heap.size W Wd) :
 ∃ v2 W2 v3 W3, (Builtin.append_ #[49, 49] 49 #[t,.slice (some ⟨Wd.heap.size, 0, none⟩) 1 1]).run Tryz.prog (Wd.alloc (.cells #[.int .i64 q1,.int .i64 q2] 53)) = .ok v2 W2 ∧
   (Builtin.append_ #[49, 49] 49 #[v2, v1]).run Tryz.prog W2 = .ok v3 W3 ∧ W3.ownsRow W0.heap.size 53 2 v3 (L.length + 1) ((L.take p ++ [(q1, q2)] ++ L.drop p).flatMap It.kc) ∧ Keeps (fun x => t.ownBlock = some x) W W2 ∧ Keeps (fun x => t.ownBlock = some x) W W3 ∧ Below W0.heap.size W0 W3 := by
 obtain ⟨i0, hi, hz0, hz1, hz2⟩ := info_parts It.info53
 have nb : Below W.heap.size W (Wd.alloc (.cells #[.int .i64 q1,.int .i64 q2] 53)) := below_new hd
 have hs0 := hB.size
 have hsd := hd.size
 have hsn : (Wd.alloc (.cells #[.int .i64 q1,.int .i64 q2] 53)).heap.size = Wd.heap.size + 1 := by simp
 have hot := Wi.ownsRow_on ho nb
 have hh := (Wi.Hold.new Wd [.int .i64 q1,.int .i64 q2] 53).cel.whole
 obtain ⟨v2, W2, r2, o2, g2, -, ob⟩ := run_append_own_at (P := Tryz.prog) (Wd.alloc (.cells #[.int .i64 q1,.int .i64 q2] 53)) W0.heap.size 49 49 53 i0 (.agg #[.int .i64 0,.int .i64 0]) 2 16 Tryz.underlying49 hi hz0 hz1 hz2 rfl (by omega) t p _ hot ⟨Wd.heap.size, 0, none⟩ 1 1 [.int .i64 q1,.int .i64 q2] rfl (fun j u hj => by rw [Di.add_plain']; exact hh j u hj) (by simp [Value.oneCell']) (by unfold maxLen; omega) (by omega) (by omega)
 have k2 : Keeps (fun x => t.ownBlock = some x) W W2 := (Keeps.of_below nb).trans (Keeps.of_grown (F := fun x => t.ownBlock = some x) g2 (fun _ e => e)) (fun x _ f => f)
 have htl : ∀ x, t.ownBlock = some x → x < W.heap.size := fun x e => (ho.lt x e).2
 have hv2 : W2.ownsRow W.heap.size 53 2 v1 (L.length - p) ((L.drop p).flatMap It.kc) := owns_keeps (Wi.ownsRow_on hv (below_new (Below.refl _ _))) (Keeps.of_grown (F := fun x => t.ownBlock = some x) g2 (fun _ e => e)) (fun b e f => by have := (hv.lt b e).1; have := htl b f; omega)
 obtain ⟨v3, W3, r3, o3, g3⟩ := Wi.append_rowN (z := .agg #[.int .i64 0,.int .i64 0]) (bytes := 16) Tryz.underlying49 hi hz0 hz1 hz2 rfl (by omega) (by omega) o2 (Wi.RowN.of_owns hv2) (one_keys _) (by omega) (by have := g2.size; omega)
 have k3 : Keeps (fun x => t.ownBlock = some x) W W3 := k2.trans (Keeps.of_grown (F := fun x => v2.ownBlock = some x) g3 (fun _ e => e)) (fun x hx f => by
  rcases ob with ob | ob
  ·rw [ob] at f; exact f
  ·rw [ob] at f
   have := Option.some.inj f
   omega)
 refine ⟨v2, W2, v3, W3, r2, r3, ?_, k2, k3, ?_⟩
 ·rw [List.flatMap_append, List.flatMap_append, List.flatMap_singleton, show L.length + 1 = p + 1 + (L.length - p) by omega]
  exact o3
 ·exact hB.trans (k3.below (fun x f => (ho.lt x f).1) hs0)
theorem fill_key (a b : Int) : Instr.fill (fun i => some (i * 2, 2)) ((Array.range (1 * 2)).map ((Value.agg #[.int .i64 0,.int .i64 0]).cells[· % (Value.agg #[.int .i64 0,.int .i64 0]).cells.size]!)) [(0, Value.agg #[.int .i64 a,.int .i64 b])] = some #[.int .i64 a,.int .i64 b] := by kernel_rfl
theorem step_build53 {ops : Array Oper} {o : Oper} {a : Act} {w : World} {K : Act → World → Prop} {Q : Exit → Act → World → Prop} {E : Prop} (hg : o.guard = none) (y : Operand) (ho : o.op = .buildSlice 49 1 #[(0, y)]) (q1 q2 : Int) (hy : a.eval y = .agg #[.int .i64 q1,.int .i64 q2])
 (hK : K (a.put o.dst (.slice (some ⟨w.heap.size, 0, none⟩) 1 1)) (w.alloc (.cells #[.int .i64 q1,.int .i64 q2] 53))) : if Region.wanted o (yielded ops a.tmps) = true then Oper.wp Tryz.prog o a w K Q else E := by
 rw [if_pos (by simp [Region.wanted, hg])]
 obtain ⟨i0, hi, hz0, hz1, hz2⟩ := info_parts It.info53
 refine wp_buildSlice 49 53 1 #[(0, y)] ho #[.int .i64 q1,.int .i64 q2] i0 (.agg #[.int .i64 0,.int .i64 0]) Tryz.underlying49 hi hz0 (by rw [hz1]; omega) (by rw [hz1]; omega) ?_ hK
 rw [hz1]
 simp only [List.map_toArray, List.map_cons, List.map_nil, hy]
 exact fill_key q1 q2
theorem insts_ref {w : World} {v : Value} {Y : List Rv} (sf sz : Int) (h : Rows w v Y) (hl : Y.length ≤ 1000) : Calls Tryz.prog 65 #[.agg #[v,.int .i64 sf,.int .i64 sz]] w fun e w' => ∃ o, e = .returned o ∧ w'.ownsRow w.heap.size 53 2 o (Nn.all (Y.map Rv.key)).length ((Nn.all (Y.map Rv.key)).flatMap It.kc) ∧ Below w.heap.size w w' := by
 obtain ⟨A, c, rfl⟩ := rowN_sliceOf h.row
 have HH := Lib.hid h
 clear h
 go_enter Tryz.func65, Tryz.ntmps65
 go_wp2
 have HB0 := Lib.hid (show Below w.heap.size w (w.alloc (.cells #[.slice A Y.length c,.int .i64 sf,.int .i64 sz] 41)) from below_new (Below.refl _ _))
 have HA1 := Lib.hid (show Hold (w.alloc (.cells #[.slice A Y.length c,.int .i64 sf,.int .i64 sz] 41)) w.heap.size 41 [.slice A Y.length c,.int .i64 sf,.int .i64 sz] from Wi.Hold.new w [.slice A Y.length c,.int .i64 sf,.int .i64 sz] 41)
 generalize hW0 : w.alloc (.cells #[.slice A Y.length c,.int .i64 sf,.int .i64 sz] 41) = W0 at *
 clear hW0
 go_loopw [3, 4] (fun o i wr => ∃ (k : Nat) (L : List Ky) (u : Value), o = u ∧ i = .int .i64 k ∧ k ≤ Y.length ∧ Hid (L = Nn.all ((Y.take k).map Rv.key)) ∧ Hid (wr.ownsRow W0.heap.size 53 2 u L.length (L.flatMap It.kc)) ∧ Hid (Below W0.heap.size W0 wr)) (fun _ i _ => Y.length - (intOf i).toNat)
 case atStart => exact ⟨0, [], _, rfl, rfl, Nat.zero_le _, Lib.hid rfl, Lib.hid (World.ownsRow_nil _ _ _ _), Lib.hid (Below.refl _ _)⟩
 case round =>
  obtain ⟨k, L, o, ho, rfl, hk, HL, HO, HQ⟩ := hrel
  have ho2 := ho.symm
  subst ho2
  clear ho
  have a0 := hold_cell (HA1.out.on HQ.out) 0 rfl
  by_cases hlt : k < Y.length
  ·obtain ⟨x, hx⟩ : ∃ x, Y[k]? = some x := ⟨_, List.getElem?_eq_getElem hlt⟩
   obtain ⟨b, o1, rfl, hbl, hrr⟩ := rowN_range ((HH.out.below HB0.out).below HQ.out).row hx
   have y0 : wr.cell? ⟨b, o1 + k * 25, none⟩ = some (.int .i64 x.r.ir) := by have := hrr 0 _ rfl; simpa using this
   have y1 : wr.cell? ⟨b, o1 + k * 25 + 1, none⟩ = some (.int .i64 x.r.is) := hrr 1 _ rfl
   have HNX := Lib.hid (show Nn.all ((Y.take (k + 1)).map Rv.key) = Nn.put L (x.r.ir, x.r.is) by
    rw [List.take_add_one, hx, Option.toList_some, List.map_append, List.map_singleton, Nn.all_snoc, HL.out]; rfl)
   have HLL := Lib.hid (show L.length ≤ 1000 by
    have := Nn.all_len ((Y.take k).map Rv.key)
    rw [← HL.out, List.length_map, List.length_take] at this
    omega)
   have hk1 : (k : Int) < (Y.length : Int) := by omega
   clear hx hbl hrr
   obtain ⟨r, va, vb⟩ := x
   dsimp only at y0 y1 HNX
   generalize hx1 : r.ir = x1 at *
   generalize hx2 : r.is = x2 at *
   clear hx1 hx2 r va vb
   have HB1 := Lib.hid (show Below wr.heap.size wr (wr.alloc (.cells #[.int .i64 x1,.int .i64 x2] 53)) from below_new (Below.refl _ _))
   have HTT := Lib.hid (show Hold (wr.alloc (.cells #[.int .i64 x1,.int .i64 x2] 53)) wr.heap.size 53 [.int .i64 x1,.int .i64 x2] from Wi.Hold.new wr [.int .i64 x1,.int .i64 x2] 53)
   go_wp2
   generalize hW1 : wr.alloc (.cells #[.int .i64 x1,.int .i64 x2] 53) = W1 at *
   have HOO := Lib.hid (Wi.ownsRow_on HO.out HB1.out)
   have HBB := Lib.hid (below_on HQ.out HB1.out)
   clear hW1 y0 y1
   have HOB := Lib.hid (show ∀ b, o.ownBlock = some b → b < wr.heap.size from fun b e => (HO.out.lt b e).2)
   have HTB := Lib.hid (show W0.heap.size ≤ wr.heap.size from HQ.out.size)
   generalize hbt : wr.heap.size = bt at *
   clear hbt
   have hpl := Nn.pos_le L (x1, x2)
   have HPL := Lib.hid hpl
   clear hpl
   have hl9 := HLL.out
   go_loopw [6] (fun a wr => ∃ p : Nat, a = .int .i64 p ∧ p ≤ L.length ∧ Hid (p ≤ Nn.pos L (x1, x2)) ∧ Hid (Below W1.heap.size W1 wr)) (fun a _ => L.length - (intOf a).toNat)
   case atStart => exact ⟨0, rfl, Nat.zero_le _, Lib.hid (Nat.zero_le _), Lib.hid (Below.refl _ _)⟩
   case round =>
    obtain ⟨p, rfl, hp, HP, HV⟩ := hrel
    by_cases hlt2 : p < L.length
    ·obtain ⟨⟨a1, a2⟩, ha⟩ : ∃ a, L[p]? = some a := ⟨_, List.getElem?_eq_getElem hlt2⟩
     obtain ⟨g, cap, rfl, hgb, hgl, hcap, d0, d1⟩ := row_kc HOO.out ha
     dsimp only at d0 d1
     have HGL := Lib.hid hgl
     have HCAP := Lib.hid hcap
     have HA := Lib.hid ha
     have HS7 := Lib.hid (show ∀ W, Below W1.heap.size W1 W → W.cell? ⟨g, p * 2, none⟩ = some (.int .i64 a1) ∧ W.cell? ⟨g, p * 2 + 1, none⟩ = some (.int .i64 a2) ∧ W.cell? ⟨bt, 0, none⟩ = some (.int .i64 x1) ∧ W.cell? ⟨bt, 1, none⟩ = some (.int .i64 x2) from fun W k =>
      ⟨(k.cell (p := ⟨g, p * 2, none⟩) HGL.out).trans d0, (k.cell (p := ⟨g, p * 2 + 1, none⟩) HGL.out).trans d1, hold_cell (HTT.out.on k) 0 rfl, hold_cell (HTT.out.on k) 1 rfl⟩)
     obtain ⟨m0, m1, t0, t1⟩ := HS7.out _ HV.out
     obtain ⟨bb, hbb⟩ : ∃ bb, bb = Nn.bef (a1, a2) (x1, x2) := ⟨_, rfl⟩
     have HBE := Lib.hid (show Calls Tryz.prog 90 #[.agg #[.int .i64 a1,.int .i64 a2],.agg #[.int .i64 x1,.int .i64 x2]] wr.drew fun e w' => e = .returned (.bool bb) ∧ Below wr.drew.heap.size wr.drew w' from by rw [hbb]; exact before90 a1 a2 x1 x2 _)
     have HBV := Lib.hid hbb
     have hj1 : (p : Int) < (L.length : Int) := by omega
     clear ha hgb hgl hcap d0 d1 hbb
     go_wp2
     go_region_held3 (fun w' => w'.cell? ⟨g, p * 2, none⟩ = some (.int .i64 a1) ∧ w'.cell? ⟨g, p * 2 + 1, none⟩ = some (.int .i64 a2) ∧ w'.cell? ⟨bt, 0, none⟩ = some (.int .i64 x1) ∧ w'.cell? ⟨bt, 1, none⟩ = some (.int .i64 x2)) (first | exact ⟨m0, m1, t0, t1⟩ | exact ⟨by assumption, by assumption, by assumption, by assumption⟩)
      (first
       | (go_at_call 90; refine Calls.mono HBE.out ?_; rintro e w3 ⟨rfl, hb3⟩; have HV3 := Lib.hid (below_on HV.out (show Below wr.heap.size wr w3 from (Below.refl _ _).drew.trans hb3)); clear hb3; obtain ⟨n0, n1, s0, s1⟩ := HS7.out _ HV3.out))
     clear m0 m1 t0 t1
     cases bb with
     | true =>
       have HPP := Lib.hid (show p + 1 ≤ Nn.pos L (x1, x2) by
        rcases Nat.lt_or_ge p (Nn.pos L (x1, x2)) with h | h
        ·exact h
        ·have : p = Nn.pos L (x1, x2) := Nat.le_antisymm HP.out h
         have h2 := Nn.pos_at (l := L) (k := (x1, x2)) (a := (a1, a2)) (by rw [← this]; exact HA.out)
         rw [← HBV.out] at h2
         cases h2)
       go_wp2
       go_roundw
       case rel => exact ⟨p + 1, by go_num, hlt2, HPP, HV3⟩
       case measure => simp [intOf]; omega
     | false =>
       have HPP := Lib.hid (show p = Nn.pos L (x1, x2) by
        rcases Nat.lt_or_ge p (Nn.pos L (x1, x2)) with h | h
        ·have h2 := Nn.pos_bef h HA.out
         rw [← HBV.out] at h2
         cases h2
        ·exact Nat.le_antisymm HP.out h)
       by_cases hq : a1 = x1 ∧ a2 = x2
       ·have HPU := Lib.hid (show Nn.put L (x1, x2) = L by
         unfold Nn.put
         rw [← HPP.out, HA.out, hq.1, hq.2]
         simp)
        obtain ⟨h1, h2⟩ := hq
        subst h1 h2
        go_wp2
        go_quiet (fail)
        go_wp2
        go_roundw
        case rel =>
         exact ⟨k + 1, L, _, rfl, by go_num, by omega, Lib.hid (by rw [HNX.out]; exact HPU.out.symm), Lib.hid (Wi.ownsRow_on HOO.out (below_drewN HV3.out _)), Lib.hid (below_on HBB.out (below_drewN HV3.out _))⟩
        case measure => simp [intOf]; omega
       ·have HPU := Lib.hid (show Nn.put L (x1, x2) = L.take p ++ [(x1, x2)] ++ L.drop p by
         unfold Nn.put
         rw [← HPP.out, HA.out, if_neg (by simpa using hq)])
        have hcap := HCAP.out
        have hpc1 : ¬ cap = p := by omega
        have hpc2 : p ≤ cap := by omega
        have hx : ¬ a1 = x1 ∨ ¬ a2 = x2 := by omega
        clear hq
        go_wp2
        rcases hx with hx | hx
        all_goals
         go_quiet (fail)
         have HV4 := Lib.hid (below_drewN HV3.out nq)
         generalize hW2 : w3.drewN nq = W2 at *
         clear hW2
         have hob := Wi.ownsRow_on HOO.out HV4.out
         have hu : Wi.RowN 2 W2 (.slice (some ⟨g, p * 2, none⟩) (L.length - p) (cap - p)) (L.length - p) ((L.drop p).flatMap It.kc) := by rw [← kflat_drop]; exact own_rest hob (by omega) (fun _ => rfl) (by omega)
         have ht : W2.ownsRow W0.heap.size 53 2 (.slice (some ⟨g, 0, none⟩) p cap) p ((L.take p).flatMap It.kc) := by rw [← kflat_take]; exact own_cut hob (by omega)
         obtain ⟨v1, W3, hr1, ho1, hb1⟩ := put_run1 hu hl9
         obtain ⟨Wd, hWd⟩ : ∃ Wd, Wd = W3.drew := ⟨_, rfl⟩
         have hd : Below W2.heap.size W2 Wd := by rw [hWd]; exact below_on hb1 (Below.refl _ _).drew
         have hod : Wd.ownsRow W2.heap.size 53 2 v1 (L.length - p) ((L.drop p).flatMap It.kc) := by rw [hWd]; exact Wi.ownsRow_on ho1 (Below.refl _ _).drew
         obtain ⟨v2, W4, v3, W5, hr2, hr3, ho3, k4, k5, hb5⟩ := put_run2 x1 x2 ht hod (by omega) hl9 (below_on HBB.out HV4.out) hd
         have hbt : Hold W2 bt 53 [.int .i64 x1,.int .i64 x2] := HTT.out.on HV4.out
         have hne : ¬ (.slice (some ⟨g, 0, none⟩) p cap : Value).ownBlock = some bt := fun e => Nat.lt_irrefl _ (HOB.out bt e)
         have c0 := hold_cell (hbt.on hd) 0 rfl
         have c1 := hold_cell (hbt.on hd) 1 rfl
         have c0a := hold_cell (hbt.on (below_new (o := .cells #[.int .i64 x1,.int .i64 x2] 53) hd)) 0 rfl
         have c1a := hold_cell (hbt.on (below_new (o := .cells #[.int .i64 x1,.int .i64 x2] 53) hd)) 1 rfl
         have c0b := hold_cell (hold_keeps hbt k4 hne) 0 rfl
         have c1b := hold_cell (hold_keeps hbt k4 hne) 1 rfl
         have c0c := hold_cell (hold_keeps hbt k5 hne) 0 rfl
         have c1c := hold_cell (hold_keeps hbt k5 hne) 1 rfl
         have hlen : (L.take p ++ [(x1, x2)] ++ L.drop p).length = L.length + 1 := by simp only [List.length_append, List.length_take, List.length_drop, List.length_singleton]; omega
         have HO5 := Lib.hid (show W5.ownsRow W0.heap.size 53 2 v3 (L.take p ++ [(x1, x2)] ++ L.drop p).length ((L.take p ++ [(x1, x2)] ++ L.drop p).flatMap It.kc) by rw [hlen]; exact ho3)
         have HB5 := Lib.hid hb5
         have HR1 := Lib.hid hr1
         clear hob hu ht hr1 ho1 hb1 hd hod ho3 k4 k5 hb5 hbt hne hlen
         go_wp2_with (first
          | (at_builtin; refine Lib.wpList_append_run _ rfl (.tmp 47) (.tmp 50) _ _ rfl _ _ rfl rfl _ _ HR1.out ?_)
          | fail)
         refine wp_region_held_drew (S := fun w' => w'.cell? ⟨bt, 0, none⟩ = some (.int .i64 x1) ∧ w'.cell? ⟨bt, 1, none⟩ = some (.int .i64 x2)) (by kernel_rfl) (by rw [← hWd]; exact ⟨c0, c1⟩) (fun hHeld => ?_)
         rw [← hWd] at hHeld ⊢
         clear hWd
         refine wpAnyH_take (i := 0) (v := ?_) rfl (by kernel_rfl) (by kernel_rfl) (by kernel_rfl) (fun _ _ _ h => h) (Or.inl ⟨by rfl, ?_⟩) (by assumption) ?_
         rotate_left
         ·(intro w hSw; (try dsimp only at hSw); go_split_ands; go_simp; (try with_reducible rfl))
         (try simp only [Act.put]); (try simp only [List.setIfInBounds_toArray]); (try simp only [List.set_cons_succ]); (try simp only [List.set_cons_zero])
         refine wpAnyH_take (i := 1) (v := ?_) rfl (by kernel_rfl) (by kernel_rfl) (by kernel_rfl) (fun _ _ _ h => h) (Or.inl ⟨by rfl, ?_⟩) (by assumption) ?_
         rotate_left
         ·(intro w hSw; (try dsimp only at hSw); go_split_ands; go_simp; (try with_reducible rfl))
         (try simp only [Act.put]); (try simp only [List.setIfInBounds_toArray]); (try simp only [List.set_cons_succ]); (try simp only [List.set_cons_zero])
         refine wpAnyH_take (i := 2) (v := ?_) rfl (by kernel_rfl) (by kernel_rfl) (by kernel_rfl) (fun _ _ _ h => h) (Or.inl ⟨by rfl, ?_⟩) (by assumption) ?_
         rotate_left
         ·(intro w hSw; (try dsimp only at hSw); go_split_ands; go_simp; (try with_reducible rfl))
         (try simp only [Act.put]); (try simp only [List.setIfInBounds_toArray]); (try simp only [List.set_cons_succ]); (try simp only [List.set_cons_zero])
         refine wpAnyH_take (i := 3) (v := ?_) rfl (by kernel_rfl) (by kernel_rfl) (by kernel_rfl) (fun _ _ _ h => h) (Or.inl ⟨by rfl, ?_⟩) (by assumption) ?_
         rotate_left
         ·(intro w hSw; (try dsimp only at hSw); go_split_ands; go_simp; (try with_reducible rfl))
         (try simp only [Act.put]); (try simp only [List.setIfInBounds_toArray]); (try simp only [List.set_cons_succ]); (try simp only [List.set_cons_zero])
         refine wpAnyH_take (i := 6) (v := ?_) rfl (by kernel_rfl) (by kernel_rfl) (by kernel_rfl) (fun _ _ _ h => h) (Or.inl ⟨by rfl, ?_⟩) (by assumption) ?_
         rotate_left
         ·(intro w hSw; (try dsimp only at hSw); go_split_ands; go_simp; (try with_reducible rfl))
         (try simp only [Act.put]); (try simp only [List.setIfInBounds_toArray]); (try simp only [List.set_cons_succ]); (try simp only [List.set_cons_zero])
         refine wpAnyH_ready (rs := [4]) (by kernel_rfl) (by simp) ?_
         refine AllReadyH.cons rfl (fun K hK => ?_) AllReadyH.nil
         refine step_build53 rfl (.tmp 55) rfl x1 x2 (by simp [Act.eval]) ?_
         refine hK.out _ _ ⟨c0a, c1a⟩ (fun hHeld => ?_)
         clear hK K
         (try simp only [Act.put]); (try simp only [List.setIfInBounds_toArray]); (try simp only [List.set_cons_succ]); (try simp only [List.set_cons_zero])
         refine wpAnyH_ready (rs := [5]) (by kernel_rfl) (by simp) ?_
         refine AllReadyH.cons rfl (fun K hK => ?_) AllReadyH.nil
         refine step_appr rfl (.tmp 54) (.tmp 56) 49 49 rfl _ _ (by simp [Act.eval]) (by simp [Act.eval]) _ _ hr2 ?_
         refine hK.out _ _ ⟨c0b, c1b⟩ (fun hHeld => ?_)
         clear hK K
         (try simp only [Act.put]); (try simp only [List.setIfInBounds_toArray]); (try simp only [List.set_cons_succ]); (try simp only [List.set_cons_zero])
         refine wpAnyH_ready (rs := [7]) (by kernel_rfl) (by simp) ?_
         refine AllReadyH.cons rfl (fun K hK => ?_) AllReadyH.nil
         refine step_appr rfl (.tmp 57) (.tmp 58) 49 49 rfl _ _ (by simp [Act.eval]) (by simp [Act.eval]) _ _ hr3 ?_
         refine hK.out _ _ ⟨c0c, c1c⟩ (fun hHeld => ?_)
         clear hK K
         (try simp only [Act.put]); (try simp only [List.setIfInBounds_toArray]); (try simp only [List.set_cons_succ]); (try simp only [List.set_cons_zero])
         refine wpAnyH_take (i := 8) (v := ?_) rfl (by kernel_rfl) (by kernel_rfl) (by kernel_rfl) (fun _ _ _ h => h) (Or.inl ⟨by rfl, ?_⟩) (by assumption) ?_
         rotate_left
         ·(intro w hSw; (try dsimp only at hSw); go_split_ands; go_simp; (try with_reducible rfl))
         (try simp only [Act.put]); (try simp only [List.setIfInBounds_toArray]); (try simp only [List.set_cons_succ]); (try simp only [List.set_cons_zero])
         refine wpAnyH_done (by kernel_rfl) ?_ _
         go_wp2
         go_roundw
         case rel => exact ⟨k + 1, L.take p ++ [(x1, x2)] ++ L.drop p, v3, rfl, by go_num, by omega, Lib.hid (by rw [HNX.out]; exact HPU.out.symm), HO5, HB5⟩
         case measure => simp [intOf]; omega
    ·obtain rfl : p = L.length := by omega
     have HPP := Lib.hid (show L.length = Nn.pos L (x1, x2) from Nat.le_antisymm HP.out HPL.out)
     have HPU := Lib.hid (show Nn.put L (x1, x2) = L.take L.length ++ [(x1, x2)] ++ L.drop L.length by
      unfold Nn.put
      rw [← HPP.out, List.getElem?_eq_none (Nat.le_refl _), if_neg (by simp)])
     have hd1 : decide (L.length < L.length) = false := by simp
     rcases HOO.out.2 with ⟨rfl, h0⟩ | ⟨g, cap, cr, rfl, -, -, hcap, -, -⟩
     ·have hd2 : decide (L.length < 0) = false := by simp
      go_wp2
      go_quiet (fail)
      have HV3 := Lib.hid (below_drewN HV.out nq)
      generalize hq : wr.drewN nq = w3 at *
      clear hq
      go_wp2
      go_quiet (fail)
      have HV4 := Lib.hid (below_drewN HV3.out nq)
      generalize hW2 : w3.drewN nq = W2 at *
      clear hW2
      have hob := Wi.ownsRow_on HOO.out HV4.out
      have ht : W2.ownsRow W0.heap.size 53 2 (.slice none 0 0) L.length ((L.take L.length).flatMap It.kc) := ⟨by rw [kflat_len]; simp, .inl ⟨rfl, h0⟩⟩
      have hb1 : Below W2.heap.size W2 (W2.alloc (.cells #[] 53)) := below_new (Below.refl _ _)
      obtain ⟨v1, hv1⟩ : ∃ v1, v1 = Value.slice (some ⟨W2.heap.size, 0, none⟩) 0 0 := ⟨_, rfl⟩
      have ho1 : (W2.alloc (.cells #[] 53)).ownsRow W2.heap.size 53 2 v1 (L.length - L.length) ((L.drop L.length).flatMap It.kc) := by rw [hv1, Nat.sub_self, List.drop_length]; exact bareK W2
      have HV1 := Lib.hid hv1
      obtain ⟨Wd, hWd⟩ : ∃ Wd, Wd = (W2.alloc (.cells #[] 53)).drew := ⟨_, rfl⟩
      have hd : Below W2.heap.size W2 Wd := by rw [hWd]; exact below_on hb1 (Below.refl _ _).drew
      have hod : Wd.ownsRow W2.heap.size 53 2 v1 (L.length - L.length) ((L.drop L.length).flatMap It.kc) := by rw [hWd]; exact Wi.ownsRow_on ho1 (Below.refl _ _).drew
      obtain ⟨v2, W4, v3, W5, hr2, hr3, ho3, k4, k5, hb5⟩ := put_run2 x1 x2 ht hod (by omega) hl9 (below_on HBB.out HV4.out) hd
      have hbt : Hold W2 bt 53 [.int .i64 x1,.int .i64 x2] := HTT.out.on HV4.out
      have hne : ¬ (.slice none 0 0 : Value).ownBlock = some bt := fun e => Nat.lt_irrefl _ (HOB.out bt e)
      have c0 := hold_cell (hbt.on hd) 0 rfl
      have c1 := hold_cell (hbt.on hd) 1 rfl
      have c0a := hold_cell (hbt.on (below_new (o := .cells #[.int .i64 x1,.int .i64 x2] 53) hd)) 0 rfl
      have c1a := hold_cell (hbt.on (below_new (o := .cells #[.int .i64 x1,.int .i64 x2] 53) hd)) 1 rfl
      have c0b := hold_cell (hold_keeps hbt k4 hne) 0 rfl
      have c1b := hold_cell (hold_keeps hbt k4 hne) 1 rfl
      have c0c := hold_cell (hold_keeps hbt k5 hne) 0 rfl
      have c1c := hold_cell (hold_keeps hbt k5 hne) 1 rfl
      have hlen : (L.take L.length ++ [(x1, x2)] ++ L.drop L.length).length = L.length + 1 := by simp only [List.length_append, List.length_take, List.length_drop, List.length_singleton]; omega
      have HO5 := Lib.hid (show W5.ownsRow W0.heap.size 53 2 v3 (L.take L.length ++ [(x1, x2)] ++ L.drop L.length).length ((L.take L.length ++ [(x1, x2)] ++ L.drop L.length).flatMap It.kc) by rw [hlen]; exact ho3)
      have HB5 := Lib.hid hb5
      clear hob ht hv1 ho1 hb1 hd hod ho3 k4 k5 hb5 hbt hne hlen
      go_wp2
      rw [← HV1.out]
      refine wp_region_held_drew (S := fun w' => w'.cell? ⟨bt, 0, none⟩ = some (.int .i64 x1) ∧ w'.cell? ⟨bt, 1, none⟩ = some (.int .i64 x2)) (by kernel_rfl) (by rw [← hWd]; exact ⟨c0, c1⟩) (fun hHeld => ?_)
      rw [← hWd] at hHeld ⊢
      clear hWd
      refine wpAnyH_take (i := 0) (v := ?_) rfl (by kernel_rfl) (by kernel_rfl) (by kernel_rfl) (fun _ _ _ h => h) (Or.inl ⟨by rfl, ?_⟩) (by assumption) ?_
      rotate_left
      ·(intro w hSw; (try dsimp only at hSw); go_split_ands; go_simp; (try with_reducible rfl))
      (try simp only [Act.put]); (try simp only [List.setIfInBounds_toArray]); (try simp only [List.set_cons_succ]); (try simp only [List.set_cons_zero])
      refine wpAnyH_take (i := 1) (v := ?_) rfl (by kernel_rfl) (by kernel_rfl) (by kernel_rfl) (fun _ _ _ h => h) (Or.inl ⟨by rfl, ?_⟩) (by assumption) ?_
      rotate_left
      ·(intro w hSw; (try dsimp only at hSw); go_split_ands; go_simp; (try with_reducible rfl))
      (try simp only [Act.put]); (try simp only [List.setIfInBounds_toArray]); (try simp only [List.set_cons_succ]); (try simp only [List.set_cons_zero])
      refine wpAnyH_take (i := 2) (v := ?_) rfl (by kernel_rfl) (by kernel_rfl) (by kernel_rfl) (fun _ _ _ h => h) (Or.inl ⟨by rfl, ?_⟩) (by assumption) ?_
      rotate_left
      ·(intro w hSw; (try dsimp only at hSw); go_split_ands; go_simp; (try with_reducible rfl))
      (try simp only [Act.put]); (try simp only [List.setIfInBounds_toArray]); (try simp only [List.set_cons_succ]); (try simp only [List.set_cons_zero])
      refine wpAnyH_take (i := 3) (v := ?_) rfl (by kernel_rfl) (by kernel_rfl) (by kernel_rfl) (fun _ _ _ h => h) (Or.inl ⟨by rfl, ?_⟩) (by assumption) ?_
      rotate_left
      ·(intro w hSw; (try dsimp only at hSw); go_split_ands; go_simp; (try with_reducible rfl))
      (try simp only [Act.put]); (try simp only [List.setIfInBounds_toArray]); (try simp only [List.set_cons_succ]); (try simp only [List.set_cons_zero])
      refine wpAnyH_take (i := 6) (v := ?_) rfl (by kernel_rfl) (by kernel_rfl) (by kernel_rfl) (fun _ _ _ h => h) (Or.inl ⟨by rfl, ?_⟩) (by assumption) ?_
      rotate_left
      ·(intro w hSw; (try dsimp only at hSw); go_split_ands; go_simp; (try with_reducible rfl))
      (try simp only [Act.put]); (try simp only [List.setIfInBounds_toArray]); (try simp only [List.set_cons_succ]); (try simp only [List.set_cons_zero])
      refine wpAnyH_ready (rs := [4]) (by kernel_rfl) (by simp) ?_
      refine AllReadyH.cons rfl (fun K hK => ?_) AllReadyH.nil
      refine step_build53 rfl (.tmp 55) rfl x1 x2 (by simp [Act.eval]) ?_
      refine hK.out _ _ ⟨c0a, c1a⟩ (fun hHeld => ?_)
      clear hK K
      (try simp only [Act.put]); (try simp only [List.setIfInBounds_toArray]); (try simp only [List.set_cons_succ]); (try simp only [List.set_cons_zero])
      refine wpAnyH_ready (rs := [5]) (by kernel_rfl) (by simp) ?_
      refine AllReadyH.cons rfl (fun K hK => ?_) AllReadyH.nil
      refine step_appr rfl (.tmp 54) (.tmp 56) 49 49 rfl _ _ (by simp [Act.eval]) (by simp [Act.eval]) _ _ hr2 ?_
      refine hK.out _ _ ⟨c0b, c1b⟩ (fun hHeld => ?_)
      clear hK K
      (try simp only [Act.put]); (try simp only [List.setIfInBounds_toArray]); (try simp only [List.set_cons_succ]); (try simp only [List.set_cons_zero])
      refine wpAnyH_ready (rs := [7]) (by kernel_rfl) (by simp) ?_
      refine AllReadyH.cons rfl (fun K hK => ?_) AllReadyH.nil
      refine step_appr rfl (.tmp 57) (.tmp 58) 49 49 rfl _ _ (by simp [Act.eval]) (by simp [Act.eval]) _ _ hr3 ?_
      refine hK.out _ _ ⟨c0c, c1c⟩ (fun hHeld => ?_)
      clear hK K
      (try simp only [Act.put]); (try simp only [List.setIfInBounds_toArray]); (try simp only [List.set_cons_succ]); (try simp only [List.set_cons_zero])
      refine wpAnyH_take (i := 8) (v := ?_) rfl (by kernel_rfl) (by kernel_rfl) (by kernel_rfl) (fun _ _ _ h => h) (Or.inl ⟨by rfl, ?_⟩) (by assumption) ?_
      rotate_left
      ·(intro w hSw; (try dsimp only at hSw); go_split_ands; go_simp; (try with_reducible rfl))
      (try simp only [Act.put]); (try simp only [List.setIfInBounds_toArray]); (try simp only [List.set_cons_succ]); (try simp only [List.set_cons_zero])
      refine wpAnyH_done (by kernel_rfl) ?_ _
      go_wp2
      go_roundw
      case rel => exact ⟨k + 1, L.take L.length ++ [(x1, x2)] ++ L.drop L.length, v3, rfl, by go_num, by omega, Lib.hid (by rw [HNX.out]; exact HPU.out.symm), HO5, HB5⟩
      case measure => simp [intOf]; omega
     ·have h1 := Nat.le_refl L.length
      have hsp : (¬ cap = L.length) ∨ L.length = cap := by omega
      rcases hsp with hpc1 | rfl
      all_goals
       go_wp2
       go_quiet (fail)
       have HV3 := Lib.hid (below_drewN HV.out nq)
       generalize hq : wr.drewN nq = w3 at *
       clear hq
       go_wp2
       go_quiet (fail)
       have HV4 := Lib.hid (below_drewN HV3.out nq)
       generalize hW2 : w3.drewN nq = W2 at *
       clear hW2
       have hob := Wi.ownsRow_on HOO.out HV4.out
       have ht := own_cut hob (Nat.le_refl L.length)
       rw [kflat_take] at ht
       have hb1 : Below W2.heap.size W2 (W2.alloc (.cells #[] 53)) := below_new (Below.refl _ _)
       obtain ⟨v1, hv1⟩ : ∃ v1, v1 = Value.slice (some ⟨W2.heap.size, 0, none⟩) 0 0 := ⟨_, rfl⟩
       have ho1 : (W2.alloc (.cells #[] 53)).ownsRow W2.heap.size 53 2 v1 (L.length - L.length) ((L.drop L.length).flatMap It.kc) := by rw [hv1, Nat.sub_self, List.drop_length]; exact bareK W2
       have HV1 := Lib.hid hv1
       obtain ⟨Wd, hWd⟩ : ∃ Wd, Wd = (W2.alloc (.cells #[] 53)).drew := ⟨_, rfl⟩
       have hd : Below W2.heap.size W2 Wd := by rw [hWd]; exact below_on hb1 (Below.refl _ _).drew
       have hod : Wd.ownsRow W2.heap.size 53 2 v1 (L.length - L.length) ((L.drop L.length).flatMap It.kc) := by rw [hWd]; exact Wi.ownsRow_on ho1 (Below.refl _ _).drew
       obtain ⟨v2, W4, v3, W5, hr2, hr3, ho3, k4, k5, hb5⟩ := put_run2 x1 x2 ht hod (by omega) hl9 (below_on HBB.out HV4.out) hd
       have hbt : Hold W2 bt 53 [.int .i64 x1,.int .i64 x2] := HTT.out.on HV4.out
       have c0 := hold_cell (hbt.on hd) 0 rfl
       have c1 := hold_cell (hbt.on hd) 1 rfl
       have c0a := hold_cell (hbt.on (below_new (o := .cells #[.int .i64 x1,.int .i64 x2] 53) hd)) 0 rfl
       have c1a := hold_cell (hbt.on (below_new (o := .cells #[.int .i64 x1,.int .i64 x2] 53) hd)) 1 rfl
       have c0b := hold_cell (hold_keeps hbt k4 (fun e => Nat.lt_irrefl _ (HOB.out bt e))) 0 rfl
       have c1b := hold_cell (hold_keeps hbt k4 (fun e => Nat.lt_irrefl _ (HOB.out bt e))) 1 rfl
       have c0c := hold_cell (hold_keeps hbt k5 (fun e => Nat.lt_irrefl _ (HOB.out bt e))) 0 rfl
       have c1c := hold_cell (hold_keeps hbt k5 (fun e => Nat.lt_irrefl _ (HOB.out bt e))) 1 rfl
       have hlen : (L.take L.length ++ [(x1, x2)] ++ L.drop L.length).length = L.length + 1 := by simp only [List.length_append, List.length_take, List.length_drop, List.length_singleton]; omega
       have HO5 := Lib.hid (show W5.ownsRow W0.heap.size 53 2 v3 (L.take L.length ++ [(x1, x2)] ++ L.drop L.length).length ((L.take L.length ++ [(x1, x2)] ++ L.drop L.length).flatMap It.kc) by rw [hlen]; exact ho3)
       have HB5 := Lib.hid hb5
       clear hob ht hv1 ho1 hb1 hd hod ho3 k4 k5 hb5 hbt hlen
       go_wp2
       rw [← HV1.out]
       refine wp_region_held_drew (S := fun w' => w'.cell? ⟨bt, 0, none⟩ = some (.int .i64 x1) ∧ w'.cell? ⟨bt, 1, none⟩ = some (.int .i64 x2)) (by kernel_rfl) (by rw [← hWd]; exact ⟨c0, c1⟩) (fun hHeld => ?_)
       rw [← hWd] at hHeld ⊢
       clear hWd
       refine wpAnyH_take (i := 0) (v := ?_) rfl (by kernel_rfl) (by kernel_rfl) (by kernel_rfl) (fun _ _ _ h => h) (Or.inl ⟨by rfl, ?_⟩) (by assumption) ?_
       rotate_left
       ·(intro w hSw; (try dsimp only at hSw); go_split_ands; go_simp; (try with_reducible rfl))
       (try simp only [Act.put]); (try simp only [List.setIfInBounds_toArray]); (try simp only [List.set_cons_succ]); (try simp only [List.set_cons_zero])
       refine wpAnyH_take (i := 1) (v := ?_) rfl (by kernel_rfl) (by kernel_rfl) (by kernel_rfl) (fun _ _ _ h => h) (Or.inl ⟨by rfl, ?_⟩) (by assumption) ?_
       rotate_left
       ·(intro w hSw; (try dsimp only at hSw); go_split_ands; go_simp; (try with_reducible rfl))
       (try simp only [Act.put]); (try simp only [List.setIfInBounds_toArray]); (try simp only [List.set_cons_succ]); (try simp only [List.set_cons_zero])
       refine wpAnyH_take (i := 2) (v := ?_) rfl (by kernel_rfl) (by kernel_rfl) (by kernel_rfl) (fun _ _ _ h => h) (Or.inl ⟨by rfl, ?_⟩) (by assumption) ?_
       rotate_left
       ·(intro w hSw; (try dsimp only at hSw); go_split_ands; go_simp; (try with_reducible rfl))
       (try simp only [Act.put]); (try simp only [List.setIfInBounds_toArray]); (try simp only [List.set_cons_succ]); (try simp only [List.set_cons_zero])
       refine wpAnyH_take (i := 3) (v := ?_) rfl (by kernel_rfl) (by kernel_rfl) (by kernel_rfl) (fun _ _ _ h => h) (Or.inl ⟨by rfl, ?_⟩) (by assumption) ?_
       rotate_left
       ·(intro w hSw; (try dsimp only at hSw); go_split_ands; go_simp; (try with_reducible rfl))
       (try simp only [Act.put]); (try simp only [List.setIfInBounds_toArray]); (try simp only [List.set_cons_succ]); (try simp only [List.set_cons_zero])
       refine wpAnyH_take (i := 6) (v := ?_) rfl (by kernel_rfl) (by kernel_rfl) (by kernel_rfl) (fun _ _ _ h => h) (Or.inl ⟨by rfl, ?_⟩) (by assumption) ?_
       rotate_left
       ·(intro w hSw; (try dsimp only at hSw); go_split_ands; go_simp; (try with_reducible rfl))
       (try simp only [Act.put]); (try simp only [List.setIfInBounds_toArray]); (try simp only [List.set_cons_succ]); (try simp only [List.set_cons_zero])
       refine wpAnyH_ready (rs := [4]) (by kernel_rfl) (by simp) ?_
       refine AllReadyH.cons rfl (fun K hK => ?_) AllReadyH.nil
       refine step_build53 rfl (.tmp 55) rfl x1 x2 (by simp [Act.eval]) ?_
       refine hK.out _ _ ⟨c0a, c1a⟩ (fun hHeld => ?_)
       clear hK K
       (try simp only [Act.put]); (try simp only [List.setIfInBounds_toArray]); (try simp only [List.set_cons_succ]); (try simp only [List.set_cons_zero])
       refine wpAnyH_ready (rs := [5]) (by kernel_rfl) (by simp) ?_
       refine AllReadyH.cons rfl (fun K hK => ?_) AllReadyH.nil
       refine step_appr rfl (.tmp 54) (.tmp 56) 49 49 rfl _ _ (by simp [Act.eval]) (by simp [Act.eval]) _ _ hr2 ?_
       refine hK.out _ _ ⟨c0b, c1b⟩ (fun hHeld => ?_)
       clear hK K
       (try simp only [Act.put]); (try simp only [List.setIfInBounds_toArray]); (try simp only [List.set_cons_succ]); (try simp only [List.set_cons_zero])
       refine wpAnyH_ready (rs := [7]) (by kernel_rfl) (by simp) ?_
       refine AllReadyH.cons rfl (fun K hK => ?_) AllReadyH.nil
       refine step_appr rfl (.tmp 57) (.tmp 58) 49 49 rfl _ _ (by simp [Act.eval]) (by simp [Act.eval]) _ _ hr3 ?_
       refine hK.out _ _ ⟨c0c, c1c⟩ (fun hHeld => ?_)
       clear hK K
       (try simp only [Act.put]); (try simp only [List.setIfInBounds_toArray]); (try simp only [List.set_cons_succ]); (try simp only [List.set_cons_zero])
       refine wpAnyH_take (i := 8) (v := ?_) rfl (by kernel_rfl) (by kernel_rfl) (by kernel_rfl) (fun _ _ _ h => h) (Or.inl ⟨by rfl, ?_⟩) (by assumption) ?_
       rotate_left
       ·(intro w hSw; (try dsimp only at hSw); go_split_ands; go_simp; (try with_reducible rfl))
       (try simp only [Act.put]); (try simp only [List.setIfInBounds_toArray]); (try simp only [List.set_cons_succ]); (try simp only [List.set_cons_zero])
       refine wpAnyH_done (by kernel_rfl) ?_ _
       go_wp2
       go_roundw
       case rel => exact ⟨k + 1, L.take L.length ++ [(x1, x2)] ++ L.drop L.length, v3, rfl, by go_num, by omega, Lib.hid (by rw [HNX.out]; exact HPU.out.symm), HO5, HB5⟩
       case measure => simp [intOf]; omega
  ·obtain rfl : k = Y.length := by omega
   have HR := Lib.hid (show wr.ownsRow w.heap.size 53 2 o (Nn.all (Y.map Rv.key)).length ((Nn.all (Y.map Rv.key)).flatMap It.kc) by
    have := HO.out.mono HB0.out.size
    rw [HL.out, List.take_length] at this
    exact this)
   go_wp2
   go_ret
   exact ⟨_, rfl, HR.out, below_on HB0.out HQ.out⟩
end Rf
end Go.Proofs.YtdachohcjpjblaaGreatDoor
