/- Contracts of slices.DeleteFunc at the closures of Part, on rows of one's own; no conditions but the lengths that they name. -/
import Derived.Test.YtacieiddhkkahaaCmdsQ
namespace Go.Proofs.Ytacieiddhkkahaa
open Go.ChangeShapes Go.WideShapes Go.ChangeAt Go.RowKit

namespace M
/-- Those of a shard. -/
def inR (k n : Int) (r : (List UInt8 × Int × Int)) : Bool := !elseB k n r.1
def inW (k n : Int) (r : (List UInt8 × List UInt8)) : Bool := !elseB k n r.1
def partR (k n : Int) (l : List (List UInt8 × Int × Int)) : List (List UInt8 × Int × Int) := l.filter (inR k n)
def partW (k n : Int) (l : List (List UInt8 × List UInt8)) : List (List UInt8 × List UInt8) := l.filter (inW k n)
end M

theorem own_some {w : World} {base g n c : Nat} {e : TypeId} {k : Nat} {xs : List Value} {j : Nat} (h : w.ownsRow base e k (.slice (some ⟨g, 0, none⟩) n c) n xs) (hj : j < n * k) : ∃ u, w.cell? ⟨g, j, none⟩ = some u := by
  have hl : j < xs.length := by rw [h.1]; exact hj
  exact ⟨xs[j], by rw [h.cellAt j hj, List.getElem?_eq_getElem hl]⟩

/-- What is cut: a row of one's own, what was there is as it was. -/
def deleteRPost (l : List (List UInt8 × Int × Int)) (k n : Int) (base : Nat) (v : Value) (w : World) (e : Ending) (w' : World) : Prop := ∃ v', e = .returned v' ∧ w'.ownsRow base 40 3 v' (M.partR k n l).length (rdsC (M.partR k n l)) ∧ w.grownBy w' v.ownBlock ∧ v'.ownBlock = v.ownBlock

set_option maxHeartbeats 8000000 in
set_option maxRecDepth 100000 in
theorem deleteR_any {w : World} {v : Value} {base : Nat} {l : List (List UInt8 × Int × Int)} {n k : Int} {b1 b2 b3 : Nat} (own : w.ownsRow base 40 3 v l.length (rdsC l)) (hl : l.length ≤ 1000) (hc : Cap w b1 b2 b3 n k) (d1 : b1 < base) (d2 : b2 < base) (d3 : b3 < base) : Calls Try.prog 28 #[v, .func (.func 29) #[] #[.pointer (some ⟨b3, 0, none⟩)]] w (deleteRPost l k n base v w) := by
  have HI := Lib.hid (indexR_any (show Rds w v l from RowN.of_owns own) hl hc)
  have HO := Lib.hid own
  have HC := Lib.hid hc
  clear hc
  have ALL := Lib.hid (show (∀ j, j < l.length → M.elR k n l j = false) → M.partR k n l = l from fun h => by
    unfold M.partR
    have := M.filter_first (p := M.inR k n) rd0 l.length (Nat.le_refl _) (fun j hj => by have := h j hj; unfold M.inR; unfold M.elR at this; rw [this]; rfl)
    rwa [List.take_length] at this)
  rcases own.2 with ⟨rfl, hn0⟩ | ⟨g, cap, cur, rfl, hbase, hblk, hnc, hcm, hcs, htk⟩
  · clear own
    go_enter Try.func28, Try.ntmps28
    go_wp2_with (fail)
    refine HI.out.mono ?_
    rintro e w1 ⟨h1 | ⟨rfl, h1⟩, hb1⟩
    · obtain ⟨i, hi, _⟩ := h1
      omega
    · have HP := Lib.hid (ALL.out h1)
      have B1 := Lib.hid hb1
      clear h1 hb1 hn0
      go_wp2
      go_ret
      exact ⟨_, rfl, by rw [HP.out]; exact ownsRow_on HO.out B1.out, grown_of B1.out _, rfl⟩
  · have hgw : g < w.heap.size := (Array.getElem?_eq_some_iff.1 hblk).1
    clear own hblk hcm hcs htk
    go_enter Try.func28, Try.ntmps28
    go_wp2_with (fail)
    refine HI.out.mono ?_
    rintro e w1 ⟨⟨i0, hi0, rfl, hp, hnp⟩ | ⟨rfl, h1⟩, hb1⟩
    · have O1 := Lib.hid (ownsRow_on HO.out hb1)
      have C1 := Lib.hid (HC.out.on hb1)
      have G1 := Lib.hid (grown_of hb1 (some g))
      have K0 := Lib.hid (show l.take i0 = (l.take (i0 + 1)).filter (M.inR k n) by
        rw [M.filter_skip rd0 hi0 (by unfold M.inR; unfold M.elR at hp; rw [hp]; rfl), M.filter_first rd0 i0 (by omega) (fun j hj => by have := hnp j hj; unfold M.inR; unfold M.elR at this; rw [this]; rfl)])
      have i1 : ((i0 : Int) == -1) = false := by rw [beq_eq_false_iff_ne]; omega
      clear hb1 hp hnp HO HC HI ALL
      go_wp2
      go_loopw [5, 6] (fun x y wr => ∃ (i j : Nat) (L : List (List UInt8 × Int × Int)), i < j ∧ j ≤ l.length ∧ x = .int .i64 i ∧ y = .int .i64 j ∧ L.length = l.length ∧ wr.ownsRow base 40 3 (.slice (some ⟨g, 0, none⟩) l.length cap) l.length (rdsC L) ∧ L.take i = (l.take j).filter (M.inR k n) ∧ L.drop j = l.drop j ∧ w.grownBy wr (some g) ∧ Cap wr b1 b2 b3 n k) (fun _ y _ => l.length - (intOf y).toNat)
      case atStart => exact ⟨i0, i0 + 1, l, by omega, by omega, rfl, by go_num, rfl, O1.out, K0.out, rfl, G1.out, C1.out⟩
      case round =>
        clear O1 C1 G1 K0 i1
        obtain ⟨i, j, L, hij, hjl, rfl, rfl, hLl, hown, htk, hdr, hgr, hcap⟩ := hrel
        have OW := Lib.hid hown
        have TK := Lib.hid htk
        have DR := Lib.hid hdr
        have GR := Lib.hid hgr
        have CP := Lib.hid hcap
        have LL := Lib.hid hLl
        have hgs : g < wr.heap.size := (hown.lt g rfl).2
        clear hown htk hdr hgr hcap hLl
        by_cases hlt : j < l.length
        · have hop := (show Rds wr (.slice (some ⟨g, 0, none⟩) l.length cap) L by have := RowN.of_owns OW.out; rw [← LL.out] at this ⊢; exact this).opened
          obtain ⟨A', c', e1, -, hx⟩ := hop
          simp only [Value.slice.injEq] at e1
          obtain ⟨b', o', e2, -, hy⟩ := hx (by have := LL.out; omega)
          rw [← e1.1] at e2
          simp only [Option.some.injEq, Addr.mk.injEq] at e2
          obtain ⟨rfl, rfl, -⟩ := e2
          have hat := hy j (by have := LL.out; omega)
          rw [M.drop_get rd0 DR.out, Nat.zero_add] at hat
          obtain ⟨z1, z2, z3⟩ := hat
          clear hx hy e1
          have KEEP := Lib.hid (M.filter_keep (l := l) (p := M.inR k n) (j := j) rd0 hlt)
          have SKIP := Lib.hid (M.filter_skip (l := l) (p := M.inR k n) (j := j) rd0 hlt)
          have SETS := Lib.hid (rdsC_set L i (l.getD j rd0) (by have := LL.out; omega))
          have TAKE := Lib.hid (M.set_take L i (l.getD j rd0) (by have := LL.out; omega))
          have LEN := Lib.hid (show (L.set i (l.getD j rd0)).length = l.length by rw [List.length_set]; exact LL.out)
          have DROP := Lib.hid (show (L.set i (l.getD j rd0)).drop (j + 1) = l.drop (j + 1) by rw [M.set_drop _ _ _ _ (by omega)]; exact M.drop_next DR.out)
          have PIN := Lib.hid (show M.inR k n (l.getD j rd0) = !M.elseB k n (l.getD j rd0).1 from rfl)
          obtain ⟨R, hR⟩ : ∃ R, R = l.getD j rd0 := ⟨_, rfl⟩
          rw [← hR] at z1 z2 z3 KEEP SKIP SETS TAKE LEN DROP PIN
          clear hR
          obtain ⟨x, t, u⟩ := R
          dsimp only at z1 z2 z3
          have SETS2 := Lib.hid (show (((rdsC L).set (i * 3) (.string ⟨x.toArray⟩)).set (i * 3 + 1) (.int .i64 t)).set (i * 3 + 2) (.int .i64 u) = rdsC (L.set i (x, t, u)) from SETS.out)
          have PIN2 := Lib.hid (show M.inR k n (x, t, u) = !M.elseB k n x from PIN.out)
          clear SETS PIN
          have hj1 : (j : Int) < (l.length : Int) := by omega
          cases q0 : M.elseB k n x
          · have KP := Lib.hid (KEEP.out (by rw [PIN2.out, q0]; rfl))
            go_wp2_with (fail)
            refine (cloR_any x t u (CP.out.push _)).mono ?_
            rintro e w2 ⟨rfl, hb1⟩
            have O1 := Lib.hid (ownsRow_on (OW.out.alloc _) hb1)
            have C1 := Lib.hid ((CP.out.push _).on hb1)
            have G1 := Lib.hid (GR.out.trans ((World.grownBy_alloc _ _ (some g)).trans (grown_of hb1 (some g))))
            have r1 := (hb1.cell (p := ⟨wr.heap.size, 0, none⟩) (by simp)).trans (show (wr.alloc (.cells #[.string ⟨x.toArray⟩, .int .i64 t, .int .i64 u] 40)).cell? ⟨wr.heap.size, 0, none⟩ = some (.string ⟨x.toArray⟩) by simp)
            have r2 := (hb1.cell (p := ⟨wr.heap.size, 1, none⟩) (by simp)).trans (show (wr.alloc (.cells #[.string ⟨x.toArray⟩, .int .i64 t, .int .i64 u] 40)).cell? ⟨wr.heap.size, 1, none⟩ = some (.int .i64 t) by simp)
            have r3 := (hb1.cell (p := ⟨wr.heap.size, 2, none⟩) (by simp)).trans (show (wr.alloc (.cells #[.string ⟨x.toArray⟩, .int .i64 t, .int .i64 u] 40)).cell? ⟨wr.heap.size, 2, none⟩ = some (.int .i64 u) by simp)
            have y1 := O1.out.frozenAt (i * 3)
            have y2 := O1.out.frozenAt (i * 3 + 1)
            have y3 := O1.out.frozenAt (i * 3 + 2)
            obtain ⟨u1, x1⟩ := own_some O1.out (j := i * 3) (by omega)
            obtain ⟨u2, x2⟩ := own_some O1.out (j := i * 3 + 1) (by omega)
            obtain ⟨u3, x3⟩ := own_some O1.out (j := i * 3 + 2) (by omega)
            clear hb1 OW CP GR
            have hi1 : (i : Int) < (l.length : Int) := by omega
            obtain ⟨s1, t1'⟩ := O1.out.stored (i * 3) (.string ⟨x.toArray⟩)
            obtain ⟨s2, t2'⟩ := s1.stored (i * 3 + 1) (.int .i64 t)
            obtain ⟨s3, t3'⟩ := s2.stored (i * 3 + 2) (.int .i64 u)
            have OS := Lib.hid (show World.ownsRow (((w2.setCell ⟨g, i * 3, none⟩ (.string ⟨x.toArray⟩)).setCell ⟨g, i * 3 + 1, none⟩ (.int .i64 t)).setCell ⟨g, i * 3 + 2, none⟩ (.int .i64 u)) base 40 3 (.slice (some ⟨g, 0, none⟩) l.length cap) l.length (rdsC (L.set i (x, t, u))) by rw [← SETS2.out]; exact s3)
            have GS := Lib.hid (G1.out.trans (t1'.trans (t2'.trans (t3'))))
            have CS := Lib.hid (C1.out.far (t1'.trans (t2'.trans (t3'))) (by omega) (by omega) (by omega))
            clear s1 t1' s2 t2' s3 t3' O1 C1 G1
            go_wp2
            go_roundw
            case rel => exact ⟨i + 1, j + 1, L.set i (x, t, u), by omega, by omega, by go_num, by go_num, LEN.out, OS.out, by rw [TAKE.out, TK.out, KP.out], DROP.out, GS.out, CS.out⟩
            case measure => simp [intOf]; omega
          · have SK := Lib.hid (SKIP.out (by rw [PIN2.out, q0]; rfl))
            go_wp2_with (fail)
            refine (cloR_any x t u (CP.out.push _)).mono ?_
            rintro e w2 ⟨rfl, hb1⟩
            have O1 := Lib.hid (ownsRow_on (OW.out.alloc _) hb1)
            have C1 := Lib.hid ((CP.out.push _).on hb1)
            have G1 := Lib.hid (GR.out.trans ((World.grownBy_alloc _ _ (some g)).trans (grown_of hb1 (some g))))
            clear hb1 OW CP GR
            go_wp2
            go_roundw
            case rel => exact ⟨i, j + 1, L, by omega, by omega, rfl, by go_num, LL.out, O1.out, by rw [SK.out]; exact TK.out, M.drop_next DR.out, G1.out, C1.out⟩
            case measure => simp [intOf]; omega
        · obtain rfl : j = l.length := by omega
          have hil : i < l.length := hij
          have hic : i < cap := by omega
          obtain ⟨vs, hvs⟩ : ∃ vs, vs = (Builtin.zeroCells (.agg #[.string ⟨#[]⟩, .int .i64 0, .int .i64 0] : Value).cells (l.length - i)).toList := ⟨_, rfl⟩
          have hvl : vs.length = (l.length - i) * 3 := by rw [hvs]; simp [size_zeroCells, Value.cells]
          obtain ⟨w3, hw3⟩ : ∃ w3, w3 = wr.setCells g (i * 3) vs := ⟨_, rfl⟩
          have hcl : ∀ ty, (Builtin.clear_ #[26] ty #[.slice (some ⟨g, i * 3, none⟩) (l.length - i) (cap - i)]).run Try.prog wr = .ok (.tuple #[]) w3 := fun ty => by
            rw [hw3]
            refine run_clearN wr 26 40 ty (.agg #[.string ⟨#[]⟩, .int .i64 0, .int .i64 0]) Try.underlying26 Try.zeroValue40 g (i * 3) (l.length - i) (cap - i) vs hvs.symm ?_ (by omega) (fun q hq => ?_) (fun q hq => OW.out.frozenAt _)
            · rw [hvs]
              refine zero_mem _ _ (fun v hv => ?_)
              simp [Value.cells] at hv
              rcases hv with rfl | rfl | rfl <;> rfl
            · obtain ⟨u, hu⟩ := own_some OW.out (j := i * 3 + q) (by rw [hvl] at hq; omega)
              rw [hu]; rfl
          obtain ⟨ys, o3, t3, g3⟩ := own_setCells (q := i * 3) vs (i * 3) wr _ OW.out (Nat.le_refl _)
          rw [← hw3] at o3 g3
          have TL := Lib.hid (show L.take i = M.partR k n l by rw [TK.out, List.take_length]; rfl)
          have PL := Lib.hid (show (M.partR k n l).length = i by rw [← TL.out, List.length_take]; have := LL.out; omega)
          have o4 := own_frontN o3 (Nat.le_of_lt hil)
          rw [t3, rdsC_take, TL.out] at o4
          have O4 := Lib.hid o4
          have G4 := Lib.hid (GR.out.trans g3)
          clear hvs hvl hw3 o3 t3 g3 o4 OW TK DR GR CP LL TL
          go_wp2_with (simp only [hcl])
          go_ret
          exact ⟨_, rfl, by rw [PL.out]; exact O4.out, G4.out, rfl⟩
    · have HP := Lib.hid (ALL.out h1)
      have B1 := Lib.hid hb1
      clear h1 hb1
      go_wp2
      go_ret
      exact ⟨_, rfl, by rw [HP.out]; exact ownsRow_on HO.out B1.out, grown_of B1.out _, rfl⟩

/-- What is cut: a row of one's own, what was there is as it was. -/
def deleteWPost (l : List (List UInt8 × List UInt8)) (k n : Int) (base : Nat) (v : Value) (w : World) (e : Ending) (w' : World) : Prop := ∃ v', e = .returned v' ∧ w'.ownsRow base 42 2 v' (M.partW k n l).length (wrsC (M.partW k n l)) ∧ w.grownBy w' v.ownBlock ∧ v'.ownBlock = v.ownBlock

set_option maxHeartbeats 8000000 in
set_option maxRecDepth 100000 in
theorem deleteW_any {w : World} {v : Value} {base : Nat} {l : List (List UInt8 × List UInt8)} {n k : Int} {b1 b2 b3 : Nat} (own : w.ownsRow base 42 2 v l.length (wrsC l)) (hl : l.length ≤ 1000) (hc : Cap w b1 b2 b3 n k) (d1 : b1 < base) (d2 : b2 < base) (d3 : b3 < base) : Calls Try.prog 30 #[v, .func (.func 31) #[] #[.pointer (some ⟨b3, 0, none⟩)]] w (deleteWPost l k n base v w) := by
  have HI := Lib.hid (indexW_any (show Wrs w v l from RowN.of_owns own) hl hc)
  have HO := Lib.hid own
  have HC := Lib.hid hc
  clear hc
  have ALL := Lib.hid (show (∀ j, j < l.length → M.elW k n l j = false) → M.partW k n l = l from fun h => by
    unfold M.partW
    have := M.filter_first (p := M.inW k n) wr0 l.length (Nat.le_refl _) (fun j hj => by have := h j hj; unfold M.inW; unfold M.elW at this; rw [this]; rfl)
    rwa [List.take_length] at this)
  rcases own.2 with ⟨rfl, hn0⟩ | ⟨g, cap, cur, rfl, hbase, hblk, hnc, hcm, hcs, htk⟩
  · clear own
    go_enter Try.func30, Try.ntmps30
    go_wp2_with (fail)
    refine HI.out.mono ?_
    rintro e w1 ⟨h1 | ⟨rfl, h1⟩, hb1⟩
    · obtain ⟨i, hi, _⟩ := h1
      omega
    · have HP := Lib.hid (ALL.out h1)
      have B1 := Lib.hid hb1
      clear h1 hb1 hn0
      go_wp2
      go_ret
      exact ⟨_, rfl, by rw [HP.out]; exact ownsRow_on HO.out B1.out, grown_of B1.out _, rfl⟩
  · have hgw : g < w.heap.size := (Array.getElem?_eq_some_iff.1 hblk).1
    clear own hblk hcm hcs htk
    go_enter Try.func30, Try.ntmps30
    go_wp2_with (fail)
    refine HI.out.mono ?_
    rintro e w1 ⟨⟨i0, hi0, rfl, hp, hnp⟩ | ⟨rfl, h1⟩, hb1⟩
    · have O1 := Lib.hid (ownsRow_on HO.out hb1)
      have C1 := Lib.hid (HC.out.on hb1)
      have G1 := Lib.hid (grown_of hb1 (some g))
      have K0 := Lib.hid (show l.take i0 = (l.take (i0 + 1)).filter (M.inW k n) by
        rw [M.filter_skip wr0 hi0 (by unfold M.inW; unfold M.elW at hp; rw [hp]; rfl), M.filter_first wr0 i0 (by omega) (fun j hj => by have := hnp j hj; unfold M.inW; unfold M.elW at this; rw [this]; rfl)])
      have i1 : ((i0 : Int) == -1) = false := by rw [beq_eq_false_iff_ne]; omega
      clear hb1 hp hnp HO HC HI ALL
      go_wp2
      go_loopw [5, 6] (fun x y wr => ∃ (i j : Nat) (L : List (List UInt8 × List UInt8)), i < j ∧ j ≤ l.length ∧ x = .int .i64 i ∧ y = .int .i64 j ∧ L.length = l.length ∧ wr.ownsRow base 42 2 (.slice (some ⟨g, 0, none⟩) l.length cap) l.length (wrsC L) ∧ L.take i = (l.take j).filter (M.inW k n) ∧ L.drop j = l.drop j ∧ w.grownBy wr (some g) ∧ Cap wr b1 b2 b3 n k) (fun _ y _ => l.length - (intOf y).toNat)
      case atStart => exact ⟨i0, i0 + 1, l, by omega, by omega, rfl, by go_num, rfl, O1.out, K0.out, rfl, G1.out, C1.out⟩
      case round =>
        clear O1 C1 G1 K0 i1
        obtain ⟨i, j, L, hij, hjl, rfl, rfl, hLl, hown, htk, hdr, hgr, hcap⟩ := hrel
        have OW := Lib.hid hown
        have TK := Lib.hid htk
        have DR := Lib.hid hdr
        have GR := Lib.hid hgr
        have CP := Lib.hid hcap
        have LL := Lib.hid hLl
        have hgs : g < wr.heap.size := (hown.lt g rfl).2
        clear hown htk hdr hgr hcap hLl
        by_cases hlt : j < l.length
        · have hop := (show Wrs wr (.slice (some ⟨g, 0, none⟩) l.length cap) L by have := RowN.of_owns OW.out; rw [← LL.out] at this ⊢; exact this).opened
          obtain ⟨A', c', e1, -, hx⟩ := hop
          simp only [Value.slice.injEq] at e1
          obtain ⟨b', o', e2, -, hy⟩ := hx (by have := LL.out; omega)
          rw [← e1.1] at e2
          simp only [Option.some.injEq, Addr.mk.injEq] at e2
          obtain ⟨rfl, rfl, -⟩ := e2
          have hat := hy j (by have := LL.out; omega)
          rw [M.drop_get wr0 DR.out, Nat.zero_add] at hat
          obtain ⟨z1, z2⟩ := hat
          clear hx hy e1
          have KEEP := Lib.hid (M.filter_keep (l := l) (p := M.inW k n) (j := j) wr0 hlt)
          have SKIP := Lib.hid (M.filter_skip (l := l) (p := M.inW k n) (j := j) wr0 hlt)
          have SETS := Lib.hid (wrsC_set L i (l.getD j wr0) (by have := LL.out; omega))
          have TAKE := Lib.hid (M.set_take L i (l.getD j wr0) (by have := LL.out; omega))
          have LEN := Lib.hid (show (L.set i (l.getD j wr0)).length = l.length by rw [List.length_set]; exact LL.out)
          have DROP := Lib.hid (show (L.set i (l.getD j wr0)).drop (j + 1) = l.drop (j + 1) by rw [M.set_drop _ _ _ _ (by omega)]; exact M.drop_next DR.out)
          have PIN := Lib.hid (show M.inW k n (l.getD j wr0) = !M.elseB k n (l.getD j wr0).1 from rfl)
          obtain ⟨R, hR⟩ : ∃ R, R = l.getD j wr0 := ⟨_, rfl⟩
          rw [← hR] at z1 z2 KEEP SKIP SETS TAKE LEN DROP PIN
          clear hR
          obtain ⟨x, t⟩ := R
          dsimp only at z1 z2
          have SETS2 := Lib.hid (show ((wrsC L).set (i * 2) (.string ⟨x.toArray⟩)).set (i * 2 + 1) (.string ⟨t.toArray⟩) = wrsC (L.set i (x, t)) from SETS.out)
          have PIN2 := Lib.hid (show M.inW k n (x, t) = !M.elseB k n x from PIN.out)
          clear SETS PIN
          have hj1 : (j : Int) < (l.length : Int) := by omega
          cases q0 : M.elseB k n x
          · have KP := Lib.hid (KEEP.out (by rw [PIN2.out, q0]; rfl))
            go_wp2_with (fail)
            refine (cloW_any x t (CP.out.push _)).mono ?_
            rintro e w2 ⟨rfl, hb1⟩
            have O1 := Lib.hid (ownsRow_on (OW.out.alloc _) hb1)
            have C1 := Lib.hid ((CP.out.push _).on hb1)
            have G1 := Lib.hid (GR.out.trans ((World.grownBy_alloc _ _ (some g)).trans (grown_of hb1 (some g))))
            have r1 := (hb1.cell (p := ⟨wr.heap.size, 0, none⟩) (by simp)).trans (show (wr.alloc (.cells #[.string ⟨x.toArray⟩, .string ⟨t.toArray⟩] 42)).cell? ⟨wr.heap.size, 0, none⟩ = some (.string ⟨x.toArray⟩) by simp)
            have r2 := (hb1.cell (p := ⟨wr.heap.size, 1, none⟩) (by simp)).trans (show (wr.alloc (.cells #[.string ⟨x.toArray⟩, .string ⟨t.toArray⟩] 42)).cell? ⟨wr.heap.size, 1, none⟩ = some (.string ⟨t.toArray⟩) by simp)
            have y1 := O1.out.frozenAt (i * 2)
            have y2 := O1.out.frozenAt (i * 2 + 1)
            obtain ⟨u1, x1⟩ := own_some O1.out (j := i * 2) (by omega)
            obtain ⟨u2, x2⟩ := own_some O1.out (j := i * 2 + 1) (by omega)
            clear hb1 OW CP GR
            have hi1 : (i : Int) < (l.length : Int) := by omega
            obtain ⟨s1, t1'⟩ := O1.out.stored (i * 2) (.string ⟨x.toArray⟩)
            obtain ⟨s2, t2'⟩ := s1.stored (i * 2 + 1) (.string ⟨t.toArray⟩)
            have OS := Lib.hid (show World.ownsRow ((w2.setCell ⟨g, i * 2, none⟩ (.string ⟨x.toArray⟩)).setCell ⟨g, i * 2 + 1, none⟩ (.string ⟨t.toArray⟩)) base 42 2 (.slice (some ⟨g, 0, none⟩) l.length cap) l.length (wrsC (L.set i (x, t))) by rw [← SETS2.out]; exact s2)
            have GS := Lib.hid (G1.out.trans (t1'.trans (t2')))
            have CS := Lib.hid (C1.out.far (t1'.trans (t2')) (by omega) (by omega) (by omega))
            clear s1 t1' s2 t2' O1 C1 G1
            go_wp2
            go_roundw
            case rel => exact ⟨i + 1, j + 1, L.set i (x, t), by omega, by omega, by go_num, by go_num, LEN.out, OS.out, by rw [TAKE.out, TK.out, KP.out], DROP.out, GS.out, CS.out⟩
            case measure => simp [intOf]; omega
          · have SK := Lib.hid (SKIP.out (by rw [PIN2.out, q0]; rfl))
            go_wp2_with (fail)
            refine (cloW_any x t (CP.out.push _)).mono ?_
            rintro e w2 ⟨rfl, hb1⟩
            have O1 := Lib.hid (ownsRow_on (OW.out.alloc _) hb1)
            have C1 := Lib.hid ((CP.out.push _).on hb1)
            have G1 := Lib.hid (GR.out.trans ((World.grownBy_alloc _ _ (some g)).trans (grown_of hb1 (some g))))
            clear hb1 OW CP GR
            go_wp2
            go_roundw
            case rel => exact ⟨i, j + 1, L, by omega, by omega, rfl, by go_num, LL.out, O1.out, by rw [SK.out]; exact TK.out, M.drop_next DR.out, G1.out, C1.out⟩
            case measure => simp [intOf]; omega
        · obtain rfl : j = l.length := by omega
          have hil : i < l.length := hij
          have hic : i < cap := by omega
          obtain ⟨vs, hvs⟩ : ∃ vs, vs = (Builtin.zeroCells (.agg #[.string ⟨#[]⟩, .string ⟨#[]⟩] : Value).cells (l.length - i)).toList := ⟨_, rfl⟩
          have hvl : vs.length = (l.length - i) * 2 := by rw [hvs]; simp [size_zeroCells, Value.cells]
          obtain ⟨w3, hw3⟩ : ∃ w3, w3 = wr.setCells g (i * 2) vs := ⟨_, rfl⟩
          have hcl : ∀ ty, (Builtin.clear_ #[27] ty #[.slice (some ⟨g, i * 2, none⟩) (l.length - i) (cap - i)]).run Try.prog wr = .ok (.tuple #[]) w3 := fun ty => by
            rw [hw3]
            refine run_clearN wr 27 42 ty (.agg #[.string ⟨#[]⟩, .string ⟨#[]⟩]) Try.underlying27 Try.zeroValue42 g (i * 2) (l.length - i) (cap - i) vs hvs.symm ?_ (by omega) (fun q hq => ?_) (fun q hq => OW.out.frozenAt _)
            · rw [hvs]
              refine zero_mem _ _ (fun v hv => ?_)
              simp [Value.cells] at hv
              rcases hv with rfl | rfl <;> rfl
            · obtain ⟨u, hu⟩ := own_some OW.out (j := i * 2 + q) (by rw [hvl] at hq; omega)
              rw [hu]; rfl
          obtain ⟨ys, o3, t3, g3⟩ := own_setCells (q := i * 2) vs (i * 2) wr _ OW.out (Nat.le_refl _)
          rw [← hw3] at o3 g3
          have TL := Lib.hid (show L.take i = M.partW k n l by rw [TK.out, List.take_length]; rfl)
          have PL := Lib.hid (show (M.partW k n l).length = i by rw [← TL.out, List.length_take]; have := LL.out; omega)
          have o4 := own_frontN o3 (Nat.le_of_lt hil)
          rw [t3, wrsC_take, TL.out] at o4
          have O4 := Lib.hid o4
          have G4 := Lib.hid (GR.out.trans g3)
          clear hvs hvl hw3 o3 t3 g3 o4 OW TK DR GR CP LL TL
          go_wp2_with (simp only [hcl])
          go_ret
          exact ⟨_, rfl, by rw [PL.out]; exact O4.out, G4.out, rfl⟩
    · have HP := Lib.hid (ALL.out h1)
      have B1 := Lib.hid hb1
      clear h1 hb1
      go_wp2
      go_ret
      exact ⟨_, rfl, by rw [HP.out]; exact ownsRow_on HO.out B1.out, grown_of B1.out _, rfl⟩

end Go.Proofs.Ytacieiddhkkahaa
