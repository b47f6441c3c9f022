/- Slices of records, steps, instances as arguments; no conditions. -/
import Derived.Test.YtdachohcjpjblaaGreatDoorFArg
set_option maxHeartbeats 8000000
set_option maxRecDepth 100000
namespace Go.Proofs.YtdachohcjpjblaaGreatDoor
open Go.ChangeShapes Go.WideShapes Go.ChangeAt Go.RowKit Go.Deep
theorem cells43 : Tryz.prog.cellsOf 43 = 5 := by kernel_rfl
theorem cells31 : Tryz.prog.cellsOf 31 = 1 := by kernel_rfl
theorem dflat_len (D : List Dv) : (D.flatMap Dv.cells).length = D.length * 5 := by
 induction D with
 | nil => rfl
 | cons x l ih => rw [List.flatMap_cons, List.length_append, ih, show x.cells.length = 5 from rfl, List.length_cons]; omega
noncomputable def laidWorld (os : Os) : World :=
 { World.holding Tryz.prog os ⟨#[], #[], []⟩ with heap := (World.holding Tryz.prog os ⟨#[], #[], []⟩).heap.modify 0 fun
  | .cells _ t frozen => .cells #[.int .u32 0,.int .u32 498536548,.int .u32 997073096,.int .u32 651767980,.int .u32 1994146192,.int .u32 1802195444,.int .u32 1303535960,.int .u32 1342533948,.int .u32 3988292384,.int .u32 4027552580,.int .u32 3604390888,.int .u32 3412177804,.int .u32 2607071920,.int .u32 2262029012,.int .u32 2685067896,.int .u32 3183342108] t frozen
  | o => o }
theorem open_byte {H : Type} {enc : TypeId × Value → H} {W : World} {r : Reach} {b0 : Nat} {v : Value} {d : DataW H} {p : List MemPlace} (hv : Value.okWide Tryz.prog W r b0 5 v) (h : DataW.Trod enc Tryz.prog W 0 (fun _ => true) true 5 v d p) : ∃ x : UInt8, v = .int .u8 (x.toNat : Int) := by
 obtain ⟨x, rfl, _, _, g⟩ := open_int Tryz.underlying5 hv h
 have h3 := Wi.toB_enc g
 unfold Wi.enc8 at h3
 exact ⟨Wi.toB x, h3.symm⟩
section
variable {H : Type} {enc : TypeId × Value → H} {W : World} {fuel : Nat}
theorem open_do_cells {cs : List Value} {x : DataW H × List MemPlace} (h : DataW.trod enc Tryz.prog W 0 (fun _ => true) true fuel 43 cs = some x) (hl : cs.length = 5) (hlt : ∀ y ∈ x.2, y.block < W.heap.size) :
 ∃ d : Dv, cs = d.cells ∧ Rows W d.rv d.X := by
 match cs, hl with
 | [k0, k1, k2, k3, k4], _ =>
   obtain ⟨xs, n, _, hx, _, hlen, hg⟩ := DataW.trod_struct Tryz.underlying43 h
   match xs, hlen with
   | [y0, y1, y2, y3, y4], _ =>
     obtain ⟨z0, e0, _⟩ := DataW.trod_int (x := y0) Tryz.underlying3 (show DataW.trod enc Tryz.prog W 0 (fun _ => true) true n 3 [k0] = some y0 from by have := hg 0 _ rfl; simpa [Wi.cl3] using this)
     obtain ⟨z1, e1, _⟩ := DataW.trod_int (x := y1) Tryz.underlying3 (show DataW.trod enc Tryz.prog W 0 (fun _ => true) true n 3 [k1] = some y1 from by have := hg 1 _ rfl; simpa [Wi.cl3] using this)
     obtain ⟨z2, e2, _⟩ := DataW.trod_int (x := y2) Tryz.underlying3 (show DataW.trod enc Tryz.prog W 0 (fun _ => true) true n 3 [k2] = some y2 from by have := hg 2 _ rfl; simpa [Wi.cl3] using this)
     obtain ⟨z3, e3, _, w3⟩ := DataW.trod_int (x := y3) Tryz.underlying5 (show DataW.trod enc Tryz.prog W 0 (fun _ => true) true n 5 [k3] = some y3 from by have := hg 3 _ rfl; simpa [Wi.cl5] using this)
     obtain ⟨X, e4⟩ := open_recs (x := y4) (v := k4) (show DataW.trod enc Tryz.prog W 0 (fun _ => true) true n 31 [k4] = some y4 from by have := hg 4 _ rfl; simpa [cells31] using this) (fun y hy => hlt y (by rw [hx]; simp [hy]))
     simp only [List.cons.injEq, and_true] at e0 e1 e2 e3
     subst e0 e1 e2 e3
     have h3 := Wi.toB_enc w3
     unfold Wi.enc8 at h3
     exact ⟨⟨z0, z1, z2, Wi.toB z3, X, k4⟩, by unfold Dv.cells; rw [h3], e4⟩
theorem open_steps {r : Reach} {b0 : Nat} {v : Value} {d : DataW H} {p : List MemPlace} (hv : Value.okWide Tryz.prog W r b0 38 v) (h : DataW.Trod enc Tryz.prog W 0 (fun _ => true) true 38 v d p)
 (hlt : ∀ x ∈ p, x.block < W.heap.size) : ∃ D : List Dv, DoRows W v D ∧ D.length ≤ maxLen := by
 obtain ⟨a0, len0, cap0, rfl⟩ := okWide_slice Tryz.underlying38 hv
 obtain ⟨fuel, hf⟩ := h
 rcases open_slice Tryz.underlying38 hf with ⟨hcs, _⟩ | ⟨a, len, cap, m, n, D, Pl, hcs, _, hl, hm, hmm, hx, hi⟩
 ·simp [Value.cells] at hcs
  obtain ⟨rfl, rfl, rfl⟩ := hcs
  exact ⟨[], ⟨⟨rfl, none, 0, rfl, Nat.le_refl _, fun h => absurd h (by simp)⟩, fun _ h => (List.not_mem_nil h).elim⟩, by simp⟩
 ·simp [Value.cells] at hcs
  obtain ⟨rfl, rfl, rfl⟩ := hcs
  simp only [if_true] at hmm
  rw [cells43] at hx hi
  simp only [Prod.mk.injEq] at hx
  by_cases h0 : len0 = 0
  ·subst h0
   exact ⟨[], ⟨⟨rfl, some a, cap0, rfl, Nat.zero_le _, fun h => absurd h (by simp)⟩, fun _ h => (List.not_mem_nil h).elim⟩, by simp⟩
  ·have key : ∀ i, i < len0 → ∃ s : Dv, (∀ j u, s.cells[j]? = some u → W.cell? ((a.add (i * 5)).add j) = some u) ∧ Rows W s.rv s.X := by
    intro i hil
    obtain ⟨cs', hc, ht⟩ := hi i (by omega)
    obtain ⟨_, hcl, hat⟩ := World.cells?_some hc
    obtain ⟨s, hcs, hb⟩ := open_do_cells ht hcl (fun y hy => hlt y (by
     rw [hx.2]
     exact List.mem_append_right _ (List.mem_flatMap.2 ⟨i, List.mem_range.2 (by omega), hy⟩)))
    refine ⟨s, fun j u hj => ?_, hb⟩
    have hjl : j < 5 := (List.getElem?_eq_some_iff.1 hj).1
    rw [hat j (by omega), hcs]
    exact hj
   obtain ⟨b, off, spot⟩ := a
   have hspot : spot = none := by
    obtain ⟨s, h1, _⟩ := key 0 (by omega)
    simpa [Addr.add] using World.cell?_spot (h1 0 _ rfl)
   subst hspot
   obtain ⟨l, hll, hq⟩ := Wi.list_of (⟨0, 0, 0, 0, [],.slice none 0 0⟩ : Dv) (fun i s => (∀ j u, s.cells[j]? = some u → W.cell? ⟨b, off + i * 5 + j, none⟩ = some u) ∧ Rows W s.rv s.X) len0 (fun i hil => by
    obtain ⟨s, h1, h2⟩ := key i hil
    exact ⟨s, fun j u hj => by have := h1 j u hj; rw [Di.add_plain', Di.add_plain'] at this; exact this, h2⟩)
   have hb : b < W.heap.size := hlt (.cell b off) (by rw [hx.2]; exact List.mem_append_left _ (MemPlace.mem_row.2 ⟨0, by omega, by simp⟩))
   subst hll
   have hat : ∀ i r, l[i]? = some r → i < l.length ∧ l.getD i ⟨0, 0, 0, 0, [],.slice none 0 0⟩ = r := fun i r e => by
    have := (List.getElem?_eq_some_iff.1 e).1
    refine ⟨this, ?_⟩
    rw [List.getD, e]; rfl
   refine ⟨l, ⟨⟨?_, some ⟨b, off, none⟩, cap0, rfl, hl, fun _ => ⟨b, off, rfl, hb, fun j u hj => ?_⟩⟩, fun r hr => ?_⟩, by omega⟩
   ·exact dflat_len l
   ·obtain ⟨r, e1, e2⟩ := flat_get Dv.cells (fun _ => rfl) (by omega : 0 < 5) l j u hj
    obtain ⟨hlt', e3⟩ := hat _ r e1
    have := (hq (j / 5) hlt').1 (j % 5) u (by rw [e3]; exact e2)
    rw [show off + j / 5 * 5 + j % 5 = off + j by omega] at this
    exact this
   ·obtain ⟨i, hi', e⟩ := List.mem_iff_getElem.1 hr
    obtain ⟨hlt', e3⟩ := hat i r (by rw [List.getElem?_eq_getElem hi', e])
    have := (hq i hlt').2
    rw [e3] at this
    exact this
end
end Go.Proofs.YtdachohcjpjblaaGreatDoor
