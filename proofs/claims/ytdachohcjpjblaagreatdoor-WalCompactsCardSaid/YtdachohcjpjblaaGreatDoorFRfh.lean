/- The document's log by value: what its methods share; no conditions but those that each theorem names. -/
import Derived.Test.YtdachohcjpjblaaGreatDoorFGet
import Derived.Test.YtdachohcjpjblaaGreatDoorFByn
set_option maxHeartbeats 8000000
set_option maxRecDepth 100000
namespace Go.Proofs.YtdachohcjpjblaaGreatDoor
open Go.ChangeShapes Go.WideShapes Go.ChangeAt Go.RowKit
open Di (Keeps In below_on below_new)
open Wi (Hold)
def Ag.dapp (X : List Rv) (z : Nat) (Y : List K.Rec) : List K.Rec := if rgB X then (if (K.fb Y).length + (K.fb (rcs X)).length ≤ z then Y ++ rcs X else Y) else Y
def Ag.pick (Y : List K.Rec) (ks : List Ky) : List K.Rec := ks.map fun k => (K.lastR Y k).getD K.norec
namespace Rf
theorem one_cells {w : World} {y : Rv} (h : Txt w y) : ∀ u ∈ y.cells, u.oneCell' = true := by
 obtain ⟨A1, c1, ea⟩ : ∃ A c, y.va = .slice A y.r.c.rs.length c := rowN_sliceOf h.rs
 obtain ⟨A2, c2, eb⟩ : ∃ A c, y.vb = .slice A y.r.c.ws.length c := rowN_sliceOf h.ws
 intro u hu
 simp only [Rv.cells, ea, eb, List.mem_cons, List.not_mem_nil, or_false] at hu
 rcases hu with rfl | rfl | rfl | rfl | rfl | rfl | rfl | rfl | rfl | rfl | rfl | rfl | rfl | rfl | rfl | rfl | rfl | rfl | rfl | rfl | rfl | rfl | rfl | rfl | rfl <;> rfl
theorem one_flat {w : World} {Y : List Rv} (h : ∀ y ∈ Y, Txt w y) : ∀ u ∈ Y.flatMap Rv.cells, u.oneCell' = true := fun u hu => by
 obtain ⟨y, hy, hu⟩ := List.mem_flatMap.1 hu
 exact one_cells (h y hy) u hu
theorem append_recs {w : World} {base : Nat} {v u : Value} {n : Nat} {ys : List Value} {X : List Rv} (hown : w.ownsRow base 67 25 v n ys) (hX : Rows w u X) (hl : n + X.length ≤ 1000000) (hbase : base ≤ w.heap.size) :
 ∃ v' w', (Builtin.append_ #[31, 31] 31 #[v, u]).run Tryz.prog w = .ok v' w' ∧ w'.ownsRow base 67 25 v' (n + X.length) (ys ++ X.flatMap Rv.cells) ∧ w.grownBy w' v.ownBlock := by
 obtain ⟨i0, hi, hz0, hz1, hz2⟩ := info_parts info67
 exact Wi.append_rowN (z := Rv.zero.val) (bytes := 232) Tryz.underlying31 hi hz0 hz1 hz2 rfl (by omega) (by omega) hown hX.row (one_flat hX.tx) hl hbase
theorem bare (W : World) (e : TypeId) (k : Nat) : (W.alloc (.cells #[] e)).ownsRow W.heap.size e k (.slice (some ⟨W.heap.size, 0, none⟩) 0 0) 0 [] := by
 refine ⟨by simp, .inr ⟨W.heap.size, 0, #[], rfl, Nat.le_refl _, ?_, by simp, by simp, by simp⟩⟩
 exact heap_alloc_new W _
theorem join_recs {W : World} {v u : Value} {Y X : List Rv} (h1 : Rows W v Y) (h2 : Rows W u X) (hl : Y.length + X.length ≤ 1000000) :
 ∃ v1 w1 v2 w2, (Builtin.append_ #[31, 31] 31 #[.slice (some ⟨W.heap.size, 0, none⟩) 0 0, v]).run Tryz.prog (W.alloc (.cells #[] 67)) = .ok v1 w1 ∧ (Builtin.append_ #[31, 31] 31 #[v1, u]).run Tryz.prog w1 = .ok v2 w2 ∧
   w2.ownsRow W.heap.size 67 25 v2 (Y.length + X.length) ((Y ++ X).flatMap Rv.cells) ∧ Below W.heap.size W w1 ∧ Below W.heap.size W w2 := by
 have nb : Below W.heap.size W (W.alloc (.cells #[] 67)) := below_new (Below.refl _ _)
 have hs : W.heap.size ≤ (W.alloc (.cells #[] 67)).heap.size := by simp
 obtain ⟨v1, w1, r1, o1, g1⟩ := append_recs (bare W 67 25) (h1.below nb) (by omega) hs
 rw [Nat.zero_add, List.nil_append] at o1
 have b1 : Below W.heap.size W w1 := nb.grown g1 hs (fun k e => ((bare W 67 25).lt k e).1)
 obtain ⟨v2, w2, r2, o2, g2⟩ := append_recs o1 (h2.below b1) hl b1.size
 refine ⟨v1, w1, v2, w2, r1, r2, by rw [List.flatMap_append]; exact o2, b1, b1.grown g2 b1.size (fun k e => (o1.lt k e).1)⟩
theorem right59 {w : World} (r : K.Rec) {va vb : Value} (h : Wi.Rds w va r.c.rs) (h' : Wi.Wrs w vb r.c.ws) (F : Wi.M.Mod r.c) : Calls Tryz.prog 59 #[.agg #[.int .i64 r.ir,.int .i64 r.is,.int .i64 r.st,.int .i64 r.pn,.int .i64 r.pr,.int .i64 r.bn,.int .i64 r.br,.int .i64 r.c.k,.int .i64 r.c.tc,.int .i64 r.c.tn,.int .i64 r.c.tt,.int .i64 r.c.tk,.int .i64 r.c.sh, va, vb,.bool r.c.cm,.int .i64 r.sq,.int .i64 r.d0,.int .i64 r.d1,.int .i64 r.d2,.int .i64 r.d3,.int .i64 r.d4,.int .i64 r.d5,.int .i64 r.d6,.bool r.kp]] w fun e w' => e = .returned (.bool (Wi.M.rightR r)) ∧ Below w.heap.size w w' := by
 rw [← Wi.M.right_eq]
 exact Wi.dright_rec r h h' F
theorem fit_of {r : K.Rec} (h : Wi.M.rightR r = true) : Wi.M.FitsR r ∧ (K.enc r).length ≤ 100000 := ⟨K.fits h, by have := (K.enc_len h).2; omega⟩
theorem fb_le : ∀ {A : List K.Rec}, K.Rg A → (K.fb A).length ≤ 808 * A.length
 | [], _ => by simp [K.fb_nil]
 | q :: A, h => by
   have h1 := fb_le h.cons.2
   have h2 := (K.enc_len h.cons.1).2
   rw [K.fb_len_cons, K.len, List.length_cons]
   omega
end Rf
end Go.Proofs.YtdachohcjpjblaaGreatDoor
