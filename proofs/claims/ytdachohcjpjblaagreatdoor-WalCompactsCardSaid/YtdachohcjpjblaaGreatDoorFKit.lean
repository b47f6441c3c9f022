/- The library's iterator over the keys of a map of rows; condition: a block that is a map. -/
import Derived.Test.YtdachohcjpjblaaGreatDoorFRng
set_option maxHeartbeats 8000000
set_option maxRecDepth 100000
namespace Go.Proofs.YtdachohcjpjblaaGreatDoor
open Go.ChangeShapes Go.WideShapes Go.ChangeAt Go.RowKit
open Di (Keeps In below_on below_new)
open Wi (Hold)
open Go.Proofs Go.Maps Go.Shelf Go.Sort
namespace Rg
attribute [local go_sem] Oper.semAt_some
section
variable {F : Fence} {n : Nat} (w : World) {ops : Array Oper} {rest : List Oper} {o : Oper} {a : Act} {Q : Exit → Act → World → Prop}
theorem wpListIn_range (hg : o.guard = none) (mm : Operand) (hop : o.op = Op.range 73 mm) (gm : Nat) (m : List (Ky × Rv)) (hm : a.eval mm = .map (some gm)) (h : MapIs w gm m)
 (hK : ∀ w' L, Ranging w' gm w.heap.size m L → L.map (fun e => ky e.key) = m.map (·.1) → w.grownBy w' none → w'.heap.size = w.heap.size + 1 → wpListIn F n Tryz.prog ops Q rest (a.put o.dst (.pointer (some ⟨w.heap.size, 0, none⟩))) w') :
 wpListIn F n Tryz.prog ops Q (o :: rest) a w := by
 refine wpListIn_plain hg fun K' hK' => ?_
 obtain ⟨w', L, hrun, r1, r2, r3, r4⟩ := start h
 unfold Oper.wpIn
 refine ⟨?_, ?_⟩
 ·simp [Oper.about, hop]
 ·rw [Oper.semAt_plain F _ _ (by rw [hop]; intro c hc'; cases hc')]
  simp [execOp, hop, hm, hrun, Result.andThen]
  exact hK' _ _ (hK w' L r1 r2 r3 r4)
theorem wpListIn_next (hg : o.guard = none) (it : Operand) (hop : o.op = Op.next it false) (gm r : Nat) (m : List (Ky × Rv)) (L : List MapEntry)
 (hit : a.eval it = .pointer (some ⟨r, 0, none⟩)) (h : Ranging w gm r m L)
 (hDone : L = [] → wpListIn F n Tryz.prog ops Q rest (a.put o.dst (.tuple #[.bool false])) w)
 (hMore : ∀ (k1 k2 : Int) (y : Rv) (L' : List MapEntry) (w' : World), ((k1, k2), y) ∈ m → (L.map (fun e => ky e.key)).Perm ((k1, k2) :: L'.map (fun e => ky e.key)) → L'.length < L.length → Ranging w' gm r m L' → w.grownBy w' (some r) → w'.heap.size = w.heap.size → (Instr.entry (.pointer (some ⟨r, 0, none⟩))).run Tryz.prog w' = .ok (.tuple #[.agg #[.int .i64 k1,.int .i64 k2], y.val]) w' → wpListIn F n Tryz.prog ops Q rest (a.put o.dst (.tuple #[.bool true,.agg #[.int .i64 k1,.int .i64 k2], y.val])) w') :
 wpListIn F n Tryz.prog ops Q (o :: rest) a w := by
 refine wpListIn_plain hg fun K' hK' => ?_
 unfold Oper.wpIn
 refine ⟨by simp [Oper.about, hop], ?_⟩
 rw [Oper.semAt_plain F _ _ (by rw [hop]; intro c hc'; cases hc')]
 rcases next h o.type with ⟨h0, hrun⟩ | ⟨⟨⟨k1, k2⟩, y⟩, L', w', h1, h2, h3, hrun, h4, h5, h6, h7⟩
 ·simp [execOp, hop, hit, hrun, Result.andThen]
  exact hK' _ _ (hDone h0)
 ·simp [execOp, hop, hit, hrun, Result.andThen]
  exact hK' _ _ (hMore k1 k2 y L' w' h1 h2 h3 h4 h5 h6 h7)
end
theorem keys1 (F : Fence) (n : Nat) (hf : F.fn 93) (hro : F.round = none) (hn : 1 ≤ n) (l Bm gm : Nat) (m : List (Ky × Rv)) (J Jx : List Ky → World → Prop) (W : World) (hJ : AbidesFrom W.heap.size J) (_ : AbidesFrom W.heap.size Jx)
 (hY : ∀ pre x W1, J pre W1 → pre.length < m.length → YieldAt F (n - 1) Tryz.prog l #[It.kv x] W1 fun e W' => (e = .returned (.bool true) ∧ J (pre ++ [x]) W' ∧ KeepsWalks W1 W') ∨ (e = .returned (.bool false) ∧ Jx (pre ++ [x]) W'))
 (hm : W.cell? ⟨Bm, 0, none⟩ = some (.map (some gm))) (hmap : MapIs W gm m) (h0 : J [] W) :
 CallsIn F n Tryz.prog 93 #[.func (.yield l) #[] #[],.pointer (some ⟨Bm, 0, none⟩)] W fun e W' => (∃ v, e = .returned v) ∧ ((∃ ks, ks.Perm (m.map (·.1)) ∧ J ks W') ∨ (∃ pre, True ∧ Jx pre W')) := by
 refine callsIn_of_wp Tryz.func93 rfl hf ?_ hro
 simp only [Tryz.ntmps93, List.size_toArray, List.length_cons, List.length_nil, Nat.reduceAdd, Nat.reduceSub, Array.replicate_succ, Array.replicate_zero, List.push_toArray, List.append_toArray, List.nil_append, List.cons_append]
 gi_wp2_with (first
  | (gi_at_range; refine wpListIn_range _ rfl _ rfl gm m rfl hmap ?_; intro w0 L0 hrg0 hL0 hg0 hs0)
  | gi_in)
 go_frame
 gi_loopw [3] (fun _ wr => ∃ (L : List MapEntry) (ks : List Ky), Ranging wr gm W.heap.size m L ∧ (ks ++ L.map (fun e => ky e.key)).Perm (m.map (·.1)) ∧ J ks wr)
  (fun _ wr => wr.rangeLeft gm W.heap.size)
 case atStart =>
  exact ⟨L0, [], hrg0, by rw [List.nil_append, hL0], hJ [] W w0 none h0 hg0 (fun r e => by cases e)⟩
 case round =>
  obtain ⟨L, ks, hrg, hC, hJs⟩ := hrel
  gi_wp2_with (first
   | (gi_at_next; refine wpListIn_next _ rfl _ rfl gm W.heap.size m L rfl hrg ?_ ?_)
   | gi_in)
  ·intro hl0
   subst hl0
   gi_wp2
   go_end0
   exact ⟨⟨_, rfl⟩, .inl ⟨ks, by simpa using hC, hJs⟩⟩
  ·intro k1 k2 y L' w2 hp hpe hlt hrg2 hg2 hs2 hen
   have hJ2 : J ks w2 := hJ ks wr w2 (some W.heap.size) hJs hg2 (fun r e => by cases e; exact ⟨Nat.le_refl _, hrg.walk⟩)
   have hJ3 : J ks (w2.alloc (.cells #[.int .i64 k1,.int .i64 k2] 53)) := hJ ks w2 _ none hJ2 (World.grownBy_alloc w2 _ none) (fun r e => by cases e)
   have hlen : ks.length < m.length := by
    have := hC.length_eq
    simp only [List.length_append, List.length_map] at this
    omega
   obtain ⟨fn, tmps, assign, body, hy, hR⟩ := hY ks (k1, k2) _ hJ3 hlen
   simp only [It.kv] at hy
   have hrg3 : Ranging (w2.alloc (.cells #[.int .i64 k1,.int .i64 k2] 53)) gm W.heap.size m L' := hrg2.kept (World.grownBy_alloc w2 _ none) (by simp) (by simp)
   clear hs2
   gi_wp2
   refine hR.mono ?_
   rintro e W3 (⟨rfl, hJ4, hk3⟩ | ⟨rfl, hJ4⟩)
   ·gi_wp2
    have hrg4 := hrg3.walks hk3
    go_roundw
    case rel => exact ⟨L', ks ++ [(k1, k2)], hrg4, by
     have : (ks ++ [(k1, k2)] ++ L'.map (fun e => ky e.key)).Perm (ks ++ L.map (fun e => ky e.key)) := by
      rw [List.append_assoc]
      exact (List.Perm.append_left ks hpe.symm)
     exact this.trans hC, hJ4⟩
    case measure => rw [hrg4.left, hrg.left]; exact hlt
   ·gi_wp2
    refine bodyPost_ret (results_none rfl _ _ _) rfl ?_
    exact ⟨⟨_, rfl⟩, .inr ⟨_, trivial, hJ4⟩⟩
theorem keys_stops (F : Fence) (n : Nat) (hf : F.fn 93) (hro : F.round = none) (hn : 1 ≤ n) (Bm gm : Nat) (m : List (Ky × Rv)) (w : World) (hBm : Bm < w.heap.size) (hm : w.cell? ⟨Bm, 0, none⟩ = some (.map (some gm))) (h : MapIs w gm m) :
 SeqStops F n Tryz.prog 93 #[.pointer (some ⟨Bm, 0, none⟩)] It.kv (fun ks : List Ky => ks.Perm (m.map (·.1))) (fun _ => True) m.length w := fun l J Jx W hW hJ hJx hY h0 =>
 keys1 F n hf hro hn l Bm gm m J Jx W hJ hJx hY ((hW.cell (p := ⟨Bm, 0, none⟩) hBm).trans hm) (h.keeps (F := fun _ => False) (Di.Keeps.of_below hW) id) h0
end Rg
end Go.Proofs.YtdachohcjpjblaaGreatDoor
