/- Records with one more behind them, in new memory; a message is the same as itself; no conditions but those that each theorem names. -/
import Derived.Test.YtpknkhgkejkpkaaGreatCou
import Derived.Test.YtpknkhgkejkpkaaGreatCfl
import Derived.Test.YtpknkhgkejkpkaaGreatFre
namespace Go.Proofs.YtpknkhgkejkpkaaGreat
open Go.ChangeShapes Go.WideShapes Go.ChangeAt Go.RowKit

theorem append_recs {w : World} {base : Nat} {v u : Value} {n : Nat} {ys : List Value} {X : List Rv} (hown : w.ownsRow base 41 25 v n ys) (hX : RowN 25 w u X.length (X.flatMap Rv.cells)) (h1 : ∀ x ∈ X, x.va.oneCell' = true ∧ x.vb.oneCell' = true) (hl : n + X.length ≤ 1000000) (hbase : base ≤ w.heap.size) :
    ∃ v' w', (Builtin.append_ #[22, 22] 22 #[v, u]).run Tryz.prog w = .ok v' w' ∧ w'.ownsRow base 41 25 v' (n + X.length) (ys ++ X.flatMap Rv.cells) ∧ w.grownBy w' v.ownBlock := by
  obtain ⟨i0, hi, hz0, hz1, hz2⟩ := info_parts info44
  exact append_rowN Tryz.underlying22 hi hz0 hz1 hz2 rfl (by decide) (by decide) hown hX (flat_one X h1) hl hbase
theorem own_none12 (w : World) : (w.alloc (.cells #[] 41)).ownsRow w.heap.size 41 25 (.slice (some ⟨w.heap.size, 0, none⟩) 0 0) 0 [] :=
  World.ownsRow_lit (base := w.heap.size) (e := 41) (size := 25) w #[] 0 (Nat.le_refl _) (by decide) rfl
theorem rows_one {w : World} {x : Rv} (h : Txt w x) : Rows (w.alloc (.cells x.cells.toArray 41)) (.slice (some ⟨w.heap.size, 0, none⟩) 1 1) [x] := by
  refine ⟨⟨by simp; rfl, some ⟨w.heap.size, 0, none⟩, 1, rfl, Nat.le_refl 1, fun _ => ⟨w.heap.size, 0, rfl, by simp, fun j v hj => ?_⟩⟩, fun y hy => ?_⟩
  · rw [Nat.zero_add]
    exact (Cel.new w x.cells 41).get j v (by simpa using hj)
  · rw [List.mem_singleton] at hy
    subst hy
    exact h.below (below_new (Below.refl _ _))
/-- A copy of the records. -/
theorem copy_recs {w : World} {v : Value} {X : List Rv} (h : Rows w v X) (hl : X.length ≤ 1000) :
    ∃ v' w', (Builtin.append_ #[22, 22] 22 #[.slice (some ⟨w.heap.size, 0, none⟩) 0 0, v]).run Tryz.prog (w.alloc (.cells #[] 41)) = .ok v' w' ∧ w'.ownsRow w.heap.size 41 25 v' X.length (X.flatMap Rv.cells) ∧ Below w.heap.size w w' := by
  have b1 : Below w.heap.size w (w.alloc (.cells #[] 41)) := below_new (Below.refl _ _)
  obtain ⟨v', w', hr, ho, hg⟩ := append_recs (own_none12 w) (h.below b1).row (fun x hx => ⟨rds_one (h.tx x hx).rs, wrs_one (h.tx x hx).ws⟩) (by omega) b1.size
  refine ⟨v', w', hr, by simpa using ho, b1.grown hg b1.size fun k e => ?_⟩
  cases e
  exact Nat.le_refl _
/-- One more behind a copy. -/
theorem more_recs {w : World} {base : Nat} {v : Value} {X : List Rv} {x : Rv} (ho : w.ownsRow base 41 25 v X.length (X.flatMap Rv.cells)) (hb : base ≤ w.heap.size) (ht : Txt w x) (hl : X.length ≤ 1000) :
    ∃ v' w', (Builtin.append_ #[22, 22] 22 #[v, .slice (some ⟨w.heap.size, 0, none⟩) 1 1]).run Tryz.prog (w.alloc (.cells x.cells.toArray 41)) = .ok v' w' ∧ w'.ownsRow base 41 25 v' (X ++ [x]).length ((X ++ [x]).flatMap Rv.cells) ∧ (∀ B a, B ≤ base → Below B a w → Below B a w') := by
  have b1 : Below w.heap.size w (w.alloc (.cells x.cells.toArray 41)) := below_new (Below.refl _ _)
  have ho1 := ownsRow_on ho b1
  obtain ⟨v', w', hr, ho', hg⟩ := append_recs (X := [x]) ho1 (rows_one ht).row (fun y hy => by rw [List.mem_singleton] at hy; subst hy; exact ⟨rds_one ht.rs, wrs_one ht.ws⟩) (by simp; omega) (Nat.le_trans hb b1.size)
  refine ⟨v', w', hr, by simpa using ho', fun B a hB h => ?_⟩
  have h1 : Below B a (w.alloc (.cells x.cells.toArray 41)) := h.trans (b1.mono (Nat.le_trans hB hb))
  exact h1.grown hg (Nat.le_trans (Nat.le_trans hB hb) b1.size) fun k e => by
    have := (ho1.lt k e).1
    omega
theorem mem_snoc {α : Type} {P : α → Prop} {X : List α} {y : α} (h : ∀ x ∈ X, P x) (hy : P y) : ∀ x ∈ X ++ [y], P x := fun x hx => by
  rcases List.mem_append.1 hx with hx | hx
  · exact h x hx
  · rw [List.mem_singleton] at hx; subst hx; exact hy
theorem rows_snoc {w : World} {base : Nat} {v : Value} {X : List Rv} {x : Rv} (ho : w.ownsRow base 41 25 v (X ++ [x]).length ((X ++ [x]).flatMap Rv.cells)) (h : ∀ y ∈ X, Txt w y) (hx : Txt w x) : Rows w v (X ++ [x]) := ⟨RowN.of_owns ho, mem_snoc h hx⟩
theorem stc_rec {w : World} {b : Nat} {t : TypeId} {s : M.Stp} {va vb ua ub : Value} (h : Hold w b t (stc s va vb ua ub)) : w.rangeAt b 0 [.int .i64 s.r.ir, .int .i64 s.r.is, .int .i64 s.r.st, .int .i64 s.r.pn, .int .i64 s.r.pr, .int .i64 s.r.bn, .int .i64 s.r.br, .int .i64 s.r.c.k, .int .i64 s.r.c.tc, .int .i64 s.r.c.tn, .int .i64 s.r.c.tt, .int .i64 s.r.c.tk, .int .i64 s.r.c.sh, va, vb, .bool s.r.c.cm, .int .i64 s.r.sq, .int .i64 s.r.d0, .int .i64 s.r.d1, .int .i64 s.r.d2, .int .i64 s.r.d3, .int .i64 s.r.d4, .int .i64 s.r.d5, .int .i64 s.r.d6, .bool s.r.kp] :=
  hold_range h 0 _ (fun j v hj => by rw [Nat.zero_add]; revert hj; match j with
    | 0 | 1 | 2 | 3 | 4 | 5 | 6 | 7 | 8 | 9 | 10 | 11 | 12 | 13 | 14 | 15 | 16 | 17 | 18 | 19 | 20 | 21 | 22 | 23 | 24 => exact fun hj => hj
    | _ + 25 => intro hj; cases hj)
theorem stc_msg {w : World} {b : Nat} {t : TypeId} {s : M.Stp} {va vb ua ub : Value} (h : Hold w b t (stc s va vb ua ub)) : w.rangeAt b 26 [.int .i64 s.m.k, .int .i64 s.m.fr, .int .i64 s.m.to, .int .i64 s.m.bn, .int .i64 s.m.br, .int .i64 s.m.r.ir, .int .i64 s.m.r.is, .int .i64 s.m.r.st, .int .i64 s.m.r.pn, .int .i64 s.m.r.pr, .int .i64 s.m.r.bn, .int .i64 s.m.r.br, .int .i64 s.m.r.c.k, .int .i64 s.m.r.c.tc, .int .i64 s.m.r.c.tn, .int .i64 s.m.r.c.tt, .int .i64 s.m.r.c.tk, .int .i64 s.m.r.c.sh, ua, ub, .bool s.m.r.c.cm, .int .i64 s.m.r.sq, .int .i64 s.m.r.d0, .int .i64 s.m.r.d1, .int .i64 s.m.r.d2, .int .i64 s.m.r.d3, .int .i64 s.m.r.d4, .int .i64 s.m.r.d5, .int .i64 s.m.r.d6, .bool s.m.r.kp] :=
  hold_range h 26 _ (fun j v hj => by revert hj; match j with
    | 0 | 1 | 2 | 3 | 4 | 5 | 6 | 7 | 8 | 9 | 10 | 11 | 12 | 13 | 14 | 15 | 16 | 17 | 18 | 19 | 20 | 21 | 22 | 23 | 24 | 25 | 26 | 27 | 28 | 29 => exact fun hj => hj
    | _ + 30 => intro hj; cases hj)
theorem stc_cmd {w : World} {b : Nat} {t : TypeId} {s : M.Stp} {va vb ua ub : Value} (h : Hold w b t (stc s va vb ua ub)) : w.rangeAt b 7 [.int .i64 s.r.c.k, .int .i64 s.r.c.tc, .int .i64 s.r.c.tn, .int .i64 s.r.c.tt, .int .i64 s.r.c.tk, .int .i64 s.r.c.sh, va, vb, .bool s.r.c.cm] :=
  hold_range h 7 _ (fun j v hj => by revert hj; match j with
    | 0 | 1 | 2 | 3 | 4 | 5 | 6 | 7 | 8 => exact fun hj => hj
    | _ + 9 => intro hj; cases hj)
namespace M
theorem sameC_self (c : Cmd) : sameC c c = true := by simp [sameC, eq2, sameR, sameW]
theorem sameRec_self (r : Rec) : sameRec r r = true := by simp [sameRec, eq2, sameC_self, V7.same7]
theorem sameMsg_self (m : Msg) : sameMsg m m = true := by simp [sameMsg, eq2, sameRec_self]
end M
end Go.Proofs.YtpknkhgkejkpkaaGreat
