/- Contracts of the law's cloned and own; no conditions but those that they name. -/
import Derived.Test.YtgaglcfoodbcfaaRgn
import Derived.Test.YtgaglcfoodbcfaaStp
import Derived.Test.YtgaglcfoodbcfaaCou
namespace Go.Proofs.Ytgaglcfoodbcfaa
open Go.ChangeShapes Go.WideShapes Go.ChangeAt Go.RowKit

set_option maxHeartbeats 4000000 in
set_option maxRecDepth 100000 in
theorem cloned_any {w : World} (c : M.Cmd) {va vb : Value} (h : Rds w va c.rs) (h' : Wrs w vb c.ws) (hl : c.rs.length ≤ 1000) (hl' : c.ws.length ≤ 1000) : Calls Try.prog 30 #[.agg #[.int .i64 c.k, .int .i64 c.tc, .int .i64 c.tn, .int .i64 c.tt, .int .i64 c.tk, .int .i64 c.sh, va, vb, .bool c.cm]] w (Cloned c w) := by
  obtain ⟨A8, j8, ea⟩ := rowN_sliceOf h
  obtain ⟨A9, j9, eb⟩ := rowN_sliceOf h'
  subst ea eb
  have hb0 : Below w.heap.size w ((w.alloc (.cells #[.int .i64 c.k, .int .i64 c.tc, .int .i64 c.tn, .int .i64 c.tt, .int .i64 c.tk, .int .i64 c.sh, (.slice A8 c.rs.length j8), (.slice A9 c.ws.length j9), .bool c.cm] 32)).alloc (.cells #[.int .i64 0, .int .i64 0, .int .i64 0, .int .i64 0, .int .i64 0, .int .i64 0, .slice none 0 0, .slice none 0 0, .bool false] 32)) := below_new (below_new (Below.refl _ _))
  have X0 := Lib.hid ((Box.new w c (.slice A8 c.rs.length j8) (.slice A9 c.ws.length j9)).push (.cells #[.int .i64 0, .int .i64 0, .int .i64 0, .int .i64 0, .int .i64 0, .int .i64 0, .slice none 0 0, .slice none 0 0, .bool false] 32))
  have S0 := Lib.hid (soft_push (soft_new w #[.int .i64 c.k, .int .i64 c.tc, .int .i64 c.tn, .int .i64 c.tt, .int .i64 c.tk, .int .i64 c.sh, (.slice A8 c.rs.length j8), (.slice A9 c.ws.length j9), .bool c.cm] 32) (by simp) (.cells #[.int .i64 0, .int .i64 0, .int .i64 0, .int .i64 0, .int .i64 0, .int .i64 0, .slice none 0 0, .slice none 0 0, .bool false] 32))
  have Z0 := Lib.hid (show Hold ((w.alloc (.cells #[.int .i64 c.k, .int .i64 c.tc, .int .i64 c.tn, .int .i64 c.tt, .int .i64 c.tk, .int .i64 c.sh, (.slice A8 c.rs.length j8), (.slice A9 c.ws.length j9), .bool c.cm] 32)).alloc (.cells #[.int .i64 0, .int .i64 0, .int .i64 0, .int .i64 0, .int .i64 0, .int .i64 0, .slice none 0 0, .slice none 0 0, .bool false] 32)) (w.heap.size + 1) 32 [.int .i64 0, .int .i64 0, .int .i64 0, .int .i64 0, .int .i64 0, .int .i64 0, .slice none 0 0, .slice none 0 0, .bool false] by
    have := Hold.new (w.alloc (.cells #[.int .i64 c.k, .int .i64 c.tc, .int .i64 c.tn, .int .i64 c.tt, .int .i64 c.tk, .int .i64 c.sh, (.slice A8 c.rs.length j8), (.slice A9 c.ws.length j9), .bool c.cm] 32)) [.int .i64 0, .int .i64 0, .int .i64 0, .int .i64 0, .int .i64 0, .int .i64 0, .slice none 0 0, .slice none 0 0, .bool false] 32
    simpa using this)
  have HB := Lib.hid hb0
  have hs0 : ((w.alloc (.cells #[.int .i64 c.k, .int .i64 c.tc, .int .i64 c.tn, .int .i64 c.tt, .int .i64 c.tk, .int .i64 c.sh, (.slice A8 c.rs.length j8), (.slice A9 c.ws.length j9), .bool c.cm] 32)).alloc (.cells #[.int .i64 0, .int .i64 0, .int .i64 0, .int .i64 0, .int .i64 0, .int .i64 0, .slice none 0 0, .slice none 0 0, .bool false] 32)).heap.size = w.heap.size + 1 + 1 := by simp
  clear hb0
  go_enter Try.func30, Try.ntmps30
  go_wp2
  generalize ((w.alloc (.cells #[.int .i64 c.k, .int .i64 c.tc, .int .i64 c.tn, .int .i64 c.tt, .int .i64 c.tk, .int .i64 c.sh, (.slice A8 c.rs.length j8), (.slice A9 c.ws.length j9), .bool c.cm] 32)).alloc (.cells #[.int .i64 0, .int .i64 0, .int .i64 0, .int .i64 0, .int .i64 0, .int .i64 0, .slice none 0 0, .slice none 0 0, .bool false] 32)) = w0 at *
  refine region30 h h' hl hl' X0.out S0.out HB.out (Nat.le_refl _) ?_
  intro x3 x4 x5 x6 x7 x8 x9 x10 x11 x12 A1 j1 D1 g1 W hx o1 o2 hb hf hk
  have HR := Lib.hid (show W.rangeAt w.heap.size 0 [.int .i64 c.k, .int .i64 c.tc, .int .i64 c.tn, .int .i64 c.tt, .int .i64 c.tk, .int .i64 c.sh, (.slice A1 c.rs.length j1), (.slice D1 c.ws.length g1), .bool c.cm] from fun j v hj => by
    rw [Nat.zero_add]
    match j, hj with
    | 0, hj => exact hx.c0.trans hj
    | 1, hj => exact hx.c1.trans hj
    | 2, hj => exact hx.c2.trans hj
    | 3, hj => exact hx.c3.trans hj
    | 4, hj => exact hx.c4.trans hj
    | 5, hj => exact hx.c5.trans hj
    | 6, hj => exact hx.c6.trans hj
    | 7, hj => exact hx.c7.trans hj
    | 8, hj => exact hx.c8.trans hj)
  have HZ := Lib.hid (show Hold W (w.heap.size + 1) 32 [.int .i64 0, .int .i64 0, .int .i64 0, .int .i64 0, .int .i64 0, .int .i64 0, .slice none 0 0, .slice none 0 0, .bool false] from (hk _ (by omega) (by omega)).trans Z0.out)
  have HT := Lib.hid (show W.there (w.heap.size + 1) 0 ([.int .i64 c.k, .int .i64 c.tc, .int .i64 c.tn, .int .i64 c.tt, .int .i64 c.tk, .int .i64 c.sh, (.slice A1 c.rs.length j1), (.slice D1 c.ws.length g1), .bool c.cm] : List Value).length from HZ.out.there (Nat.le_refl 9))
  have hi32 : (Try.prog.info? 32).map (·.size) = some ([.int .i64 c.k, .int .i64 c.tc, .int .i64 c.tn, .int .i64 c.tt, .int .i64 c.tk, .int .i64 c.sh, (.slice A1 c.rs.length j1), (.slice D1 c.ws.length g1), .bool c.cm] : List Value).length := by kernel_rfl
  have h1c : ([.int .i64 c.k, .int .i64 c.tc, .int .i64 c.tn, .int .i64 c.tt, .int .i64 c.tk, .int .i64 c.sh, (.slice A1 c.rs.length j1), (.slice D1 c.ws.length g1), .bool c.cm] : List Value).all (·.oneCell') = true := rfl
  have O1 := Lib.hid (ownsRow_setCells o1 (show w.heap.size + 1 < w0.heap.size by omega) [.int .i64 c.k, .int .i64 c.tc, .int .i64 c.tn, .int .i64 c.tt, .int .i64 c.tk, .int .i64 c.sh, (.slice A1 c.rs.length j1), (.slice D1 c.ws.length g1), .bool c.cm] 0)
  have O2 := Lib.hid (ownsRow_setCells o2 (show w.heap.size + 1 < w0.heap.size by omega) [.int .i64 c.k, .int .i64 c.tc, .int .i64 c.tn, .int .i64 c.tt, .int .i64 c.tk, .int .i64 c.sh, (.slice A1 c.rs.length j1), (.slice D1 c.ws.length g1), .bool c.cm] 0)
  have BF := Lib.hid (below_setCells (B := w.heap.size) (b := w.heap.size + 1) (by omega) [.int .i64 c.k, .int .i64 c.tc, .int .i64 c.tn, .int .i64 c.tt, .int .i64 c.tk, .int .i64 c.sh, (.slice A1 c.rs.length j1), (.slice D1 c.ws.length g1), .bool c.cm] 0 _ _ hb)
  have RH := Lib.hid (Hold.set [.int .i64 c.k, .int .i64 c.tc, .int .i64 c.tn, .int .i64 c.tt, .int .i64 c.tk, .int .i64 c.sh, (.slice A1 c.rs.length j1), (.slice D1 c.ws.length g1), .bool c.cm] [] [.int .i64 0, .int .i64 0, .int .i64 0, .int .i64 0, .int .i64 0, .int .i64 0, .slice none 0 0, .slice none 0 0, .bool false] [] rfl W HZ.out)
  clear hx o1 o2 hb hf hk
  go_wp2_with (first
    | (with_reducible refine wpList_load_mid rfl 32 _ rfl w.heap.size 0 rfl [.int .i64 c.k, .int .i64 c.tc, .int .i64 c.tn, .int .i64 c.tt, .int .i64 c.tk, .int .i64 c.sh, (.slice A1 c.rs.length j1), (.slice D1 c.ws.length g1), .bool c.cm] _ HR.out Try.underlying32 rfl (by kernel_rfl) ?_)
    | (with_reducible refine store_list rfl 32 (.tmp 2) (.tmp 13) rfl (w.heap.size + 1) 0 [.int .i64 c.k, .int .i64 c.tc, .int .i64 c.tn, .int .i64 c.tt, .int .i64 c.tk, .int .i64 c.sh, (.slice A1 c.rs.length j1), (.slice D1 c.ws.length g1), .bool c.cm] rfl rfl HT.out hi32 h1c ?_)
    | fail)
  refine bodyPost_ret (results_c rfl rfl RH.out.cel.whole _ Try.underlying32 rfl hi32) rfl ?_
  exact ⟨_, _, rfl, ownsRow_baseN O1.out (by omega), ownsRow_baseN O2.out (by omega), BF.out⟩
theorem apartT {w : World} {t1 t2 k1 k2 b1 b2 : Nat} {u v : Value} {n m : Nat} {xs ys : List Value} (ne : t1 ≠ t2) (h : w.ownsRow b1 t1 k1 u n xs) (h' : w.ownsRow b2 t2 k2 v m ys) : u.ownBlock = none ∨ u.ownBlock ≠ v.ownBlock := by
  rcases h.2 with ⟨rfl, _⟩ | ⟨g, cap, cur, rfl, _, hg, _⟩
  · exact .inl rfl
  · rcases h'.2 with ⟨rfl, _⟩ | ⟨g', cap', cur', rfl, _, hg', _⟩
    · exact .inr (by simp [Value.ownBlock])
    · refine .inr (fun e => ?_)
      have e := Option.some.inj e
      subst e
      rw [hg] at hg'
      simp only [Option.some.injEq, Obj.cells.injEq] at hg'
      exact ne hg'.2.1
theorem owns_puts {w : World} {base b : Nat} {t : TypeId} {k : Nat} {v : Value} {n : Nat} {xs : List Value} (h : w.ownsRow base t k v n xs) (hn : v.ownBlock ≠ some b) (L : List Value) (o : Nat) : (w.setCells b o L).ownsRow base t k v n xs := by
  refine ⟨h.1, ?_⟩
  rcases h.2 with h0 | ⟨g, cap, cur, rfl, hg, hblk, r⟩
  · exact .inl h0
  · exact .inr ⟨g, cap, cur, rfl, hg, (puts_other L o w g (fun e => hn (by rw [e]; rfl))).trans hblk, r⟩
/-- Records in rows of one's own. -/
structure OwnRows (w : World) (base : Nat) (v : Value) (Y : List Rv) : Prop where
  row : w.ownsRow base 44 25 v Y.length (Y.flatMap Rv.cells)
  rs : ∀ y ∈ Y, OwnR base w y.va y.r.c.rs
  ws : ∀ y ∈ Y, OwnW base w y.vb y.r.c.ws
theorem OwnRows.nil (w : World) (base : Nat) : OwnRows w base (.slice none 0 0) [] := ⟨World.ownsRow_nil _ _ _ _, fun _ hy => (List.not_mem_nil hy).elim, fun _ hy => (List.not_mem_nil hy).elim⟩
theorem OwnRows.below {w w' : World} {base : Nat} {v : Value} {Y : List Rv} (h : OwnRows w base v Y) (k : Below w.heap.size w w') : OwnRows w' base v Y :=
  ⟨ownsRow_on h.row k, fun y hy => by obtain ⟨B, hB, q⟩ := h.rs y hy; exact ⟨B, hB, ownsRow_on q k⟩, fun y hy => by obtain ⟨B, hB, q⟩ := h.ws y hy; exact ⟨B, hB, ownsRow_on q k⟩⟩
theorem OwnRows.rows {w : World} {base : Nat} {v : Value} {Y : List Rv} (h : OwnRows w base v Y) : Rows w v Y :=
  rows_of_owns h.row fun y hy => ⟨by obtain ⟨B, hB, q⟩ := h.rs y hy; exact RowN.of_owns q, by obtain ⟨B, hB, q⟩ := h.ws y hy; exact RowN.of_owns q⟩
theorem OwnRows.puts {w w5 : World} {base : Nat} {v : Value} {Y : List Rv} (h : OwnRows w base v Y) (k : Below w.heap.size w w5) (L : List Value) (o : Nat) : OwnRows (w5.setCells w.heap.size o L) base v Y := by
  have key : ∀ {t k' B u n xs}, w.ownsRow B t k' u n xs → (w5.setCells w.heap.size o L).ownsRow B t k' u n xs := fun q => owns_puts (ownsRow_on q k) (fun e => by have := (q.lt _ e).2; omega) L o
  exact ⟨key h.row, fun y hy => by obtain ⟨B, hB, q⟩ := h.rs y hy; exact ⟨B, hB, key q⟩, fun y hy => by obtain ⟨B, hB, q⟩ := h.ws y hy; exact ⟨B, hB, key q⟩⟩
theorem OwnRows.kept {w w2 : World} {base : Nat} {v : Value} {Y : List Rv} (h : OwnRows w base v Y) (hg : w.grownBy w2 v.ownBlock) : (∀ y ∈ Y, OwnR base w2 y.va y.r.c.rs) ∧ ∀ y ∈ Y, OwnW base w2 y.vb y.r.c.ws :=
  ⟨fun y hy => by obtain ⟨B, hB, q⟩ := h.rs y hy; exact ⟨B, hB, q.kept hg (apartT (by decide) q h.row)⟩, fun y hy => by obtain ⟨B, hB, q⟩ := h.ws y hy; exact ⟨B, hB, q.kept hg (apartT (by decide) q h.row)⟩⟩
theorem OwnRows.snoc {w w2 : World} {base : Nat} {v v' : Value} {Y : List Rv} {x : Rv} (h : OwnRows w base v Y) (h1 : OwnR base w x.va x.r.c.rs) (h2 : OwnW base w x.vb x.r.c.ws) (ho : w2.ownsRow base 44 25 v' (Y.length + 1) (Y.flatMap Rv.cells ++ x.cells)) (hg : w.grownBy w2 v.ownBlock) : OwnRows w2 base v' (Y ++ [x]) := by
  obtain ⟨k1, k2⟩ := h.kept hg
  refine ⟨by rw [flat_snoc, List.length_append]; exact ho, fun y hy => ?_, fun y hy => ?_⟩
  · rcases List.mem_append.1 hy with hy | hy
    · exact k1 y hy
    · rw [List.mem_singleton.1 hy]
      obtain ⟨B, hB, q⟩ := h1
      exact ⟨B, hB, q.kept hg (apartT (by decide) q h.row)⟩
  · rcases List.mem_append.1 hy with hy | hy
    · exact k2 y hy
    · rw [List.mem_singleton.1 hy]
      obtain ⟨B, hB, q⟩ := h2
      exact ⟨B, hB, q.kept hg (apartT (by decide) q h.row)⟩
/-- Records in memory of their own: what reads as those of X. -/
def OwnX (X : List Rv) (w : World) (e : Ending) (w' : World) : Prop := ∃ u Y, e = .returned u ∧ Hid (rcs Y = rcs X) ∧ OwnRows w' w.heap.size u Y ∧ Below w.heap.size w w'
end Go.Proofs.Ytgaglcfoodbcfaa
