/- Contract of Know: what is known of an instance; no conditions but those that it names. -/
import Derived.Test.YtpknkhgkejkpkaaGreatBack
import Derived.Test.YtpknkhgkejkpkaaGreatPk
namespace Go.Proofs.YtpknkhgkejkpkaaGreat
open Go.ChangeShapes Go.WideShapes Go.ChangeAt Go.RowKit

open Go.Shelf
attribute [local go_sem] Oper.semAt_some
attribute [local go_sem ↓] run_same_inst

theorem rowN_kept {k : Nat} {W W' : World} {v : Value} {n : Nat} {xs : List Value} {row : Option Nat} (h : RowN k W v n xs) (hg : W.grownBy W' row) (hr : ∀ r, row = some r → ∃ o : Obj, W.heap[r]? = some o ∧ o.isCells = false) : RowN k W' v n xs := by
  obtain ⟨hl, A, c, e, hc, hy⟩ := h
  refine ⟨hl, A, c, e, hc, fun hp => ?_⟩
  obtain ⟨b, o, e1, hb, hz⟩ := hy hp
  exact ⟨b, o, e1, Nat.lt_of_lt_of_le hb hg.size, fun k x hx => cell_kept (hz k x hx) hg hr⟩
theorem Txt.kept {W W' : World} {x : Rv} {row : Option Nat} (h : Txt W x) (hg : W.grownBy W' row) (hr : ∀ r, row = some r → ∃ o : Obj, W.heap[r]? = some o ∧ o.isCells = false) : Txt W' x := ⟨rowN_kept h.rs hg hr, rowN_kept h.ws hg hr⟩
theorem Hold.kept {W W' : World} {b : Nat} {t : TypeId} {L : List Value} {row : Option Nat} (h : Hold W b t L) (hg : W.grownBy W' row) (hr : ∀ r, row = some r → ∃ o : Obj, W.heap[r]? = some o ∧ o.isCells = false) : Hold W' b t L := by
  refine (hg.block b (hold_lt h) fun e => ?_).trans h
  obtain ⟨o, ho, hc⟩ := hr b e.symm
  unfold Hold at h
  rw [h] at ho; cases ho; cases hc
/-- A record that is told. -/
def Gives (r : M.Rec) (w : World) (e : Ending) (w' : World) : Prop := ∃ va vb, e = .returned (.agg (Rv.cells ⟨r, va, vb⟩).toArray) ∧ Txt w' ⟨r, va, vb⟩ ∧ Below w.heap.size w w'

set_option maxRecDepth 200000 in
set_option maxHeartbeats 16000000 in
theorem know_any {w : World} {v : Value} {X : List Rv} (h : Rows w v X) (hl : X.length ≤ 1000) (hm : ∀ x ∈ X, x.r.c.rs.length ≤ 1000 ∧ x.r.c.ws.length ≤ 1000) (i1 i2 : Int) :
    Calls Tryz.prog 14 #[v, .agg #[.int .i64 i1, .int .i64 i2]] w (Gives (M.knowL (rcs X) i1 i2) w) := by
  obtain ⟨A, c, rfl⟩ := rowN_sliceOf h.row
  refine (callsIn_wide (n := 4)).1 ?_
  refine callsIn_of_wp_marks Tryz.func14 rfl trivial ?_ rfl
  simp only [Tryz.ntmps14, List.size_toArray, List.length_cons, List.length_nil, Nat.reduceAdd, Nat.reduceSub, Array.replicate_succ, Array.replicate_zero, List.push_toArray, List.append_toArray, List.nil_append, List.cons_append]
  have hb0 : Below w.heap.size w (((w.alloc (.cells #[.int .i64 i1, .int .i64 i2] 32)).alloc (.cells #[.int .i64 0, .int .i64 0, .int .i64 0, .int .i64 0, .int .i64 0, .int .i64 0, .int .i64 0, .int .i64 0, .int .i64 0, .int .i64 0, .int .i64 0, .int .i64 0, .int .i64 0, .slice none 0 0, .slice none 0 0, .bool false, .int .i64 0, .int .i64 0, .int .i64 0, .int .i64 0, .int .i64 0, .int .i64 0, .int .i64 0, .int .i64 0, .bool false] 41)).alloc (.cells #[.slice A X.length c] 22)) := below_new (below_new (below_new (Below.refl _ _)))
  have hi0 : Hold (((w.alloc (.cells #[.int .i64 i1, .int .i64 i2] 32)).alloc (.cells #[.int .i64 0, .int .i64 0, .int .i64 0, .int .i64 0, .int .i64 0, .int .i64 0, .int .i64 0, .int .i64 0, .int .i64 0, .int .i64 0, .int .i64 0, .int .i64 0, .int .i64 0, .slice none 0 0, .slice none 0 0, .bool false, .int .i64 0, .int .i64 0, .int .i64 0, .int .i64 0, .int .i64 0, .int .i64 0, .int .i64 0, .int .i64 0, .bool false] 41)).alloc (.cells #[.slice A X.length c] 22)) w.heap.size 32 [.int .i64 i1, .int .i64 i2] := (((Hold.new w [.int .i64 i1, .int .i64 i2] 32).on (below_new (Below.refl _ _))).on (below_new (Below.refl _ _)))
  have hr0 : Hold (((w.alloc (.cells #[.int .i64 i1, .int .i64 i2] 32)).alloc (.cells #[.int .i64 0, .int .i64 0, .int .i64 0, .int .i64 0, .int .i64 0, .int .i64 0, .int .i64 0, .int .i64 0, .int .i64 0, .int .i64 0, .int .i64 0, .int .i64 0, .int .i64 0, .slice none 0 0, .slice none 0 0, .bool false, .int .i64 0, .int .i64 0, .int .i64 0, .int .i64 0, .int .i64 0, .int .i64 0, .int .i64 0, .int .i64 0, .bool false] 41)).alloc (.cells #[.slice A X.length c] 22)) (w.heap.size + 1) 41 [.int .i64 0, .int .i64 0, .int .i64 0, .int .i64 0, .int .i64 0, .int .i64 0, .int .i64 0, .int .i64 0, .int .i64 0, .int .i64 0, .int .i64 0, .int .i64 0, .int .i64 0, .slice none 0 0, .slice none 0 0, .bool false, .int .i64 0, .int .i64 0, .int .i64 0, .int .i64 0, .int .i64 0, .int .i64 0, .int .i64 0, .int .i64 0, .bool false] := by
    have := (Hold.new (w.alloc (.cells #[.int .i64 i1, .int .i64 i2] 32)) [.int .i64 0, .int .i64 0, .int .i64 0, .int .i64 0, .int .i64 0, .int .i64 0, .int .i64 0, .int .i64 0, .int .i64 0, .int .i64 0, .int .i64 0, .int .i64 0, .int .i64 0, .slice none 0 0, .slice none 0 0, .bool false, .int .i64 0, .int .i64 0, .int .i64 0, .int .i64 0, .int .i64 0, .int .i64 0, .int .i64 0, .int .i64 0, .bool false] 41).on (below_new (o := .cells #[.slice A X.length c] 22) (Below.refl _ _))
    simpa using this
  have hs0 : (((w.alloc (.cells #[.int .i64 i1, .int .i64 i2] 32)).alloc (.cells #[.int .i64 0, .int .i64 0, .int .i64 0, .int .i64 0, .int .i64 0, .int .i64 0, .int .i64 0, .int .i64 0, .int .i64 0, .int .i64 0, .int .i64 0, .int .i64 0, .int .i64 0, .slice none 0 0, .slice none 0 0, .bool false, .int .i64 0, .int .i64 0, .int .i64 0, .int .i64 0, .int .i64 0, .int .i64 0, .int .i64 0, .int .i64 0, .bool false] 41)).alloc (.cells #[.slice A X.length c] 22)).cell? ⟨w.heap.size + 1 + 1, 0, none⟩ = some (.slice A X.length c) := by
    have := Hold.new ((w.alloc (.cells #[.int .i64 i1, .int .i64 i2] 32)).alloc (.cells #[.int .i64 0, .int .i64 0, .int .i64 0, .int .i64 0, .int .i64 0, .int .i64 0, .int .i64 0, .int .i64 0, .int .i64 0, .int .i64 0, .int .i64 0, .int .i64 0, .int .i64 0, .slice none 0 0, .slice none 0 0, .bool false, .int .i64 0, .int .i64 0, .int .i64 0, .int .i64 0, .int .i64 0, .int .i64 0, .int .i64 0, .int .i64 0, .bool false] 41)) [.slice A X.length c] 22
    have := hold_cell this 0 rfl
    simpa using this
  have hz0 : (((w.alloc (.cells #[.int .i64 i1, .int .i64 i2] 32)).alloc (.cells #[.int .i64 0, .int .i64 0, .int .i64 0, .int .i64 0, .int .i64 0, .int .i64 0, .int .i64 0, .int .i64 0, .int .i64 0, .int .i64 0, .int .i64 0, .int .i64 0, .int .i64 0, .slice none 0 0, .slice none 0 0, .bool false, .int .i64 0, .int .i64 0, .int .i64 0, .int .i64 0, .int .i64 0, .int .i64 0, .int .i64 0, .int .i64 0, .bool false] 41)).alloc (.cells #[.slice A X.length c] 22)).heap.size = w.heap.size + 1 + 1 + 1 := by simp
  gi_wp2_with (refine ⟨trivial, ?_⟩; gi_at_call 34; refine (callsIn_wide.2 (back_any A X.length c _)).mono ?_; rintro e w' ⟨rfl, rfl⟩)
  obtain ⟨W0, hW0⟩ : ∃ W0, (((w.alloc (.cells #[.int .i64 i1, .int .i64 i2] 32)).alloc (.cells #[.int .i64 0, .int .i64 0, .int .i64 0, .int .i64 0, .int .i64 0, .int .i64 0, .int .i64 0, .int .i64 0, .int .i64 0, .int .i64 0, .int .i64 0, .int .i64 0, .int .i64 0, .slice none 0 0, .slice none 0 0, .bool false, .int .i64 0, .int .i64 0, .int .i64 0, .int .i64 0, .int .i64 0, .int .i64 0, .int .i64 0, .int .i64 0, .bool false] 41)).alloc (.cells #[.slice A X.length c] 22)) = W0 := ⟨_, rfl⟩
  skip
  rw [hW0] at hb0 hi0 hr0 hs0 hz0 ⊢
  clear hW0
  have hX0 := h.below hb0
  have HZ0 := Lib.hid hz0
  clear hz0
  have hone : ∀ k : Fin X.length, X[k].cells.all (·.oneCell') = true := fun k => rv_one (rds_one (h.tx X[k] (List.getElem_mem _)).rs) (wrs_one (h.tx X[k] (List.getElem_mem _)).ws)
  refine wpIn_rangeFunc_ownH rfl (by decide) (gf := 65) (lb := #[.pointer (some ⟨w.heap.size + 1 + 1, 0, none⟩)]) rfl trivial (enters_of Tryz.func65 (by kernel_rfl) rfl)
    (back_stops Fence.wide 3 trivial rfl (by decide) (w.heap.size + 1 + 1) W0.heap.size _ X hl W0 (by have := HZ0.out; omega) (Nat.le_refl _) hs0 ?_) belowK_t (belowK_b (Nat.le_refl _)) (Below.refl _ _) (fun _ => rfl)
    (fun pre W => (∀ j ∈ pre, M.eq2 X[j].r.ir X[j].r.is i1 i2 = false) ∧ Below W0.heap.size W0 W)
    (fun cd pre W => cd = .ret ∧ ∃ (q : List (Fin X.length)) (x : Fin X.length) (va vb : Value), pre = q ++ [x] ∧ (∀ j ∈ q, M.eq2 X[j].r.ir X[j].r.is i1 i2 = false) ∧ M.eq2 X[x].r.ir X[x].r.is i1 i2 = true ∧ Hold W (w.heap.size + 1) 41 (Rv.cells ⟨X[x].r, va, vb⟩) ∧ Txt W ⟨X[x].r, va, vb⟩ ∧ Below w.heap.size w W)
    (OwnFrom.and (fun _ _ _ _ hs _ _ => hs) (ownFrom_below (Nat.le_refl _) (Nat.le_refl _)))
    (fun cd s W W' row hs hg hr => by
      obtain ⟨e, q, x, va, vb, e1, e2, e3, e4, e5, e6⟩ := hs
      have hr' : ∀ r, row = some r → ∃ o : Obj, W.heap[r]? = some o ∧ o.isCells = false := fun r e => (hr r e).2
      exact ⟨e, q, x, va, vb, e1, e2, e3, e4.kept hg hr', e5.kept hg hr', ownFrom_below (β := Unit) (Nat.le_refl _) (by have := HZ0.out; omega) () W W' row e6 hg hr⟩)
    ⟨fun _ hj => (List.not_mem_nil hj).elim, Below.refl _ _⟩
    (fun k a' W => ∃ Bx, W0.heap.size ≤ Bx ∧ Hold W Bx 41 X[k].cells ∧ a' = { tmps := #[.slice A X.length c, .agg #[.int .i64 i1, .int .i64 i2], undef, .pointer (some ⟨w.heap.size, 0, none⟩), .pointer (some ⟨w.heap.size + 1, 0, none⟩), undef, .pointer (some ⟨Bx, 0, none⟩), .slice A X.length c, .func (.func 65) #[] #[.pointer (some ⟨w.heap.size + 1 + 1, 0, none⟩)], .int .i64 (k.val : Int), X[k].val, undef, undef, undef, undef, undef, undef, undef, undef, undef, undef, undef], defers := [] })
    (fun k a' _ W W' row hs hg hr => by
      obtain ⟨Bx, h1, h2, h3⟩ := hs
      exact ⟨Bx, h1, h2.kept hg (fun r e => (hr r e).2), h3⟩)
    ?assign ?body ?done ?stop
  · refine ⟨A, c, rfl, fun hp => ?_⟩
    obtain ⟨hlen, A', c', ev, hc, hy⟩ := hX0.row
    simp only [Value.slice.injEq] at ev
    obtain ⟨rfl, -, rfl⟩ := ev
    obtain ⟨b, o, rfl, hb, hz⟩ := hy hp
    exact ⟨b, o, rfl, hb, fun k x hx q u hq => by rw [Nat.add_assoc]; exact hz (k * 25 + q) u (flat_at hx q u hq)⟩
  case assign =>
    rintro l pre k W K ⟨hno, hB⟩ hK
    have hs := hB.size
    have ho := hone k
    unfold encB Rv.val
    revert hK
    generalize X[k] = x at *
    intro hK
    have hW := Hold.new W [.int .i64 0, .int .i64 0, .int .i64 0, .int .i64 0, .int .i64 0, .int .i64 0, .int .i64 0, .int .i64 0, .int .i64 0, .int .i64 0, .int .i64 0, .int .i64 0, .int .i64 0, .slice none 0 0, .slice none 0 0, .bool false, .int .i64 0, .int .i64 0, .int .i64 0, .int .i64 0, .int .i64 0, .int .i64 0, .int .i64 0, .int .i64 0, .bool false] 41
    gi_wp2_with (with_reducible refine inList_store rfl 41 _ _ rfl W.heap.size 0 rfl 41 x.cells [.int .i64 0, .int .i64 0, .int .i64 0, .int .i64 0, .int .i64 0, .int .i64 0, .int .i64 0, .int .i64 0, .int .i64 0, .int .i64 0, .int .i64 0, .int .i64 0, .int .i64 0, .slice none 0 0, .slice none 0 0, .bool false, .int .i64 0, .int .i64 0, .int .i64 0, .int .i64 0, .int .i64 0, .int .i64 0, .int .i64 0, .int .i64 0, .bool false] x.cells rfl hW (by kernel_rfl) (of_decide_eq_true (by kernel_rfl)) (rv_size _) ho ?_; intro w1 H1 K1 E1)
    exact hK _ _ (((KeepsOthers.alloc _ _).trans E1).from _) (K1.below _ _ hs ((Below.refl _ W).alloc hs _)) ⟨hno, K1.below _ _ hs (hB.alloc hs _)⟩ ⟨W.heap.size, hs, H1, rfl⟩
  case body =>
    rintro l pre k a' W hlt ⟨r, hr⟩ ⟨hno, hB⟩ ⟨Bx, hBx, hX, rfl⟩ hlen
    have hI := hi0.on hB
    have hR := hr0.on hB
    have hs := hB.size
    obtain ⟨hx1, hx2⟩ := hm X[k] (List.getElem_mem _)
    have hT := (h.tx X[k] (List.getElem_mem _)).below (hb0.trans (hB.mono hb0.size))
    obtain ⟨x, hxk⟩ : ∃ x, X[k] = x := ⟨_, rfl⟩
    unfold Rv.val
    rw [hxk] at hX hx1 hx2 hT ⊢
    have c0 : W.cell? ⟨Bx, 0, none⟩ = some (.int .i64 x.r.ir) := hold_cell hX 0 rfl
    have c1 : W.cell? ⟨Bx, 1, none⟩ = some (.int .i64 x.r.is) := hold_cell hX 1 rfl
    have d0 : W.cell? ⟨w.heap.size, 0, none⟩ = some (.int .i64 i1) := hold_cell hI 0 rfl
    have d1 : W.cell? ⟨w.heap.size, 1, none⟩ = some (.int .i64 i2) := hold_cell hI 1 rfl
    rcases he : M.eq2 x.r.ir x.r.is i1 i2 with _ | _
    · gi_wp2
      refine ⟨(KeepsOthers.refl _).from _, Below.refl _ _, fun j hj => ?_, hB⟩
      rcases List.mem_append.1 hj with hj | hj
      · exact hno j hj
      · obtain rfl : j = k := by simpa using hj
        rw [show X[(j : Nat)] = x from hxk]; exact he
    · have HC : W.rangeAt Bx 7 [.int .i64 x.r.c.k, .int .i64 x.r.c.tc, .int .i64 x.r.c.tn, .int .i64 x.r.c.tt, .int .i64 x.r.c.tk, .int .i64 x.r.c.sh, x.va, x.vb, .bool x.r.c.cm] := hold_range hX 7 _ (fun j v hj => by
        match j, hj with
        | 0, hj => exact hj
        | 1, hj => exact hj
        | 2, hj => exact hj
        | 3, hj => exact hj
        | 4, hj => exact hj
        | 5, hj => exact hj
        | 6, hj => exact hj
        | 7, hj => exact hj
        | 8, hj => exact hj)
      have hbx : Bx < W.heap.size := hold_lt hX
      have hrx : w.heap.size + 1 < W.heap.size := hold_lt hR
      have hne : Bx ≠ w.heap.size + 1 := by have := HZ0.out; omega
      have HB := Lib.hid (hb0.trans (hB.mono hb0.size))
      have HNO := Lib.hid hno
      have HE := Lib.hid he
      have HBX := Lib.hid hBx
      clear hno hBx hB hlt hr hlen hs
      gi_wp2_with (first
        | (with_reducible refine inList_load rfl 30 _ rfl Bx 7 rfl [.int .i64 x.r.c.k, .int .i64 x.r.c.tc, .int .i64 x.r.c.tn, .int .i64 x.r.c.tt, .int .i64 x.r.c.tk, .int .i64 x.r.c.sh, x.va, x.vb, .bool x.r.c.cm] _ HC Tryz.underlying30 rfl (by kernel_rfl) ?_)
        | (refine ⟨trivial, ?_⟩
           gi_at_call 28
           refine (CallsIn.inRound l (callsIn_wide.2 (clone_any x.r.c hT.rs hT.ws hx1 hx2))).mono ?_
           rintro e w1 ⟨va, vb, rfl, ho, ho', hb⟩
           have OA := Lib.hid ho
           have OB := Lib.hid ho'
           have H1 := hX.on hb
           have R1 := hR.on hb
           have HB1 := Lib.hid hb
           have oc : ([.int .i64 x.r.c.k, .int .i64 x.r.c.tc, .int .i64 x.r.c.tn, .int .i64 x.r.c.tt, .int .i64 x.r.c.tk, .int .i64 x.r.c.sh, va, vb, .bool x.r.c.cm] : List Value).all (·.oneCell') = true := by
             simp only [List.all_cons, List.all_nil, (show va.oneCell' = true from by obtain ⟨_, _, e⟩ := ownsRow_slice ho; rw [e]; rfl), (show vb.oneCell' = true from by obtain ⟨_, _, e⟩ := ownsRow_slice ho'; rw [e]; rfl)]; rfl
           have oc' : (Rv.cells ⟨x.r, va, vb⟩).all (·.oneCell') = true := rv_one (show va.oneCell' = true from by obtain ⟨_, _, e⟩ := ownsRow_slice ho; rw [e]; rfl) (show vb.oneCell' = true from by obtain ⟨_, _, e⟩ := ownsRow_slice ho'; rw [e]; rfl)
           clear ho ho' hb)
        | (with_reducible refine inList_store rfl 30 _ _ rfl Bx 7 rfl 41 [.int .i64 x.r.c.k, .int .i64 x.r.c.tc, .int .i64 x.r.c.tn, .int .i64 x.r.c.tt, .int .i64 x.r.c.tk, .int .i64 x.r.c.sh, va, vb, .bool x.r.c.cm] x.cells (Rv.cells ⟨x.r, va, vb⟩) rfl H1 (by kernel_rfl) (of_decide_eq_true (by kernel_rfl)) (by kernel_rfl) oc ?_
           intro w2 H2 K2 E2
           have H2w := H2.cel.whole
           have R2 := K2.hold R1 hne.symm)
        | (with_reducible refine inList_load rfl 41 _ rfl Bx 0 rfl (Rv.cells ⟨x.r, va, vb⟩) _ H2w Tryz.underlying41 rfl (rv_size _) ?_)
        | (with_reducible refine inList_store rfl 41 _ _ rfl (w.heap.size + 1) 0 rfl 41 (Rv.cells ⟨x.r, va, vb⟩) [.int .i64 0, .int .i64 0, .int .i64 0, .int .i64 0, .int .i64 0, .int .i64 0, .int .i64 0, .int .i64 0, .int .i64 0, .int .i64 0, .int .i64 0, .int .i64 0, .int .i64 0, .slice none 0 0, .slice none 0 0, .bool false, .int .i64 0, .int .i64 0, .int .i64 0, .int .i64 0, .int .i64 0, .int .i64 0, .int .i64 0, .int .i64 0, .bool false] (Rv.cells ⟨x.r, va, vb⟩) rfl R2 (by kernel_rfl) (of_decide_eq_true (by kernel_rfl)) (rv_size _) oc' ?_
           intro w3 H3 K3 E3)
        | fail)
      have hk : KeepsOthers W w3 := (KeepsOthers.trans ⟨HB1.out.size, fun k o h _ => (HB1.out.block k (Array.getElem?_eq_some_iff.1 h).1).trans h⟩ E2).trans E3
      refine ⟨hk.from _, rfl, pre, k, va, vb, rfl, HNO.out, ?_, ?_, ?_, ?_⟩
      · rw [hxk]; exact HE.out
      · rw [hxk]; exact H3
      · rw [hxk]
        exact ⟨RowN.of_owns (K3.owns (K2.owns OA.out hbx) hrx), RowN.of_owns (K3.owns (K2.owns OB.out hbx) hrx)⟩
      · exact K3.below _ _ (Nat.le_succ _) (K2.below _ _ (by have := HZ0.out; have := HBX.out; omega) (below_on HB.out HB1.out))
  case done =>
    rintro D ys W hD hS ⟨hno, hB⟩ hK
    have hI := hi0.on hB
    have hR := hr0.on hB
    have d0 : W.cell? ⟨w.heap.size, 0, none⟩ = some (.int .i64 i1) := hold_cell hI 0 rfl
    have d1 : W.cell? ⟨w.heap.size, 1, none⟩ = some (.int .i64 i2) := hold_cell hI 1 rfl
    have ol : ([.int .i64 i1, .int .i64 i2, .int .i64 0, .int .i64 0, .int .i64 0, .int .i64 0, .int .i64 0, .int .i64 0, .int .i64 0, .int .i64 0, .int .i64 0, .int .i64 0, .int .i64 0, .slice none 0 0, .slice none 0 0, .bool false, .int .i64 0, .int .i64 0, .int .i64 0, .int .i64 0, .int .i64 0, .int .i64 0, .int .i64 0, .int .i64 0, .bool false] : List Value).all (·.oneCell') = true := rfl
    gi_wp2_with (with_reducible refine inList_store rfl 41 _ _ rfl (w.heap.size + 1) 0 rfl 41 [.int .i64 i1, .int .i64 i2, .int .i64 0, .int .i64 0, .int .i64 0, .int .i64 0, .int .i64 0, .int .i64 0, .int .i64 0, .int .i64 0, .int .i64 0, .int .i64 0, .int .i64 0, .slice none 0 0, .slice none 0 0, .bool false, .int .i64 0, .int .i64 0, .int .i64 0, .int .i64 0, .int .i64 0, .int .i64 0, .int .i64 0, .int .i64 0, .bool false] [.int .i64 0, .int .i64 0, .int .i64 0, .int .i64 0, .int .i64 0, .int .i64 0, .int .i64 0, .int .i64 0, .int .i64 0, .int .i64 0, .int .i64 0, .int .i64 0, .int .i64 0, .slice none 0 0, .slice none 0 0, .bool false, .int .i64 0, .int .i64 0, .int .i64 0, .int .i64 0, .int .i64 0, .int .i64 0, .int .i64 0, .int .i64 0, .bool false] (Rv.cells ⟨M.recI i1 i2, .slice none 0 0, .slice none 0 0⟩) rfl hR (by kernel_rfl) (of_decide_eq_true (by kernel_rfl)) (by kernel_rfl) ol ?_; intro w3 H3 K3 E3)
    have hK3 := E3.same D _ hK rfl
    have hrow : ∀ r, some D = some r → ∃ o : Obj, w3.heap[r]? = some o ∧ o.isCells = false := fun r e => by cases e; exact ⟨_, hK3, rfl⟩
    have hkn : M.knowL (rcs X) i1 i2 = M.recI i1 i2 := M.know_none fun r hr => by
      obtain ⟨x, hx, rfl⟩ := List.mem_map.1 hr
      obtain ⟨j, hj, rfl⟩ := List.mem_iff_getElem.1 hx
      exact hno ⟨j, hj⟩ (hS _)
    have hwD : w.heap.size ≤ D := by have := HZ0.out; omega
    have hB3 : Below w.heap.size w w3 := K3.below _ _ (Nat.le_succ _) (hb0.trans (hB.mono hb0.size))
    refine ⟨by simp, .inl ⟨_, _, rfl, run_takeDeferred hK3, ?_⟩⟩
    refine ⟨_, results_c rfl rfl (H3.kept (grownBy_putObj' w3 D _) hrow).cel.whole _ Tryz.underlying41 rfl (rv_size _), .slice none 0 0, .slice none 0 0, by rw [hkn], ?_, hB3.trans (belowK_b (w := w) (Nat.le_refl _) w3 D _ _ hwD hK3 rfl rfl)⟩
    rw [hkn]
    exact ⟨Rds.nil _, Wrs.nil _⟩
  case stop =>
    rintro D cd pre W hD hS ⟨rfl, q, x, va, vb, rfl, e2, e3, e4, e5, e6⟩ hK
    have hrow : ∀ r, some D = some r → ∃ o : Obj, W.heap[r]? = some o ∧ o.isCells = false := fun r e => by cases e; exact ⟨_, hK, rfl⟩
    have hwD : w.heap.size ≤ D := by have := HZ0.out; omega
    have hkn : M.knowL (rcs X) i1 i2 = X[x].r := by
      have hx : (rcs X)[x.val]? = some X[x].r := by
        unfold rcs
        rw [List.getElem?_map, List.getElem?_eq_getElem x.isLt]; rfl
      refine M.know_at hx e3 fun j r hj hr => ?_
      unfold rcs at hr
      rw [List.getElem?_map] at hr
      obtain ⟨y, hy, rfl⟩ := Option.map_eq_some_iff.1 hr
      obtain ⟨hjl, rfl⟩ := List.getElem?_eq_some_iff.1 hy
      exact e2 ⟨j, hjl⟩ (hS q x rfl ⟨j, hjl⟩ hj)
    gi_wp2
    refine ⟨by simp, .inl ⟨_, _, rfl, run_takeDeferred hK, ?_⟩⟩
    refine ⟨_, results_c rfl rfl (e4.kept (grownBy_putObj' W D _) hrow).cel.whole _ Tryz.underlying41 rfl (rv_size _), va, vb, rfl, ?_, e6.trans (belowK_b (w := w) (Nat.le_refl _) W D _ _ hwD hK rfl rfl)⟩
    exact e5.kept (grownBy_putObj' W D _) hrow
end Go.Proofs.YtpknkhgkejkpkaaGreat
