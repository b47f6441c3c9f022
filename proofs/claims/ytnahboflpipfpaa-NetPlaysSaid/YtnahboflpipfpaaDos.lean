/- Steps as rows of 32 cells; contract of the law's few; no conditions but the length that it names. -/
import Derived.Test.YtnahboflpipfpaaAwk
namespace Go.Proofs.Ytnahboflpipfpaa
open Go.ChangeShapes Go.WideShapes Go.ChangeAt Go.RowKit

theorem flatG_at {α : Type} {f : α → List Value} {n : Nat} (hf : ∀ x, (f x).length = n) {X : List α} : ∀ {k : Nat} {x : α}, X[k]? = some x → ∀ j v, (f x)[j]? = some v → (X.flatMap f)[k * n + j]? = some v := by
  induction X with
  | nil => intro k x h; simp at h
  | cons y X ih =>
    intro k x h j v hv
    rw [List.flatMap_cons]
    have hl := hf y
    have hj : j < n := by have := (List.getElem?_eq_some_iff.1 hv).1; rw [hf x] at this; exact this
    cases k with
    | zero =>
      simp only [List.getElem?_cons_zero, Option.some.injEq] at h
      subst h
      rw [Nat.zero_mul, Nat.zero_add, List.getElem?_append_left (by omega)]
      exact hv
    | succ k =>
      rw [List.getElem?_append_right (by rw [Nat.succ_mul]; omega), show (k + 1) * n + j - (f y).length = k * n + j by rw [Nat.succ_mul, hl]; omega]
      exact ih (by simpa using h) j v hv
theorem rowG_range {α : Type} {f : α → List Value} {n : Nat} (hf : ∀ x, (f x).length = n) {w : World} {A : Option Addr} {m c k : Nat} {X : List α} {x : α} (h : RowN n w (.slice A m c) X.length (X.flatMap f)) (hx : X[k]? = some x) : ∃ b o, A = some ⟨b, o, none⟩ ∧ b < w.heap.size ∧ w.rangeAt b (o + k * n) (f x) := by
  have hk := (List.getElem?_eq_some_iff.1 hx).1
  obtain ⟨hl, A', c', ev, hc, hy⟩ := h
  simp only [Value.slice.injEq] at ev
  obtain ⟨rfl, -, rfl⟩ := ev
  obtain ⟨b, o, rfl, hb, hz⟩ := hy (by omega)
  refine ⟨b, o, rfl, hb, fun j v hj => ?_⟩
  have := hz (k * n + j) v (flatG_at hf hx j v hj)
  rwa [← Nat.add_assoc] at this
theorem range_below {w w' : World} {b o : Nat} {L : List Value} (h : w.rangeAt b o L) (hb : b < w.heap.size) (k : Below w.heap.size w w') : w'.rangeAt b o L := fun j v hj => (k.cell (p := ⟨b, o + j, none⟩) hb).trans (h j v hj)
/-- A step: its verb, its number, its message. -/
structure Dv where
  vb : Int
  k : Int
  x : Mv
def Dv.cells (d : Dv) : List Value := .int .i64 d.vb :: .int .i64 d.k :: d.x.cells
theorem dv_len (d : Dv) : d.cells.length = 32 := rfl
theorem dv_size (d : Dv) : (Try.prog.info? 51).map (·.size) = some d.cells.length := by kernel_rfl
/-- A slice that reads as steps. -/
structure Dos (w : World) (v : Value) (D : List Dv) : Prop where
  row : RowN 32 w v D.length (D.flatMap Dv.cells)
  tx : ∀ d ∈ D, Rds w d.x.va d.x.m.r.c.rs ∧ Wrs w d.x.vb d.x.m.r.c.ws
theorem Dos.below {w w' : World} {v : Value} {D : List Dv} (h : Dos w v D) (k : Below w.heap.size w w') : Dos w' v D := ⟨h.row.below k, fun d hd => ⟨(h.tx d hd).1.below k, (h.tx d hd).2.below k⟩⟩
def Dv.fewB (d : Dv) : Bool := M.modB d.x.m.r.c
def fewB10 (D : List Dv) : Bool := D.all Dv.fewB && decide (D.length ≤ 40)
theorem fewB10_iff {D : List Dv} : fewB10 D = true ↔ (∀ d ∈ D, M.Mod d.x.m.r.c) ∧ D.length ≤ 40 := by
  unfold fewB10
  rw [Bool.and_eq_true, List.all_eq_true, decide_eq_true_iff]
  exact ⟨fun h => ⟨fun d hd => M.modB_iff.1 (h.1 d hd), h.2⟩, fun h => ⟨fun d hd => M.modB_iff.2 (h.1 d hd), h.2⟩⟩
/-- The command within a message's cells, and within a step's. -/
theorem cmd_range {w : World} {b o : Nat} {x : Mv} (h : w.rangeAt b o x.cells) : w.rangeAt b (o + 12) [.int .i64 x.m.r.c.k, .int .i64 x.m.r.c.tc, .int .i64 x.m.r.c.tn, .int .i64 x.m.r.c.tt, .int .i64 x.m.r.c.tk, .int .i64 x.m.r.c.sh, x.va, x.vb, .bool x.m.r.c.cm] := fun i u hi => by
  have hq : ∀ i < 9, w.cell? ⟨b, o + 12 + i, none⟩ = ([.int .i64 x.m.r.c.k, .int .i64 x.m.r.c.tc, .int .i64 x.m.r.c.tn, .int .i64 x.m.r.c.tt, .int .i64 x.m.r.c.tk, .int .i64 x.m.r.c.sh, x.va, x.vb, .bool x.m.r.c.cm] : List Value)[i]? := fun i hi => by
    rw [Nat.add_assoc]
    match i, hi with
    | 0, _ => exact h 12 _ rfl
    | 1, _ => exact h 13 _ rfl
    | 2, _ => exact h 14 _ rfl
    | 3, _ => exact h 15 _ rfl
    | 4, _ => exact h 16 _ rfl
    | 5, _ => exact h 17 _ rfl
    | 6, _ => exact h 18 _ rfl
    | 7, _ => exact h 19 _ rfl
    | 8, _ => exact h 20 _ rfl
  rw [hq i (List.getElem?_eq_some_iff.1 hi).1]
  exact hi
theorem dv_msg {w : World} {b o : Nat} {d : Dv} (h : w.rangeAt b o d.cells) : w.rangeAt b (o + 2) d.x.cells := fun i u hi => by
  have := h (2 + i) u (by show (Value.int .i64 d.vb :: .int .i64 d.k :: d.x.cells)[2 + i]? = some u; rw [Nat.add_comm]; exact hi)
  rwa [← Nat.add_assoc] at this
theorem hold_range {w : World} {b : Nat} {t : TypeId} {L : List Value} (h : Hold w b t L) : w.rangeAt b 0 L := h.cel.whole
theorem mv_slices {F : Nat → Prop} {w : World} {x : Mv} (h : Txt F w x) : ∃ A c A' c', x.va = .slice A x.m.r.c.rs.length c ∧ x.vb = .slice A' x.m.r.c.ws.length c' := by
  obtain ⟨A, c, e, _⟩ := rowN_sliceOf h.rs
  obtain ⟨A', c', e', _⟩ := rowN_sliceOf h.ws
  exact ⟨A, c, A', c', e, e'⟩
theorem dv_one {w : World} {d : Dv} (h : Rds w d.x.va d.x.m.r.c.rs ∧ Wrs w d.x.vb d.x.m.r.c.ws) : d.cells.all (·.oneCell') = true := by
  have := (Txt.of (F := fun _ => False) h.1 h.2 (fun _ e => e.elim)).one
  show (Value.int .i64 d.vb :: .int .i64 d.k :: d.x.cells).all _ = true
  rw [List.all_cons, List.all_cons, this]; rfl

set_option maxHeartbeats 8000000 in
set_option maxRecDepth 100000 in
theorem few10_any {w : World} {v : Value} {D : List Dv} (h : Dos w v D) (hbig : D.length ≤ 9223372036854775807) : Calls Try.prog 9 #[v] w fun e w' => e = .returned (.bool (fewB10 D)) ∧ Below w.heap.size w w' := by
  obtain ⟨A, c, rfl, hc⟩ := rowN_sliceOf h.row
  have HH := Lib.hid h
  clear h
  go_enter Try.func9, Try.ntmps9
  go_wp2
  go_loopw [7] (fun i wr => ∃ k : Nat, i = .int .i64 k ∧ k ≤ D.length ∧ Hid (Below w.heap.size w wr) ∧ Hid (∀ d ∈ D.take k, Dv.fewB d = true)) (fun i _ => D.length - (intOf i).toNat)
  case atStart => exact ⟨0, rfl, Nat.zero_le _, Lib.hid (Below.refl _ _), Lib.hid (fun d hd => (List.not_mem_nil hd).elim)⟩
  case round =>
    obtain ⟨k, rfl, hk, HW, HA⟩ := hrel
    by_cases hlt : k < D.length
    · obtain ⟨d, hd⟩ : ∃ d, D[k]? = some d := ⟨_, List.getElem?_eq_getElem hlt⟩
      have hdm : d ∈ D := List.mem_of_getElem? hd
      obtain ⟨b, o, rfl, hbl, hrr⟩ := rowG_range dv_len (HH.out.below HW.out).row hd
      have HNO := Lib.hid (show Dv.fewB d = false → fewB10 D = false from fun e => by
        have : D.all Dv.fewB = false := by
          rw [Bool.eq_false_iff]
          intro e2
          have := List.all_eq_true.1 e2 d hdm
          rw [e] at this; cases this
        unfold fewB10
        rw [this]; rfl)
      have HYES := Lib.hid (show Dv.fewB d = true → ∀ d' ∈ D.take (k + 1), Dv.fewB d' = true from fun e d' hd' => by
        rw [List.take_add_one, hd, Option.toList_some, List.mem_append, List.mem_singleton] at hd'
        rcases hd' with hd' | rfl
        · exact HA.out d' hd'
        · exact e)
      have htx := (HH.out.below HW.out).tx d hdm
      have HRR := Lib.hid hrr
      have H1 := Lib.hid (dv_one htx)
      have hb1 : Below wr.heap.size wr (wr.alloc (.cells d.cells.toArray 51)) := below_new (Below.refl _ _)
      have hcw := cmd_range (dv_msg (hold_range (Hold.new wr d.cells 51)))
      have HCW := Lib.hid hcw
      have HF := Lib.hid (few_one (w := wr.alloc (.cells d.cells.toArray 51)) (b := wr.heap.size + 1) (by simp) d.x.m.r.c (htx.1.below hb1) (htx.2.below hb1))
      have HB1 := Lib.hid (below_on (below_on HW.out hb1) (below_new (o := .cells #[.int .i64 d.x.m.r.c.k, .int .i64 d.x.m.r.c.tc, .int .i64 d.x.m.r.c.tn, .int .i64 d.x.m.r.c.tt, .int .i64 d.x.m.r.c.tk, .int .i64 d.x.m.r.c.sh, d.x.va, d.x.vb, .bool d.x.m.r.c.cm] 43) (Below.refl _ _)))
      obtain ⟨A1, c1, A2, c2, ea, eb⟩ := mv_slices (Txt.of (F := fun _ => False) htx.1 htx.2 (fun _ e => e.elim))
      have hk1 : (k : Int) < (D.length : Int) := by omega
      have HL := Lib.hid hlt
      obtain ⟨vb, kk, ⟨m, va, vb'⟩⟩ := d
      dsimp only at ea eb
      subst ea eb
      clear hd hdm hbl hrr htx hb1 hcw
      rcases hq : M.modB m.r.c with _ | _
      · have HQ := Lib.hid hq
        clear hq
        go_wp2_with (first
          | (with_reducible refine wpList_load_mid rfl 51 _ rfl b (o + k * 32) rfl _ _ HRR.out Try.underlying51 rfl (dv_size _) ?_)
          | (with_reducible refine wpList_store_fresh rfl 51 _ _ rfl wr.heap.size rfl 51 _ (Dv.cells ⟨vb, kk, ⟨m, .slice A1 m.r.c.rs.length c1, .slice A2 m.r.c.ws.length c2⟩⟩) rfl rfl rfl (dv_size _) H1.out ?_)
          | (with_reducible refine wpList_load_mid rfl 43 _ rfl wr.heap.size 14 rfl _ _ HCW.out Try.underlying43 rfl (by kernel_rfl) ?_)
          | (go_at_call 18; refine HF.out.mono ?_; rintro e w1 ⟨rfl, hb⟩; rw [HQ.out]; have HB2 := Lib.hid (below_on HB1.out hb); clear hb))
        go_ret
        exact ⟨by rw [HNO.out HQ.out]; rfl, HB2.out⟩
      · have HQ := Lib.hid hq
        clear hq
        go_wp2_with (first
          | (with_reducible refine wpList_load_mid rfl 51 _ rfl b (o + k * 32) rfl _ _ HRR.out Try.underlying51 rfl (dv_size _) ?_)
          | (with_reducible refine wpList_store_fresh rfl 51 _ _ rfl wr.heap.size rfl 51 _ (Dv.cells ⟨vb, kk, ⟨m, .slice A1 m.r.c.rs.length c1, .slice A2 m.r.c.ws.length c2⟩⟩) rfl rfl rfl (dv_size _) H1.out ?_)
          | (with_reducible refine wpList_load_mid rfl 43 _ rfl wr.heap.size 14 rfl _ _ HCW.out Try.underlying43 rfl (by kernel_rfl) ?_)
          | (go_at_call 18; refine HF.out.mono ?_; rintro e w1 ⟨rfl, hb⟩; rw [HQ.out]; have HB2 := Lib.hid (below_on HB1.out hb); clear hb))
        go_roundw
        case rel => exact ⟨k + 1, by go_num, hlt, HB2, Lib.hid (HYES.out HQ.out)⟩
        case measure => simp [intOf]; omega
    · obtain rfl : k = D.length := by omega
      have HE := Lib.hid (show fewB10 D = decide (D.length ≤ 40) from by
        unfold fewB10
        rw [List.all_eq_true.2 (fun d hd => HA.out d (by rw [List.take_length]; exact hd)), Bool.true_and])
      go_wp2
      go_ret
      exact ⟨by rw [HE.out]; first | rfl | (simp; omega), HW.out⟩
end Go.Proofs.Ytnahboflpipfpaa
