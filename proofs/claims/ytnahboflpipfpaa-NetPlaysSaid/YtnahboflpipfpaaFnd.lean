/- Contract of Find of a net; no conditions but those that it names. -/
import Derived.Test.YtnahboflpipfpaaSnd
import Derived.BigQuiet
import Derived.Deep.QuietTactic
namespace Go.Proofs.Ytnahboflpipfpaa
open Go.ChangeShapes Go.WideShapes Go.ChangeAt Go.RowKit

/-- Is a message from one to another one? -/
def hitB (m : M.Msg) (f t : Int) : Bool := decide (m.fr = f) && decide (m.to = t)
def hitAt (l : List M.Msg) (f t : Int) (i : Nat) : Bool := hitB (l.getD i Mv.zero.m) f t
/-- The place of the first such, or none. -/
def FndAt (l : List M.Msg) (f t : Int) (r : Int) : Prop := (∃ i : Nat, r = i ∧ i < l.length ∧ hitAt l f t i = true ∧ ∀ j, j < i → hitAt l f t j = false) ∨ (r = -1 ∧ ∀ j, j < l.length → hitAt l f t j = false)
theorem FndAt.one {l : List M.Msg} {f t r r' : Int} (h : FndAt l f t r) (h' : FndAt l f t r') : r = r' := by
  rcases h with ⟨i, rfl, hi, h1, h2⟩ | ⟨rfl, h2⟩ <;> rcases h' with ⟨j, rfl, hj, g1, g2⟩ | ⟨rfl, g2⟩
  · rcases Nat.lt_trichotomy i j with e | e | e
    · rw [g2 i e] at h1; cases h1
    · rw [e]
    · rw [h2 j e] at g1; cases g1
  · rw [g2 i hi] at h1; cases h1
  · rw [h2 j hj] at g1; cases g1
  · rfl
set_option maxHeartbeats 2000000 in
set_option maxRecDepth 100000 in
theorem hit_any {w : World} {p b4 b5 : Nat} {x : Mv} {f t : Int} (h : Hold w p 49 x.cells) (c4 : w.cell? ⟨b4, 0, none⟩ = some (.int .i64 f)) (c5 : w.cell? ⟨b5, 0, none⟩ = some (.int .i64 t)) :
    Calls Try.prog 33 #[.pointer (some ⟨p, 0, none⟩), .pointer (some ⟨b4, 0, none⟩), .pointer (some ⟨b5, 0, none⟩)] w fun e w' => e = .returned (.bool (hitB x.m f t)) ∧ ∃ n, w' = w.drewN n := by
  have c1 : w.cell? ⟨p, 1, none⟩ = some (.int .i64 x.m.fr) := hold_cell h 1 rfl
  have c2 : w.cell? ⟨p, 2, none⟩ = some (.int .i64 x.m.to) := hold_cell h 2 rfl
  unfold hitB
  clear h
  generalize x.m.fr = a at *
  generalize x.m.to = b at *
  by_cases h1 : a = f
  · have q1 : decide (a = f) = true := by simpa using h1
    have q2 : ((a : Int) == f) = true := by simpa using h1
    rw [q1]
    clear h1
    go_enter Try.func33, Try.ntmps33
    go_wp2
    go_quiet ((fail))
    go_wp2
    go_ret
    exact ⟨rfl, _, rfl⟩
  · have q1 : decide (a = f) = false := by simpa using h1
    have q2 : ((a : Int) == f) = false := by simpa using h1
    rw [q1]
    clear h1
    go_enter Try.func33, Try.ntmps33
    go_wp2
    go_quiet ((fail))
    go_wp2
    go_ret
    exact ⟨rfl, _, rfl⟩
/-- What Find answers. -/
def Fnd (l : List M.Msg) (f t : Int) (w : World) (e : Ending) (w' : World) : Prop := ∃ r, e = .returned (.int .i64 r) ∧ FndAt l f t r ∧ Below w.heap.size w w'
theorem FndAt.step {l : List M.Msg} {f t : Int} {k : Nat} (h : ∀ j, j < k → hitAt l f t j = false) (hk : hitAt l f t k = false) : ∀ j, j < k + 1 → hitAt l f t j = false := fun j hj => by
  by_cases e : j = k
  · rw [e]; exact hk
  · exact h j (by omega)
set_option maxHeartbeats 4000000 in
set_option maxRecDepth 100000 in
theorem index_any {w : World} {g : Nat} {F : Nat → Prop} {s : St} {v : Value} {Y : List (Nat × Mv)} (h : NtY w g F s v Y) {b4 b5 : Nat} {f t : Int} (l4 : b4 < w.heap.size) (l5 : b5 < w.heap.size) (c4 : w.cell? ⟨b4, 0, none⟩ = some (.int .i64 f)) (c5 : w.cell? ⟨b5, 0, none⟩ = some (.int .i64 t)) (hl : s.ms.length ≤ 1000) :
    Calls Try.prog 32 #[v, .func (.func 33) #[] #[.pointer (some ⟨b4, 0, none⟩), .pointer (some ⟨b5, 0, none⟩)]] w (Fnd s.ms f t w) := by
  have HN := Lib.hid h
  obtain ⟨A, c, rfl, hc⟩ := rowN_sliceOf h.row
  rw [h.len]
  rw [h.len] at hc
  have C4 := Lib.hid c4
  have C5 := Lib.hid c5
  have HL := Lib.hid h.len
  clear h c4 c5
  go_enter Try.func32, Try.ntmps32
  go_wp2
  go_loopw [8] (fun i wr => ∃ j : Nat, j ≤ s.ms.length ∧ i = .int .i64 j ∧ Hid (Below w.heap.size w wr) ∧ Hid (∀ q, q < j → hitAt s.ms f t q = false)) (fun i _ => s.ms.length - (intOf i).toNat)
  case atStart => exact ⟨0, Nat.zero_le _, rfl, Lib.hid (Below.refl _ _), Lib.hid (fun q hq => absurd hq (by omega))⟩
  case round =>
    obtain ⟨j, hj, rfl, BW, HA⟩ := hrel
    by_cases hlt : j < s.ms.length
    · obtain ⟨b, o, c', ⟨p, x⟩, ev, hb, hcell, hp, hx⟩ := HN.out.at hlt
      have hA := (Value.slice.inj ev).1
      subst hA
      have hit : hitAt s.ms f t j = hitB x.m f t := by
        unfold hitAt
        rw [List.getD, List.getElem?_eq_getElem hlt]
        dsimp only at hx
        rw [hx]; rfl
      have cp := (BW.out.cell (p := ⟨b, o + j, none⟩) hb).trans hcell
      dsimp only [ptrV] at cp
      have CL := Lib.hid (hit_any (w := wr) (p := p) (x := x) (f := f) (t := t) (hp.hold.on BW.out) ((BW.out.cell (p := ⟨b4, 0, none⟩) l4).trans C4.out) ((BW.out.cell (p := ⟨b5, 0, none⟩) l5).trans C5.out))
      have HI := Lib.hid hit
      have hj1 : (j : Int) < (s.ms.length : Int) := by omega
      clear hcell hp hx ev hit hb
      rcases hq : hitB x.m f t with _ | _
      · have HQ := Lib.hid (HI.out.trans hq)
        have HE := Lib.hid hq
        clear hq
        go_wp2_with (fail)
        refine CL.out.mono ?_
        rintro e w1 ⟨rfl, n, rfl⟩
        rw [HE.out]
        go_wp2
        go_roundw
        case rel => exact ⟨j + 1, by omega, by go_num, Lib.hid (below_on BW.out (below_drewN' _ _)), Lib.hid (FndAt.step HA.out HQ.out)⟩
        case measure => simp [intOf]; omega
      · have HQ := Lib.hid (HI.out.trans hq)
        have HE := Lib.hid hq
        clear hq
        go_wp2_with (fail)
        refine CL.out.mono ?_
        rintro e w1 ⟨rfl, n, rfl⟩
        rw [HE.out]
        go_wp2
        go_ret
        exact ⟨_, rfl, .inl ⟨j, rfl, hlt, HQ.out, HA.out⟩, below_on BW.out (below_drewN' _ _)⟩
    · go_wp2
      go_ret
      exact ⟨_, rfl, .inr ⟨rfl, fun q hq => HA.out q (by omega)⟩, BW.out⟩
theorem find_nil (f t : Int) (w : World) : Calls Try.prog 17 #[.pointer none, .int .i64 f, .int .i64 t] w fun e w' => e = .returned (.int .i64 (-1)) ∧ Below w.heap.size w w' := by
  have B0 := Lib.hid (below_new (o := .cells #[.int .i64 t] 3) (below_new (o := .cells #[.int .i64 f] 3) (Below.refl w.heap.size w)))
  go_enter Try.func17, Try.ntmps17
  go_wp2
  go_ret
  exact ⟨rfl, B0.out⟩
set_option maxHeartbeats 4000000 in
set_option maxRecDepth 100000 in
theorem find_any {w : World} {g : Nat} {F : Nat → Prop} {s : St} (h : Nt w g F s) (hl : s.ms.length ≤ 1000) (f t : Int) : Calls Try.prog 17 #[ptrV g, .int .i64 f, .int .i64 t] w (Fnd s.ms f t w) := by
  have B0 := Lib.hid (below_new (o := .cells #[.int .i64 t] 3) (below_new (o := .cells #[.int .i64 f] 3) (Below.refl w.heap.size w)))
  obtain ⟨v, Y, q⟩ := h.below B0.out
  have c4 := hold_cell q.blk 4 rfl
  have c0 := hold_cell (Hold.new w [.int .i64 f] 3 |>.on (below_new (o := .cells #[.int .i64 t] 3) (Below.refl _ _))) 0 rfl
  have c1 : ((w.alloc (.cells #[.int .i64 f] 3)).alloc (.cells #[.int .i64 t] 3)).cell? ⟨w.heap.size + 1, 0, none⟩ = some (.int .i64 t) := by
    simp
  have HQ := Lib.hid (index_any q (by simp; omega) (by simp) c0 c1 hl)
  unfold ptrV
  clear h q c0 c1
  go_enter Try.func17, Try.ntmps17
  go_wp2_with (fail)
  refine HQ.out.mono ?_
  rintro e w1 ⟨r, rfl, hr, hb⟩
  have HR := Lib.hid hr
  have HB := Lib.hid (below_on B0.out hb)
  clear hr hb
  go_wp2
  go_ret
  exact ⟨r, rfl, HR.out, HB.out⟩
end Go.Proofs.Ytnahboflpipfpaa
