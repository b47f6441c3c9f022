/- A disk in memory; contracts of the functions that only read it, of hold and Sync; no conditions but what may be. -/
import Derived.Test.YtpdknamdladgnaaByt
import Derived.IntWalk
namespace Go.Proofs.Ytpdknamdladgnaa
open Go.RowKit

/-- A number in a box of one's own, or none. -/
def OwnU (F : Nat → Prop) (w : World) (u : Value) : Prop := u = .pointer none ∨ ∃ p m, u = .pointer (some ⟨p, 0, none⟩) ∧ F p ∧ w.heap[p]? = some (.cells #[.int .i64 m] 3 (0, 0))
theorem OwnU.keeps' {F G : Nat → Prop} {w w' : World} {u : Value} (h : OwnU F w u) (hb : Keeps G w w') (hg : ∀ p, u = .pointer (some ⟨p, 0, none⟩) → ¬ G p) : OwnU F w' u := by
  rcases h with h | ⟨p, m, rfl, hf, hh⟩
  · exact .inl h
  · exact .inr ⟨p, m, rfl, hf, (hb.block p (Array.getElem?_eq_some_iff.1 hh).1 (hg p rfl)).trans hh⟩
theorem OwnU.keeps {F G : Nat → Prop} {w w' : World} {u : Value} (h : OwnU F w u) (hb : Keeps G w w') (hg : ∀ x, F x → ¬ G x) : OwnU F w' u := by
  rcases h with h | ⟨p, m, rfl, hf, hh⟩
  · exact .inl h
  · exact .inr ⟨p, m, rfl, hf, (hb.block p (Array.getElem?_eq_some_iff.1 hh).1 (hg p hf)).trans hh⟩
theorem OwnU.wide {F G : Nat → Prop} {w : World} {u : Value} (h : OwnU F w u) (hg : ∀ x, F x → G x) : OwnU G w u := by
  rcases h with h | ⟨p, m, e, hf, r⟩
  · exact .inl h
  · exact .inr ⟨p, m, e, hg _ hf, r⟩

/-- The block of a disk. -/
def Cells (w : World) (g : Nat) (z : Int) (v : Value) (k : Int) (u : Value) : Prop := w.heap[g]? = some (.cells #[.int .i64 z, v, .int .i64 k, u] 52 (0, 0))
theorem Cells.lt {w : World} {g : Nat} {z k : Int} {v u : Value} (h : Cells w g z v k u) : g < w.heap.size := (Array.getElem?_eq_some_iff.1 h).1
theorem Cells.at_ {w : World} {g : Nat} {z k : Int} {v u : Value} (h : Cells w g z v k u) : w.cell? ⟨g, 0, none⟩ = some (.int .i64 z) ∧ w.cell? ⟨g, 1, none⟩ = some v ∧ w.cell? ⟨g, 2, none⟩ = some (.int .i64 k) ∧ w.cell? ⟨g, 3, none⟩ = some u := by
  unfold Cells at h
  simp [World.cell?, h]
theorem Cells.unfrozen {w : World} {g : Nat} {z k : Int} {v u : Value} (h : Cells w g z v k u) (i : Nat) : w.frozen? ⟨g, i, none⟩ = false := frozen_of_row w g i _ 52 h
theorem Cells.keeps {w w' : World} {g : Nat} {z k : Int} {v u : Value} {F : Nat → Prop} (h : Cells w g z v k u) (hb : Keeps F w w') (hf : ¬ F g) : Cells w' g z v k u := (hb.block g h.lt hf).trans h
theorem Cells.below {w w' : World} {g : Nat} {z k : Int} {v u : Value} (h : Cells w g z v k u) (hb : Below w.heap.size w w') : Cells w' g z v k u := (hb.block g h.lt).trans h
theorem Cells.set1 {w : World} {g : Nat} {z k : Int} {v u : Value} (h : Cells w g z v k u) (x : Value) : Cells (w.setCell ⟨g, 1, none⟩ x) g z x k u := by
  unfold Cells at h ⊢
  rw [heap_setCell_same w g 1 _ 52 _ h]; rfl
theorem Cells.set2 {w : World} {g : Nat} {z k : Int} {v u : Value} (h : Cells w g z v k u) (x : Int) : Cells (w.setCell ⟨g, 2, none⟩ (.int .i64 x)) g z v x u := by
  unfold Cells at h ⊢
  rw [heap_setCell_same w g 2 _ 52 _ h]; rfl
theorem Cells.set3 {w : World} {g : Nat} {z k : Int} {v u : Value} (h : Cells w g z v k u) (x : Value) : Cells (w.setCell ⟨g, 3, none⟩ x) g z v k x := by
  unfold Cells at h ⊢
  rw [heap_setCell_same w g 3 _ 52 _ h]; rfl
theorem Cells.apart {w : World} {g : Nat} {z k : Int} {v u : Value} (h : Cells w g z v k u) {F : Nat → Prop} {r : Value} {xs : List UInt8} (hr : OwnB F w r xs) : r.ownBlock ≠ some g := by
  rcases hr with ⟨rfl, _⟩ | ⟨b, cap, cur, rfl, _, hh, _⟩
  · simp [Value.ownBlock]
  · intro e
    simp only [Value.ownBlock, Option.some.injEq] at e
    subst e
    unfold Cells at h
    rw [hh] at h
    simp at h
theorem Cells.apartU {w : World} {g : Nat} {z k : Int} {v u : Value} (h : Cells w g z v k u) {F : Nat → Prop} {r : Value} (hr : OwnU F w r) : r ≠ .pointer (some ⟨g, 0, none⟩) := by
  rcases hr with rfl | ⟨p, m, rfl, _, hh⟩
  · simp
  · intro e
    simp only [Value.pointer.injEq, Option.some.injEq, Addr.mk.injEq] at e
    obtain ⟨rfl, _⟩ := e
    unfold Cells at h
    rw [hh] at h
    simp at h

/-- A disk, its parts named. -/
structure Dk (w : World) (g : Nat) (F : Nat → Prop) (s : M.St) (v u : Value) : Prop where
  blk : Cells w g s.z v s.k u
  row : OwnB F w v s.bs
  box : OwnU F w u
  own : F g
  lt : ∀ x, F x → x < w.heap.size
  ok : M.Ok s
/-- A disk whose memory is F. -/
def Disk (w : World) (g : Nat) (F : Nat → Prop) (s : M.St) : Prop := ∃ v u, Dk w g F s v u
theorem Disk.keeps {w w' : World} {g : Nat} {F G : Nat → Prop} {s : M.St} (h : Disk w g F s) (hb : Keeps G w w') (hg : ∀ x, F x → ¬ G x) : Disk w' g F s := by
  obtain ⟨v, u, h⟩ := h
  exact ⟨v, u, h.blk.keeps hb (hg g h.own), h.row.keeps hb hg, h.box.keeps hb hg, h.own, fun x e => Nat.lt_of_lt_of_le (h.lt x e) hb.size, h.ok⟩
theorem Disk.below {w w' : World} {g : Nat} {F : Nat → Prop} {s : M.St} (h : Disk w g F s) (hb : Below w.heap.size w w') : Disk w' g F s := h.keeps (Keeps.of_below (F := fun _ => False) hb) fun _ _ e => e
theorem Disk.lt {w : World} {g : Nat} {F : Nat → Prop} {s : M.St} (h : Disk w g F s) : ∀ x, F x → x < w.heap.size := by
  obtain ⟨v, u, h⟩ := h
  exact h.lt
theorem Disk.ok {w : World} {g : Nat} {F : Nat → Prop} {s : M.St} (h : Disk w g F s) : M.Ok s := by
  obtain ⟨v, u, h⟩ := h
  exact h.ok

/-- What a disk has grown by. -/
def Grew (F F' : Nat → Prop) (w w' : World) : Prop := (∀ x, F' x → F x ∨ w.heap.size ≤ x) ∧ ∀ x, F' x → x < w'.heap.size
/-- A step of a disk that tells x. -/
def Stept (x : Ending) (w : World) (g : Nat) (F : Nat → Prop) (s : M.St) (e : Ending) (w' : World) : Prop := e = x ∧ ∃ F', Disk w' g F' s ∧ Keeps F w w' ∧ Grew F F' w w'

set_option maxHeartbeats 400000 in
theorem safe_any {w : World} {g : Nat} {F : Nat → Prop} {s : M.St} (h : Disk w g F s) : Calls Try.prog 17 #[.pointer (some ⟨g, 0, none⟩)] w fun e w' => e = .returned (.int .i64 s.k) ∧ w = w' := by
  obtain ⟨v, u, h⟩ := h
  obtain ⟨c0, c1, c2, c3⟩ := h.blk.at_
  clear h
  go_enter Try.func17, Try.ntmps17
  go_wp2
  go_ret
  exact ⟨rfl, rfl⟩
/-- The parts of a disk turned: its block written, all else as it was. -/
theorem dk_step {w w' : World} {g : Nat} {F F' : Nat → Prop} {s' : M.St} {v' u' : Value} (hb : Cells w' g s'.z v' s'.k u') (hk : Keeps F w w') (hv : OwnB F' w' v' s'.bs) (hu : OwnU F' w' u') (hg : Grew F F' w w') (hF : F' g) (ho : M.Ok s') : ∃ F', Disk w' g F' s' ∧ Keeps F w w' ∧ Grew F F' w w' :=
  ⟨F', ⟨v', u', hb, hv, hu, hF, hg.2, ho⟩, hk, hg⟩
theorem Grew.refl {F : Nat → Prop} {w : World} (h : ∀ x, F x → x < w.heap.size) {w' : World} (hs : w.heap.size ≤ w'.heap.size) : Grew F F w w' := ⟨fun _ e => .inl e, fun x e => Nat.lt_of_lt_of_le (h x e) hs⟩
/-- A store into the disk's own block. -/
theorem Dk.keep1 {w : World} {g : Nat} {F : Nat → Prop} {s : M.St} {v u : Value} (h : Dk w g F s v u) (i : Nat) (x : Value) : Keeps F w (w.setCell ⟨g, i, none⟩ x) ∧ Keeps (fun y => y = g) w (w.setCell ⟨g, i, none⟩ x) :=
  ⟨(Keeps.refl F w).setCell (p := ⟨g, i, none⟩) (.inl h.own) x, (Keeps.refl (fun y => y = g) w).setCell (p := ⟨g, i, none⟩) (.inl rfl) x⟩
theorem size_set (w : World) (p : Addr) (x : Value) : (w.setCell p x).heap.size = w.heap.size := by simp [World.setCell]

set_option maxHeartbeats 400000 in
theorem sync_any {w : World} {g : Nat} {F : Nat → Prop} {s : M.St} (h : Disk w g F s) : Calls Try.prog 22 #[.pointer (some ⟨g, 0, none⟩)] w (Stept (.returned (.tuple #[])) w g F (M.syn s)) := by
  obtain ⟨v, u, h⟩ := h
  obtain ⟨c0, c1, c2, c3⟩ := h.blk.at_
  have f2 := h.blk.unfrozen 2
  obtain ⟨A, c, rfl, hc⟩ := h.row.slice
  have H := Lib.hid h
  clear h
  go_enter Try.func22, Try.ntmps22
  go_wp2
  go_end0
  have h := H.out
  have hk := h.keep1 2 (.int .i64 s.bs.length)
  refine ⟨rfl, dk_step (s' := M.syn s) (F' := F) (h.blk.set2 _) hk.1 (h.row.keeps' hk.2 fun b e eg => h.blk.apart h.row (by rw [e, eg])) (h.box.keeps' hk.2 fun p e eg => h.blk.apartU h.box (by rw [e, eg])) (Grew.refl h.lt (by rw [size_set]; exact Nat.le_refl _)) h.own h.ok.syn⟩
set_option maxHeartbeats 400000 in
theorem bytes_any {w : World} {g : Nat} {F : Nat → Prop} {s : M.St} (h : Disk w g F s) : Calls Try.prog 16 #[.pointer (some ⟨g, 0, none⟩)] w (Copied w s.bs) := by
  have ho := h.ok
  obtain ⟨v, u, h⟩ := h
  obtain ⟨c0, c1, c2, c3⟩ := h.blk.at_
  have hb := copied_any h.row.bts (by have := ho.1; have := ho.2.1; omega)
  have HB := Lib.hid hb
  clear h hb ho
  go_enter Try.func16, Try.ntmps16
  go_wp2_with (fail)
  refine HB.out.mono ?_
  rintro e w1 ⟨rfl, h1, h2⟩
  go_wp2
  go_ret
  exact ⟨rfl, h1, h2⟩
set_option maxHeartbeats 400000 in
theorem room_any {w : World} {g : Nat} {F : Nat → Prop} {s : M.St} (h : Disk w g F s) : Calls Try.prog 25 #[.pointer (some ⟨g, 0, none⟩)] w fun e w' => e = .returned (.int .i64 ((s.z : Int) - s.bs.length)) ∧ Below w.heap.size w w' := by
  have ho1 := h.ok.1
  have ho2 := h.ok.2.1
  obtain ⟨v, u, h⟩ := h
  obtain ⟨c0, c1, c2, c3⟩ := h.blk.at_
  obtain ⟨A, c, rfl, hc⟩ := h.row.slice
  clear h
  have e1 : IntKind.i64.wrap ((s.z : Int) - (s.bs.length : Int)) = (s.z : Int) - (s.bs.length : Int) := IntWalk.i64_in _ (by omega)
  go_enter Try.func25, Try.ntmps25
  go_wp2
  go_quiet (fail)
  go_wp2
  go_ret
  exact ⟨rfl, below_drewN (Below.refl _ _) _⟩
set_option maxHeartbeats 400000 in
/-- A disk that is not there. -/
theorem safe_none (w : World) : Calls Try.prog 17 #[.pointer none] w fun e w' => e = .returned (.int .i64 0) ∧ w = w' := by
  go_enter Try.func17, Try.ntmps17
  go_wp2
  go_ret
  exact ⟨rfl, rfl⟩
set_option maxHeartbeats 400000 in
theorem sync_none (w : World) : Calls Try.prog 22 #[.pointer none] w fun e w' => e = .returned (.tuple #[]) ∧ w = w' := by
  go_enter Try.func22, Try.ntmps22
  go_wp2
  go_end0
  exact ⟨rfl, rfl⟩
set_option maxHeartbeats 400000 in
theorem bytes_none (w : World) : Calls Try.prog 16 #[.pointer none] w fun e w' => e = .returned (.slice none 0 0) ∧ w = w' := by
  go_enter Try.func16, Try.ntmps16
  go_wp2
  go_ret
  exact ⟨rfl, rfl⟩
set_option maxHeartbeats 400000 in
theorem room_none (w : World) : Calls Try.prog 25 #[.pointer none] w fun e w' => e = .returned (.int .i64 0) ∧ w = w' := by
  go_enter Try.func25, Try.ntmps25
  go_wp2
  go_ret
  exact ⟨rfl, rfl⟩
set_option maxHeartbeats 400000 in
theorem append_none (v : Value) (w : World) : Calls Try.prog 21 #[.pointer none, v] w fun e w' => e = .returned (.int .i64 1) ∧ w = w' := by
  go_enter Try.func21, Try.ntmps21
  go_wp2
  go_ret
  exact ⟨rfl, rfl⟩
set_option maxHeartbeats 400000 in
theorem cut_none (v : Value) (w : World) : Calls Try.prog 23 #[.pointer none, v] w fun e w' => e = .returned (.int .i64 1) ∧ w = w' := by
  go_enter Try.func23, Try.ntmps23
  go_wp2
  go_ret
  exact ⟨rfl, rfl⟩
set_option maxHeartbeats 400000 in
theorem replace_none (v : Value) (w : World) : Calls Try.prog 24 #[.pointer none, v] w fun e w' => e = .returned (.int .i64 1) ∧ w = w' := by
  go_enter Try.func24, Try.ntmps24
  go_wp2
  go_ret
  exact ⟨rfl, rfl⟩
set_option maxHeartbeats 400000 in
theorem crash_none (v x y : Value) (w : World) : Calls Try.prog 18 #[.pointer none, v, x, y] w fun e w' => e = .returned (.tuple #[]) ∧ w = w' := by
  go_enter Try.func18, Try.ntmps18
  go_wp2
  refine bodyPost_ret (results_none rfl _ _ _) rfl ?_
  exact ⟨rfl, rfl⟩
set_option maxHeartbeats 400000 in
theorem copy_none (w : World) : Calls Try.prog 20 #[.pointer none] w fun e w' => e = .returned (.pointer none) ∧ w = w' := by
  go_enter Try.func20, Try.ntmps20
  go_wp2
  go_ret
  exact ⟨rfl, rfl⟩
set_option maxHeartbeats 400000 in
theorem new_bad (n : Int) (w : World) (h : ¬ (0 ≤ n ∧ n ≤ 1048576)) : Calls Try.prog 12 #[.int .i64 n] w fun e w' => e = .returned (.pointer none) ∧ w = w' := by
  by_cases h0 : n < 0
  · have q1 : decide (n < 0) = true := by simpa using h0
    clear h
    go_enter Try.func12, Try.ntmps12
    go_wp2
    go_ret
    exact ⟨rfl, rfl⟩
  · have h1 : 1048576 < n := by omega
    have q1 : decide (n < 0) = false := by simpa using h0
    clear h h0
    go_enter Try.func12, Try.ntmps12
    go_wp2
    go_ret
    exact ⟨rfl, rfl⟩
/-- A new disk. -/
def NewD (n : Nat) (w : World) (e : Ending) (w' : World) : Prop := e = .returned (.pointer (some ⟨w.heap.size, 0, none⟩)) ∧ Disk w' w.heap.size (fun x => x = w.heap.size) (M.nil n) ∧ Below w.heap.size w w'
set_option maxHeartbeats 400000 in
theorem new_any (n : Nat) (w : World) (h : n ≤ 1048576) : Calls Try.prog 12 #[.int .i64 n] w (NewD n w) := by
  go_enter Try.func12, Try.ntmps12
  go_wp2
  go_ret
  exact ⟨rfl, ⟨_, _, heap_alloc_new w _, OwnB.nil _ _, .inl rfl, rfl, fun x e => by simp [e], M.ok_nil h⟩, below_new (Below.refl _ _)⟩
set_option maxHeartbeats 400000 in
theorem hold_any {w : World} {g : Nat} {F : Nat → Prop} {s : M.St} {b : Nat} {xs : List UInt8} (h : Disk w g F s) (hb : Blk w b xs) (hg : g ≠ b) (hl : xs.length ≤ s.z) : Calls Try.prog 33 #[.pointer (some ⟨g, 0, none⟩), .slice (some ⟨b, 0, none⟩) xs.length xs.length] w
    fun e w' => e = .returned (.tuple #[]) ∧ Disk w' g (fun x => x = g ∨ x = b) ⟨s.z, xs, xs.length⟩ ∧ Keeps (fun x => x = g) w w' := by
  have ho := h.ok
  obtain ⟨v, u, h⟩ := h
  obtain ⟨c0, c1, c2, c3⟩ := h.blk.at_
  have f1 := h.blk.unfrozen 1
  have f2 := h.blk.unfrozen 2
  have f3 := h.blk.unfrozen 3
  have H := Lib.hid h
  have HB := Lib.hid hb
  have HG := Lib.hid hg
  clear h hb hg
  go_enter Try.func33, Try.ntmps33
  go_wp2
  go_end0
  have k := (((Keeps.refl (fun x => x = g) w).setCell (p := ⟨g, 1, none⟩) (.inl rfl) (.slice (some ⟨b, 0, none⟩) xs.length xs.length)).setCell (p := ⟨g, 2, none⟩) (.inl rfl) (.int .i64 xs.length)).setCell (p := ⟨g, 3, none⟩) (.inl rfl) (.pointer none)
  exact ⟨rfl, ⟨_, _, ((H.out.blk.set1 _).set2 _).set3 _, (HB.out.keeps k HG.out.symm).own (.inr rfl), .inl rfl, .inl rfl, fun x e => by
    have h1 := H.out.blk.lt
    have h2 := HB.out.lt
    simp only [size_set]
    rcases e with rfl | rfl <;> assumption, ⟨hl, ho.2.1, Nat.le_refl _⟩⟩, k⟩
end Go.Proofs.Ytpdknamdladgnaa
