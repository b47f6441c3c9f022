/- Contracts of fence and Append; no conditions but what may be, and the lengths that they name. -/
import Derived.Test.YtpdknamdladgnaaDk
import Derived.Deep.RegionWith
namespace Go.Proofs.Ytpdknamdladgnaa
open Go.RowKit

/-- Behind fence: a disk whose bytes in use are counted. -/
def Fenced (w : World) (g : Nat) (F : Nat → Prop) (s : M.St) (e : Ending) (w' : World) : Prop :=
  e = .returned (.tuple #[]) ∧ ∃ F' v p m, Dk w' g F' s v (.pointer (some ⟨p, 0, none⟩)) ∧ F' p ∧ w'.heap[p]? = some (.cells #[.int .i64 m] 3 (0, 0)) ∧ Keeps F w w' ∧ Grew F F' w w'

theorem fenced_new {w : World} {g : Nat} {F : Nat → Prop} {s : M.St} {A : Option Addr} {c : Nat} {u : Value} (h : Dk w g F s (.slice A s.bs.length c) u) (hc : s.bs.length ≤ c) :
    Fenced w g F s (.returned (.tuple #[])) (((w.setCell ⟨g, 1, none⟩ (.slice A s.bs.length s.bs.length)).setCell ⟨g, 3, none⟩ (.pointer (some ⟨w.heap.size, 0, none⟩))).alloc (.cells #[.int .i64 0] 3)) := by
  obtain ⟨W, hW⟩ : ∃ W, W = (((w.setCell ⟨g, 1, none⟩ (.slice A s.bs.length s.bs.length)).setCell ⟨g, 3, none⟩ (.pointer (some ⟨w.heap.size, 0, none⟩))).alloc (.cells #[.int .i64 0] 3)) := ⟨_, rfl⟩
  rw [← hW]
  have hgl := h.blk.lt
  have k1 : Keeps (fun y => y = g) w W := by
    rw [hW]; exact (((Keeps.refl (fun y => y = g) w).setCell (p := ⟨g, 1, none⟩) (.inl rfl) _).setCell (p := ⟨g, 3, none⟩) (.inl rfl) _).alloc _
  have hsz : W.heap.size = w.heap.size + 1 := by rw [hW]; simp
  have hb : Cells W g s.z (.slice A s.bs.length s.bs.length) s.k (.pointer (some ⟨w.heap.size, 0, none⟩)) := by
    rw [hW]
    exact ((h.blk.set1 _).set3 _).below (below_new (Below.refl _ _))
  have hp : W.heap[w.heap.size]? = some (.cells #[.int .i64 0] 3 (0, 0)) := by
    rw [hW]
    have := heap_alloc_new ((w.setCell ⟨g, 1, none⟩ (.slice A s.bs.length s.bs.length)).setCell ⟨g, 3, none⟩ (.pointer (some ⟨w.heap.size, 0, none⟩))) (.cells #[.int .i64 0] 3)
    rw [size_set, size_set] at this
    exact this
  have hr : OwnB F W (.slice A s.bs.length s.bs.length) s.bs := by
    have := (h.row.keeps' k1 fun b e eg => h.blk.apart h.row (by rw [e, eg])).cut (m := s.bs.length) (c' := s.bs.length) (Nat.le_refl _) (Nat.le_refl _) hc
    rwa [List.take_length] at this
  exact ⟨rfl, fun x => F x ∨ x = w.heap.size, _, w.heap.size, 0, ⟨hb, hr.wide fun _ e => .inl e, .inr ⟨_, 0, rfl, .inr rfl, hp⟩, .inl h.own, fun x e => by
      rcases e with e | rfl
      · have := h.lt x e; omega
      · omega, h.ok⟩, .inr rfl, hp, k1.wide fun x _ e => e ▸ h.own, fun x e => e.imp id (fun e => by omega), fun x e => by
      rcases e with e | rfl
      · have := h.lt x e; omega
      · omega⟩

set_option maxHeartbeats 1000000 in
theorem fence_any {w : World} {g : Nat} {F : Nat → Prop} {s : M.St} (h : Disk w g F s) : Calls Try.prog 34 #[.pointer (some ⟨g, 0, none⟩)] w (Fenced w g F s) := by
  obtain ⟨v, u, h⟩ := h
  obtain ⟨A, c, rfl, hc⟩ := h.row.slice
  obtain ⟨c0, c1, c2, c3⟩ := h.blk.at_
  have f1 := h.blk.unfrozen 1
  have f3 := h.blk.unfrozen 3
  have H := Lib.hid h
  have hg := h.blk.lt
  rcases h.box with rfl | ⟨p, m, rfl, hp, hh⟩
  · clear h
    go_enter Try.func34, Try.ntmps34
    go_wp2
    go_end0
    exact fenced_new H.out hc
  · have hne : g ≠ p := fun e => by have := h.blk; unfold Cells at this; rw [e, hh] at this; simp at this
    have b0 : w.cell? ⟨p, 0, none⟩ = some (.int .i64 m) := by simp [World.cell?, hh]
    have HH := Lib.hid hh
    have HP := Lib.hid hp
    have hpl : p < w.heap.size := (Array.getElem?_eq_some_iff.1 hh).1
    by_cases e : m = s.bs.length
    · subst e
      clear h hh hp hne
      go_enter Try.func34, Try.ntmps34
      go_wp2
      go_end0
      exact ⟨rfl, F, _, p, _, H.out, HP.out, HH.out, Keeps.refl _ _, Grew.refl H.out.lt (Nat.le_refl _)⟩
    · have q1 : (m == (s.bs.length : Int)) = false := by rw [beq_eq_false_iff_ne]; exact e
      have q2 : (m != (s.bs.length : Int)) = true := by rw [bne, q1]; rfl
      clear h hh hp hne e
      go_enter Try.func34, Try.ntmps34
      go_wp2
      go_end0
      exact fenced_new H.out hc
theorem box_apart {w : World} {p : Nat} {m : Int} {F : Nat → Prop} {v : Value} {xs : List UInt8} (hh : w.heap[p]? = some (.cells #[.int .i64 m] 3 (0, 0))) (h : OwnB F w v xs) : v.ownBlock ≠ some p := by
  intro e
  rcases h with ⟨rfl, _⟩ | ⟨b, cap, cur, rfl, _, h2, _⟩
  · simp [Value.ownBlock] at e
  · simp only [Value.ownBlock, Option.some.injEq] at e
    rw [← e, h2] at hh; simp at hh
theorem Dk.boxed {w : World} {g p : Nat} {F : Nat → Prop} {s : M.St} {v : Value} {m : Int} (h : Dk w g F s v (.pointer (some ⟨p, 0, none⟩))) (hh : w.heap[p]? = some (.cells #[.int .i64 m] 3 (0, 0))) : p ≠ g ∧ v.ownBlock ≠ some p := by
  refine ⟨fun e => ?_, box_apart hh h.row⟩
  have := h.blk
  unfold Cells at this
  rw [← e, hh] at this; simp at this

/-- The disk when the number of bytes in use is written. -/
theorem app_done {w w2 w3 W : World} {g p : Nat} {F F2 : Nat → Prop} {s : M.St} {v2 v3 : Value} {m m' : Int} {new : List UInt8} (hF : F g) (hs : w.heap.size ≤ w2.heap.size) (hd : Dk w2 g F2 s v2 (.pointer (some ⟨p, 0, none⟩))) (hp : F2 p) (hh : w2.heap[p]? = some (.cells #[.int .i64 m] 3 (0, 0))) (hk : Keeps F w w2) (hg : ∀ x, F2 x → F x ∨ w.heap.size ≤ x)
    (ho : OwnB (fun x => F2 x ∨ (w2.heap.size ≤ x ∧ x < w3.heap.size)) w3 v3 (s.bs ++ new)) (hgr : w2.grownBy w3 v2.ownBlock) (hok : M.Ok ⟨s.z, s.bs ++ new, s.k⟩) (hW : W.heap = (w3.setCell ⟨g, 1, none⟩ v3).heap) (ho' : W.os = w3.os) (ht' : W.tape = w3.tape) (hu' : W.output = w3.output) :
    ∃ F', Disk (W.setCell ⟨p, 0, none⟩ (.int .i64 m')) g F' ⟨s.z, s.bs ++ new, s.k⟩ ∧ Keeps F w (W.setCell ⟨p, 0, none⟩ (.int .i64 m')) ∧ Grew F F' w (W.setCell ⟨p, 0, none⟩ (.int .i64 m')) := by
  have hk3 : Keeps (fun x => v2.ownBlock = some x) w2 w3 := Keeps.of_grown hgr fun x e => e
  have hbx := hd.boxed hh
  have hb3 : Cells w3 g s.z v2 s.k (.pointer (some ⟨p, 0, none⟩)) := hd.blk.keeps hk3 (hd.blk.apart hd.row)
  have hh3 : w3.heap[p]? = some (.cells #[.int .i64 m] 3 (0, 0)) := (hk3.block p (Array.getElem?_eq_some_iff.1 hh).1 hbx.2).trans hh
  have a1 := hb3.apart ho
  have a2 := box_apart hh3 ho
  have kW : Keeps (fun x => x = g) w3 W := by
    have := (Keeps.refl (fun x => x = g) w3).setCell (p := ⟨g, 1, none⟩) (.inl rfl) v3
    exact ⟨ho', ht', hu', by rw [hW]; exact this.size, fun k hk hf => by rw [hW]; exact this.block k hk hf⟩
  have hbW : Cells W g s.z v3 s.k (.pointer (some ⟨p, 0, none⟩)) := by
    unfold Cells
    rw [hW]
    exact hb3.set1 v3
  have hhW : W.heap[p]? = some (.cells #[.int .i64 m] 3 (0, 0)) := (kW.block p (Array.getElem?_eq_some_iff.1 hh3).1 hbx.1).trans hh3
  have kp := (Keeps.refl (fun x => x = p) W).setCell (p := ⟨p, 0, none⟩) (.inl rfl) (.int .i64 m')
  have hsz : (W.setCell ⟨p, 0, none⟩ (.int .i64 m')).heap.size = w3.heap.size := by rw [size_set, hW, size_set]
  have hF2 : ∀ x, F2 x → x < w3.heap.size := fun x e => Nat.lt_of_lt_of_le (hd.lt x e) hk3.size
  refine ⟨fun x => F2 x ∨ (w2.heap.size ≤ x ∧ x < w3.heap.size), ⟨v3, .pointer (some ⟨p, 0, none⟩), hbW.keeps kp (fun e => hbx.1 e.symm), (ho.keeps' kW fun b e eg => a1 (by rw [e, eg])).keeps' kp fun b e eg => a2 (by rw [e, eg]), ?_, .inl hd.own, ?_, hok⟩, ?_, ?_, ?_⟩
  · refine .inr ⟨p, m', rfl, .inl hp, ?_⟩
    rw [heap_setCell_same W p 0 _ 3 _ hhW]; rfl
  · intro x e
    rw [hsz]
    exact e.elim (hF2 x) (fun e => e.2)
  · refine ((hk.trans hk3 fun x hx e => ?_).trans kW fun x hx e => ?_).trans kp fun x hx e => ?_
    · exact (hg x (hd.row.in_ x e)).resolve_right (by omega)
    · exact e ▸ hF
    · exact (hg x (e ▸ hp)).resolve_right (by omega)
  · intro x e
    rcases e with e | e
    · exact hg x e
    · exact .inr (by omega)
  · intro x e
    rw [hsz]
    exact e.elim (hF2 x) (fun e => e.2)

set_option maxHeartbeats 1000000 in
theorem appendD_any {w : World} {g : Nat} {F : Nat → Prop} {s : M.St} {uv : Value} {new : List UInt8} (h : Disk w g F s) (hu : Bts w uv new) (hin : new ≠ [] → In (fun x => ¬ F x) uv) : Calls Try.prog 21 #[.pointer (some ⟨g, 0, none⟩), uv] w (Stept (.returned (.int .i64 (M.appE new s))) w g F (M.app new s)) := by
  have hbs := h.ok.1
  have hz := h.ok.2.1
  obtain ⟨A, c, rfl, hc, -⟩ := hu.opened
  have H := Lib.hid h
  have HU := Lib.hid hu
  have HI := Lib.hid hin
  clear h hu hin
  by_cases hf : s.bs.length + new.length ≤ s.z
  · have HE := Lib.hid (show M.appE new s = 0 by simp [M.appE, hf])
    have HA := Lib.hid (show M.app new s = ⟨s.z, s.bs ++ new, s.k⟩ by simp [M.app, hf])
    rw [HE.out, HA.out]
    have q1 : ¬ ((s.z : Int) - (s.bs.length : Int) < (new.length : Int)) := by omega
    go_enter Try.func21, Try.ntmps21
    go_wp2_with (fail)
    refine (room_any H.out).mono ?_
    rintro e w1 ⟨rfl, hb1⟩
    have H1 := Lib.hid (H.out.below hb1)
    have HU1 := Lib.hid (HU.out.below hb1)
    have HB1 := Lib.hid hb1
    clear hb1
    go_wp2_with (fail)
    refine (fence_any H1.out).mono ?_
    rintro e w2 ⟨rfl, F2, v2, p, m, hd, hp, hh, hk, hg⟩
    obtain ⟨v3, w3, hr, ho, hgr⟩ := append_b hd.row (HU1.out.keeps0 HI.out hk (fun _ e => e)) (by omega)
    obtain ⟨A3, n3, rfl⟩ : ∃ A3 n3, v3 = .slice A3 (s.bs.length + new.length) n3 := by
      obtain ⟨A3, n3, e, _⟩ := ho.slice
      exact ⟨A3, n3, by rw [e, List.length_append]⟩
    have hbx := hd.boxed hh
    have hk3 : Keeps (fun x => v2.ownBlock = some x) w2 w3 := Keeps.of_grown hgr fun x e => e
    have hb3 : Cells w3 g s.z v2 s.k (.pointer (some ⟨p, 0, none⟩)) := hd.blk.keeps hk3 (hd.blk.apart hd.row)
    have hh3 : w3.heap[p]? = some (.cells #[.int .i64 m] 3 (0, 0)) := (hk3.block p (Array.getElem?_eq_some_iff.1 hh).1 hbx.2).trans hh
    have hb4 := hb3.set1 (.slice A3 (s.bs.length + new.length) n3)
    have hh4 : (w3.setCell ⟨g, 1, none⟩ (.slice A3 (s.bs.length + new.length) n3)).heap[p]? = some (.cells #[.int .i64 m] 3 (0, 0)) := (Below.heap_setCell _ _ _ _ hbx.1).trans hh3
    obtain ⟨c0, c1, c2, c3⟩ := hd.blk.at_
    have f1 := hb3.unfrozen 1
    have g1 := hb3.lt
    have d1 := hb3.at_.2.1
    have b4 : (w3.setCell ⟨g, 1, none⟩ (.slice A3 (s.bs.length + new.length) n3)).cell? ⟨p, 0, none⟩ = some (.int .i64 m) := by simp [World.cell?, hh4]
    have f4 : (w3.setCell ⟨g, 1, none⟩ (.slice A3 (s.bs.length + new.length) n3)).frozen? ⟨p, 0, none⟩ = false := frozen_of_row _ p 0 _ 3 hh4
    obtain ⟨-, x1, -, x3⟩ := hb4.at_
    have KD := Lib.hid (fun (W : World) (h1 : W.heap = (w3.setCell ⟨g, 1, none⟩ (.slice A3 (s.bs.length + new.length) n3)).heap) (h2 : W.os = w3.os) (h3 : W.tape = w3.tape) (h4 : W.output = w3.output) =>
      app_done (w := w) (F := F) (W := W) (m' := ((s.bs.length : Int) + (new.length : Int))) (by obtain ⟨_, _, h⟩ := H.out; exact h.own) (Nat.le_trans HB1.out.size hk.size) hd hp hh ((Keeps.of_below HB1.out).trans hk fun _ _ e => e) (fun x e => (hg.1 x e).imp id fun e => Nat.le_trans HB1.out.size e) ho hgr (by have := hd.ok.app new; rwa [HA.out] at this) h1 h2 h3 h4)
    clear hd hp hh hk hg ho hgr hk3 hb3 hh3 hb4 hh4 hbx
    go_wp2_with (at_builtin; refine Lib.wpList_append_run _ rfl _ _ _ _ rfl _ _ rfl rfl _ _ hr ?_)
    go_region_with (fail)
    all_goals
      go_wp2
      go_ret
      exact ⟨rfl, KD.out (w3.setCell ⟨g, 1, none⟩ (.slice A3 (s.bs.length + new.length) n3)).drew rfl rfl rfl rfl⟩
  · have HE := Lib.hid (show M.appE new s = 7 by simp [M.appE, hf])
    have HA := Lib.hid (show M.app new s = s by simp [M.app, hf])
    rw [HE.out, HA.out]
    have q1 : (s.z : Int) - (s.bs.length : Int) < (new.length : Int) := by omega
    go_enter Try.func21, Try.ntmps21
    go_wp2_with (fail)
    refine (room_any H.out).mono ?_
    rintro e w1 ⟨rfl, hb1⟩
    go_wp2
    go_ret
    exact ⟨rfl, F, H.out.below hb1, Keeps.of_below hb1, Grew.refl H.out.lt hb1.size⟩
end Go.Proofs.Ytpdknamdladgnaa
