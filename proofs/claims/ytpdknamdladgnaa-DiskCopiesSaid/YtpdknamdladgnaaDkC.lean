/- Contracts of Cut and Replace; no conditions but what may be, and the lengths that they name. -/
import Derived.Test.YtpdknamdladgnaaDkB
namespace Go.Proofs.Ytpdknamdladgnaa
open Go.RowKit

theorem cut_done {w : World} {g : Nat} {F : Nat → Prop} {s : M.St} {A : Option Addr} {c : Nat} {u : Value} (H : Dk w g F s (.slice A s.bs.length c) u) (n : Nat) (hn : n ≤ s.bs.length) (hc : s.bs.length ≤ c) (y : Int) (hy : y = (min s.k n : Nat)) :
    ∃ F', Disk ((w.setCell ⟨g, 1, none⟩ (.slice A n c)).setCell ⟨g, 2, none⟩ (.int .i64 y)) g F' (M.cut n s) ∧ Keeps F w ((w.setCell ⟨g, 1, none⟩ (.slice A n c)).setCell ⟨g, 2, none⟩ (.int .i64 y)) ∧ Grew F F' w ((w.setCell ⟨g, 1, none⟩ (.slice A n c)).setCell ⟨g, 2, none⟩ (.int .i64 y)) := by
  have e : M.cut n s = ⟨s.z, s.bs.take n, min s.k n⟩ := by
    rw [M.cut, if_pos ⟨by omega, by omega⟩]; simp
  have ho := H.ok.cut n
  rw [e] at ho ⊢
  have k := ((Keeps.refl (fun x => x = g) w).setCell (p := ⟨g, 1, none⟩) (.inl rfl) (.slice A n c)).setCell (p := ⟨g, 2, none⟩) (.inl rfl) (.int .i64 y)
  have hb := (H.blk.set1 (.slice A n c)).set2 y
  rw [hy] at hb k ⊢
  refine dk_step (s' := ⟨s.z, s.bs.take n, min s.k n⟩) (F' := F) hb (k.wide fun x _ e => e ▸ H.own) ?_ (H.box.keeps' k fun p e eg => H.blk.apartU H.box (by rw [e, eg])) (Grew.refl H.lt (by rw [size_set, size_set]; exact Nat.le_refl _)) H.own ho
  exact (H.row.keeps' k fun b e eg => H.blk.apart H.row (by rw [e, eg])).cut hn (by omega) (Nat.le_refl _)

set_option maxHeartbeats 1000000 in
theorem cutD_any {w : World} {g : Nat} {F : Nat → Prop} {s : M.St} (h : Disk w g F s) (n : Int) : Calls Try.prog 23 #[.pointer (some ⟨g, 0, none⟩), .int .i64 n] w (Stept (.returned (.int .i64 (M.cutE n s))) w g F (M.cut n s)) := by
  have hD := h
  obtain ⟨v, u, h⟩ := h
  obtain ⟨A, c, rfl, hc⟩ := h.row.slice
  obtain ⟨c0, c1, c2, c3⟩ := h.blk.at_
  have f1 := h.blk.unfrozen 1
  have f2 := h.blk.unfrozen 2
  have H := Lib.hid h
  have HD := Lib.hid hD
  have hbs := h.ok.1
  have hz := h.ok.2.1
  by_cases hn : 0 ≤ n ∧ n ≤ s.bs.length
  · obtain ⟨m, rfl⟩ : ∃ m : Nat, n = m := ⟨n.toNat, by omega⟩
    have hm : m ≤ s.bs.length := by omega
    have HE := Lib.hid (show M.cutE m s = 0 by rw [M.cutE, if_pos hn])
    rw [HE.out]
    have q1 : ¬ s.bs.length < m := by omega
    clear h hn hD
    by_cases hk : s.k ≤ m
    · go_enter Try.func23, Try.ntmps23
      go_wp2
      go_ret
      exact ⟨rfl, cut_done H.out m hm hc _ (by omega)⟩
    · go_enter Try.func23, Try.ntmps23
      go_wp2
      go_ret
      exact ⟨rfl, cut_done H.out m hm hc _ (by omega)⟩
  · have HE := Lib.hid (show M.cutE n s = 2 by rw [M.cutE, if_neg hn])
    have HA := Lib.hid (show M.cut n s = s by rw [M.cut, if_neg hn])
    rw [HE.out, HA.out]
    by_cases h0 : n < 0
    · clear h hn hD
      go_enter Try.func23, Try.ntmps23
      go_wp2
      go_ret
      exact ⟨rfl, F, HD.out, Keeps.refl _ _, Grew.refl HD.out.lt (Nat.le_refl _)⟩
    · have h1 : (s.bs.length : Int) < n := by omega
      clear h hn hD
      go_enter Try.func23, Try.ntmps23
      go_wp2
      go_ret
      exact ⟨rfl, F, HD.out, Keeps.refl _ _, Grew.refl HD.out.lt (Nat.le_refl _)⟩

set_option maxHeartbeats 1000000 in
theorem replaceD_any {w : World} {g : Nat} {F : Nat → Prop} {s : M.St} {uv : Value} {new : List UInt8} (h : Disk w g F s) (hu : Bts w uv new) (hl : new.length ≤ 100000000) : Calls Try.prog 24 #[.pointer (some ⟨g, 0, none⟩), uv] w (Stept (.returned (.int .i64 (M.repE new s))) w g F (M.rep new s)) := by
  have HD := Lib.hid h
  have HU := Lib.hid hu
  obtain ⟨v, u, h⟩ := h
  obtain ⟨c0, c1, c2, c3⟩ := h.blk.at_
  have hz := h.ok.2.1
  have hg := h.blk.lt
  have HG := Lib.hid h.own
  obtain ⟨A, c, rfl, hc, -⟩ := hu.opened
  clear h hu
  by_cases hf : new.length ≤ s.z
  · have HE := Lib.hid (show M.repE new s = 0 by rw [M.repE, if_pos hf])
    have HA := Lib.hid (show M.rep new s = ⟨s.z, new, new.length⟩ by rw [M.rep, if_pos hf])
    rw [HE.out, HA.out]
    go_enter Try.func24, Try.ntmps24
    go_wp2_with (fail)
    refine (copied_any HU.out hl).mono ?_
    rintro e w1 ⟨rfl, hB, hb1⟩
    have H1 := Lib.hid (HD.out.below hb1)
    have HB := Lib.hid hB
    have HB1 := Lib.hid hb1
    clear hB hb1
    go_wp2_with (fail)
    refine (hold_any H1.out HB.out (by omega) hf).mono ?_
    rintro e w2 ⟨rfl, hd, hk⟩
    have HX := Lib.hid hd
    have HK := Lib.hid hk
    clear hd hk
    go_wp2
    go_ret
    refine ⟨rfl, _, HX.out, (Keeps.of_below HB1.out).trans HK.out (fun x _ e => e ▸ HG.out), fun x e => e.elim (fun e => .inl (e ▸ HG.out)) fun e => .inr (by omega), HX.out.lt⟩
  · have HE := Lib.hid (show M.repE new s = 7 by rw [M.repE, if_neg hf])
    have HA := Lib.hid (show M.rep new s = s by rw [M.rep, if_neg hf])
    rw [HE.out, HA.out]
    go_enter Try.func24, Try.ntmps24
    go_wp2
    go_ret
    exact ⟨rfl, F, HD.out, Keeps.refl _ _, Grew.refl HD.out.lt (Nat.le_refl _)⟩
end Go.Proofs.Ytpdknamdladgnaa
