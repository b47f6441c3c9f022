/- Contracts of the document's Replace and Cut; no conditions but the lengths that they name. -/
import Derived.Test.YtpdknamdladgnaaRefC
namespace Go.Proofs.Ytpdknamdladgnaa
open Go.RowKit

theorem told_same {x : Value → Ending} {w w' : World} {R : Nat → Prop} {r : Value} {s : M.St} (h : Doc w R r s) (hb : Below w.heap.size w w') : Told x w R s (x r) w' := ⟨r, R, rfl, h.below hb, hb, fun _ e => .inl e⟩

set_option maxHeartbeats 2000000 in
theorem rrep_any {w : World} {R : Nat → Prop} {r nv : Value} {s : M.St} {new : List UInt8} (h : Doc w R r s) (hn : Bts w nv new) (hnl : new.length ≤ 1000000) :
    Calls Try.prog 29 #[r, nv] w (Told (fun q => .returned (.tuple #[q, .int .i64 (M.repE new s)])) w R (M.rep new s)) := by
  have HD := Lib.hid h
  obtain ⟨z, a, b, A1, c1, A2, c2, rfl, rfl, h1, h2, i1, i2, hR, hc1, hc2, hl, hz⟩ := h.opened
  obtain ⟨A5, c5, rfl, hc5, -⟩ := hn.opened
  by_cases hf : new.length ≤ z
  · have HE := Lib.hid (show M.repE new ⟨z, a ++ b, a.length⟩ = 0 by simp [M.repE, hf])
    have HA := Lib.hid (show M.rep new ⟨z, a ++ b, a.length⟩ = ⟨z, new ++ [], new.length⟩ by simp [M.rep, hf])
    rw [HE.out, HA.out]
    obtain ⟨W, hW⟩ : ∃ W, W = ((w.alloc (.cells #[.slice A1 a.length c1, .slice A2 b.length c2, .int .i64 z] 29)).alloc (.cells #[.slice none 0 0, .slice none 0 0, .int .i64 0] 29)) := ⟨_, rfl⟩
    have nb : Below w.heap.size w W := by rw [hW]; exact below_new (below_new (Below.refl _ _))
    have hs : W.heap.size = w.heap.size + 2 := by rw [hW]; simp
    have hX : Box W w.heap.size (.slice A1 a.length c1) (.slice A2 b.length c2) z := by rw [hW]; exact (Box.new w _ _ _).below (below_new (Below.refl _ _))
    have hY : Box W (w.heap.size + 1) (.slice none 0 0) (.slice none 0 0) 0 := by
      rw [hW]
      have := (Box.new (w.alloc (.cells #[.slice A1 a.length c1, .slice A2 b.length c2, .int .i64 z] 29)) (.slice none 0 0) (.slice none 0 0) 0)
      rwa [show (w.alloc (.cells #[.slice A1 a.length c1, .slice A2 b.length c2, .int .i64 z] 29)).heap.size = w.heap.size + 1 by simp] at this
    have nc : Below W.heap.size W (W.alloc (.cells #[] 5)).drew := (below_new (Below.refl _ _)).drew
    have hB : Bare (W.alloc (.cells #[] 5)).drew W.heap.size := Bare.new _
    obtain ⟨v1, w1, hr1, b1, ⟨A3, c3, rfl, hc3⟩, ho⟩ := join_one hB ((hn.below nb).below nc) (by omega)
    have b2 : Below w.heap.size w w1 := nb.trans ((nc.mono (by omega)).trans (b1.below (fun x e => by omega) (by have := nc.size; omega)))
    have hX1 := (hX.below nc).keeps b1 (by omega)
    have hY1 := (hY.below nc).keeps b1 (by omega)
    have hsz := nc.size
    have T := Lib.hid (fill_told (x := fun q => .returned (.tuple #[q, .int .i64 0])) (R := R) b2 hY1 (by omega) ho.bts (Bts.nil w1 none 0) ho.in_ (In.nil _ 0 0) (by omega) (fun x e => by have := b1.size; simp at e this; omega) (fun x e => .inr (by omega)) (by simpa using hf) hz)
    obtain ⟨x0, x1, x2⟩ := hX.at_
    obtain ⟨t0, t1, t2⟩ := hX1.at_
    obtain ⟨s0, s1, s2⟩ := hY1.at_
    obtain ⟨y0, y1, y2⟩ := (hY1.fill (.slice A3 new.length c3) (.slice none 0 0) z).at_
    have f0 := hY1.unfrozen 0
    have f1 := hY1.unfrozen 1
    have f2 := hY1.unfrozen 2
    have l1 := hX.lt
    have l2 := hY.lt
    have l3 := hX1.lt
    have l4 := hY1.lt
    have HS := Lib.hid hs
    clear h hn h1 h2 i1 i2 hR nb hs hX hY nc hB b1 ho b2 hX1 hY1 hsz
    go_enter Try.func29, Try.ntmps29
    go_wp2
    rw [← hW]
    clear hW
    go_region_law (refine step_append_run rfl (.tmp 12) (.tmp 13) 27 27 rfl _ _ (by simp [Act.eval]) (by simp [Act.eval]) _ _ hr1 ?_)
    all_goals
      go_wp2
      exact bodyPost_ret (v := .tuple #[.agg #[.slice A3 new.length c3, .slice none 0 0, .int .i64 z], .int .i64 0]) (by simp [results, Try.results29, go_sem, y0, y1, y2]) rfl T.out
  · have HE := Lib.hid (show M.repE new ⟨z, a ++ b, a.length⟩ = 7 by simp [M.repE, hf])
    have HA := Lib.hid (show M.rep new ⟨z, a ++ b, a.length⟩ = ⟨z, a ++ b, a.length⟩ by simp [M.rep, hf])
    rw [HE.out, HA.out]
    clear h hn h1 h2 i1 i2 hR
    go_enter Try.func29, Try.ntmps29
    go_wp2
    exact bodyPost_ret (v := .tuple #[.agg #[.slice A1 a.length c1, .slice A2 b.length c2, .int .i64 z], .int .i64 7]) (by simp [results, Try.results29, go_sem]) rfl (told_same HD.out (below_new (below_new (Below.refl _ _))))

theorem In.cut {R : Nat → Prop} {A : Option Addr} {n c m c' : Nat} (h : In R (.slice A n c)) : In R (.slice A m c') := by
  intro b e
  cases A with
  | none => simp [Value.ownBlock] at e
  | some a => exact h b e
theorem Told.drew {x : Value → Ending} {w w' : World} {R : Nat → Prop} {s : M.St} {e : Ending} (h : Told x w R s e w') : Told x w R s e w'.drew := by
  obtain ⟨q, R', he, hd, hb, hr⟩ := h
  exact ⟨q, R', he, hd.below (Below.refl _ _).drew, hb.drew, hr⟩
theorem cut_short {z n : Nat} {a b : List UInt8} (h : n ≤ a.length) : M.cut n ⟨z, a ++ b, a.length⟩ = ⟨z, a.take n ++ [], (a.take n).length⟩ := by
  rw [M.cut, if_pos ⟨by omega, by simp; omega⟩]
  simp [List.take_append_of_le_length h]
  omega
theorem cut_long {z n : Nat} {a b : List UInt8} (h : a.length ≤ n) (h2 : n ≤ a.length + b.length) : M.cut n ⟨z, a ++ b, a.length⟩ = ⟨z, a ++ b.take (n - a.length), a.length⟩ := by
  rw [M.cut, if_pos ⟨by omega, by simp; omega⟩]
  simp [List.take_append, List.take_of_length_le h]
  omega

set_option maxHeartbeats 2000000 in
theorem rcut_any {w : World} {R : Nat → Prop} {r : Value} {s : M.St} (h : Doc w R r s) (n : Int) : Calls Try.prog 28 #[r, .int .i64 n] w (Told (fun q => .returned (.tuple #[q, .int .i64 (M.cutE n s)])) w R (M.cut n s)) := by
  have HD := Lib.hid h
  obtain ⟨z, a, b, A1, c1, A2, c2, rfl, rfl, h1, h2, i1, i2, hR, hc1, hc2, hl, hz⟩ := h.opened
  by_cases h0 : n < 0
  · have HE := Lib.hid (show M.cutE n ⟨z, a ++ b, a.length⟩ = 2 by rw [M.cutE, if_neg (by omega)])
    have HA := Lib.hid (show M.cut n ⟨z, a ++ b, a.length⟩ = ⟨z, a ++ b, a.length⟩ by rw [M.cut, if_neg (by omega)])
    rw [HE.out, HA.out]
    clear h h1 h2 i1 i2 hR
    go_enter Try.func28, Try.ntmps28
    go_wp2
    exact bodyPost_ret (v := .tuple #[.agg #[.slice A1 a.length c1, .slice A2 b.length c2, .int .i64 z], .int .i64 2]) (by simp [results, Try.results28, go_sem]) rfl (told_same HD.out (below_new (below_new (Below.refl _ _))))
  · obtain ⟨m, rfl⟩ : ∃ m : Nat, n = m := ⟨n.toNat, by omega⟩
    obtain ⟨W, hW⟩ : ∃ W, W = ((w.alloc (.cells #[.slice A1 a.length c1, .slice A2 b.length c2, .int .i64 z] 29)).alloc (.cells #[.slice none 0 0, .slice none 0 0, .int .i64 0] 29)) := ⟨_, rfl⟩
    have nb : Below w.heap.size w W := by rw [hW]; exact below_new (below_new (Below.refl _ _))
    have hs : W.heap.size = w.heap.size + 2 := by rw [hW]; simp
    have hX : Box W w.heap.size (.slice A1 a.length c1) (.slice A2 b.length c2) z := by rw [hW]; exact (Box.new w _ _ _).below (below_new (Below.refl _ _))
    have hY : Box W (w.heap.size + 1) (.slice none 0 0) (.slice none 0 0) 0 := by
      rw [hW]
      have := (Box.new (w.alloc (.cells #[.slice A1 a.length c1, .slice A2 b.length c2, .int .i64 z] 29)) (.slice none 0 0) (.slice none 0 0) 0)
      rwa [show (w.alloc (.cells #[.slice A1 a.length c1, .slice A2 b.length c2, .int .i64 z] 29)).heap.size = w.heap.size + 1 by simp] at this
    obtain ⟨x0, x1, x2⟩ := hX.at_
    have l1 := hX.lt
    have l2 := hY.lt
    have HX := Lib.hid hX
    have HY := Lib.hid hY
    have NB := Lib.hid nb
    have HS := Lib.hid hs
    have HR := Lib.hid hR
    have H1 := Lib.hid h1
    have H2 := Lib.hid h2
    have I1 := Lib.hid i1
    have I2 := Lib.hid i2
    have HC := Lib.hid (all_any (HD.out.below nb))
    clear h h1 h2 i1 i2 hR nb hs hX hY
    by_cases hm : m ≤ a.length + b.length
    · have HE := Lib.hid (show M.cutE m ⟨z, a ++ b, a.length⟩ = 0 by rw [M.cutE, if_pos ⟨by omega, by simp; omega⟩])
      rw [HE.out]
      by_cases hma : m ≤ a.length
      · rw [cut_short hma]
        have hma' : (m : Int) ≤ (a.length : Int) := by omega
        go_enter Try.func28, Try.ntmps28
        go_wp2_with (fail)
        rw [← hW]
        clear hW
        refine HC.out.mono ?_
        rintro e w1 ⟨v1, rfl, ho, hb⟩
        obtain ⟨A3, c3, rfl, hc3⟩ := ho.slice
        rw [List.length_append] at ho
        rw [List.length_append]
        have hX1 := HX.out.below hb
        obtain ⟨t0, t1, t2⟩ := hX1.at_
        have hY1 := HY.out.below hb
        have f0 := hY1.unfrozen 0
        have f1 := hY1.unfrozen 1
        have f2 := hY1.unfrozen 2
        obtain ⟨s0, s1, s2⟩ := hY1.at_
        have l1' := Nat.lt_of_lt_of_le l1 hb.size
        have l2' := Nat.lt_of_lt_of_le l2 hb.size
        have b1 := NB.out.trans (hb.mono NB.out.size)
        obtain ⟨y0, y1, y2⟩ := (hY1.fill (.slice A1 m c1) (.slice none 0 0) z).at_
        have T := Lib.hid (fill_told (x := fun q => .returned (.tuple #[q, .int .i64 0])) (R := R) (R' := R) b1 hY1 (by omega) ((H1.out.below b1).take m hma) (Bts.nil w1 none 0) I1.out.cut (In.nil _ 0 0) (fun e => by have := HR.out _ e; omega) (fun x e => by have := HR.out _ e; have := b1.size; omega) (fun x e => .inl e) (by simp; omega) hz)
        clear hb hX1 hY1 b1 ho x0 x1 x2
        go_wp2
        go_region_with (fail)
        all_goals
          go_wp2
          exact bodyPost_ret (v := .tuple #[.agg #[.slice A1 m c1, .slice none 0 0, .int .i64 z], .int .i64 0]) (by simp [results, Try.results28, go_sem, y0, y1, y2]) rfl T.out.drew
      · rw [cut_long (by omega) hm]
        have hma' : (a.length : Int) < (m : Int) := by omega
        go_enter Try.func28, Try.ntmps28
        go_wp2_with (fail)
        rw [← hW]
        clear hW
        refine HC.out.mono ?_
        rintro e w1 ⟨v1, rfl, ho, hb⟩
        obtain ⟨A3, c3, rfl, hc3⟩ := ho.slice
        rw [List.length_append] at ho
        rw [List.length_append]
        have hX1 := HX.out.below hb
        obtain ⟨t0, t1, t2⟩ := hX1.at_
        have hY1 := HY.out.below hb
        have f0 := hY1.unfrozen 0
        have f1 := hY1.unfrozen 1
        have f2 := hY1.unfrozen 2
        obtain ⟨s0, s1, s2⟩ := hY1.at_
        have l1' := Nat.lt_of_lt_of_le l1 hb.size
        have l2' := Nat.lt_of_lt_of_le l2 hb.size
        have b1 := NB.out.trans (hb.mono NB.out.size)
        have g1 := hX1.unfrozen 1
        have hX2 := hX1.set1 (.slice A2 (m - a.length) c2)
        obtain ⟨r0, r1, r2⟩ := hX2.at_
        have k1 := (Keeps.refl (fun k => k = w.heap.size) w1).setCell (p := ⟨w.heap.size, 1, none⟩) (.inl rfl) (.slice A2 (m - a.length) c2)
        have hY2 := hY1.keeps k1 (by omega)
        have b2 := b1.trans (k1.below (B := w.heap.size) (fun x e => by omega) (by omega))
        have g0 := hY2.unfrozen 0
        have g3 := hY2.unfrozen 1
        have g2 := hY2.unfrozen 2
        obtain ⟨v0, v1, v2⟩ := hY2.at_
        obtain ⟨y0, y1, y2⟩ := (hY2.fill (.slice A1 a.length c1) (.slice A2 (m - a.length) c2) z).at_
        have T := Lib.hid (fill_told (x := fun q => .returned (.tuple #[q, .int .i64 0])) (R := R) (R' := R) b2 hY2 (by omega) (H1.out.below b2) ((H2.out.below b2).take (m - a.length) (by omega)) I1.out I2.out.cut (fun e => by have := HR.out _ e; omega) (fun x e => by have := HR.out _ e; have := b2.size; omega) (fun x e => .inl e) (by simp; omega) hz)
        clear hb hX1 hY1 b1 ho x0 x1 x2 hX2 k1 hY2 b2
        go_wp2
        exact bodyPost_ret (v := .tuple #[.agg #[.slice A1 a.length c1, .slice A2 (m - a.length) c2, .int .i64 z], .int .i64 0]) (by simp [results, Try.results28, go_sem, y0, y1, y2]) rfl T.out
    · have HE := Lib.hid (show M.cutE m ⟨z, a ++ b, a.length⟩ = 2 by rw [M.cutE, if_neg (by simp; omega)])
      have HA := Lib.hid (show M.cut m ⟨z, a ++ b, a.length⟩ = ⟨z, a ++ b, a.length⟩ by rw [M.cut, if_neg (by simp; omega)])
      rw [HE.out, HA.out]
      have hm1 : a.length + b.length < m := by omega
      have hm2 : (a.length : Int) + (b.length : Int) < (m : Int) := by omega
      clear hm
      go_enter Try.func28, Try.ntmps28
      go_wp2_with (fail)
      rw [← hW]
      clear hW
      refine HC.out.mono ?_
      rintro e w1 ⟨v1, rfl, ho, hb⟩
      obtain ⟨A3, c3, rfl, hc3⟩ := ho.slice
      rw [List.length_append] at ho
      rw [List.length_append]
      obtain ⟨t0, t1, t2⟩ := (HX.out.below hb).at_
      have hY1 := HY.out.below hb
      have f0 := hY1.unfrozen 0
      have f1 := hY1.unfrozen 1
      have f2 := hY1.unfrozen 2
      obtain ⟨s0, s1, s2⟩ := hY1.at_
      obtain ⟨y0, y1, y2⟩ := (hY1.fill (.slice A1 a.length c1) (.slice A2 b.length c2) z).at_
      have l1' := Nat.lt_of_lt_of_le l1 hb.size
      have l2' := Nat.lt_of_lt_of_le l2 hb.size
      have b1 := NB.out.trans (hb.mono NB.out.size)
      have T := Lib.hid (fill_told (x := fun q => .returned (.tuple #[q, .int .i64 2])) (R := R) (R' := R) b1 hY1 (by omega) (H1.out.below b1) (H2.out.below b1) I1.out I2.out (fun e => by have := HR.out _ e; omega) (fun x e => by have := HR.out _ e; have := b1.size; omega) (fun x e => .inl e) hl hz)
      clear hb hY1 b1 ho x0 x1 x2
      go_wp2
      exact bodyPost_ret (v := .tuple #[.agg #[.slice A1 a.length c1, .slice A2 b.length c2, .int .i64 z], .int .i64 2]) (by simp [results, Try.results28, go_sem, y0, y1, y2]) rfl T.out
end Go.Proofs.Ytpdknamdladgnaa
