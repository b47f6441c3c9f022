/- Boxes of seven numbers and of two, carried behind calls; the walks of DepsOver, DepsGrow, DepsJoins; no conditions but that a slot is an int. -/
import Derived.Test.YtcombmifjimkoaaWalksG
namespace Go.Proofs.Ytcombmifjimkoaa
open Go.RowKit
attribute [local go_sem ↓] run_max_mx run_min_mn run_same7

/-- A block of seven numbers; of two. -/
structure At7 (w : World) (b : Nat) (f : Nat → Int) : Prop where
  lt : b < w.heap.size
  c0 : w.cell? ⟨b, 0, none⟩ = some (.int .i64 (f 0))
  c1 : w.cell? ⟨b, 1, none⟩ = some (.int .i64 (f 1))
  c2 : w.cell? ⟨b, 2, none⟩ = some (.int .i64 (f 2))
  c3 : w.cell? ⟨b, 3, none⟩ = some (.int .i64 (f 3))
  c4 : w.cell? ⟨b, 4, none⟩ = some (.int .i64 (f 4))
  c5 : w.cell? ⟨b, 5, none⟩ = some (.int .i64 (f 5))
  c6 : w.cell? ⟨b, 6, none⟩ = some (.int .i64 (f 6))
structure At2 (w : World) (b : Nat) (r s : Int) : Prop where
  lt : b < w.heap.size
  one : w.cell? ⟨b, 0, none⟩ = some (.int .i64 r)
  two : w.cell? ⟨b, 1, none⟩ = some (.int .i64 s)
theorem At7.new (w : World) (f : Nat → Int) : At7 (w.alloc (.cells #[.int .i64 (f 0), .int .i64 (f 1), .int .i64 (f 2), .int .i64 (f 3), .int .i64 (f 4), .int .i64 (f 5), .int .i64 (f 6)] 23)) w.heap.size f := ⟨by simp, by simp, by simp, by simp, by simp, by simp, by simp, by simp⟩
theorem At7.new1 (w : World) (o : Obj) (f : Nat → Int) : At7 ((w.alloc o).alloc (.cells #[.int .i64 (f 0), .int .i64 (f 1), .int .i64 (f 2), .int .i64 (f 3), .int .i64 (f 4), .int .i64 (f 5), .int .i64 (f 6)] 23)) (w.heap.size + 1) f := by simpa using At7.new (w.alloc o) f
theorem At7.new2 (w : World) (o o' : Obj) (f : Nat → Int) : At7 (((w.alloc o).alloc o').alloc (.cells #[.int .i64 (f 0), .int .i64 (f 1), .int .i64 (f 2), .int .i64 (f 3), .int .i64 (f 4), .int .i64 (f 5), .int .i64 (f 6)] 23)) (w.heap.size + 2) f := by simpa using At7.new ((w.alloc o).alloc o') f
theorem At2.new (w : World) (r s : Int) : At2 (w.alloc (.cells #[.int .i64 r, .int .i64 s] 25)) w.heap.size r s := ⟨by simp, by simp, by simp⟩
theorem At2.new1 (w : World) (o : Obj) (r s : Int) : At2 ((w.alloc o).alloc (.cells #[.int .i64 r, .int .i64 s] 25)) (w.heap.size + 1) r s := by simpa using At2.new (w.alloc o) r s
theorem At2.new2 (w : World) (o o' : Obj) (r s : Int) : At2 (((w.alloc o).alloc o').alloc (.cells #[.int .i64 r, .int .i64 s] 25)) (w.heap.size + 2) r s := by simpa using At2.new ((w.alloc o).alloc o') r s
theorem At2.new3 (w : World) (o o' o'' : Obj) (r s : Int) : At2 ((((w.alloc o).alloc o').alloc o'').alloc (.cells #[.int .i64 r, .int .i64 s] 25)) (w.heap.size + 3) r s := by simpa using At2.new (((w.alloc o).alloc o').alloc o'') r s
theorem At7.push {w : World} {b : Nat} {f : Nat → Int} (h : At7 w b f) (o : Obj) : At7 (w.alloc o) b f :=
  ⟨by have := h.lt; simp; omega, (World.cell?_alloc_lt w o _ h.lt).trans h.c0, (World.cell?_alloc_lt w o _ h.lt).trans h.c1, (World.cell?_alloc_lt w o _ h.lt).trans h.c2, (World.cell?_alloc_lt w o _ h.lt).trans h.c3, (World.cell?_alloc_lt w o _ h.lt).trans h.c4, (World.cell?_alloc_lt w o _ h.lt).trans h.c5, (World.cell?_alloc_lt w o _ h.lt).trans h.c6⟩
theorem At2.push {w : World} {b : Nat} {r s : Int} (h : At2 w b r s) (o : Obj) : At2 (w.alloc o) b r s :=
  ⟨by have := h.lt; simp; omega, (World.cell?_alloc_lt w o _ h.lt).trans h.one, (World.cell?_alloc_lt w o _ h.lt).trans h.two⟩
theorem At7.on {w w' : World} {b : Nat} {f : Nat → Int} (h : At7 w b f) (k : Below w.heap.size w w') : At7 w' b f :=
  ⟨Nat.lt_of_lt_of_le h.lt k.size, (k.cell (p := ⟨b, 0, none⟩) h.lt).trans h.c0, (k.cell (p := ⟨b, 1, none⟩) h.lt).trans h.c1, (k.cell (p := ⟨b, 2, none⟩) h.lt).trans h.c2, (k.cell (p := ⟨b, 3, none⟩) h.lt).trans h.c3, (k.cell (p := ⟨b, 4, none⟩) h.lt).trans h.c4, (k.cell (p := ⟨b, 5, none⟩) h.lt).trans h.c5, (k.cell (p := ⟨b, 6, none⟩) h.lt).trans h.c6⟩
theorem At2.on {w w' : World} {b : Nat} {r s : Int} (h : At2 w b r s) (k : Below w.heap.size w w') : At2 w' b r s :=
  ⟨Nat.lt_of_lt_of_le h.lt k.size, (k.cell (p := ⟨b, 0, none⟩) h.lt).trans h.one, (k.cell (p := ⟨b, 1, none⟩) h.lt).trans h.two⟩

theorem M.same_of {f g : Nat → Int} (h : ∀ k, k < 7 → f k = g k) : M.same7 (f 0) (f 1) (f 2) (f 3) (f 4) (f 5) (f 6) (g 0) (g 1) (g 2) (g 3) (g 4) (g 5) (g 6) = true := M.same_iff.2 h
theorem M.over_self (a : Nat → Int) : M.over a a = true := M.over_iff.2 fun _ _ => Int.le_refl _
theorem M.over_trans {a b c : Nat → Int} (h : M.over a b = true) (h' : M.over b c = true) : M.over a c = true := M.over_iff.2 fun k hk => Int.le_trans (M.over_iff.1 h' k hk) (M.over_iff.1 h k hk)
theorem M.over_anti {a b : Nat → Int} (h : M.over a b = true) (h' : M.over b a = true) : M.same7 (a 0) (a 1) (a 2) (a 3) (a 4) (a 5) (a 6) (b 0) (b 1) (b 2) (b 3) (b 4) (b 5) (b 6) = true := M.same_of fun k hk => Int.le_antisymm (M.over_iff.1 h' k hk) (M.over_iff.1 h k hk)

set_option maxHeartbeats 4000000 in
theorem over_law (a b c : Nat → Int) (w : World) :
    Calls Try.prog 7 #[.agg #[.int .i64 (a 0), .int .i64 (a 1), .int .i64 (a 2), .int .i64 (a 3), .int .i64 (a 4), .int .i64 (a 5), .int .i64 (a 6)], .agg #[.int .i64 (b 0), .int .i64 (b 1), .int .i64 (b 2), .int .i64 (b 3), .int .i64 (b 4), .int .i64 (b 5), .int .i64 (b 6)], .agg #[.int .i64 (c 0), .int .i64 (c 1), .int .i64 (c 2), .int .i64 (c 3), .int .i64 (c 4), .int .i64 (c 5), .int .i64 (c 6)]] w fun e w' => e = .returned (.bool true) ∧ Below w.heap.size w w' := by
  have e0 := M.over_self a
  cases e1 : M.over a b
  · skip
    go_enter Try.func7, Try.ntmps7
    go_wp2_with (fail)
    refine (over_any _ _ _).mono ?_
    rintro e w1 ⟨rfl, hb⟩
    have H1 := Lib.hid (below_on (below_new (below_new (below_new (Below.refl _ _)))) hb)
    have P1 := Lib.hid ((((At7.new w  (a)).push (.cells #[.int .i64 (b 0), .int .i64 (b 1), .int .i64 (b 2), .int .i64 (b 3), .int .i64 (b 4), .int .i64 (b 5), .int .i64 (b 6)] 23)).push (.cells #[.int .i64 (c 0), .int .i64 (c 1), .int .i64 (c 2), .int .i64 (c 3), .int .i64 (c 4), .int .i64 (c 5), .int .i64 (c 6)] 23)).on hb)
    have Q1 := Lib.hid (((At7.new1 w (.cells #[.int .i64 (a 0), .int .i64 (a 1), .int .i64 (a 2), .int .i64 (a 3), .int .i64 (a 4), .int .i64 (a 5), .int .i64 (a 6)] 23) (b)).push (.cells #[.int .i64 (c 0), .int .i64 (c 1), .int .i64 (c 2), .int .i64 (c 3), .int .i64 (c 4), .int .i64 (c 5), .int .i64 (c 6)] 23)).on hb)
    have R1 := Lib.hid ((At7.new2 w (.cells #[.int .i64 (a 0), .int .i64 (a 1), .int .i64 (a 2), .int .i64 (a 3), .int .i64 (a 4), .int .i64 (a 5), .int .i64 (a 6)] 23) (.cells #[.int .i64 (b 0), .int .i64 (b 1), .int .i64 (b 2), .int .i64 (b 3), .int .i64 (b 4), .int .i64 (b 5), .int .i64 (b 6)] 23) (c)).on hb)
    clear hb
    obtain ⟨l0, c00, c01, c02, c03, c04, c05, c06⟩ := P1.out
    obtain ⟨l1, c10, c11, c12, c13, c14, c15, c16⟩ := Q1.out
    obtain ⟨l2, c20, c21, c22, c23, c24, c25, c26⟩ := R1.out
    go_wp2_with (fail)
    refine (over_any _ _ _).mono ?_
    rintro e w2 ⟨rfl, hb⟩
    have H2 := Lib.hid (below_on (H1.out) hb)
    have P2 := Lib.hid (P1.out.on hb)
    have Q2 := Lib.hid (Q1.out.on hb)
    have R2 := Lib.hid (R1.out.on hb)
    clear P1 Q1 R1 H1 l0 c00 c01 c02 c03 c04 c05 c06 l1 c10 c11 c12 c13 c14 c15 c16 l2 c20 c21 c22 c23 c24 c25 c26
    clear hb
    obtain ⟨l0, c00, c01, c02, c03, c04, c05, c06⟩ := P2.out
    obtain ⟨l1, c10, c11, c12, c13, c14, c15, c16⟩ := Q2.out
    obtain ⟨l2, c20, c21, c22, c23, c24, c25, c26⟩ := R2.out
    go_wp2_with (fail)
    refine (over_any _ _ _).mono ?_
    rintro e w3 ⟨rfl, hb⟩
    have H3 := Lib.hid (below_on (H2.out) hb)
    have P3 := Lib.hid (P2.out.on hb)
    have Q3 := Lib.hid (Q2.out.on hb)
    have R3 := Lib.hid (R2.out.on hb)
    clear P2 Q2 R2 H2 l0 c00 c01 c02 c03 c04 c05 c06 l1 c10 c11 c12 c13 c14 c15 c16 l2 c20 c21 c22 c23 c24 c25 c26
    clear hb
    obtain ⟨l0, c00, c01, c02, c03, c04, c05, c06⟩ := P3.out
    obtain ⟨l1, c10, c11, c12, c13, c14, c15, c16⟩ := Q3.out
    obtain ⟨l2, c20, c21, c22, c23, c24, c25, c26⟩ := R3.out
    go_wp2_with (fail)
    refine (awake_any _).mono ?_
    rintro e w4 ⟨rfl, hb⟩
    have H4 := Lib.hid (below_on (H3.out) hb)
    have P4 := Lib.hid (P3.out.on hb)
    have Q4 := Lib.hid (Q3.out.on hb)
    have R4 := Lib.hid (R3.out.on hb)
    clear P3 Q3 R3 H3 l0 c00 c01 c02 c03 c04 c05 c06 l1 c10 c11 c12 c13 c14 c15 c16 l2 c20 c21 c22 c23 c24 c25 c26
    clear hb
    go_wp2
    go_ret
    exact ⟨rfl, H4.out⟩
  · cases e2 : M.over b a
    · cases e3 : M.over b c
      · skip
        go_enter Try.func7, Try.ntmps7
        go_wp2_with (fail)
        refine (over_any _ _ _).mono ?_
        rintro e w1 ⟨rfl, hb⟩
        have H1 := Lib.hid (below_on (below_new (below_new (below_new (Below.refl _ _)))) hb)
        have P1 := Lib.hid ((((At7.new w  (a)).push (.cells #[.int .i64 (b 0), .int .i64 (b 1), .int .i64 (b 2), .int .i64 (b 3), .int .i64 (b 4), .int .i64 (b 5), .int .i64 (b 6)] 23)).push (.cells #[.int .i64 (c 0), .int .i64 (c 1), .int .i64 (c 2), .int .i64 (c 3), .int .i64 (c 4), .int .i64 (c 5), .int .i64 (c 6)] 23)).on hb)
        have Q1 := Lib.hid (((At7.new1 w (.cells #[.int .i64 (a 0), .int .i64 (a 1), .int .i64 (a 2), .int .i64 (a 3), .int .i64 (a 4), .int .i64 (a 5), .int .i64 (a 6)] 23) (b)).push (.cells #[.int .i64 (c 0), .int .i64 (c 1), .int .i64 (c 2), .int .i64 (c 3), .int .i64 (c 4), .int .i64 (c 5), .int .i64 (c 6)] 23)).on hb)
        have R1 := Lib.hid ((At7.new2 w (.cells #[.int .i64 (a 0), .int .i64 (a 1), .int .i64 (a 2), .int .i64 (a 3), .int .i64 (a 4), .int .i64 (a 5), .int .i64 (a 6)] 23) (.cells #[.int .i64 (b 0), .int .i64 (b 1), .int .i64 (b 2), .int .i64 (b 3), .int .i64 (b 4), .int .i64 (b 5), .int .i64 (b 6)] 23) (c)).on hb)
        clear hb
        obtain ⟨l0, c00, c01, c02, c03, c04, c05, c06⟩ := P1.out
        obtain ⟨l1, c10, c11, c12, c13, c14, c15, c16⟩ := Q1.out
        obtain ⟨l2, c20, c21, c22, c23, c24, c25, c26⟩ := R1.out
        go_wp2_with (fail)
        refine (over_any _ _ _).mono ?_
        rintro e w2 ⟨rfl, hb⟩
        have H2 := Lib.hid (below_on (H1.out) hb)
        have P2 := Lib.hid (P1.out.on hb)
        have Q2 := Lib.hid (Q1.out.on hb)
        have R2 := Lib.hid (R1.out.on hb)
        clear P1 Q1 R1 H1 l0 c00 c01 c02 c03 c04 c05 c06 l1 c10 c11 c12 c13 c14 c15 c16 l2 c20 c21 c22 c23 c24 c25 c26
        clear hb
        obtain ⟨l0, c00, c01, c02, c03, c04, c05, c06⟩ := P2.out
        obtain ⟨l1, c10, c11, c12, c13, c14, c15, c16⟩ := Q2.out
        obtain ⟨l2, c20, c21, c22, c23, c24, c25, c26⟩ := R2.out
        go_wp2_with (fail)
        refine (over_any _ _ _).mono ?_
        rintro e w3 ⟨rfl, hb⟩
        have H3 := Lib.hid (below_on (H2.out) hb)
        have P3 := Lib.hid (P2.out.on hb)
        have Q3 := Lib.hid (Q2.out.on hb)
        have R3 := Lib.hid (R2.out.on hb)
        clear P2 Q2 R2 H2 l0 c00 c01 c02 c03 c04 c05 c06 l1 c10 c11 c12 c13 c14 c15 c16 l2 c20 c21 c22 c23 c24 c25 c26
        clear hb
        obtain ⟨l0, c00, c01, c02, c03, c04, c05, c06⟩ := P3.out
        obtain ⟨l1, c10, c11, c12, c13, c14, c15, c16⟩ := Q3.out
        obtain ⟨l2, c20, c21, c22, c23, c24, c25, c26⟩ := R3.out
        go_wp2_with (fail)
        refine (over_any _ _ _).mono ?_
        rintro e w4 ⟨rfl, hb⟩
        have H4 := Lib.hid (below_on (H3.out) hb)
        have P4 := Lib.hid (P3.out.on hb)
        have Q4 := Lib.hid (Q3.out.on hb)
        have R4 := Lib.hid (R3.out.on hb)
        clear P3 Q3 R3 H3 l0 c00 c01 c02 c03 c04 c05 c06 l1 c10 c11 c12 c13 c14 c15 c16 l2 c20 c21 c22 c23 c24 c25 c26
        clear hb
        obtain ⟨l0, c00, c01, c02, c03, c04, c05, c06⟩ := P4.out
        obtain ⟨l1, c10, c11, c12, c13, c14, c15, c16⟩ := Q4.out
        obtain ⟨l2, c20, c21, c22, c23, c24, c25, c26⟩ := R4.out
        go_wp2_with (fail)
        refine (over_any _ _ _).mono ?_
        rintro e w5 ⟨rfl, hb⟩
        have H5 := Lib.hid (below_on (H4.out) hb)
        have P5 := Lib.hid (P4.out.on hb)
        have Q5 := Lib.hid (Q4.out.on hb)
        have R5 := Lib.hid (R4.out.on hb)
        clear P4 Q4 R4 H4 l0 c00 c01 c02 c03 c04 c05 c06 l1 c10 c11 c12 c13 c14 c15 c16 l2 c20 c21 c22 c23 c24 c25 c26
        clear hb
        obtain ⟨l0, c00, c01, c02, c03, c04, c05, c06⟩ := P5.out
        obtain ⟨l1, c10, c11, c12, c13, c14, c15, c16⟩ := Q5.out
        obtain ⟨l2, c20, c21, c22, c23, c24, c25, c26⟩ := R5.out
        go_wp2_with (fail)
        refine (awake_any _).mono ?_
        rintro e w6 ⟨rfl, hb⟩
        have H6 := Lib.hid (below_on (H5.out) hb)
        have P6 := Lib.hid (P5.out.on hb)
        have Q6 := Lib.hid (Q5.out.on hb)
        have R6 := Lib.hid (R5.out.on hb)
        clear P5 Q5 R5 H5 l0 c00 c01 c02 c03 c04 c05 c06 l1 c10 c11 c12 c13 c14 c15 c16 l2 c20 c21 c22 c23 c24 c25 c26
        clear hb
        go_wp2
        go_ret
        exact ⟨rfl, H6.out⟩
      · have e4 := M.over_trans e1 e3
        go_enter Try.func7, Try.ntmps7
        go_wp2_with (fail)
        refine (over_any _ _ _).mono ?_
        rintro e w1 ⟨rfl, hb⟩
        have H1 := Lib.hid (below_on (below_new (below_new (below_new (Below.refl _ _)))) hb)
        have P1 := Lib.hid ((((At7.new w  (a)).push (.cells #[.int .i64 (b 0), .int .i64 (b 1), .int .i64 (b 2), .int .i64 (b 3), .int .i64 (b 4), .int .i64 (b 5), .int .i64 (b 6)] 23)).push (.cells #[.int .i64 (c 0), .int .i64 (c 1), .int .i64 (c 2), .int .i64 (c 3), .int .i64 (c 4), .int .i64 (c 5), .int .i64 (c 6)] 23)).on hb)
        have Q1 := Lib.hid (((At7.new1 w (.cells #[.int .i64 (a 0), .int .i64 (a 1), .int .i64 (a 2), .int .i64 (a 3), .int .i64 (a 4), .int .i64 (a 5), .int .i64 (a 6)] 23) (b)).push (.cells #[.int .i64 (c 0), .int .i64 (c 1), .int .i64 (c 2), .int .i64 (c 3), .int .i64 (c 4), .int .i64 (c 5), .int .i64 (c 6)] 23)).on hb)
        have R1 := Lib.hid ((At7.new2 w (.cells #[.int .i64 (a 0), .int .i64 (a 1), .int .i64 (a 2), .int .i64 (a 3), .int .i64 (a 4), .int .i64 (a 5), .int .i64 (a 6)] 23) (.cells #[.int .i64 (b 0), .int .i64 (b 1), .int .i64 (b 2), .int .i64 (b 3), .int .i64 (b 4), .int .i64 (b 5), .int .i64 (b 6)] 23) (c)).on hb)
        clear hb
        obtain ⟨l0, c00, c01, c02, c03, c04, c05, c06⟩ := P1.out
        obtain ⟨l1, c10, c11, c12, c13, c14, c15, c16⟩ := Q1.out
        obtain ⟨l2, c20, c21, c22, c23, c24, c25, c26⟩ := R1.out
        go_wp2_with (fail)
        refine (over_any _ _ _).mono ?_
        rintro e w2 ⟨rfl, hb⟩
        have H2 := Lib.hid (below_on (H1.out) hb)
        have P2 := Lib.hid (P1.out.on hb)
        have Q2 := Lib.hid (Q1.out.on hb)
        have R2 := Lib.hid (R1.out.on hb)
        clear P1 Q1 R1 H1 l0 c00 c01 c02 c03 c04 c05 c06 l1 c10 c11 c12 c13 c14 c15 c16 l2 c20 c21 c22 c23 c24 c25 c26
        clear hb
        obtain ⟨l0, c00, c01, c02, c03, c04, c05, c06⟩ := P2.out
        obtain ⟨l1, c10, c11, c12, c13, c14, c15, c16⟩ := Q2.out
        obtain ⟨l2, c20, c21, c22, c23, c24, c25, c26⟩ := R2.out
        go_wp2_with (fail)
        refine (over_any _ _ _).mono ?_
        rintro e w3 ⟨rfl, hb⟩
        have H3 := Lib.hid (below_on (H2.out) hb)
        have P3 := Lib.hid (P2.out.on hb)
        have Q3 := Lib.hid (Q2.out.on hb)
        have R3 := Lib.hid (R2.out.on hb)
        clear P2 Q2 R2 H2 l0 c00 c01 c02 c03 c04 c05 c06 l1 c10 c11 c12 c13 c14 c15 c16 l2 c20 c21 c22 c23 c24 c25 c26
        clear hb
        obtain ⟨l0, c00, c01, c02, c03, c04, c05, c06⟩ := P3.out
        obtain ⟨l1, c10, c11, c12, c13, c14, c15, c16⟩ := Q3.out
        obtain ⟨l2, c20, c21, c22, c23, c24, c25, c26⟩ := R3.out
        go_wp2_with (fail)
        refine (over_any _ _ _).mono ?_
        rintro e w4 ⟨rfl, hb⟩
        have H4 := Lib.hid (below_on (H3.out) hb)
        have P4 := Lib.hid (P3.out.on hb)
        have Q4 := Lib.hid (Q3.out.on hb)
        have R4 := Lib.hid (R3.out.on hb)
        clear P3 Q3 R3 H3 l0 c00 c01 c02 c03 c04 c05 c06 l1 c10 c11 c12 c13 c14 c15 c16 l2 c20 c21 c22 c23 c24 c25 c26
        clear hb
        obtain ⟨l0, c00, c01, c02, c03, c04, c05, c06⟩ := P4.out
        obtain ⟨l1, c10, c11, c12, c13, c14, c15, c16⟩ := Q4.out
        obtain ⟨l2, c20, c21, c22, c23, c24, c25, c26⟩ := R4.out
        go_wp2_with (fail)
        refine (over_any _ _ _).mono ?_
        rintro e w5 ⟨rfl, hb⟩
        have H5 := Lib.hid (below_on (H4.out) hb)
        have P5 := Lib.hid (P4.out.on hb)
        have Q5 := Lib.hid (Q4.out.on hb)
        have R5 := Lib.hid (R4.out.on hb)
        clear P4 Q4 R4 H4 l0 c00 c01 c02 c03 c04 c05 c06 l1 c10 c11 c12 c13 c14 c15 c16 l2 c20 c21 c22 c23 c24 c25 c26
        clear hb
        obtain ⟨l0, c00, c01, c02, c03, c04, c05, c06⟩ := P5.out
        obtain ⟨l1, c10, c11, c12, c13, c14, c15, c16⟩ := Q5.out
        obtain ⟨l2, c20, c21, c22, c23, c24, c25, c26⟩ := R5.out
        go_wp2_with (fail)
        refine (over_any _ _ _).mono ?_
        rintro e w6 ⟨rfl, hb⟩
        have H6 := Lib.hid (below_on (H5.out) hb)
        have P6 := Lib.hid (P5.out.on hb)
        have Q6 := Lib.hid (Q5.out.on hb)
        have R6 := Lib.hid (R5.out.on hb)
        clear P5 Q5 R5 H5 l0 c00 c01 c02 c03 c04 c05 c06 l1 c10 c11 c12 c13 c14 c15 c16 l2 c20 c21 c22 c23 c24 c25 c26
        clear hb
        obtain ⟨l0, c00, c01, c02, c03, c04, c05, c06⟩ := P6.out
        obtain ⟨l1, c10, c11, c12, c13, c14, c15, c16⟩ := Q6.out
        obtain ⟨l2, c20, c21, c22, c23, c24, c25, c26⟩ := R6.out
        go_wp2_with (fail)
        refine (awake_any _).mono ?_
        rintro e w7 ⟨rfl, hb⟩
        have H7 := Lib.hid (below_on (H6.out) hb)
        have P7 := Lib.hid (P6.out.on hb)
        have Q7 := Lib.hid (Q6.out.on hb)
        have R7 := Lib.hid (R6.out.on hb)
        clear P6 Q6 R6 H6 l0 c00 c01 c02 c03 c04 c05 c06 l1 c10 c11 c12 c13 c14 c15 c16 l2 c20 c21 c22 c23 c24 c25 c26
        clear hb
        go_wp2
        go_ret
        exact ⟨rfl, H7.out⟩
    · have e5 := M.over_anti e1 e2
      cases e3 : M.over b c
      · skip
        go_enter Try.func7, Try.ntmps7
        go_wp2_with (fail)
        refine (over_any _ _ _).mono ?_
        rintro e w1 ⟨rfl, hb⟩
        have H1 := Lib.hid (below_on (below_new (below_new (below_new (Below.refl _ _)))) hb)
        have P1 := Lib.hid ((((At7.new w  (a)).push (.cells #[.int .i64 (b 0), .int .i64 (b 1), .int .i64 (b 2), .int .i64 (b 3), .int .i64 (b 4), .int .i64 (b 5), .int .i64 (b 6)] 23)).push (.cells #[.int .i64 (c 0), .int .i64 (c 1), .int .i64 (c 2), .int .i64 (c 3), .int .i64 (c 4), .int .i64 (c 5), .int .i64 (c 6)] 23)).on hb)
        have Q1 := Lib.hid (((At7.new1 w (.cells #[.int .i64 (a 0), .int .i64 (a 1), .int .i64 (a 2), .int .i64 (a 3), .int .i64 (a 4), .int .i64 (a 5), .int .i64 (a 6)] 23) (b)).push (.cells #[.int .i64 (c 0), .int .i64 (c 1), .int .i64 (c 2), .int .i64 (c 3), .int .i64 (c 4), .int .i64 (c 5), .int .i64 (c 6)] 23)).on hb)
        have R1 := Lib.hid ((At7.new2 w (.cells #[.int .i64 (a 0), .int .i64 (a 1), .int .i64 (a 2), .int .i64 (a 3), .int .i64 (a 4), .int .i64 (a 5), .int .i64 (a 6)] 23) (.cells #[.int .i64 (b 0), .int .i64 (b 1), .int .i64 (b 2), .int .i64 (b 3), .int .i64 (b 4), .int .i64 (b 5), .int .i64 (b 6)] 23) (c)).on hb)
        clear hb
        obtain ⟨l0, c00, c01, c02, c03, c04, c05, c06⟩ := P1.out
        obtain ⟨l1, c10, c11, c12, c13, c14, c15, c16⟩ := Q1.out
        obtain ⟨l2, c20, c21, c22, c23, c24, c25, c26⟩ := R1.out
        go_wp2_with (fail)
        refine (over_any _ _ _).mono ?_
        rintro e w2 ⟨rfl, hb⟩
        have H2 := Lib.hid (below_on (H1.out) hb)
        have P2 := Lib.hid (P1.out.on hb)
        have Q2 := Lib.hid (Q1.out.on hb)
        have R2 := Lib.hid (R1.out.on hb)
        clear P1 Q1 R1 H1 l0 c00 c01 c02 c03 c04 c05 c06 l1 c10 c11 c12 c13 c14 c15 c16 l2 c20 c21 c22 c23 c24 c25 c26
        clear hb
        obtain ⟨l0, c00, c01, c02, c03, c04, c05, c06⟩ := P2.out
        obtain ⟨l1, c10, c11, c12, c13, c14, c15, c16⟩ := Q2.out
        obtain ⟨l2, c20, c21, c22, c23, c24, c25, c26⟩ := R2.out
        go_wp2_with (fail)
        refine (over_any _ _ _).mono ?_
        rintro e w3 ⟨rfl, hb⟩
        have H3 := Lib.hid (below_on (H2.out) hb)
        have P3 := Lib.hid (P2.out.on hb)
        have Q3 := Lib.hid (Q2.out.on hb)
        have R3 := Lib.hid (R2.out.on hb)
        clear P2 Q2 R2 H2 l0 c00 c01 c02 c03 c04 c05 c06 l1 c10 c11 c12 c13 c14 c15 c16 l2 c20 c21 c22 c23 c24 c25 c26
        clear hb
        obtain ⟨l0, c00, c01, c02, c03, c04, c05, c06⟩ := P3.out
        obtain ⟨l1, c10, c11, c12, c13, c14, c15, c16⟩ := Q3.out
        obtain ⟨l2, c20, c21, c22, c23, c24, c25, c26⟩ := R3.out
        go_wp2_with (fail)
        refine (over_any _ _ _).mono ?_
        rintro e w4 ⟨rfl, hb⟩
        have H4 := Lib.hid (below_on (H3.out) hb)
        have P4 := Lib.hid (P3.out.on hb)
        have Q4 := Lib.hid (Q3.out.on hb)
        have R4 := Lib.hid (R3.out.on hb)
        clear P3 Q3 R3 H3 l0 c00 c01 c02 c03 c04 c05 c06 l1 c10 c11 c12 c13 c14 c15 c16 l2 c20 c21 c22 c23 c24 c25 c26
        clear hb
        obtain ⟨l0, c00, c01, c02, c03, c04, c05, c06⟩ := P4.out
        obtain ⟨l1, c10, c11, c12, c13, c14, c15, c16⟩ := Q4.out
        obtain ⟨l2, c20, c21, c22, c23, c24, c25, c26⟩ := R4.out
        go_wp2_with (fail)
        refine (over_any _ _ _).mono ?_
        rintro e w5 ⟨rfl, hb⟩
        have H5 := Lib.hid (below_on (H4.out) hb)
        have P5 := Lib.hid (P4.out.on hb)
        have Q5 := Lib.hid (Q4.out.on hb)
        have R5 := Lib.hid (R4.out.on hb)
        clear P4 Q4 R4 H4 l0 c00 c01 c02 c03 c04 c05 c06 l1 c10 c11 c12 c13 c14 c15 c16 l2 c20 c21 c22 c23 c24 c25 c26
        clear hb
        obtain ⟨l0, c00, c01, c02, c03, c04, c05, c06⟩ := P5.out
        obtain ⟨l1, c10, c11, c12, c13, c14, c15, c16⟩ := Q5.out
        obtain ⟨l2, c20, c21, c22, c23, c24, c25, c26⟩ := R5.out
        go_wp2_with (fail)
        refine (awake_any _).mono ?_
        rintro e w6 ⟨rfl, hb⟩
        have H6 := Lib.hid (below_on (H5.out) hb)
        have P6 := Lib.hid (P5.out.on hb)
        have Q6 := Lib.hid (Q5.out.on hb)
        have R6 := Lib.hid (R5.out.on hb)
        clear P5 Q5 R5 H5 l0 c00 c01 c02 c03 c04 c05 c06 l1 c10 c11 c12 c13 c14 c15 c16 l2 c20 c21 c22 c23 c24 c25 c26
        clear hb
        go_wp2
        go_ret
        exact ⟨rfl, H6.out⟩
      · have e4 := M.over_trans e1 e3
        go_enter Try.func7, Try.ntmps7
        go_wp2_with (fail)
        refine (over_any _ _ _).mono ?_
        rintro e w1 ⟨rfl, hb⟩
        have H1 := Lib.hid (below_on (below_new (below_new (below_new (Below.refl _ _)))) hb)
        have P1 := Lib.hid ((((At7.new w  (a)).push (.cells #[.int .i64 (b 0), .int .i64 (b 1), .int .i64 (b 2), .int .i64 (b 3), .int .i64 (b 4), .int .i64 (b 5), .int .i64 (b 6)] 23)).push (.cells #[.int .i64 (c 0), .int .i64 (c 1), .int .i64 (c 2), .int .i64 (c 3), .int .i64 (c 4), .int .i64 (c 5), .int .i64 (c 6)] 23)).on hb)
        have Q1 := Lib.hid (((At7.new1 w (.cells #[.int .i64 (a 0), .int .i64 (a 1), .int .i64 (a 2), .int .i64 (a 3), .int .i64 (a 4), .int .i64 (a 5), .int .i64 (a 6)] 23) (b)).push (.cells #[.int .i64 (c 0), .int .i64 (c 1), .int .i64 (c 2), .int .i64 (c 3), .int .i64 (c 4), .int .i64 (c 5), .int .i64 (c 6)] 23)).on hb)
        have R1 := Lib.hid ((At7.new2 w (.cells #[.int .i64 (a 0), .int .i64 (a 1), .int .i64 (a 2), .int .i64 (a 3), .int .i64 (a 4), .int .i64 (a 5), .int .i64 (a 6)] 23) (.cells #[.int .i64 (b 0), .int .i64 (b 1), .int .i64 (b 2), .int .i64 (b 3), .int .i64 (b 4), .int .i64 (b 5), .int .i64 (b 6)] 23) (c)).on hb)
        clear hb
        obtain ⟨l0, c00, c01, c02, c03, c04, c05, c06⟩ := P1.out
        obtain ⟨l1, c10, c11, c12, c13, c14, c15, c16⟩ := Q1.out
        obtain ⟨l2, c20, c21, c22, c23, c24, c25, c26⟩ := R1.out
        go_wp2_with (fail)
        refine (over_any _ _ _).mono ?_
        rintro e w2 ⟨rfl, hb⟩
        have H2 := Lib.hid (below_on (H1.out) hb)
        have P2 := Lib.hid (P1.out.on hb)
        have Q2 := Lib.hid (Q1.out.on hb)
        have R2 := Lib.hid (R1.out.on hb)
        clear P1 Q1 R1 H1 l0 c00 c01 c02 c03 c04 c05 c06 l1 c10 c11 c12 c13 c14 c15 c16 l2 c20 c21 c22 c23 c24 c25 c26
        clear hb
        obtain ⟨l0, c00, c01, c02, c03, c04, c05, c06⟩ := P2.out
        obtain ⟨l1, c10, c11, c12, c13, c14, c15, c16⟩ := Q2.out
        obtain ⟨l2, c20, c21, c22, c23, c24, c25, c26⟩ := R2.out
        go_wp2_with (fail)
        refine (over_any _ _ _).mono ?_
        rintro e w3 ⟨rfl, hb⟩
        have H3 := Lib.hid (below_on (H2.out) hb)
        have P3 := Lib.hid (P2.out.on hb)
        have Q3 := Lib.hid (Q2.out.on hb)
        have R3 := Lib.hid (R2.out.on hb)
        clear P2 Q2 R2 H2 l0 c00 c01 c02 c03 c04 c05 c06 l1 c10 c11 c12 c13 c14 c15 c16 l2 c20 c21 c22 c23 c24 c25 c26
        clear hb
        obtain ⟨l0, c00, c01, c02, c03, c04, c05, c06⟩ := P3.out
        obtain ⟨l1, c10, c11, c12, c13, c14, c15, c16⟩ := Q3.out
        obtain ⟨l2, c20, c21, c22, c23, c24, c25, c26⟩ := R3.out
        go_wp2_with (fail)
        refine (over_any _ _ _).mono ?_
        rintro e w4 ⟨rfl, hb⟩
        have H4 := Lib.hid (below_on (H3.out) hb)
        have P4 := Lib.hid (P3.out.on hb)
        have Q4 := Lib.hid (Q3.out.on hb)
        have R4 := Lib.hid (R3.out.on hb)
        clear P3 Q3 R3 H3 l0 c00 c01 c02 c03 c04 c05 c06 l1 c10 c11 c12 c13 c14 c15 c16 l2 c20 c21 c22 c23 c24 c25 c26
        clear hb
        obtain ⟨l0, c00, c01, c02, c03, c04, c05, c06⟩ := P4.out
        obtain ⟨l1, c10, c11, c12, c13, c14, c15, c16⟩ := Q4.out
        obtain ⟨l2, c20, c21, c22, c23, c24, c25, c26⟩ := R4.out
        go_wp2_with (fail)
        refine (over_any _ _ _).mono ?_
        rintro e w5 ⟨rfl, hb⟩
        have H5 := Lib.hid (below_on (H4.out) hb)
        have P5 := Lib.hid (P4.out.on hb)
        have Q5 := Lib.hid (Q4.out.on hb)
        have R5 := Lib.hid (R4.out.on hb)
        clear P4 Q4 R4 H4 l0 c00 c01 c02 c03 c04 c05 c06 l1 c10 c11 c12 c13 c14 c15 c16 l2 c20 c21 c22 c23 c24 c25 c26
        clear hb
        obtain ⟨l0, c00, c01, c02, c03, c04, c05, c06⟩ := P5.out
        obtain ⟨l1, c10, c11, c12, c13, c14, c15, c16⟩ := Q5.out
        obtain ⟨l2, c20, c21, c22, c23, c24, c25, c26⟩ := R5.out
        go_wp2_with (fail)
        refine (over_any _ _ _).mono ?_
        rintro e w6 ⟨rfl, hb⟩
        have H6 := Lib.hid (below_on (H5.out) hb)
        have P6 := Lib.hid (P5.out.on hb)
        have Q6 := Lib.hid (Q5.out.on hb)
        have R6 := Lib.hid (R5.out.on hb)
        clear P5 Q5 R5 H5 l0 c00 c01 c02 c03 c04 c05 c06 l1 c10 c11 c12 c13 c14 c15 c16 l2 c20 c21 c22 c23 c24 c25 c26
        clear hb
        obtain ⟨l0, c00, c01, c02, c03, c04, c05, c06⟩ := P6.out
        obtain ⟨l1, c10, c11, c12, c13, c14, c15, c16⟩ := Q6.out
        obtain ⟨l2, c20, c21, c22, c23, c24, c25, c26⟩ := R6.out
        go_wp2_with (fail)
        refine (awake_any _).mono ?_
        rintro e w7 ⟨rfl, hb⟩
        have H7 := Lib.hid (below_on (H6.out) hb)
        have P7 := Lib.hid (P6.out.on hb)
        have Q7 := Lib.hid (Q6.out.on hb)
        have R7 := Lib.hid (R6.out.on hb)
        clear P6 Q6 R6 H6 l0 c00 c01 c02 c03 c04 c05 c06 l1 c10 c11 c12 c13 c14 c15 c16 l2 c20 c21 c22 c23 c24 c25 c26
        clear hb
        go_wp2
        go_ret
        exact ⟨rfl, H7.out⟩

end Go.Proofs.Ytcombmifjimkoaa
