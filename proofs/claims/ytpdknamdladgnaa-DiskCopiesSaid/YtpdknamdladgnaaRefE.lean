/- Contract of the document's Crash; no conditions but the lengths that they name. -/
import Derived.Test.YtpdknamdladgnaaRefD
import Derived.Test.YtpdknamdladgnaaDkD
namespace Go.Proofs.Ytpdknamdladgnaa
open Go.RowKit

theorem crash_syn {z : Nat} {a b : List UInt8} {keep pos : Int} {mask : UInt8} (ho : M.Ok ⟨z, a ++ b, a.length⟩) : M.crash keep pos mask ⟨z, a ++ b, a.length⟩ = M.syn ⟨z, a ++ M.loose b pos mask (M.left keep ⟨z, a ++ b, a.length⟩), a.length⟩ := by
  have e := M.fell_loose ho keep pos mask
  simp only [List.take_left, List.drop_left] at e
  rw [M.crash, M.syn, e]
  simp [M.loose_len]

/-- One byte more, in a block of its own. -/
theorem one_new (w : World) (x : UInt8) : Bts (w.alloc (.cells #[.int .u8 (x.toNat : Int)] 5)) (.slice (some ⟨w.heap.size, 0, none⟩) 1 1) [x] := (Blk.new w [x]).bts

set_option maxHeartbeats 4000000 in
theorem rcrash_any {w : World} {R : Nat → Prop} {r : Value} {s : M.St} (h : Doc w R r s) (keep pos : Int) (mask : UInt8) : Calls Try.prog 30 #[r, .int .i64 keep, .int .i64 pos, .int .u8 (mask.toNat : Int)] w (Told (fun q => .returned q) w R (M.crash keep pos mask s)) := by
  have HD := Lib.hid h
  obtain ⟨z, a, b, A1, c1, A2, c2, rfl, rfl, h1, h2, i1, i2, hR, hc1, hc2, hl, hz⟩ := h.opened
  rw [crash_syn h.ok]
  have hLe : M.left keep ⟨z, a ++ b, a.length⟩ = min (max keep 0).toNat b.length := by simp [M.left]
  generalize M.left keep ⟨z, a ++ b, a.length⟩ = L at *
  have hL1 : L ≤ b.length := by omega
  have HL := Lib.hid hLe
  obtain ⟨W, hW⟩ : ∃ W, W = ((w.alloc (.cells #[.slice A1 a.length c1, .slice A2 b.length c2, .int .i64 z] 29)).alloc (.cells #[.slice none 0 0, .slice none 0 0, .int .i64 0] 29)) := ⟨_, rfl⟩
  have nb : Below w.heap.size w W := by rw [hW]; exact below_new (below_new (Below.refl _ _))
  have hs : W.heap.size = w.heap.size + 2 := by rw [hW]; simp
  have hX : Box W w.heap.size (.slice A1 a.length c1) (.slice A2 b.length c2) z := by rw [hW]; exact (Box.new w _ _ _).below (below_new (Below.refl _ _))
  have hY : Box W (w.heap.size + 1) (.slice none 0 0) (.slice none 0 0) 0 := by
    rw [hW]
    have := (Box.new (w.alloc (.cells #[.slice A1 a.length c1, .slice A2 b.length c2, .int .i64 z] 29)) (.slice none 0 0) (.slice none 0 0) 0)
    rwa [show (w.alloc (.cells #[.slice A1 a.length c1, .slice A2 b.length c2, .int .i64 z] 29)).heap.size = w.heap.size + 1 by simp] at this
  have HX := Lib.hid hX
  have HY := Lib.hid hY
  have NB := Lib.hid nb
  have HS := Lib.hid hs
  have HR := Lib.hid hR
  have H1 := Lib.hid h1
  have H2 := Lib.hid (show Bts W (.slice A2 b.length c2) b from h2.below nb)
  have I1 := Lib.hid i1
  clear h h1 h2 i1 i2 hR nb hs hX hY hLe
  go_enter Try.func30, Try.ntmps30
  go_wp2
  rw [← hW]
  clear hW
  go_loopw [9, 10, 11] (fun lf i _ wr => ∃ k : Nat, k ≤ L ∧ i = .int .i64 k ∧ Below W.heap.size W wr ∧ OwnB (fun x => W.heap.size ≤ x ∧ x < wr.heap.size) wr lf (M.loose b pos mask k)) (fun _ i _ _ => L - (intOf i).toNat)
  case atStart => exact ⟨0, Nat.zero_le _, rfl, Below.refl _ _, OwnB.nil _ _⟩
  case round =>
    obtain ⟨k, hk, rfl, hbw, ho⟩ := hrel
    obtain ⟨t0, t1, t2⟩ := (HX.out.below hbw).at_
    have l1 := (HX.out.below hbw).lt
    have l2 := (HY.out.below hbw).lt
    have HBW := Lib.hid hbw
    have HO := Lib.hid ho
    clear hbw ho
    by_cases hlt : k < L
    · have hb1 : (k : Int) < (b.length : Int) := by omega
      have hb2 : (k : Int) < keep := by have := HL.out; omega
      obtain ⟨A', c', e, -, hy⟩ := (H2.out.below HBW.out).opened
      cases e
      obtain ⟨bb, oo, rfl, hbb, hcc⟩ := hy (by omega)
      have hcell := hcc k (by omega)
      clear hy hcc
      by_cases hp : (k : Int) = pos
      · have hx := xor8 (b.getD k 0) mask
        have HQ := Lib.hid (M.loose_succ b pos mask k)
        rw [if_pos hp] at HQ
        have q1 : ((k : Int) == pos) = true := by rw [hp]; simp
        obtain ⟨x, hxx⟩ : ∃ x, x = b.getD k 0 ^^^ mask := ⟨_, rfl⟩
        rw [← hxx] at hx HQ
        generalize b.getD k 0 = y at *
        clear hxx hp
        obtain ⟨v3, w3, hr3, ho3, hg3⟩ := append_b (HO.out.below (below_new (o := .cells #[.int .u8 (x.toNat : Int)] 5) (Below.refl _ _))) (one_new wr x) (by rw [M.loose_len]; simp; omega)
        obtain ⟨A3, c3, e3, -⟩ := (HO.out).slice
        rw [M.loose_len] at e3
        subst e3
        have hb3 : Below W.heap.size W w3 := (below_new (o := .cells #[.int .u8 (x.toNat : Int)] 5) HBW.out).grown hg3 (by have := HBW.out.size; simp; omega) (fun j e => (HO.out.in_ j e).1)
        have HB3 := Lib.hid hb3
        have HO3 := Lib.hid (show OwnB (fun x => W.heap.size ≤ x ∧ x < w3.heap.size) w3 v3 (M.loose b pos mask (k + 1)) from by
          rw [HQ.out]
          refine ho3.wide fun j e => ?_
          have z1 := hg3.size
          have z2 := HBW.out.size
          simp at e z1
          omega)
        obtain ⟨A4, c4, e4, -⟩ := HO3.out.slice
        rw [M.loose_len] at e4
        subst e4
        clear hb3 ho3 hg3
        go_wp2_with (at_builtin; refine Lib.wpList_append_run _ rfl _ _ _ _ rfl _ _ rfl rfl _ _ hr3 ?_)
        go_roundw
        case rel => exact ⟨k + 1, by omega, by go_num, HB3.out, HO3.out⟩
        case measure => simp [intOf]; omega
      · have HQ := Lib.hid (M.loose_succ b pos mask k)
        rw [if_neg hp] at HQ
        have q1 : ((k : Int) == pos) = false := by rw [beq_eq_false_iff_ne]; exact hp
        generalize b.getD k 0 = x at *
        clear hp
        obtain ⟨v3, w3, hr3, ho3, hg3⟩ := append_b (HO.out.below (below_new (o := .cells #[.int .u8 (x.toNat : Int)] 5) (Below.refl _ _))) (one_new wr x) (by rw [M.loose_len]; simp; omega)
        obtain ⟨A3, c3, e3, -⟩ := (HO.out).slice
        rw [M.loose_len] at e3
        subst e3
        have hb3 : Below W.heap.size W w3 := (below_new (o := .cells #[.int .u8 (x.toNat : Int)] 5) HBW.out).grown hg3 (by have := HBW.out.size; simp; omega) (fun j e => (HO.out.in_ j e).1)
        have HB3 := Lib.hid hb3
        have HO3 := Lib.hid (show OwnB (fun x => W.heap.size ≤ x ∧ x < w3.heap.size) w3 v3 (M.loose b pos mask (k + 1)) from by
          rw [HQ.out]
          refine ho3.wide fun j e => ?_
          have z1 := hg3.size
          have z2 := HBW.out.size
          simp at e z1
          omega)
        obtain ⟨A4, c4, e4, -⟩ := HO3.out.slice
        rw [M.loose_len] at e4
        subst e4
        clear hb3 ho3 hg3
        go_wp2_with (at_builtin; refine Lib.wpList_append_run _ rfl _ _ _ _ rfl _ _ rfl rfl _ _ hr3 ?_)
        go_roundw
        case rel => exact ⟨k + 1, by omega, by go_num, HB3.out, HO3.out⟩
        case measure => simp [intOf]; omega
    · obtain rfl : k = L := by omega
      obtain ⟨A3, c3, e3, -⟩ := HO.out.slice
      rw [M.loose_len] at e3
      subst e3
      have hX := HX.out.below HBW.out
      have hX2 := hX.set1 (.slice A3 k c3)
      have f1 := hX.unfrozen 1
      have k1 := (Keeps.refl (fun j => j = w.heap.size) wr).setCell (p := ⟨w.heap.size, 1, none⟩) (.inl rfl) (.slice A3 k c3)
      have hY2 := (HY.out.below HBW.out).keeps k1 (by omega)
      obtain ⟨r0, r1, r2⟩ := hX2.at_
      have hs := HS.out
      have hz1 := HBW.out.size
      have bw := NB.out.trans (HBW.out.mono NB.out.size)
      have b2 := bw.trans (k1.below (B := w.heap.size) (fun x e => by omega) (by omega))
      have D2 := Lib.hid (Doc.mk (R := fun x => R x ∨ (W.heap.size ≤ x ∧ x < wr.heap.size)) (H1.out.below b2) (HO.out.keeps k1 (fun x e eg => by omega)).bts (I1.out.wide fun _ e => .inl e) (HO.out.in_.wide fun _ e => .inr e) (fun x e => by
        have := k1.size
        rcases e with e | e
        · have := HR.out x e; omega
        · omega) (by rw [M.loose_len]; omega) hz)
      have HY2 := Lib.hid hY2
      have B2 := Lib.hid b2
      have l3 := hX2.lt
      have l4 := hY2.lt
      have hz2 := k1.size
      clear hX hX2 k1 hY2 bw b2
      by_cases hkb : k < b.length
      · have hb1 : (k : Int) < (b.length : Int) := by omega
        have hb2 : keep ≤ (k : Int) := by have := HL.out; omega
        go_wp2_with (fail)
        refine (rsync_any D2.out).mono ?_
        rintro e w4 ⟨q, R', rfl, hd, hb4, hr⟩
        obtain ⟨z5, a5, b5, A5, c5, A6, c6, e5, rfl, p1, p2, j1, j2, hR5, -, -, hl5, hz5⟩ := hd.opened
        have hY4 := HY2.out.below hb4
        have T := Lib.hid (fill_told (x := fun q => .returned q) (R := R) (B2.out.trans (hb4.mono B2.out.size)) hY4 (by omega) p1 p2 j1 j2 (fun e => by
          have e' := hr _ e
          rw [size_set] at e'
          rcases e' with (e' | e') | e'
          · have := HR.out _ e'; omega
          · omega
          · omega) hR5 (fun x e => by
          have e' := hr x e
          rw [size_set] at e'
          rcases e' with (e' | e') | e'
          · exact .inl e'
          · exact .inr (by omega)
          · exact .inr (by omega)) hl5 hz5)
        rw [← e5] at T
        have g0 := hY4.unfrozen 0
        have g1 := hY4.unfrozen 1
        have g2 := hY4.unfrozen 2
        obtain ⟨v0, v1, v2⟩ := hY4.at_
        obtain ⟨y0, y1, y2⟩ := (hY4.fill (.slice A5 a5.length c5) (.slice A6 b5.length c6) z5).at_
        have l5 := hY4.lt
        clear e5 p1 p2 j1 j2 hR5 hl5 hz5 hd hb4 hr hY4
        go_wp2
        exact bodyPost_ret (v := .agg #[.slice A5 a5.length c5, .slice A6 b5.length c6, .int .i64 z5]) (by simp [results, Try.results30, go_sem, y0, y1, y2]) rfl T.out
      · have hb1 : (b.length : Int) ≤ (k : Int) := by omega
        go_wp2_with (fail)
        refine (rsync_any D2.out).mono ?_
        rintro e w4 ⟨q, R', rfl, hd, hb4, hr⟩
        obtain ⟨z5, a5, b5, A5, c5, A6, c6, e5, rfl, p1, p2, j1, j2, hR5, -, -, hl5, hz5⟩ := hd.opened
        have hY4 := HY2.out.below hb4
        have T := Lib.hid (fill_told (x := fun q => .returned q) (R := R) (B2.out.trans (hb4.mono B2.out.size)) hY4 (by omega) p1 p2 j1 j2 (fun e => by
          have e' := hr _ e
          rw [size_set] at e'
          rcases e' with (e' | e') | e'
          · have := HR.out _ e'; omega
          · omega
          · omega) hR5 (fun x e => by
          have e' := hr x e
          rw [size_set] at e'
          rcases e' with (e' | e') | e'
          · exact .inl e'
          · exact .inr (by omega)
          · exact .inr (by omega)) hl5 hz5)
        rw [← e5] at T
        have g0 := hY4.unfrozen 0
        have g1 := hY4.unfrozen 1
        have g2 := hY4.unfrozen 2
        obtain ⟨v0, v1, v2⟩ := hY4.at_
        obtain ⟨y0, y1, y2⟩ := (hY4.fill (.slice A5 a5.length c5) (.slice A6 b5.length c6) z5).at_
        have l5 := hY4.lt
        clear e5 p1 p2 j1 j2 hR5 hl5 hz5 hd hb4 hr hY4
        go_wp2
        exact bodyPost_ret (v := .agg #[.slice A5 a5.length c5, .slice A6 b5.length c6, .int .i64 z5]) (by simp [results, Try.results30, go_sem, y0, y1, y2]) rfl T.out
end Go.Proofs.Ytpdknamdladgnaa
