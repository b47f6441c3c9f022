/- A step in both disks: Cut; no conditions but what may be. -/
import Derived.Test.YtpdknamdladgnaaDoesB
namespace Go.Proofs.Ytpdknamdladgnaa
open Go.RowKit

theorem alike_cut (s t : M.St) (n p : Int) (m : UInt8) (bs : List UInt8) : M.alike s t ⟨2, n, p, m, bs⟩ = (M.cutE n t == M.cutE n s) := by
  rw [Bool.eq_iff_iff]
  simp [M.alike, M.err]
  exact eq_comm

set_option maxHeartbeats 4000000 in
theorem does_cut {w : World} {g : Nat} {F R : Nat → Prop} {r sv : Value} {s t : M.St} (n p : Int) (m : UInt8) {bs : List UInt8} (h : Disk w g F s) (h' : Doc w R r t) (hFR : ∀ x, F x → ¬ R x) (hB : Bts w sv bs) (hl : bs.length ≤ 1000000) :
    Calls Try.prog 14 #[.pointer (some ⟨g, 0, none⟩), r, .agg #[.int .i64 2, .int .i64 n, .int .i64 p, .int .u8 (m.toNat : Int), sv]] w (Does w g F R s t ⟨2, n, p, m, bs⟩) := by
  have HD := Lib.hid h
  have HR := Lib.hid h'
  have HFR := Lib.hid hFR
  obtain ⟨z, a, b, A1, c1, A2, c2, et, rfl, h1, h2, i1, i2, hR, hc1, hc2, hlz, hz⟩ := h'.opened
  obtain ⟨A3, c3, rfl, hc3, -⟩ := hB.opened
  obtain ⟨A0, c0, w1, hr, P⟩ := pre_any z a b A1 c1 A2 c2 2 n p m hB hl
  obtain ⟨x0, x1, x2⟩ := P.box.at_
  obtain ⟨d0, d1, d2, d3, d4⟩ := P.dbox.at_
  have PP := Lib.hid P
  have ET := Lib.hid et
  have L0 := Lib.hid h.lt
  have LR := Lib.hid h'.lt
  clear h h' hFR h1 h2 i1 i2 hR hB P et
  go_enter Try.func14, Try.ntmps14
  go_wp2_with (at_builtin; refine Lib.wpList_append_run _ rfl (.tmp 19) (.tmp 21) _ _ rfl _ _ rfl rfl _ _ hr ?_)
  refine (rcut_any (HR.out.below PP.out.below) n).mono ?_
  rintro e w2 ⟨q, R', rfl, hq, hb, hRR⟩
  have R2 := Lib.hid hq
  obtain ⟨z5, a5, b5, A5, c5, A6, c6, -, rfl, p1, p2, j1, j2, hR5, -, -, hl5, hz5⟩ := hq.opened
  have AL := Lib.hid (alike_cut s t n p m bs)
  generalize M.cutE n t = E1 at *
  have B2 := Lib.hid (below_on PP.out.below hb)
  have hY2 := PP.out.res.below hb
  have hE2 := PP.out.dbox.below hb
  obtain ⟨W3, hW3⟩ : ∃ W, W = w2.alloc (.cells #[.slice A5 a5.length c5, .slice A6 b5.length c6, .int .i64 z5] 29) := ⟨_, rfl⟩
  have b3 : Below w2.heap.size w2 W3 := by rw [hW3]; exact below_new (Below.refl _ _)
  have hQ : Box W3 w2.heap.size (.slice A5 a5.length c5) (.slice A6 b5.length c6) z5 := by rw [hW3]; exact Box.new w2 _ _ _
  have HY3 := Lib.hid (hY2.below b3)
  have HE3 := Lib.hid (hE2.below b3)
  have HQ3 := Lib.hid hQ
  have D3 := Lib.hid (HD.out.below (below_on B2.out b3))
  have R3 := Lib.hid (hq.below b3)
  have B3 := Lib.hid (below_on B2.out b3)
  have HZ := Lib.hid hb.size
  obtain ⟨t0, t1, t2⟩ := hQ.at_
  obtain ⟨k0, k1, k2, k3, k4⟩ := HE3.out.at_
  have ll := hQ.lt
  have HRR := Lib.hid hRR
  clear hq p1 p2 j1 j2 hR5 hb hRR hY2 hE2 b3 hQ x0 x1 x2 d0 d1 d2 d3 d4
  go_wp2
  rw [← hW3]
  clear hW3
  go_region_with (go_at_call 23; refine Calls.mono (cutD_any (s := s) (F := F) (by exact D3.out.below (Below.refl W3.heap.size W3).drew) n) ?_; intro e w4 hm; obtain ⟨rfl, hs⟩ := stept_drew hm; obtain ⟨F', hd, hk, hg⟩ := hs; have D4 := Lib.hid hd; have K4 := Lib.hid hk; have G4 := Lib.hid hg; have hQ4 := HQ3.out.keeps hk (fun e => by have := L0.out _ e; have := B2.out.size; omega); have hE4 := HE3.out.keeps hk (fun e => by have := L0.out _ e; omega); have hY4 := HY3.out.keeps hk (fun e => by have := L0.out _ e; omega); obtain ⟨u0, u1, u2⟩ := hQ4.at_; obtain ⟨l0, l1, l2, l3, l4⟩ := hE4.at_; have g0 := hY4.unfrozen 0; have g1 := hY4.unfrozen 1; have g2 := hY4.unfrozen 2; obtain ⟨v0, v1, v2⟩ := hY4.at_; have l5 := hY4.lt; have l6 := hQ4.lt; have HY4 := Lib.hid hY4; clear hm hd hk hg hQ4 hE4 hY4)
  all_goals
    obtain ⟨y0, y1, y2⟩ := (HY4.out.fill (.slice A5 a5.length c5) (.slice A6 b5.length c6) z5).at_
    have FIN := Lib.hid (does_fin (w := w) (w4 := w4) (b' := w.heap.size + 2) (z' := z5) (F := F) (F' := F') (R := R) (v := .slice A5 a5.length c5) (u := .slice A6 b5.length c6) D4.out (R3.out.keeps K4.out fun x e f => by
        have := L0.out x f
        have := PP.out.below.size
        rcases HRR.out x e with e' | e'
        · exact HFR.out x f e'
        · omega)
      ((Keeps.of_below (F := F) B3.out).trans K4.out fun _ _ e => e) ⟨fun x e => (G4.out.1 x e).imp id (fun e => by have := B3.out.size; omega), G4.out.2⟩ (fun x e => (HRR.out x e).imp id (fun e => by have := PP.out.below.size; omega))
      (fun x e f => by
        have e1 := G4.out.1 x e
        have f1 := R3.out.lt x f
        rcases e1 with e1 | e1
        · have := L0.out x e1
          have := PP.out.below.size
          rcases HRR.out x f with f | f
          · exact HFR.out x e1 f
          · omega
        · omega) (by omega)
      (fun e => by
        have e1 := G4.out.1 _ e
        have hy := HY3.out.lt
        rcases e1 with e1 | e1
        · have := L0.out _ e1; omega
        · omega)
      (fun e => by
        have hy := PP.out.res.lt
        rcases HRR.out _ e with f | f
        · have := LR.out _ f; omega
        · omega))
    clear t0 t1 t2 k0 k1 k2 k3 k4 u0 u1 u2 l0 l1 l2 l3 l4
    go_wp2
    exact bodyPost_ret (v := .tuple #[.agg #[.slice A5 a5.length c5, .slice A6 b5.length c6, .int .i64 z5], .bool (E1 == M.cutE n s)]) (by simp [results, Try.results14, go_sem, y0, y1, y2]) rfl (does_mk AL.out FIN.out)
end Go.Proofs.Ytpdknamdladgnaa
