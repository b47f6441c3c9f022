/- A step in both disks: Sync, Crash, none; no conditions but what may be. -/
import Derived.Test.YtpdknamdladgnaaDoes
namespace Go.Proofs.Ytpdknamdladgnaa
open Go.RowKit

theorem alike_sync (s t : M.St) (n p : Int) (m : UInt8) (bs : List UInt8) : M.alike s t ⟨1, n, p, m, bs⟩ = true := by simp [M.alike, M.err]
theorem alike_crash (s t : M.St) (n p : Int) (m : UInt8) (bs : List UInt8) : M.alike s t ⟨4, n, p, m, bs⟩ = true := by simp [M.alike, M.err]
theorem alike_none {s t : M.St} {d : M.Do} (h0 : d.verb ≠ 0) (h2 : d.verb ≠ 2) (h3 : d.verb ≠ 3) : M.alike s t d = true := by simp [M.alike, M.err, h0, h2, h3]

set_option maxHeartbeats 4000000 in
theorem does_sync {w : World} {g : Nat} {F R : Nat → Prop} {r sv : Value} {s t : M.St} (n p : Int) (m : UInt8) {bs : List UInt8} (h : Disk w g F s) (h' : Doc w R r t) (hFR : ∀ x, F x → ¬ R x) (hB : Bts w sv bs) (hl : bs.length ≤ 1000000) :
    Calls Try.prog 14 #[.pointer (some ⟨g, 0, none⟩), r, .agg #[.int .i64 1, .int .i64 n, .int .i64 p, .int .u8 (m.toNat : Int), sv]] w (Does w g F R s t ⟨1, n, p, m, bs⟩) := by
  have HD := Lib.hid h
  have HR := Lib.hid h'
  have HFR := Lib.hid hFR
  obtain ⟨z, a, b, A1, c1, A2, c2, et, rfl, h1, h2, i1, i2, hR, hc1, hc2, hlz, hz⟩ := h'.opened
  obtain ⟨A3, c3, rfl, hc3, -⟩ := hB.opened
  obtain ⟨A0, c0, w1, hr, P⟩ := pre_any z a b A1 c1 A2 c2 1 n p m hB hl
  obtain ⟨x0, x1, x2⟩ := P.box.at_
  obtain ⟨d0, d1, d2, d3, d4⟩ := P.dbox.at_
  have PP := Lib.hid P
  have ET := Lib.hid et
  have L0 := Lib.hid h.lt
  have LR := Lib.hid h'.lt
  clear h h' hFR h1 h2 i1 i2 hR hB P et
  go_enter Try.func14, Try.ntmps14
  go_wp2_with (at_builtin; refine Lib.wpList_append_run _ rfl (.tmp 19) (.tmp 21) _ _ rfl _ _ rfl rfl _ _ hr ?_)
  refine (sync_any (HD.out.below PP.out.below)).mono ?_
  rintro e w2 ⟨rfl, F', hd, hk, hg⟩
  have K2 := Lib.hid hk
  have D2 := Lib.hid hd
  have G2 := Lib.hid hg
  have hX2 := PP.out.box.keeps hk (fun e => by have := L0.out _ e; omega)
  have hE2 := PP.out.dbox.keeps hk (fun e => by have := L0.out _ e; omega)
  have hY2 := PP.out.res.keeps hk (fun e => by have := L0.out _ e; omega)
  have R2 := Lib.hid ((HR.out.below PP.out.below).keeps hk (fun x e f => HFR.out x f e))
  obtain ⟨t0, t1, t2⟩ := hX2.at_
  obtain ⟨k0, k1, k2, k3, k4⟩ := hE2.at_
  have HX := Lib.hid hX2
  have HY2 := Lib.hid hY2
  clear hd hk hg hX2 hE2 hY2 x0 x1 x2
  go_wp2_with (fail)
  refine (rsync_any R2.out).mono ?_
  rintro e w3 ⟨q, R', rfl, hq, hb, hRR⟩
  have R3 := Lib.hid hq
  obtain ⟨z5, a5, b5, A5, c5, A6, c6, -, rfl, p1, p2, j1, j2, hR5, -, -, hl5, hz5⟩ := hq.opened
  have hY3 := HY2.out.below hb
  have g0 := hY3.unfrozen 0
  have g1 := hY3.unfrozen 1
  have g2 := hY3.unfrozen 2
  obtain ⟨v0, v1, v2⟩ := hY3.at_
  obtain ⟨y0, y1, y2⟩ := (hY3.fill (.slice A5 a5.length c5) (.slice A6 b5.length c6) z5).at_
  have l5 := hY3.lt
  have hs1 := PP.out.below.size
  have hs2 := K2.out.size
  have hlt2 := HY2.out.lt
  have FIN := Lib.hid (does_fin (w := w) (w4 := w3) (b' := w.heap.size + 2) (z' := z5) (F := F) (F' := F') (R := R) (v := .slice A5 a5.length c5) (u := .slice A6 b5.length c6) (D2.out.below hb) R3.out
    (((Keeps.of_below (F := F) PP.out.below).trans K2.out fun _ _ e => e).on hb) ⟨fun x e => (G2.out.1 x e).imp id (fun e => by omega), fun x e => Nat.lt_of_lt_of_le (G2.out.2 x e) hb.size⟩ (fun x e => (hRR x e).imp id (fun e => by omega))
    (fun x e f => by
      have e1 := G2.out.1 x e
      have e2 := G2.out.2 x e
      rcases hRR x f with f | f
      · rcases e1 with e1 | e1
        · exact HFR.out x e1 f
        · have := LR.out x f; omega
      · omega) (by omega)
    (fun e => by
      have e1 := G2.out.1 _ e
      have hy := PP.out.res.lt
      rcases e1 with e1 | e1
      · have := L0.out _ e1; omega
      · omega)
    (fun e => by
      rcases hRR _ e with f | f
      · have := LR.out _ f; omega
      · omega))
  clear hq p1 p2 j1 j2 hR5 hb hRR hY3 hs1 hs2 hlt2 t0 t1 t2 k0 k1 k2 k3 k4
  go_wp2
  exact bodyPost_ret (v := .tuple #[.agg #[.slice A5 a5.length c5, .slice A6 b5.length c6, .int .i64 z5], .bool true]) (by simp [results, Try.results14, go_sem, y0, y1, y2]) rfl ⟨_, F', R', by rw [alike_sync], FIN.out⟩

set_option maxHeartbeats 4000000 in
theorem does_crash {w : World} {g : Nat} {F R : Nat → Prop} {r sv : Value} {s t : M.St} (n p : Int) (m : UInt8) {bs : List UInt8} (h : Disk w g F s) (h' : Doc w R r t) (hFR : ∀ x, F x → ¬ R x) (hB : Bts w sv bs) (hl : bs.length ≤ 1000000) :
    Calls Try.prog 14 #[.pointer (some ⟨g, 0, none⟩), r, .agg #[.int .i64 4, .int .i64 n, .int .i64 p, .int .u8 (m.toNat : Int), sv]] w (Does w g F R s t ⟨4, n, p, m, bs⟩) := by
  have HD := Lib.hid h
  have HR := Lib.hid h'
  have HFR := Lib.hid hFR
  obtain ⟨z, a, b, A1, c1, A2, c2, et, rfl, h1, h2, i1, i2, hR, hc1, hc2, hlz, hz⟩ := h'.opened
  obtain ⟨A3, c3, rfl, hc3, -⟩ := hB.opened
  obtain ⟨A0, c0, w1, hr, P⟩ := pre_any z a b A1 c1 A2 c2 4 n p m hB hl
  obtain ⟨x0, x1, x2⟩ := P.box.at_
  obtain ⟨d0, d1, d2, d3, d4⟩ := P.dbox.at_
  have PP := Lib.hid P
  have ET := Lib.hid et
  have L0 := Lib.hid h.lt
  have LR := Lib.hid h'.lt
  clear h h' hFR h1 h2 i1 i2 hR hB P et
  go_enter Try.func14, Try.ntmps14
  go_wp2_with (at_builtin; refine Lib.wpList_append_run _ rfl (.tmp 19) (.tmp 21) _ _ rfl _ _ rfl rfl _ _ hr ?_)
  refine ((fun h => crashD_any h n p m) (HD.out.below PP.out.below)).mono ?_
  rintro e w2 ⟨rfl, F', hd, hk, hg⟩
  have K2 := Lib.hid hk
  have D2 := Lib.hid hd
  have G2 := Lib.hid hg
  have hX2 := PP.out.box.keeps hk (fun e => by have := L0.out _ e; omega)
  have hE2 := PP.out.dbox.keeps hk (fun e => by have := L0.out _ e; omega)
  have hY2 := PP.out.res.keeps hk (fun e => by have := L0.out _ e; omega)
  have R2 := Lib.hid ((HR.out.below PP.out.below).keeps hk (fun x e f => HFR.out x f e))
  obtain ⟨t0, t1, t2⟩ := hX2.at_
  obtain ⟨k0, k1, k2, k3, k4⟩ := hE2.at_
  have HX := Lib.hid hX2
  have HY2 := Lib.hid hY2
  clear hd hk hg hX2 hE2 hY2 x0 x1 x2
  go_wp2_with (fail)
  refine (rcrash_any R2.out n p m).mono ?_
  rintro e w3 ⟨q, R', rfl, hq, hb, hRR⟩
  have R3 := Lib.hid hq
  obtain ⟨z5, a5, b5, A5, c5, A6, c6, -, rfl, p1, p2, j1, j2, hR5, -, -, hl5, hz5⟩ := hq.opened
  have hY3 := HY2.out.below hb
  have g0 := hY3.unfrozen 0
  have g1 := hY3.unfrozen 1
  have g2 := hY3.unfrozen 2
  obtain ⟨v0, v1, v2⟩ := hY3.at_
  obtain ⟨y0, y1, y2⟩ := (hY3.fill (.slice A5 a5.length c5) (.slice A6 b5.length c6) z5).at_
  have l5 := hY3.lt
  have hs1 := PP.out.below.size
  have hs2 := K2.out.size
  have hlt2 := HY2.out.lt
  have FIN := Lib.hid (does_fin (w := w) (w4 := w3) (b' := w.heap.size + 2) (z' := z5) (F := F) (F' := F') (R := R) (v := .slice A5 a5.length c5) (u := .slice A6 b5.length c6) (D2.out.below hb) R3.out
    (((Keeps.of_below (F := F) PP.out.below).trans K2.out fun _ _ e => e).on hb) ⟨fun x e => (G2.out.1 x e).imp id (fun e => by omega), fun x e => Nat.lt_of_lt_of_le (G2.out.2 x e) hb.size⟩ (fun x e => (hRR x e).imp id (fun e => by omega))
    (fun x e f => by
      have e1 := G2.out.1 x e
      have e2 := G2.out.2 x e
      rcases hRR x f with f | f
      · rcases e1 with e1 | e1
        · exact HFR.out x e1 f
        · have := LR.out x f; omega
      · omega) (by omega)
    (fun e => by
      have e1 := G2.out.1 _ e
      have hy := PP.out.res.lt
      rcases e1 with e1 | e1
      · have := L0.out _ e1; omega
      · omega)
    (fun e => by
      rcases hRR _ e with f | f
      · have := LR.out _ f; omega
      · omega))
  clear hq p1 p2 j1 j2 hR5 hb hRR hY3 hs1 hs2 hlt2 t0 t1 t2 k0 k1 k2 k3 k4
  go_wp2
  exact bodyPost_ret (v := .tuple #[.agg #[.slice A5 a5.length c5, .slice A6 b5.length c6, .int .i64 z5], .bool true]) (by simp [results, Try.results14, go_sem, y0, y1, y2]) rfl ⟨_, F', R', by rw [alike_crash], FIN.out⟩

set_option maxHeartbeats 4000000 in
theorem does_none {w : World} {g : Nat} {F R : Nat → Prop} {r sv : Value} {s t : M.St} (k : Int) (q0 : k ≠ 0) (q1 : k ≠ 1) (q2 : k ≠ 2) (q3 : k ≠ 3) (q4 : k ≠ 4) (n p : Int) (m : UInt8) {bs : List UInt8} (h : Disk w g F s) (h' : Doc w R r t) (hFR : ∀ x, F x → ¬ R x) (hB : Bts w sv bs) (hl : bs.length ≤ 1000000) :
    Calls Try.prog 14 #[.pointer (some ⟨g, 0, none⟩), r, .agg #[.int .i64 k, .int .i64 n, .int .i64 p, .int .u8 (m.toNat : Int), sv]] w (Does w g F R s t ⟨k, n, p, m, bs⟩) := by
  have HD := Lib.hid h
  have HR := Lib.hid h'
  have HFR := Lib.hid hFR
  obtain ⟨z, a, b, A1, c1, A2, c2, et, rfl, h1, h2, i1, i2, hR, hc1, hc2, hlz, hz⟩ := h'.opened
  obtain ⟨A3, c3, rfl, hc3, -⟩ := hB.opened
  obtain ⟨A0, c0, w1, hr, P⟩ := pre_any z a b A1 c1 A2 c2 k n p m hB hl
  obtain ⟨x0, x1, x2⟩ := P.box.at_
  obtain ⟨d0, d1, d2, d3, d4⟩ := P.dbox.at_
  have PP := Lib.hid P
  have ET := Lib.hid et
  have L0 := Lib.hid h.lt
  have LR := Lib.hid h'.lt
  clear h h' hFR h1 h2 i1 i2 hR hB P et
  have N0 := Lib.hid (show (M.Do.mk k n p m bs).verb ≠ 0 from q0)
  have N1 := Lib.hid (show (M.Do.mk k n p m bs).verb ≠ 1 from q1)
  have N2 := Lib.hid (show (M.Do.mk k n p m bs).verb ≠ 2 from q2)
  have N3 := Lib.hid (show (M.Do.mk k n p m bs).verb ≠ 3 from q3)
  have N4 := Lib.hid (show (M.Do.mk k n p m bs).verb ≠ 4 from q4)
  have s0 : (k == 0) = false := by rw [beq_eq_false_iff_ne]; exact q0
  have s1 : (k == 1) = false := by rw [beq_eq_false_iff_ne]; exact q1
  have s2 : (k == 2) = false := by rw [beq_eq_false_iff_ne]; exact q2
  have s3 : (k == 3) = false := by rw [beq_eq_false_iff_ne]; exact q3
  have s4 : (k == 4) = false := by rw [beq_eq_false_iff_ne]; exact q4
  clear q0 q1 q2 q3 q4
  have hY1 := PP.out.res
  have g0 := hY1.unfrozen 0
  have g1 := hY1.unfrozen 1
  have g2 := hY1.unfrozen 2
  obtain ⟨v0, v1, v2⟩ := hY1.at_
  obtain ⟨y0, y1, y2⟩ := (hY1.fill (.slice A1 a.length c1) (.slice A2 b.length c2) z).at_
  have l5 := hY1.lt
  have hs1 := PP.out.below.size
  have FIN := Lib.hid (does_fin (w := w) (w4 := w1) (b' := w.heap.size + 2) (z' := z) (F := F) (F' := F) (R := R) (v := .slice A1 a.length c1) (u := .slice A2 b.length c2) (HD.out.below PP.out.below) (HR.out.below PP.out.below)
    (Keeps.of_below (F := F) PP.out.below) (Grew.refl L0.out hs1) (fun x e => .inl e) HFR.out (by omega) (fun e => by have := L0.out _ e; omega) (fun e => by have := LR.out _ e; omega))
  have l0 := PP.out.box.lt
  clear hY1 hs1
  go_enter Try.func14, Try.ntmps14
  go_wp2_with (at_builtin; refine Lib.wpList_append_run _ rfl (.tmp 19) (.tmp 21) _ _ rfl _ _ rfl rfl _ _ hr ?_)
  exact bodyPost_ret (v := .tuple #[.agg #[.slice A1 a.length c1, .slice A2 b.length c2, .int .i64 z], .bool true]) (by simp [results, Try.results14, go_sem, y0, y1, y2]) rfl ⟨_, F, R, by rw [alike_none N0.out N2.out N3.out], by rw [M.step_none N0.out N1.out N2.out N3.out N4.out, M.step_none N0.out N1.out N2.out N3.out N4.out]; exact FIN.out⟩
end Go.Proofs.Ytpdknamdladgnaa
