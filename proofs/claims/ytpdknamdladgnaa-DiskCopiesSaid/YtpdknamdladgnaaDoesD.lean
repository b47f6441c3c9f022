/- A step in both disks: Append, Replace; no conditions but what may be. -/
import Derived.Test.YtpdknamdladgnaaDoesB
namespace Go.Proofs.Ytpdknamdladgnaa
open Go.RowKit

theorem alike_app (s t : M.St) (n p : Int) (m : UInt8) (bs : List UInt8) : M.alike s t ⟨0, n, p, m, bs⟩ = (M.appE bs t == M.appE bs s) := by
  rw [Bool.eq_iff_iff]
  simp [M.alike, M.err]
  exact eq_comm
theorem alike_rep (s t : M.St) (n p : Int) (m : UInt8) (bs : List UInt8) : M.alike s t ⟨3, n, p, m, bs⟩ = (M.repE bs t == M.repE bs s) := by
  rw [Bool.eq_iff_iff]
  simp [M.alike, M.err]
  exact eq_comm

set_option maxHeartbeats 4000000 in
theorem does_app {w : World} {g : Nat} {F R : Nat → Prop} {r sv : Value} {s t : M.St} (n p : Int) (m : UInt8) {bs : List UInt8} (h : Disk w g F s) (h' : Doc w R r t) (hFR : ∀ x, F x → ¬ R x) (hB : Bts w sv bs) (hl : bs.length ≤ 1000000) :
    Calls Try.prog 14 #[.pointer (some ⟨g, 0, none⟩), r, .agg #[.int .i64 0, .int .i64 n, .int .i64 p, .int .u8 (m.toNat : Int), sv]] w (Does w g F R s t ⟨0, n, p, m, bs⟩) := by
  have HD := Lib.hid h
  have HB := Lib.hid hB
  have HR := Lib.hid h'
  have HFR := Lib.hid hFR
  obtain ⟨z, a, b, A1, c1, A2, c2, et, rfl, h1, h2, i1, i2, hR, hc1, hc2, hlz, hz⟩ := h'.opened
  obtain ⟨A3, c3, rfl, hc3, -⟩ := hB.opened
  obtain ⟨A0, c0, w1, hr, P⟩ := pre_any z a b A1 c1 A2 c2 0 n p m hB hl
  obtain ⟨x0, x1, x2⟩ := P.box.at_
  obtain ⟨d0, d1, d2, d3, d4⟩ := P.dbox.at_
  have PP := Lib.hid P
  have ET := Lib.hid et
  have L0 := Lib.hid h.lt
  have LR := Lib.hid h'.lt
  clear h h' hFR h1 h2 i1 i2 hR hB P et
  go_enter Try.func14, Try.ntmps14
  go_wp2_with (at_builtin; refine Lib.wpList_append_run _ rfl (.tmp 19) (.tmp 21) _ _ rfl _ _ rfl rfl _ _ hr ?_)
  refine (rapp_any (HR.out.below PP.out.below) (HB.out.below PP.out.below) hl).mono ?_
  rintro e w2 ⟨q, R', rfl, hq, hb, hRR⟩
  have R2 := Lib.hid hq
  obtain ⟨z5, a5, b5, A5, c5, A6, c6, -, rfl, p1, p2, j1, j2, hR5, -, -, hl5, hz5⟩ := hq.opened
  have AL := Lib.hid (alike_app s t n p m bs)
  generalize M.appE bs t = E1 at *
  generalize hE2 : M.appE bs s = E2 at *
  have HE2 := Lib.hid hE2
  clear hE2
  have B2 := Lib.hid (below_on PP.out.below hb)
  obtain ⟨W3, hW3⟩ : ∃ W, W = w2.alloc (.cells #[.slice A5 a5.length c5, .slice A6 b5.length c6, .int .i64 z5] 29) := ⟨_, rfl⟩
  have b3 : Below w2.heap.size w2 W3 := by rw [hW3]; exact below_new (Below.refl _ _)
  have HQ3 := Lib.hid (show Box W3 w2.heap.size (.slice A5 a5.length c5) (.slice A6 b5.length c6) z5 by rw [hW3]; exact Box.new w2 _ _ _)
  have HY3 := Lib.hid ((PP.out.res.below hb).below b3)
  have HO3 := Lib.hid ((PP.out.own.below hb).below b3)
  have D3 := Lib.hid (HD.out.below (below_on B2.out b3))
  have R3 := Lib.hid (hq.below b3)
  have B3 := Lib.hid (below_on B2.out b3)
  have HZ := Lib.hid hb.size
  have HZ3 := Lib.hid b3.size
  have HRR := Lib.hid hRR
  have C3 := Lib.hid (appendD_any D3.out HO3.out.bts (fun _ => HO3.out.in_.wide fun x e f => by have := L0.out x f; omega))
  rw [HE2.out] at C3
  clear hq p1 p2 j1 j2 hR5 hb hRR b3 x0 x1 x2 d0 d1 d2 d3 d4
  go_wp2_with (fail)
  rw [← hW3]
  clear hW3
  refine C3.out.mono ?_
  rintro e w4 ⟨rfl, F', hd, hk, hg⟩
  have D4 := Lib.hid hd
  have K4 := Lib.hid hk
  have G4 := Lib.hid hg
  have HQ4 := Lib.hid (HQ3.out.keeps hk (fun e => by have := L0.out _ e; have := B2.out.size; omega))
  have HY4 := Lib.hid (HY3.out.keeps hk (fun e => by have := L0.out _ e; omega))
  have HO4 := Lib.hid (HO3.out.keeps hk (fun x e f => by have := L0.out _ f; omega))
  have R4 := Lib.hid (R3.out.keeps hk (fun x e f => by
        have := L0.out x f
        have := PP.out.below.size
        rcases HRR.out x e with e' | e'
        · exact HFR.out x f e'
        · omega))
  have BU := Lib.hid (Bump.begin HO4.out)
  have HIN := Lib.hid HO4.out.in_
  clear hd hk hg HQ3 HY3 HO3 C3
  generalize hN : bs.length = N at *
  have HN := Lib.hid hN
  clear hN
  go_wp2
  go_loopw [39] (fun i wr => ∃ k : Nat, k ≤ N ∧ i = .int .i64 k ∧ Hid (Bump w4 (.slice A0 N c0) N wr)) (fun i _ => N - (intOf i).toNat)
  case atStart => exact ⟨0, Nat.zero_le _, rfl, BU⟩
  case round =>
    obtain ⟨k, hk, rfl, BK⟩ := hrel
    clear BU
    by_cases hlt : k < N
    · obtain ⟨g', y, rfl, hg, hcell, hfz, hy, hbu⟩ := BK.out.round hlt
      have BN := Lib.hid hbu
      have hk1 : (k : Int) < (N : Int) := by omega
      clear hbu BK
      go_wp2
      go_roundw
      case rel => exact ⟨k + 1, by omega, by go_num, BN⟩
      case measure => simp [intOf]; omega
    · have hk1 : (N : Int) ≤ (k : Int) := by omega
      have kb := BK.out.keeps
      have hin : ∀ x, (Value.slice A0 N c0).ownBlock = some x → w.heap.size + 3 ≤ x ∧ x < w1.heap.size := fun x e => HIN.out x e
      have hY := HY4.out.keeps kb (fun e => by have := hin _ e; omega)
      have hQ := HQ4.out.keeps kb (fun e => by have := hin _ e; have := HZ.out; omega)
      obtain ⟨t0, t1, t2⟩ := hQ.at_
      have g0 := hY.unfrozen 0
      have g1 := hY.unfrozen 1
      have g2 := hY.unfrozen 2
      obtain ⟨v0, v1, v2⟩ := hY.at_
      obtain ⟨y0, y1, y2⟩ := (hY.fill (.slice A5 a5.length c5) (.slice A6 b5.length c6) z5).at_
      have l5 := hY.lt
      have l6 := hQ.lt
      have FIN := Lib.hid (does_fin (w := w) (w4 := wr) (b' := w.heap.size + 2) (z' := z5) (F := F) (F' := F') (R := R) (v := .slice A5 a5.length c5) (u := .slice A6 b5.length c6)
        (D4.out.keeps kb (fun x e f => by
          have f1 := hin x f
          have := HZ.out
          have := HZ3.out
          rcases G4.out.1 x e with e1 | e1
          · have := L0.out x e1; omega
          · omega))
        (R4.out.keeps kb (fun x e f => by
          have f1 := hin x f
          rcases HRR.out x e with e1 | e1
          · have := LR.out x e1; omega
          · omega))
        ((((Keeps.of_below (F := F) B3.out).trans K4.out fun _ _ e => e)).trans kb fun x hx e => by have := hin x e; omega)
        ⟨fun x e => (G4.out.1 x e).imp id (fun e => by have := B3.out.size; omega), fun x e => Nat.lt_of_lt_of_le (G4.out.2 x e) kb.size⟩ (fun x e => (HRR.out x e).imp id (fun e => by have := PP.out.below.size; omega))
        (fun x e f => by
          have e1 := G4.out.1 x e
          have f1 := R3.out.lt x f
          rcases e1 with e1 | e1
          · have := L0.out x e1
            have := PP.out.below.size
            rcases HRR.out x f with f | f
            · exact HFR.out x e1 f
            · omega
          · omega) (by omega)
        (fun e => by
          have e1 := G4.out.1 _ e
          have hy := PP.out.res.lt
          have := HZ.out
          have := HZ3.out
          rcases e1 with e1 | e1
          · have := L0.out _ e1; omega
          · omega)
        (fun e => by
          have hy := PP.out.res.lt
          rcases HRR.out _ e with f | f
          · have := LR.out _ f; omega
          · omega))
      clear kb hin hY hQ HIN
      go_wp2
      exact bodyPost_ret (v := .tuple #[.agg #[.slice A5 a5.length c5, .slice A6 b5.length c6, .int .i64 z5], .bool (E1 == E2)]) (by simp [results, Try.results14, go_sem, y0, y1, y2]) rfl (does_mk AL.out FIN.out)

set_option maxHeartbeats 4000000 in
theorem does_rep {w : World} {g : Nat} {F R : Nat → Prop} {r sv : Value} {s t : M.St} (n p : Int) (m : UInt8) {bs : List UInt8} (h : Disk w g F s) (h' : Doc w R r t) (hFR : ∀ x, F x → ¬ R x) (hB : Bts w sv bs) (hl : bs.length ≤ 1000000) :
    Calls Try.prog 14 #[.pointer (some ⟨g, 0, none⟩), r, .agg #[.int .i64 3, .int .i64 n, .int .i64 p, .int .u8 (m.toNat : Int), sv]] w (Does w g F R s t ⟨3, n, p, m, bs⟩) := by
  have HD := Lib.hid h
  have HB := Lib.hid hB
  have HR := Lib.hid h'
  have HFR := Lib.hid hFR
  obtain ⟨z, a, b, A1, c1, A2, c2, et, rfl, h1, h2, i1, i2, hR, hc1, hc2, hlz, hz⟩ := h'.opened
  obtain ⟨A3, c3, rfl, hc3, -⟩ := hB.opened
  obtain ⟨A0, c0, w1, hr, P⟩ := pre_any z a b A1 c1 A2 c2 3 n p m hB hl
  obtain ⟨x0, x1, x2⟩ := P.box.at_
  obtain ⟨d0, d1, d2, d3, d4⟩ := P.dbox.at_
  have PP := Lib.hid P
  have ET := Lib.hid et
  have L0 := Lib.hid h.lt
  have LR := Lib.hid h'.lt
  clear h h' hFR h1 h2 i1 i2 hR hB P et
  go_enter Try.func14, Try.ntmps14
  go_wp2_with (at_builtin; refine Lib.wpList_append_run _ rfl (.tmp 19) (.tmp 21) _ _ rfl _ _ rfl rfl _ _ hr ?_)
  refine (rrep_any (HR.out.below PP.out.below) (HB.out.below PP.out.below) hl).mono ?_
  rintro e w2 ⟨q, R', rfl, hq, hb, hRR⟩
  have R2 := Lib.hid hq
  obtain ⟨z5, a5, b5, A5, c5, A6, c6, -, rfl, p1, p2, j1, j2, hR5, -, -, hl5, hz5⟩ := hq.opened
  have AL := Lib.hid (alike_rep s t n p m bs)
  generalize M.repE bs t = E1 at *
  generalize hE2 : M.repE bs s = E2 at *
  have HE2 := Lib.hid hE2
  clear hE2
  have B2 := Lib.hid (below_on PP.out.below hb)
  obtain ⟨W3, hW3⟩ : ∃ W, W = w2.alloc (.cells #[.slice A5 a5.length c5, .slice A6 b5.length c6, .int .i64 z5] 29) := ⟨_, rfl⟩
  have b3 : Below w2.heap.size w2 W3 := by rw [hW3]; exact below_new (Below.refl _ _)
  have HQ3 := Lib.hid (show Box W3 w2.heap.size (.slice A5 a5.length c5) (.slice A6 b5.length c6) z5 by rw [hW3]; exact Box.new w2 _ _ _)
  have HY3 := Lib.hid ((PP.out.res.below hb).below b3)
  have HO3 := Lib.hid ((PP.out.own.below hb).below b3)
  have D3 := Lib.hid (HD.out.below (below_on B2.out b3))
  have R3 := Lib.hid (hq.below b3)
  have B3 := Lib.hid (below_on B2.out b3)
  have HZ := Lib.hid hb.size
  have HZ3 := Lib.hid b3.size
  have HRR := Lib.hid hRR
  have C3 := Lib.hid (replaceD_any D3.out HO3.out.bts (by omega))
  rw [HE2.out] at C3
  clear hq p1 p2 j1 j2 hR5 hb hRR b3 x0 x1 x2 d0 d1 d2 d3 d4
  go_wp2_with (fail)
  rw [← hW3]
  clear hW3
  refine C3.out.mono ?_
  rintro e w4 ⟨rfl, F', hd, hk, hg⟩
  have D4 := Lib.hid hd
  have K4 := Lib.hid hk
  have G4 := Lib.hid hg
  have HQ4 := Lib.hid (HQ3.out.keeps hk (fun e => by have := L0.out _ e; have := B2.out.size; omega))
  have HY4 := Lib.hid (HY3.out.keeps hk (fun e => by have := L0.out _ e; omega))
  have HO4 := Lib.hid (HO3.out.keeps hk (fun x e f => by have := L0.out _ f; omega))
  have R4 := Lib.hid (R3.out.keeps hk (fun x e f => by
        have := L0.out x f
        have := PP.out.below.size
        rcases HRR.out x e with e' | e'
        · exact HFR.out x f e'
        · omega))
  have BU := Lib.hid (Bump.begin HO4.out)
  have HIN := Lib.hid HO4.out.in_
  clear hd hk hg HQ3 HY3 HO3 C3
  generalize hN : bs.length = N at *
  have HN := Lib.hid hN
  clear hN
  go_wp2
  go_loopw [89] (fun i wr => ∃ k : Nat, k ≤ N ∧ i = .int .i64 k ∧ Hid (Bump w4 (.slice A0 N c0) N wr)) (fun i _ => N - (intOf i).toNat)
  case atStart => exact ⟨0, Nat.zero_le _, rfl, BU⟩
  case round =>
    obtain ⟨k, hk, rfl, BK⟩ := hrel
    clear BU
    by_cases hlt : k < N
    · obtain ⟨g', y, rfl, hg, hcell, hfz, hy, hbu⟩ := BK.out.round hlt
      have BN := Lib.hid hbu
      have hk1 : (k : Int) < (N : Int) := by omega
      clear hbu BK
      go_wp2
      go_roundw
      case rel => exact ⟨k + 1, by omega, by go_num, BN⟩
      case measure => simp [intOf]; omega
    · have hk1 : (N : Int) ≤ (k : Int) := by omega
      have kb := BK.out.keeps
      have hin : ∀ x, (Value.slice A0 N c0).ownBlock = some x → w.heap.size + 3 ≤ x ∧ x < w1.heap.size := fun x e => HIN.out x e
      have hY := HY4.out.keeps kb (fun e => by have := hin _ e; omega)
      have hQ := HQ4.out.keeps kb (fun e => by have := hin _ e; have := HZ.out; omega)
      obtain ⟨t0, t1, t2⟩ := hQ.at_
      have g0 := hY.unfrozen 0
      have g1 := hY.unfrozen 1
      have g2 := hY.unfrozen 2
      obtain ⟨v0, v1, v2⟩ := hY.at_
      obtain ⟨y0, y1, y2⟩ := (hY.fill (.slice A5 a5.length c5) (.slice A6 b5.length c6) z5).at_
      have l5 := hY.lt
      have l6 := hQ.lt
      have FIN := Lib.hid (does_fin (w := w) (w4 := wr) (b' := w.heap.size + 2) (z' := z5) (F := F) (F' := F') (R := R) (v := .slice A5 a5.length c5) (u := .slice A6 b5.length c6)
        (D4.out.keeps kb (fun x e f => by
          have f1 := hin x f
          have := HZ.out
          have := HZ3.out
          rcases G4.out.1 x e with e1 | e1
          · have := L0.out x e1; omega
          · omega))
        (R4.out.keeps kb (fun x e f => by
          have f1 := hin x f
          rcases HRR.out x e with e1 | e1
          · have := LR.out x e1; omega
          · omega))
        ((((Keeps.of_below (F := F) B3.out).trans K4.out fun _ _ e => e)).trans kb fun x hx e => by have := hin x e; omega)
        ⟨fun x e => (G4.out.1 x e).imp id (fun e => by have := B3.out.size; omega), fun x e => Nat.lt_of_lt_of_le (G4.out.2 x e) kb.size⟩ (fun x e => (HRR.out x e).imp id (fun e => by have := PP.out.below.size; omega))
        (fun x e f => by
          have e1 := G4.out.1 x e
          have f1 := R3.out.lt x f
          rcases e1 with e1 | e1
          · have := L0.out x e1
            have := PP.out.below.size
            rcases HRR.out x f with f | f
            · exact HFR.out x e1 f
            · omega
          · omega) (by omega)
        (fun e => by
          have e1 := G4.out.1 _ e
          have hy := PP.out.res.lt
          have := HZ.out
          have := HZ3.out
          rcases e1 with e1 | e1
          · have := L0.out _ e1; omega
          · omega)
        (fun e => by
          have hy := PP.out.res.lt
          rcases HRR.out _ e with f | f
          · have := LR.out _ f; omega
          · omega))
      clear kb hin hY hQ HIN
      go_wp2
      exact bodyPost_ret (v := .tuple #[.agg #[.slice A5 a5.length c5, .slice A6 b5.length c6, .int .i64 z5], .bool (E1 == E2)]) (by simp [results, Try.results14, go_sem, y0, y1, y2]) rfl (does_mk AL.out FIN.out)
end Go.Proofs.Ytpdknamdladgnaa
