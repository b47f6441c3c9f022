/- The walk of FrameGets; no conditions but that the table reads as the text lays it. -/
import Derived.Test.YtmjkcbcenpdcnaaDoorLaws
import Derived.Test.YtmjkcbcenpdcnaaDoorAfter
import Derived.Test.YtmjkcbcenpdcnaaDoorWalksM
namespace Go.Proofs.YtmjkcbcenpdcnaaDoor
open Go.RowKit

namespace M
theorem sl_small : ∀ (m : Nat) (xs : List UInt8), xs.length ≤ m → xs.length ≤ 1000000 → ∀ q ∈ sl xs, q.length ≤ 1000000
  | m, xs, hm, hl => by
    intro q hq
    by_cases h : ge xs = 0
    · have h1 := gs_ok h
      rw [(sl_ok h).1] at hq
      cases m with
      | zero => omega
      | succ m =>
        rcases List.mem_cons.1 hq with rfl | hq
        · rw [gp_ok h]; omega
        · exact sl_small m (xs.drop (gs xs)) (by simp; omega) (by simp; omega) q hq
    · rw [(sl_no h).1] at hq; cases hq
end M
theorem Got.bts {w w' : World} {xs : List UInt8} {v : Value} (h1 : M.ge xs = 0 → w'.ownsRow w.heap.size 5 1 v (M.gp xs).length ((M.gp xs).map enc8)) (h2 : M.ge xs ≠ 0 → v = .slice none 0 0) : Bts w' v (M.gp xs) := by
  by_cases h : M.ge xs = 0
  · exact Row.of_owns (h1 h)
  · rw [h2 h, M.gp, if_neg h]; exact Bts.nil _ _ _

theorem row_cell {w : World} {base n c i : Nat} {A : Option Addr} {vs : List Value} (h : w.ownsRow base 22 1 (.slice A n c) n vs) (hi : i < n) : ∃ b u, A = some ⟨b, 0, none⟩ ∧ b < w.heap.size ∧ vs[i]? = some u ∧ w.cell? ⟨b, i, none⟩ = some u := by
  have hl := h.1
  rcases h.2 with ⟨e, e2⟩ | ⟨g, cap, cur, e, hb, hg, _⟩
  · omega
  · cases e
    have hiv : i < vs.length := by omega
    refine ⟨g, vs[i], rfl, (Array.getElem?_eq_some_iff.1 hg).1, List.getElem?_eq_getElem hiv, ?_⟩
    have := h.cells (g := g) rfl i vs[i] (List.getElem?_eq_getElem hiv)
    rw [add_plain', Nat.zero_add] at this
    exact this
theorem own_at {w : World} {base n : Nat} {u : Value} {xs : List UInt8} (h : w.ownsRow base 5 1 u n (xs.map enc8)) (h0 : xs ≠ []) : ∃ g cap, u = .slice (some ⟨g, 0, none⟩) n cap ∧ base ≤ g ∧ g < w.heap.size := by
  have hl := h.1
  rcases h.2 with ⟨e, e2⟩ | ⟨g, cap, cur, e, hb, hg, _⟩
  · rw [e2] at hl; simp at hl; exact absurd hl h0
  · exact ⟨g, cap, e, hb, (Array.getElem?_eq_some_iff.1 hg).1⟩
theorem own_byte {w : World} {base n g cap j : Nat} {zs : List UInt8} (h : w.ownsRow base 5 1 (.slice (some ⟨g, 0, none⟩) n cap) n (zs.map enc8)) (hj : j < zs.length) : w.cell? ⟨g, j, none⟩ = some (.int .u8 ((zs.getD j 0).toNat : Int)) ∧ w.frozen? ⟨g, j, none⟩ = false := by
  have hc := h.cells (g := g) rfl j (enc8 (zs.getD j 0)) (by rw [List.getElem?_map, List.getElem?_eq_getElem hj, List.getD, List.getElem?_eq_getElem hj]; rfl)
  rw [add_plain', Nat.zero_add] at hc
  refine ⟨hc, ?_⟩
  rcases h.2 with ⟨e, _⟩ | ⟨g', cap', cur, e, hb, hg, _⟩
  · cases e
  · cases e
    exact frozen_of_row w g j cur 5 hg

set_option maxHeartbeats 4000000 in
set_option maxRecDepth 100000 in
theorem gets_law {w : World} {v : Value} {xs : List UInt8} (hT : Tab w) (h : Bts w v xs) : Calls Tryd.prog 5 #[v] w (Yes w) := by
  have HT := Lib.hid hT
  have HV := Lib.hid h
  obtain ⟨A, c, rfl, hc, hx⟩ := h.opened
  have EN := Lib.hid (show ∀ (w2 : World), Below w.heap.size w w2 → Tab w2 → Calls Tryd.prog 9 #[] w2 fun e w' => e = .returned (.bool true) ∧ Below w.heap.size w w' from fun w2 hb ht => (awake_any ht).mono fun _ _ h => ⟨h.1, below_on hb h.2⟩)
  clear hx h hT
  by_cases h1 : xs.length ≤ 4500
  · go_enter Tryd.func5, Tryd.ntmps5
    go_wp2_with (fail)
    refine (own_any HV.out (by omega)).mono ?_
    rintro e w1 ⟨rfl, hk, hb⟩
    have HB1 := Lib.hid hb
    have HX1 := Lib.hid (hk.bts (o := 0) (n := xs.length) (c := xs.length + 16) (xs := xs) (by simp) (by simp) (by omega))
    have HV1 := Lib.hid (HV.out.below hb)
    have HT1 := Lib.hid (HT.out.below hb)
    clear hk hb HV HT
    go_wp2_with (fail)
    refine (get_any HT1.out HX1.out (by omega)).mono ?_
    rintro e w2 ⟨vp, rfl, hp1, hp2, hb⟩
    have HP2 := Lib.hid (Got.bts hp1 hp2)
    have HB2 := Lib.hid (below_on HB1.out hb)
    have HX2 := Lib.hid (HX1.out.below hb)
    have HV2 := Lib.hid (HV1.out.below hb)
    have HT2 := Lib.hid (HT1.out.below hb)
    clear hp1 hp2 hb HB1 HX1 HV1 HT1
    go_wp2_with (fail)
    refine (dget_any HV2.out (by omega)).mono ?_
    rintro e w3 ⟨vq, rfl, hq, hb⟩
    have HQ3 := Lib.hid ((hq w2 HV2.out).below hb)
    have HP3 := Lib.hid (HP2.out.below hb)
    have HB3 := Lib.hid (below_on HB2.out hb)
    have HX3 := Lib.hid (HX2.out.below hb)
    have HV3 := Lib.hid (HV2.out.below hb)
    have HT3 := Lib.hid (HT2.out.below hb)
    clear hq hb HP2 HB2 HX2 HV2 HT2
    have hgl : (M.gp xs).length ≤ 1000000 := by unfold M.gp; split <;> simp; omega
    generalize M.gs xs = gs at *
    generalize M.ge xs = ge at *
    go_wp2_with (fail)
    refine (scan_any HT3.out HX3.out (by omega)).mono ?_
    rintro e w4 ⟨vl, vs, rfl, ho, hpay, hb⟩
    have hnd := Lib.hid hpay.2.2
    have HLN := Lib.hid hpay.1
    obtain ⟨Al, cl, rfl⟩ := own_slice ho
    have hb4 := hb
    have HV4 := Lib.hid (HV3.out.below hb)
    have hpl : (M.sl xs).length ≤ 4500 := by have := M.st_le xs.length xs (Nat.le_refl _); omega
    go_wp2_with (fail)
    refine (dscan2_any HV4.out (by omega)).mono ?_
    rintro e w5 ⟨vk, ks, rfl, hok, hrd, hb5⟩
    obtain ⟨Ak, ck, rfl⟩ := own_slice hok
    have hrun : Run w3 w4.heap.size (.slice Al (M.sl xs).length cl) (.slice Ak (M.sl xs).length ck) vs ks (M.sl xs) 0 w5 :=
      ⟨below_on hb hb5, own_keep ho hb5, hok, fun j _ u x hu hx => ⟨(hpay.2.1 j u x hu hx).1, own_keep (hpay.2.1 j u x hu hx).2 hb5⟩⟩
    have HR5 := Lib.hid hrun
    have HRD := Lib.hid hrd
    clear ho hpay hb hb4 hok hrd hb5 hrun HV4
    have hql : ∀ q ∈ M.sl xs, q.length ≤ 1000000 := M.sl_small xs.length xs (Nat.le_refl _) (by omega)
    generalize M.st xs = st at *
    generalize M.sl xs = ps at *
    go_wp2_with (fail)
    refine (same_any (HP3.out.below HR5.out.bel) (HQ3.out.below HR5.out.bel) hgl).mono ?_
    rintro e w6 ⟨rfl, hb6⟩
    rw [M.sameB_refl]
    have HR6 := Lib.hid (HR5.out.on hb6)
    clear hb6 HR5 HP3 HQ3
    have HPL := Lib.hid (show ∀ q ∈ ps, q.length ≤ 1000000 from hql)
    clear hql
    go_wp2
    go_loopw [72] (fun ix wr => ∃ i : Nat, i ≤ ps.length ∧ ix = .int .i64 i ∧ Hid (Run w3 w4.heap.size (.slice Al ps.length cl) (.slice Ak ps.length ck) vs ks ps i wr)) (fun ix _ => ps.length - (intOf ix).toNat)
    case atStart => exact ⟨0, Nat.zero_le _, rfl, HR6⟩
    case round =>
      obtain ⟨i, hi, rfl, HR⟩ := hrel
      clear HR6
      by_cases hlt : i < ps.length
      · obtain ⟨b1, u, rfl, hb1, hu, hc1⟩ := row_cell HR.out.lo hlt
        obtain ⟨b2, uk, rfl, hb2, huk, hc2⟩ := row_cell HR.out.ko hlt
        obtain ⟨hx0, hxo⟩ := HR.out.pay i (Nat.le_refl _) u ps[i] hu (List.getElem?_eq_getElem hlt)
        have hbk : Bts wr uk ps[i] := (HRD.out.2 wr (HV3.out.below HR.out.bel)).2 i uk ps[i] huk (List.getElem?_eq_getElem hlt)
        have hbu : Bts wr u ps[i] := Row.of_owns hxo
        have hpl := HPL.out ps[i] (List.getElem_mem hlt)
        obtain ⟨g, cap, rfl, hgb, hgs⟩ := own_at hxo hx0
        obtain ⟨Pk, pk, rfl⟩ := hbk.slice
        have K := Lib.hid (show ∀ (x : After wr), Calls Tryd.prog 13 #[.slice (some ⟨g, 0, none⟩) ps[i].length cap, .slice Pk ps[i].length pk] x.out fun e w' => e = .returned (.bool true) ∧ Below x.out.heap.size x.out w' from fun x => by
          have h := same_any (hbu.below x.below) (hbk.below x.below) hpl
          rw [M.sameB_refl] at h
          exact h)
        have HU := Lib.hid hu
        have HO := Lib.hid hxo
        clear hbk hbu hu huk hxo hx0
        generalize ps[i] = p at *
        have hi1 : (i : Int) < (ps.length : Int) := by omega
        go_wp2
        refine wp_region_after (by kernel_rfl) (by kernel_rfl) ?_
        have hx := @After.cell wr
        repeat (go_big_quiet_step ((go_at_call 13; exact Calls.after_of (K.out _))))
        refine wpQuiet_nil ?_
        rintro _ ⟨⟨w7, hb7⟩, rfl⟩
        have hd1 := (hb7.cell (p := ⟨b1, i, none⟩) hb1).trans hc1
        have hb1' := Nat.lt_of_lt_of_le hb1 hb7.size
        have HR7 := Lib.hid ((HR.out.on hb7).next)
        have HO7 := Lib.hid (own_keep HO.out hb7)
        clear hx hb7 hc1 hc2 hb1 hb2 HR HO K hgs
        go_wp2
        go_loopw [90] (fun jx wr2 => ∃ (j : Nat) (zs : List UInt8), j ≤ p.length ∧ jx = .int .i64 j ∧ zs.length = p.length ∧ Hid (Run w3 w4.heap.size (.slice (some ⟨b1, 0, none⟩) ps.length cl) (.slice (some ⟨b2, 0, none⟩) ps.length ck) vs ks ps (i + 1) wr2) ∧ Hid (wr2.ownsRow w3.heap.size 5 1 (.slice (some ⟨g, 0, none⟩) p.length cap) p.length (zs.map enc8))) (fun jx _ => p.length - (intOf jx).toNat)
        case atStart => exact ⟨0, p, Nat.zero_le _, rfl, rfl, HR7, HO7⟩
        case round =>
          obtain ⟨j, zs, hj, rfl, hzl, HR8, HO8⟩ := hrel
          clear hd1 hb1' HR7 HO7
          have HZL := Lib.hid hzl
          clear hzl
          by_cases hlt2 : j < p.length
          · obtain ⟨b1', u', e1, hb1, hu', hc1⟩ := row_cell HR8.out.lo hlt
            cases e1
            have eu : u' = .slice (some ⟨g, 0, none⟩) p.length cap := Option.some.inj (hu'.symm.trans HU.out)
            subst eu
            obtain ⟨hby, hfz⟩ := own_byte HO8.out (j := j) (by rw [HZL.out]; exact hlt2)
            have hyb := M.byte_lt (zs.getD j 0)
            generalize (zs.getD j 0).toNat = y at *
            have hj1 : (j : Int) < (p.length : Int) := by omega
            have hev : enc8 (M.b8 (y + 1)) = .int .u8 (((y : Int) + 1) % 256) := by
              unfold enc8
              rw [M.b8_nat]
              simp only [Value.int.injEq, true_and]
              omega
            have hoz : wr.ownsRow w3.heap.size 5 1 (.slice (some ⟨g, 0, none⟩) p.length cap) zs.length (zs.map enc8) := by rw [HZL.out]; exact HO8.out
            have hw1 := HR8.out.write (k := j) hnd.out HU.out hoz rfl hgb (enc8 (M.b8 (y + 1)))
            have hw2 := own_write (k := j) hoz (M.b8 (y + 1))
            rw [List.length_set, HZL.out, hev] at hw2
            rw [hev] at hw1
            have HW1 := Lib.hid hw1
            have HW2 := Lib.hid hw2
            clear hu' hev hoz hw1 hw2
            go_wp2
            go_roundw
            case rel => exact ⟨j + 1, zs.set j (M.b8 (y + 1)), by omega, by go_num, by simp; exact HZL.out, HW1, HW2⟩
            case measure => simp [intOf]; omega
          · go_wp2
            go_roundw
            case rel => exact ⟨i + 1, by omega, by go_num, HR8⟩
            case measure => simp [intOf]; omega
      · go_wp2_with (fail)
        refine (same_any (HX3.out.below HR.out.bel) (HV3.out.below HR.out.bel) (by omega)).mono ?_
        rintro e w7 ⟨rfl, hb7⟩
        rw [M.sameB_refl]
        have HR7 := Lib.hid (HR.out.on hb7)
        clear hb7 HR
        go_wp2_with (fail)
        refine (EN.out w7 (below_on HB3.out HR7.out.bel) (HT3.out.below HR7.out.bel)).mono ?_
        rintro e w8 ⟨rfl, hb⟩
        have HB8 := Lib.hid hb
        clear hb
        go_wp2
        go_ret
        exact ⟨rfl, HB8.out⟩
  · go_enter Tryd.func5, Tryd.ntmps5
    go_wp2_with (fail)
    refine (EN.out w (Below.refl _ _) HT.out).mono ?_
    rintro e w3 ⟨rfl, hb3⟩
    have HB3 := Lib.hid hb3
    clear hb3
    go_wp2
    go_ret
    exact ⟨rfl, HB3.out⟩
end Go.Proofs.YtmjkcbcenpdcnaaDoor
