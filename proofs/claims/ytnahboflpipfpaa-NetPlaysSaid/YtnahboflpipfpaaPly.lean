/- The walk of NetPlays; no conditions. -/
import Derived.Test.YtnahboflpipfpaaIss
import Derived.IntWalk
namespace Go.Proofs.Ytnahboflpipfpaa
open Go.ChangeShapes Go.WideShapes Go.ChangeAt Go.RowKit

set_option maxHeartbeats 16000000 in
set_option maxRecDepth 100000 in
theorem plays_law (n : Int) {v : Value} {D : List Dv} (w : World) (h : Dos w v D) (hbig : D.length ≤ maxLen) : Calls Try.prog 3 #[.int .i64 n, v] w (Yes w) := by
  unfold maxLen at hbig
  obtain ⟨A, c, rfl, hc⟩ := rowN_sliceOf h.row
  have HH := Lib.hid h
  clear h hc
  rcases hq : fewB10 D with _ | _
  · have HQ := Lib.hid hq
    clear hq
    go_enter Try.func3, Try.ntmps3
    go_wp2_with
      (first
       | (go_at_call 9; refine (few10_any HH.out (by omega)).mono ?_; rintro e w1 ⟨rfl, hb⟩; rw [HQ.out]; have HB1 := Lib.hid hb; clear hb)
       | (go_at_call 10; refine (awake_any _).mono ?_; rintro e w2 ⟨rfl, hb⟩; have HB := Lib.hid (below_on HB1.out hb); clear hb))
    go_ret
    exact ⟨rfl, HB.out⟩
  have HQ := Lib.hid hq
  have HFEW := Lib.hid (fewB10_iff.1 hq)
  have hlen : D.length ≤ 40 := (fewB10_iff.1 hq).2
  clear hq
  rcases hr : roomB n with _ | _
  · have HR := Lib.hid hr
    clear hr
    go_enter Try.func3, Try.ntmps3
    go_wp2_with
      (first
       | (go_at_call 9; refine (few10_any HH.out (by omega)).mono ?_; rintro e w1 ⟨rfl, hb⟩; rw [HQ.out]; have HB1 := Lib.hid hb; clear hb)
       | (go_at_call 11; refine (new_bad n _ HR.out).mono ?_; rintro e w2 ⟨rfl, rfl⟩)
       | (go_at_call 12; refine (dnew_any n _).mono ?_; rintro e w3 ⟨rfl, hb⟩; rw [HR.out]; have HB3 := Lib.hid (below_on HB1.out (below_new (o := .cells (dnL (St.new n) (.slice none 0 0)).toArray 29) hb)); clear hb)
       | (with_reducible refine wpList_store_fresh rfl 29 _ _ rfl _ rfl 29 _ (dnL (St.new n) (.slice none 0 0)) rfl rfl rfl (dn_size _ _) (dn_one _ _ _ _) ?_)
       | (go_at_call 10; refine (awake_any _).mono ?_; rintro e w4 ⟨rfl, hb⟩; have HB := Lib.hid (below_on HB3.out hb); clear hb))
    go_ret
    exact ⟨rfl, HB.out⟩
  · have HR := Lib.hid hr
    have h1n : 1 ≤ n := (roomB_iff.1 hr).1
    clear hr
    go_enter Try.func3, Try.ntmps3
    go_wp2_with
      (first
       | (go_at_call 9; refine (few10_any HH.out (by omega)).mono ?_; rintro e w1 ⟨rfl, hb⟩; rw [HQ.out]; have HB1 := Lib.hid hb; clear hb)
       | (go_at_call 11; refine (new_ok n _ HR.out).mono ?_; rintro e w2 ⟨rfl, rfl⟩; unfold ptrV)
       | (go_at_call 12; refine (dnew_any n _).mono ?_; rintro e w3 ⟨rfl, hb⟩; rw [HR.out])
       | (with_reducible refine wpList_store_fresh rfl 29 _ _ rfl _ rfl 29 _ (dnL (St.new n) (.slice none 0 0)) rfl rfl rfl (dn_size _ _) (dn_one _ _ _ _) ?_)
       | fail)
    have HST := Lib.hid (Std.start h1n (Nt.new (F := fun _ => False) n w1 (fun _ e => e.elim)) (below_new (o := .cells #[.int .i64 0, .int .i64 0, .int .i64 0, .int .i64 n, .slice none 0 0] 74) HB1.out) hb HB1.out.size)
    clear hb
    have HBR := Lib.hid HST.out.bl
    generalize hbr : w3.heap.size = br at *
    generalize hgg : w1.heap.size = g at *
    clear hbr hgg
    go_loopw [40] (fun i wr => ∃ (k : Nat) (s : St) (sv : Value), i = .int .i64 k ∧ k ≤ D.length ∧ Hid (Std w wr g br s sv k n)) (fun i _ => D.length - (intOf i).toNat)
    case atStart => exact ⟨0, St.new n, .slice none 0 0, rfl, Nat.zero_le _, HST⟩
    case round =>
      clear HST
      obtain ⟨k, s, sv, rfl, hk, HG⟩ := hrel
      by_cases hlt : k < D.length
      · obtain ⟨d, hd⟩ : ∃ d, D[k]? = some d := ⟨_, List.getElem?_eq_getElem hlt⟩
        have hdm : d ∈ D := List.mem_of_getElem? hd
        obtain ⟨b, o, rfl, hbl, hrr⟩ := rowG_range dv_len (HH.out.below HG.out.bel).row hd
        have HRR := Lib.hid hrr
        have htx := HH.out.tx d hdm
        have K := HFEW.out.1 d hdm
        have b1 := below_new (o := .cells d.cells.toArray 51) (Below.refl wr.heap.size wr)
        have HS1 := Lib.hid (HG.out.below b1)
        have LD := Lib.hid HS1.out.hd.cel.whole
        have LX := Lib.hid (Hold.new wr d.cells 51).cel.whole
        have HONE := Lib.hid (dv_one (HH.out.below HG.out.bel |>.tx d hdm))
        have CD := Lib.hid (does_any HS1.out.nt HS1.out.dv (HS1.out.txt htx) HS1.out.ok (by omega) K)
        have HOK := Lib.hid (stepS_ok HS1.out.ok K)
        have hk1 : (k : Int) < (D.length : Int) := by omega
        unfold ptrV at CD
        clear hd hdm hbl hrr htx K b1
        go_wp2_with (first
          | (with_reducible refine wpList_load_mid rfl 51 _ rfl b (o + k * 32) rfl _ _ HRR.out Try.underlying51 rfl (dv_size _) ?_)
          | (with_reducible refine wpList_store_fresh rfl 51 _ _ rfl wr.heap.size rfl 51 _ d.cells rfl rfl rfl (dv_size _) HONE.out ?_)
          | (with_reducible refine wpList_load_mid rfl 29 _ rfl br 0 rfl _ _ LD.out Try.underlying29 rfl (dn_size _ _) ?_)
          | (with_reducible refine wpList_load_mid rfl 51 _ rfl wr.heap.size 0 rfl _ _ LX.out Try.underlying51 rfl (dv_size _) ?_)
          | fail)
        refine CD.out.mono ?_
        rintro e w2 ⟨v2, rfl, hn2, hv2, hk2⟩
        obtain ⟨A2, c2, rfl⟩ := hv2.slice
        have b2 := below_new (o := .cells (dnL (stepS d s) (.slice A2 (stepS d s).ms.length c2)).toArray 29) (Below.refl w2.heap.size w2)
        obtain ⟨hst, hh2⟩ := HS1.out.next (hn2.below b2) (hv2.below b2) (hk2.trans (Keeps.of_below b2) (fun _ _ e => e)) (m := ((k + 1 : Nat) : Int)) (by rw [Int.natCast_add]; exact HOK.out) ((stepS_room d s).trans HS1.out.rm)
        have TH := Lib.hid (show World.there _ br 0 (dnL (stepS d s) (.slice A2 (stepS d s).ms.length c2)).length from hh2.there (by show 0 + 5 ≤ 5; omega))
        have LQ := Lib.hid (Hold.new w2 (dnL (stepS d s) (.slice A2 (stepS d s).ms.length c2)) 29).cel.whole
        have HST := Lib.hid hst
        have LR := Lib.hid hst.hd.cel.whole
        have CI := Lib.hid (is_any hst.nt hst.dv hst.ok (by omega))
        unfold ptrV at CI
        clear hn2 hv2 hk2 hst hh2 CD b2
        generalize hs2 : stepS d s = s2 at *
        clear hs2
        go_wp2_with (first
          | (with_reducible refine wpList_store_fresh rfl 29 _ _ rfl w2.heap.size rfl 29 _ (dnL s2 (.slice A2 s2.ms.length c2)) rfl rfl rfl (dn_size _ _) (dn_one _ _ _ _) ?_)
          | (with_reducible refine wpList_load_mid rfl 29 _ rfl w2.heap.size 0 rfl _ _ LQ.out Try.underlying29 rfl (dn_size _ _) ?_)
          | (with_reducible refine store_list rfl 29 _ _ rfl br 0 (dnL s2 (.slice A2 s2.ms.length c2)) rfl rfl TH.out (dn_size _ _) (dn_one _ _ _ _) ?_)
          | (with_reducible refine wpList_load_mid_g ?_ 29 (.tmp 6) rfl br 0 rfl _ _ LR.out Try.underlying29 rfl (dn_size _ _) ?_; kernel_rfl)
          | fail)
        refine CI.out.mono ?_
        rintro e w5 ⟨rfl, hb5⟩
        have HST5 := Lib.hid (HST.out.below hb5)
        clear hb5 CI
        go_wp2
        go_roundw
        case rel => exact ⟨k + 1, s2, .slice A2 s2.ms.length c2, by go_num, hlt, HST5⟩
        case measure => simp [intOf]; omega
      · have HBE := Lib.hid HG.out.bel
        go_wp2_with (go_at_call 10; refine (awake_any _).mono ?_; rintro e w2 ⟨rfl, hb⟩; have HB := Lib.hid (below_on HBE.out hb); clear hb)
        go_ret
        exact ⟨rfl, HB.out⟩
end Go.Proofs.Ytnahboflpipfpaa
