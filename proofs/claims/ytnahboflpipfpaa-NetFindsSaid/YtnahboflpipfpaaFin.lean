/- The walk of NetFinds; no conditions. -/
import Derived.Test.YtnahboflpipfpaaStd
import Derived.IntWalk
namespace Go.Proofs.Ytnahboflpipfpaa
open Go.ChangeShapes Go.WideShapes Go.ChangeAt Go.RowKit

/-- The place of the first such behind m, or none. -/
def Wnt (l : List M.Msg) (f t m r : Int) : Prop := (∃ i : Nat, r = i ∧ m < (i : Int) ∧ i < l.length ∧ hitAt l f t i = true ∧ ∀ q : Nat, m < (q : Int) → q < i → hitAt l f t q = false) ∨ (r = -1 ∧ ∀ q : Nat, m < (q : Int) → q < l.length → hitAt l f t q = false)
theorem Wnt.start (l : List M.Msg) (f t : Int) : Wnt l f t ((l.length : Int) - 1) (-1) := .inr ⟨rfl, fun q h1 h2 => absurd h2 (by omega)⟩
theorem Wnt.hit {l : List M.Msg} {f t : Int} {i : Nat} (hi : i < l.length) (h : hitAt l f t i = true) : Wnt l f t ((i : Int) - 1) i := .inl ⟨i, rfl, by omega, hi, h, fun q h1 h2 => absurd h2 (by omega)⟩
theorem Wnt.miss {l : List M.Msg} {f t r : Int} {i : Nat} (h : Wnt l f t i r) (hh : hitAt l f t i = false) : Wnt l f t ((i : Int) - 1) r := by
  have key : ∀ q : Nat, (i : Int) - 1 < (q : Int) → q = i ∨ (i : Int) < (q : Int) := fun q hq => by omega
  rcases h with ⟨j, rfl, h1, h2, h3, h4⟩ | ⟨rfl, h4⟩
  · refine .inl ⟨j, rfl, by omega, h2, h3, fun q hq hj => ?_⟩
    rcases key q hq with rfl | e
    · exact hh
    · exact h4 q e hj
  · refine .inr ⟨rfl, fun q hq hj => ?_⟩
    rcases key q hq with rfl | e
    · exact hh
    · exact h4 q e hj
theorem Wnt.find {l : List M.Msg} {f t m r : Int} (h : Wnt l f t m r) (hm : m < 0) : FndAt l f t r := by
  rcases h with ⟨j, rfl, h1, h2, h3, h4⟩ | ⟨rfl, h4⟩
  · exact .inl ⟨j, rfl, h2, h3, fun q hq => h4 q (by omega) hq⟩
  · exact .inr ⟨rfl, fun q hq => h4 q (by omega) hq⟩
set_option maxHeartbeats 16000000 in
set_option maxRecDepth 100000 in
theorem finds_law (n f t : Int) {v : Value} {D : List Dv} (w : World) (h : Dos w v D) (hbig : D.length ≤ maxLen) : Calls Try.prog 5 #[.int .i64 n, v, .int .i64 f, .int .i64 t] w (Yes w) := by
  unfold maxLen at hbig
  obtain ⟨A, c, rfl, hc⟩ := rowN_sliceOf h.row
  have HH := Lib.hid h
  clear h hc
  rcases hr : roomB n with _ | _
  · have HR := Lib.hid hr
    clear hr
    go_enter Try.func5, Try.ntmps5
    go_wp2_with
      (first
       | (go_at_call 11; refine (new_bad n _ HR.out).mono ?_; rintro e w1 ⟨rfl, rfl⟩)
       | (go_at_call 10; refine (awake_any _).mono ?_; rintro e w2 ⟨rfl, hb⟩; have HB := Lib.hid hb; clear hb))
    go_ret
    exact ⟨rfl, HB.out⟩
  · have HR := Lib.hid hr
    have HB0 := Lib.hid (below_new (o := .cells #[.int .i64 0, .int .i64 0, .int .i64 0, .int .i64 n, .slice none 0 0] 74) (Below.refl w.heap.size w))
    have HN0 := Lib.hid (Nt.new (F := fun _ => False) n w (fun _ e => e.elim))
    have HH1 := Lib.hid (HH.out.below HB0.out)
    clear hr
    rcases hq : fewB10 D with _ | _
    · have HQ := Lib.hid hq
      clear hq
      go_enter Try.func5, Try.ntmps5
      go_wp2_with
        (first
         | (go_at_call 11; refine (new_ok n _ HR.out).mono ?_; rintro e w1 ⟨rfl, rfl⟩; unfold ptrV)
         | (go_at_call 9; refine (few10_any HH1.out (by omega)).mono ?_; rintro e w2 ⟨rfl, hb⟩; rw [HQ.out]; have HB1 := Lib.hid (below_on HB0.out hb); clear hb)
         | (go_at_call 10; refine (awake_any _).mono ?_; rintro e w3 ⟨rfl, hb⟩; have HB2 := Lib.hid (below_on HB1.out hb); clear hb))
      go_ret
      exact ⟨rfl, HB2.out⟩
    · have HQ := Lib.hid hq
      have HFEW := Lib.hid (fewB10_iff.1 hq)
      have hlen : D.length ≤ 40 := (fewB10_iff.1 hq).2
      have h1n : 1 ≤ n := (roomB_iff.1 HR.out).1
      clear hq
      go_enter Try.func5, Try.ntmps5
      go_wp2_with
        (first
         | (go_at_call 11; refine (new_ok n _ HR.out).mono ?_; rintro e w1 ⟨rfl, rfl⟩; unfold ptrV)
         | (go_at_call 9
            refine (few10_any HH1.out (by omega)).mono ?_
            rintro e w2 ⟨rfl, hb⟩
            rw [HQ.out]
            have HB1 := Lib.hid hb
            clear hb)
         | (go_at_call 12
            refine (dnew_any n _).mono ?_
            rintro e w3 ⟨rfl, hb⟩
            have HST := Lib.hid (Std.start h1n HN0.out HB0.out (below_on HB1.out hb) (Nat.le_refl _))
            clear hb)
         | (with_reducible refine wpList_store_fresh rfl 29 _ _ rfl _ rfl 29 _ (dnL (St.new n) (.slice none 0 0)) rfl rfl rfl (dn_size _ _) (dn_one _ _ _ _) ?_)
         | fail)
      have HBR := Lib.hid (show w.heap.size ≤ w3.heap.size from HST.out.bl)
      generalize hbr : w3.heap.size = br at *
      clear hbr
      go_loopw [33] (fun i wr => ∃ (k : Nat) (s : St) (sv : Value), i = .int .i64 k ∧ k ≤ D.length ∧ Hid (Std w wr w.heap.size br s sv k n)) (fun i _ => D.length - (intOf i).toNat)
      case atStart => exact ⟨0, St.new n, .slice none 0 0, rfl, Nat.zero_le _, HST⟩
      case round =>
        clear HST
        obtain ⟨k, s, sv, rfl, hk, HG⟩ := hrel
        by_cases hlt : k < D.length
        · obtain ⟨d, hd⟩ : ∃ d, D[k]? = some d := ⟨_, List.getElem?_eq_getElem hlt⟩
          have hdm : d ∈ D := List.mem_of_getElem? hd
          obtain ⟨b, o, rfl, hbl, hrr⟩ := rowG_range dv_len (HH.out.below HG.out.bel).row hd
          have HRR := Lib.hid hrr
          have htx := HH.out.tx d hdm
          have K := HFEW.out.1 d hdm
          have b1 := below_new (o := .cells d.cells.toArray 51) (Below.refl wr.heap.size wr)
          have HS1 := Lib.hid (HG.out.below b1)
          have LD := Lib.hid HS1.out.hd.cel.whole
          have LX := Lib.hid (Hold.new wr d.cells 51).cel.whole
          have HONE := Lib.hid (dv_one (HH.out.below HG.out.bel |>.tx d hdm))
          have CD := Lib.hid (does_any HS1.out.nt HS1.out.dv (HS1.out.txt htx) HS1.out.ok (by omega) K)
          have HOK := Lib.hid (stepS_ok HS1.out.ok K)
          have hk1 : (k : Int) < (D.length : Int) := by omega
          unfold ptrV at CD
          clear hd hdm hbl hrr htx K b1
          go_wp2_with (first
            | (with_reducible refine wpList_load_mid rfl 51 _ rfl b (o + k * 32) rfl _ _ HRR.out Try.underlying51 rfl (dv_size _) ?_)
            | (with_reducible refine wpList_store_fresh rfl 51 _ _ rfl wr.heap.size rfl 51 _ d.cells rfl rfl rfl (dv_size _) HONE.out ?_)
            | (with_reducible refine wpList_load_mid rfl 29 _ rfl br 0 rfl _ _ LD.out Try.underlying29 rfl (dn_size _ _) ?_)
            | (with_reducible refine wpList_load_mid rfl 51 _ rfl wr.heap.size 0 rfl _ _ LX.out Try.underlying51 rfl (dv_size _) ?_)
            | fail)
          refine CD.out.mono ?_
          rintro e w2 ⟨v2, rfl, hn2, hv2, hk2⟩
          obtain ⟨A2, c2, rfl⟩ := hv2.slice
          obtain ⟨hst, hh2⟩ := HS1.out.next hn2 hv2 hk2 (m := ((k + 1 : Nat) : Int)) (by rw [Int.natCast_add]; exact HOK.out) ((stepS_room d s).trans HS1.out.rm)
          have TH := Lib.hid (show World.there w2 br 0 (dnL (stepS d s) (.slice A2 (stepS d s).ms.length c2)).length from hh2.there (by show 0 + 5 ≤ 5; omega))
          have HST := Lib.hid hst
          clear hn2 hv2 hk2 hst hh2 CD
          generalize hs2 : stepS d s = s2 at *
          clear hs2
          go_wp2_with (first
            | (with_reducible refine store_list rfl 29 _ _ rfl br 0 (dnL s2 (.slice A2 s2.ms.length c2)) rfl rfl TH.out (dn_size _ _) (dn_one _ _ _ _) ?_)
            | fail)
          go_roundw
          case rel => exact ⟨k + 1, s2, .slice A2 s2.ms.length c2, by go_num, hlt, HST⟩
          case measure => simp [intOf]; omega
        · have hk1 : ¬ ((k : Int) < (D.length : Int)) := by omega
          obtain ⟨A3, c3, rfl⟩ := HG.out.dv.slice
          have c1 := hold_cell HG.out.hd 1 rfl
          have hok := HG.out.ok
          have hl40 : s.ms.length ≤ 40 := by have := hok.eq; have := hok.s1; have := hok.c0; have := hok.l0; omega
          have e1 : IntKind.i64.wrap ((s.ms.length : Int) - 1) = (s.ms.length : Int) - 1 := IntWalk.i64_in _ (by omega)
          clear hok
          go_wp2
          go_loopw [14, 15] (fun x i wq => ∃ m r : Int, x = .int .i64 r ∧ i = .int .i64 m ∧ -1 ≤ m ∧ m < (s.ms.length : Int) ∧ Hid (Below wr.heap.size wr wq) ∧ Hid (Wnt s.ms f t m r)) (fun _ i _ => (intOf i + 1).toNat)
          case atStart => exact ⟨(s.ms.length : Int) - 1, -1, rfl, rfl, by omega, by omega, Lib.hid (Below.refl _ _), Lib.hid (Wnt.start _ _ _)⟩
          case round =>
            obtain ⟨m, r, rfl, rfl, hm0, hm1, BQ, HW⟩ := hrel
            have HGQ := Lib.hid (HG.out.below BQ.out)
            have d1 := hold_cell HGQ.out.hd 1 rfl
            by_cases hm : 0 ≤ m
            · obtain ⟨i, rfl⟩ := Int.eq_ofNat_of_zero_le hm
              have hi : i < s.ms.length := by omega
              obtain ⟨b, o, x, rfl, hb, hr, hx, ht⟩ := HGQ.out.dv.at hi
              have cf : World.cell? _ ⟨b, o + i * 30 + 1, none⟩ = some (.int .i64 x.m.fr) := hr 1 _ rfl
              have ct : World.cell? _ ⟨b, o + i * 30 + 2, none⟩ = some (.int .i64 x.m.to) := hr 2 _ rfl
              have e2 : IntKind.i64.wrap ((i : Int) - 1) = (i : Int) - 1 := IntWalk.i64_in _ (by omega)
              have hit : hitAt s.ms f t i = hitB x.m f t := by
                unfold hitAt
                rw [List.getD, List.getElem?_eq_getElem hi, hx]; rfl
              have HI := Lib.hid hit
              clear hb hr hx ht hit
              generalize x.m = mm at *
              by_cases h1 : mm.fr = f
              · by_cases h2 : mm.to = t
                · have HT := Lib.hid (show hitAt s.ms f t i = true by rw [HI.out]; unfold hitB; simp [h1, h2])
                  have q1 : ((mm.fr : Int) == f) = true := by simpa using h1
                  have q2 : ((mm.to : Int) == t) = true := by simpa using h2
                  clear h1 h2
                  go_wp2
                  go_roundw
                  case rel => exact ⟨_, _, rfl, rfl, by omega, by omega, BQ, Lib.hid (Wnt.hit hi HT.out)⟩
                  case measure => simp [intOf]
                · have HT := Lib.hid (show hitAt s.ms f t i = false by rw [HI.out]; unfold hitB; simp [h2])
                  have q1 : ((mm.fr : Int) == f) = true := by simpa using h1
                  have q2 : ((mm.to : Int) == t) = false := by simpa using h2
                  clear h1 h2
                  go_wp2
                  go_roundw
                  case rel => exact ⟨_, _, rfl, rfl, by omega, by omega, BQ, Lib.hid (Wnt.miss HW.out HT.out)⟩
                  case measure => simp [intOf]
              · have HT := Lib.hid (show hitAt s.ms f t i = false by rw [HI.out]; unfold hitB; simp [h1])
                have q1 : ((mm.fr : Int) == f) = false := by simpa using h1
                clear h1
                go_wp2
                go_roundw
                case rel => exact ⟨_, _, rfl, rfl, by omega, by omega, BQ, Lib.hid (Wnt.miss HW.out HT.out)⟩
                case measure => simp [intOf]
            · have HF := Lib.hid (HW.out.find (by omega))
              have HBE := Lib.hid HGQ.out.bel
              go_wp2_with (first
                | (go_at_call 17; refine (find_any HGQ.out.nt (by omega) f t).mono ?_; rintro e w4 ⟨r2, rfl, hf, hb⟩; have er := FndAt.one hf HF.out; subst er; have HB4 := Lib.hid (below_on HBE.out hb); clear hb hf)
                | (go_at_call 10; refine (awake_any _).mono ?_; rintro e w5 ⟨rfl, hb⟩; have HB := Lib.hid (below_on HB4.out hb); clear hb))
              go_ret
              exact ⟨rfl, HB.out⟩
end Go.Proofs.Ytnahboflpipfpaa
