/- Contract of the document's Attrs; no conditions but those that they name. -/
import Derived.Test.YtpknkhgkejkpkaaGreatDkn
import Derived.Test.YtpknkhgkejkpkaaGreatAtt

namespace Go.Proofs.YtpknkhgkejkpkaaGreat
open Go.ChangeShapes Go.WideShapes Go.ChangeAt Go.RowKit

attribute [local go_sem ↓] Dp.run_max_mx Dp.run_min_mn
set_option maxHeartbeats 8000000 in
set_option maxRecDepth 100000 in
theorem dattrs_any {w : World} {v : Value} {X : List Rv} (h : Rows w v X) (hl : X.length ≤ 1000) (hm : ∀ x ∈ X, M.Mod x.r.c) (i1 i2 : Int) (c : M.Cmd) {ua ub : Value} (g : Rds w ua c.rs) (g' : Wrs w ub c.ws) (G : M.Mod c) (s : Int) (d : Nat → Int) :
    Calls Tryz.prog 32 #[v, .agg #[.int .i64 i1, .int .i64 i2], .agg #[.int .i64 c.k, .int .i64 c.tc, .int .i64 c.tn, .int .i64 c.tt, .int .i64 c.tk, .int .i64 c.sh, ua, ub, .bool c.cm], .int .i64 s, .agg #[.int .i64 (d 0), .int .i64 (d 1), .int .i64 (d 2), .int .i64 (d 3), .int .i64 (d 4), .int .i64 (d 5), .int .i64 (d 6)]] w (Attd (atS X (i1, i2) c s) (atD X (i1, i2) c d) w) := by
  obtain ⟨A, cc, rfl⟩ := rowN_sliceOf h.row
  obtain ⟨A5, c5, ec⟩ := rowN_sliceOf g
  obtain ⟨A6, c6, ed⟩ := rowN_sliceOf g'
  subst ec ed
  have hb0 : Below w.heap.size w ((((w.alloc (.cells #[.int .i64 i1, .int .i64 i2] 32)).alloc (.cells #[.int .i64 c.k, .int .i64 c.tc, .int .i64 c.tn, .int .i64 c.tt, .int .i64 c.tk, .int .i64 c.sh, (.slice A5 c.rs.length c5), (.slice A6 c.ws.length c6), .bool c.cm] 30)).alloc (.cells #[.int .i64 (d 0), .int .i64 (d 1), .int .i64 (d 2), .int .i64 (d 3), .int .i64 (d 4), .int .i64 (d 5), .int .i64 (d 6)] 39)).alloc (.cells #[.int .i64 0, .int .i64 0, .int .i64 0, .int .i64 0, .int .i64 0, .int .i64 0, .int .i64 0] 39)) := below_new (below_new (below_new (below_new (Below.refl _ _))))
  have hs0 : ((((w.alloc (.cells #[.int .i64 i1, .int .i64 i2] 32)).alloc (.cells #[.int .i64 c.k, .int .i64 c.tc, .int .i64 c.tn, .int .i64 c.tt, .int .i64 c.tk, .int .i64 c.sh, (.slice A5 c.rs.length c5), (.slice A6 c.ws.length c6), .bool c.cm] 30)).alloc (.cells #[.int .i64 (d 0), .int .i64 (d 1), .int .i64 (d 2), .int .i64 (d 3), .int .i64 (d 4), .int .i64 (d 5), .int .i64 (d 6)] 39)).alloc (.cells #[.int .i64 0, .int .i64 0, .int .i64 0, .int .i64 0, .int .i64 0, .int .i64 0, .int .i64 0] 39)).heap.size = w.heap.size + 4 := by simp
  have hh0 : Hold ((((w.alloc (.cells #[.int .i64 i1, .int .i64 i2] 32)).alloc (.cells #[.int .i64 c.k, .int .i64 c.tc, .int .i64 c.tn, .int .i64 c.tt, .int .i64 c.tk, .int .i64 c.sh, (.slice A5 c.rs.length c5), (.slice A6 c.ws.length c6), .bool c.cm] 30)).alloc (.cells #[.int .i64 (d 0), .int .i64 (d 1), .int .i64 (d 2), .int .i64 (d 3), .int .i64 (d 4), .int .i64 (d 5), .int .i64 (d 6)] 39)).alloc (.cells #[.int .i64 0, .int .i64 0, .int .i64 0, .int .i64 0, .int .i64 0, .int .i64 0, .int .i64 0] 39)) w.heap.size 32 [.int .i64 i1, .int .i64 i2] := ((Hold.new w [.int .i64 i1, .int .i64 i2] 32).on (below_new (Below.refl _ _))).on (below_new (below_new (Below.refl _ _)))
  have hh1 : Hold ((((w.alloc (.cells #[.int .i64 i1, .int .i64 i2] 32)).alloc (.cells #[.int .i64 c.k, .int .i64 c.tc, .int .i64 c.tn, .int .i64 c.tt, .int .i64 c.tk, .int .i64 c.sh, (.slice A5 c.rs.length c5), (.slice A6 c.ws.length c6), .bool c.cm] 30)).alloc (.cells #[.int .i64 (d 0), .int .i64 (d 1), .int .i64 (d 2), .int .i64 (d 3), .int .i64 (d 4), .int .i64 (d 5), .int .i64 (d 6)] 39)).alloc (.cells #[.int .i64 0, .int .i64 0, .int .i64 0, .int .i64 0, .int .i64 0, .int .i64 0, .int .i64 0] 39)) (w.heap.size + 1) 30 [.int .i64 c.k, .int .i64 c.tc, .int .i64 c.tn, .int .i64 c.tt, .int .i64 c.tk, .int .i64 c.sh, (.slice A5 c.rs.length c5), (.slice A6 c.ws.length c6), .bool c.cm] := by
    have := (Hold.new (w.alloc (.cells #[.int .i64 i1, .int .i64 i2] 32)) [.int .i64 c.k, .int .i64 c.tc, .int .i64 c.tn, .int .i64 c.tt, .int .i64 c.tk, .int .i64 c.sh, (.slice A5 c.rs.length c5), (.slice A6 c.ws.length c6), .bool c.cm] 30).on (below_new (o := .cells #[.int .i64 0, .int .i64 0, .int .i64 0, .int .i64 0, .int .i64 0, .int .i64 0, .int .i64 0] 39) (below_new (o := .cells #[.int .i64 (d 0), .int .i64 (d 1), .int .i64 (d 2), .int .i64 (d 3), .int .i64 (d 4), .int .i64 (d 5), .int .i64 (d 6)] 39) (Below.refl _ _)))
    simpa using this
  have hh2 : Hold ((((w.alloc (.cells #[.int .i64 i1, .int .i64 i2] 32)).alloc (.cells #[.int .i64 c.k, .int .i64 c.tc, .int .i64 c.tn, .int .i64 c.tt, .int .i64 c.tk, .int .i64 c.sh, (.slice A5 c.rs.length c5), (.slice A6 c.ws.length c6), .bool c.cm] 30)).alloc (.cells #[.int .i64 (d 0), .int .i64 (d 1), .int .i64 (d 2), .int .i64 (d 3), .int .i64 (d 4), .int .i64 (d 5), .int .i64 (d 6)] 39)).alloc (.cells #[.int .i64 0, .int .i64 0, .int .i64 0, .int .i64 0, .int .i64 0, .int .i64 0, .int .i64 0] 39)) (w.heap.size + 1 + 1) 39 [.int .i64 (d 0), .int .i64 (d 1), .int .i64 (d 2), .int .i64 (d 3), .int .i64 (d 4), .int .i64 (d 5), .int .i64 (d 6)] := by
    have := (Hold.new ((w.alloc (.cells #[.int .i64 i1, .int .i64 i2] 32)).alloc (.cells #[.int .i64 c.k, .int .i64 c.tc, .int .i64 c.tn, .int .i64 c.tt, .int .i64 c.tk, .int .i64 c.sh, (.slice A5 c.rs.length c5), (.slice A6 c.ws.length c6), .bool c.cm] 30)) [.int .i64 (d 0), .int .i64 (d 1), .int .i64 (d 2), .int .i64 (d 3), .int .i64 (d 4), .int .i64 (d 5), .int .i64 (d 6)] 39).on (below_new (o := .cells #[.int .i64 0, .int .i64 0, .int .i64 0, .int .i64 0, .int .i64 0, .int .i64 0, .int .i64 0] 39) (Below.refl _ _))
    simpa using this
  have hh3 : Hold ((((w.alloc (.cells #[.int .i64 i1, .int .i64 i2] 32)).alloc (.cells #[.int .i64 c.k, .int .i64 c.tc, .int .i64 c.tn, .int .i64 c.tt, .int .i64 c.tk, .int .i64 c.sh, (.slice A5 c.rs.length c5), (.slice A6 c.ws.length c6), .bool c.cm] 30)).alloc (.cells #[.int .i64 (d 0), .int .i64 (d 1), .int .i64 (d 2), .int .i64 (d 3), .int .i64 (d 4), .int .i64 (d 5), .int .i64 (d 6)] 39)).alloc (.cells #[.int .i64 0, .int .i64 0, .int .i64 0, .int .i64 0, .int .i64 0, .int .i64 0, .int .i64 0] 39)) (w.heap.size + 1 + 1 + 1) 39 [.int .i64 0, .int .i64 0, .int .i64 0, .int .i64 0, .int .i64 0, .int .i64 0, .int .i64 0] := by
    have := Hold.new (((w.alloc (.cells #[.int .i64 i1, .int .i64 i2] 32)).alloc (.cells #[.int .i64 c.k, .int .i64 c.tc, .int .i64 c.tn, .int .i64 c.tt, .int .i64 c.tk, .int .i64 c.sh, (.slice A5 c.rs.length c5), (.slice A6 c.ws.length c6), .bool c.cm] 30)).alloc (.cells #[.int .i64 (d 0), .int .i64 (d 1), .int .i64 (d 2), .int .i64 (d 3), .int .i64 (d 4), .int .i64 (d 5), .int .i64 (d 6)] 39)) [.int .i64 0, .int .i64 0, .int .i64 0, .int .i64 0, .int .i64 0, .int .i64 0, .int .i64 0] 39
    simpa using this
  have HC := Lib.hid (dagainst_any (h.below hb0) hl hm i1 i2 c (g.below hb0) (g'.below hb0) G)
  have HP := Lib.hid (hold_range hh0 0 [.int .i64 i1, .int .i64 i2] (fun j v hj => by rw [Nat.zero_add]; exact hj))
  have HQ := Lib.hid (hold_range hh1 0 [.int .i64 c.k, .int .i64 c.tc, .int .i64 c.tn, .int .i64 c.tt, .int .i64 c.tk, .int .i64 c.sh, (.slice A5 c.rs.length c5), (.slice A6 c.ws.length c6), .bool c.cm] (fun j v hj => by rw [Nat.zero_add]; exact hj))
  have H2 := Lib.hid hh2
  have H3 := Lib.hid hh3
  have HB := Lib.hid hb0
  have HTX := Lib.hid (fun x hx => h.tx x (confs_mem (i := (i1, i2)) (c := c) hx))
  have HCL := Lib.hid (confs_len X (i1, i2) c)
  have HAS := Lib.hid (show atS X (i1, i2) c s = seqs s (rcs (confs X (i1, i2) c)) from rfl)
  have HAD := Lib.hid (show atD X (i1, i2) c d = depsL d (rcs (confs X (i1, i2) c)) from rfl)
  clear h g g' hb0 hh0 hh1 hh2 hh3 hm
  go_enter Tryz.func32, Tryz.ntmps32
  go_wp2_with (first
    | (with_reducible refine wpList_load_mid rfl 32 _ rfl w.heap.size 0 rfl [.int .i64 i1, .int .i64 i2] _ HP.out Tryz.underlying32 rfl (by kernel_rfl) ?_)
    | (with_reducible refine wpList_load_mid rfl 30 _ rfl (w.heap.size + 1) 0 rfl [.int .i64 c.k, .int .i64 c.tc, .int .i64 c.tn, .int .i64 c.tt, .int .i64 c.tk, .int .i64 c.sh, (.slice A5 c.rs.length c5), (.slice A6 c.ws.length c6), .bool c.cm] _ HQ.out Tryz.underlying30 rfl (by kernel_rfl) ?_)
    | fail)
  generalize ((((w.alloc (.cells #[.int .i64 i1, .int .i64 i2] 32)).alloc (.cells #[.int .i64 c.k, .int .i64 c.tc, .int .i64 c.tn, .int .i64 c.tt, .int .i64 c.tk, .int .i64 c.sh, (.slice A5 c.rs.length c5), (.slice A6 c.ws.length c6), .bool c.cm] 30)).alloc (.cells #[.int .i64 (d 0), .int .i64 (d 1), .int .i64 (d 2), .int .i64 (d 3), .int .i64 (d 4), .int .i64 (d 5), .int .i64 (d 6)] 39)).alloc (.cells #[.int .i64 0, .int .i64 0, .int .i64 0, .int .i64 0, .int .i64 0, .int .i64 0, .int .i64 0] 39)) = w0 at *
  have HS0 := Lib.hid hs0
  clear hs0
  refine HC.out.mono ?_
  rintro e w1 ⟨v1, rfl, o1, hb1⟩
  obtain ⟨A1, k1, rfl⟩ := ownsRow_slice o1
  have HO1 := Lib.hid o1
  have H21 := Lib.hid (H2.out.on hb1)
  have H31 := Lib.hid (H3.out.on hb1)
  have HB1 := Lib.hid (below_on HB.out hb1)
  have HS1 := Lib.hid (show w0.heap.size ≤ w1.heap.size from hb1.size)
  generalize confs X (i1, i2) c = Y at *
  have hcl := HCL.out
  clear o1 hb1 HC HP HQ H2 H3 HB
  go_wp2
  go_loopw [3, 13] (fun n i wr => ∃ k : Nat, i = .int .i64 k ∧ k ≤ Y.length ∧ n = .int .i64 (seqs s (rcs (Y.take k))) ∧ Hid (Below w.heap.size w wr) ∧ Hid (wr.ownsRow w0.heap.size 41 25 (.slice A1 Y.length k1) Y.length (Y.flatMap Rv.cells)) ∧ Hid (Hold wr (w.heap.size + 1 + 1) 39 [.int .i64 (depsL d (rcs (Y.take k)) 0), .int .i64 (depsL d (rcs (Y.take k)) 1), .int .i64 (depsL d (rcs (Y.take k)) 2), .int .i64 (depsL d (rcs (Y.take k)) 3), .int .i64 (depsL d (rcs (Y.take k)) 4), .int .i64 (depsL d (rcs (Y.take k)) 5), .int .i64 (depsL d (rcs (Y.take k)) 6)]) ∧ Hid (Hold wr (w.heap.size + 1 + 1 + 1) 39 [.int .i64 0, .int .i64 0, .int .i64 0, .int .i64 0, .int .i64 0, .int .i64 0, .int .i64 0]) ∧ w0.heap.size ≤ wr.heap.size) (fun _ i _ => Y.length - (intOf i).toNat)
  case atStart => exact ⟨0, rfl, Nat.zero_le _, rfl, HB1, HO1, H21, H31, HS1.out⟩
  case round =>
    clear HB1 HO1 H21 H31 HS1
    obtain ⟨k, rfl, hk, rfl, HW, HO, HD, HZ, hsz⟩ := hrel
    by_cases hlt : k < Y.length
    · obtain ⟨x, hx⟩ : ∃ x, Y[k]? = some x := ⟨_, List.getElem?_eq_getElem hlt⟩
      have hxm : x ∈ Y := List.mem_of_getElem? hx
      obtain ⟨b, o, rfl, hbl, hrr⟩ := owns_range' HO.out hx
      have HSQ := Lib.hid (seqs_take (s := s) hx)
      have HDP := Lib.hid (deps_take (d := d) hx)
      have htx := HTX.out x hxm
      obtain ⟨r, va, vb⟩ := x
      obtain ⟨A3, c3, ea⟩ := rowN_sliceOf htx.rs
      obtain ⟨A4, c4, eb⟩ := rowN_sliceOf htx.ws
      dsimp only at ea eb
      subst ea eb
      have HRR := Lib.hid (show wr.rangeAt b (o + k * 25) [.int .i64 r.ir, .int .i64 r.is, .int .i64 r.st, .int .i64 r.pn, .int .i64 r.pr, .int .i64 r.bn, .int .i64 r.br, .int .i64 r.c.k, .int .i64 r.c.tc, .int .i64 r.c.tn, .int .i64 r.c.tt, .int .i64 r.c.tk, .int .i64 r.c.sh, (.slice A3 r.c.rs.length c3), (.slice A4 r.c.ws.length c4), .bool r.c.cm, .int .i64 r.sq, .int .i64 r.d0, .int .i64 r.d1, .int .i64 r.d2, .int .i64 r.d3, .int .i64 r.d4, .int .i64 r.d5, .int .i64 r.d6, .bool r.kp] from hrr)
      have hk1 : (k : Int) < (Y.length : Int) := by omega
      have HI := Lib.hid (show wr.rangeAt b (o + k * 25) [.int .i64 r.ir, .int .i64 r.is] from fun j v hj => HRR.out j v (by
          match j, hj with
          | 0, hj => exact hj
          | 1, hj => exact hj))
      have hsq : wr.cell? ⟨b, o + k * 25 + 16, none⟩ = some (.int .i64 r.sq) := HRR.out 16 _ rfl
      have HDR := Lib.hid (hold_range HD.out 0 _ (fun j v hj => by rw [Nat.zero_add]; exact hj))
      have HHL := Lib.hid (show w.heap.size + 4 = w0.heap.size from HS0.out.symm)
      clear hx hxm hrr htx
      generalize seqs s (rcs (Y.take k)) = sk at *
      generalize depsL d (rcs (Y.take k)) = dk at *
      by_cases hq : r.sq < 1099511627776
      · have HF := Lib.hid (show wrap64 (r.sq + 1) = fol r.sq by unfold fol Dp.M.mn; rw [if_neg (by omega)])
        have hq' : decide (r.sq < 1099511627776) = true := decide_eq_true hq
        by_cases hg : sk < wrap64 (r.sq + 1)
        · have HM := Lib.hid (show wrap64 (r.sq + 1) = seq1 sk r by unfold seq1; rw [← HF.out]; unfold Dp.M.mx; rw [if_pos hg])
          have hg' : decide (sk < wrap64 (r.sq + 1)) = true := decide_eq_true hg
          clear hq hg
          go_wp2
          have hHeld0 := range_on hbl HI.out (Below.refl _ wr).drew
          refine wp_region_held_drew (S := fun w' => w'.rangeAt b (o + k * 25) [.int .i64 r.ir, .int .i64 r.is]) (by kernel_rfl) (by exact hHeld0) (fun hHeld => ?_)
          have hi42 : (Tryz.prog.info? 39).map (·.size) = some ([.int .i64 (dk 0), .int .i64 (dk 1), .int .i64 (dk 2), .int .i64 (dk 3), .int .i64 (dk 4), .int .i64 (dk 5), .int .i64 (dk 6)] : List Value).length := by kernel_rfl
          have hi24 : (Tryz.prog.info? 32).map (·.size) = some ([.int .i64 r.ir, .int .i64 r.is] : List Value).length := by kernel_rfl
          have hi42' : (Tryz.prog.info? 39).map (·.size) = some ([.int .i64 (Dp.M.wit dk r.ir r.is 0), .int .i64 (Dp.M.wit dk r.ir r.is 1), .int .i64 (Dp.M.wit dk r.ir r.is 2), .int .i64 (Dp.M.wit dk r.ir r.is 3), .int .i64 (Dp.M.wit dk r.ir r.is 4), .int .i64 (Dp.M.wit dk r.ir r.is 5), .int .i64 (Dp.M.wit dk r.ir r.is 6)] : List Value).length := by kernel_rfl
          have hne : b ≠ w.heap.size + 1 + 1 := fun e => by
            have h1 := (HO.out.lt b rfl).1
            have h2 := HHL.out
            omega
          refine wpAnyH_take (i := 1) (oi := ⟨some 39, .move (.tmp 12), _, _, _, none⟩) (v := ?_) rfl (by kernel_rfl) (by kernel_rfl) (by kernel_rfl) (fun _ _ _ h => h) (Or.inl ⟨by rfl, ?_⟩) (by assumption) ?_
          rotate_left
          · (intro w hSw; (try dsimp only at hSw); go_split_ands; go_simp; (try with_reducible rfl))
          (try simp only [Act.put]); (try simp only [List.setIfInBounds_toArray]); (try simp only [List.set_cons_succ]); (try simp only [List.set_cons_zero])
          refine wpAnyH_take (i := 2) (oi := ⟨some 40, .move (.tmp 13), _, _, _, none⟩) (v := ?_) rfl (by kernel_rfl) (by kernel_rfl) (by kernel_rfl) (fun _ _ _ h => h) (Or.inl ⟨by rfl, ?_⟩) (by assumption) ?_
          rotate_left
          · (intro w hSw; (try dsimp only at hSw); go_split_ands; go_simp; (try with_reducible rfl))
          (try simp only [Act.put]); (try simp only [List.setIfInBounds_toArray]); (try simp only [List.set_cons_succ]); (try simp only [List.set_cons_zero])
          refine wpAnyH_take (i := 3) (oi := ⟨some 41, .indexAddr 22 (.tmp 39) (.tmp 40), _, _, _, none⟩) (v := ?_) rfl (by kernel_rfl) (by kernel_rfl) (by kernel_rfl) (fun _ _ _ h => h) (Or.inl ⟨by rfl, ?_⟩) (by assumption) ?_
          rotate_left
          · (intro w hSw; (try dsimp only at hSw); go_split_ands; go_simp; (try with_reducible rfl))
          (try simp only [Act.put]); (try simp only [List.setIfInBounds_toArray]); (try simp only [List.set_cons_succ]); (try simp only [List.set_cons_zero])
          refine wpAnyH_take (i := 4) (oi := ⟨some 42, .fieldAddr 41 (.tmp 41) 0, _, _, _, none⟩) (v := ?_) rfl (by kernel_rfl) (by kernel_rfl) (by kernel_rfl) (fun _ _ _ h => h) (Or.inl ⟨by rfl, ?_⟩) (by assumption) ?_
          rotate_left
          · (intro w hSw; (try dsimp only at hSw); go_split_ands; go_simp; (try with_reducible rfl))
          (try simp only [Act.put]); (try simp only [List.setIfInBounds_toArray]); (try simp only [List.set_cons_succ]); (try simp only [List.set_cons_zero])
          refine wpAnyH_take (i := 5) (oi := ⟨some 43, .load 32 (.tmp 42), _, _, _, none⟩) (v := .agg ([.int .i64 r.ir, .int .i64 r.is] : List Value).toArray) rfl (by kernel_rfl) (by kernel_rfl) (by kernel_rfl) (fun _ _ _ h => h) (yieldsIf_load_mid (by rfl) 32 _ rfl b (o + k * 25) rfl [.int .i64 r.ir, .int .i64 r.is] _ (fun w hSw => hSw) Tryz.underlying32 rfl hi24) (by assumption) ?_
          (try simp only [Act.put]); (try simp only [List.setIfInBounds_toArray]); (try simp only [List.set_cons_succ]); (try simp only [List.set_cons_zero])
          refine wpAnyH_ready (rs := [0]) (by kernel_rfl) (by simp) ?_
          refine AllReadyH.cons (o := ⟨some 38, .load 39 (.tmp 9), 39, _, _, none⟩) rfl (fun K hK => step_load rfl 39 (.tmp 9) rfl (w.heap.size + 1 + 1) 0 rfl [.int .i64 (dk 0), .int .i64 (dk 1), .int .i64 (dk 2), .int .i64 (dk 3), .int .i64 (dk 4), .int .i64 (dk 5), .int .i64 (dk 6)] _ (hold_range (HD.out.on (Below.refl _ wr).drew) 0 _ (fun j v hj => by rw [Nat.zero_add]; exact hj)) Tryz.underlying39 rfl hi42 (hK.out _ _ hHeld (fun hHeld => ?_))) AllReadyH.nil
          (try simp only [Act.put]); (try simp only [List.setIfInBounds_toArray]); (try simp only [List.set_cons_succ]); (try simp only [List.set_cons_zero])
          refine wpAnyH_ready (rs := [6]) (by kernel_rfl) (by simp) ?_
          refine AllReadyH.cons (o := ⟨some 44, .call { callee := .value (.func 64), args := #[.tmp 38, .tmp 43], argTypes := #[39, 32] }, 39, _, _, none⟩) rfl (fun K hK => ?_) AllReadyH.nil
          go_simp
          refine (Dp.refWith_any dk r.ir r.is wr.drew).mono ?_
          rintro e w7 ⟨rfl, hb7⟩
          have hbw : Below wr.heap.size wr w7 := (Below.refl _ _).drew.trans hb7
          have HD7 := Lib.hid (HD.out.on hbw)
          have HZ7 := Lib.hid (HZ.out.on hbw)
          have HO7 := Lib.hid (ownsRow_on HO.out hbw)
          have HW7 := Lib.hid (below_on HW.out hbw)
          have HS7 := Lib.hid (Nat.le_trans hsz hbw.size)
          have r2 := range_on hbl HI.out hbw
          have H1C : ([.int .i64 (Dp.M.wit dk r.ir r.is 0), .int .i64 (Dp.M.wit dk r.ir r.is 1), .int .i64 (Dp.M.wit dk r.ir r.is 2), .int .i64 (Dp.M.wit dk r.ir r.is 3), .int .i64 (Dp.M.wit dk r.ir r.is 4), .int .i64 (Dp.M.wit dk r.ir r.is 5), .int .i64 (Dp.M.wit dk r.ir r.is 6)] : List Value).all (·.oneCell') = true := rfl
          have r3 := range_puts r2 hne [.int .i64 (Dp.M.wit dk r.ir r.is 0), .int .i64 (Dp.M.wit dk r.ir r.is 1), .int .i64 (Dp.M.wit dk r.ir r.is 2), .int .i64 (Dp.M.wit dk r.ir r.is 3), .int .i64 (Dp.M.wit dk r.ir r.is 4), .int .i64 (Dp.M.wit dk r.ir r.is 5), .int .i64 (Dp.M.wit dk r.ir r.is 6)] 0
          clear hb7 hbw
          try go_simp
          refine hK.out _ _ (by exact r2) (fun hHeld => ?_)
          clear hK K
          (try simp only [Act.put]); (try simp only [List.setIfInBounds_toArray]); (try simp only [List.set_cons_succ]); (try simp only [List.set_cons_zero])
          refine wpAnyH_store (i := 7) (o := ⟨none, .store 39 (.tmp 9) (.tmp 44), 0, _, _, none⟩) (by kernel_rfl) rfl rfl 39 (.tmp 9) (.tmp 44) rfl (w.heap.size + 1 + 1) 39 [.int .i64 (dk 0), .int .i64 (dk 1), .int .i64 (dk 2), .int .i64 (dk 3), .int .i64 (dk 4), .int .i64 (dk 5), .int .i64 (dk 6)] [.int .i64 (Dp.M.wit dk r.ir r.is 0), .int .i64 (Dp.M.wit dk r.ir r.is 1), .int .i64 (Dp.M.wit dk r.ir r.is 2), .int .i64 (Dp.M.wit dk r.ir r.is 3), .int .i64 (Dp.M.wit dk r.ir r.is 4), .int .i64 (Dp.M.wit dk r.ir r.is 5), .int .i64 (Dp.M.wit dk r.ir r.is 6)] rfl rfl HD7.out rfl hi42' H1C (by exact r3) ?_
          (try simp only [Act.put]); (try simp only [List.setIfInBounds_toArray]); (try simp only [List.set_cons_succ]); (try simp only [List.set_cons_zero])
          refine wpAnyH_done (by kernel_rfl) ?_ _
          have HD8 := Lib.hid (Hold.set [.int .i64 (Dp.M.wit dk r.ir r.is 0), .int .i64 (Dp.M.wit dk r.ir r.is 1), .int .i64 (Dp.M.wit dk r.ir r.is 2), .int .i64 (Dp.M.wit dk r.ir r.is 3), .int .i64 (Dp.M.wit dk r.ir r.is 4), .int .i64 (Dp.M.wit dk r.ir r.is 5), .int .i64 (Dp.M.wit dk r.ir r.is 6)] [] [.int .i64 (dk 0), .int .i64 (dk 1), .int .i64 (dk 2), .int .i64 (dk 3), .int .i64 (dk 4), .int .i64 (dk 5), .int .i64 (dk 6)] [] rfl w7 HD7.out)
          have HZ8 := Lib.hid (hold_puts (b' := w.heap.size + 1 + 1) (o := 0) (S := [.int .i64 (Dp.M.wit dk r.ir r.is 0), .int .i64 (Dp.M.wit dk r.ir r.is 1), .int .i64 (Dp.M.wit dk r.ir r.is 2), .int .i64 (Dp.M.wit dk r.ir r.is 3), .int .i64 (Dp.M.wit dk r.ir r.is 4), .int .i64 (Dp.M.wit dk r.ir r.is 5), .int .i64 (Dp.M.wit dk r.ir r.is 6)]) HZ7.out (by omega))
          have HO8 := Lib.hid (ownsRow_setCells HO7.out (show w.heap.size + 1 + 1 < w0.heap.size by have := HHL.out; omega) [.int .i64 (Dp.M.wit dk r.ir r.is 0), .int .i64 (Dp.M.wit dk r.ir r.is 1), .int .i64 (Dp.M.wit dk r.ir r.is 2), .int .i64 (Dp.M.wit dk r.ir r.is 3), .int .i64 (Dp.M.wit dk r.ir r.is 4), .int .i64 (Dp.M.wit dk r.ir r.is 5), .int .i64 (Dp.M.wit dk r.ir r.is 6)] 0)
          have HW8 := Lib.hid (below_setCells (B := w.heap.size) (b := w.heap.size + 1 + 1) (by omega) [.int .i64 (Dp.M.wit dk r.ir r.is 0), .int .i64 (Dp.M.wit dk r.ir r.is 1), .int .i64 (Dp.M.wit dk r.ir r.is 2), .int .i64 (Dp.M.wit dk r.ir r.is 3), .int .i64 (Dp.M.wit dk r.ir r.is 4), .int .i64 (Dp.M.wit dk r.ir r.is 5), .int .i64 (Dp.M.wit dk r.ir r.is 6)] 0 _ _ HW7.out)
          have HS8 := Lib.hid (show w0.heap.size ≤ (w7.setCells (w.heap.size + 1 + 1) 0 [.int .i64 (Dp.M.wit dk r.ir r.is 0), .int .i64 (Dp.M.wit dk r.ir r.is 1), .int .i64 (Dp.M.wit dk r.ir r.is 2), .int .i64 (Dp.M.wit dk r.ir r.is 3), .int .i64 (Dp.M.wit dk r.ir r.is 4), .int .i64 (Dp.M.wit dk r.ir r.is 5), .int .i64 (Dp.M.wit dk r.ir r.is 6)]).heap.size by rw [size_puts]; exact HS7.out)
          clear r2 r3 hHeld hHeld0 hne HD7 HZ7 HO7 HW7 HS7
          go_wp2
          go_roundw
          case rel => exact ⟨k + 1, by go_num, hlt, by rw [HSQ.out]; exact congrArg (Value.int IntKind.i64) HM.out, HW8, HO8, Lib.hid (by rw [HDP.out]; exact HD8.out), HZ8, HS8.out⟩
          case measure => simp [intOf]; omega
        · have HM := Lib.hid (show sk = seq1 sk r by unfold seq1; rw [← HF.out]; unfold Dp.M.mx; rw [if_neg hg])
          have hg' : decide (sk < wrap64 (r.sq + 1)) = false := decide_eq_false hg
          clear hq hg
          go_wp2
          have hHeld0 := range_on hbl HI.out (Below.refl _ wr).drew
          refine wp_region_held_drew (S := fun w' => w'.rangeAt b (o + k * 25) [.int .i64 r.ir, .int .i64 r.is]) (by kernel_rfl) (by exact hHeld0) (fun hHeld => ?_)
          have hi42 : (Tryz.prog.info? 39).map (·.size) = some ([.int .i64 (dk 0), .int .i64 (dk 1), .int .i64 (dk 2), .int .i64 (dk 3), .int .i64 (dk 4), .int .i64 (dk 5), .int .i64 (dk 6)] : List Value).length := by kernel_rfl
          have hi24 : (Tryz.prog.info? 32).map (·.size) = some ([.int .i64 r.ir, .int .i64 r.is] : List Value).length := by kernel_rfl
          have hi42' : (Tryz.prog.info? 39).map (·.size) = some ([.int .i64 (Dp.M.wit dk r.ir r.is 0), .int .i64 (Dp.M.wit dk r.ir r.is 1), .int .i64 (Dp.M.wit dk r.ir r.is 2), .int .i64 (Dp.M.wit dk r.ir r.is 3), .int .i64 (Dp.M.wit dk r.ir r.is 4), .int .i64 (Dp.M.wit dk r.ir r.is 5), .int .i64 (Dp.M.wit dk r.ir r.is 6)] : List Value).length := by kernel_rfl
          have hne : b ≠ w.heap.size + 1 + 1 := fun e => by
            have h1 := (HO.out.lt b rfl).1
            have h2 := HHL.out
            omega
          refine wpAnyH_take (i := 1) (oi := ⟨some 39, .move (.tmp 12), _, _, _, none⟩) (v := ?_) rfl (by kernel_rfl) (by kernel_rfl) (by kernel_rfl) (fun _ _ _ h => h) (Or.inl ⟨by rfl, ?_⟩) (by assumption) ?_
          rotate_left
          · (intro w hSw; (try dsimp only at hSw); go_split_ands; go_simp; (try with_reducible rfl))
          (try simp only [Act.put]); (try simp only [List.setIfInBounds_toArray]); (try simp only [List.set_cons_succ]); (try simp only [List.set_cons_zero])
          refine wpAnyH_take (i := 2) (oi := ⟨some 40, .move (.tmp 13), _, _, _, none⟩) (v := ?_) rfl (by kernel_rfl) (by kernel_rfl) (by kernel_rfl) (fun _ _ _ h => h) (Or.inl ⟨by rfl, ?_⟩) (by assumption) ?_
          rotate_left
          · (intro w hSw; (try dsimp only at hSw); go_split_ands; go_simp; (try with_reducible rfl))
          (try simp only [Act.put]); (try simp only [List.setIfInBounds_toArray]); (try simp only [List.set_cons_succ]); (try simp only [List.set_cons_zero])
          refine wpAnyH_take (i := 3) (oi := ⟨some 41, .indexAddr 22 (.tmp 39) (.tmp 40), _, _, _, none⟩) (v := ?_) rfl (by kernel_rfl) (by kernel_rfl) (by kernel_rfl) (fun _ _ _ h => h) (Or.inl ⟨by rfl, ?_⟩) (by assumption) ?_
          rotate_left
          · (intro w hSw; (try dsimp only at hSw); go_split_ands; go_simp; (try with_reducible rfl))
          (try simp only [Act.put]); (try simp only [List.setIfInBounds_toArray]); (try simp only [List.set_cons_succ]); (try simp only [List.set_cons_zero])
          refine wpAnyH_take (i := 4) (oi := ⟨some 42, .fieldAddr 41 (.tmp 41) 0, _, _, _, none⟩) (v := ?_) rfl (by kernel_rfl) (by kernel_rfl) (by kernel_rfl) (fun _ _ _ h => h) (Or.inl ⟨by rfl, ?_⟩) (by assumption) ?_
          rotate_left
          · (intro w hSw; (try dsimp only at hSw); go_split_ands; go_simp; (try with_reducible rfl))
          (try simp only [Act.put]); (try simp only [List.setIfInBounds_toArray]); (try simp only [List.set_cons_succ]); (try simp only [List.set_cons_zero])
          refine wpAnyH_take (i := 5) (oi := ⟨some 43, .load 32 (.tmp 42), _, _, _, none⟩) (v := .agg ([.int .i64 r.ir, .int .i64 r.is] : List Value).toArray) rfl (by kernel_rfl) (by kernel_rfl) (by kernel_rfl) (fun _ _ _ h => h) (yieldsIf_load_mid (by rfl) 32 _ rfl b (o + k * 25) rfl [.int .i64 r.ir, .int .i64 r.is] _ (fun w hSw => hSw) Tryz.underlying32 rfl hi24) (by assumption) ?_
          (try simp only [Act.put]); (try simp only [List.setIfInBounds_toArray]); (try simp only [List.set_cons_succ]); (try simp only [List.set_cons_zero])
          refine wpAnyH_ready (rs := [0]) (by kernel_rfl) (by simp) ?_
          refine AllReadyH.cons (o := ⟨some 38, .load 39 (.tmp 9), 39, _, _, none⟩) rfl (fun K hK => step_load rfl 39 (.tmp 9) rfl (w.heap.size + 1 + 1) 0 rfl [.int .i64 (dk 0), .int .i64 (dk 1), .int .i64 (dk 2), .int .i64 (dk 3), .int .i64 (dk 4), .int .i64 (dk 5), .int .i64 (dk 6)] _ (hold_range (HD.out.on (Below.refl _ wr).drew) 0 _ (fun j v hj => by rw [Nat.zero_add]; exact hj)) Tryz.underlying39 rfl hi42 (hK.out _ _ hHeld (fun hHeld => ?_))) AllReadyH.nil
          (try simp only [Act.put]); (try simp only [List.setIfInBounds_toArray]); (try simp only [List.set_cons_succ]); (try simp only [List.set_cons_zero])
          refine wpAnyH_ready (rs := [6]) (by kernel_rfl) (by simp) ?_
          refine AllReadyH.cons (o := ⟨some 44, .call { callee := .value (.func 64), args := #[.tmp 38, .tmp 43], argTypes := #[39, 32] }, 39, _, _, none⟩) rfl (fun K hK => ?_) AllReadyH.nil
          go_simp
          refine (Dp.refWith_any dk r.ir r.is wr.drew).mono ?_
          rintro e w7 ⟨rfl, hb7⟩
          have hbw : Below wr.heap.size wr w7 := (Below.refl _ _).drew.trans hb7
          have HD7 := Lib.hid (HD.out.on hbw)
          have HZ7 := Lib.hid (HZ.out.on hbw)
          have HO7 := Lib.hid (ownsRow_on HO.out hbw)
          have HW7 := Lib.hid (below_on HW.out hbw)
          have HS7 := Lib.hid (Nat.le_trans hsz hbw.size)
          have r2 := range_on hbl HI.out hbw
          have H1C : ([.int .i64 (Dp.M.wit dk r.ir r.is 0), .int .i64 (Dp.M.wit dk r.ir r.is 1), .int .i64 (Dp.M.wit dk r.ir r.is 2), .int .i64 (Dp.M.wit dk r.ir r.is 3), .int .i64 (Dp.M.wit dk r.ir r.is 4), .int .i64 (Dp.M.wit dk r.ir r.is 5), .int .i64 (Dp.M.wit dk r.ir r.is 6)] : List Value).all (·.oneCell') = true := rfl
          have r3 := range_puts r2 hne [.int .i64 (Dp.M.wit dk r.ir r.is 0), .int .i64 (Dp.M.wit dk r.ir r.is 1), .int .i64 (Dp.M.wit dk r.ir r.is 2), .int .i64 (Dp.M.wit dk r.ir r.is 3), .int .i64 (Dp.M.wit dk r.ir r.is 4), .int .i64 (Dp.M.wit dk r.ir r.is 5), .int .i64 (Dp.M.wit dk r.ir r.is 6)] 0
          clear hb7 hbw
          try go_simp
          refine hK.out _ _ (by exact r2) (fun hHeld => ?_)
          clear hK K
          (try simp only [Act.put]); (try simp only [List.setIfInBounds_toArray]); (try simp only [List.set_cons_succ]); (try simp only [List.set_cons_zero])
          refine wpAnyH_store (i := 7) (o := ⟨none, .store 39 (.tmp 9) (.tmp 44), 0, _, _, none⟩) (by kernel_rfl) rfl rfl 39 (.tmp 9) (.tmp 44) rfl (w.heap.size + 1 + 1) 39 [.int .i64 (dk 0), .int .i64 (dk 1), .int .i64 (dk 2), .int .i64 (dk 3), .int .i64 (dk 4), .int .i64 (dk 5), .int .i64 (dk 6)] [.int .i64 (Dp.M.wit dk r.ir r.is 0), .int .i64 (Dp.M.wit dk r.ir r.is 1), .int .i64 (Dp.M.wit dk r.ir r.is 2), .int .i64 (Dp.M.wit dk r.ir r.is 3), .int .i64 (Dp.M.wit dk r.ir r.is 4), .int .i64 (Dp.M.wit dk r.ir r.is 5), .int .i64 (Dp.M.wit dk r.ir r.is 6)] rfl rfl HD7.out rfl hi42' H1C (by exact r3) ?_
          (try simp only [Act.put]); (try simp only [List.setIfInBounds_toArray]); (try simp only [List.set_cons_succ]); (try simp only [List.set_cons_zero])
          refine wpAnyH_done (by kernel_rfl) ?_ _
          have HD8 := Lib.hid (Hold.set [.int .i64 (Dp.M.wit dk r.ir r.is 0), .int .i64 (Dp.M.wit dk r.ir r.is 1), .int .i64 (Dp.M.wit dk r.ir r.is 2), .int .i64 (Dp.M.wit dk r.ir r.is 3), .int .i64 (Dp.M.wit dk r.ir r.is 4), .int .i64 (Dp.M.wit dk r.ir r.is 5), .int .i64 (Dp.M.wit dk r.ir r.is 6)] [] [.int .i64 (dk 0), .int .i64 (dk 1), .int .i64 (dk 2), .int .i64 (dk 3), .int .i64 (dk 4), .int .i64 (dk 5), .int .i64 (dk 6)] [] rfl w7 HD7.out)
          have HZ8 := Lib.hid (hold_puts (b' := w.heap.size + 1 + 1) (o := 0) (S := [.int .i64 (Dp.M.wit dk r.ir r.is 0), .int .i64 (Dp.M.wit dk r.ir r.is 1), .int .i64 (Dp.M.wit dk r.ir r.is 2), .int .i64 (Dp.M.wit dk r.ir r.is 3), .int .i64 (Dp.M.wit dk r.ir r.is 4), .int .i64 (Dp.M.wit dk r.ir r.is 5), .int .i64 (Dp.M.wit dk r.ir r.is 6)]) HZ7.out (by omega))
          have HO8 := Lib.hid (ownsRow_setCells HO7.out (show w.heap.size + 1 + 1 < w0.heap.size by have := HHL.out; omega) [.int .i64 (Dp.M.wit dk r.ir r.is 0), .int .i64 (Dp.M.wit dk r.ir r.is 1), .int .i64 (Dp.M.wit dk r.ir r.is 2), .int .i64 (Dp.M.wit dk r.ir r.is 3), .int .i64 (Dp.M.wit dk r.ir r.is 4), .int .i64 (Dp.M.wit dk r.ir r.is 5), .int .i64 (Dp.M.wit dk r.ir r.is 6)] 0)
          have HW8 := Lib.hid (below_setCells (B := w.heap.size) (b := w.heap.size + 1 + 1) (by omega) [.int .i64 (Dp.M.wit dk r.ir r.is 0), .int .i64 (Dp.M.wit dk r.ir r.is 1), .int .i64 (Dp.M.wit dk r.ir r.is 2), .int .i64 (Dp.M.wit dk r.ir r.is 3), .int .i64 (Dp.M.wit dk r.ir r.is 4), .int .i64 (Dp.M.wit dk r.ir r.is 5), .int .i64 (Dp.M.wit dk r.ir r.is 6)] 0 _ _ HW7.out)
          have HS8 := Lib.hid (show w0.heap.size ≤ (w7.setCells (w.heap.size + 1 + 1) 0 [.int .i64 (Dp.M.wit dk r.ir r.is 0), .int .i64 (Dp.M.wit dk r.ir r.is 1), .int .i64 (Dp.M.wit dk r.ir r.is 2), .int .i64 (Dp.M.wit dk r.ir r.is 3), .int .i64 (Dp.M.wit dk r.ir r.is 4), .int .i64 (Dp.M.wit dk r.ir r.is 5), .int .i64 (Dp.M.wit dk r.ir r.is 6)]).heap.size by rw [size_puts]; exact HS7.out)
          clear r2 r3 hHeld hHeld0 hne HD7 HZ7 HO7 HW7 HS7
          go_wp2
          go_roundw
          case rel => exact ⟨k + 1, by go_num, hlt, by rw [HSQ.out]; exact congrArg (Value.int IntKind.i64) HM.out, HW8, HO8, Lib.hid (by rw [HDP.out]; exact HD8.out), HZ8, HS8.out⟩
          case measure => simp [intOf]; omega
      · have HF := Lib.hid (show (1099511627776 : Int) = fol r.sq by unfold fol Dp.M.mn; rw [if_pos (by omega)]; unfold wrap64; omega)
        have hq' : decide (r.sq < 1099511627776) = false := decide_eq_false hq
        by_cases hg : sk < 1099511627776
        · have HM := Lib.hid (show (1099511627776 : Int) = seq1 sk r by unfold seq1; rw [← HF.out]; unfold Dp.M.mx; rw [if_pos hg])
          have hg' : decide (sk < 1099511627776) = true := decide_eq_true hg
          clear hq hg
          go_wp2
          have hHeld0 := range_on hbl HI.out (Below.refl _ wr).drew
          refine wp_region_held_drew (S := fun w' => w'.rangeAt b (o + k * 25) [.int .i64 r.ir, .int .i64 r.is]) (by kernel_rfl) (by exact hHeld0) (fun hHeld => ?_)
          have hi42 : (Tryz.prog.info? 39).map (·.size) = some ([.int .i64 (dk 0), .int .i64 (dk 1), .int .i64 (dk 2), .int .i64 (dk 3), .int .i64 (dk 4), .int .i64 (dk 5), .int .i64 (dk 6)] : List Value).length := by kernel_rfl
          have hi24 : (Tryz.prog.info? 32).map (·.size) = some ([.int .i64 r.ir, .int .i64 r.is] : List Value).length := by kernel_rfl
          have hi42' : (Tryz.prog.info? 39).map (·.size) = some ([.int .i64 (Dp.M.wit dk r.ir r.is 0), .int .i64 (Dp.M.wit dk r.ir r.is 1), .int .i64 (Dp.M.wit dk r.ir r.is 2), .int .i64 (Dp.M.wit dk r.ir r.is 3), .int .i64 (Dp.M.wit dk r.ir r.is 4), .int .i64 (Dp.M.wit dk r.ir r.is 5), .int .i64 (Dp.M.wit dk r.ir r.is 6)] : List Value).length := by kernel_rfl
          have hne : b ≠ w.heap.size + 1 + 1 := fun e => by
            have h1 := (HO.out.lt b rfl).1
            have h2 := HHL.out
            omega
          refine wpAnyH_take (i := 1) (oi := ⟨some 39, .move (.tmp 12), _, _, _, none⟩) (v := ?_) rfl (by kernel_rfl) (by kernel_rfl) (by kernel_rfl) (fun _ _ _ h => h) (Or.inl ⟨by rfl, ?_⟩) (by assumption) ?_
          rotate_left
          · (intro w hSw; (try dsimp only at hSw); go_split_ands; go_simp; (try with_reducible rfl))
          (try simp only [Act.put]); (try simp only [List.setIfInBounds_toArray]); (try simp only [List.set_cons_succ]); (try simp only [List.set_cons_zero])
          refine wpAnyH_take (i := 2) (oi := ⟨some 40, .move (.tmp 13), _, _, _, none⟩) (v := ?_) rfl (by kernel_rfl) (by kernel_rfl) (by kernel_rfl) (fun _ _ _ h => h) (Or.inl ⟨by rfl, ?_⟩) (by assumption) ?_
          rotate_left
          · (intro w hSw; (try dsimp only at hSw); go_split_ands; go_simp; (try with_reducible rfl))
          (try simp only [Act.put]); (try simp only [List.setIfInBounds_toArray]); (try simp only [List.set_cons_succ]); (try simp only [List.set_cons_zero])
          refine wpAnyH_take (i := 3) (oi := ⟨some 41, .indexAddr 22 (.tmp 39) (.tmp 40), _, _, _, none⟩) (v := ?_) rfl (by kernel_rfl) (by kernel_rfl) (by kernel_rfl) (fun _ _ _ h => h) (Or.inl ⟨by rfl, ?_⟩) (by assumption) ?_
          rotate_left
          · (intro w hSw; (try dsimp only at hSw); go_split_ands; go_simp; (try with_reducible rfl))
          (try simp only [Act.put]); (try simp only [List.setIfInBounds_toArray]); (try simp only [List.set_cons_succ]); (try simp only [List.set_cons_zero])
          refine wpAnyH_take (i := 4) (oi := ⟨some 42, .fieldAddr 41 (.tmp 41) 0, _, _, _, none⟩) (v := ?_) rfl (by kernel_rfl) (by kernel_rfl) (by kernel_rfl) (fun _ _ _ h => h) (Or.inl ⟨by rfl, ?_⟩) (by assumption) ?_
          rotate_left
          · (intro w hSw; (try dsimp only at hSw); go_split_ands; go_simp; (try with_reducible rfl))
          (try simp only [Act.put]); (try simp only [List.setIfInBounds_toArray]); (try simp only [List.set_cons_succ]); (try simp only [List.set_cons_zero])
          refine wpAnyH_take (i := 5) (oi := ⟨some 43, .load 32 (.tmp 42), _, _, _, none⟩) (v := .agg ([.int .i64 r.ir, .int .i64 r.is] : List Value).toArray) rfl (by kernel_rfl) (by kernel_rfl) (by kernel_rfl) (fun _ _ _ h => h) (yieldsIf_load_mid (by rfl) 32 _ rfl b (o + k * 25) rfl [.int .i64 r.ir, .int .i64 r.is] _ (fun w hSw => hSw) Tryz.underlying32 rfl hi24) (by assumption) ?_
          (try simp only [Act.put]); (try simp only [List.setIfInBounds_toArray]); (try simp only [List.set_cons_succ]); (try simp only [List.set_cons_zero])
          refine wpAnyH_ready (rs := [0]) (by kernel_rfl) (by simp) ?_
          refine AllReadyH.cons (o := ⟨some 38, .load 39 (.tmp 9), 39, _, _, none⟩) rfl (fun K hK => step_load rfl 39 (.tmp 9) rfl (w.heap.size + 1 + 1) 0 rfl [.int .i64 (dk 0), .int .i64 (dk 1), .int .i64 (dk 2), .int .i64 (dk 3), .int .i64 (dk 4), .int .i64 (dk 5), .int .i64 (dk 6)] _ (hold_range (HD.out.on (Below.refl _ wr).drew) 0 _ (fun j v hj => by rw [Nat.zero_add]; exact hj)) Tryz.underlying39 rfl hi42 (hK.out _ _ hHeld (fun hHeld => ?_))) AllReadyH.nil
          (try simp only [Act.put]); (try simp only [List.setIfInBounds_toArray]); (try simp only [List.set_cons_succ]); (try simp only [List.set_cons_zero])
          refine wpAnyH_ready (rs := [6]) (by kernel_rfl) (by simp) ?_
          refine AllReadyH.cons (o := ⟨some 44, .call { callee := .value (.func 64), args := #[.tmp 38, .tmp 43], argTypes := #[39, 32] }, 39, _, _, none⟩) rfl (fun K hK => ?_) AllReadyH.nil
          go_simp
          refine (Dp.refWith_any dk r.ir r.is wr.drew).mono ?_
          rintro e w7 ⟨rfl, hb7⟩
          have hbw : Below wr.heap.size wr w7 := (Below.refl _ _).drew.trans hb7
          have HD7 := Lib.hid (HD.out.on hbw)
          have HZ7 := Lib.hid (HZ.out.on hbw)
          have HO7 := Lib.hid (ownsRow_on HO.out hbw)
          have HW7 := Lib.hid (below_on HW.out hbw)
          have HS7 := Lib.hid (Nat.le_trans hsz hbw.size)
          have r2 := range_on hbl HI.out hbw
          have H1C : ([.int .i64 (Dp.M.wit dk r.ir r.is 0), .int .i64 (Dp.M.wit dk r.ir r.is 1), .int .i64 (Dp.M.wit dk r.ir r.is 2), .int .i64 (Dp.M.wit dk r.ir r.is 3), .int .i64 (Dp.M.wit dk r.ir r.is 4), .int .i64 (Dp.M.wit dk r.ir r.is 5), .int .i64 (Dp.M.wit dk r.ir r.is 6)] : List Value).all (·.oneCell') = true := rfl
          have r3 := range_puts r2 hne [.int .i64 (Dp.M.wit dk r.ir r.is 0), .int .i64 (Dp.M.wit dk r.ir r.is 1), .int .i64 (Dp.M.wit dk r.ir r.is 2), .int .i64 (Dp.M.wit dk r.ir r.is 3), .int .i64 (Dp.M.wit dk r.ir r.is 4), .int .i64 (Dp.M.wit dk r.ir r.is 5), .int .i64 (Dp.M.wit dk r.ir r.is 6)] 0
          clear hb7 hbw
          try go_simp
          refine hK.out _ _ (by exact r2) (fun hHeld => ?_)
          clear hK K
          (try simp only [Act.put]); (try simp only [List.setIfInBounds_toArray]); (try simp only [List.set_cons_succ]); (try simp only [List.set_cons_zero])
          refine wpAnyH_store (i := 7) (o := ⟨none, .store 39 (.tmp 9) (.tmp 44), 0, _, _, none⟩) (by kernel_rfl) rfl rfl 39 (.tmp 9) (.tmp 44) rfl (w.heap.size + 1 + 1) 39 [.int .i64 (dk 0), .int .i64 (dk 1), .int .i64 (dk 2), .int .i64 (dk 3), .int .i64 (dk 4), .int .i64 (dk 5), .int .i64 (dk 6)] [.int .i64 (Dp.M.wit dk r.ir r.is 0), .int .i64 (Dp.M.wit dk r.ir r.is 1), .int .i64 (Dp.M.wit dk r.ir r.is 2), .int .i64 (Dp.M.wit dk r.ir r.is 3), .int .i64 (Dp.M.wit dk r.ir r.is 4), .int .i64 (Dp.M.wit dk r.ir r.is 5), .int .i64 (Dp.M.wit dk r.ir r.is 6)] rfl rfl HD7.out rfl hi42' H1C (by exact r3) ?_
          (try simp only [Act.put]); (try simp only [List.setIfInBounds_toArray]); (try simp only [List.set_cons_succ]); (try simp only [List.set_cons_zero])
          refine wpAnyH_done (by kernel_rfl) ?_ _
          have HD8 := Lib.hid (Hold.set [.int .i64 (Dp.M.wit dk r.ir r.is 0), .int .i64 (Dp.M.wit dk r.ir r.is 1), .int .i64 (Dp.M.wit dk r.ir r.is 2), .int .i64 (Dp.M.wit dk r.ir r.is 3), .int .i64 (Dp.M.wit dk r.ir r.is 4), .int .i64 (Dp.M.wit dk r.ir r.is 5), .int .i64 (Dp.M.wit dk r.ir r.is 6)] [] [.int .i64 (dk 0), .int .i64 (dk 1), .int .i64 (dk 2), .int .i64 (dk 3), .int .i64 (dk 4), .int .i64 (dk 5), .int .i64 (dk 6)] [] rfl w7 HD7.out)
          have HZ8 := Lib.hid (hold_puts (b' := w.heap.size + 1 + 1) (o := 0) (S := [.int .i64 (Dp.M.wit dk r.ir r.is 0), .int .i64 (Dp.M.wit dk r.ir r.is 1), .int .i64 (Dp.M.wit dk r.ir r.is 2), .int .i64 (Dp.M.wit dk r.ir r.is 3), .int .i64 (Dp.M.wit dk r.ir r.is 4), .int .i64 (Dp.M.wit dk r.ir r.is 5), .int .i64 (Dp.M.wit dk r.ir r.is 6)]) HZ7.out (by omega))
          have HO8 := Lib.hid (ownsRow_setCells HO7.out (show w.heap.size + 1 + 1 < w0.heap.size by have := HHL.out; omega) [.int .i64 (Dp.M.wit dk r.ir r.is 0), .int .i64 (Dp.M.wit dk r.ir r.is 1), .int .i64 (Dp.M.wit dk r.ir r.is 2), .int .i64 (Dp.M.wit dk r.ir r.is 3), .int .i64 (Dp.M.wit dk r.ir r.is 4), .int .i64 (Dp.M.wit dk r.ir r.is 5), .int .i64 (Dp.M.wit dk r.ir r.is 6)] 0)
          have HW8 := Lib.hid (below_setCells (B := w.heap.size) (b := w.heap.size + 1 + 1) (by omega) [.int .i64 (Dp.M.wit dk r.ir r.is 0), .int .i64 (Dp.M.wit dk r.ir r.is 1), .int .i64 (Dp.M.wit dk r.ir r.is 2), .int .i64 (Dp.M.wit dk r.ir r.is 3), .int .i64 (Dp.M.wit dk r.ir r.is 4), .int .i64 (Dp.M.wit dk r.ir r.is 5), .int .i64 (Dp.M.wit dk r.ir r.is 6)] 0 _ _ HW7.out)
          have HS8 := Lib.hid (show w0.heap.size ≤ (w7.setCells (w.heap.size + 1 + 1) 0 [.int .i64 (Dp.M.wit dk r.ir r.is 0), .int .i64 (Dp.M.wit dk r.ir r.is 1), .int .i64 (Dp.M.wit dk r.ir r.is 2), .int .i64 (Dp.M.wit dk r.ir r.is 3), .int .i64 (Dp.M.wit dk r.ir r.is 4), .int .i64 (Dp.M.wit dk r.ir r.is 5), .int .i64 (Dp.M.wit dk r.ir r.is 6)]).heap.size by rw [size_puts]; exact HS7.out)
          clear r2 r3 hHeld hHeld0 hne HD7 HZ7 HO7 HW7 HS7
          go_wp2
          go_roundw
          case rel => exact ⟨k + 1, by go_num, hlt, by rw [HSQ.out]; exact congrArg (Value.int IntKind.i64) HM.out, HW8, HO8, Lib.hid (by rw [HDP.out]; exact HD8.out), HZ8, HS8.out⟩
          case measure => simp [intOf]; omega
        · have HM := Lib.hid (show sk = seq1 sk r by unfold seq1; rw [← HF.out]; unfold Dp.M.mx; rw [if_neg hg])
          have hg' : decide (sk < 1099511627776) = false := decide_eq_false hg
          clear hq hg
          go_wp2
          have hHeld0 := range_on hbl HI.out (Below.refl _ wr).drew
          refine wp_region_held_drew (S := fun w' => w'.rangeAt b (o + k * 25) [.int .i64 r.ir, .int .i64 r.is]) (by kernel_rfl) (by exact hHeld0) (fun hHeld => ?_)
          have hi42 : (Tryz.prog.info? 39).map (·.size) = some ([.int .i64 (dk 0), .int .i64 (dk 1), .int .i64 (dk 2), .int .i64 (dk 3), .int .i64 (dk 4), .int .i64 (dk 5), .int .i64 (dk 6)] : List Value).length := by kernel_rfl
          have hi24 : (Tryz.prog.info? 32).map (·.size) = some ([.int .i64 r.ir, .int .i64 r.is] : List Value).length := by kernel_rfl
          have hi42' : (Tryz.prog.info? 39).map (·.size) = some ([.int .i64 (Dp.M.wit dk r.ir r.is 0), .int .i64 (Dp.M.wit dk r.ir r.is 1), .int .i64 (Dp.M.wit dk r.ir r.is 2), .int .i64 (Dp.M.wit dk r.ir r.is 3), .int .i64 (Dp.M.wit dk r.ir r.is 4), .int .i64 (Dp.M.wit dk r.ir r.is 5), .int .i64 (Dp.M.wit dk r.ir r.is 6)] : List Value).length := by kernel_rfl
          have hne : b ≠ w.heap.size + 1 + 1 := fun e => by
            have h1 := (HO.out.lt b rfl).1
            have h2 := HHL.out
            omega
          refine wpAnyH_take (i := 1) (oi := ⟨some 39, .move (.tmp 12), _, _, _, none⟩) (v := ?_) rfl (by kernel_rfl) (by kernel_rfl) (by kernel_rfl) (fun _ _ _ h => h) (Or.inl ⟨by rfl, ?_⟩) (by assumption) ?_
          rotate_left
          · (intro w hSw; (try dsimp only at hSw); go_split_ands; go_simp; (try with_reducible rfl))
          (try simp only [Act.put]); (try simp only [List.setIfInBounds_toArray]); (try simp only [List.set_cons_succ]); (try simp only [List.set_cons_zero])
          refine wpAnyH_take (i := 2) (oi := ⟨some 40, .move (.tmp 13), _, _, _, none⟩) (v := ?_) rfl (by kernel_rfl) (by kernel_rfl) (by kernel_rfl) (fun _ _ _ h => h) (Or.inl ⟨by rfl, ?_⟩) (by assumption) ?_
          rotate_left
          · (intro w hSw; (try dsimp only at hSw); go_split_ands; go_simp; (try with_reducible rfl))
          (try simp only [Act.put]); (try simp only [List.setIfInBounds_toArray]); (try simp only [List.set_cons_succ]); (try simp only [List.set_cons_zero])
          refine wpAnyH_take (i := 3) (oi := ⟨some 41, .indexAddr 22 (.tmp 39) (.tmp 40), _, _, _, none⟩) (v := ?_) rfl (by kernel_rfl) (by kernel_rfl) (by kernel_rfl) (fun _ _ _ h => h) (Or.inl ⟨by rfl, ?_⟩) (by assumption) ?_
          rotate_left
          · (intro w hSw; (try dsimp only at hSw); go_split_ands; go_simp; (try with_reducible rfl))
          (try simp only [Act.put]); (try simp only [List.setIfInBounds_toArray]); (try simp only [List.set_cons_succ]); (try simp only [List.set_cons_zero])
          refine wpAnyH_take (i := 4) (oi := ⟨some 42, .fieldAddr 41 (.tmp 41) 0, _, _, _, none⟩) (v := ?_) rfl (by kernel_rfl) (by kernel_rfl) (by kernel_rfl) (fun _ _ _ h => h) (Or.inl ⟨by rfl, ?_⟩) (by assumption) ?_
          rotate_left
          · (intro w hSw; (try dsimp only at hSw); go_split_ands; go_simp; (try with_reducible rfl))
          (try simp only [Act.put]); (try simp only [List.setIfInBounds_toArray]); (try simp only [List.set_cons_succ]); (try simp only [List.set_cons_zero])
          refine wpAnyH_take (i := 5) (oi := ⟨some 43, .load 32 (.tmp 42), _, _, _, none⟩) (v := .agg ([.int .i64 r.ir, .int .i64 r.is] : List Value).toArray) rfl (by kernel_rfl) (by kernel_rfl) (by kernel_rfl) (fun _ _ _ h => h) (yieldsIf_load_mid (by rfl) 32 _ rfl b (o + k * 25) rfl [.int .i64 r.ir, .int .i64 r.is] _ (fun w hSw => hSw) Tryz.underlying32 rfl hi24) (by assumption) ?_
          (try simp only [Act.put]); (try simp only [List.setIfInBounds_toArray]); (try simp only [List.set_cons_succ]); (try simp only [List.set_cons_zero])
          refine wpAnyH_ready (rs := [0]) (by kernel_rfl) (by simp) ?_
          refine AllReadyH.cons (o := ⟨some 38, .load 39 (.tmp 9), 39, _, _, none⟩) rfl (fun K hK => step_load rfl 39 (.tmp 9) rfl (w.heap.size + 1 + 1) 0 rfl [.int .i64 (dk 0), .int .i64 (dk 1), .int .i64 (dk 2), .int .i64 (dk 3), .int .i64 (dk 4), .int .i64 (dk 5), .int .i64 (dk 6)] _ (hold_range (HD.out.on (Below.refl _ wr).drew) 0 _ (fun j v hj => by rw [Nat.zero_add]; exact hj)) Tryz.underlying39 rfl hi42 (hK.out _ _ hHeld (fun hHeld => ?_))) AllReadyH.nil
          (try simp only [Act.put]); (try simp only [List.setIfInBounds_toArray]); (try simp only [List.set_cons_succ]); (try simp only [List.set_cons_zero])
          refine wpAnyH_ready (rs := [6]) (by kernel_rfl) (by simp) ?_
          refine AllReadyH.cons (o := ⟨some 44, .call { callee := .value (.func 64), args := #[.tmp 38, .tmp 43], argTypes := #[39, 32] }, 39, _, _, none⟩) rfl (fun K hK => ?_) AllReadyH.nil
          go_simp
          refine (Dp.refWith_any dk r.ir r.is wr.drew).mono ?_
          rintro e w7 ⟨rfl, hb7⟩
          have hbw : Below wr.heap.size wr w7 := (Below.refl _ _).drew.trans hb7
          have HD7 := Lib.hid (HD.out.on hbw)
          have HZ7 := Lib.hid (HZ.out.on hbw)
          have HO7 := Lib.hid (ownsRow_on HO.out hbw)
          have HW7 := Lib.hid (below_on HW.out hbw)
          have HS7 := Lib.hid (Nat.le_trans hsz hbw.size)
          have r2 := range_on hbl HI.out hbw
          have H1C : ([.int .i64 (Dp.M.wit dk r.ir r.is 0), .int .i64 (Dp.M.wit dk r.ir r.is 1), .int .i64 (Dp.M.wit dk r.ir r.is 2), .int .i64 (Dp.M.wit dk r.ir r.is 3), .int .i64 (Dp.M.wit dk r.ir r.is 4), .int .i64 (Dp.M.wit dk r.ir r.is 5), .int .i64 (Dp.M.wit dk r.ir r.is 6)] : List Value).all (·.oneCell') = true := rfl
          have r3 := range_puts r2 hne [.int .i64 (Dp.M.wit dk r.ir r.is 0), .int .i64 (Dp.M.wit dk r.ir r.is 1), .int .i64 (Dp.M.wit dk r.ir r.is 2), .int .i64 (Dp.M.wit dk r.ir r.is 3), .int .i64 (Dp.M.wit dk r.ir r.is 4), .int .i64 (Dp.M.wit dk r.ir r.is 5), .int .i64 (Dp.M.wit dk r.ir r.is 6)] 0
          clear hb7 hbw
          try go_simp
          refine hK.out _ _ (by exact r2) (fun hHeld => ?_)
          clear hK K
          (try simp only [Act.put]); (try simp only [List.setIfInBounds_toArray]); (try simp only [List.set_cons_succ]); (try simp only [List.set_cons_zero])
          refine wpAnyH_store (i := 7) (o := ⟨none, .store 39 (.tmp 9) (.tmp 44), 0, _, _, none⟩) (by kernel_rfl) rfl rfl 39 (.tmp 9) (.tmp 44) rfl (w.heap.size + 1 + 1) 39 [.int .i64 (dk 0), .int .i64 (dk 1), .int .i64 (dk 2), .int .i64 (dk 3), .int .i64 (dk 4), .int .i64 (dk 5), .int .i64 (dk 6)] [.int .i64 (Dp.M.wit dk r.ir r.is 0), .int .i64 (Dp.M.wit dk r.ir r.is 1), .int .i64 (Dp.M.wit dk r.ir r.is 2), .int .i64 (Dp.M.wit dk r.ir r.is 3), .int .i64 (Dp.M.wit dk r.ir r.is 4), .int .i64 (Dp.M.wit dk r.ir r.is 5), .int .i64 (Dp.M.wit dk r.ir r.is 6)] rfl rfl HD7.out rfl hi42' H1C (by exact r3) ?_
          (try simp only [Act.put]); (try simp only [List.setIfInBounds_toArray]); (try simp only [List.set_cons_succ]); (try simp only [List.set_cons_zero])
          refine wpAnyH_done (by kernel_rfl) ?_ _
          have HD8 := Lib.hid (Hold.set [.int .i64 (Dp.M.wit dk r.ir r.is 0), .int .i64 (Dp.M.wit dk r.ir r.is 1), .int .i64 (Dp.M.wit dk r.ir r.is 2), .int .i64 (Dp.M.wit dk r.ir r.is 3), .int .i64 (Dp.M.wit dk r.ir r.is 4), .int .i64 (Dp.M.wit dk r.ir r.is 5), .int .i64 (Dp.M.wit dk r.ir r.is 6)] [] [.int .i64 (dk 0), .int .i64 (dk 1), .int .i64 (dk 2), .int .i64 (dk 3), .int .i64 (dk 4), .int .i64 (dk 5), .int .i64 (dk 6)] [] rfl w7 HD7.out)
          have HZ8 := Lib.hid (hold_puts (b' := w.heap.size + 1 + 1) (o := 0) (S := [.int .i64 (Dp.M.wit dk r.ir r.is 0), .int .i64 (Dp.M.wit dk r.ir r.is 1), .int .i64 (Dp.M.wit dk r.ir r.is 2), .int .i64 (Dp.M.wit dk r.ir r.is 3), .int .i64 (Dp.M.wit dk r.ir r.is 4), .int .i64 (Dp.M.wit dk r.ir r.is 5), .int .i64 (Dp.M.wit dk r.ir r.is 6)]) HZ7.out (by omega))
          have HO8 := Lib.hid (ownsRow_setCells HO7.out (show w.heap.size + 1 + 1 < w0.heap.size by have := HHL.out; omega) [.int .i64 (Dp.M.wit dk r.ir r.is 0), .int .i64 (Dp.M.wit dk r.ir r.is 1), .int .i64 (Dp.M.wit dk r.ir r.is 2), .int .i64 (Dp.M.wit dk r.ir r.is 3), .int .i64 (Dp.M.wit dk r.ir r.is 4), .int .i64 (Dp.M.wit dk r.ir r.is 5), .int .i64 (Dp.M.wit dk r.ir r.is 6)] 0)
          have HW8 := Lib.hid (below_setCells (B := w.heap.size) (b := w.heap.size + 1 + 1) (by omega) [.int .i64 (Dp.M.wit dk r.ir r.is 0), .int .i64 (Dp.M.wit dk r.ir r.is 1), .int .i64 (Dp.M.wit dk r.ir r.is 2), .int .i64 (Dp.M.wit dk r.ir r.is 3), .int .i64 (Dp.M.wit dk r.ir r.is 4), .int .i64 (Dp.M.wit dk r.ir r.is 5), .int .i64 (Dp.M.wit dk r.ir r.is 6)] 0 _ _ HW7.out)
          have HS8 := Lib.hid (show w0.heap.size ≤ (w7.setCells (w.heap.size + 1 + 1) 0 [.int .i64 (Dp.M.wit dk r.ir r.is 0), .int .i64 (Dp.M.wit dk r.ir r.is 1), .int .i64 (Dp.M.wit dk r.ir r.is 2), .int .i64 (Dp.M.wit dk r.ir r.is 3), .int .i64 (Dp.M.wit dk r.ir r.is 4), .int .i64 (Dp.M.wit dk r.ir r.is 5), .int .i64 (Dp.M.wit dk r.ir r.is 6)]).heap.size by rw [size_puts]; exact HS7.out)
          clear r2 r3 hHeld hHeld0 hne HD7 HZ7 HO7 HW7 HS7
          go_wp2
          go_roundw
          case rel => exact ⟨k + 1, by go_num, hlt, by rw [HSQ.out]; exact congrArg (Value.int IntKind.i64) HM.out, HW8, HO8, Lib.hid (by rw [HDP.out]; exact HD8.out), HZ8, HS8.out⟩
          case measure => simp [intOf]; omega
    · obtain rfl : k = Y.length := by omega
      rw [List.take_length] at HD ⊢


      have HZD := Lib.hid (HZ.out.on (Below.refl _ wr).drew)
      have HDD := Lib.hid (HD.out.on (Below.refl _ wr).drew)
      have HWD := Lib.hid (HW.out.drew)
      generalize seqs s (rcs Y) = n at *
      generalize depsL d (rcs Y) = dd at *
      have HDR := hold_range HDD.out 0 [.int .i64 (dd 0), .int .i64 (dd 1), .int .i64 (dd 2), .int .i64 (dd 3), .int .i64 (dd 4), .int .i64 (dd 5), .int .i64 (dd 6)] (fun j v hj => by rw [Nat.zero_add]; exact hj)
      have hi42 : (Tryz.prog.info? 39).map (·.size) = some ([.int .i64 (dd 0), .int .i64 (dd 1), .int .i64 (dd 2), .int .i64 (dd 3), .int .i64 (dd 4), .int .i64 (dd 5), .int .i64 (dd 6)] : List Value).length := by kernel_rfl
      go_wp2
      refine wp_region_held_drew (S := fun w' => w'.rangeAt (w.heap.size + 1 + 1) 0 [.int .i64 (dd 0), .int .i64 (dd 1), .int .i64 (dd 2), .int .i64 (dd 3), .int .i64 (dd 4), .int .i64 (dd 5), .int .i64 (dd 6)]) (by kernel_rfl) (by exact HDR) (fun hHeld => ?_)
      refine wpAnyH_take (i := 0) (oi := ⟨some 45, .move (.tmp 3), 3, _, _, none⟩) (v := ?_) rfl (by kernel_rfl) (by kernel_rfl) (by kernel_rfl) (fun _ _ _ h => h) (Or.inl ⟨by rfl, ?_⟩) (by assumption) ?_
      rotate_left
      · (intro w hSw; (try dsimp only at hSw); go_split_ands; go_simp; (try with_reducible rfl))
      (try simp only [Act.put]); (try simp only [List.setIfInBounds_toArray]); (try simp only [List.set_cons_succ]); (try simp only [List.set_cons_zero])
      refine wpAnyH_take (i := 1) (oi := ⟨some 46, .load 39 (.tmp 9), 39, _, _, none⟩) (v := .agg ([.int .i64 (dd 0), .int .i64 (dd 1), .int .i64 (dd 2), .int .i64 (dd 3), .int .i64 (dd 4), .int .i64 (dd 5), .int .i64 (dd 6)] : List Value).toArray) rfl (by kernel_rfl) (by kernel_rfl) (by kernel_rfl) (fun _ _ _ h => h) (yieldsIf_load_mid (by rfl) 39 _ rfl (w.heap.size + 1 + 1) 0 rfl [.int .i64 (dd 0), .int .i64 (dd 1), .int .i64 (dd 2), .int .i64 (dd 3), .int .i64 (dd 4), .int .i64 (dd 5), .int .i64 (dd 6)] _ (fun w hSw => hSw) Tryz.underlying39 rfl hi42) (by assumption) ?_
      (try simp only [Act.put]); (try simp only [List.setIfInBounds_toArray]); (try simp only [List.set_cons_succ]); (try simp only [List.set_cons_zero])
      refine wpAnyH_take (i := 2) (oi := ⟨some 10, .assign (.tmp 45), 3, _, _, none⟩) (v := ?_) rfl (by kernel_rfl) (by kernel_rfl) (by kernel_rfl) (fun _ _ _ h => h) (Or.inl ⟨by rfl, ?_⟩) (by assumption) ?_
      rotate_left
      · (intro w hSw; (try dsimp only at hSw); go_split_ands; go_simp; (try with_reducible rfl))
      (try simp only [Act.put]); (try simp only [List.setIfInBounds_toArray]); (try simp only [List.set_cons_succ]); (try simp only [List.set_cons_zero])
      refine wpAnyH_store (i := 3) (o := ⟨none, .store 39 (.tmp 11) (.tmp 46), 0, _, _, none⟩) (by kernel_rfl) rfl rfl 39 (.tmp 11) (.tmp 46) rfl (w.heap.size + 1 + 1 + 1) 39 [.int .i64 0, .int .i64 0, .int .i64 0, .int .i64 0, .int .i64 0, .int .i64 0, .int .i64 0] [.int .i64 (dd 0), .int .i64 (dd 1), .int .i64 (dd 2), .int .i64 (dd 3), .int .i64 (dd 4), .int .i64 (dd 5), .int .i64 (dd 6)] rfl rfl HZD.out rfl hi42 rfl (by exact hold_range (hold_puts HDD.out (by omega) 0) 0 [.int .i64 (dd 0), .int .i64 (dd 1), .int .i64 (dd 2), .int .i64 (dd 3), .int .i64 (dd 4), .int .i64 (dd 5), .int .i64 (dd 6)] (fun j v hj => by rw [Nat.zero_add]; exact hj)) ?_
      (try simp only [Act.put]); (try simp only [List.setIfInBounds_toArray]); (try simp only [List.set_cons_succ]); (try simp only [List.set_cons_zero])
      refine wpAnyH_done (by kernel_rfl) ?_ _
      have RH := Lib.hid (Hold.set [.int .i64 (dd 0), .int .i64 (dd 1), .int .i64 (dd 2), .int .i64 (dd 3), .int .i64 (dd 4), .int .i64 (dd 5), .int .i64 (dd 6)] [] [.int .i64 0, .int .i64 0, .int .i64 0, .int .i64 0, .int .i64 0, .int .i64 0, .int .i64 0] [] rfl _ HZD.out)
      have BF := Lib.hid (below_setCells (B := w.heap.size) (b := w.heap.size + 1 + 1 + 1) (by omega) [.int .i64 (dd 0), .int .i64 (dd 1), .int .i64 (dd 2), .int .i64 (dd 3), .int .i64 (dd 4), .int .i64 (dd 5), .int .i64 (dd 6)] 0 _ _ HWD.out)
      clear HDR hHeld HZD HDD HWD
      go_wp2
      refine bodyPost_ret (results_vc rfl rfl rfl RH.out.cel.whole _ Tryz.underlying39 rfl (by kernel_rfl)) rfl ?_
      exact ⟨by rw [HAS.out, HAD.out]; rfl, BF.out⟩
end Go.Proofs.YtpknkhgkejkpkaaGreat
