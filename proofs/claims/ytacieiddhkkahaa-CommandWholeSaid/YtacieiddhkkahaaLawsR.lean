/- The walk of CommandWhole; no conditions. -/
import Derived.Test.YtacieiddhkkahaaMathW
import Derived.Test.YtacieiddhkkahaaCmdsU
import Derived.Test.YtacieiddhkkahaaCmdsY
import Derived.IntWalk
namespace Go.Proofs.Ytacieiddhkkahaa
open Go.ChangeShapes Go.WideShapes Go.ChangeAt Go.RowKit
attribute [local go_sem ↓] run_same_rd run_same_wr run_same_txn run_same_stamp

theorem Words.push {w : World} {v : Value} {ss : List (List UInt8)} (h : Words w v ss) (o : Obj) : Words (w.alloc o) v ss := h.below (below_new (Below.refl _ _))
set_option maxHeartbeats 8000000 in
set_option maxRecDepth 100000 in
theorem whole_law (c : M.Cmd) (n : Int) {va vb : Value} (w : World) (h : Rds w va c.rs) (h' : Wrs w vb c.ws) : Calls Try.prog 5 #[.agg #[.int .i64 c.k, .int .i64 c.tc, .int .i64 c.tn, .int .i64 c.tt, .int .i64 c.tk, .int .i64 c.sh, va, vb, .bool c.cm], .int .i64 n] w (Yes w) := by
  have X0 := Lib.hid ((Box.new w c va vb).push (.cells #[.int .i64 c.k, .int .i64 c.tc, .int .i64 c.tn, .int .i64 c.tt, .int .i64 c.tk, .int .i64 c.sh, va, vb, .bool c.cm] 29))
  have R0 := Lib.hid (h.push (.cells #[.int .i64 c.k, .int .i64 c.tc, .int .i64 c.tn, .int .i64 c.tt, .int .i64 c.tk, .int .i64 c.sh, va, vb, .bool c.cm] 29))
  have W0 := Lib.hid (h'.push (.cells #[.int .i64 c.k, .int .i64 c.tc, .int .i64 c.tn, .int .i64 c.tt, .int .i64 c.tk, .int .i64 c.sh, va, vb, .bool c.cm] 29))
  have B0 := Lib.hid (below_new (o := .cells #[.int .i64 c.k, .int .i64 c.tc, .int .i64 c.tn, .int .i64 c.tt, .int .i64 c.tk, .int .i64 c.sh, va, vb, .bool c.cm] 29) (below_new (o := .cells #[.int .i64 c.k, .int .i64 c.tc, .int .i64 c.tn, .int .i64 c.tt, .int .i64 c.tk, .int .i64 c.sh, va, vb, .bool c.cm] 29) (Below.refl w.heap.size w)))
  obtain ⟨A8, j8, rfl, -, -⟩ := h.opened
  obtain ⟨A9, j9, rfl, -, -⟩ := h'.opened
  clear h h'
  rcases two (M.modB c) with f | f
  · have F := M.modB_iff.1 f
    rcases two (M.rightC c) with r | r
    · by_cases e0 : c.k = 0
      · obtain ⟨q0, q0'⟩ := eqI e0
        clear e0
        go_enter Try.func5, Try.ntmps5
        go_wp2_with (fail)
        refine (few_one (by simp) c R0.out W0.out).mono ?_
        rintro e w1 ⟨rfl, hb⟩
        have X1 := Lib.hid (X0.out.on hb)
        have R1 := Lib.hid ((R0.out.push _).below hb)
        have W1 := Lib.hid ((W0.out.push _).below hb)
        have B1 := Lib.hid (below_on B0.out hb)
        clear hb X0 R0 W0 B0
        obtain ⟨l0, p0, p1, p2, p3, p4, p5, p6, p7, p8⟩ := X1.out
        go_wp2_with (fail)
        refine (drightC c R1.out W1.out F).mono ?_
        rintro e w2 ⟨rfl, hb⟩
        have X2 := Lib.hid (X1.out.on hb)
        have R2 := Lib.hid (R1.out.below hb)
        have W2 := Lib.hid (W1.out.below hb)
        have B2 := Lib.hid (below_on B1.out hb)
        clear hb X1 R1 W1 B1
        clear l0 p0 p1 p2 p3 p4 p5 p6 p7 p8
        obtain ⟨l0, p0, p1, p2, p3, p4, p5, p6, p7, p8⟩ := X2.out
        go_wp2_with (fail)
        refine (awake_any _).mono ?_
        rintro e w3 ⟨rfl, hb⟩
        have BZ := Lib.hid (below_on B2.out hb)
        clear hb
        go_wp2
        go_ret
        exact ⟨rfl, BZ.out⟩
      · obtain ⟨q0, q0'⟩ := neI e0
        by_cases h1 : 1 ≤ n
        · by_cases h2 : n ≤ 4
          · have d : M.pokB c n = true := by unfold M.pokB; rw [r, decide_eq_false e0, decide_eq_true h1, decide_eq_true h2]; rfl
            obtain ⟨K1, K2⟩ := M.rights_of r e0
            have KR := Lib.hid (M.keys_right r e0)
            have KS := Lib.hid (M.keysL_short F)
            have KA := Lib.hid (show M.Asc (M.keysL c) from M.join_asc _ _)
            have hkl := M.keysL_len F
            have Z1 := Lib.hid (M.cntR_zero K1 h1 h2)
            have Z2 := Lib.hid (M.cntW_zero K2 h1 h2)
            have Z3 := Lib.hid (M.par_zero' KR.out h1 h2)
            have E1 := Lib.hid (fun (k : Nat) (hk : (k : Int) = n) => M.cntR_all K1 h1 h2 hk)
            have E2 := Lib.hid (fun (k : Nat) (hk : (k : Int) = n) => M.cntW_all K2 h1 h2 hk)
            have E3 := Lib.hid (fun (k : Nat) (hk : (k : Int) = n) => M.par_all' KR.out h1 h2 hk)
            have hr20 := F.r
            have hw20 := F.w
            clear e0 K1 K2
            go_enter Try.func5, Try.ntmps5
            go_wp2_with (fail)
            refine (few_one (by simp) c R0.out W0.out).mono ?_
            rintro e w1 ⟨rfl, hb⟩
            have X1 := Lib.hid (X0.out.on hb)
            have R1 := Lib.hid ((R0.out.push _).below hb)
            have W1 := Lib.hid ((W0.out.push _).below hb)
            have B1 := Lib.hid (below_on B0.out hb)
            clear hb X0 R0 W0 B0
            obtain ⟨l0, p0, p1, p2, p3, p4, p5, p6, p7, p8⟩ := X1.out
            go_wp2_with (fail)
            refine (drightC c R1.out W1.out F).mono ?_
            rintro e w2 ⟨rfl, hb⟩
            have X2 := Lib.hid (X1.out.on hb)
            have R2 := Lib.hid (R1.out.below hb)
            have W2 := Lib.hid (W1.out.below hb)
            have B2 := Lib.hid (below_on B1.out hb)
            clear hb X1 R1 W1 B1
            clear l0 p0 p1 p2 p3 p4 p5 p6 p7 p8
            obtain ⟨l0, p0, p1, p2, p3, p4, p5, p6, p7, p8⟩ := X2.out
            go_wp2
            clear l0 p0 p1 p2 p3 p4 p5 p6 p7 p8
            go_loopw [5, 6, 7, 36] (fun x5 x6 x7 i wr => ∃ k : Nat, (k : Int) ≤ n ∧ i = .int .i64 k ∧ x5 = .int .i64 (M.cntR c.rs n k) ∧ x6 = .int .i64 (M.cntW c.ws n k) ∧ Words wr x7 (M.parL (M.keysL c) n k) ∧ Below w2.heap.size w2 wr) (fun _ _ _ i _ => n.toNat - (intOf i).toNat)
            case atStart => exact ⟨0, by omega, rfl, by rw [Z1.out]; rfl, by rw [Z2.out]; rfl, by rw [Z3.out]; exact ⟨none, 0, rfl, Nat.le_refl _, fun h => absurd h (by simp)⟩, Below.refl _ _⟩
            case round =>
              obtain ⟨k, hk, rfl, rfl, rfl, haw, hbw⟩ := hrel
              have hbz := hbw.size
              have XK := Lib.hid (X2.out.on hbw)
              have RK := Lib.hid (R2.out.below hbw)
              have WK := Lib.hid (W2.out.below hbw)
              have BK := Lib.hid hbw
              have AK := Lib.hid haw
              have BW := Lib.hid (below_on B2.out hbw)
              clear haw hbw
              obtain ⟨l0, p0, p1, p2, p3, p4, p5, p6, p7, p8⟩ := XK.out
              by_cases hlt : (k : Int) < n
              · have S1 := Lib.hid (M.cntR_step c.rs n k)
                have S2 := Lib.hid (M.cntW_step c.ws n k)
                have S3 := Lib.hid (M.par_step' KA.out n k)
                have al := M.cntR_le c.rs n k
                have bl := M.cntW_le c.ws n k
                have pl := M.par_len (M.keysL c) n k
                have ol := M.of_len (M.keysL c) k n
                have ql : (M.partR k n c.rs).length ≤ c.rs.length := List.length_filter_le _ _
                have qm : (M.partW k n c.ws).length ≤ c.ws.length := List.length_filter_le _ _
                clear Z1 Z2 Z3 BW
                generalize M.cntR c.rs n k = a at *
                generalize M.cntW c.ws n k = b at *
                rcases two (M.voidB c k n) with v | v
                · obtain ⟨z1, z2⟩ := zz (M.void_yes v)
                  obtain ⟨V1, V2⟩ : (M.partR k n c.rs).length = 0 ∧ (M.partW k n c.ws).length = 0 := by unfold M.voidB M.emptyB at v; simpa only [Bool.and_eq_true, decide_eq_true_eq] using v
                  go_wp2_with (fail)
                  refine (part_none c k n RK.out WK.out F.l F.l' d v).mono ?_
                  rintro e v1 ⟨rfl, hb⟩
                  have X1 := Lib.hid ((XK.out.on hb).push (.cells #[.int .i64 0, .int .i64 0, .int .i64 0, .int .i64 0, .int .i64 0, .int .i64 0, .slice none 0 0, .slice none 0 0, .bool false] 29))
                  have R1 := Lib.hid ((RK.out.below hb).push (.cells #[.int .i64 0, .int .i64 0, .int .i64 0, .int .i64 0, .int .i64 0, .int .i64 0, .slice none 0 0, .slice none 0 0, .bool false] 29))
                  have W1 := Lib.hid ((WK.out.below hb).push (.cells #[.int .i64 0, .int .i64 0, .int .i64 0, .int .i64 0, .int .i64 0, .int .i64 0, .slice none 0 0, .slice none 0 0, .bool false] 29))
                  have B1 := Lib.hid (below_new (o := .cells #[.int .i64 0, .int .i64 0, .int .i64 0, .int .i64 0, .int .i64 0, .int .i64 0, .slice none 0 0, .slice none 0 0, .bool false] 29) (below_on BK.out hb))
                  have A1w := Lib.hid ((AK.out.below hb).push (.cells #[.int .i64 0, .int .i64 0, .int .i64 0, .int .i64 0, .int .i64 0, .int .i64 0, .slice none 0 0, .slice none 0 0, .bool false] 29))
                  have PX1 := Lib.hid (show Box (v1.alloc (.cells #[.int .i64 0, .int .i64 0, .int .i64 0, .int .i64 0, .int .i64 0, .int .i64 0, .slice none 0 0, .slice none 0 0, .bool false] 29)) v1.heap.size M.zero (.slice none 0 0) (.slice none 0 0) from Box.new v1 M.zero (.slice none 0 0) (.slice none 0 0))
                  clear hb XK RK WK BK AK
                  clear l0 p0 p1 p2 p3 p4 p5 p6 p7 p8
                  obtain ⟨l0, p0, p1, p2, p3, p4, p5, p6, p7, p8⟩ := X1.out
                  go_wp2_with (fail)
                  generalize (v1.alloc (.cells #[.int .i64 0, .int .i64 0, .int .i64 0, .int .i64 0, .int .i64 0, .int .i64 0, .slice none 0 0, .slice none 0 0, .bool false] 29)) = w1 at *
                  refine (dkeys_cmd c R1.out W1.out F).mono ?_
                  rintro e w2 ⟨vk, rfl, ok, hb⟩
                  have K2 := Lib.hid (Made.words ok)
                  have X2 := Lib.hid (X1.out.on hb)
                  have R2 := Lib.hid (R1.out.below hb)
                  have W2 := Lib.hid (W1.out.below hb)
                  have B2 := Lib.hid (below_on B1.out hb)
                  have A2w := Lib.hid (A1w.out.below hb)
                  have PX2 := Lib.hid (PX1.out.on hb)
                  clear hb X1 R1 W1 B1 A1w PX1
                  clear ok
                  clear l0 p0 p1 p2 p3 p4 p5 p6 p7 p8
                  go_wp2_with (fail)
                  refine (of_any k n K2.out (by omega) KR.out h1 h2).mono ?_
                  rintro e w3 ⟨vo, rfl, oo, hb⟩
                  obtain ⟨Ao, co, rfl, -⟩ := own_opened oo
                  have K3 := Lib.hid (Made.words oo)
                  clear oo
                  have X3 := Lib.hid (X2.out.on hb)
                  have R3 := Lib.hid (R2.out.below hb)
                  have W3 := Lib.hid (W2.out.below hb)
                  have B3 := Lib.hid (below_on B2.out hb)
                  have A3w := Lib.hid (A2w.out.below hb)
                  have PX3 := Lib.hid (PX2.out.on hb)
                  clear hb X2 R2 W2 B2 A2w PX2
                  obtain ⟨xl, x0, x1, x2, x3, x4, x5, x6, x7, x8⟩ := PX3.out
                  go_wp2
                  have hs1 : IntKind.i64.wrap ((a : Int) + 0) = (a : Int) + 0 := IntWalk.i64_in _ (by omega)
                  have hs2 : IntKind.i64.wrap ((b : Int) + 0) = (b : Int) + 0 := IntWalk.i64_in _ (by omega)
                  go_quiet (fail)
                  clear hs1 hs2
                  go_wp2_with (fail)
                  have DQ := Lib.hid (below_drewN (Below.refl w3.heap.size w3) nq)
                  refine (djoin_any (A3w.out.below DQ.out) (K3.out.below DQ.out) (by omega) (by omega) (M.par_sub KS.out) (M.of_sub KS.out)).mono ?_
                  rintro e w9 ⟨vj, rfl, oj, hb⟩
                  rw [S3.out] at oj
                  have A9w := Lib.hid (Made.words oj)
                  have B9 := Lib.hid (below_on (below_drewN B3.out nq) hb)
                  clear oj hb
                  go_wp2
                  go_roundw
                  case rel => exact ⟨k + 1, by omega, by go_num, by rw [← S1.out, V1, Nat.add_zero], by rw [← S2.out, V2, Nat.add_zero], A9w.out, B9.out⟩
                  case measure => simp [intOf]; omega
                · obtain ⟨z1, z2⟩ := nz (M.void_no v)
                  have r1 := M.right_cut k n (M.pok_parts d).1 (M.pok_parts d).2.1 v
                  have FC := M.mod_cut k n F
                  have KC := Lib.hid (M.keys_cut c k n)
                  go_wp2_with (fail)
                  refine (part_some c k n RK.out WK.out F.l F.l' d v).mono ?_
                  rintro e v1 ⟨vx, vy, rfl, rx, sx, hb⟩
                  obtain ⟨A1, j1, rfl, -, -⟩ := rx.opened
                  obtain ⟨D1, g1, rfl, -, -⟩ := sx.opened
                  have X1 := Lib.hid ((XK.out.on hb).push (.cells #[.int .i64 c.k, .int .i64 c.tc, .int .i64 c.tn, .int .i64 c.tt, .int .i64 c.tk, .int .i64 c.sh, .slice A1 (M.partR k n c.rs).length j1, .slice D1 (M.partW k n c.ws).length g1, .bool c.cm] 29))
                  have R1 := Lib.hid ((RK.out.below hb).push (.cells #[.int .i64 c.k, .int .i64 c.tc, .int .i64 c.tn, .int .i64 c.tt, .int .i64 c.tk, .int .i64 c.sh, .slice A1 (M.partR k n c.rs).length j1, .slice D1 (M.partW k n c.ws).length g1, .bool c.cm] 29))
                  have W1 := Lib.hid ((WK.out.below hb).push (.cells #[.int .i64 c.k, .int .i64 c.tc, .int .i64 c.tn, .int .i64 c.tt, .int .i64 c.tk, .int .i64 c.sh, .slice A1 (M.partR k n c.rs).length j1, .slice D1 (M.partW k n c.ws).length g1, .bool c.cm] 29))
                  have B1 := Lib.hid (below_new (o := .cells #[.int .i64 c.k, .int .i64 c.tc, .int .i64 c.tn, .int .i64 c.tt, .int .i64 c.tk, .int .i64 c.sh, .slice A1 (M.partR k n c.rs).length j1, .slice D1 (M.partW k n c.ws).length g1, .bool c.cm] 29) (below_on BK.out hb))
                  have A1w := Lib.hid ((AK.out.below hb).push (.cells #[.int .i64 c.k, .int .i64 c.tc, .int .i64 c.tn, .int .i64 c.tt, .int .i64 c.tk, .int .i64 c.sh, .slice A1 (M.partR k n c.rs).length j1, .slice D1 (M.partW k n c.ws).length g1, .bool c.cm] 29))
                  have PX1 := Lib.hid (show Box (v1.alloc (.cells #[.int .i64 c.k, .int .i64 c.tc, .int .i64 c.tn, .int .i64 c.tt, .int .i64 c.tk, .int .i64 c.sh, .slice A1 (M.partR k n c.rs).length j1, .slice D1 (M.partW k n c.ws).length g1, .bool c.cm] 29)) v1.heap.size (M.cut c k n) (.slice A1 (M.partR k n c.rs).length j1) (.slice D1 (M.partW k n c.ws).length g1) from Box.new v1 (M.cut c k n) (.slice A1 (M.partR k n c.rs).length j1) (.slice D1 (M.partW k n c.ws).length g1))
                  have PR1 := Lib.hid (rx.push (.cells #[.int .i64 c.k, .int .i64 c.tc, .int .i64 c.tn, .int .i64 c.tt, .int .i64 c.tk, .int .i64 c.sh, .slice A1 (M.partR k n c.rs).length j1, .slice D1 (M.partW k n c.ws).length g1, .bool c.cm] 29))
                  have PW1 := Lib.hid (sx.push (.cells #[.int .i64 c.k, .int .i64 c.tc, .int .i64 c.tn, .int .i64 c.tt, .int .i64 c.tk, .int .i64 c.sh, .slice A1 (M.partR k n c.rs).length j1, .slice D1 (M.partW k n c.ws).length g1, .bool c.cm] 29))
                  clear rx sx
                  clear hb XK RK WK BK AK
                  clear l0 p0 p1 p2 p3 p4 p5 p6 p7 p8
                  obtain ⟨l0, p0, p1, p2, p3, p4, p5, p6, p7, p8⟩ := X1.out
                  go_wp2_with (fail)
                  generalize (v1.alloc (.cells #[.int .i64 c.k, .int .i64 c.tc, .int .i64 c.tn, .int .i64 c.tt, .int .i64 c.tk, .int .i64 c.sh, .slice A1 (M.partR k n c.rs).length j1, .slice D1 (M.partW k n c.ws).length g1, .bool c.cm] 29)) = w1 at *
                  refine (dkeys_cmd c R1.out W1.out F).mono ?_
                  rintro e w2 ⟨vk, rfl, ok, hb⟩
                  have K2 := Lib.hid (Made.words ok)
                  have X2 := Lib.hid (X1.out.on hb)
                  have R2 := Lib.hid (R1.out.below hb)
                  have W2 := Lib.hid (W1.out.below hb)
                  have B2 := Lib.hid (below_on B1.out hb)
                  have A2w := Lib.hid (A1w.out.below hb)
                  have PX2 := Lib.hid (PX1.out.on hb)
                  have PR2 := Lib.hid (PR1.out.below hb)
                  have PW2 := Lib.hid (PW1.out.below hb)
                  clear hb X1 R1 W1 B1 A1w PX1 PR1 PW1
                  clear ok
                  clear l0 p0 p1 p2 p3 p4 p5 p6 p7 p8
                  go_wp2_with (fail)
                  refine (of_any k n K2.out (by omega) KR.out h1 h2).mono ?_
                  rintro e w3 ⟨vo, rfl, oo, hb⟩
                  obtain ⟨Ao, co, rfl, -⟩ := own_opened oo
                  have K3 := Lib.hid (Made.words oo)
                  clear oo
                  have X3 := Lib.hid (X2.out.on hb)
                  have R3 := Lib.hid (R2.out.below hb)
                  have W3 := Lib.hid (W2.out.below hb)
                  have B3 := Lib.hid (below_on B2.out hb)
                  have A3w := Lib.hid (A2w.out.below hb)
                  have PX3 := Lib.hid (PX2.out.on hb)
                  have PR3 := Lib.hid (PR2.out.below hb)
                  have PW3 := Lib.hid (PW2.out.below hb)
                  clear hb X2 R2 W2 B2 A2w PX2 PR2 PW2
                  obtain ⟨xl, x0, x1, x2, x3, x4, x5, x6, x7, x8⟩ := PX3.out
                  go_wp2_with (fail)
                  refine (drightC (M.cut c k n) PR3.out PW3.out FC).mono ?_
                  rintro e w4 ⟨rfl, hb⟩
                  have X4 := Lib.hid (X3.out.on hb)
                  have R4 := Lib.hid (R3.out.below hb)
                  have W4 := Lib.hid (W3.out.below hb)
                  have B4 := Lib.hid (below_on B3.out hb)
                  have A4w := Lib.hid (A3w.out.below hb)
                  have PX4 := Lib.hid (PX3.out.on hb)
                  have PR4 := Lib.hid (PR3.out.below hb)
                  have PW4 := Lib.hid (PW3.out.below hb)
                  have K4 := Lib.hid (K3.out.below hb)
                  clear hb X3 R3 W3 B3 A3w PX3 PR3 PW3 K3
                  clear xl x0 x1 x2 x3 x4 x5 x6 x7 x8
                  obtain ⟨xl, x0, x1, x2, x3, x4, x5, x6, x7, x8⟩ := PX4.out
                  go_wp2_with (fail)
                  refine (dkeys_cmd (M.cut c k n) PR4.out PW4.out FC).mono ?_
                  rintro e w5 ⟨vc, rfl, oc, hb⟩
                  have V5 := Lib.hid (Made.words oc)
                  clear oc
                  have X5 := Lib.hid (X4.out.on hb)
                  have R5 := Lib.hid (R4.out.below hb)
                  have W5 := Lib.hid (W4.out.below hb)
                  have B5 := Lib.hid (below_on B4.out hb)
                  have A5w := Lib.hid (A4w.out.below hb)
                  have PX5 := Lib.hid (PX4.out.on hb)
                  have PR5 := Lib.hid (PR4.out.below hb)
                  have PW5 := Lib.hid (PW4.out.below hb)
                  have K5 := Lib.hid (K4.out.below hb)
                  clear hb X4 R4 W4 B4 A4w PX4 PR4 PW4 K4
                  clear xl x0 x1 x2 x3 x4 x5 x6 x7 x8
                  rw [KC.out] at V5
                  have ss := M.sameB_refl (M.ofL (M.keysL c) k n)
                  go_wp2_with (fail)
                  refine (same_any V5.out K5.out (by omega)).mono ?_
                  rintro e w6 ⟨rfl, hb⟩
                  have X6 := Lib.hid (X5.out.on hb)
                  have R6 := Lib.hid (R5.out.below hb)
                  have W6 := Lib.hid (W5.out.below hb)
                  have B6 := Lib.hid (below_on B5.out hb)
                  have A6w := Lib.hid (A5w.out.below hb)
                  have PX6 := Lib.hid (PX5.out.on hb)
                  have PR6 := Lib.hid (PR5.out.below hb)
                  have PW6 := Lib.hid (PW5.out.below hb)
                  have K6 := Lib.hid (K5.out.below hb)
                  clear hb X5 R5 W5 B5 A5w PX5 PR5 PW5 K5
                  obtain ⟨xl, x0, x1, x2, x3, x4, x5, x6, x7, x8⟩ := PX6.out
                  go_wp2
                  have hs1 : IntKind.i64.wrap ((a : Int) + ((M.partR k n c.rs).length : Int)) = (a : Int) + ((M.partR k n c.rs).length : Int) := IntWalk.i64_in _ (by omega)
                  have hs2 : IntKind.i64.wrap ((b : Int) + ((M.partW k n c.ws).length : Int)) = (b : Int) + ((M.partW k n c.ws).length : Int) := IntWalk.i64_in _ (by omega)
                  go_quiet (fail)
                  clear hs1 hs2
                  go_wp2_with (fail)
                  have DQ := Lib.hid (below_drewN (Below.refl w6.heap.size w6) nq)
                  refine (djoin_any (A6w.out.below DQ.out) (K6.out.below DQ.out) (by omega) (by omega) (M.par_sub KS.out) (M.of_sub KS.out)).mono ?_
                  rintro e w9 ⟨vj, rfl, oj, hb⟩
                  rw [S3.out] at oj
                  have A9w := Lib.hid (Made.words oj)
                  have B9 := Lib.hid (below_on (below_drewN B6.out nq) hb)
                  clear oj hb
                  go_wp2
                  go_roundw
                  case rel => exact ⟨k + 1, by omega, by go_num, by rw [← S1.out, Int.natCast_add], by rw [← S2.out, Int.natCast_add], A9w.out, B9.out⟩
                  case measure => simp [intOf]; omega
              · obtain hkn : (k : Int) = n := by omega
                rw [E1.out k hkn, E2.out k hkn]
                rw [E3.out k hkn] at AK
                go_wp2_with (fail)
                refine (dkeys_cmd c RK.out WK.out F).mono ?_
                rintro e w3 ⟨vk, rfl, ok, hb⟩
                have K3 := Lib.hid (Made.words ok)
                have A3w := Lib.hid (AK.out.below hb)
                have B3 := Lib.hid (below_on BW.out hb)
                clear ok hb
                have ss := M.sameB_refl (M.keysL c)
                go_wp2_with (fail)
                refine (same_any A3w.out K3.out (by omega)).mono ?_
                rintro e w4 ⟨rfl, hb⟩
                have B4 := Lib.hid (below_on B3.out hb)
                clear hb
                go_wp2_with (fail)
                refine (awake_any _).mono ?_
                rintro e w5 ⟨rfl, hb⟩
                have BZ := Lib.hid (below_on B4.out hb)
                clear hb
                go_wp2
                go_ret
                exact ⟨rfl, BZ.out⟩
          · have h2d : decide (4 < n) = true := decide_eq_true (by omega)
            go_enter Try.func5, Try.ntmps5
            go_wp2_with (fail)
            refine (few_one (by simp) c R0.out W0.out).mono ?_
            rintro e w1 ⟨rfl, hb⟩
            have X1 := Lib.hid (X0.out.on hb)
            have R1 := Lib.hid ((R0.out.push _).below hb)
            have W1 := Lib.hid ((W0.out.push _).below hb)
            have B1 := Lib.hid (below_on B0.out hb)
            clear hb X0 R0 W0 B0
            obtain ⟨l0, p0, p1, p2, p3, p4, p5, p6, p7, p8⟩ := X1.out
            go_wp2_with (fail)
            refine (drightC c R1.out W1.out F).mono ?_
            rintro e w2 ⟨rfl, hb⟩
            have X2 := Lib.hid (X1.out.on hb)
            have R2 := Lib.hid (R1.out.below hb)
            have W2 := Lib.hid (W1.out.below hb)
            have B2 := Lib.hid (below_on B1.out hb)
            clear hb X1 R1 W1 B1
            clear l0 p0 p1 p2 p3 p4 p5 p6 p7 p8
            obtain ⟨l0, p0, p1, p2, p3, p4, p5, p6, p7, p8⟩ := X2.out
            go_wp2_with (fail)
            refine (awake_any _).mono ?_
            rintro e w3 ⟨rfl, hb⟩
            have BZ := Lib.hid (below_on B2.out hb)
            clear hb
            go_wp2
            go_ret
            exact ⟨rfl, BZ.out⟩
        · have h1d : decide (n < 1) = true := decide_eq_true (by omega)
          go_enter Try.func5, Try.ntmps5
          go_wp2_with (fail)
          refine (few_one (by simp) c R0.out W0.out).mono ?_
          rintro e w1 ⟨rfl, hb⟩
          have X1 := Lib.hid (X0.out.on hb)
          have R1 := Lib.hid ((R0.out.push _).below hb)
          have W1 := Lib.hid ((W0.out.push _).below hb)
          have B1 := Lib.hid (below_on B0.out hb)
          clear hb X0 R0 W0 B0
          obtain ⟨l0, p0, p1, p2, p3, p4, p5, p6, p7, p8⟩ := X1.out
          go_wp2_with (fail)
          refine (drightC c R1.out W1.out F).mono ?_
          rintro e w2 ⟨rfl, hb⟩
          have X2 := Lib.hid (X1.out.on hb)
          have R2 := Lib.hid (R1.out.below hb)
          have W2 := Lib.hid (W1.out.below hb)
          have B2 := Lib.hid (below_on B1.out hb)
          clear hb X1 R1 W1 B1
          clear l0 p0 p1 p2 p3 p4 p5 p6 p7 p8
          obtain ⟨l0, p0, p1, p2, p3, p4, p5, p6, p7, p8⟩ := X2.out
          go_wp2_with (fail)
          refine (awake_any _).mono ?_
          rintro e w3 ⟨rfl, hb⟩
          have BZ := Lib.hid (below_on B2.out hb)
          clear hb
          go_wp2
          go_ret
          exact ⟨rfl, BZ.out⟩
    · go_enter Try.func5, Try.ntmps5
      go_wp2_with (fail)
      refine (few_one (by simp) c R0.out W0.out).mono ?_
      rintro e w1 ⟨rfl, hb⟩
      have X1 := Lib.hid (X0.out.on hb)
      have R1 := Lib.hid ((R0.out.push _).below hb)
      have W1 := Lib.hid ((W0.out.push _).below hb)
      have B1 := Lib.hid (below_on B0.out hb)
      clear hb X0 R0 W0 B0
      obtain ⟨l0, p0, p1, p2, p3, p4, p5, p6, p7, p8⟩ := X1.out
      go_wp2_with (fail)
      refine (drightC c R1.out W1.out F).mono ?_
      rintro e w2 ⟨rfl, hb⟩
      have X2 := Lib.hid (X1.out.on hb)
      have R2 := Lib.hid (R1.out.below hb)
      have W2 := Lib.hid (W1.out.below hb)
      have B2 := Lib.hid (below_on B1.out hb)
      clear hb X1 R1 W1 B1
      clear l0 p0 p1 p2 p3 p4 p5 p6 p7 p8
      obtain ⟨l0, p0, p1, p2, p3, p4, p5, p6, p7, p8⟩ := X2.out
      go_wp2_with (fail)
      refine (awake_any _).mono ?_
      rintro e w3 ⟨rfl, hb⟩
      have BZ := Lib.hid (below_on B2.out hb)
      clear hb
      go_wp2
      go_ret
      exact ⟨rfl, BZ.out⟩
  · go_enter Try.func5, Try.ntmps5
    go_wp2_with (fail)
    refine (few_one (by simp) c R0.out W0.out).mono ?_
    rintro e w1 ⟨rfl, hb⟩
    have X1 := Lib.hid (X0.out.on hb)
    have R1 := Lib.hid ((R0.out.push _).below hb)
    have W1 := Lib.hid ((W0.out.push _).below hb)
    have B1 := Lib.hid (below_on B0.out hb)
    clear hb X0 R0 W0 B0
    obtain ⟨l0, p0, p1, p2, p3, p4, p5, p6, p7, p8⟩ := X1.out
    go_wp2_with (fail)
    refine (awake_any _).mono ?_
    rintro e w2 ⟨rfl, hb⟩
    have BZ := Lib.hid (below_on B1.out hb)
    clear hb
    go_wp2
    go_ret
    exact ⟨rfl, BZ.out⟩
end Go.Proofs.Ytacieiddhkkahaa
