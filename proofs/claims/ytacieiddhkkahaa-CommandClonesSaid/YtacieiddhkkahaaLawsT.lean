/- The walk of CommandClones; no conditions. -/
import Derived.Test.YtacieiddhkkahaaClonA
import Derived.Test.YtacieiddhkkahaaWalksO
import Derived.Test.YtacieiddhkkahaaCmdsO
import Derived.Test.YtacieiddhkkahaaLawsM
import Derived.Test.YtacieiddhkkahaaRegion4
namespace Go.Proofs.Ytacieiddhkkahaa
open Go.ChangeShapes Go.WideShapes Go.ChangeAt Go.RowKit
attribute [local go_sem ↓] run_same_rd run_same_wr run_same_txn run_same_stamp

theorem M.same_me (c : M.Cmd) : M.sameC c c = true := by simp [M.sameC, M.eq2, M.sameR, M.sameW]
set_option maxHeartbeats 8000000 in
set_option maxRecDepth 100000 in
theorem clones_law (c : M.Cmd) {va vb : Value} (w : World) (h : Rds w va c.rs) (h' : Wrs w vb c.ws) : Calls Try.prog 4 #[.agg #[.int .i64 c.k, .int .i64 c.tc, .int .i64 c.tn, .int .i64 c.tt, .int .i64 c.tk, .int .i64 c.sh, va, vb, .bool c.cm]] w (Yes w) := by
  have X0 := Lib.hid ((Box.new w c va vb).push (.cells #[.int .i64 c.k, .int .i64 c.tc, .int .i64 c.tn, .int .i64 c.tt, .int .i64 c.tk, .int .i64 c.sh, va, vb, .bool c.cm] 29))
  have R0 := Lib.hid (h.push (.cells #[.int .i64 c.k, .int .i64 c.tc, .int .i64 c.tn, .int .i64 c.tt, .int .i64 c.tk, .int .i64 c.sh, va, vb, .bool c.cm] 29))
  have W0 := Lib.hid (h'.push (.cells #[.int .i64 c.k, .int .i64 c.tc, .int .i64 c.tn, .int .i64 c.tt, .int .i64 c.tk, .int .i64 c.sh, va, vb, .bool c.cm] 29))
  have B0 := Lib.hid (below_new (o := .cells #[.int .i64 c.k, .int .i64 c.tc, .int .i64 c.tn, .int .i64 c.tt, .int .i64 c.tk, .int .i64 c.sh, va, vb, .bool c.cm] 29) (below_new (o := .cells #[.int .i64 c.k, .int .i64 c.tc, .int .i64 c.tn, .int .i64 c.tt, .int .i64 c.tk, .int .i64 c.sh, va, vb, .bool c.cm] 29) (Below.refl w.heap.size w)))
  obtain ⟨A8, j8, rfl, -, -⟩ := h.opened
  obtain ⟨A9, j9, rfl, -, -⟩ := h'.opened
  rcases two (M.modB c) with f | f
  · have F := M.modB_iff.1 f
    have RW := Lib.hid h
    have WW := Lib.hid h'
    clear h h'
    go_enter Try.func4, Try.ntmps4
    go_wp2_with (fail)
    refine (few_one (by simp) c R0.out W0.out).mono ?_
    rintro e w1 ⟨rfl, hb⟩
    have X1 := Lib.hid (X0.out.on hb)
    have R1 := Lib.hid ((R0.out.push _).below hb)
    have W1 := Lib.hid ((W0.out.push _).below hb)
    have B1 := Lib.hid (below_on B0.out hb)
    clear hb X0 R0 W0 B0
    obtain ⟨l0, p0, p1, p2, p3, p4, p5, p6, p7, p8⟩ := X1.out
    have sw : w.heap.size < w1.heap.size := X1.out.lt
    have X2 := Lib.hid (X1.out.push (.cells #[.int .i64 c.k, .int .i64 c.tc, .int .i64 c.tn, .int .i64 c.tt, .int .i64 c.tk, .int .i64 c.sh, .slice A8 c.rs.length j8, .slice A9 c.ws.length j9, .bool c.cm] 29))
    have R2 := Lib.hid (R1.out.push (.cells #[.int .i64 c.k, .int .i64 c.tc, .int .i64 c.tn, .int .i64 c.tt, .int .i64 c.tk, .int .i64 c.sh, .slice A8 c.rs.length j8, .slice A9 c.ws.length j9, .bool c.cm] 29))
    have W2 := Lib.hid (W1.out.push (.cells #[.int .i64 c.k, .int .i64 c.tc, .int .i64 c.tn, .int .i64 c.tt, .int .i64 c.tk, .int .i64 c.sh, .slice A8 c.rs.length j8, .slice A9 c.ws.length j9, .bool c.cm] 29))
    have B2 := Lib.hid (below_new (o := .cells #[.int .i64 c.k, .int .i64 c.tc, .int .i64 c.tn, .int .i64 c.tt, .int .i64 c.tk, .int .i64 c.sh, .slice A8 c.rs.length j8, .slice A9 c.ws.length j9, .bool c.cm] 29) B1.out)
    have Y2 := Lib.hid (show Box (w1.alloc (.cells #[.int .i64 c.k, .int .i64 c.tc, .int .i64 c.tn, .int .i64 c.tt, .int .i64 c.tk, .int .i64 c.sh, .slice A8 c.rs.length j8, .slice A9 c.ws.length j9, .bool c.cm] 29)) w1.heap.size c (.slice A8 c.rs.length j8) (.slice A9 c.ws.length j9) from Box.new w1 c (.slice A8 c.rs.length j8) (.slice A9 c.ws.length j9))
    have T2 := Lib.hid (soft_new w1 #[.int .i64 c.k, .int .i64 c.tc, .int .i64 c.tn, .int .i64 c.tt, .int .i64 c.tk, .int .i64 c.sh, .slice A8 c.rs.length j8, .slice A9 c.ws.length j9, .bool c.cm] 29)
    have s2 : w1.heap.size < (w1.alloc (.cells #[.int .i64 c.k, .int .i64 c.tc, .int .i64 c.tn, .int .i64 c.tt, .int .i64 c.tk, .int .i64 c.sh, .slice A8 c.rs.length j8, .slice A9 c.ws.length j9, .bool c.cm] 29)).heap.size := by simp
    go_wp2
    generalize (w1.alloc (.cells #[.int .i64 c.k, .int .i64 c.tc, .int .i64 c.tn, .int .i64 c.tt, .int .i64 c.tk, .int .i64 c.sh, .slice A8 c.rs.length j8, .slice A9 c.ws.length j9, .bool c.cm] 29)) = w2 at *
    clear X1 R1 W1 B1 l0 p0 p1 p2 p3 p4 p5 p6 p7 p8
    rename_i K hK
    have key : ∀ (t0 t11 t12 t13 t14 t15 t16 t17 t18 t19 t20 t21 t22 t23 t24 t25 t26 : Value) (A1 : Option Addr) (j1 : Nat) (D1 : Option Addr) (g1 : Nat) (w5 : World), Good w w5 w1.heap.size c (.slice A8 c.rs.length j8) (.slice A9 c.ws.length j9) (.slice A1 c.rs.length j1) (.slice D1 c.ws.length g1) → K ⟨#[t0, .pointer (some ⟨w.heap.size, 0, none⟩), .bool false, .pointer (some ⟨w1.heap.size, 0, none⟩), undef, undef, undef, undef, undef, undef, undef, t11, t12, t13, t14, t15, t16, t17, t18, t19, t20, t21, t22, t23, t24, t25, t26, undef, undef, undef, undef, undef, undef, undef, undef, undef, undef, undef, undef, undef, undef, undef, undef, undef, undef, undef, undef, undef, undef, undef, undef, undef, undef, undef, undef, undef, undef, undef, undef, undef, undef, undef, undef, undef, undef, undef, undef, undef, undef, undef, undef, undef, undef, undef, undef, undef, undef, undef, undef, undef, undef, undef, undef, undef, undef, undef, undef, undef, undef, undef, undef, undef, undef, undef, undef, undef, undef, undef, undef], []⟩ w5 := by
      intro t0 t11 t12 t13 t14 t15 t16 t17 t18 t19 t20 t21 t22 t23 t24 t25 t26 A1 j1 D1 g1 w5 G
      clear RW WW X2 R2 W2 B2 Y2 T2 s2
      have X5 := Lib.hid G.x
      have Y5 := Lib.hid G.y
      have R5 := Lib.hid G.r
      have W5 := Lib.hid G.s
      have YR5 := Lib.hid G.r'
      have YW5 := Lib.hid G.s'
      have B5 := Lib.hid G.b
      clear G
      have sm := M.same_me c
      obtain ⟨D, E, FD, HD0⟩ := dec_own c true F
      have HD := Lib.hid HD0
      clear HD0
      have hr20 := F.r
      have hw20 := F.w
      have hd20 := FD.r
      refine hK _ _ ?_
      clear hK K
      obtain ⟨yl, y0, y1, y2, y3, y4, y5, y6, y7, y8⟩ := Y5.out
      go_wp2_with (fail)
      refine (clone_any c YR5.out YW5.out F.l F.l').mono ?_
      rintro e v6 ⟨vx, vy, rfl, rx, sx, hb⟩
      obtain ⟨A2, j2, rfl⟩ := ownsRow_slice rx
      obtain ⟨D2, g2, rfl⟩ := ownsRow_slice sx
      have X6 := Lib.hid ((X5.out.on hb).push (.cells #[.int .i64 c.k, .int .i64 c.tc, .int .i64 c.tn, .int .i64 c.tt, .int .i64 c.tk, .int .i64 c.sh, .slice A2 c.rs.length j2, .slice D2 c.ws.length g2, .bool c.cm] 29))
      have Y6 := Lib.hid ((Y5.out.on hb).push (.cells #[.int .i64 c.k, .int .i64 c.tc, .int .i64 c.tn, .int .i64 c.tt, .int .i64 c.tk, .int .i64 c.sh, .slice A2 c.rs.length j2, .slice D2 c.ws.length g2, .bool c.cm] 29))
      have R6 := Lib.hid ((R5.out.below hb).push (.cells #[.int .i64 c.k, .int .i64 c.tc, .int .i64 c.tn, .int .i64 c.tt, .int .i64 c.tk, .int .i64 c.sh, .slice A2 c.rs.length j2, .slice D2 c.ws.length g2, .bool c.cm] 29))
      have W6 := Lib.hid ((W5.out.below hb).push (.cells #[.int .i64 c.k, .int .i64 c.tc, .int .i64 c.tn, .int .i64 c.tt, .int .i64 c.tk, .int .i64 c.sh, .slice A2 c.rs.length j2, .slice D2 c.ws.length g2, .bool c.cm] 29))
      have YR6 := Lib.hid ((YR5.out.below hb).push (.cells #[.int .i64 c.k, .int .i64 c.tc, .int .i64 c.tn, .int .i64 c.tt, .int .i64 c.tk, .int .i64 c.sh, .slice A2 c.rs.length j2, .slice D2 c.ws.length g2, .bool c.cm] 29))
      have YW6 := Lib.hid ((YW5.out.below hb).push (.cells #[.int .i64 c.k, .int .i64 c.tc, .int .i64 c.tn, .int .i64 c.tt, .int .i64 c.tk, .int .i64 c.sh, .slice A2 c.rs.length j2, .slice D2 c.ws.length g2, .bool c.cm] 29))
      have B6 := Lib.hid (below_new (o := .cells #[.int .i64 c.k, .int .i64 c.tc, .int .i64 c.tn, .int .i64 c.tt, .int .i64 c.tk, .int .i64 c.sh, .slice A2 c.rs.length j2, .slice D2 c.ws.length g2, .bool c.cm] 29) (below_on B5.out hb))
      clear X5 Y5 R5 W5 YR5 YW5 B5
      have Z6 := Lib.hid (show Box (v6.alloc (.cells #[.int .i64 c.k, .int .i64 c.tc, .int .i64 c.tn, .int .i64 c.tt, .int .i64 c.tk, .int .i64 c.sh, .slice A2 c.rs.length j2, .slice D2 c.ws.length g2, .bool c.cm] 29)) v6.heap.size c (.slice A2 c.rs.length j2) (.slice D2 c.ws.length g2) from Box.new v6 c (.slice A2 c.rs.length j2) (.slice D2 c.ws.length g2))
      have ZR6 := Lib.hid (Rds.push (RowN.of_owns rx) (.cells #[.int .i64 c.k, .int .i64 c.tc, .int .i64 c.tn, .int .i64 c.tt, .int .i64 c.tk, .int .i64 c.sh, .slice A2 c.rs.length j2, .slice D2 c.ws.length g2, .bool c.cm] 29))
      have ZW6 := Lib.hid (Wrs.push (RowN.of_owns sx) (.cells #[.int .i64 c.k, .int .i64 c.tc, .int .i64 c.tn, .int .i64 c.tt, .int .i64 c.tk, .int .i64 c.sh, .slice A2 c.rs.length j2, .slice D2 c.ws.length g2, .bool c.cm] 29))
      clear rx sx hb
      clear yl y0 y1 y2 y3 y4 y5 y6 y7 y8
      obtain ⟨zl, z0, z1, z2, z3, z4, z5, z6, z7, z8⟩ := Z6.out
      obtain ⟨xl, x0, x1, x2, x3, x4, x5, x6, x7, x8⟩ := X6.out
      go_wp2_with (fail)
      generalize (v6.alloc (.cells #[.int .i64 c.k, .int .i64 c.tc, .int .i64 c.tn, .int .i64 c.tt, .int .i64 c.tk, .int .i64 c.sh, .slice A2 c.rs.length j2, .slice D2 c.ws.length g2, .bool c.cm] 29)) = w6 at *
      refine (dsame_cmd c c ZR6.out ZW6.out R6.out W6.out F.l F.l').mono ?_
      rintro e w7 ⟨rfl, hb⟩
      have X7 := Lib.hid (X6.out.on hb)
      have Y7 := Lib.hid (Y6.out.on hb)
      have R7 := Lib.hid (R6.out.below hb)
      have W7 := Lib.hid (W6.out.below hb)
      have YR7 := Lib.hid (YR6.out.below hb)
      have YW7 := Lib.hid (YW6.out.below hb)
      have Z7 := Lib.hid (Z6.out.on hb)
      have ZR7 := Lib.hid (ZR6.out.below hb)
      have ZW7 := Lib.hid (ZW6.out.below hb)
      have B7 := Lib.hid (below_on B6.out hb)
      clear X6 Y6 R6 W6 YR6 YW6 Z6 ZR6 ZW6 B6
      clear hb
      clear zl z0 z1 z2 z3 z4 z5 z6 z7 z8
      clear xl x0 x1 x2 x3 x4 x5 x6 x7 x8
      obtain ⟨zl, z0, z1, z2, z3, z4, z5, z6, z7, z8⟩ := Z7.out
      go_wp2_with (fail)
      refine (clone_any c ZR7.out ZW7.out F.l F.l').mono ?_
      rintro e v8 ⟨vx, vy, rfl, rx, sx, hb⟩
      obtain ⟨A3, j3, rfl⟩ := ownsRow_slice rx
      obtain ⟨D3, g3, rfl⟩ := ownsRow_slice sx
      have Q8 := Lib.hid (show Box (v8.alloc (.cells #[.int .i64 c.k, .int .i64 c.tc, .int .i64 c.tn, .int .i64 c.tt, .int .i64 c.tk, .int .i64 c.sh, .slice A3 c.rs.length j3, .slice D3 c.ws.length g3, .bool c.cm] 29)) v8.heap.size c (.slice A3 c.rs.length j3) (.slice D3 c.ws.length g3) from Box.new v8 c (.slice A3 c.rs.length j3) (.slice D3 c.ws.length g3))
      have QR8 := Lib.hid (Rds.push (RowN.of_owns rx) (.cells #[.int .i64 c.k, .int .i64 c.tc, .int .i64 c.tn, .int .i64 c.tt, .int .i64 c.tk, .int .i64 c.sh, .slice A3 c.rs.length j3, .slice D3 c.ws.length g3, .bool c.cm] 29))
      have QW8 := Lib.hid (Wrs.push (RowN.of_owns sx) (.cells #[.int .i64 c.k, .int .i64 c.tc, .int .i64 c.tn, .int .i64 c.tt, .int .i64 c.tk, .int .i64 c.sh, .slice A3 c.rs.length j3, .slice D3 c.ws.length g3, .bool c.cm] 29))
      have s8 : v8.heap.size < (v8.alloc (.cells #[.int .i64 c.k, .int .i64 c.tc, .int .i64 c.tn, .int .i64 c.tt, .int .i64 c.tk, .int .i64 c.sh, .slice A3 c.rs.length j3, .slice D3 c.ws.length g3, .bool c.cm] 29)).heap.size := by simp
      have LR8 := Lib.hid ((loose_rds rx rfl (fun r hr => by have := F.rk r hr; omega)).on (Nat.le_refl _) (below_new (o := .cells #[.int .i64 c.k, .int .i64 c.tc, .int .i64 c.tn, .int .i64 c.tt, .int .i64 c.tk, .int .i64 c.sh, .slice A3 c.rs.length j3, .slice D3 c.ws.length g3, .bool c.cm] 29) (Below.refl _ _)))
      have LW8 := Lib.hid ((loose_wrs sx rfl (fun r hr => by have := F.wv r hr; omega)).on (Nat.le_refl _) (below_new (o := .cells #[.int .i64 c.k, .int .i64 c.tc, .int .i64 c.tn, .int .i64 c.tt, .int .i64 c.tk, .int .i64 c.sh, .slice A3 c.rs.length j3, .slice D3 c.ws.length g3, .bool c.cm] 29) (Below.refl _ _)))
      have AP := Lib.hid (apart_some rx sx)
      have D8 := Lib.hid (below_new (o := .cells #[.int .i64 c.k, .int .i64 c.tc, .int .i64 c.tn, .int .i64 c.tt, .int .i64 c.tk, .int .i64 c.sh, .slice A3 c.rs.length j3, .slice D3 c.ws.length g3, .bool c.cm] 29) hb)
      have s7 : w7.heap.size ≤ v8.heap.size := hb.size
      clear rx sx hb
      clear zl z0 z1 z2 z3 z4 z5 z6 z7 z8
      obtain ⟨ql, q0, q1, q2, q3, q4, q5, q6, q7, q8⟩ := Q8.out
      go_wp2_with (fail)
      generalize (v8.alloc (.cells #[.int .i64 c.k, .int .i64 c.tc, .int .i64 c.tn, .int .i64 c.tt, .int .i64 c.tk, .int .i64 c.sh, .slice A3 c.rs.length j3, .slice D3 c.ws.length g3, .bool c.cm] 29)) = w8 at *
      refine (HD.out _ _ _ QR8.out QW8.out).mono ?_
      rintro e v9 ⟨vx, vy, rfl, rx, sx, hb⟩
      obtain ⟨A4, j4, rfl⟩ := ownsRow_slice rx
      obtain ⟨D4, g4, rfl⟩ := ownsRow_slice sx
      have LD9 := Lib.hid ((loose_rds rx rfl (fun r hr => by have := FD.rk r hr; omega)).on (Nat.le_refl _) (below_new (o := .cells #[.int .i64 D.k, .int .i64 D.tc, .int .i64 D.tn, .int .i64 D.tt, .int .i64 D.tk, .int .i64 D.sh, .slice A4 D.rs.length j4, .slice D4 D.ws.length g4, .bool D.cm] 29) (Below.refl _ _)))
      have D9 := Lib.hid (below_new (o := .cells #[.int .i64 D.k, .int .i64 D.tc, .int .i64 D.tn, .int .i64 D.tt, .int .i64 D.tk, .int .i64 D.sh, .slice A4 D.rs.length j4, .slice D4 D.ws.length g4, .bool D.cm] 29) hb)
      have C9 := Lib.hid (show Box (v9.alloc (.cells #[.int .i64 D.k, .int .i64 D.tc, .int .i64 D.tn, .int .i64 D.tt, .int .i64 D.tk, .int .i64 D.sh, .slice A4 D.rs.length j4, .slice D4 D.ws.length g4, .bool D.cm] 29)) v9.heap.size D (.slice A4 D.rs.length j4) (.slice D4 D.ws.length g4) from Box.new v9 D (.slice A4 D.rs.length j4) (.slice D4 D.ws.length g4))
      have s9 : w8.heap.size ≤ v9.heap.size := hb.size
      clear rx sx hb HD QR8 QW8
      clear ql q0 q1 q2 q3 q4 q5 q6 q7 q8
      obtain ⟨dl, d0, d1, d2, d3, d4, d5, d6, d7, d8⟩ := C9.out
      go_wp2
      generalize (v9.alloc (.cells #[.int .i64 D.k, .int .i64 D.tc, .int .i64 D.tn, .int .i64 D.tt, .int .i64 D.tk, .int .i64 D.sh, .slice A4 D.rs.length j4, .slice D4 D.ws.length g4, .bool D.cm] 29)) = w9 at *
      go_loopw [43] (fun i wr => ∃ k : Nat, k ≤ D.rs.length ∧ i = .int .i64 k ∧ Loose 3 0 wr w8.heap.size v9.heap.size A4 k D.rs.length ∧ wr.cell? ⟨v9.heap.size, 6, none⟩ = some (.slice A4 D.rs.length j4) ∧ Below w8.heap.size w8 wr) (fun i _ => D.rs.length - (intOf i).toNat)
      case atStart => exact ⟨0, Nat.zero_le _, rfl, LD9.out, d6, D9.out⟩
      case round =>
        clear LD9 D9 C9 dl d0 d1 d2 d3 d4 d5 d6 d7 d8
        obtain ⟨k, hk, rfl, hlo, d6, hbw⟩ := hrel
        by_cases hlt : k < D.rs.length
        · obtain ⟨g, rfl, hg, hg2, hsf⟩ := hlo (by omega)
          obtain ⟨s, hcell, hsz, hfr⟩ := hsf k (Nat.le_refl _) hlt
          have S1 := Lib.hid hlo
          have B1 := Lib.hid hbw
          have C6 := Lib.hid d6
          have hadd : ∀ W : World, (binOp .add 9 (.string s) (.string ⟨#[120]⟩)).run Try.prog W = .ok (.string (s ++ ⟨#[120]⟩)) W := fun W => by
            rw [binOp_string_add]; exact run_string_add_sum W s ⟨#[120]⟩ (by have : (⟨#[120]⟩ : ByteArray).size = 1 := rfl; omega)
          have hi1 : (k : Int) < (D.rs.length : Int) := by omega
          clear hlo hsf hbw
          simp only [Nat.add_zero] at hcell hfr
          go_wp2
          go_roundw
          case rel => exact ⟨k + 1, by omega, by go_num, S1.out.step (by omega) _, cell_far C6.out (by omega) _, B1.out.setCell hg _⟩
          case measure => simp [intOf]; omega
        · have Q9 := Lib.hid (Q8.out.on hbw)
          have LR9 := Lib.hid (LR8.out.on (by omega) hbw)
          have LW9 := Lib.hid (LW8.out.on (by omega) hbw)
          have E9 := Lib.hid (D8.out.trans (hbw.mono D8.out.size))
          clear hlo hbw Q8 LR8 LW8 D8
          obtain ⟨ql, q0, q1, q2, q3, q4, q5, q6, q7, q8⟩ := Q9.out
          clear ql q0 q1 q2 q3 q4 q5 q8
          go_wp2
          go_loopw [59] (fun i wr => ∃ k : Nat, k ≤ c.ws.length ∧ i = .int .i64 k ∧ Loose 2 1 wr w7.heap.size v8.heap.size D3 k c.ws.length ∧ wr.cell? ⟨v8.heap.size, 7, none⟩ = some (.slice D3 c.ws.length g3) ∧ wr.cell? ⟨v8.heap.size, 6, none⟩ = some (.slice A3 c.rs.length j3) ∧ Loose 3 0 wr w7.heap.size v8.heap.size A3 0 c.rs.length ∧ Below w7.heap.size w7 wr) (fun i _ => c.ws.length - (intOf i).toNat)
          case atStart => exact ⟨0, Nat.zero_le _, rfl, LW9.out, q7, q6, LR9.out, E9.out⟩
          case round =>
            clear LR9 LW9 E9 Q9 q6 q7 hk hlt d6
            obtain ⟨k, hk, rfl, hlo, q7, q6, hlr, hbw⟩ := hrel
            by_cases hlt : k < c.ws.length
            · obtain ⟨g, rfl, hg, hg2, hsf⟩ := hlo (by omega)
              obtain ⟨s, hcell, hsz, hfr⟩ := hsf k (Nat.le_refl _) hlt
              have S1 := Lib.hid hlo
              have B1 := Lib.hid hbw
              have C6 := Lib.hid q6
              have C7 := Lib.hid q7
              have LR := Lib.hid hlr
              clear hlr
              have hadd : ∀ W : World, (binOp .add 9 (.string s) (.string ⟨#[120]⟩)).run Try.prog W = .ok (.string (s ++ ⟨#[120]⟩)) W := fun W => by
                rw [binOp_string_add]; exact run_string_add_sum W s ⟨#[120]⟩ (by have : (⟨#[120]⟩ : ByteArray).size = 1 := rfl; omega)
              have hi1 : (k : Int) < (c.ws.length : Int) := by omega
              clear hlo hsf hbw
              go_wp2
              go_roundw
              case rel => exact ⟨k + 1, by omega, by go_num, S1.out.step (by omega) _, cell_far C7.out (by omega) _, cell_far C6.out (by omega) _, LR.out.other (fun g' e e' => AP.out g' g e rfl e'.symm) _, B1.out.setCell hg _⟩
              case measure => simp [intOf]; omega
            · have LR9 := Lib.hid hlr
              have E9 := Lib.hid hbw
              clear hlo hlr hbw
              go_wp2
              go_loopw [75] (fun i wr => ∃ k : Nat, k ≤ c.rs.length ∧ i = .int .i64 k ∧ Loose 3 0 wr w7.heap.size v8.heap.size A3 k c.rs.length ∧ wr.cell? ⟨v8.heap.size, 6, none⟩ = some (.slice A3 c.rs.length j3) ∧ Below w7.heap.size w7 wr) (fun i _ => c.rs.length - (intOf i).toNat)
              case atStart => exact ⟨0, Nat.zero_le _, rfl, LR9.out, q6, E9.out⟩
              case round =>
                clear LR9 E9 q6 q7 hk hlt
                obtain ⟨k, hk, rfl, hlo, q6, hbw⟩ := hrel
                by_cases hlt : k < c.rs.length
                · obtain ⟨g, rfl, hg, hg2, hsf⟩ := hlo (by omega)
                  obtain ⟨s, hcell, hsz, hfr⟩ := hsf k (Nat.le_refl _) hlt
                  have S1 := Lib.hid hlo
                  have B1 := Lib.hid hbw
                  have C6 := Lib.hid q6
                  have hadd : ∀ W : World, (binOp .add 9 (.string s) (.string ⟨#[121]⟩)).run Try.prog W = .ok (.string (s ++ ⟨#[121]⟩)) W := fun W => by
                    rw [binOp_string_add]; exact run_string_add_sum W s ⟨#[121]⟩ (by have : (⟨#[121]⟩ : ByteArray).size = 1 := rfl; omega)
                  have hi1 : (k : Int) < (c.rs.length : Int) := by omega
                  clear hlo hsf hbw
                  simp only [Nat.add_zero] at hcell hfr
                  go_wp2
                  go_roundw
                  case rel => exact ⟨k + 1, by omega, by go_num, S1.out.step (by omega) _, cell_far C6.out (by omega) _, B1.out.setCell hg _⟩
                  case measure => simp [intOf]; omega
                · have hb := hbw
                  clear hbw hlo q6 AP
                  have X10 := Lib.hid (X7.out.on hb)
                  have Y10 := Lib.hid (Y7.out.on hb)
                  have R10 := Lib.hid (R7.out.below hb)
                  have W10 := Lib.hid (W7.out.below hb)
                  have YR10 := Lib.hid (YR7.out.below hb)
                  have YW10 := Lib.hid (YW7.out.below hb)
                  have Z10 := Lib.hid (Z7.out.on hb)
                  have ZR10 := Lib.hid (ZR7.out.below hb)
                  have ZW10 := Lib.hid (ZW7.out.below hb)
                  have B10 := Lib.hid (below_on B7.out hb)
                  clear X7 Y7 R7 W7 YR7 YW7 Z7 ZR7 ZW7 B7
                  clear hb
                  obtain ⟨zl, z0, z1, z2, z3, z4, z5, z6, z7, z8⟩ := Z10.out
                  obtain ⟨xl, x0, x1, x2, x3, x4, x5, x6, x7, x8⟩ := X10.out
                  go_wp2_with (fail)
                  refine (dsame_cmd c c ZR10.out ZW10.out R10.out W10.out F.l F.l').mono ?_
                  rintro e w11 ⟨rfl, hb⟩
                  have X11 := Lib.hid (X10.out.on hb)
                  have Y11 := Lib.hid (Y10.out.on hb)
                  have R11 := Lib.hid (R10.out.below hb)
                  have W11 := Lib.hid (W10.out.below hb)
                  have YR11 := Lib.hid (YR10.out.below hb)
                  have YW11 := Lib.hid (YW10.out.below hb)
                  have B11 := Lib.hid (below_on B10.out hb)
                  clear X10 Y10 R10 W10 YR10 YW10 B10
                  clear hb
                  clear zl z0 z1 z2 z3 z4 z5 z6 z7 z8
                  clear xl x0 x1 x2 x3 x4 x5 x6 x7 x8
                  obtain ⟨yl, y0, y1, y2, y3, y4, y5, y6, y7, y8⟩ := Y11.out
                  obtain ⟨xl, x0, x1, x2, x3, x4, x5, x6, x7, x8⟩ := X11.out
                  go_wp2_with (fail)
                  refine (dsame_cmd c c YR11.out YW11.out R11.out W11.out F.l F.l').mono ?_
                  rintro e w12 ⟨rfl, hb⟩
                  have B12 := Lib.hid (below_on B11.out hb)
                  clear hb
                  clear yl y0 y1 y2 y3 y4 y5 y6 y7 y8
                  clear xl x0 x1 x2 x3 x4 x5 x6 x7 x8
                  go_wp2_with (fail)
                  refine (awake_any _).mono ?_
                  rintro e w13 ⟨rfl, hb⟩
                  have BZ := Lib.hid (below_on B12.out hb)
                  clear hb
                  go_wp2
                  go_ret
                  exact ⟨rfl, BZ.out⟩
    refine region4 RW.out WW.out F X2.out Y2.out T2.out sw B2.out (fun x17 x18 x19 x20 x21 x22 x23 x24 x25 x26 A1 j1 D1 g1 W hg => ?_)
    exact key _ _ _ _ _ _ _ _ _ _ _ _ _ _ _ _ _ A1 j1 D1 g1 W hg
  · go_enter Try.func4, Try.ntmps4
    go_wp2_with (fail)
    refine (few_one (by simp) c R0.out W0.out).mono ?_
    rintro e w1 ⟨rfl, hb⟩
    have X1 := Lib.hid (X0.out.on hb)
    have R1 := Lib.hid ((R0.out.push _).below hb)
    have W1 := Lib.hid ((W0.out.push _).below hb)
    have B1 := Lib.hid (below_on B0.out hb)
    clear hb X0 R0 W0 B0
    obtain ⟨l0, p0, p1, p2, p3, p4, p5, p6, p7, p8⟩ := X1.out
    go_wp2_with (fail)
    refine (awake_any _).mono ?_
    rintro e w2 ⟨rfl, hb⟩
    have BZ := Lib.hid (below_on B1.out hb)
    clear hb
    go_wp2
    go_ret
    exact ⟨rfl, BZ.out⟩
end Go.Proofs.Ytacieiddhkkahaa
