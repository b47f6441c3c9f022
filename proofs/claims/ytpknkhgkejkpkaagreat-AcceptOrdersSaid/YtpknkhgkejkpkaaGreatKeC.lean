/- Commands' keys, which commands interfere: contracts; no conditions but those that they name. -/
import Derived.Test.YtpknkhgkejkpkaaGreatKeB
import Derived.Deep.QuietTactic
import Derived.BigQuiet
import Derived.WalkSmall
import Derived.Deep.RegionWith

namespace Go.Proofs.YtpknkhgkejkpkaaGreat
open Go.RowKit

namespace M
end M

end Go.Proofs.YtpknkhgkejkpkaaGreat

namespace Go.Proofs.YtpknkhgkejkpkaaGreat
open Go.RowKit

instance (w : World) : Nonempty (After w) := ⟨⟨w, Below.refl _ _⟩⟩
end Go.Proofs.YtpknkhgkejkpkaaGreat

namespace Go.Proofs.YtpknkhgkejkpkaaGreat
open Go.ChangeShapes Go.WideShapes Go.ChangeAt Go.RowKit

end Go.Proofs.YtpknkhgkejkpkaaGreat

namespace Go.Proofs.YtpknkhgkejkpkaaGreat
open Go.ChangeShapes Go.WideShapes Go.ChangeAt Go.RowKit

namespace M
end M

end Go.Proofs.YtpknkhgkejkpkaaGreat

namespace Go.Proofs.YtpknkhgkejkpkaaGreat
open Go.ChangeShapes Go.WideShapes Go.ChangeAt Go.RowKit

namespace M
end M

end Go.Proofs.YtpknkhgkejkpkaaGreat

namespace Go.Proofs.YtpknkhgkejkpkaaGreat
open Go.ChangeShapes Go.WideShapes Go.ChangeAt Go.RowKit
namespace M
end M
attribute [local go_sem ↓] run_same_rd run_same_wr run_same_txn run_same_stamp
namespace M
end M

end Go.Proofs.YtpknkhgkejkpkaaGreat

namespace Go.Proofs.YtpknkhgkejkpkaaGreat
open Go.ChangeShapes Go.WideShapes Go.ChangeAt Go.RowKit
attribute [local go_sem ↓] run_same_rd run_same_wr run_same_txn run_same_stamp
namespace M
end M

end Go.Proofs.YtpknkhgkejkpkaaGreat

namespace Go.Proofs.YtpknkhgkejkpkaaGreat
open Go.ChangeShapes Go.WideShapes Go.ChangeAt Go.RowKit
attribute [local go_sem ↓] run_same_rd run_same_wr run_same_txn run_same_stamp
namespace M
end M

end Go.Proofs.YtpknkhgkejkpkaaGreat

namespace Go.Proofs.YtpknkhgkejkpkaaGreat
open Go.ChangeShapes Go.WideShapes Go.ChangeAt Go.RowKit

end Go.Proofs.YtpknkhgkejkpkaaGreat

namespace Go.Proofs.YtpknkhgkejkpkaaGreat
open Go.ChangeShapes Go.WideShapes Go.ChangeAt Go.RowKit

end Go.Proofs.YtpknkhgkejkpkaaGreat

namespace Go.Proofs.YtpknkhgkejkpkaaGreat
open Go.ChangeShapes Go.WideShapes Go.ChangeAt Go.RowKit

namespace M
end M

set_option maxHeartbeats 4000000 in
set_option maxRecDepth 100000 in
theorem keys_cmd {w : World} (c : M.Cmd) {va vb : Value} (h : Rds w va c.rs) (h' : Wrs w vb c.ws) (F : M.Mod c) : Calls Tryz.prog 99 #[.agg #[.int .i64 c.k, .int .i64 c.tc, .int .i64 c.tn, .int .i64 c.tt, .int .i64 c.tk, .int .i64 c.sh, va, vb, .bool c.cm]] w (Made (M.keysL c) w) := by
  have hl := F.l
  have hl' := F.l'
  have hlk : (M.rk c.rs).length ≤ 1000 := by rw [M.rk_len]; exact hl
  have hlk' : (M.wk c.ws).length ≤ 1000 := by rw [M.wk_len]; exact hl'
  have X0 := Lib.hid (Box.new w c va vb)
  have R0 := Lib.hid (h.push (.cells #[.int .i64 c.k, .int .i64 c.tc, .int .i64 c.tn, .int .i64 c.tt, .int .i64 c.tk, .int .i64 c.sh, va, vb, .bool c.cm] 30))
  have W0 := Lib.hid (h'.push (.cells #[.int .i64 c.k, .int .i64 c.tc, .int .i64 c.tn, .int .i64 c.tt, .int .i64 c.tk, .int .i64 c.sh, va, vb, .bool c.cm] 30))
  have B0 := Lib.hid (below_new (o := .cells #[.int .i64 c.k, .int .i64 c.tc, .int .i64 c.tn, .int .i64 c.tt, .int .i64 c.tk, .int .i64 c.sh, va, vb, .bool c.cm] 30) (Below.refl w.heap.size w))
  clear h h'
  go_enter Tryz.func99, Tryz.ntmps99
  go_wp2
  generalize (w.alloc (.cells #[.int .i64 c.k, .int .i64 c.tc, .int .i64 c.tn, .int .i64 c.tt, .int .i64 c.tk, .int .i64 c.sh, va, vb, .bool c.cm] 30)) = w0 at *
  obtain ⟨l0, p0, p1, p2, p3, p4, p5, p6, p7, p8⟩ := X0.out
  have hs0 : w.heap.size ≤ w0.heap.size := B0.out.size
  go_region_with (first
    | (go_at_call 96; refine (readKeys_any (w := w0.drew) (R0.out.below (Below.refl _ _).drew) hl).mono ?_; rintro e w1 ⟨v1, rfl, o1, hb1⟩
       have hb1 := (Below.refl _ w0).drew.trans hb1
       obtain ⟨A1, k1, rfl⟩ := ownsRow_slice o1
       have O1 := Lib.hid (Made.words o1)
       have D1 := Lib.hid hb1
       clear o1 hb1
       have q7 := (D1.out.cell (p := ⟨w.heap.size, 7, none⟩) l0).trans p7)
    | (go_at_call 97; refine (writeKeys_any (w := w1) (W0.out.below D1.out) hl').mono ?_; rintro e w2 ⟨v2, rfl, o2, hb2⟩
       obtain ⟨A2, k2, rfl⟩ := ownsRow_slice o2
       have O2 := Lib.hid (Made.words o2)
       have D2 := Lib.hid hb2
       clear o2 hb2)
    | (go_at_call 101; refine (join_any (w := w2) (O1.out.below D2.out) O2.out hlk hlk' F.rks F.wks).mono ?_; rintro e w3 ⟨v3, rfl, o3, hb3⟩
       have O3 := Lib.hid o3
       have D3 := Lib.hid hb3
       clear o3 hb3))
  all_goals
    have DD := Lib.hid (show Below w.heap.size w w3 from below_on (below_on (B0.out.trans (D1.out.mono hs0)) D2.out) D3.out)
    have O4 := Lib.hid (show w3.ownsRow w.heap.size 9 1 v3 (M.keysL c).length ((M.keysL c).map encStr) from ownsRow_baseN O3.out (Nat.le_trans hs0 (Nat.le_trans D1.out.size D2.out.size)))
    clear O3 D1 D2 D3 O1 O2
    go_wp2
    go_ret
    exact ⟨_, rfl, O4.out, DD.out⟩
end Go.Proofs.YtpknkhgkejkpkaaGreat

namespace Go.Proofs.YtpknkhgkejkpkaaGreat
open Go.ChangeShapes Go.WideShapes Go.ChangeAt Go.RowKit
attribute [local go_sem ↓] run_same_rd run_same_wr run_same_txn run_same_stamp
namespace M
def interB (a b : Cmd) : Bool := if a.k = 0 then false else if b.k = 0 then false else eq2 a.tc a.tn b.tc b.tn || meetB (keysL a) (keysL b)
end M

set_option maxHeartbeats 4000000 in
set_option maxRecDepth 100000 in
theorem inter_any {w : World} (a b : M.Cmd) {va vb ua ub : Value} (h : Rds w va a.rs) (h' : Wrs w vb a.ws) (g : Rds w ua b.rs) (g' : Wrs w ub b.ws) (F : M.Mod a) (G : M.Mod b) : Calls Tryz.prog 84 #[.agg #[.int .i64 a.k, .int .i64 a.tc, .int .i64 a.tn, .int .i64 a.tt, .int .i64 a.tk, .int .i64 a.sh, va, vb, .bool a.cm], .agg #[.int .i64 b.k, .int .i64 b.tc, .int .i64 b.tn, .int .i64 b.tt, .int .i64 b.tk, .int .i64 b.sh, ua, ub, .bool b.cm]] w fun e w' => e = .returned (.bool (M.interB a b)) ∧ Below w.heap.size w w' := by
  have X0 := Lib.hid ((Box.new w a va vb).push (.cells #[.int .i64 b.k, .int .i64 b.tc, .int .i64 b.tn, .int .i64 b.tt, .int .i64 b.tk, .int .i64 b.sh, ua, ub, .bool b.cm] 30))
  have Y0 := Lib.hid (Box.new1 w (.cells #[.int .i64 a.k, .int .i64 a.tc, .int .i64 a.tn, .int .i64 a.tt, .int .i64 a.tk, .int .i64 a.sh, va, vb, .bool a.cm] 30) b ua ub)
  have R0 := Lib.hid ((h.push (.cells #[.int .i64 a.k, .int .i64 a.tc, .int .i64 a.tn, .int .i64 a.tt, .int .i64 a.tk, .int .i64 a.sh, va, vb, .bool a.cm] 30)).push (.cells #[.int .i64 b.k, .int .i64 b.tc, .int .i64 b.tn, .int .i64 b.tt, .int .i64 b.tk, .int .i64 b.sh, ua, ub, .bool b.cm] 30))
  have W0 := Lib.hid ((h'.push (.cells #[.int .i64 a.k, .int .i64 a.tc, .int .i64 a.tn, .int .i64 a.tt, .int .i64 a.tk, .int .i64 a.sh, va, vb, .bool a.cm] 30)).push (.cells #[.int .i64 b.k, .int .i64 b.tc, .int .i64 b.tn, .int .i64 b.tt, .int .i64 b.tk, .int .i64 b.sh, ua, ub, .bool b.cm] 30))
  have S0 := Lib.hid ((g.push (.cells #[.int .i64 a.k, .int .i64 a.tc, .int .i64 a.tn, .int .i64 a.tt, .int .i64 a.tk, .int .i64 a.sh, va, vb, .bool a.cm] 30)).push (.cells #[.int .i64 b.k, .int .i64 b.tc, .int .i64 b.tn, .int .i64 b.tt, .int .i64 b.tk, .int .i64 b.sh, ua, ub, .bool b.cm] 30))
  have V0 := Lib.hid ((g'.push (.cells #[.int .i64 a.k, .int .i64 a.tc, .int .i64 a.tn, .int .i64 a.tt, .int .i64 a.tk, .int .i64 a.sh, va, vb, .bool a.cm] 30)).push (.cells #[.int .i64 b.k, .int .i64 b.tc, .int .i64 b.tn, .int .i64 b.tt, .int .i64 b.tk, .int .i64 b.sh, ua, ub, .bool b.cm] 30))
  have B0 := Lib.hid (below_new (o := .cells #[.int .i64 b.k, .int .i64 b.tc, .int .i64 b.tn, .int .i64 b.tt, .int .i64 b.tk, .int .i64 b.sh, ua, ub, .bool b.cm] 30) (below_new (o := .cells #[.int .i64 a.k, .int .i64 a.tc, .int .i64 a.tn, .int .i64 a.tt, .int .i64 a.tk, .int .i64 a.sh, va, vb, .bool a.cm] 30) (Below.refl w.heap.size w)))
  clear h h' g g'
  by_cases e0 : a.k = 0
  · have HE := Lib.hid (show M.interB a b = false by unfold M.interB; rw [if_pos e0])
    obtain ⟨q1, q2⟩ := eqI e0
    clear e0
    go_enter Tryz.func84, Tryz.ntmps84
    go_wp2
    go_ret
    exact ⟨ret_bool HE.out.symm, B0.out⟩
  · by_cases e1 : b.k = 0
    · have HE := Lib.hid (show M.interB a b = false by unfold M.interB; rw [if_neg e0, if_pos e1])
      obtain ⟨q1, q2⟩ := neI e0
      obtain ⟨q3, q4⟩ := eqI e1
      clear e0 e1
      go_enter Tryz.func84, Tryz.ntmps84
      go_wp2
      go_ret
      exact ⟨ret_bool HE.out.symm, B0.out⟩
    · have HE := Lib.hid (show M.interB a b = (M.eq2 a.tc a.tn b.tc b.tn || M.meetB (M.keysL a) (M.keysL b)) by unfold M.interB; rw [if_neg e0, if_neg e1])
      obtain ⟨q1, q2⟩ := neI e0
      obtain ⟨q3, q4⟩ := neI e1
      clear e0 e1
      have hla := M.keysL_len F
      have hlb := M.keysL_len G
      rcases two (M.eq2 a.tc a.tn b.tc b.tn) with e | e
      · have HF := Lib.hid (show M.interB a b = true by rw [HE.out, e]; rfl)
        go_enter Tryz.func84, Tryz.ntmps84
        go_wp2
        generalize ((w.alloc (.cells #[.int .i64 a.k, .int .i64 a.tc, .int .i64 a.tn, .int .i64 a.tt, .int .i64 a.tk, .int .i64 a.sh, va, vb, .bool a.cm] 30)).alloc (.cells #[.int .i64 b.k, .int .i64 b.tc, .int .i64 b.tn, .int .i64 b.tt, .int .i64 b.tk, .int .i64 b.sh, ua, ub, .bool b.cm] 30)) = w0 at *
        obtain ⟨l0, p0, p1, p2, p3, p4, p5, p6, p7, p8⟩ := X0.out
        obtain ⟨l1, r0, r1, r2, r3, r4, r5, r6, r7, r8⟩ := Y0.out
        go_quiet (fail)
        go_wp2
        go_ret
        exact ⟨ret_bool HF.out.symm, below_drewN B0.out _⟩
      · have HF := Lib.hid (show M.interB a b = M.meetB (M.keysL a) (M.keysL b) by rw [HE.out, e]; rfl)
        go_enter Tryz.func84, Tryz.ntmps84
        go_wp2
        generalize ((w.alloc (.cells #[.int .i64 a.k, .int .i64 a.tc, .int .i64 a.tn, .int .i64 a.tt, .int .i64 a.tk, .int .i64 a.sh, va, vb, .bool a.cm] 30)).alloc (.cells #[.int .i64 b.k, .int .i64 b.tc, .int .i64 b.tn, .int .i64 b.tt, .int .i64 b.tk, .int .i64 b.sh, ua, ub, .bool b.cm] 30)) = w0 at *
        obtain ⟨l0, p0, p1, p2, p3, p4, p5, p6, p7, p8⟩ := X0.out
        obtain ⟨l1, r0, r1, r2, r3, r4, r5, r6, r7, r8⟩ := Y0.out
        have hs0 : w.heap.size ≤ w0.heap.size := B0.out.size
        go_region_with (first
          | (go_at_call 99; ((with_reducible refine (keys_cmd (w := w0.drew) a (R0.out.below (Below.refl _ _).drew) (W0.out.below (Below.refl _ _).drew) F).mono ?_); rintro e w1 ⟨v1, rfl, o1, hb1⟩)
             have hb1 := (Below.refl _ w0).drew.trans hb1
             obtain ⟨A1, k1, rfl⟩ := ownsRow_slice o1
             have O1 := Lib.hid (Made.words o1)
             have D1 := Lib.hid (show Below w0.heap.size w0 w1 from hb1)
             clear o1 hb1
             obtain ⟨j0, s0, s1, s2, s3, s4, s5, s6, s7, s8⟩ := X0.out.on D1.out
             obtain ⟨j1, t0, t1, t2, t3, t4, t5, t6, t7, t8⟩ := Y0.out.on D1.out)
          | (go_at_call 99; ((with_reducible refine (keys_cmd (w := w1) b (S0.out.below D1.out) (V0.out.below D1.out) G).mono ?_); rintro e w2 ⟨v2, rfl, o2, hb2⟩)
             obtain ⟨A2, k2, rfl⟩ := ownsRow_slice o2
             have O2 := Lib.hid (Made.words o2)
             have D2 := Lib.hid hb2
             clear o2 hb2
             obtain ⟨i0, f0, f1, f2, f3, f4, f5, f6, f7, f8⟩ := X0.out.on (D1.out.trans (D2.out.mono D1.out.size))
             obtain ⟨i1, g0, g1, g2, g3, g4, g5, g6, g7, g8⟩ := Y0.out.on (D1.out.trans (D2.out.mono D1.out.size)))
          | (go_at_call 98; refine (meet_any (w := w2) (O1.out.below D2.out) O2.out (by omega) (by omega) (M.keysL_short F) (M.keysL_short G)).mono ?_; rintro e w3 ⟨rfl, hb3⟩
             have D3 := Lib.hid hb3
             clear hb3
             obtain ⟨n0, d0, d1, d2, d3, d4, d5, d6, d7, d8⟩ := X0.out.on (D1.out.trans ((D2.out.trans (D3.out.mono D2.out.size)).mono D1.out.size))
             obtain ⟨n1, u0, u1, u2, u3, u4, u5, u6, u7, u8⟩ := Y0.out.on (D1.out.trans ((D2.out.trans (D3.out.mono D2.out.size)).mono D1.out.size))))
        all_goals
          have DD := Lib.hid (show Below w.heap.size w w3 from below_on (below_on (B0.out.trans (D1.out.mono hs0)) D2.out) D3.out)
          clear D1 D2 D3 O1 O2
          go_wp2
          go_ret
          exact ⟨ret_bool HF.out.symm, DD.out⟩
end Go.Proofs.YtpknkhgkejkpkaaGreat

namespace Go.Proofs.YtpknkhgkejkpkaaGreat
open Go.ChangeShapes Go.WideShapes Go.ChangeAt Go.RowKit

namespace M
end M

end Go.Proofs.YtpknkhgkejkpkaaGreat

namespace Go.Proofs.YtpknkhgkejkpkaaGreat
open Go.ChangeShapes Go.WideShapes Go.ChangeAt Go.RowKit

namespace M
theorem djoin_keys (c : Cmd) : djoin (M.rk c.rs ++ M.wk c.ws) [] = keysL c := by
  rw [djoin_eq]
  unfold keysL
  refine asc_ext (join_asc _ _) (join_asc _ _) (fun x => ?_)
  rw [join_mem, join_mem, List.mem_append]; simp
end M

set_option maxHeartbeats 4000000 in
set_option maxRecDepth 100000 in
theorem dkeys_cmd {w : World} (c : M.Cmd) {va vb : Value} (h : Rds w va c.rs) (h' : Wrs w vb c.ws) (F : M.Mod c) : Calls Tryz.prog 46 #[.agg #[.int .i64 c.k, .int .i64 c.tc, .int .i64 c.tn, .int .i64 c.tt, .int .i64 c.tk, .int .i64 c.sh, va, vb, .bool c.cm]] w (Made (M.keysL c) w) := by
  obtain ⟨i0, hi, hz0, hz1, hz2⟩ := info_parts info9
  have hl := F.r
  have hl' := F.w
  have X0 := Lib.hid (Box.new w c va vb)
  have R0 := Lib.hid (h.push (.cells #[.int .i64 c.k, .int .i64 c.tc, .int .i64 c.tn, .int .i64 c.tt, .int .i64 c.tk, .int .i64 c.sh, va, vb, .bool c.cm] 30))
  have W0 := Lib.hid (h'.push (.cells #[.int .i64 c.k, .int .i64 c.tc, .int .i64 c.tn, .int .i64 c.tt, .int .i64 c.tk, .int .i64 c.sh, va, vb, .bool c.cm] 30))
  have B0 := Lib.hid (below_new (o := .cells #[.int .i64 c.k, .int .i64 c.tc, .int .i64 c.tn, .int .i64 c.tt, .int .i64 c.tk, .int .i64 c.sh, va, vb, .bool c.cm] 30) (Below.refl w.heap.size w))
  have DJ := Lib.hid (M.djoin_keys c)
  obtain ⟨A1, c1, rfl, g1, -⟩ := h.opened
  obtain ⟨A2, c2, rfl, g2, -⟩ := h'.opened
  clear h h'
  go_enter Tryz.func46, Tryz.ntmps46
  go_wp2
  generalize (w.alloc (.cells #[.int .i64 c.k, .int .i64 c.tc, .int .i64 c.tn, .int .i64 c.tt, .int .i64 c.tk, .int .i64 c.sh, .slice A1 c.rs.length c1, .slice A2 c.ws.length c2, .bool c.cm] 30)) = w0 at *
  have sz0 : w.heap.size ≤ w0.heap.size := B0.out.size
  go_loopw [3, 4] (fun x i wr => ∃ k : Nat, k ≤ c.rs.length ∧ i = .int .i64 k ∧ wr.ownsRow w0.heap.size 9 1 x k ((M.rk (c.rs.take k)).map encStr) ∧ Below w0.heap.size w0 wr) (fun _ i _ => c.rs.length - (intOf i).toNat)
  case atStart => exact ⟨0, Nat.zero_le _, rfl, World.ownsRow_nil _ _ _ _, Below.refl _ _⟩
  case round =>
    obtain ⟨k, hk, rfl, hrow, hbw⟩ := hrel
    have hbz := hbw.size
    obtain ⟨l0, p0, p1, p2, p3, p4, p5, p6, p7, p8⟩ := X0.out.on hbw
    by_cases hlt : k < c.rs.length
    · obtain ⟨A1x, c1x, ea, -, hx⟩ := R0.out.opened
      simp only [Value.slice.injEq, true_and] at ea
      obtain ⟨rfl, rfl⟩ := ea
      obtain ⟨b, o, rfl, hb, hy⟩ := hx (by omega)
      obtain ⟨z1, z2, z3⟩ := (hy k hlt).below hbw hb
      have HN := Lib.hid (M.rk_take hlt)
      clear hy hx z2 z3
      generalize (c.rs.getD k rd0).1 = x at *
      have HO := Lib.hid hrow
      have HB := Lib.hid hbw
      clear hrow hbw
      have hi1 : (k : Int) < (c.rs.length : Int) := by omega
      go_wp2_with (at_builtin; refine wpList_append_own _ rfl _ _ 86 rfl w0.heap.size 9 i0 (.string ⟨#[]⟩) 1 16 Tryz.underlying86 hi hz0 hz1 hz2 rfl (by decide) _ _ _ rfl (HO.out.alloc _) ⟨wr.heap.size, 0, none⟩ 1 1 [.string ⟨x.toArray⟩] rfl rfl (cell_one_new _ _ _) (one_str [x]) (by unfold maxLen; omega) (by omega) (by simp; omega) ?_; intro v' w3 hown3 hgrow3 hnil3)
      have O3 := Lib.hid hown3
      have B3 := Lib.hid ((HB.out.alloc (by omega) _).grown hgrow3 (by simp; omega) (fun i hi => (HO.out.lt i hi).1))
      clear hown3 hgrow3 hnil3
      go_wp2
      go_roundw
      case rel => exact ⟨k + 1, by omega, by go_num, by rw [HN.out]; simpa using O3.out, B3.out⟩
      case measure => simp [intOf]; omega
    · obtain rfl : k = c.rs.length := by omega
      rw [List.take_length] at hrow
      have HO := Lib.hid hrow
      have HB := Lib.hid hbw
      clear hrow hbw
      go_wp2
      clear l0 p0 p1 p2 p3 p4 p5 p6 p7 p8
      obtain ⟨w1, hw1⟩ : ∃ w1 : World, w1 = wr := ⟨_, rfl⟩
      go_loopw [3, 5] (fun x i wr => ∃ k : Nat, k ≤ c.ws.length ∧ i = .int .i64 k ∧ wr.ownsRow w0.heap.size 9 1 x (c.rs.length + k) ((M.rk c.rs ++ M.wk (c.ws.take k)).map encStr) ∧ Below w0.heap.size w0 wr) (fun _ i _ => c.ws.length - (intOf i).toNat)
      case atStart => exact ⟨0, Nat.zero_le _, rfl, by simpa [M.wk] using HO.out, HB.out⟩
      case round =>
        clear HO HB hw1
        obtain ⟨k, hk, rfl, hrow, hbw⟩ := hrel
        have hbz := hbw.size
        obtain ⟨l0, p0, p1, p2, p3, p4, p5, p6, p7, p8⟩ := X0.out.on hbw
        by_cases hlt : k < c.ws.length
        · obtain ⟨A1x, c1x, ea, -, hx⟩ := W0.out.opened
          simp only [Value.slice.injEq, true_and] at ea
          obtain ⟨rfl, rfl⟩ := ea
          obtain ⟨b, o, rfl, hb, hy⟩ := hx (by omega)
          obtain ⟨z1, z2⟩ := (hy k hlt).below hbw hb
          have HN := Lib.hid (M.wk_take hlt)
          clear hy hx z2
          generalize (c.ws.getD k wr0).1 = x at *
          have HO := Lib.hid hrow
          have HB := Lib.hid hbw
          clear hrow hbw
          have hi1 : (k : Int) < (c.ws.length : Int) := by omega
          go_wp2_with (at_builtin; refine wpList_append_own _ rfl _ _ 86 rfl w0.heap.size 9 i0 (.string ⟨#[]⟩) 1 16 Tryz.underlying86 hi hz0 hz1 hz2 rfl (by decide) _ _ _ rfl (HO.out.alloc _) ⟨wr.heap.size, 0, none⟩ 1 1 [.string ⟨x.toArray⟩] rfl rfl (cell_one_new _ _ _) (one_str [x]) (by unfold maxLen; omega) (by omega) (by simp; omega) ?_; intro v' w3 hown3 hgrow3 hnil3)
          have O3 := Lib.hid hown3
          have B3 := Lib.hid ((HB.out.alloc (by omega) _).grown hgrow3 (by simp; omega) (fun i hi => (HO.out.lt i hi).1))
          clear hown3 hgrow3 hnil3
          go_wp2
          go_roundw
          case rel => exact ⟨k + 1, by omega, by go_num, by rw [HN.out]; simpa [Nat.add_assoc] using O3.out, B3.out⟩
          case measure => simp [intOf]; omega
        · obtain rfl : k = c.ws.length := by omega
          rw [List.take_length] at hrow
          have hlen : (M.rk c.rs ++ M.wk c.ws).length = c.rs.length + c.ws.length := by rw [List.length_append, M.rk_len, M.wk_len]
          have HW := Lib.hid (show Words wr _ (M.rk c.rs ++ M.wk c.ws) from Made.words (by rw [hlen]; exact hrow))
          have HB := Lib.hid (below_on B0.out hbw)
          have HL := Lib.hid (show (M.rk c.rs ++ M.wk c.ws).length ≤ 400 by rw [hlen]; omega)
          have HS := Lib.hid (show ∀ x ∈ M.rk c.rs ++ M.wk c.ws, x.length ≤ 1000 from fun x hx => by
            rcases List.mem_append.1 hx with hx | hx
            · exact F.rks x hx
            · exact F.wks x hx)
          have HJ := djoin_any (u := .slice none 0 0) (ts := []) HW.out ⟨none, 0, rfl, Nat.le_refl _, fun h => absurd h (by simp)⟩ HL.out (by simp) HS.out (by simp)
          rw [DJ.out] at HJ
          have HK := Lib.hid HJ
          have s9 : w.heap.size ≤ wr.heap.size := by omega
          clear HJ hlen hrow hbw
          go_wp2_with (fail)
          refine HK.out.mono ?_
          rintro e w2 ⟨v2, rfl, o2, hb2⟩
          have O2 := Lib.hid (ownsRow_baseN o2 s9)
          have B2 := Lib.hid (below_on HB.out hb2)
          clear o2 hb2
          go_wp2
          go_ret
          exact ⟨_, rfl, O2.out, B2.out⟩
end Go.Proofs.YtpknkhgkejkpkaaGreat
