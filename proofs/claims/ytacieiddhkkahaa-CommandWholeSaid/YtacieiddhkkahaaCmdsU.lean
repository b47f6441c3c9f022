/- Contract of the document's Keys; no conditions but the lengths that it names. -/
import Derived.Test.YtacieiddhkkahaaCmdsJ
import Derived.Test.YtacieiddhkkahaaWalksO
namespace Go.Proofs.Ytacieiddhkkahaa
open Go.ChangeShapes Go.WideShapes Go.ChangeAt Go.RowKit

namespace M
theorem djoin_keys (c : Cmd) : djoin (M.rk c.rs ++ M.wk c.ws) [] = keysL c := by
  rw [djoin_eq]
  unfold keysL
  refine asc_ext (join_asc _ _) (join_asc _ _) (fun x => ?_)
  rw [join_mem, join_mem, List.mem_append]; simp
end M

set_option maxHeartbeats 4000000 in
set_option maxRecDepth 100000 in
theorem dkeys_cmd {w : World} (c : M.Cmd) {va vb : Value} (h : Rds w va c.rs) (h' : Wrs w vb c.ws) (F : M.Mod c) : Calls Try.prog 18 #[.agg #[.int .i64 c.k, .int .i64 c.tc, .int .i64 c.tn, .int .i64 c.tt, .int .i64 c.tk, .int .i64 c.sh, va, vb, .bool c.cm]] w (Made (M.keysL c) w) := by
  obtain ⟨i0, hi, hz0, hz1, hz2⟩ := info_parts info9
  have hl := F.r
  have hl' := F.w
  have X0 := Lib.hid (Box.new w c va vb)
  have R0 := Lib.hid (h.push (.cells #[.int .i64 c.k, .int .i64 c.tc, .int .i64 c.tn, .int .i64 c.tt, .int .i64 c.tk, .int .i64 c.sh, va, vb, .bool c.cm] 29))
  have W0 := Lib.hid (h'.push (.cells #[.int .i64 c.k, .int .i64 c.tc, .int .i64 c.tn, .int .i64 c.tt, .int .i64 c.tk, .int .i64 c.sh, va, vb, .bool c.cm] 29))
  have B0 := Lib.hid (below_new (o := .cells #[.int .i64 c.k, .int .i64 c.tc, .int .i64 c.tn, .int .i64 c.tt, .int .i64 c.tk, .int .i64 c.sh, va, vb, .bool c.cm] 29) (Below.refl w.heap.size w))
  have DJ := Lib.hid (M.djoin_keys c)
  obtain ⟨A1, c1, rfl, g1, -⟩ := h.opened
  obtain ⟨A2, c2, rfl, g2, -⟩ := h'.opened
  clear h h'
  go_enter Try.func18, Try.ntmps18
  go_wp2
  generalize (w.alloc (.cells #[.int .i64 c.k, .int .i64 c.tc, .int .i64 c.tn, .int .i64 c.tt, .int .i64 c.tk, .int .i64 c.sh, .slice A1 c.rs.length c1, .slice A2 c.ws.length c2, .bool c.cm] 29)) = w0 at *
  have sz0 : w.heap.size ≤ w0.heap.size := B0.out.size
  go_loopw [3, 4] (fun x i wr => ∃ k : Nat, k ≤ c.rs.length ∧ i = .int .i64 k ∧ wr.ownsRow w0.heap.size 9 1 x k ((M.rk (c.rs.take k)).map encStr) ∧ Below w0.heap.size w0 wr) (fun _ i _ => c.rs.length - (intOf i).toNat)
  case atStart => exact ⟨0, Nat.zero_le _, rfl, World.ownsRow_nil _ _ _ _, Below.refl _ _⟩
  case round =>
    obtain ⟨k, hk, rfl, hrow, hbw⟩ := hrel
    have hbz := hbw.size
    obtain ⟨l0, p0, p1, p2, p3, p4, p5, p6, p7, p8⟩ := X0.out.on hbw
    by_cases hlt : k < c.rs.length
    · obtain ⟨A1x, c1x, ea, -, hx⟩ := R0.out.opened
      simp only [Value.slice.injEq, true_and] at ea
      obtain ⟨rfl, rfl⟩ := ea
      obtain ⟨b, o, rfl, hb, hy⟩ := hx (by omega)
      obtain ⟨z1, z2, z3⟩ := (hy k hlt).below hbw hb
      have HN := Lib.hid (M.rk_take hlt)
      clear hy hx z2 z3
      generalize (c.rs.getD k rd0).1 = x at *
      have HO := Lib.hid hrow
      have HB := Lib.hid hbw
      clear hrow hbw
      have hi1 : (k : Int) < (c.rs.length : Int) := by omega
      go_wp2_with (at_builtin; refine wpList_append_own _ rfl _ _ 44 rfl w0.heap.size 9 i0 (.string ⟨#[]⟩) 1 16 Try.underlying44 hi hz0 hz1 hz2 rfl (by decide) _ _ _ rfl (HO.out.alloc _) ⟨wr.heap.size, 0, none⟩ 1 1 [.string ⟨x.toArray⟩] rfl rfl (cell_one_new _ _ _) (one_str [x]) (by unfold maxLen; omega) (by omega) (by simp; omega) ?_; intro v' w3 hown3 hgrow3 hnil3)
      have O3 := Lib.hid hown3
      have B3 := Lib.hid ((HB.out.alloc (by omega) _).grown hgrow3 (by simp; omega) (fun i hi => (HO.out.lt i hi).1))
      clear hown3 hgrow3 hnil3
      go_wp2
      go_roundw
      case rel => exact ⟨k + 1, by omega, by go_num, by rw [HN.out]; simpa using O3.out, B3.out⟩
      case measure => simp [intOf]; omega
    · obtain rfl : k = c.rs.length := by omega
      rw [List.take_length] at hrow
      have HO := Lib.hid hrow
      have HB := Lib.hid hbw
      clear hrow hbw
      go_wp2
      clear l0 p0 p1 p2 p3 p4 p5 p6 p7 p8
      obtain ⟨w1, hw1⟩ : ∃ w1 : World, w1 = wr := ⟨_, rfl⟩
      go_loopw [3, 5] (fun x i wr => ∃ k : Nat, k ≤ c.ws.length ∧ i = .int .i64 k ∧ wr.ownsRow w0.heap.size 9 1 x (c.rs.length + k) ((M.rk c.rs ++ M.wk (c.ws.take k)).map encStr) ∧ Below w0.heap.size w0 wr) (fun _ i _ => c.ws.length - (intOf i).toNat)
      case atStart => exact ⟨0, Nat.zero_le _, rfl, by simpa [M.wk] using HO.out, HB.out⟩
      case round =>
        clear HO HB hw1
        obtain ⟨k, hk, rfl, hrow, hbw⟩ := hrel
        have hbz := hbw.size
        obtain ⟨l0, p0, p1, p2, p3, p4, p5, p6, p7, p8⟩ := X0.out.on hbw
        by_cases hlt : k < c.ws.length
        · obtain ⟨A1x, c1x, ea, -, hx⟩ := W0.out.opened
          simp only [Value.slice.injEq, true_and] at ea
          obtain ⟨rfl, rfl⟩ := ea
          obtain ⟨b, o, rfl, hb, hy⟩ := hx (by omega)
          obtain ⟨z1, z2⟩ := (hy k hlt).below hbw hb
          have HN := Lib.hid (M.wk_take hlt)
          clear hy hx z2
          generalize (c.ws.getD k wr0).1 = x at *
          have HO := Lib.hid hrow
          have HB := Lib.hid hbw
          clear hrow hbw
          have hi1 : (k : Int) < (c.ws.length : Int) := by omega
          go_wp2_with (at_builtin; refine wpList_append_own _ rfl _ _ 44 rfl w0.heap.size 9 i0 (.string ⟨#[]⟩) 1 16 Try.underlying44 hi hz0 hz1 hz2 rfl (by decide) _ _ _ rfl (HO.out.alloc _) ⟨wr.heap.size, 0, none⟩ 1 1 [.string ⟨x.toArray⟩] rfl rfl (cell_one_new _ _ _) (one_str [x]) (by unfold maxLen; omega) (by omega) (by simp; omega) ?_; intro v' w3 hown3 hgrow3 hnil3)
          have O3 := Lib.hid hown3
          have B3 := Lib.hid ((HB.out.alloc (by omega) _).grown hgrow3 (by simp; omega) (fun i hi => (HO.out.lt i hi).1))
          clear hown3 hgrow3 hnil3
          go_wp2
          go_roundw
          case rel => exact ⟨k + 1, by omega, by go_num, by rw [HN.out]; simpa [Nat.add_assoc] using O3.out, B3.out⟩
          case measure => simp [intOf]; omega
        · obtain rfl : k = c.ws.length := by omega
          rw [List.take_length] at hrow
          have hlen : (M.rk c.rs ++ M.wk c.ws).length = c.rs.length + c.ws.length := by rw [List.length_append, M.rk_len, M.wk_len]
          have HW := Lib.hid (show Words wr _ (M.rk c.rs ++ M.wk c.ws) from Made.words (by rw [hlen]; exact hrow))
          have HB := Lib.hid (below_on B0.out hbw)
          have HL := Lib.hid (show (M.rk c.rs ++ M.wk c.ws).length ≤ 400 by rw [hlen]; omega)
          have HS := Lib.hid (show ∀ x ∈ M.rk c.rs ++ M.wk c.ws, x.length ≤ 1000 from fun x hx => by
            rcases List.mem_append.1 hx with hx | hx
            · exact F.rks x hx
            · exact F.wks x hx)
          have HJ := djoin_any (u := .slice none 0 0) (ts := []) HW.out ⟨none, 0, rfl, Nat.le_refl _, fun h => absurd h (by simp)⟩ HL.out (by simp) HS.out (by simp)
          rw [DJ.out] at HJ
          have HK := Lib.hid HJ
          have s9 : w.heap.size ≤ wr.heap.size := by omega
          clear HJ hlen hrow hbw
          go_wp2_with (fail)
          refine HK.out.mono ?_
          rintro e w2 ⟨v2, rfl, o2, hb2⟩
          have O2 := Lib.hid (ownsRow_baseN o2 s9)
          have B2 := Lib.hid (below_on HB.out hb2)
          clear o2 hb2
          go_wp2
          go_ret
          exact ⟨_, rfl, O2.out, B2.out⟩
end Go.Proofs.Ytacieiddhkkahaa
