/- Contract of Keys; no conditions but the lengths that it names. -/
import Derived.Test.YtacieiddhkkahaaCmdsH
import Derived.Test.YtacieiddhkkahaaWalksM
namespace Go.Proofs.Ytacieiddhkkahaa
open Go.ChangeShapes Go.WideShapes Go.ChangeAt Go.RowKit

namespace M
/-- Few reads and writes, and short. -/
structure Mod (c : Cmd) : Prop where
  r : c.rs.length ≤ 20
  w : c.ws.length ≤ 20
  rk : ∀ r ∈ c.rs, r.1.length ≤ 100
  wk : ∀ r ∈ c.ws, r.1.length ≤ 100
  wv : ∀ r ∈ c.ws, r.2.length ≤ 100
theorem Mod.l {c : Cmd} (h : Mod c) : c.rs.length ≤ 1000 := by have := h.r; omega
theorem Mod.l' {c : Cmd} (h : Mod c) : c.ws.length ≤ 1000 := by have := h.w; omega
theorem Mod.rks {c : Cmd} (h : Mod c) : ∀ x ∈ M.rk c.rs, x.length ≤ 1000 := fun x hx => by
  unfold M.rk at hx
  rw [List.mem_map] at hx
  obtain ⟨r, hr, rfl⟩ := hx
  have := h.rk r hr; omega
theorem Mod.wks {c : Cmd} (h : Mod c) : ∀ x ∈ M.wk c.ws, x.length ≤ 1000 := fun x hx => by
  unfold M.wk at hx
  rw [List.mem_map] at hx
  obtain ⟨r, hr, rfl⟩ := hx
  have := h.wk r hr; omega
def keysL (c : Cmd) : List (List UInt8) := join (M.rk c.rs) (M.wk c.ws)
theorem keysL_len {c : Cmd} (h : Mod c) : (keysL c).length ≤ 40 := by
  have := join_len (M.rk c.rs) (M.wk c.ws)
  rw [rk_len, wk_len] at this
  have := h.r; have := h.w
  unfold keysL; omega
theorem keysL_short {c : Cmd} (h : Mod c) : ∀ x ∈ keysL c, x.length ≤ 1000 := fun x hx => by
  rcases (join_mem _ _ x).1 hx with hx | hx
  · exact h.rks x hx
  · exact h.wks x hx
end M

set_option maxHeartbeats 4000000 in
set_option maxRecDepth 100000 in
theorem keys_cmd {w : World} (c : M.Cmd) {va vb : Value} (h : Rds w va c.rs) (h' : Wrs w vb c.ws) (F : M.Mod c) : Calls Try.prog 24 #[.agg #[.int .i64 c.k, .int .i64 c.tc, .int .i64 c.tn, .int .i64 c.tt, .int .i64 c.tk, .int .i64 c.sh, va, vb, .bool c.cm]] w (Made (M.keysL c) w) := by
  have hl := F.l
  have hl' := F.l'
  have hlk : (M.rk c.rs).length ≤ 1000 := by rw [M.rk_len]; exact hl
  have hlk' : (M.wk c.ws).length ≤ 1000 := by rw [M.wk_len]; exact hl'
  have X0 := Lib.hid (Box.new w c va vb)
  have R0 := Lib.hid (h.push (.cells #[.int .i64 c.k, .int .i64 c.tc, .int .i64 c.tn, .int .i64 c.tt, .int .i64 c.tk, .int .i64 c.sh, va, vb, .bool c.cm] 29))
  have W0 := Lib.hid (h'.push (.cells #[.int .i64 c.k, .int .i64 c.tc, .int .i64 c.tn, .int .i64 c.tt, .int .i64 c.tk, .int .i64 c.sh, va, vb, .bool c.cm] 29))
  have B0 := Lib.hid (below_new (o := .cells #[.int .i64 c.k, .int .i64 c.tc, .int .i64 c.tn, .int .i64 c.tt, .int .i64 c.tk, .int .i64 c.sh, va, vb, .bool c.cm] 29) (Below.refl w.heap.size w))
  clear h h'
  go_enter Try.func24, Try.ntmps24
  go_wp2
  generalize (w.alloc (.cells #[.int .i64 c.k, .int .i64 c.tc, .int .i64 c.tn, .int .i64 c.tt, .int .i64 c.tk, .int .i64 c.sh, va, vb, .bool c.cm] 29)) = w0 at *
  obtain ⟨l0, p0, p1, p2, p3, p4, p5, p6, p7, p8⟩ := X0.out
  have hs0 : w.heap.size ≤ w0.heap.size := B0.out.size
  go_region_with (first
    | (go_at_call 45; refine (readKeys_any (w := w0.drew) (R0.out.below (Below.refl _ _).drew) hl).mono ?_; rintro e w1 ⟨v1, rfl, o1, hb1⟩
       have hb1 := (Below.refl _ w0).drew.trans hb1
       obtain ⟨A1, k1, rfl⟩ := ownsRow_slice o1
       have O1 := Lib.hid (Made.words o1)
       have D1 := Lib.hid hb1
       clear o1 hb1
       have q7 := (D1.out.cell (p := ⟨w.heap.size, 7, none⟩) l0).trans p7)
    | (go_at_call 46; refine (writeKeys_any (w := w1) (W0.out.below D1.out) hl').mono ?_; rintro e w2 ⟨v2, rfl, o2, hb2⟩
       obtain ⟨A2, k2, rfl⟩ := ownsRow_slice o2
       have O2 := Lib.hid (Made.words o2)
       have D2 := Lib.hid hb2
       clear o2 hb2)
    | (go_at_call 44; refine (join_any (w := w2) (O1.out.below D2.out) O2.out hlk hlk' F.rks F.wks).mono ?_; rintro e w3 ⟨v3, rfl, o3, hb3⟩
       have O3 := Lib.hid o3
       have D3 := Lib.hid hb3
       clear o3 hb3))
  all_goals
    have DD := Lib.hid (show Below w.heap.size w w3 from below_on (below_on (B0.out.trans (D1.out.mono hs0)) D2.out) D3.out)
    have O4 := Lib.hid (show w3.ownsRow w.heap.size 9 1 v3 (M.keysL c).length ((M.keysL c).map encStr) from ownsRow_baseN O3.out (Nat.le_trans hs0 (Nat.le_trans D1.out.size D2.out.size)))
    clear O3 D1 D2 D3 O1 O2
    go_wp2
    go_ret
    exact ⟨_, rfl, O4.out, DD.out⟩
end Go.Proofs.Ytacieiddhkkahaa
