/- Contracts of readKeys and writeKeys; no conditions but the lengths that they name. -/
import Derived.Test.YtagngbdlpdilnaaCmds
namespace Go.Proofs.Ytagngbdlpdilnaa
open Go.ChangeShapes Go.WideShapes Go.ChangeAt Go.RowKit

namespace M
def rk (l : List (List UInt8 × Int × Int)) : List (List UInt8) := l.map (·.1)
def wk (l : List (List UInt8 × List UInt8)) : List (List UInt8) := l.map (·.1)
theorem rk_take {l : List (List UInt8 × Int × Int)} {k : Nat} (h : k < l.length) : rk (l.take (k + 1)) = rk (l.take k) ++ [(l.getD k rd0).1] := by
  unfold rk; rw [List.take_add_one, List.map_append, List.getD, List.getElem?_eq_getElem h]; rfl
theorem wk_take {l : List (List UInt8 × List UInt8)} {k : Nat} (h : k < l.length) : wk (l.take (k + 1)) = wk (l.take k) ++ [(l.getD k wr0).1] := by
  unfold wk; rw [List.take_add_one, List.map_append, List.getD, List.getElem?_eq_getElem h]; rfl
theorem rk_len (l : List (List UInt8 × Int × Int)) : (rk l).length = l.length := by simp [rk]
theorem wk_len (l : List (List UInt8 × List UInt8)) : (wk l).length = l.length := by simp [wk]
end M

theorem cell_two_new (w : World) (o : Obj) (v : Value) (t : TypeId) : ∀ j u, [v][j]? = some u → ((w.alloc o).alloc (.cells #[v] t)).cell? ((⟨w.heap.size + 1, 0, none⟩ : Addr).add j) = some u := by
  have := cell_one_new (w.alloc o) v t
  simpa using this

set_option maxHeartbeats 2000000 in
set_option maxRecDepth 100000 in
theorem readKeys_any {w : World} {v : Value} {l : List (List UInt8 × Int × Int)} (h : Rds w v l) (hl : l.length ≤ 1000) : Calls Try.prog 111 #[v] w (Made (M.rk l) w) := by
  obtain ⟨i0, hi, hz0, hz1, hz2⟩ := info_parts info9
  obtain ⟨A, c, rfl, hc, hx⟩ := h.opened
  have HX := Lib.hid hx
  clear hx h
  go_enter Try.func111, Try.ntmps111
  go_wp2
  go_loopw [3, 8] (fun x i wr => ∃ k : Nat, k ≤ l.length ∧ i = .int .i64 k ∧ wr.ownsRow w.heap.size 9 1 x k ((M.rk (l.take k)).map encStr) ∧ Below w.heap.size w wr) (fun _ i _ => l.length - (intOf i).toNat)
  case atStart => exact ⟨0, Nat.zero_le _, rfl, World.ownsRow_nil _ _ _ _, Below.refl _ _⟩
  case round =>
    obtain ⟨k, hk, rfl, hrow, hbw⟩ := hrel
    have hbz := hbw.size
    by_cases hlt : k < l.length
    · obtain ⟨b, o, rfl, hb, hy⟩ := HX.out (by omega)
      obtain ⟨z1, z2, z3⟩ := (hy k hlt).below hbw hb
      have HN := Lib.hid (M.rk_take hlt)
      clear hy
      generalize (l.getD k rd0).1 = x at *
      generalize (l.getD k rd0).2.1 = t at *
      generalize (l.getD k rd0).2.2 = u at *
      have HO := Lib.hid hrow
      have HB := Lib.hid hbw
      clear hrow hbw
      go_wp2_with (at_builtin; refine wpList_append_own _ rfl _ _ 87 rfl w.heap.size 9 i0 (.string ⟨#[]⟩) 1 16 Try.underlying87 hi hz0 hz1 hz2 rfl (by decide) _ _ _ rfl ((HO.out.alloc _).alloc _) ⟨wr.heap.size + 1, 0, none⟩ 1 1 [.string ⟨x.toArray⟩] rfl rfl (cell_two_new _ _ _ _) (one_str [x]) (by unfold maxLen; omega) (by omega) (by simp; omega) ?_; intro v' w3 hown3 hgrow3 hnil3)
      have O3 := Lib.hid hown3
      have B3 := Lib.hid (((HB.out.alloc (by omega) _).alloc (by simp; omega) _).grown hgrow3 (by simp; omega) (fun i hi => (HO.out.lt i hi).1))
      clear hown3 hgrow3 hnil3
      go_wp2
      go_roundw
      case rel => exact ⟨k + 1, by omega, by go_num, by rw [HN.out]; simpa using O3.out, B3.out⟩
      case measure => simp [intOf]; omega
    · obtain rfl : k = l.length := by omega
      rw [List.take_length] at hrow
      have HO := Lib.hid hrow
      have HB := Lib.hid hbw
      have HE := Lib.hid (M.rk_len l)
      clear hrow hbw
      go_wp2
      go_ret
      exact ⟨_, rfl, by rw [HE.out]; exact HO.out, HB.out⟩

set_option maxHeartbeats 2000000 in
set_option maxRecDepth 100000 in
theorem writeKeys_any {w : World} {v : Value} {l : List (List UInt8 × List UInt8)} (h : Wrs w v l) (hl : l.length ≤ 1000) : Calls Try.prog 112 #[v] w (Made (M.wk l) w) := by
  obtain ⟨i0, hi, hz0, hz1, hz2⟩ := info_parts info9
  obtain ⟨A, c, rfl, hc, hx⟩ := h.opened
  have HX := Lib.hid hx
  clear hx h
  go_enter Try.func112, Try.ntmps112
  go_wp2
  go_loopw [3, 8] (fun x i wr => ∃ k : Nat, k ≤ l.length ∧ i = .int .i64 k ∧ wr.ownsRow w.heap.size 9 1 x k ((M.wk (l.take k)).map encStr) ∧ Below w.heap.size w wr) (fun _ i _ => l.length - (intOf i).toNat)
  case atStart => exact ⟨0, Nat.zero_le _, rfl, World.ownsRow_nil _ _ _ _, Below.refl _ _⟩
  case round =>
    obtain ⟨k, hk, rfl, hrow, hbw⟩ := hrel
    have hbz := hbw.size
    by_cases hlt : k < l.length
    · obtain ⟨b, o, rfl, hb, hy⟩ := HX.out (by omega)
      obtain ⟨z1, z2⟩ := (hy k hlt).below hbw hb
      have HN := Lib.hid (M.wk_take hlt)
      clear hy
      generalize (l.getD k wr0).1 = x at *
      generalize (l.getD k wr0).2 = t at *
      have HO := Lib.hid hrow
      have HB := Lib.hid hbw
      clear hrow hbw
      go_wp2_with (at_builtin; refine wpList_append_own _ rfl _ _ 87 rfl w.heap.size 9 i0 (.string ⟨#[]⟩) 1 16 Try.underlying87 hi hz0 hz1 hz2 rfl (by decide) _ _ _ rfl ((HO.out.alloc _).alloc _) ⟨wr.heap.size + 1, 0, none⟩ 1 1 [.string ⟨x.toArray⟩] rfl rfl (cell_two_new _ _ _ _) (one_str [x]) (by unfold maxLen; omega) (by omega) (by simp; omega) ?_; intro v' w3 hown3 hgrow3 hnil3)
      have O3 := Lib.hid hown3
      have B3 := Lib.hid (((HB.out.alloc (by omega) _).alloc (by simp; omega) _).grown hgrow3 (by simp; omega) (fun i hi => (HO.out.lt i hi).1))
      clear hown3 hgrow3 hnil3
      go_wp2
      go_roundw
      case rel => exact ⟨k + 1, by omega, by go_num, by rw [HN.out]; simpa using O3.out, B3.out⟩
      case measure => simp [intOf]; omega
    · obtain rfl : k = l.length := by omega
      rw [List.take_length] at hrow
      have HO := Lib.hid hrow
      have HB := Lib.hid hbw
      have HE := Lib.hid (M.wk_len l)
      clear hrow hbw
      go_wp2
      go_ret
      exact ⟨_, rfl, by rw [HE.out]; exact HO.out, HB.out⟩
end Go.Proofs.Ytagngbdlpdilnaa
