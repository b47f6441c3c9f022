/- Contract of putNumbers; no conditions but the lengths that it names. -/
import Derived.Test.YtagngbdlpdilnaaByt
import Derived.Deep.LoopGhost
namespace Go.Proofs.Ytagngbdlpdilnaa
open Go.RowKit

theorem enc_snoc (xs : List UInt8) (n : Nat) (h : n < 256) : (xs ++ [UInt8.ofNat n]).map enc8 = xs.map enc8 ++ [.int .u8 (n : Int)] := by
  rw [List.map_append, List.map_cons, List.map_nil, byte_of n h]
theorem Own.snoc {w : World} {base : Nat} {v : Value} {xs : List UInt8} {n : Nat} (hn : n < 256) (h : w.ownsRow base 5 1 v (xs.length + 1) (xs.map enc8 ++ [.int .u8 (n : Int)])) : Own w base v (xs ++ [UInt8.ofNat n]) := by
  unfold Own; rw [enc_snoc xs n hn, List.length_append]; exact h

set_option maxHeartbeats 2000000 in
set_option maxRecDepth 100000 in
theorem putNumbers_any {w : World} {base b : Nat} {v u : Value} {xs : List UInt8} {ns : List Nat} (hown : Own w base v xs) (hbase : base ≤ w.heap.size) (hu : Ints w u b ns) (hoff : Off v b) (hn : ∀ n ∈ ns, n < 128 ^ 7) (hl : xs.length ≤ 100000) (hl' : ns.length ≤ 1000) :
    Calls Try.prog 93 #[v, u] w (Put w base v (xs ++ M.nums ns)) := by
  obtain ⟨i0, hi, hz0, hz1, hz2⟩ := info_parts info5
  obtain ⟨o, c, rfl, hc, hb, hx⟩ := hu
  have HX := Lib.hid hx
  have HN := Lib.hid hn
  have HO := Lib.hid hown
  have HF := Lib.hid hoff
  have hll := M.nums_len ns
  obtain ⟨A0, c0, hv0, -⟩ := hown.slice
  have HV := Lib.hid hv0
  clear hx hn hown hoff hv0
  go_enter Try.func93, Try.ntmps93
  go_wp2
  go_loopw [0, 9] (fun y i wr => ∃ k : Nat, k ≤ ns.length ∧ i = .int .i64 k ∧ Own wr base y (xs ++ M.nums (ns.take k)) ∧ Ext w wr v y) (fun _ i _ => ns.length - (intOf i).toNat)
  case atStart => exact ⟨0, Nat.zero_le _, rfl, by simpa [M.nums] using HO.out, Ext.refl _ _⟩
  case round =>
    obtain ⟨k, hk, rfl, hrow, hext⟩ := hrel
    by_cases hlt : k < ns.length
    · have hc1 := (hext.grow.cell (HX.out k hlt) (fun e => HF.out e.symm))
      have HM := Lib.hid (M.nums_take hlt)
      have hnk := HN.out (ns.getD k 0) (by rw [List.getD, List.getElem?_eq_getElem hlt]; exact List.getElem_mem hlt)
      have hlen : (xs ++ M.nums (ns.take k)).length ≤ 107000 := by
        have := M.nums_len (ns.take k); rw [List.length_append]; rw [List.length_take] at this; omega
      have HR := Lib.hid hrow
      have HE := Lib.hid hext
      clear hrow hext
      generalize ns.getD k 0 = m at *
      obtain ⟨T, hT⟩ : ∃ T, T = xs ++ M.nums (ns.take k) ++ M.num m := ⟨_, rfl⟩
      have HT := Lib.hid hT
      have hm2 : m < 562949953421312 := hnk
      clear hnk hT
      go_wp2
      go_loopw [0, 6] (fun y n wr' => ∃ (f p : Nat) (ys : List UInt8), n = .int .i64 p ∧ p < 128 ^ (f + 1) ∧ p < 562949953421312 ∧ Own wr' base y ys ∧ ys ++ M.numF f p = T ∧ ys.length + f ≤ 107006 ∧ Ext w wr' v y) (fun _ n _ => (intOf n).toNat)
      case atStart => exact ⟨6, m, _, rfl, by omega, hm2, HR.out, HT.out.symm, by omega, HE.out⟩
      case round =>
        obtain ⟨f, p, ys, rfl, hp, hp2, hrow, hys, hyl, hext⟩ := hrel
        have HR2 := Lib.hid hrow
        have HE2 := Lib.hid hext
        have HY := Lib.hid hys
        have hsz := hext.grow.size
        clear hrow hext hys
        by_cases hge : 128 ≤ p
        · obtain ⟨f, rfl⟩ : ∃ g, f = g + 1 := by
            cases f with
            | zero => omega
            | succ g => exact ⟨g, rfl⟩
          have e1 : bits .or .u8 128 ((p : Int) % 256) = ((p % 128 + 128 : Nat) : Int) := by
            have := or128 (p % 256) (by omega)
            rw [show ((p : Int) % 256) = ((p % 256 : Nat) : Int) by omega, this]; omega
          have HQ := Lib.hid (show p % 128 + 128 < 256 by omega)
          have HZ := Lib.hid (show (ys ++ [UInt8.ofNat (p % 128 + 128)]) ++ M.numF f (p / 128) = T by rw [← HY.out, M.numF_step hge]; simp)
          have HP := Lib.hid (show p / 128 < 128 ^ (f + 1) by rw [Nat.pow_succ] at hp; omega)
          clear hp
          generalize p % 128 + 128 = q at *
          go_wp2_with (at_builtin; refine wpList_append_own_at _ rfl _ _ 46 rfl base 5 i0 (.int .u8 0) 1 1 Try.underlying46 hi hz0 hz1 hz2 rfl (by decide) _ _ _ rfl (HR2.out.alloc _) ⟨wr.heap.size, 0, none⟩ 1 1 [.int .u8 (q : Int)] rfl rfl (cell_one_new _ _ _) (by simp [Value.oneCell']) (by unfold maxLen; omega) (by omega) (by simp; omega) ?_; intro v' w3 hown3 hgrow3 hnil3 hat3)
          have O3 := Lib.hid (Own.snoc HQ.out hown3)
          have E3 := Lib.hid ((HE2.out.alloc _).trans (Ext.made hgrow3 hat3))
          clear hown3 hgrow3 hnil3 hat3 e1
          go_wp2
          go_roundw
          case rel => exact ⟨f, p / 128, _, by go_num, HP.out, by omega, O3.out, HZ.out, by simp; omega, E3.out⟩
          case measure => simp [intOf]; omega
        · have hpm : p % 256 = p := by omega
          have hpi : (p : Int) % 256 = (p : Int) := by omega
          have HZ := Lib.hid (show ys ++ [UInt8.ofNat p] = T by rw [← HY.out, M.numF_small (by omega)])
          clear hpm
          go_wp2_with (at_builtin; refine wpList_append_own_at _ rfl _ _ 46 rfl base 5 i0 (.int .u8 0) 1 1 Try.underlying46 hi hz0 hz1 hz2 rfl (by decide) _ _ _ rfl (HR2.out.alloc _) ⟨wr.heap.size, 0, none⟩ 1 1 [.int .u8 (p : Int)] rfl rfl (cell_one_new _ _ _) (by simp [Value.oneCell']) (by unfold maxLen; omega) (by omega) (by simp; omega) ?_; intro v' w3 hown3 hgrow3 hnil3 hat3)
          have O3 := Lib.hid (Own.snoc (show p < 256 by omega) hown3)
          have E3 := Lib.hid ((HE2.out.alloc _).trans (Ext.made hgrow3 hat3))
          clear hown3 hgrow3 hnil3 hat3 hpi
          go_wp2
          go_roundw
          case rel => exact ⟨k + 1, by omega, by go_num, by rw [HM.out, ← List.append_assoc, ← HT.out, ← HZ.out]; exact O3.out, E3.out⟩
          case measure => simp [intOf]; omega
    · obtain rfl : k = ns.length := by omega
      rw [List.take_length] at hrow
      have HR := Lib.hid hrow
      have HE := Lib.hid hext
      clear hrow hext
      go_wp2
      go_ret
      exact ⟨_, rfl, HR.out, HE.out⟩
end Go.Proofs.Ytagngbdlpdilnaa
