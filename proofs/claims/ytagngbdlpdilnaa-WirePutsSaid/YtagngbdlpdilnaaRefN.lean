/- Contracts of the document's number, numbers and text; no conditions but the lengths that they name. -/
import Derived.Test.YtagngbdlpdilnaaSmall
namespace Go.Proofs.Ytagngbdlpdilnaa
open Go.RowKit

theorem Own.lit (w : World) (cs : List UInt8) (h : cs.length ≤ 1000) : Own (w.alloc (.cells (cs.map enc8).toArray 5)) w.heap.size (.slice (some ⟨w.heap.size, 0, none⟩) cs.length cs.length) cs :=
  ⟨by simp, .inr ⟨w.heap.size, cs.length, _, rfl, Nat.le_refl _, heap_alloc_new w _, Nat.le_refl _, by unfold maxLen; omega, by simp, by rw [Nat.mul_one, List.take_of_length_le (by simp)]⟩⟩
theorem Own.one (w : World) (n : Nat) (h : n < 256) : Own (w.alloc (.cells #[.int .u8 (n : Int)] 5)) w.heap.size (.slice (some ⟨w.heap.size, 0, none⟩) 1 1) [UInt8.ofNat n] := by
  have := Own.lit w [UInt8.ofNat n] (by simp)
  simp only [List.map_cons, List.map_nil, byte_of n h] at this
  exact this
theorem Own.on {w w' : World} {base : Nat} {v : Value} {xs : List UInt8} (h : Own w base v xs) (hb : Below w.heap.size w w') : Own w' base v xs := by
  refine ⟨h.1, ?_⟩
  rcases h.2 with h0 | ⟨g, cap, cur, hv, hg, hblk, r⟩
  · exact .inl h0
  · exact .inr ⟨g, cap, cur, hv, hg, (hb.block g (Array.getElem?_eq_some_iff.1 hblk).1).trans hblk, r⟩
theorem Ints.below {w w' : World} {u : Value} {b : Nat} {ns : List Nat} (h : Ints w u b ns) (k : Below w.heap.size w w') : Ints w' u b ns := by
  obtain ⟨o, c, e, hc, hb, hx⟩ := h
  exact ⟨o, c, e, hc, Nat.lt_of_lt_of_le hb k.size, fun j hj => (k.cell (p := ⟨b, o + j, none⟩) hb).trans (hx j hj)⟩
/-- append(own, others...), both new since w. -/
theorem append_new {w w1 : World} {v u : Value} {xs new : List UInt8} (hown : Own w1 w.heap.size v xs) (hb : Below w.heap.size w w1) (hu : Bts w1 u new) (hl : xs.length + new.length ≤ 1000000) :
    ∃ v' w', (Builtin.append_ #[46, 46] 46 #[v, u]).run Try.prog w1 = .ok v' w' ∧ Own w' w.heap.size v' (xs ++ new) ∧ Below w.heap.size w w' := by
  obtain ⟨v', w', hr, ho, he⟩ := append_bts hown hu hl hb.size
  exact ⟨v', w', hr, ho, he.below hb hb.size (fun k e => (hown.lt e).1)⟩

set_option maxHeartbeats 2000000 in
set_option maxRecDepth 100000 in
theorem refNumber_any : ∀ (f n : Nat) (w : World), f ≤ 6 → n < 128 ^ (f + 1) → Calls Try.prog 52 #[.int .i64 (n : Int)] w (Made8 (M.numF f n) w) := by
  intro f
  induction f with
  | zero =>
    intro n w _ hn
    have hn2 : n < 128 := by simpa using hn
    have hm : (n : Int) % 256 = (n : Int) := by omega
    have HO := Lib.hid (Own.one w n (by omega))
    have HT := Lib.hid (M.numF_small (f := 0) hn2)
    clear hn
    go_enter Try.func52, Try.ntmps52
    go_wp2
    go_ret
    exact ⟨_, rfl, by rw [HT.out]; exact HO.out, below_new (Below.refl _ _)⟩
  | succ f ih =>
    intro n w hf hn
    by_cases hn2 : n < 128
    · have hm : (n : Int) % 256 = (n : Int) := by omega
      have HO := Lib.hid (Own.one w n (by omega))
      have HT := Lib.hid (M.numF_small (f := f + 1) hn2)
      clear hn
      go_enter Try.func52, Try.ntmps52
      go_wp2
      go_ret
      exact ⟨_, rfl, by rw [HT.out]; exact HO.out, below_new (Below.refl _ _)⟩
    · have hbig : n ≤ 562949953421311 := by
        have : 128 ^ (f + 1 + 1) ≤ 128 ^ 7 := Nat.pow_le_pow_right (by omega) (by omega)
        omega
      have IH := Lib.hid (show ∀ w, Calls Try.prog 52 #[.int .i64 ((n : Int) / 128)] w (Made8 (M.numF f (n / 128)) w) from fun w => by
        rw [show ((n : Int) / 128) = ((n / 128 : Nat) : Int) by omega]
        exact ih (n / 128) w (by omega) (by rw [Nat.pow_succ] at hn; omega))
      have HO := Lib.hid (show Own (w.alloc (.cells #[.int .u8 ((n : Int) % 128 + 128)] 5)) w.heap.size (.slice (some ⟨w.heap.size, 0, none⟩) 1 1) [UInt8.ofNat (n % 128 + 128)] by
        rw [show ((n : Int) % 128 + 128) = ((n % 128 + 128 : Nat) : Int) by omega]
        exact Own.one w (n % 128 + 128) (by omega))
      have HT := Lib.hid (M.numF_step (f := f) (n := n) (by omega))
      have hl := M.numF_len f (n / 128)
      clear ih hn
      go_enter Try.func52, Try.ntmps52
      go_wp2_with
        (first
         | (go_at_call 52
            refine (IH.out _).mono ?_
            rintro e w1 ⟨v1, rfl, ho1, hb1⟩
            obtain ⟨v2, w2, hr, ho2, hb2⟩ := append_new (HO.out.on hb1) (below_on (below_new (Below.refl _ _)) hb1) ho1.bts (by simp; omega)
            have O2 := Lib.hid ho2
            have B2 := Lib.hid hb2
            clear ho1 hb1 ho2 hb2)
         | (at_builtin; refine Lib.wpList_append_run _ rfl _ _ _ _ rfl _ _ rfl rfl _ _ hr ?_))
      go_ret
      exact ⟨_, rfl, by rw [HT.out]; exact O2.out, B2.out⟩

set_option maxHeartbeats 2000000 in
set_option maxRecDepth 100000 in
theorem refNumbers_any {w : World} {u : Value} {b : Nat} {ns : List Nat} (hu : Ints w u b ns) (hn : ∀ n ∈ ns, n < 128 ^ 7) (hl : ns.length ≤ 1000) : Calls Try.prog 50 #[u] w (Made8 (M.nums ns) w) := by
  have HU := Lib.hid hu
  obtain ⟨o, c, rfl, hc, hb, hx⟩ := hu
  have HX := Lib.hid hx
  have HN := Lib.hid hn
  clear hx hn
  go_enter Try.func50, Try.ntmps50
  go_wp2
  go_loopw [3, 4] (fun y i wr => ∃ k : Nat, k ≤ ns.length ∧ i = .int .i64 k ∧ Own wr w.heap.size y (M.nums (ns.take k)) ∧ Below w.heap.size w wr) (fun _ i _ => ns.length - (intOf i).toNat)
  case atStart => exact ⟨0, Nat.zero_le _, rfl, Own.nil _ _, Below.refl _ _⟩
  case round =>
    obtain ⟨k, hk, rfl, hrow, hbw⟩ := hrel
    have HR := Lib.hid hrow
    have HB := Lib.hid hbw
    have hln := M.nums_len (ns.take k)
    rw [List.length_take] at hln
    by_cases hlt : k < ns.length
    · have hc1 := (hbw.cell (p := ⟨b, o + k, none⟩) hb).trans (HX.out k hlt)
      have HM := Lib.hid (M.nums_take hlt)
      have hnk := HN.out (ns.getD k 0) (by rw [List.getD, List.getElem?_eq_getElem hlt]; exact List.getElem_mem hlt)
      clear hrow hbw
      generalize ns.getD k 0 = m at *
      have hm7 := M.num_len m
      have HC := Lib.hid (fun w => refNumber_any 6 m w (by omega) hnk)
      clear hnk
      go_wp2_with
        (first
         | (go_at_call 52
            refine (HC.out _).mono ?_
            rintro e w1 ⟨v1, rfl, ho1, hb1⟩
            obtain ⟨v2, w2, hr, ho2, hb2⟩ := append_new (HR.out.on hb1) (below_on HB.out hb1) ho1.bts (by show _ + (M.num m).length ≤ _; omega)
            have O2 := Lib.hid ho2
            have B2 := Lib.hid hb2
            clear ho1 hb1 ho2 hb2)
         | (at_builtin; refine Lib.wpList_append_run _ rfl _ _ _ _ rfl _ _ rfl rfl _ _ hr ?_))
      go_roundw
      case rel => exact ⟨k + 1, by omega, by go_num, by rw [HM.out]; exact O2.out, B2.out⟩
      case measure => simp [intOf]; omega
    · obtain rfl : k = ns.length := by omega
      rw [List.take_length] at HR
      clear hrow hbw
      go_wp2
      go_ret
      exact ⟨_, rfl, HR.out, HB.out⟩

theorem byteRow_bts (w : World) (t : List UInt8) (c : Nat) (fr : Nat × Nat) (hc : t.length ≤ c) : Bts (w.drew.alloc (.cells (bytesRow ⟨t.toArray⟩ c) 5 fr)) (.slice (some ⟨w.heap.size, 0, none⟩) t.length c) t := by
  refine ⟨some ⟨w.heap.size, 0, none⟩, c, by simp, by simpa using hc, fun _ => ⟨w.heap.size, 0, rfl, by simp, fun k x hk => ?_⟩⟩
  rw [List.getElem?_map, Option.map_eq_some_iff] at hk
  obtain ⟨y, hy, rfl⟩ := hk
  have hkl : k < t.length := (List.getElem?_eq_some_iff.1 hy).1
  simp only [Nat.zero_add]
  have : (w.drew.alloc (.cells (bytesRow ⟨t.toArray⟩ c) 5 fr)).heap[w.heap.size]? = some (.cells (bytesRow ⟨t.toArray⟩ c) 5 fr) := heap_alloc_new w.drew _
  simp only [World.cell?, this, Option.isSome_none, Bool.false_eq_true, if_false]
  unfold bytesRow
  rw [Array.getElem?_append_left (by simpa using hkl)]
  simp [hy, enc8]

set_option maxHeartbeats 2000000 in
set_option maxRecDepth 100000 in
theorem refText_any {w : World} (t : List UInt8) (hl : t.length ≤ 1000) : Calls Try.prog 51 #[.string ⟨t.toArray⟩] w (Made8 (M.txt t) w) := by
  have hsz : (⟨t.toArray⟩ : ByteArray).size = t.length := by simp [ByteArray.size]
  have hl7 := M.num_len t.length
  have HC := Lib.hid (fun w => refNumber_any 6 t.length w (by omega) (by omega))
  have hcv := fun w => run_bytes_of_string (P := Try.prog) w 9 46 5 ⟨t.toArray⟩ Try.underlying9 Try.underlying46 Try.underlying5
  have hge := fun w => grownCap_ge w t.length 0 5
  have HB := Lib.hid (fun w fr => byteRow_bts w t (grownCap w t.length 0 5) fr (hge w))
  rw [hsz] at hcv
  obtain ⟨s, hS⟩ : ∃ s : ByteArray, s = ⟨t.toArray⟩ := ⟨_, rfl⟩
  rw [← hS] at hcv HB hsz ⊢
  have HS := Lib.hid hS
  have HT := Lib.hid (show M.num t.length ++ t = M.txt t from rfl)
  clear hS hge
  rw [← hsz] at HC HB HT hl7 hl hcv
  have HZ := Lib.hid hsz
  clear hsz
  go_enter Try.func51, Try.ntmps51
  go_wp2_with
    (first
     | (go_at_call 52
        refine (HC.out _).mono ?_
        rintro e w1 ⟨v1, rfl, ho1, hb1⟩
        have hb2 := below_new (o := .cells (bytesRow s (grownCap w1 s.size 0 5)) 5 ((bytesRow s (grownCap w1 s.size 0 5)).size, (bytesRow s (grownCap w1 s.size 0 5)).size + 1)) ((Below.refl w1.heap.size w1).drew)
        obtain ⟨v2, w2, hr, ho2, hb3⟩ := append_new (ho1.on hb2) (below_on hb1 hb2) (HB.out w1 _) (by show (M.num s.size).length + _ ≤ _; have := HZ.out; omega)
        have O2 := Lib.hid ho2
        have B2 := Lib.hid hb3
        clear ho1 hb1 hb2 ho2 hb3)
     | (at_builtin; refine Lib.wpList_append_run _ rfl _ _ _ _ rfl _ _ rfl rfl _ _ hr ?_))
  go_ret
  exact ⟨_, rfl, by rw [← HT.out]; exact O2.out, B2.out⟩
end Go.Proofs.Ytagngbdlpdilnaa
