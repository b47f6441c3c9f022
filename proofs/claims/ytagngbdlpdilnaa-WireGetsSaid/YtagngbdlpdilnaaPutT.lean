/- Contracts of putText and putBoolean; no conditions but the lengths that they name. -/
import Derived.Test.YtagngbdlpdilnaaPutN
import Derived.Lib.AppendStr
namespace Go.Proofs.Ytagngbdlpdilnaa
open Go.RowKit

namespace M
def numZ (z : Int) : List UInt8 := num z.toNat
def numsZ (l : List Int) : List UInt8 := l.flatMap numZ
/-- A text's bytes. -/
def txt (x : List UInt8) : List UInt8 := num x.length ++ x
def flag (b : Bool) : List UInt8 := if b then [1] else [0]
theorem numsZ_map (l : List Int) : nums (l.map Int.toNat) = numsZ l := by
  unfold nums numsZ; rw [List.flatMap_map]; rfl
theorem numsZ_cons (z : Int) (l : List Int) : numsZ (z :: l) = numZ z ++ numsZ l := rfl
theorem numsZ_nil : numsZ [] = [] := rfl
theorem numsZ_len (l : List Int) : (numsZ l).length ≤ l.length * 7 := by
  rw [← numsZ_map]; have := nums_len (l.map Int.toNat); simpa using this
theorem txt_len (x : List UInt8) : (txt x).length ≤ x.length + 7 := by
  unfold txt; rw [List.length_append]; have := num_len x.length; omega
end M

/-- Numbers in a block, each of which can be encoded. -/
theorem Ints.newZ (w : World) (zs : List Int) (h : ∀ z ∈ zs, 0 ≤ z) : Ints (w.alloc (.cells ((zs.map fun z => Value.int .i64 z).toArray) 3)) (.slice (some ⟨w.heap.size, 0, none⟩) zs.length zs.length) w.heap.size (zs.map Int.toNat) := by
  refine ⟨0, zs.length, by simp, by simp, by simp, fun k hk => ?_⟩
  rw [List.length_map] at hk
  have e : (zs.map Int.toNat).getD k 0 = (zs[k]).toNat := by
    rw [List.getD, List.getElem?_map, List.getElem?_eq_getElem hk]; rfl
  have h0 := h _ (List.getElem_mem hk)
  rw [e, Int.toNat_of_nonneg h0]
  simp [hk]

theorem str_at {w : World} {base : Nat} {v v' : Value} {xs : List Value} {n : Nat} {w' : World} {s : ByteArray} (hown : w.ownsRow base 5 1 v n xs) (hl : n ≤ 1000000) (hs : s.size ≤ 1000000)
    (hr : (Builtin.append_ #[46, 9] 46 #[v, .string s]).run Try.prog w = .ok v' w') : v'.ownBlock = v.ownBlock ∨ v'.ownBlock = some w.heap.size := by
  obtain ⟨i0, hi, hz0, hz1, hz2⟩ := info_parts info5
  have ht : Try.prog.underlying 46 = some (.slice 5) := Try.underlying46
  have hu : Try.prog.underlying 9 = some .string := Try.underlying9
  have hxl : xs.length = n := by simpa using hown.1
  rcases hown.2 with ⟨rfl, rfl⟩ | ⟨g, cap, cur, rfl, hbg, hg, hnc, hcm, hcs, htake⟩
  · by_cases hm : s.size = 0
    · have hf := Lib.run_firstCells_string (P := Try.prog) w 1 s
      rw [hm] at hf
      have e : (Builtin.append_ #[46, 9] 46 #[.slice none 0 0, .string s]).run Try.prog w = .ok (.slice none 0 0) w := by
        simp [Builtin.append_, run_underlying ht, run_underlying hu, sizeOf, typeInfo, hi, hz1, Builtin.lenOf, hm, hf]
      rw [e] at hr
      cases hr
      exact .inl rfl
    · have e := run_append_nil_string (P := Try.prog) w 46 9 46 5 i0 (.int .u8 0) ht hu hi hz0 s (by omega) (by omega) (by rw [hz2]; omega)
      rw [e] at hr
      cases hr
      exact .inr rfl
  · by_cases hroom : n + s.size ≤ cap
    · have hcs' : cur.size = cap := by simpa using hcs
      have e := Lib.run_append_room_string (P := Try.prog) w 46 9 46 5 i0 ht hu hi hz1 g n cap cur hg s hroom (by omega)
      rw [e] at hr
      cases hr
      exact .inl rfl
    · have holds : ∀ j u, xs[j]? = some u → w.cell? ((⟨g, 0, none⟩ : Addr).add j) = some u := hown.cells (g := g) rfl
      have e := Lib.run_append_grow_string (P := Try.prog) w 46 9 46 5 i0 (.int .u8 0) ht hu hi hz0 ⟨g, 0, none⟩ n cap xs (by rw [hz1]; simpa using hxl) holds s (by omega) (by omega) (by rw [hz2]; exact growslice_fits (by omega) (by omega))
      rw [e] at hr
      cases hr
      exact .inr rfl

/-- append(own, text...). -/
theorem append_txt {w : World} {base : Nat} {v : Value} {xs : List UInt8} (t : List UInt8) (hown : Own w base v xs) (hl : xs.length ≤ 500000) (hs : t.length ≤ 500000) (hbase : base ≤ w.heap.size) :
    ∃ v' w', (Builtin.append_ #[46, 9] 46 #[v, .string ⟨t.toArray⟩]).run Try.prog w = .ok v' w' ∧ Own w' base v' (xs ++ t) ∧ Ext w w' v v' := by
  obtain ⟨i0, hi, hz0, hz1, hz2⟩ := info_parts info5
  have hsz : (⟨t.toArray⟩ : ByteArray).size = t.length := by simp [ByteArray.size]
  obtain ⟨v', w', h1, h2, h3, _⟩ := Lib.run_append_own_string (P := Try.prog) w base 46 9 46 5 i0 Try.underlying46 Try.underlying9 hi hz0 hz1 hz2 v xs.length (xs.map enc8) hown ⟨t.toArray⟩ (by rw [hsz]; unfold maxLen; omega) (by rw [hsz]; omega) hbase
  refine ⟨v', w', h1, ?_, Ext.made h3 (str_at hown (by omega) (by rw [hsz]; omega) h1)⟩
  rw [hsz] at h2
  unfold Own
  rw [List.map_append, List.length_append]
  exact h2

set_option maxHeartbeats 1000000 in
theorem putText_any {w : World} {base : Nat} {v : Value} {xs : List UInt8} (t : List UInt8) (hown : Own w base v xs) (hbase : base ≤ w.heap.size) (hl : xs.length ≤ 90000) (hs : t.length ≤ 1000) :
    Calls Try.prog 94 #[v, .string ⟨t.toArray⟩] w (Put w base v (xs ++ M.txt t)) := by
  have hsz : (⟨t.toArray⟩ : ByteArray).size = t.length := by simp [ByteArray.size]
  have HA := Lib.hid (fun (w : World) (v : Value) (xs : List UInt8) (hown : Own w base v xs) (hl : xs.length ≤ 500000) (hb : base ≤ w.heap.size) => append_txt t hown hl (by omega) hb)
  obtain ⟨s, hS⟩ : ∃ s : ByteArray, s = ⟨t.toArray⟩ := ⟨_, rfl⟩
  rw [← hS] at HA hsz ⊢
  have HO := Lib.hid hown
  have HI := Lib.hid (Ints.newZ w [(s.size : Int)] (by simp))
  have HF := Lib.hid (hown.off (Nat.le_refl _))
  have HT := Lib.hid (show xs ++ M.nums ([(s.size : Int)].map Int.toNat) ++ t = xs ++ M.txt t by simp [M.nums, M.txt, hsz])
  have hnl := M.num_len s.size
  have HL := Lib.hid (show (xs ++ M.nums ([(s.size : Int)].map Int.toNat)).length ≤ 500000 by simp [M.nums]; omega)
  have hss : s.size ≤ 1000 := by omega
  clear hown hsz hS hs
  go_enter Try.func94, Try.ntmps94
  go_wp2_with (fail)
  refine (putNumbers_any (HO.out.alloc _) (by simp; omega) HI.out HF.out (by simp; omega) (by omega) (by simp)).mono ?_
  rintro e w1 ⟨v1, rfl, ho1, he1⟩
  have hb1 : base ≤ w1.heap.size := by have := he1.grow.size; simp at this; omega
  obtain ⟨v2, w2, hr, ho2, he2⟩ := HA.out w1 v1 _ ho1 HL.out hb1
  have O2 := Lib.hid ho2
  have E2 := Lib.hid (((Ext.refl _ _).alloc _).trans (he1.trans he2))
  clear ho1 he1 ho2 he2
  go_wp2_with (at_builtin; refine Lib.wpList_append_run _ rfl _ _ _ _ rfl _ _ rfl rfl _ _ hr ?_)
  go_ret
  exact ⟨_, rfl, by rw [← HT.out]; exact O2.out, E2.out⟩

set_option maxHeartbeats 1000000 in
theorem putBoolean_any {w : World} {base : Nat} {v : Value} {xs : List UInt8} (b : Bool) (hown : Own w base v xs) (hbase : base ≤ w.heap.size) (hl : xs.length ≤ 90000) :
    Calls Try.prog 95 #[v, .bool b] w (Put w base v (xs ++ M.flag b)) := by
  obtain ⟨i0, hi, hz0, hz1, hz2⟩ := info_parts info5
  have HO := Lib.hid hown
  clear hown
  rcases two b with rfl | rfl
  · go_enter Try.func95, Try.ntmps95
    go_wp2_with (at_builtin; refine wpList_append_own_at _ rfl _ _ 46 rfl base 5 i0 (.int .u8 0) 1 1 Try.underlying46 hi hz0 hz1 hz2 rfl (by decide) _ _ _ rfl (HO.out.alloc _) ⟨w.heap.size, 0, none⟩ 1 1 [.int .u8 1] rfl rfl (cell_one_new _ _ _) (by simp [Value.oneCell']) (by unfold maxLen; omega) (by omega) (by simp; omega) ?_; intro v' w3 hown3 hgrow3 hnil3 hat3)
    have O3 := Lib.hid (Own.snoc (n := 1) (by omega) hown3)
    have E3 := Lib.hid (((Ext.refl _ _).alloc _).trans (Ext.made hgrow3 hat3))
    clear hown3 hgrow3 hnil3 hat3
    go_wp2
    go_ret
    exact ⟨_, rfl, O3.out, E3.out⟩
  · go_enter Try.func95, Try.ntmps95
    go_wp2_with (at_builtin; refine wpList_append_own_at _ rfl _ _ 46 rfl base 5 i0 (.int .u8 0) 1 1 Try.underlying46 hi hz0 hz1 hz2 rfl (by decide) _ _ _ rfl (HO.out.alloc _) ⟨w.heap.size, 0, none⟩ 1 1 [.int .u8 0] rfl rfl (cell_one_new _ _ _) (by simp [Value.oneCell']) (by unfold maxLen; omega) (by omega) (by simp; omega) ?_; intro v' w3 hown3 hgrow3 hnil3 hat3)
    have O3 := Lib.hid (Own.snoc (n := 0) (by omega) hown3)
    have E3 := Lib.hid (((Ext.refl _ _).alloc _).trans (Ext.made hgrow3 hat3))
    clear hown3 hgrow3 hnil3 hat3
    go_wp2
    go_ret
    exact ⟨_, rfl, O3.out, E3.out⟩
end Go.Proofs.Ytagngbdlpdilnaa
