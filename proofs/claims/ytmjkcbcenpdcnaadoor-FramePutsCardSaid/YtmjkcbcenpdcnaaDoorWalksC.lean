/- Rows of bytes in one block, appends that fit; contracts of same, own and Size; no conditions but the lengths that they name. -/
import Derived.Test.YtmjkcbcenpdcnaaDoorWalksB
import Derived.OwnWalk
import Derived.Lib.AppendZerosOnto
import Derived.Lib.SliceRun
namespace Go.Proofs.YtmjkcbcenpdcnaaDoor
open Go.RowKit

theorem below_drewN {a w : World} (h : Below a.heap.size a w) (n : Nat) : Below a.heap.size a (w.drewN n) := ⟨h.os, h.tape, h.output, h.size, h.block⟩
theorem info5 : (Tryd.prog.info? 5).map (fun i => (i.zero, i.size, i.bytes)) = some (some (.int .u8 0), 1, 1) := by kernel_rfl
theorem one_enc (xs : List UInt8) : ∀ u ∈ xs.map enc8, u.oneCell' = true := by
  intro u hu
  rw [List.mem_map] at hu
  obtain ⟨x, _, rfl⟩ := hu
  rfl
theorem add_plain' (b o k : Nat) : (⟨b, o, none⟩ : Addr).add k = ⟨b, o + k, none⟩ := Addr.add_lit ..

theorem ownsRow_base {w : World} {base base' : Nat} {t : TypeId} {v : Value} {n : Nat} {xs : List Value} (h : w.ownsRow base t 1 v n xs) (hb : base' ≤ base) : w.ownsRow base' t 1 v n xs := by
  refine ⟨h.1, ?_⟩
  rcases h.2 with h0 | ⟨g, cap, cur, hv, hg, r⟩
  · exact .inl h0
  · exact .inr ⟨g, cap, cur, hv, Nat.le_trans hb hg, r⟩

/-- A block that holds these bytes. -/
def Blk (w : World) (g : Nat) (cs : List UInt8) : Prop := w.heap[g]? = some (.cells (cs.map enc8).toArray 5 (0, 0))
theorem Blk.lt {w : World} {g : Nat} {cs : List UInt8} (h : Blk w g cs) : g < w.heap.size := (Array.getElem?_eq_some_iff.1 h).1
theorem Blk.keep {w w' : World} {B g : Nat} {cs : List UInt8} (h : Blk w g cs) (hb : Below B w w') (hg : g < B) : Blk w' g cs := (hb.block g hg).trans h
theorem Blk.below {w w' : World} {g : Nat} {cs : List UInt8} (h : Blk w g cs) (hb : Below w.heap.size w w') : Blk w' g cs := h.keep hb h.lt
theorem Blk.cell {w : World} {g : Nat} {cs : List UInt8} (h : Blk w g cs) {k : Nat} {x : UInt8} (hk : cs[k]? = some x) : w.cell? ⟨g, k, none⟩ = some (enc8 x) := by
  unfold Blk at h
  simp only [World.cell?, h, Option.isSome_none, Bool.false_eq_true, if_false]
  simp [hk]
theorem Blk.bts {w : World} {g o n c : Nat} {cs xs : List UInt8} (h : Blk w g cs) (hx : xs = (cs.drop o).take n) (hn : o + n ≤ cs.length) (hc : n ≤ c) : Bts w (.slice (some ⟨g, o, none⟩) n c) xs := by
  have hl : xs.length = n := by rw [hx]; simp; omega
  refine ⟨some ⟨g, o, none⟩, c, by simp [hl], by simp [hl]; exact hc, fun _ => ⟨g, o, rfl, h.lt, fun k x hk => ?_⟩⟩
  rw [List.getElem?_map, Option.map_eq_some_iff] at hk
  obtain ⟨y, hy, rfl⟩ := hk
  have hkn : k < n := by have := (List.getElem?_eq_some_iff.1 hy).1; omega
  refine h.cell ?_
  rw [hx, List.getElem?_take_of_lt hkn, List.getElem?_drop] at hy
  exact hy
theorem Blk.owns {w : World} {g n base : Nat} {cs xs : List UInt8} (h : Blk w g cs) (hx : xs = cs.take n) (hn : n ≤ cs.length) (hb : base ≤ g) (hm : cs.length ≤ 100000000) : w.ownsRow base 5 1 (.slice (some ⟨g, 0, none⟩) n cs.length) n (xs.map enc8) := by
  refine ⟨by rw [hx]; simp; omega, .inr ⟨g, cs.length, _, rfl, hb, h, hn, by unfold maxLen; omega, by simp, ?_⟩⟩
  rw [hx]; simp [List.map_take]
theorem Blk.made (w : World) (n : Nat) : Blk (w.alloc (.cells (madeCells #[.int .u8 0] n) 5)) w.heap.size (List.replicate n 0) := by
  unfold Blk
  rw [heap_alloc_new]
  have h := toList_madeCells_one (.int .u8 0) n
  have : madeCells #[.int .u8 0] n = ((List.replicate n (0 : UInt8)).map enc8).toArray := by
    apply Array.toList_inj.1
    rw [h]
    simp [enc8]
  rw [this]

/-- An append that fits in. -/
theorem append_in {w : World} {u : Value} {g k : Nat} {cs new : List UInt8} (h : Blk w g cs) (hu : Bts w u new) (hk : k + new.length ≤ cs.length) :
    ∃ w', (Builtin.append_ #[22, 22] 22 #[.slice (some ⟨g, 0, none⟩) k cs.length, u]).run Tryd.prog w = .ok (.slice (some ⟨g, 0, none⟩) (k + new.length) cs.length) w' ∧ Blk w' g (cs.take k ++ new ++ cs.drop (k + new.length)) ∧ w.grownBy w' (some g) := by
  obtain ⟨i0, hi, hz0, hz1, hz2⟩ := info_parts info5
  have ht : Tryd.prog.underlying 22 = some (.slice 5) := Tryd.underlying22
  obtain ⟨A, c, rfl, hc, hx⟩ := hu
  rw [List.length_map] at hc hx ⊢
  cases A with
  | none =>
    have h0 : new = [] := by
      cases new with
      | nil => rfl
      | cons => obtain ⟨b, o, e, _⟩ := hx (by simp); cases e
    subst h0
    refine ⟨w, ?_, by simpa [Blk] using h, World.grownBy.refl _ _⟩
    have hn : k ≤ cs.length := by simpa using hk
    simp [Builtin.append_, run_underlying ht, sizeOf, typeInfo, hi, Builtin.lenOf, Builtin.firstCells, hn, storeCells]
  | some a =>
    have hr := run_append_room (P := Tryd.prog) w 22 22 5 i0 ht hi g k cs.length (cs.map enc8).toArray h a new.length c (new.map enc8) (by rw [hz1]; simp) (fun j y hj => by
      have hp : 0 < new.length := by have := (List.getElem?_eq_some_iff.1 hj).1; simp at this; omega
      obtain ⟨b, o, e, hb, hy⟩ := hx hp
      cases e
      rw [add_plain']; exact hy j y hj) (one_enc new) hk (by rw [hz1]; simp; omega)
    refine ⟨_, hr, ?_, ⟨rfl, rfl, rfl, by simp, fun j _ hj => setRow_other w g j _ (fun e => hj (by simp [e]))⟩⟩
    unfold Blk
    rw [setRow_heap w g _ _ 5 (0, 0) h, hz1]
    simp [List.map_take, List.map_drop]

/-- append(own, others...), whether it fits or not. -/
theorem append_any {w : World} {base : Nat} {v u : Value} {xs new : List UInt8} (hown : w.ownsRow base 5 1 v xs.length (xs.map enc8)) (hu : Bts w u new) (hl : xs.length + new.length ≤ 1000000) (hbase : base ≤ w.heap.size) :
    ∃ v' w', (Builtin.append_ #[22, 22] 22 #[v, u]).run Tryd.prog w = .ok v' w' ∧ w'.ownsRow base 5 1 v' (xs ++ new).length ((xs ++ new).map enc8) ∧ w.grownBy w' v.ownBlock := by
  obtain ⟨i0, hi, hz0, hz1, hz2⟩ := info_parts info5
  have ht : Tryd.prog.underlying 22 = some (.slice 5) := Tryd.underlying22
  obtain ⟨A, c, rfl, hc, hx⟩ := hu
  rw [List.length_map] at hc hx ⊢
  rw [List.length_append, List.map_append]
  by_cases h0 : new = []
  · subst h0
    cases A with
    | none =>
      refine ⟨v, w, ?_, by simpa using hown, World.grownBy.refl _ _⟩
      rcases hown.2 with ⟨rfl, e⟩ | ⟨g, cap, cur, rfl, _, _, hnc, _⟩
      · simp [Builtin.append_, run_underlying ht, sizeOf, typeInfo, hi, Builtin.lenOf, Builtin.firstCells]
      · simp [Builtin.append_, run_underlying ht, sizeOf, typeInfo, hi, Builtin.lenOf, Builtin.firstCells, hnc, storeCells]
    | some a =>
      obtain ⟨v', w', h1, h2, h3, _⟩ := run_append_own w base 22 22 5 i0 (.int .u8 0) 1 1 ht hi hz0 hz1 hz2 rfl (by decide) v xs.length (xs.map enc8) hown a 0 c [] rfl (by simp) (by simp) (by simp at hl; unfold maxLen; omega) (by simp at hl; omega) hbase
      exact ⟨v', w', h1, by simpa using h2, h3⟩
  · have hp : 0 < new.length := by cases new with | nil => exact absurd rfl h0 | cons => simp
    obtain ⟨b, o, rfl, hb, hy⟩ := hx hp
    obtain ⟨v', w', h1, h2, h3, _⟩ := run_append_own w base 22 22 5 i0 (.int .u8 0) 1 1 ht hi hz0 hz1 hz2 rfl (by decide) v xs.length (xs.map enc8) hown ⟨b, o, none⟩ new.length c (new.map enc8) (by simp) (fun j y hj => by rw [add_plain']; exact hy j y hj) (one_enc new) (by unfold maxLen; omega) (by omega) hbase
    exact ⟨v', w', h1, h2, h3⟩

namespace M
def size (n : Int) : Int := if 1 ≤ n ∧ n ≤ 4096 then n + 8 else 0
theorem size_yes {n : Int} (h : 1 ≤ n ∧ n ≤ 4096) : size n = n + 8 := by simp [size, h]
theorem size_no {n : Int} (h : ¬ (1 ≤ n ∧ n ≤ 4096)) : size n = 0 := by rw [size, if_neg h]
def sameB (xs ys : List UInt8) : Bool := decide (xs = ys)
theorem sameB_refl (xs : List UInt8) : sameB xs xs = true := by simp [sameB]
theorem sameB_iff {xs ys : List UInt8} : sameB xs ys = true ↔ xs = ys := by simp [sameB]
theorem same_take {xs ys : List UInt8} {k : Nat} (hk : k < xs.length) (hl : xs.length = ys.length) (h : xs.take k = ys.take k) (hx : (xs.getD k 0).toNat = (ys.getD k 0).toNat) : xs.take (k + 1) = ys.take (k + 1) := by
  rw [take_snoc xs k hk, take_snoc ys k (by omega), h, UInt8.toNat_inj.1 hx]
theorem same_not {xs ys : List UInt8} {k : Nat} (hx : (xs.getD k 0).toNat ≠ (ys.getD k 0).toNat) : false = sameB xs ys := by
  symm; simp only [sameB, decide_eq_false_iff_not]; intro h; exact hx (by rw [h])
theorem same_len {xs ys : List UInt8} (h : xs.length ≠ ys.length) : false = sameB xs ys := by
  symm; simp only [sameB, decide_eq_false_iff_not]; intro h'; exact h (by rw [h'])
theorem same_end {xs ys : List UInt8} {k : Nat} (hk : ¬ k < xs.length) (hl : xs.length = ys.length) (h : xs.take k = ys.take k) : true = sameB xs ys := by
  symm; simp only [sameB, decide_eq_true_eq]
  rw [List.take_of_length_le (by omega), List.take_of_length_le (by omega)] at h
  exact h
end M

set_option maxHeartbeats 400000 in
theorem size_any (n : Int) (w : World) : Calls Tryd.prog 15 #[.int .i64 n] w fun e w' => e = .returned (.int .i64 (M.size n)) ∧ w = w' := by
  by_cases h1 : 1 ≤ n
  · by_cases h2 : n ≤ 4096
    · have HS := Lib.hid (M.size_yes ⟨h1, h2⟩)
      go_enter Tryd.func15, Tryd.ntmps15
      go_wp2
      go_ret
      exact ⟨ret_int (by rw [HS.out]; omega), rfl⟩
    · have HS := Lib.hid (M.size_no (n := n) (by omega))
      go_enter Tryd.func15, Tryd.ntmps15
      go_wp2
      go_ret
      exact ⟨ret_int (by rw [HS.out]), rfl⟩
  · have HS := Lib.hid (M.size_no (n := n) (by omega))
    go_enter Tryd.func15, Tryd.ntmps15
    go_wp2
    go_ret
    exact ⟨ret_int (by rw [HS.out]), rfl⟩

set_option maxHeartbeats 1000000 in
theorem same_any {w : World} {v u : Value} {xs ys : List UInt8} (h : Bts w v xs) (h' : Bts w u ys) (hl : xs.length ≤ 1000000) : Calls Tryd.prog 13 #[v, u] w fun e w' => e = .returned (.bool (M.sameB xs ys)) ∧ Below w.heap.size w w' := by
  obtain ⟨A, c, rfl, hc, hx⟩ := h.opened
  obtain ⟨A', c', rfl, hc', hx'⟩ := h'.opened
  have HX := Lib.hid hx
  have HX' := Lib.hid hx'
  clear hx hx' h h'
  by_cases hn : xs.length = ys.length
  · rw [← hn] at HX' hc' ⊢
    have HN := Lib.hid hn
    clear hn
    go_enter Tryd.func13, Tryd.ntmps13
    go_wp2
    go_loopw [13] (fun i wr => ∃ k n : Nat, k ≤ xs.length ∧ i = .int .i64 k ∧ wr = w.drewN n ∧ xs.take k = ys.take k) (fun i _ => xs.length - (intOf i).toNat)
    case atStart => exact ⟨0, 0, Nat.zero_le _, rfl, rfl, rfl⟩
    case round =>
      obtain ⟨k, n, hk, rfl, rfl, htk⟩ := hrel
      have HS := Lib.hid htk
      clear htk
      by_cases hlt : k < xs.length
      · obtain ⟨b, o, rfl, hb, hy⟩ := HX.out (by omega)
        obtain ⟨b', o', rfl, hb', hy'⟩ := HX'.out (by omega)
        have hcell := hy k hlt
        have hcell' := hy' k hlt
        obtain ⟨y, hyk⟩ : ∃ y, y = (xs.getD k 0).toNat := ⟨_, rfl⟩
        obtain ⟨z, hzk⟩ : ∃ z, z = (ys.getD k 0).toNat := ⟨_, rfl⟩
        rw [← hyk] at hcell
        rw [← hzk] at hcell'
        have HY := Lib.hid hyk
        have HZ := Lib.hid hzk
        clear hy hyk hy' hzk
        have hi1 : (k : Int) < (xs.length : Int) := by omega
        by_cases e : y = z
        · subst e
          go_wp2
          go_quiet (fail)
          go_wp2
          go_roundw
          case rel => exact ⟨k + 1, _, by omega, by go_num, rfl, M.same_take hlt HN.out HS.out (by rw [← HY.out, ← HZ.out])⟩
          case measure => simp [intOf]; omega
        · have q1 : ((y : Int) == (z : Int)) = false := by rw [beq_eq_false_iff_ne]; omega
          have q2 : ((y : Int) != (z : Int)) = true := by rw [bne, q1]; rfl
          have q3 : (y == z) = false := by rw [beq_eq_false_iff_ne]; exact e
          have q4 : (y != z) = true := by rw [bne, q3]; rfl
          have HE := Lib.hid (show (xs.getD k 0).toNat ≠ (ys.getD k 0).toNat by rw [← HY.out, ← HZ.out]; exact e)
          clear e
          go_wp2
          go_quiet (fail)
          go_wp2
          go_ret
          exact ⟨ret_bool (M.same_not (k := k) HE.out), below_drewN (below_drewN (Below.refl _ _) _) _⟩
      · go_wp2
        go_ret
        exact ⟨ret_bool (M.same_end hlt HN.out HS.out), below_drewN (Below.refl _ _) _⟩
  · have q1 : ((xs.length : Int) == (ys.length : Int)) = false := by rw [beq_eq_false_iff_ne]; omega
    have q2 : ((xs.length : Int) != (ys.length : Int)) = true := by rw [bne, q1]; rfl
    have q3 : (xs.length == ys.length) = false := by rw [beq_eq_false_iff_ne]; exact hn
    have q4 : (xs.length != ys.length) = true := by rw [bne, q3]; rfl
    go_enter Tryd.func13, Tryd.ntmps13
    go_wp2
    go_ret
    exact ⟨ret_bool (M.same_len hn), Below.refl _ _⟩

/-- A copy of these bytes in a new block, with room of 16 behind. -/
def Owned (w : World) (xs : List UInt8) (e : Ending) (w' : World) : Prop := e = .returned (.slice (some ⟨w.heap.size, 0, none⟩) xs.length (xs.length + 16)) ∧ Blk w' w.heap.size (xs ++ List.replicate 16 0) ∧ Below w.heap.size w w'

set_option maxHeartbeats 1000000 in
theorem own_any {w : World} {v : Value} {xs : List UInt8} (h : Bts w v xs) (hl : xs.length ≤ 1000000) : Calls Tryd.prog 10 #[v] w (Owned w xs) := by
  obtain ⟨i0, hi, hz0, hz1, hz2⟩ := info_parts info5
  have hm := run_make (P := Tryd.prog) w 22 5 i0 (.int .u8 0) Tryd.underlying22 hi hz0 .i64 .i64 0 ((xs.length : Int) + 16) (by omega) (by omega) (by rw [hz2]; omega) (by omega)
  rw [hz1, show ((xs.length : Int) + 16).toNat = xs.length + 16 by omega] at hm
  have hB := Blk.made w (xs.length + 16)
  have h2 := h.below (below_new (o := .cells (madeCells #[.int .u8 0] (xs.length + 16)) 5) (Below.refl _ _))
  obtain ⟨w', hr, hblk, hgr⟩ := append_in (k := 0) hB h2 (by simp)
  simp only [List.length_replicate, Nat.zero_add] at hr
  have HB := Lib.hid (show Blk w' w.heap.size (xs ++ List.replicate 16 0) by simpa using hblk)
  have HL := Lib.hid (show Below w.heap.size w w' from (below_new (Below.refl _ _)).grown hgr (by simp) (fun k e => by cases e; exact Nat.le_refl _))
  obtain ⟨A, c, rfl, hc, hx⟩ := h.opened
  clear hx h h2 hblk hgr hB hi hz0 hz1 hz2
  simp only [Value.cells, Nat.mul_one, Int.toNat_zero] at hm
  go_enter Tryd.func10, Tryd.ntmps10
  go_wp2_with (at_builtin; refine Lib.wpList_append_run _ rfl _ _ _ _ rfl _ _ rfl rfl _ _ hr ?_)
  go_ret
  exact ⟨rfl, HB.out, HL.out⟩
end Go.Proofs.YtmjkcbcenpdcnaaDoor
