/- Contracts of head and tail, and of the library's Equal, HasPrefix and Clone; no conditions but the lengths that they name. -/
import Derived.Test.YtmjkcbcenpdcnaaDoorWalksC
import Derived.Laws.BytesArg
import Derived.Lib.Bytes
namespace Go.Proofs.YtmjkcbcenpdcnaaDoor
open Go.RowKit

namespace M
def b8 (n : Nat) : UInt8 := UInt8.ofNat n
theorem b8_nat (n : Nat) : (b8 n).toNat = n % 256 := by simp [b8]
/-- What stands ahead of a payload of n bytes. -/
def head (n : Nat) : List UInt8 := [b8 n, b8 (n / 256), b8 (255 - n % 256), b8 (255 - n / 256 % 256)]
/-- A number in four bytes. -/
def tail (s : Nat) : List UInt8 := [b8 s, b8 (s / 256), b8 (s / 65536), b8 (s / 16777216)]
theorem head_len (n : Nat) : (head n).length = 4 := rfl
theorem tail_len (n : Nat) : (tail n).length = 4 := rfl
end M

/-- New bytes. -/
def Made (xs : List UInt8) (w : World) (e : Ending) (w' : World) : Prop := ∃ v, e = .returned v ∧ Bts w' v xs ∧ Below w.heap.size w w'

theorem four_new (w : World) {a b c d : UInt8} {x y z u : Int} (hx : x = a.toNat) (hy : y = b.toNat) (hz : z = c.toNat) (hu : u = d.toNat) : Bts (w.alloc (.cells #[.int .u8 x, .int .u8 y, .int .u8 z, .int .u8 u] 5)) (.slice (some ⟨w.heap.size, 0, none⟩) 4 4) [a, b, c, d] := by
  refine Blk.bts (cs := [a, b, c, d]) ?_ rfl (Nat.le_refl _) (Nat.le_refl _)
  unfold Blk
  rw [heap_alloc_new, hx, hy, hz, hu]; rfl

set_option maxHeartbeats 1000000 in
theorem head_any (n : Nat) (w : World) (hn : n ≤ 65535) : Calls Tryd.prog 22 #[.int .i64 n] w (Made (M.head n) w) := by
  have e1 := not8 (n % 256) (by omega)
  have e2 := not8 (n / 256) (by omega)
  rw [Int.natCast_emod] at e1
  rw [Int.natCast_ediv] at e2
  go_enter Tryd.func22, Tryd.ntmps22
  go_wp2
  go_ret
  refine ⟨_, rfl, four_new w ?_ ?_ ?_ ?_, below_new (Below.refl _ _)⟩
  · rw [M.b8_nat]; omega
  · rw [M.b8_nat]; omega
  · rw [show (↑n % 256 : Int) = ↑n % ((256 : Nat) : Int) from rfl, e1, M.b8_nat]; omega
  · rw [show (↑n / 256 : Int) = ↑n / ((256 : Nat) : Int) from rfl, e2, M.b8_nat]; omega

set_option maxHeartbeats 1000000 in
theorem tail_any {w : World} {v : Value} {xs : List UInt8} (hT : Tab w) (h : Bts w v xs) (hl : xs.length ≤ 1000000) : Calls Tryd.prog 23 #[v] w (Made (M.tail (M.crc xs)) w) := by
  have hs := sum_any hT h hl
  have hlt := M.crc_lt xs
  clear h hT hl
  generalize M.crc xs = s at *
  go_enter Tryd.func23, Tryd.ntmps23
  go_wp2_with (fail)
  refine hs.mono ?_
  rintro e w' ⟨rfl, rfl⟩
  go_wp2
  go_ret
  refine ⟨_, rfl, four_new w ?_ ?_ ?_ ?_, below_new (Below.refl _ _)⟩
  · rw [M.b8_nat]; omega
  · rw [M.b8_nat]; omega
  · rw [M.b8_nat]; omega
  · rw [M.b8_nat]; omega

theorem conv_any {w : World} {v : Value} {xs : List UInt8} (h : Bts w v xs) : (convert 22 9 v).run Tryd.prog w = .ok (.string ⟨xs.toArray⟩) w := by
  obtain ⟨A, c, rfl, hc, hx⟩ := h.opened
  have hs : strOfNums (xs.map fun x => (x.toNat : Int)) = ⟨xs.toArray⟩ := by
    unfold strOfNums
    rw [List.map_map]
    have : ((fun n : Int => UInt8.ofNat n.toNat) ∘ fun x : UInt8 => (x.toNat : Int)) = id := by funext x; simp
    rw [this, List.map_id]
  by_cases h0 : 0 < xs.length
  · obtain ⟨b, o, rfl, hb, hy⟩ := hx h0
    have := run_convert_bytes_arg (P := Tryd.prog) w 22 5 Tryd.underlying22 Tryd.underlying5 b o xs.length c (xs.map fun x => (x.toNat : Int)) (by simp) (fun i hi => by rw [hy i hi, List.getD, List.getD, List.getElem?_map, List.getElem?_eq_getElem hi]; rfl) 9 Tryd.underlying9
    rw [hs] at this
    exact this
  · have h0' : xs = [] := List.eq_nil_of_length_eq_zero (by omega)
    subst h0'
    cases A with
    | none => exact run_convert_bytes_nil (P := Tryd.prog) w 22 5 Tryd.underlying22 Tryd.underlying5 0 c 9 Tryd.underlying9
    | some a =>
      have := run_convert_bytes_string (P := Tryd.prog) w 22 9 5 (some a) 0 c Tryd.underlying22 Tryd.underlying5 Tryd.underlying9
      simp only [List.length_nil]
      rw [this]
      simp [Conv.bytesToString, loadCells, loadCellsFrom]
      rfl

set_option maxHeartbeats 1000000 in
theorem equal_any {w : World} {v u : Value} {xs ys : List UInt8} (h : Bts w v xs) (h' : Bts w u ys) : Calls Tryd.prog 25 #[v, u] w fun e w' => e = .returned (.bool (M.sameB xs ys)) ∧ w = w' := by
  have e1 := conv_any h
  have e2 := conv_any h'
  obtain ⟨A, c, rfl, hc, hx⟩ := h.opened
  obtain ⟨A', c', rfl, hc', hx'⟩ := h'.opened
  clear h h' hx hx'
  go_enter Tryd.func25, Tryd.ntmps25
  go_wp2
  go_ret
  refine ⟨ret_bool ?_, rfl⟩
  rw [Bool.eq_iff_iff]; simp [M.sameB]

theorem Bts.take {w : World} {A : Option Addr} {n c : Nat} {xs : List UInt8} (h : Bts w (.slice A n c) xs) (m : Nat) (hm : m ≤ n) : Bts w (.slice A m c) (xs.take m) := by
  obtain ⟨A', c', e, hc, hx⟩ := h
  simp only [Value.slice.injEq, List.length_map] at e hc hx
  obtain ⟨rfl, rfl, rfl⟩ := e
  refine ⟨A, c, by simp; omega, by simp; omega, fun h0 => ?_⟩
  obtain ⟨b, o, e, hb, hy⟩ := hx (by simp at h0; omega)
  refine ⟨b, o, e, hb, fun k x hk => hy k x ?_⟩
  have hkm : k < m := by have := (List.getElem?_eq_some_iff.1 hk).1; simp at this; omega
  rw [List.map_take, List.getElem?_take_of_lt hkm] at hk
  exact hk
theorem Bts.drop {w : World} {b o n c : Nat} {xs : List UInt8} (h : Bts w (.slice (some ⟨b, o, none⟩) n c) xs) (m : Nat) (hm : m ≤ n) : Bts w (.slice (some ⟨b, o + m, none⟩) (n - m) (c - m)) (xs.drop m) := by
  obtain ⟨A', c', e, hc, hx⟩ := h
  simp only [Value.slice.injEq, List.length_map] at e hc hx
  obtain ⟨rfl, rfl, rfl⟩ := e
  refine ⟨some ⟨b, o + m, none⟩, c - m, by simp, by simp; omega, fun h0 => ?_⟩
  obtain ⟨b', o', e, hb, hy⟩ := hx (by simp at h0; omega)
  cases e
  refine ⟨b, o + m, rfl, hb, fun k x hk => ?_⟩
  rw [List.getElem?_map, List.getElem?_drop] at hk
  rw [Nat.add_assoc]
  exact hy (m + k) x (by rw [List.getElem?_map]; exact hk)
theorem Bts.len {w : World} {A : Option Addr} {n c : Nat} {xs : List UInt8} (h : Bts w (.slice A n c) xs) : xs.length = n ∧ n ≤ c := by
  obtain ⟨A', c', e, hc, hx⟩ := h
  simp only [Value.slice.injEq, List.length_map] at e hc
  obtain ⟨rfl, rfl, rfl⟩ := e
  exact ⟨rfl, hc⟩
theorem Bts.nil (w : World) (A : Option Addr) (c : Nat) : Bts w (.slice A 0 c) [] := ⟨A, c, rfl, Nat.zero_le _, fun h => absurd h (by simp)⟩

set_option maxHeartbeats 1000000 in
theorem prefix_any {w : World} {u : Value} {b o n c : Nat} {xs ys : List UInt8} (h : Bts w (.slice (some ⟨b, o, none⟩) n c) xs) (h' : Bts w u ys) (hy : ys.length = 4) (hn : 4 ≤ n) (hl : n ≤ 1000000) :
    Calls Tryd.prog 24 #[.slice (some ⟨b, o, none⟩) n c, u] w fun e w' => e = .returned (.bool (M.sameB (xs.take 4) ys)) ∧ w = w' := by
  have ht := h.take 4 hn
  have hc := h.len.2
  have HE := Lib.hid (equal_any ht h')
  obtain ⟨A', c', rfl, hc', hx'⟩ := h'.opened
  rw [hy] at HE ⊢
  clear h h' hx' ht hy hc'
  go_enter Tryd.func24, Tryd.ntmps24
  go_wp2_with (fail)
  refine HE.out.mono ?_
  rintro e w' ⟨rfl, rfl⟩
  go_wp2
  go_ret
  exact ⟨rfl, rfl⟩

/-- A copy in a new block. -/
def Cloned (w : World) (xs : List UInt8) (e : Ending) (w' : World) : Prop := ∃ v, e = .returned v ∧ w'.ownsRow w.heap.size 5 1 v xs.length (xs.map enc8) ∧ Below w.heap.size w w'

set_option maxHeartbeats 1000000 in
theorem clone_any {w : World} {v : Value} {xs : List UInt8} (h : Bts w v xs) (h0 : 0 < xs.length) (hl : xs.length ≤ 1000000) : Calls Tryd.prog 26 #[v] w (Cloned w xs) := by
  have q22 : ∀ (w : World) (a : Option Addr) (n c n' c' : Nat), (binOp .eql 22 (.slice a n c) (.slice none n' c')).run Tryd.prog w = .ok (.bool a.isNone) w := fun w a n c n' c' => Lib.run_eql_slice_nil w _ _ a n c n' c' Tryd.underlying22
  have h2 := h.below (below_new (o := .cells #[] 5) (Below.refl _ _))
  have hown : (w.alloc (.cells #[] 5)).ownsRow w.heap.size 5 1 (.slice (some ⟨w.heap.size, 0, none⟩) 0 0) ([] : List UInt8).length (([] : List UInt8).map enc8) := World.ownsRow_made w #[] 0 (Nat.le_refl _) (Nat.zero_le _) rfl
  obtain ⟨v', w', hr, ho, hg⟩ := append_any hown h2 (by simpa using hl) (by simp)
  have HO := Lib.hid ho
  have HB := Lib.hid (show Below w.heap.size w w' from (below_new (Below.refl _ _)).grown hg (by simp) (fun k e => by cases e; exact Nat.le_refl _))
  obtain ⟨A, c, rfl, hc, hx⟩ := h.opened
  obtain ⟨b, o, rfl, hb, hy⟩ := hx h0
  clear hx hy h h2 ho hg hown
  go_enter Tryd.func26, Tryd.ntmps26
  go_wp2_with (at_builtin; refine Lib.wpList_append_run _ rfl _ _ _ _ rfl _ _ rfl rfl _ _ hr ?_)
  go_ret
  exact ⟨_, rfl, by simpa using HO.out, HB.out⟩
end Go.Proofs.YtmjkcbcenpdcnaaDoor
