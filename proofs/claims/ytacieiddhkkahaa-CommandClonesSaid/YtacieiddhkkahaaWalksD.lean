/- Contracts of the document's Runes and Weight; no conditions but the lengths that they name. -/
import Derived.Test.YtacieiddhkkahaaWalksC
import Derived.LoopN
namespace Go.Proofs.Ytacieiddhkkahaa
open Go.RowKit

/-- A text without its first bytes. -/
def Cut (s : ByteArray) (p : Nat) (t : ByteArray) : Prop := p ≤ s.size ∧ t = s.extract p s.size
theorem Cut.size {s t : ByteArray} {p : Nat} (h : Cut s p t) : t.size = s.size - p := by
  rw [h.2, ByteArray.size_extract]; omega
theorem Cut.whole (s : ByteArray) : Cut s 0 s := ⟨Nat.zero_le _, by simp⟩
theorem Cut.step {s t : ByteArray} {p : Nat} (h : Cut s p t) (hp : p < s.size) : Cut s (p + M.wd s p) (t.extract (M.wd s p) t.size) := by
  have h1 := M.wd_le s p hp
  refine ⟨h1, ?_⟩
  rw [h.size, h.2, ByteArray.extract_extract, show min (p + (s.size - p)) s.size = s.size by have := h.1; omega]
theorem first_cut {s t : ByteArray} {p : Nat} (h : Cut s p t) (hp : p < s.size) (w : World) : Calls Try.prog 71 #[.string t] w fun e w' => e = .returned (.tuple #[.int .i64 (M.rn s p : Nat), .int .i64 (M.wd s p : Nat)]) ∧ Below w.heap.size w w' := by
  refine (first_any t w (by rw [h.size]; omega)).mono fun e w' h' => ?_
  unfold Told at h'
  rw [h.2, M.rn_cut s p h.1, M.wd_cut s p h.1] at h'
  exact h'
def strLen : Value → Nat
  | .string s => s.size
  | _ => 0

set_option maxHeartbeats 1000000 in
set_option maxRecDepth 100000 in
theorem drunes_any (s : ByteArray) (w : World) (hs : s.size ≤ 2000) : Calls Try.prog 62 #[.string s] w (Nums 3 .i64 (M.runes s) w) := by
  obtain ⟨i0, hi, hz0, hz1, hz2⟩ := info_parts info3
  go_enter Try.func62, Try.ntmps62
  go_wp2
  go_loopw [0, 3] (fun ks v wr => ∃ (pos fuel : Nat) (acc : List Nat) (t : ByteArray), ks = .string t ∧ Cut s pos t ∧ Below w.heap.size w wr ∧ acc ++ M.runesFrom s fuel pos = M.runes s ∧ s.size ≤ pos + fuel ∧ wr.ownsRow w.heap.size 3 1 v acc.length (acc.map fun n => .int .i64 (n : Nat))) (fun ks _ _ => strLen ks)
  case atStart =>
    exact ⟨0, s.size, [], s, rfl, Cut.whole s, Below.refl _ w, rfl, by omega, World.ownsRow_nil _ _ _ _⟩
  case round =>
    obtain ⟨pos, fuel, acc, t, rfl, hcut, hbw, hacc, hfu, hown⟩ := hrel
    have hl := len_split hacc
    have hts := hcut.size
    by_cases hp : pos < s.size
    · have h0 : 0 < t.size := by omega
      have hw1 := M.wd_pos s pos hp
      have hw2 := M.wd_le s pos hp
      have hw3 : M.wd s pos ≤ t.size := by omega
      have hr1 := M.rn_le s pos
      obtain ⟨f, rfl⟩ : ∃ f, fuel = f + 1 := ⟨fuel - 1, by omega⟩
      rw [M.runesFrom_step s f pos hp] at hacc
      have H1 := Lib.hid (show (acc ++ [M.rn s pos]) ++ M.runesFrom s f (pos + M.wd s pos) = M.runes s by simpa using hacc)
      have H2 := Lib.hid (hcut.step hp)
      have H3 := Lib.hid hbw
      have H4 := Lib.hid hown
      have H5 := Lib.hid hcut
      clear hacc hbw hown hcut hts
      go_wp2_with (fail)
      refine (first_cut H5.out hp _).mono ?_
      rintro e w1 ⟨rfl, hb⟩
      have h4 := H4.out.kept (row := none) ⟨hb.os, hb.tape, hb.output, hb.size, fun i h _ => hb.block i h⟩ (by rcases H4.out.2 with ⟨rfl, _⟩ | ⟨g, cap, cur, rfl, _⟩ <;> simp [Value.ownBlock])
      have G4 := Lib.hid h4
      have G3 := Lib.hid (below_on H3.out hb)
      have hs1 : w.heap.size ≤ w1.heap.size := Nat.le_trans H3.out.size hb.size
      clear h4 hb H4 H3
      go_wp2_with (at_builtin; refine wpList_append_own _ rfl _ _ 84 rfl w.heap.size 3 i0 (.int .i64 0) 1 8 Try.underlying84 hi hz0 hz1 hz2 rfl (by decide) _ _ _ rfl (G4.out.alloc _) ⟨w1.heap.size, 0, none⟩ 1 1 [.int .i64 (M.rn s pos : Nat)] rfl rfl (cell_one_new _ _ _) (ints_oneCell .i64 [(M.rn s pos : Int)]) (by unfold maxLen; omega) (by omega) (by simp; omega) ?_; intro v' w2 hown' hgrow hnil)
      have K1 := Lib.hid hown'
      have K3 := Lib.hid ((G3.out.alloc (by omega) _).grown hgrow (by simp; omega) (fun k hk => (G4.out.lt k hk).1))
      clear hown' hgrow hnil
      go_wp2
      go_roundw
      case rel => exact ⟨pos + M.wd s pos, f, acc ++ [M.rn s pos], _, rfl, H2.out, K3.out, H1.out, by omega, by simpa using K1.out⟩
      case measure =>
        have e1 := H5.out.size
        have e2 := H2.out.size
        simp only [strLen]
        omega
    · have h0 : ¬ 0 < t.size := by omega
      have hte : t.size = 0 := by omega
      have H2 := Lib.hid hacc
      have H3 := Lib.hid hbw
      have H4 := Lib.hid hown
      clear hacc hbw hown hcut hts
      go_wp2
      go_ret
      have := H2.out
      rw [M.runesFrom_end s fuel pos hp, List.append_nil] at this
      subst this
      exact ⟨_, rfl, H4.out, H3.out⟩

/-- A slice that reads as a list. -/
def Row (w : World) (v : Value) (xs : List Value) : Prop := ∃ (A : Option Addr) (c : Nat), v = .slice A xs.length c ∧ xs.length ≤ c ∧ (0 < xs.length → ∃ b o, A = some ⟨b, o, none⟩ ∧ b < w.heap.size ∧ ∀ k x, xs[k]? = some x → w.cell? ⟨b, o + k, none⟩ = some x)
theorem Row.of_owns {w : World} {base : Nat} {t : TypeId} {v : Value} {n : Nat} {xs : List Value} (h : w.ownsRow base t 1 v n xs) : Row w v xs := by
  obtain ⟨hl, h2⟩ := h
  rw [Nat.mul_one] at hl
  rcases h2 with ⟨rfl, rfl⟩ | ⟨g, cap, cur, rfl, hb, hg, hn, hm, hs, ht⟩
  · exact ⟨none, 0, by rw [hl], by omega, fun h => absurd h (by omega)⟩
  · refine ⟨some ⟨g, 0, none⟩, cap, by rw [hl], by omega, fun _ => ⟨g, 0, rfl, (Array.getElem?_eq_some_iff.1 hg).1, fun k x hx => ?_⟩⟩
    have hk : k < xs.length := (List.getElem?_eq_some_iff.1 hx).1
    have h1 : (cur.toList.take (n * 1))[k]? = some x := by rw [ht]; exact hx
    rw [List.getElem?_take_of_lt (by omega), Array.getElem?_toList] at h1
    simp only [World.cell?, hg, Nat.zero_add, Option.isSome_none, Bool.false_eq_true, if_false]
    exact h1
theorem Row.below {w w' : World} {v : Value} {xs : List Value} (h : Row w v xs) (hb : Below w.heap.size w w') : Row w' v xs := by
  obtain ⟨A, c, e, hl, hc⟩ := h
  refine ⟨A, c, e, hl, fun h0 => ?_⟩
  obtain ⟨b, o, e1, hlt, hx⟩ := hc h0
  exact ⟨b, o, e1, Nat.lt_of_lt_of_le hlt hb.size, fun k x hk => (hb.cell hlt).trans (hx k x hk)⟩

namespace M
theorem weigh_take (l : List Nat) (k : Nat) (h : k < l.length) : weigh 0 (l.take (k + 1)) = weigh 0 (l.take k) + (k + 1) * l.getD k 0 := by
  rw [List.take_add_one, List.getElem?_eq_getElem h]
  simp only [Option.toList]
  rw [weigh_snoc, List.length_take, Nat.min_eq_left (by omega), List.getD, List.getElem?_eq_getElem h]; rfl
theorem weigh_at (l : List Nat) (k j : Nat) (h : ∀ r ∈ l, r ≤ 1114111) (hl : l.length ≤ 2000) (hk : k < l.length) (hj : j ≤ k + 1) : weigh 0 (l.take k) + j * l.getD k 0 ≤ 10000000000000 ∧ l.getD k 0 ≤ 1114111 := by
  have h1 := weigh_small (l.take k) (fun r hr => h r (List.mem_of_mem_take hr)) (by rw [List.length_take]; omega)
  have h2 : l.getD k 0 ≤ 1114111 := by rw [List.getD, List.getElem?_eq_getElem hk]; exact h _ (List.getElem_mem hk)
  have h3 : j * l.getD k 0 ≤ 2001 * 1114111 := Nat.mul_le_mul (by omega) h2
  exact ⟨by omega, h2⟩
end M

set_option maxHeartbeats 1000000 in
set_option maxRecDepth 100000 in
theorem dweight_any (s : ByteArray) (w : World) (hs : s.size ≤ 2000) : Calls Try.prog 54 #[.string s] w fun e w' => e = .returned (.int .i64 (M.weight s : Nat)) ∧ Below w.heap.size w w' := by
  go_enter Try.func54, Try.ntmps54
  go_wp2_with (fail)
  refine (drunes_any s _ hs).mono ?_
  rintro e w1 ⟨v, rfl, hown, hb⟩
  have hlen : (M.runes s).length ≤ 2000 := Nat.le_trans (M.runes_len s) hs
  have hle := Lib.hid (M.runes_le s)
  have HW := Lib.hid (show M.weight s = M.weigh 0 (M.runes s) from rfl)
  have hr := Row.of_owns hown
  clear hown
  have HB := Lib.hid hb
  clear hb
  generalize M.runes s = l at *
  obtain ⟨A, c, rfl, hc, hx⟩ := hr
  rw [List.length_map] at hc
  rw [List.length_map]
  have HX := Lib.hid hx
  clear hx
  go_wp2
  go_loop [4, 5] (fun n i => ∃ k : Nat, k ≤ l.length ∧ i = .int .i64 k ∧ n = .int .i64 (M.weigh 0 (l.take k) : Nat)) (fun _ i => l.length - (intOf i).toNat)
  case atStart => exact ⟨0, Nat.zero_le _, rfl, rfl⟩
  case round =>
    obtain ⟨k, hk, rfl, rfl⟩ := hrel
    by_cases hlt : k < l.length
    · obtain ⟨b, o, rfl, hb, hx⟩ := HX.out (by simpa using Nat.lt_of_le_of_lt (Nat.zero_le k) hlt)
      have hcell : w1.cell? ⟨b, o + k, none⟩ = some (.int .i64 (l.getD k 0 : Nat)) := hx k _ (by simp [List.getD, List.getElem?_eq_getElem hlt])
      have HT := Lib.hid (M.weigh_take l k hlt)
      clear hx
      generalize hg : l.getD k 0 = r at *
      have HG := Lib.hid hg
      clear hg
      go_wp2
      go_loop [4, 6] (fun n i => ∃ j : Nat, j ≤ k + 1 ∧ i = .int .i64 j ∧ n = .int .i64 (M.weigh 0 (l.take k) + j * r : Nat)) (fun _ i => k + 1 - (intOf i).toNat)
      case atStart => exact ⟨0, Nat.zero_le _, rfl, by simp⟩
      case round =>
        obtain ⟨j, hj, rfl, rfl⟩ := hrel
        have hbd := M.weigh_at l k j hle.out hlen hlt hj
        rw [HG.out] at hbd
        obtain ⟨q1, q2⟩ := hbd
        by_cases hjl : j < k + 1
        · have hd : (j : Int) ≤ k := by omega
          have HM := Lib.hid (show M.weigh 0 (l.take k) + j * r + r = M.weigh 0 (l.take k) + (j + 1) * r by rw [Nat.add_mul, Nat.one_mul]; omega)
          go_wp2
          go_round
          case rel => exact ⟨j + 1, by omega, by go_num, by rw [← HM.out]; go_num⟩
          case measure => simp [intOf]; omega
        · have hd : ¬ (j : Int) ≤ k := by omega
          obtain rfl : j = k + 1 := by omega
          go_wp2
          go_round
          case rel => exact ⟨k + 1, by omega, by go_num, by rw [HT.out]⟩
          case measure => simp [intOf]; omega
    · obtain rfl : k = l.length := by omega
      go_wp2
      go_ret
      exact ⟨ret_int (by rw [HW.out]), HB.out⟩
end Go.Proofs.Ytacieiddhkkahaa
