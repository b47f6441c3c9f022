/- Keys: plain facts, contracts; no conditions but those that they name. -/
import Derived.Test.YtpknkhgkejkpkaaGreatWiD
import Derived.Laws.RangeString
import Derived.Laws.RangeAny
import Derived.WalkKit
import Derived.WalkSpells
import Derived.Lib.Hide
import Derived.Lib.OthersKept
import Derived.BigCall
import Derived.Deep.QuietTactic
import Derived.BigQuiet
import Derived.Maps.AppendAt
import Derived.LoopN
import Derived.ProofKit
import Derived.OpenShut
import Derived.Carry
import Derived.SliceStrings
import Derived.ChangeMaps5
import Derived.Sort.EncStr
import Derived.Sort.Walk0
import Derived.Maps.OwnSet
import Derived.Lib.AppendZerosOnto
import Derived.Lib.SliceRun

namespace Go.Proofs.YtpknkhgkejkpkaaGreat
namespace M

end M
end Go.Proofs.YtpknkhgkejkpkaaGreat

namespace Go.Proofs.YtpknkhgkejkpkaaGreat
open Go.RowKit

end Go.Proofs.YtpknkhgkejkpkaaGreat

namespace Go.Proofs.YtpknkhgkejkpkaaGreat
open Go.RowKit

namespace M
/-- A byte as a number. -/
def bt (s : ByteArray) (k : Nat) : Nat := (s.get! k).toNat
theorem bt_at (s : ByteArray) (k : Nat) (h : k < s.size) : (s[k]'h).toNat = bt s k := by
  unfold bt
  have := get_at s k h
  rw [Nat.add_zero] at this
  rw [this]
def tailB (s : ByteArray) (i lo hi : Int) : Bool := decide (i.toNat < s.size) && decide (lo ≤ (bt s i.toNat : Int)) && decide ((bt s i.toNat : Int) ≤ hi)
theorem tailB_iff {s : ByteArray} {k : Nat} {lo hi : Int} : tailB s k lo hi = true ↔ k < s.size ∧ lo ≤ (bt s k : Int) ∧ (bt s k : Int) ≤ hi := by simp only [tailB, Int.toNat_natCast, Bool.and_eq_true, decide_eq_true_eq, and_assoc]
theorem tailB_no {s : ByteArray} {k : Nat} {lo hi : Int} (h : ¬ (k < s.size ∧ lo ≤ (bt s k : Int) ∧ (bt s k : Int) ≤ hi)) : tailB s k lo hi = false := by
  cases e : tailB s k lo hi
  · rfl
  · exact absurd (tailB_iff.1 e) h
theorem tailB_not {s : ByteArray} {k : Nat} {lo hi : Int} (h : tailB s k lo hi = false) : ¬ (k < s.size ∧ lo ≤ (bt s k : Int) ∧ (bt s k : Int) ≤ hi) := fun h' => by
  rw [tailB_iff.2 h'] at h; cases h
theorem bt_lt (s : ByteArray) (k : Nat) : bt s k < 256 := (s.get! k).toNat_lt
/-- What stands at the beginning of n bytes a, b, c, d, ... -/
def D (n a b c d : Nat) : Nat × Nat :=
  if a < 128 then (a, 1)
  else if a / 32 = 6 ∧ 1 < n ∧ b / 64 = 2 then
    if 128 ≤ a % 32 * 64 + b % 64 then (a % 32 * 64 + b % 64, 2) else (65533, 1)
  else if a / 16 = 14 ∧ (1 < n ∧ b / 64 = 2) ∧ 2 < n ∧ c / 64 = 2 then
    if 2048 ≤ a % 16 * 4096 + b % 64 * 64 + c % 64 ∧ (a % 16 * 4096 + b % 64 * 64 + c % 64 < 55296 ∨ 57344 ≤ a % 16 * 4096 + b % 64 * 64 + c % 64 ∧ a % 16 * 4096 + b % 64 * 64 + c % 64 ≤ 1114111) then (a % 16 * 4096 + b % 64 * 64 + c % 64, 3) else (65533, 1)
  else if a / 8 = 30 ∧ (1 < n ∧ b / 64 = 2) ∧ (2 < n ∧ c / 64 = 2) ∧ 3 < n ∧ d / 64 = 2 then
    if 65536 ≤ a % 8 * 262144 + b % 64 * 4096 + c % 64 * 64 + d % 64 ∧ (a % 8 * 262144 + b % 64 * 4096 + c % 64 * 64 + d % 64 < 55296 ∨ 57344 ≤ a % 8 * 262144 + b % 64 * 4096 + c % 64 * 64 + d % 64 ∧ a % 8 * 262144 + b % 64 * 4096 + c % 64 * 64 + d % 64 ≤ 1114111) then (a % 8 * 262144 + b % 64 * 4096 + c % 64 * 64 + d % 64, 4) else (65533, 1)
  else (65533, 1)
theorem valid_eq (c : Nat) : (Utf8.valid (c : Int) = true) = (c < 55296 ∨ 57344 ≤ c ∧ c ≤ 1114111) := by
  unfold Utf8.valid
  rw [Bool.or_eq_true, Bool.and_eq_true, Bool.and_eq_true, decide_eq_true_eq, decide_eq_true_eq, decide_eq_true_eq, decide_eq_true_eq]
  exact propext (by omega)
theorem dz (s : ByteArray) : Utf8.decode s 0 = D s.size (bt s 0) (bt s 1) (bt s 2) (bt s 3) := by
  have he : Utf8.runeError = 65533 := rfl
  unfold Utf8.decode D bt
  simp only [Nat.zero_add, Bool.and_eq_true, beq_iff_eq, decide_eq_true_eq, ge_iff_le, and_assoc, valid_eq, he]
end M

/-- What first tells. -/
def Told (s : ByteArray) (w : World) (e : Ending) (w' : World) : Prop := e = .returned (.tuple #[.int .i64 (M.rn s 0 : Nat), .int .i64 (M.wd s 0 : Nat)]) ∧ Below w.heap.size w w'
theorem told {s : ByteArray} {w w' : World} {a b : Nat} (hd : Utf8.decode s 0 = (a, b)) (hb : Below w.heap.size w w') : Told s w (.returned (.tuple #[.int .i64 (a : Nat), .int .i64 (b : Nat)])) w' := by
  unfold Told M.rn M.wd
  rw [hd]
  exact ⟨rfl, hb⟩

end Go.Proofs.YtpknkhgkejkpkaaGreat

namespace Go.Proofs.YtpknkhgkejkpkaaGreat
open Go.RowKit

end Go.Proofs.YtpknkhgkejkpkaaGreat

namespace Go.Proofs.YtpknkhgkejkpkaaGreat
open Go.RowKit

namespace M
end M

end Go.Proofs.YtpknkhgkejkpkaaGreat

namespace Go.Proofs.YtpknkhgkejkpkaaGreat
open Go.RowKit

namespace M
end M

end Go.Proofs.YtpknkhgkejkpkaaGreat

namespace Go.Proofs.YtpknkhgkejkpkaaGreat
open Go.ChangeShapes Go.WideShapes Go.ChangeAt Go.RowKit

end Go.Proofs.YtpknkhgkejkpkaaGreat

namespace Go.Proofs.YtpknkhgkejkpkaaGreat
namespace M

end M
end Go.Proofs.YtpknkhgkejkpkaaGreat

namespace Go.Proofs.YtpknkhgkejkpkaaGreat
open Go.RowKit

set_option maxHeartbeats 1000000 in
theorem in_any {w : World} {v : Value} {ss : List (List UInt8)} (x : List UInt8) (h : Words w v ss) (hl : ss.length ≤ 1000) : Calls Tryz.prog 47 #[v, .string ⟨x.toArray⟩] w fun e w' => e = .returned (.bool (M.inB ss x)) ∧ w = w' := by
  obtain ⟨A, c, rfl, hc, hx⟩ := h.opened
  have HX := Lib.hid hx
  clear hx h
  go_enter Tryz.func47, Tryz.ntmps47
  go_wp2
  go_loop [5] (fun i => ∃ k : Nat, k ≤ ss.length ∧ i = .int .i64 k ∧ M.inB (ss.take k) x = false) (fun i => ss.length - (intOf i).toNat)
  case atStart => exact ⟨0, Nat.zero_le _, rfl, by simp [M.inB]⟩
  case round =>
    obtain ⟨k, hk, rfl, hin⟩ := hrel
    have HS := Lib.hid hin
    clear hin
    by_cases hlt : k < ss.length
    · obtain ⟨b, o, rfl, hb, hy⟩ := HX.out (by omega)
      have hcell := hy k hlt
      obtain ⟨y, hyk⟩ : ∃ y, y = ss.getD k [] := ⟨_, rfl⟩
      rw [← hyk] at hcell
      have HY := Lib.hid hyk
      clear hy hyk
      rcases two (y == x) with e | e
      · go_wp2
        go_ret
        exact ⟨ret_bool (M.inB_at hlt (by rw [← HY.out]; exact e)), rfl⟩
      · go_wp2
        go_round
        case rel => exact ⟨k + 1, by omega, by go_num, M.inB_take hlt HS.out (by rw [← HY.out]; exact e)⟩
        case measure => simp [intOf]; omega
    · go_wp2
      go_ret
      exact ⟨ret_bool (M.inB_end hlt HS.out), rfl⟩
end Go.Proofs.YtpknkhgkejkpkaaGreat

namespace Go.Proofs.YtpknkhgkejkpkaaGreat
open Go.RowKit

end Go.Proofs.YtpknkhgkejkpkaaGreat

namespace Go.Proofs.YtpknkhgkejkpkaaGreat
open Go.RowKit

namespace M
end M
attribute [local go_sem ↓] run_geq_str
end Go.Proofs.YtpknkhgkejkpkaaGreat

namespace Go.Proofs.YtpknkhgkejkpkaaGreat
open Go.RowKit

end Go.Proofs.YtpknkhgkejkpkaaGreat

namespace Go.Proofs.YtpknkhgkejkpkaaGreat
open Go.RowKit Go.Maps

theorem law9 : Keyed Tryz.prog 9 := string_keyed Tryz.underlying9
theorem zero47 (w : World) : (zeroValue 122).run Tryz.prog w = .ok (.agg #[]) w := by kernel_rfl

namespace M
/-- The set of texts. -/
def setL (l : List (List UInt8)) : DataW Unit := setOf (.agg []) (l.map Lit.string)
theorem setL_snoc (l : List (List UInt8)) (x : List UInt8) : setL (l ++ [x]) = (setL l).put (.string x) (.agg []) := by
  unfold setL; rw [List.map_append]; exact setOf_snoc _ _ _
theorem setL_nil : setL [] = .map [] := rfl
theorem any_str (x : List UInt8) : ∀ l : List (List UInt8), (l.map Lit.string).any (fun y => y.sameKey (.string x)) = inB l x
  | [] => rfl
  | y :: l => by
    rw [List.map_cons, List.any_cons, any_str x l, Bool.eq_iff_iff, Bool.or_eq_true, inB_iff, inB_iff, List.mem_cons]
    show ((y == x) = true ∨ x ∈ l) ↔ _
    rw [beq_iff_eq, eq_comm]
theorem has_setL (l : List (List UInt8)) (x : List UInt8) : Maps.has (setL l) (.string x) = inB l x := by
  unfold setL
  rw [has_setOf _ _ _ (fun y hy => by rw [List.mem_map] at hy; obtain ⟨z, _, rfl⟩ := hy; trivial), any_str]
/-- Is one of the ones among the others? -/
def meetB (ss ts : List (List UInt8)) : Bool := ts.any (inB ss)
theorem meetB_iff {ss ts : List (List UInt8)} : meetB ss ts = true ↔ ∃ x, x ∈ ts ∧ x ∈ ss := by simp [meetB, List.any_eq_true, inB]
theorem meet_at {ss ts : List (List UInt8)} {k : Nat} {x : List UInt8} (hk : k < ts.length) (hx : x = ts.getD k []) (h : inB ss x = true) : true = meetB ss ts := by
  rw [eq_comm, meetB_iff]; exact ⟨x, by rw [hx]; exact getD_mem hk, inB_iff.1 h⟩
theorem meet_take {ss ts : List (List UInt8)} {k : Nat} {x : List UInt8} (hk : k < ts.length) (hx : x = ts.getD k []) (h : meetB ss (ts.take k) = false) (hn : inB ss x = false) : meetB ss (ts.take (k + 1)) = false := by
  rw [take_succ hk]
  unfold meetB at *
  rw [List.any_append, h, ← hx]
  simp [hn]
theorem meet_end {ss ts : List (List UInt8)} {k : Nat} (hk : ¬ k < ts.length) (h : meetB ss (ts.take k) = false) : false = meetB ss ts := by
  rw [List.take_of_length_le (by omega)] at h; exact h.symm
end M

theorem key_of {x : List UInt8} (h : x.length ≤ 1000) : keyOf Tryz.prog 9 (.string ⟨x.toArray⟩) = some (.string x) := by
  have := Go.WideMaps.keyOf_string_mk (k := 9) Tryz.underlying9 (s := ⟨x.toArray⟩) (by rw [size_mk]; unfold maxLen; omega)
  simpa using this

set_option maxHeartbeats 2000000 in
set_option maxRecDepth 100000 in
theorem meet_any {w : World} {v u : Value} {ss ts : List (List UInt8)} (h : Words w v ss) (h' : Words w u ts) (hl : ss.length ≤ 1000) (hl' : ts.length ≤ 1000) (hs : ∀ x ∈ ss, x.length ≤ 1000) (hs' : ∀ x ∈ ts, x.length ≤ 1000) :
    Calls Tryz.prog 98 #[v, u] w fun e w' => e = .returned (.bool (M.meetB ss ts)) ∧ Below w.heap.size w w' := by
  obtain ⟨A, c, rfl, hc, hx⟩ := h.opened
  obtain ⟨A', c', rfl, hc', hx'⟩ := h'.opened
  have HX := Lib.hid hx
  have HX' := Lib.hid hx'
  have HL := Lib.hid hs
  have HL' := Lib.hid hs'
  clear hx hx' h h' hs hs'
  have hmm := @run_makeMap Tryz.prog
  go_enter Tryz.func98, Tryz.ntmps98
  go_wp2
  go_loopw [15] (fun i wr => ∃ k : Nat, k ≤ ss.length ∧ i = .int .i64 k ∧ wr.ownsMap Tryz.prog 9 unitElem w.heap.size k (M.setL (ss.take k)) ∧ Below w.heap.size w wr ∧ w.heap.size < wr.heap.size) (fun i _ => ss.length - (intOf i).toNat)
  case atStart => exact ⟨0, Nat.zero_le _, rfl, World.ownsMap_made _ _ _ _, (Below.refl _ _).alloc (Nat.le_refl _) _, by simp⟩
  case round =>
    obtain ⟨k, hk, rfl, hown, hbw, hsz⟩ := hrel
    by_cases hlt : k < ss.length
    · obtain ⟨b, o, rfl, hb, hy⟩ := HX.out (by omega)
      have hcell := (hbw.cell (p := ⟨b, o + k, none⟩) hb).trans (hy k hlt)
      obtain ⟨x, hxk⟩ : ∃ x, x = ss.getD k [] := ⟨_, rfl⟩
      rw [← hxk] at hcell
      have hx1 : x.length ≤ 1000 := by rw [hxk]; exact HL.out _ (M.getD_mem hlt)
      have hkey := Lib.hid (key_of hx1)
      have HT := Lib.hid (show ss.take (k + 1) = ss.take k ++ [x] by rw [M.take_succ hlt, hxk])
      have HO := Lib.hid hown
      have HB := Lib.hid hbw
      clear hy hxk hown hbw
      go_wp2_with (at_mapUpdate; refine wpList_mapUpdate_own _ rfl _ _ _ 121 rfl 9 122 law9 Tryz.underlying121 (unitElem (H := Unit)) w.heap.size k _ rfl HO.out (by unfold maxLen; omega) _ _ _ rfl rfl hkey.out _ [] unitElem_mk ?_; intro w1 hown1 hgrow1)
      have G1 := Lib.hid (show w1.ownsMap Tryz.prog 9 unitElem w.heap.size (k + 1) (M.setL (ss.take (k + 1))) by rw [HT.out, M.setL_snoc]; exact hown1)
      have G2 := Lib.hid (HB.out.grown hgrow1 (by omega) (fun j hj => by cases hj; exact Nat.le_refl _))
      have hsz1 : w.heap.size < w1.heap.size := Nat.lt_of_lt_of_le hsz hgrow1.size
      clear hown1 hgrow1
      go_wp2
      go_roundw
      case rel => exact ⟨k + 1, by omega, by go_num, G1.out, G2.out, hsz1⟩
      case measure => simp [intOf]; omega
    · obtain rfl : k = ss.length := by omega
      rw [List.take_length] at hown
      have HO := Lib.hid hown
      have HB := Lib.hid hbw
      clear hown hbw
      go_wp2
      obtain ⟨w1, hw1⟩ : ∃ w1 : World, w1 = wr := ⟨_, rfl⟩
      go_loopw [25] (fun i wr => ∃ k : Nat, k ≤ ts.length ∧ i = .int .i64 k ∧ wr.ownsMap Tryz.prog 9 unitElem w.heap.size ss.length (M.setL ss) ∧ Below w.heap.size w wr ∧ w.heap.size < wr.heap.size ∧ M.meetB ss (ts.take k) = false) (fun i _ => ts.length - (intOf i).toNat)
      case atStart => exact ⟨0, Nat.zero_le _, rfl, HO.out, HB.out, hsz, rfl⟩
      case round =>
        clear HO HB hsz hw1
        obtain ⟨k, hk, rfl, hown, hbw, hsz, hme⟩ := hrel
        by_cases hlt : k < ts.length
        · obtain ⟨b, o, rfl, hb, hy⟩ := HX'.out (by omega)
          have hcell := (hbw.cell (p := ⟨b, o + k, none⟩) hb).trans (hy k hlt)
          obtain ⟨x, hxk⟩ : ∃ x, x = ts.getD k [] := ⟨_, rfl⟩
          rw [← hxk] at hcell
          have hx1 : x.length ≤ 1000 := by rw [hxk]; exact HL'.out _ (M.getD_mem hlt)
          have hkey := Lib.hid (key_of hx1)
          have HXK := Lib.hid hxk
          have HO := Lib.hid hown
          have HB := Lib.hid hbw
          have HM := Lib.hid hme
          have hhas := M.has_setL ss x
          clear hy hxk hown hbw hme
          rcases two (M.inB ss x) with e | e
          · rw [e] at hhas
            go_wp2_with (at_lookup; refine wpList_lookup_own_unit _ rfl _ _ 121 rfl 9 122 law9 Tryz.underlying121 (zero47 _) w.heap.size ss.length _ rfl HO.out _ _ rfl hkey.out ?_)
            go_ret
            exact ⟨ret_bool (M.meet_at hlt HXK.out e), HB.out.alloc (by omega) _⟩
          · rw [e] at hhas
            go_wp2_with (at_lookup; refine wpList_lookup_own_unit _ rfl _ _ 121 rfl 9 122 law9 Tryz.underlying121 (zero47 _) w.heap.size ss.length _ rfl HO.out _ _ rfl hkey.out ?_)
            go_roundw
            case rel => exact ⟨k + 1, by omega, by go_num, HO.out.alloc _, HB.out.alloc (by omega) _, by simp; omega, M.meet_take hlt HXK.out HM.out e⟩
            case measure => simp [intOf]; omega
        · have HB := Lib.hid hbw
          have HM := Lib.hid hme
          clear hown hbw hme
          go_wp2
          go_ret
          exact ⟨ret_bool (M.meet_end hlt HM.out), HB.out⟩
end Go.Proofs.YtpknkhgkejkpkaaGreat

namespace Go.Proofs.YtpknkhgkejkpkaaGreat
open Go.ChangeShapes Go.WideShapes Go.ChangeAt Go.RowKit

set_option maxHeartbeats 2000000 in
set_option maxRecDepth 100000 in
theorem grow_nil (n : Nat) (w : World) (hn : n ≤ 1000000) : Calls Tryz.prog 104 #[.slice none 0 0, .int .i64 n] w (Made [] w) := by
  obtain ⟨i0, hi, hz0, hz1, hz2⟩ := info_parts info9
  by_cases h0 : n = 0
  · subst h0
    go_enter Tryz.func104, Tryz.ntmps104
    go_wp2
    go_ret
    exact ⟨_, rfl, World.ownsRow_nil _ _ _ _, Below.refl _ _⟩
  · obtain ⟨v', w', hr, hown, hb⟩ : ∃ G w', (Builtin.append_ #[86, 3] 86 #[.slice none 0 0, .int .i64 n]).run Tryz.prog w = .ok (.slice (some ⟨w.heap.size, 0, none⟩) n G) w' ∧ w'.ownsRow w.heap.size 9 1 (.slice (some ⟨w.heap.size, 0, none⟩) 0 G) 0 [] ∧ Below w.heap.size w w' := by
      have h := Lib.run_append_grow_zeros w 86 3 86 9 i0 (.string ⟨#[]⟩) .i64 .i64 Tryz.underlying86 Tryz.underlying3 hi hz0 none 0 0 [] (run_firstCells_none w.drew i0.size 0 0 0) n (by omega) (by omega) (by omega) (by omega)
        (by rw [hz2]; omega) (growslice_fits (by omega) (by rw [hz2]; omega))
      rw [Nat.zero_add] at h
      have hG := grownCap_le_maxLen w n 0 9 (by unfold maxLen; omega)
      have hG2 := grownCap_ge w n 0 9
      refine ⟨_, _, h, ?_, ((Below.refl _ w).drew).alloc (Nat.le_refl _) _⟩
      refine World.ownsRow_made w.drew _ _ (Nat.le_refl _) hG ?_
      simp [size_zeroCells, Value.cells]
      omega
    have HO := Lib.hid hown
    have HB := Lib.hid hb
    clear hown hb
    have hn0 : 0 < n := by omega
    go_enter Tryz.func104, Tryz.ntmps104
    go_wp2_with (at_builtin; refine Lib.wpList_append_run _ rfl _ _ _ _ rfl _ _ rfl rfl _ _ hr ?_)
    go_ret
    exact ⟨_, rfl, HO.out, HB.out⟩
end Go.Proofs.YtpknkhgkejkpkaaGreat

namespace Go.Proofs.YtpknkhgkejkpkaaGreat
open Go.ChangeShapes Go.WideShapes Go.ChangeAt Go.RowKit

set_option maxHeartbeats 2000000 in
set_option maxRecDepth 100000 in
theorem concat_any {w : World} {v u : Value} {ss ts : List (List UInt8)} {b : Nat} (h : Words w v ss) (h' : Words w u ts) (hl : ss.length ≤ 1000) (hl' : ts.length ≤ 1000) (hb : b < w.heap.size) (c0 : w.cell? ⟨b, 0, none⟩ = some v) (c1 : w.cell? ⟨b, 1, none⟩ = some u) :
    Calls Tryz.prog 102 #[.slice (some ⟨b, 0, none⟩) 2 2] w (Made (ss ++ ts) w) := by
  have HV := Lib.hid h
  have HU := Lib.hid h'
  obtain ⟨A, c, rfl, hc, hx⟩ := h.opened
  obtain ⟨A', c', rfl, hc', hx'⟩ := h'.opened
  clear hx hx' h h'
  have hg := grow_nil (ss.length + ts.length) w (by omega)
  rw [Int.natCast_add] at hg
  have HG := Lib.hid hg
  clear hg
  go_enter Tryz.func102, Tryz.ntmps102
  go_wp2
  go_loop [3, 11] (fun n i => At3 i (n = .int .i64 0) (n = .int .i64 ss.length) (n = .int .i64 (ss.length + ts.length))) (fun _ i => 2 - (intOf i).toNat)
  case atStart => exact .inl ⟨rfl, rfl⟩
  case round =>
    rcases hrel with ⟨rfl, rfl⟩ | ⟨rfl, rfl⟩ | ⟨rfl, rfl⟩
    · go_wp2
      go_round
      case rel => exact .inr (.inl ⟨rfl, by simp⟩)
      case measure => simp [intOf]
    · go_wp2
      go_round
      case rel => exact .inr (.inr ⟨rfl, rfl⟩)
      case measure => simp [intOf]
    · go_wp2_with (fail)
      refine HG.out.mono ?_
      rintro e w1 ⟨v1, rfl, hown, hbel⟩
      have HO := Lib.hid hown
      have HB := Lib.hid hbel
      clear hown hbel
      have C0 := Lib.hid c0
      have C1 := Lib.hid c1
      clear c0 c1 HG
      go_wp2
      go_loopw [6, 27] (fun x i wr => At3 i (wr.ownsRow w.heap.size 9 1 x 0 []) (wr.ownsRow w.heap.size 9 1 x ss.length (ss.map encStr)) (wr.ownsRow w.heap.size 9 1 x (ss.length + ts.length) (ss.map encStr ++ ts.map encStr)) ∧ Below w.heap.size w wr) (fun _ i _ => 2 - (intOf i).toNat)
      case atStart => exact ⟨.inl ⟨rfl, HO.out⟩, HB.out⟩
      case round =>
        clear HO HB
        obtain ⟨h3, hbw⟩ := hrel
        have hsz := hbw.size
        have c0 := (hbw.cell (p := ⟨b, 0, none⟩) hb).trans C0.out
        have c1 := (hbw.cell (p := ⟨b, 1, none⟩) hb).trans C1.out
        have HB := Lib.hid hbw
        clear hbw
        rcases h3 with ⟨rfl, hown⟩ | ⟨rfl, hown⟩ | ⟨rfl, hown⟩
        · obtain ⟨v', w', hr, hown', hgr⟩ := append_row hown (Row.below HV.out HB.out) (one_str ss) (by rw [List.length_map]; omega) hsz
          rw [List.length_map, Nat.zero_add, List.nil_append] at hown'
          have HO := Lib.hid hown'
          have HB2 := Lib.hid (HB.out.grown hgr hsz (fun k hk => (hown.lt k hk).1))
          clear hown' hgr c1
          go_wp2_with (at_builtin; refine Lib.wpList_append_run _ rfl _ _ _ _ rfl _ _ rfl rfl _ _ hr ?_)
          go_roundw
          case rel => exact ⟨.inr (.inl ⟨rfl, HO.out⟩), HB2.out⟩
          case measure => simp [intOf]
        · obtain ⟨v', w', hr, hown', hgr⟩ := append_row hown (Row.below HU.out HB.out) (one_str ts) (by rw [List.length_map]; omega) hsz
          rw [List.length_map] at hown'
          have HO := Lib.hid hown'
          have HB2 := Lib.hid (HB.out.grown hgr hsz (fun k hk => (hown.lt k hk).1))
          clear hown' hgr c0
          go_wp2_with (at_builtin; refine Lib.wpList_append_run _ rfl _ _ _ _ rfl _ _ rfl rfl _ _ hr ?_)
          go_roundw
          case rel => exact ⟨.inr (.inr ⟨rfl, HO.out⟩), HB2.out⟩
          case measure => simp [intOf]
        · have HO := Lib.hid hown
          clear hown c0 c1
          go_wp2
          go_ret
          exact ⟨_, rfl, by rw [List.length_append, List.map_append]; exact HO.out, HB.out⟩
end Go.Proofs.YtpknkhgkejkpkaaGreat
