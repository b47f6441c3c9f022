/- Keys, stamps, ballots, instances and deps: plain facts, contracts; no conditions but those that they name. -/
import Derived.Test.YtpknkhgkejkpkaaGreatRows
import Derived.Laws.RangeString
import Derived.Laws.RangeAny
import Derived.WalkKit
import Derived.WalkSpells
import Derived.Lib.Hide
import Derived.Lib.OthersKept
import Derived.BigCall
import Derived.Deep.QuietTactic
import Derived.BigQuiet
import Derived.Maps.AppendAt
import Derived.LoopN
import Derived.ProofKit
import Derived.OpenShut
import Derived.Carry
import Derived.SliceStrings
import Derived.ChangeMaps5
import Derived.Sort.EncStr
import Derived.Sort.Walk0
import Derived.Lib.AppendZerosOnto
import Derived.Lib.SliceRun
import Derived.WalkSmall
import Derived.LoopTactic
import Derived.Deep.LoopGhost

namespace Go.Proofs.YtpknkhgkejkpkaaGreat
namespace M

/-- May a text of n bytes be a key? -/
def rightB (n : Nat) : Bool := decide (1 ≤ n) && decide (n ≤ 8)
theorem rightB_iff {n : Nat} : rightB n = true ↔ 1 ≤ n ∧ n ≤ 8 := by simp [rightB]

/-- The rune at a place, and its width. -/
def rn (s : ByteArray) (p : Nat) : Nat := (Utf8.decode s p).1
def wd (s : ByteArray) (p : Nat) : Nat := (Utf8.decode s p).2

theorem wd_pos (s : ByteArray) (p : Nat) (h : p < s.size) : 1 ≤ wd s p := by
  unfold wd
  by_cases ha : (s[p]'h).toNat < 128
  · rw [decode_ascii s p h ha]; exact Nat.le_refl _
  · exact (decode_high s p h (by omega)).2

theorem wd_le (s : ByteArray) (p : Nat) (h : p < s.size) : p + wd s p ≤ s.size := by
  unfold wd Utf8.decode
  simp only []
  repeat' split
  all_goals simp_all
  all_goals omega

theorem valid_le (c : Nat) (h : Utf8.valid (c : Int) = true) : c ≤ 1114111 := by
  unfold Utf8.valid at h
  rw [Bool.or_eq_true, Bool.and_eq_true, Bool.and_eq_true, decide_eq_true_eq, decide_eq_true_eq, decide_eq_true_eq, decide_eq_true_eq] at h
  omega
theorem err_le : Utf8.runeError ≤ 1114111 := by decide
theorem rn_le (s : ByteArray) (p : Nat) : rn s p ≤ 1114111 := by
  unfold rn Utf8.decode
  simp only []
  split
  · dsimp only; omega
  split
  · split
    · dsimp only; omega
    · exact err_le
  split
  · split
    · rename_i h; rw [Bool.and_eq_true] at h; exact valid_le _ h.2
    · exact err_le
  split
  · split
    · rename_i h; rw [Bool.and_eq_true] at h; exact valid_le _ h.2
    · exact err_le
  · exact err_le

/-- The runes from a place on. -/
def runesFrom (s : ByteArray) : Nat → Nat → List Nat
  | 0, _ => []
  | f + 1, p => if p < s.size then rn s p :: runesFrom s f (p + wd s p) else []
def runes (s : ByteArray) : List Nat := runesFrom s s.size 0

theorem runesFrom_end (s : ByteArray) (f p : Nat) (h : ¬ p < s.size) : runesFrom s f p = [] := by
  cases f with
  | zero => rfl
  | succ f => simp [runesFrom, h]
theorem runesFrom_step (s : ByteArray) (f p : Nat) (h : p < s.size) : runesFrom s (f + 1) p = rn s p :: runesFrom s f (p + wd s p) := by simp [runesFrom, h]
theorem runesFrom_len (s : ByteArray) : ∀ f p, (runesFrom s f p).length ≤ f
  | 0, _ => by simp [runesFrom]
  | f + 1, p => by
    unfold runesFrom
    split
    · have := runesFrom_len s f (p + wd s p)
      simp; omega
    · simp
theorem runesFrom_le (s : ByteArray) : ∀ f p, ∀ r ∈ runesFrom s f p, r ≤ 1114111
  | 0, _ => by simp [runesFrom]
  | f + 1, p => by
    unfold runesFrom
    split
    · intro r hr
      rcases List.mem_cons.1 hr with rfl | hr
      · exact rn_le s p
      · exact runesFrom_le s f _ r hr
    · simp
theorem runes_len (s : ByteArray) : (runes s).length ≤ s.size := runesFrom_len s _ _
theorem runes_le (s : ByteArray) : ∀ r ∈ runes s, r ≤ 1114111 := runesFrom_le s _ _

/-- The weight of runes, those ahead of them counted. -/
def weigh : Nat → List Nat → Nat
  | _, [] => 0
  | k, r :: l => (k + 1) * r + weigh (k + 1) l
theorem weigh_append : ∀ (l m : List Nat) (k : Nat), weigh k (l ++ m) = weigh k l + weigh (k + l.length) m
  | [], m, k => by simp [weigh]
  | r :: l, m, k => by
    simp only [List.cons_append, weigh, weigh_append l m (k + 1), List.length_cons]
    rw [show k + 1 + l.length = k + (l.length + 1) by omega]; omega
theorem weigh_snoc (l : List Nat) (r : Nat) : weigh 0 (l ++ [r]) = weigh 0 l + (l.length + 1) * r := by
  rw [weigh_append]; simp [weigh]
theorem weigh_le : ∀ (l : List Nat) (k : Nat), (∀ r ∈ l, r ≤ 1114111) → weigh k l ≤ 1114111 * ((k + l.length) * l.length)
  | [], k, _ => by simp [weigh]
  | r :: l, k, h => by
    have ih := weigh_le l (k + 1) (fun x hx => h x (by simp [hx]))
    have hr := h r (by simp)
    have h1 : (k + 1) * r ≤ (k + 1) * 1114111 := Nat.mul_le_mul_left _ hr
    simp only [weigh, List.length_cons]
    have e : (k + (l.length + 1)) * (l.length + 1) = (k + 1 + l.length) * l.length + (k + 1 + l.length) := by
      rw [show k + (l.length + 1) = k + 1 + l.length by omega, Nat.mul_add, Nat.mul_one]
    rw [e, Nat.mul_add]
    omega
def weight (s : ByteArray) : Nat := weigh 0 (runes s)
theorem weigh_small (l : List Nat) (h : ∀ r ∈ l, r ≤ 1114111) (hl : l.length ≤ 2000) : weigh 0 l ≤ 4456444000000 := by
  have h1 := weigh_le l 0 h
  have h2 : (0 + l.length) * l.length ≤ 2000 * 2000 := Nat.mul_le_mul (by omega) hl
  have h3 : 1114111 * ((0 + l.length) * l.length) ≤ 1114111 * (2000 * 2000) := Nat.mul_le_mul_left _ h2
  omega
theorem weight_le (s : ByteArray) (h : s.size ≤ 2000) : weight s ≤ 4456444000000 := weigh_small _ (runes_le s) (Nat.le_trans (runes_len s) h)

/-- What is cut off behind a place. -/
theorem get_cut (s : ByteArray) (p k : Nat) : (s.extract p s.size).get! k = s.get! (p + k) := by
  show (s.extract p s.size).data[k]! = s.data[p + k]!
  rw [ByteArray.data_extract]
  by_cases h : p + k < s.data.size
  · have hs : s.size = s.data.size := rfl
    rw [getElem!_pos _ k (by simp; omega), getElem!_pos s.data (p + k) h, Array.getElem_extract]
  · have hs : s.size = s.data.size := rfl
    rw [getElem!_neg _ k (by simp; omega), getElem!_neg s.data (p + k) h]
theorem decode_cut (s : ByteArray) (p : Nat) (h : p ≤ s.size) : Utf8.decode (s.extract p s.size) 0 = Utf8.decode s p := by
  have hs : (s.extract p s.size).size = s.size - p := by rw [ByteArray.size_extract]; omega
  have hc : ∀ k, (k < s.size - p) = (p + k < s.size) := fun k => propext (by omega)
  simp only [Utf8.decode, get_cut, hs, Nat.zero_add, hc, Nat.add_zero]
theorem rn_cut (s : ByteArray) (p : Nat) (h : p ≤ s.size) : rn (s.extract p s.size) 0 = rn s p := by unfold rn; rw [decode_cut s p h]
theorem wd_cut (s : ByteArray) (p : Nat) (h : p ≤ s.size) : wd (s.extract p s.size) 0 = wd s p := by unfold wd; rw [decode_cut s p h]
end M
end Go.Proofs.YtpknkhgkejkpkaaGreat

namespace Go.Proofs.YtpknkhgkejkpkaaGreat
open Go.RowKit

theorem ret_int {k : IntKind} {a b : Int} (h : a = b) : Ending.returned (.int k a) = .returned (.int k b) := by rw [h]
theorem ret_bool {a b : Bool} (h : a = b) : Ending.returned (.bool a) = .returned (.bool b) := by rw [h]
/-- One stretch behind another. -/
theorem below_on {a b c : World} (h : Below a.heap.size a b) (k : Below b.heap.size b c) : Below a.heap.size a c := h.trans (k.mono h.size)
/-- A new block. -/
theorem below_new {a b : World} {o : Obj} (h : Below a.heap.size a b) : Below a.heap.size a (b.alloc o) := h.alloc h.size _

theorem rb_one {n : Nat} (h : 1 ≤ n) : decide ((n : Int) ≤ 8) = M.rightB n := by
  rw [Bool.eq_iff_iff, M.rightB_iff, decide_eq_true_eq]; omega
theorem rb_two {n : Nat} (h : 0 < n) : decide ((n : Int) < 9) = M.rightB n := by
  rw [Bool.eq_iff_iff, M.rightB_iff, decide_eq_true_eq]; omega
theorem rb_no {n : Nat} (h : ¬ 1 ≤ n) : false = M.rightB n := by
  cases e : M.rightB n
  · rfl
  · exact absurd (M.rightB_iff.1 e).1 h

set_option maxHeartbeats 400000 in
theorem right_any (s : ByteArray) (w : World) : Calls Tryz.prog 100 #[.string s] w fun e w' => e = .returned (.bool (M.rightB s.size)) ∧ w = w' := by
  by_cases h1 : 1 ≤ s.size
  · go_enter Tryz.func100, Tryz.ntmps100
    go_wp2
    go_ret
    exact ⟨ret_bool (rb_one h1), rfl⟩
  · go_enter Tryz.func100, Tryz.ntmps100
    go_wp2
    go_ret
    exact ⟨ret_bool (rb_no h1), rfl⟩

set_option maxHeartbeats 400000 in
theorem dright_any (s : ByteArray) (w : World) : Calls Tryz.prog 87 #[.string s] w fun e w' => e = .returned (.bool (M.rightB s.size)) ∧ w = w' := by
  by_cases h1 : 0 < s.size
  · go_enter Tryz.func87, Tryz.ntmps87
    go_wp2
    go_ret
    exact ⟨ret_bool (rb_two h1), rfl⟩
  · go_enter Tryz.func87, Tryz.ntmps87
    go_wp2
    go_ret
    exact ⟨ret_bool (rb_no (by omega)), rfl⟩

theorem wrap_small {n : Nat} (h : n ≤ 1000000000000000) : wrap64 (n : Int) = (n : Int) := by
  unfold wrap64; omega
theorem weigh_wrap (l : List Nat) (r : Nat) (hl : l.length ≤ 2000) (hr : r ≤ 1114111) (hw : M.weigh 0 l ≤ 4456444000000) :
    wrap64 ((M.weigh 0 l : Int) + wrap64 (((l.length : Int) + 1) * (r : Int))) = ((M.weigh 0 (l ++ [r]) : Nat) : Int) := by
  have h1 : (l.length + 1) * r ≤ 2001 * 1114111 := Nat.mul_le_mul (by omega) hr
  have e : ((l.length : Int) + 1) * (r : Int) = (((l.length + 1) * r : Nat) : Int) := by rw [Int.natCast_mul, Int.natCast_add, Int.natCast_one]
  rw [e, wrap_small (by omega), ← Int.natCast_add, wrap_small (by omega), M.weigh_snoc]

theorem len_split {l m : List Nat} {s : ByteArray} (h : l ++ m = M.runes s) : l.length ≤ s.size := by
  have h1 := M.runes_len s
  rw [← h] at h1
  simp at h1
  omega
theorem le_split {l m : List Nat} {s : ByteArray} (h : l ++ m = M.runes s) : ∀ r ∈ l, r ≤ 1114111 := fun r hr => M.runes_le s r (by rw [← h]; simp [hr])

end Go.Proofs.YtpknkhgkejkpkaaGreat

namespace Go.Proofs.YtpknkhgkejkpkaaGreat
open Go.RowKit

theorem below_drewN {a w : World} (h : Below a.heap.size a w) (n : Nat) : Below a.heap.size a (w.drewN n) := ⟨h.os, h.tape, h.output, h.size, h.block⟩
theorem ret_two {a b c d : Int} (h : a = b) (k : c = d) : Ending.returned (.tuple #[.int .i64 a, .int .i64 c]) = .returned (.tuple #[.int .i64 b, .int .i64 d]) := by rw [h, k]
end Go.Proofs.YtpknkhgkejkpkaaGreat

namespace Go.Proofs.YtpknkhgkejkpkaaGreat
open Go.RowKit

theorem info3 : (Tryz.prog.info? 3).map (fun i => (i.zero, i.size, i.bytes)) = some (some (.int .i64 0), 1, 8) := by kernel_rfl

/-- A new row of numbers. -/
def Nums (t : TypeId) (k : IntKind) (l : List Nat) (w : World) (e : Ending) (w' : World) : Prop := ∃ v, e = .returned v ∧ w'.ownsRow w.heap.size t 1 v l.length (l.map fun n => .int k (n : Nat)) ∧ Below w.heap.size w w'

theorem ownsRow_iterAt {w : World} {base : Nat} {t : TypeId} {v : Value} {n : Nat} {xs : List Value} {k : Nat} {s : ByteArray} {p : Nat} (h : w.ownsRow base t 1 v n xs) (hk : w.heap[k]? = some (.stringIter s p)) (q : Nat) : (w.iterAt k s q).ownsRow base t 1 v n xs := by
  refine ⟨h.1, ?_⟩
  rcases h.2 with h0 | ⟨g, cap, cur, hv, hg, hb, r⟩
  · exact .inl h0
  · refine .inr ⟨g, cap, cur, hv, hg, ?_, r⟩
    rw [Lib.iterAt_other w k g s q (fun e => by rw [e, hk] at hb; cases hb)]
    exact hb
theorem ownsRow_base {w : World} {base base' : Nat} {t : TypeId} {v : Value} {n : Nat} {xs : List Value} (h : w.ownsRow base t 1 v n xs) (hb : base' ≤ base) : w.ownsRow base' t 1 v n xs := by
  refine ⟨h.1, ?_⟩
  rcases h.2 with h0 | ⟨g, cap, cur, hv, hg, r⟩
  · exact .inl h0
  · exact .inr ⟨g, cap, cur, hv, Nat.le_trans hb hg, r⟩
theorem iter_grown {w w' : World} {base : Nat} {t : TypeId} {v : Value} {n : Nat} {xs : List Value} {k : Nat} {o : Obj} (h : w.ownsRow base t 1 v n xs) (hb : k < base) (hg : w.grownBy w' v.ownBlock) (hk : w.heap[k]? = some o) : w'.heap[k]? = some o := by
  have hlt : k < w.heap.size := (Array.getElem?_eq_some_iff.1 hk).1
  rw [hg.block k hlt (fun e => by have := (h.lt k e.symm).1; omega)]
  exact hk
theorem iter_alloc {w : World} {k : Nat} {o : Obj} (hk : w.heap[k]? = some o) (x : Obj) : (w.alloc x).heap[k]? = some o := by
  rw [Below.heap_alloc w x k (Array.getElem?_eq_some_iff.1 hk).1]; exact hk

end Go.Proofs.YtpknkhgkejkpkaaGreat

namespace Go.Proofs.YtpknkhgkejkpkaaGreat
open Go.RowKit

/-- A text without its first bytes. -/
def Cut (s : ByteArray) (p : Nat) (t : ByteArray) : Prop := p ≤ s.size ∧ t = s.extract p s.size
theorem Cut.size {s t : ByteArray} {p : Nat} (h : Cut s p t) : t.size = s.size - p := by
  rw [h.2, ByteArray.size_extract]; omega
theorem Cut.whole (s : ByteArray) : Cut s 0 s := ⟨Nat.zero_le _, by simp⟩
theorem Cut.step {s t : ByteArray} {p : Nat} (h : Cut s p t) (hp : p < s.size) : Cut s (p + M.wd s p) (t.extract (M.wd s p) t.size) := by
  have h1 := M.wd_le s p hp
  refine ⟨h1, ?_⟩
  rw [h.size, h.2, ByteArray.extract_extract, show min (p + (s.size - p)) s.size = s.size by have := h.1; omega]
def strLen : Value → Nat
  | .string s => s.size
  | _ => 0

/-- A slice that reads as a list. -/
def Row (w : World) (v : Value) (xs : List Value) : Prop := ∃ (A : Option Addr) (c : Nat), v = .slice A xs.length c ∧ xs.length ≤ c ∧ (0 < xs.length → ∃ b o, A = some ⟨b, o, none⟩ ∧ b < w.heap.size ∧ ∀ k x, xs[k]? = some x → w.cell? ⟨b, o + k, none⟩ = some x)
theorem Row.of_owns {w : World} {base : Nat} {t : TypeId} {v : Value} {n : Nat} {xs : List Value} (h : w.ownsRow base t 1 v n xs) : Row w v xs := by
  obtain ⟨hl, h2⟩ := h
  rw [Nat.mul_one] at hl
  rcases h2 with ⟨rfl, rfl⟩ | ⟨g, cap, cur, rfl, hb, hg, hn, hm, hs, ht⟩
  · exact ⟨none, 0, by rw [hl], by omega, fun h => absurd h (by omega)⟩
  · refine ⟨some ⟨g, 0, none⟩, cap, by rw [hl], by omega, fun _ => ⟨g, 0, rfl, (Array.getElem?_eq_some_iff.1 hg).1, fun k x hx => ?_⟩⟩
    have hk : k < xs.length := (List.getElem?_eq_some_iff.1 hx).1
    have h1 : (cur.toList.take (n * 1))[k]? = some x := by rw [ht]; exact hx
    rw [List.getElem?_take_of_lt (by omega), Array.getElem?_toList] at h1
    simp only [World.cell?, hg, Nat.zero_add, Option.isSome_none, Bool.false_eq_true, if_false]
    exact h1
theorem Row.below {w w' : World} {v : Value} {xs : List Value} (h : Row w v xs) (hb : Below w.heap.size w w') : Row w' v xs := by
  obtain ⟨A, c, e, hl, hc⟩ := h
  refine ⟨A, c, e, hl, fun h0 => ?_⟩
  obtain ⟨b, o, e1, hlt, hx⟩ := hc h0
  exact ⟨b, o, e1, Nat.lt_of_lt_of_le hlt hb.size, fun k x hk => (hb.cell hlt).trans (hx k x hk)⟩

namespace M
theorem weigh_take (l : List Nat) (k : Nat) (h : k < l.length) : weigh 0 (l.take (k + 1)) = weigh 0 (l.take k) + (k + 1) * l.getD k 0 := by
  rw [List.take_add_one, List.getElem?_eq_getElem h]
  simp only [Option.toList]
  rw [weigh_snoc, List.length_take, Nat.min_eq_left (by omega), List.getD, List.getElem?_eq_getElem h]; rfl
theorem weigh_at (l : List Nat) (k j : Nat) (h : ∀ r ∈ l, r ≤ 1114111) (hl : l.length ≤ 2000) (hk : k < l.length) (hj : j ≤ k + 1) : weigh 0 (l.take k) + j * l.getD k 0 ≤ 10000000000000 ∧ l.getD k 0 ≤ 1114111 := by
  have h1 := weigh_small (l.take k) (fun r hr => h r (List.mem_of_mem_take hr)) (by rw [List.length_take]; omega)
  have h2 : l.getD k 0 ≤ 1114111 := by rw [List.getD, List.getElem?_eq_getElem hk]; exact h _ (List.getElem_mem hk)
  have h3 : j * l.getD k 0 ≤ 2001 * 1114111 := Nat.mul_le_mul (by omega) h2
  exact ⟨by omega, h2⟩
end M

end Go.Proofs.YtpknkhgkejkpkaaGreat

namespace Go.Proofs.YtpknkhgkejkpkaaGreat
open Go.RowKit

namespace M
/-- Is there a shard? -/
def okB (l : Nat) (n : Int) : Bool := rightB l && (decide (1 ≤ n) && decide (n ≤ 4))
theorem okB_iff {l : Nat} {n : Int} : okB l n = true ↔ (1 ≤ l ∧ l ≤ 8) ∧ 1 ≤ n ∧ n ≤ 4 := by
  unfold okB; rw [Bool.and_eq_true, rightB_iff, Bool.and_eq_true, decide_eq_true_eq, decide_eq_true_eq]
/-- A text's shard, and why there is none. -/
def sh (s : ByteArray) (n : Int) : Int := if okB s.size n then (weight s : Int) % n else 0
def er (s : ByteArray) (n : Int) : Int := if okB s.size n then 0 else 1
theorem sh_ok {s : ByteArray} {n : Int} (h : okB s.size n = true) : sh s n = (weight s : Int) % n ∧ er s n = 0 := by simp [sh, er, h]
theorem sh_no {s : ByteArray} {n : Int} (h : okB s.size n = false) : sh s n = 0 ∧ er s n = 1 := by simp [sh, er, h]
theorem okB_right {l : Nat} {n : Int} (h : rightB l = false) : okB l n = false := by simp [okB, h]
theorem okB_n {l : Nat} {n : Int} (h : ¬ (1 ≤ n ∧ n ≤ 4)) : okB l n = false := by
  cases e : okB l n
  · rfl
  · exact absurd (okB_iff.1 e).2 h
theorem okB_yes {l : Nat} {n : Int} (h : rightB l = true) (h1 : 1 ≤ n) (h2 : n ≤ 4) : okB l n = true := okB_iff.2 ⟨rightB_iff.1 h, h1, h2⟩
end M

theorem two (b : Bool) : b = true ∨ b = false := by cases b <;> simp

theorem sub_div (a n : Int) : a - a / n * n = a % n := by rw [Int.emod_def, Int.mul_comm n]

theorem wrap_id {a : Int} (h0 : 0 ≤ a) (h1 : a ≤ 1000000000000000) : wrap64 a = a := by unfold wrap64; omega
theorem rem_wrap {a n : Int} (h0 : 0 ≤ a) (h1 : a ≤ 1000000000000000) (hn : 1 ≤ n) : wrap64 (a - wrap64 (wrap64 (a / n) * n)) = a - a / n * n := by
  have hq : 0 ≤ a / n := Int.ediv_nonneg h0 (by omega)
  have hq1 : a / n ≤ a := Int.ediv_le_self _ h0
  have hq2 : a / n * n ≤ a := Int.ediv_mul_le _ (by omega)
  have hq3 : 0 ≤ a / n * n := Int.mul_nonneg hq (by omega)
  rw [wrap_id hq (by omega), wrap_id hq3 (by omega), wrap_id (by omega) (by omega)]

end Go.Proofs.YtpknkhgkejkpkaaGreat

namespace Go.Proofs.YtpknkhgkejkpkaaGreat
namespace M

/-- Few texts, and short. -/
def fewB (ss : List (List UInt8)) : Bool := (ss.take 41).all (fun x => decide (x.length ≤ 100)) && decide (ss.length ≤ 40)
def Few (ss : List (List UInt8)) : Prop := ss.length ≤ 40 ∧ ∀ x ∈ ss, x.length ≤ 100
theorem fewB_iff {ss : List (List UInt8)} : fewB ss = true ↔ Few ss := by
  unfold fewB Few
  rw [Bool.and_eq_true, decide_eq_true_eq, List.all_eq_true]
  constructor
  · rintro ⟨h, hl⟩
    exact ⟨hl, fun x hx => by have := h x (by rw [List.take_of_length_le (by omega)]; exact hx); simpa using this⟩
  · rintro ⟨hl, h⟩
    exact ⟨fun x hx => by simpa using h x (List.mem_of_mem_take hx), hl⟩
/-- The first ones are short. -/
def shortTo (ss : List (List UInt8)) (k : Nat) : Prop := ∀ x ∈ ss.take k, x.length ≤ 100
theorem shortTo_zero (ss : List (List UInt8)) : shortTo ss 0 := by intro x hx; simp at hx
theorem getD_mem {ss : List (List UInt8)} {k : Nat} (h : k < ss.length) : ss.getD k [] ∈ ss := by
  rw [List.getD, List.getElem?_eq_getElem h]; exact List.getElem_mem h
theorem take_succ {ss : List (List UInt8)} {k : Nat} (h : k < ss.length) : ss.take (k + 1) = ss.take k ++ [ss.getD k []] := by
  rw [List.take_add_one, List.getD, List.getElem?_eq_getElem h]; rfl
theorem shortTo_succ {ss : List (List UInt8)} {k : Nat} (h : shortTo ss k) (hk : k < ss.length) (hx : (ss.getD k []).length ≤ 100) : shortTo ss (k + 1) := by
  intro x hx'
  rw [take_succ hk, List.mem_append, List.mem_singleton] at hx'
  rcases hx' with hx' | rfl
  · exact h x hx'
  · exact hx
theorem few_not {ss : List (List UInt8)} {k : Nat} (hk : k < ss.length) (hx : 100 < (ss.getD k []).length) : fewB ss = false := by
  cases e : fewB ss
  · rfl
  · have := (fewB_iff.1 e).2 _ (getD_mem hk)
    omega
theorem few_end {ss : List (List UInt8)} {k : Nat} (h : shortTo ss k) (hk : ¬ (k < ss.length ∧ k ≤ 40)) : decide ((ss.length : Int) ≤ 40) = fewB ss := by
  rw [Bool.eq_iff_iff, decide_eq_true_eq, fewB_iff]
  constructor
  · intro hl
    exact ⟨by omega, fun x hx => h x (by rw [List.take_of_length_le (by omega)]; exact hx)⟩
  · intro hf
    have := hf.1; omega

/-- Is a text among others? -/
def inB (ss : List (List UInt8)) (k : List UInt8) : Bool := decide (k ∈ ss)
theorem inB_iff {ss : List (List UInt8)} {k : List UInt8} : inB ss k = true ↔ k ∈ ss := by simp [inB]
theorem inB_not {ss : List (List UInt8)} {k : List UInt8} : inB ss k = false ↔ k ∉ ss := by simp [inB]
theorem inB_at {ss : List (List UInt8)} {k : Nat} {x : List UInt8} (hk : k < ss.length) (h : (ss.getD k [] == x) = true) : true = inB ss x := by
  rw [eq_comm, inB_iff, ← (beq_iff_eq.1 h)]; exact getD_mem hk
theorem inB_take {ss : List (List UInt8)} {k : Nat} {x : List UInt8} (hk : k < ss.length) (h : inB (ss.take k) x = false) (hx : (ss.getD k [] == x) = false) : inB (ss.take (k + 1)) x = false := by
  rw [inB_not] at *
  rw [take_succ hk, List.mem_append, List.mem_singleton]
  rintro (h1 | h1)
  · exact h h1
  · rw [← h1] at hx; simp at hx
theorem inB_end {ss : List (List UInt8)} {k : Nat} {x : List UInt8} (hk : ¬ k < ss.length) (h : inB (ss.take k) x = false) : false = inB ss x := by
  rw [List.take_of_length_le (by omega)] at h; exact h.symm

/-- Are two lists the same? -/
def sameB (ss ts : List (List UInt8)) : Bool := decide (ss = ts)
theorem same_take {ss ts : List (List UInt8)} {k : Nat} (hk : k < ss.length) (hl : ss.length = ts.length) (h : ss.take k = ts.take k) (hx : ss.getD k [] = ts.getD k []) : ss.take (k + 1) = ts.take (k + 1) := by
  rw [take_succ hk, take_succ (by omega), h, hx]
theorem same_not {ss ts : List (List UInt8)} {k : Nat} (hx : ss.getD k [] ≠ ts.getD k []) : false = sameB ss ts := by
  unfold sameB; rw [eq_comm, decide_eq_false_iff_not]; rintro rfl; exact hx rfl
theorem same_len {ss ts : List (List UInt8)} (h : ss.length ≠ ts.length) : false = sameB ss ts := by
  unfold sameB; rw [eq_comm, decide_eq_false_iff_not]; rintro rfl; exact h rfl
theorem same_end {ss ts : List (List UInt8)} {k : Nat} (hk : ¬ k < ss.length) (hl : ss.length = ts.length) (h : ss.take k = ts.take k) : true = sameB ss ts := by
  rw [List.take_of_length_le (by omega), List.take_of_length_le (by omega)] at h
  unfold sameB; rw [eq_comm, decide_eq_true_eq]; exact h
theorem sameB_refl (ss : List (List UInt8)) : sameB ss ss = true := by simp [sameB]

/-- Ahead, byte by byte. -/
def ltB (a b : List UInt8) : Bool := decide (a < b)
theorem ltB_iff {a b : List UInt8} : ltB a b = true ↔ a < b := by simp [ltB]
theorem lt_step {c d : UInt8} {a b : List UInt8} : (c :: a < d :: b) ↔ (c < d ∨ c = d ∧ a < b) := List.cons_lt_cons_iff
/-- Two texts that begin alike. -/
theorem lt_drop (a b : List UInt8) (k : Nat) (h : a.take k = b.take k) (ha : k ≤ a.length) (hb : k ≤ b.length) : ltB a b = ltB (a.drop k) (b.drop k) := by
  induction k generalizing a b with
  | zero => rfl
  | succ k ih =>
    match a, b with
    | [], _ => simp at ha
    | _, [] => simp at hb
    | c :: a, d :: b =>
      simp only [List.take_succ_cons, List.cons.injEq] at h
      obtain ⟨rfl, h⟩ := h
      have := ih a b h (by simpa using ha) (by simpa using hb)
      simp only [List.drop_succ_cons]
      rw [← this]
      unfold ltB
      exact decide_eq_decide.2 (by rw [lt_step]; constructor
                                   · rintro (h | h)
                                     · exact absurd h (UInt8.lt_irrefl _)
                                     · exact h.2
                                   · exact fun h => .inr ⟨rfl, h⟩)
theorem lt_short {a b : List UInt8} {k : Nat} (h : a.take k = b.take k) (ha : k = a.length) (hb : k < b.length) : true = ltB a b := by
  rw [lt_drop a b k h (by omega) (by omega), ha, List.drop_length, eq_comm, ltB_iff]
  cases e : b.drop a.length with
  | nil => have := congrArg List.length e; simp at this; omega
  | cons => simp
theorem lt_long {a b : List UInt8} {k : Nat} (h : a.take k = b.take k) (ha : k ≤ a.length) (hb : k = b.length) : false = ltB a b := by
  rw [lt_drop a b k h (by omega) (by omega), hb, List.drop_length]
  simp [ltB]
theorem lt_byte {a b : List UInt8} {k : Nat} (h : a.take k = b.take k) (ha : k < a.length) (hb : k < b.length) (hne : a[k] ≠ b[k]) : decide (a[k] < b[k]) = ltB a b := by
  rw [lt_drop a b k h (by omega) (by omega), List.drop_eq_getElem_cons ha, List.drop_eq_getElem_cons hb]
  unfold ltB
  exact decide_eq_decide.2 (by rw [lt_step]; constructor
                               · exact fun h => .inl h
                               · rintro (h | h)
                                 · exact h
                                 · exact absurd h.1 hne)
theorem take_byte {a b : List UInt8} {k : Nat} (h : a.take k = b.take k) (ha : k < a.length) (hb : k < b.length) (he : a[k] = b[k]) : a.take (k + 1) = b.take (k + 1) := by
  rw [List.take_add_one, List.take_add_one, h, List.getElem?_eq_getElem ha, List.getElem?_eq_getElem hb, he]

/-- Rising lists. -/
def Asc (l : List (List UInt8)) : Prop := l.Pairwise (· < ·)
theorem asc_ext {l m : List (List UInt8)} (hl : Asc l) (hm : Asc m) (h : ∀ x, x ∈ l ↔ x ∈ m) : l = m := by
  have nd : ∀ {l : List (List UInt8)}, Asc l → l.Nodup := fun h => h.imp (fun {a b} hab => by rintro rfl; exact List.lt_irrefl _ hab)
  refine List.Perm.eq_of_pairwise (le := (· < ·)) (fun a b _ _ h1 h2 => absurd (List.lt_trans h1 h2) (List.lt_irrefl _)) hl hm ?_
  exact (List.perm_ext_iff_of_nodup (nd hl) (nd hm)).2 h

/-- What is gathered, each once. -/
def add (acc : List (List UInt8)) (x : List UInt8) : List (List UInt8) := if inB acc x then acc else acc ++ [x]
def gat (l : List (List UInt8)) : List (List UInt8) := l.foldl add []
theorem add_mem (acc : List (List UInt8)) (x y : List UInt8) : y ∈ add acc x ↔ y ∈ acc ∨ y = x := by
  unfold add
  split
  · rename_i h
    rw [inB_iff] at h
    constructor
    · exact .inl
    · rintro (h1 | rfl)
      · exact h1
      · exact h
  · simp
theorem add_nodup {acc : List (List UInt8)} (h : acc.Nodup) (x : List UInt8) : (add acc x).Nodup := by
  unfold add
  split
  · exact h
  · rename_i hn
    rw [Bool.not_eq_true, inB_not] at hn
    rw [List.nodup_append]
    exact ⟨h, by simp, fun a ha b hb => by simp at hb; subst hb; rintro rfl; exact hn ha⟩
theorem foldl_add_mem : ∀ (l acc : List (List UInt8)) (y : List UInt8), y ∈ l.foldl add acc ↔ y ∈ acc ∨ y ∈ l
  | [], acc, y => by simp
  | x :: l, acc, y => by rw [List.foldl_cons, foldl_add_mem l, add_mem, List.mem_cons, or_assoc]
theorem foldl_add_nodup : ∀ (l acc : List (List UInt8)), acc.Nodup → (l.foldl add acc).Nodup
  | [], _, h => h
  | x :: l, acc, h => by rw [List.foldl_cons]; exact foldl_add_nodup l _ (add_nodup h x)
theorem gat_mem (l : List (List UInt8)) (y : List UInt8) : y ∈ gat l ↔ y ∈ l := by unfold gat; rw [foldl_add_mem]; simp
theorem gat_nodup (l : List (List UInt8)) : (gat l).Nodup := foldl_add_nodup l [] (by simp)
theorem add_len (acc : List (List UInt8)) (x : List UInt8) : (add acc x).length ≤ acc.length + 1 := by unfold add; split <;> simp
theorem foldl_add_len : ∀ (l acc : List (List UInt8)), (l.foldl add acc).length ≤ acc.length + l.length
  | [], _ => by simp
  | x :: l, acc => by
    rw [List.foldl_cons]
    have h1 := foldl_add_len l (add acc x)
    have h2 := add_len acc x
    simp; omega
theorem gat_len (l : List (List UInt8)) : (gat l).length ≤ l.length := by unfold gat; have := foldl_add_len l []; simpa using this
theorem gat_snoc (l : List (List UInt8)) (k : Nat) (h : k < l.length) : gat (l.take (k + 1)) = add (gat (l.take k)) (l.getD k []) := by
  rw [take_succ h]; unfold gat; rw [List.foldl_append]; rfl

/-- All of both, rising. -/
def srt (l : List (List UInt8)) : List (List UInt8) := l.mergeSort (fun x y => decide (x ≤ y))
def join (ss ts : List (List UInt8)) : List (List UInt8) := srt (gat (ss ++ ts))
theorem srt_mem (l : List (List UInt8)) (y : List UInt8) : y ∈ srt l ↔ y ∈ l := List.mem_mergeSort
theorem srt_len (l : List (List UInt8)) : (srt l).length = l.length := List.length_mergeSort l
theorem srt_asc {l : List (List UInt8)} (h : l.Nodup) : Asc (srt l) := by
  have h1 : (srt l).Pairwise (fun x y => decide (x ≤ y) = true) := List.pairwise_mergeSort (fun a b c h k => by rw [decide_eq_true_eq] at *; exact List.le_trans h k)
    (fun a b => by rw [Bool.or_eq_true, decide_eq_true_eq, decide_eq_true_eq]; exact List.le_total a b) l
  have h2 : (srt l).Nodup := (List.mergeSort_perm l _).nodup_iff.2 h
  exact h1.imp₂ (fun a b hab hne => by
    rw [decide_eq_true_eq] at hab
    rcases List.le_iff_lt_or_eq.1 hab with h | h
    · exact h
    · exact absurd h hne) h2
theorem join_mem (ss ts : List (List UInt8)) (y : List UInt8) : y ∈ join ss ts ↔ y ∈ ss ∨ y ∈ ts := by
  unfold join; rw [srt_mem, gat_mem, List.mem_append]
theorem join_asc (ss ts : List (List UInt8)) : Asc (join ss ts) := srt_asc (gat_nodup _)
theorem join_len (ss ts : List (List UInt8)) : (join ss ts).length ≤ ss.length + ts.length := by
  unfold join; rw [srt_len]; have := gat_len (ss ++ ts); simpa using this
theorem join_comm (ss ts : List (List UInt8)) : join ss ts = join ts ss := asc_ext (join_asc _ _) (join_asc _ _) (fun x => by rw [join_mem, join_mem, or_comm])
theorem join_self {j : List (List UInt8)} (h : Asc j) : join j j = j := asc_ext (join_asc _ _) h (fun x => by rw [join_mem, or_self])

/-- One put in at its place. -/
def ins (out : List (List UInt8)) (x : List UInt8) : List (List UInt8) := if inB out x then out else out.takeWhile (ltB · x) ++ x :: out.dropWhile (ltB · x)
def djoin (ss ts : List (List UInt8)) : List (List UInt8) := (ss ++ ts).foldl ins []
theorem ins_mem (out : List (List UInt8)) (x y : List UInt8) : y ∈ ins out x ↔ y ∈ out ∨ y = x := by
  unfold ins
  split
  · rename_i h
    rw [inB_iff] at h
    constructor
    · exact .inl
    · rintro (h1 | rfl)
      · exact h1
      · exact h
  · conv => rhs; lhs; rw [← List.takeWhile_append_dropWhile (p := (ltB · x)) (l := out)]
    simp only [List.mem_append, List.mem_cons]
    constructor
    · rintro (h | h | h)
      · exact .inl (.inl h)
      · exact .inr h
      · exact .inl (.inr h)
    · rintro ((h | h) | h)
      · exact .inl h
      · exact .inr (.inr h)
      · exact .inr (.inl h)
theorem drop_ge (x : List UInt8) : ∀ (l : List (List UInt8)), Asc l → x ∉ l → ∀ y ∈ l.dropWhile (ltB · x), x < y
  | [], _, _, y, hy => by simp at hy
  | z :: l, h, hn, y, hy => by
    rw [List.dropWhile_cons] at hy
    split at hy
    · exact drop_ge x l (List.pairwise_cons.1 h).2 (fun hx => hn (by simp [hx])) y hy
    · rename_i hz
      have hz' : ¬ z < x := fun h => hz (ltB_iff.2 h)
      have hxz : x < z := by
        rcases List.le_iff_lt_or_eq.1 (List.not_lt.1 hz') with h | h
        · exact h
        · exact absurd (by simp [h]) hn
      rcases List.mem_cons.1 hy with rfl | hy
      · exact hxz
      · exact List.lt_trans hxz ((List.pairwise_cons.1 h).1 y hy)
theorem take_lt (x : List UInt8) : ∀ (l : List (List UInt8)), ∀ y ∈ l.takeWhile (ltB · x), y < x
  | [], y, hy => by simp at hy
  | z :: l, y, hy => by
    rw [List.takeWhile_cons] at hy
    split at hy
    · rename_i hz
      rcases List.mem_cons.1 hy with rfl | hy
      · exact ltB_iff.1 hz
      · exact take_lt x l y hy
    · simp at hy
theorem ins_asc {out : List (List UInt8)} (h : Asc out) (x : List UInt8) : Asc (ins out x) := by
  unfold ins
  split
  · exact h
  · rename_i hn
    rw [Bool.not_eq_true, inB_not] at hn
    have hsplit : Asc (out.takeWhile (ltB · x) ++ out.dropWhile (ltB · x)) := by rw [List.takeWhile_append_dropWhile]; exact h
    unfold Asc at *
    rw [List.pairwise_append] at hsplit ⊢
    refine ⟨hsplit.1, List.pairwise_cons.2 ⟨drop_ge x out h hn, hsplit.2.1⟩, fun a ha b hb => ?_⟩
    have h1 := take_lt x out a ha
    rcases List.mem_cons.1 hb with rfl | hb
    · exact h1
    · exact List.lt_trans h1 (drop_ge x out h hn b hb)
theorem foldl_ins : ∀ (l out : List (List UInt8)), Asc out → Asc (l.foldl ins out) ∧ ∀ y, y ∈ l.foldl ins out ↔ y ∈ out ∨ y ∈ l
  | [], out, h => ⟨h, fun y => by simp⟩
  | x :: l, out, h => by
    rw [List.foldl_cons]
    obtain ⟨h1, h2⟩ := foldl_ins l (ins out x) (ins_asc h x)
    exact ⟨h1, fun y => by rw [h2, ins_mem, List.mem_cons, or_assoc]⟩
theorem djoin_eq (ss ts : List (List UInt8)) : djoin ss ts = join ss ts := by
  obtain ⟨h1, h2⟩ := foldl_ins (ss ++ ts) [] List.Pairwise.nil
  refine asc_ext h1 (join_asc _ _) (fun x => ?_)
  have := h2 x
  unfold djoin
  rw [this, join_mem]; simp
theorem ins_len (out : List (List UInt8)) (x : List UInt8) : (ins out x).length ≤ out.length + 1 := by
  unfold ins
  split
  · omega
  · have := congrArg List.length (List.takeWhile_append_dropWhile (p := (ltB · x)) (l := out))
    rw [List.length_append] at this
    rw [List.length_append, List.length_cons]
    omega
theorem foldl_ins_len : ∀ (l out : List (List UInt8)), (l.foldl ins out).length ≤ out.length + l.length
  | [], _ => by simp
  | x :: l, out => by
    rw [List.foldl_cons]
    have h1 := foldl_ins_len l (ins out x)
    have h2 := ins_len out x
    simp; omega
end M
end Go.Proofs.YtpknkhgkejkpkaaGreat

namespace Go.Proofs.YtpknkhgkejkpkaaGreat
open Go.ChangeShapes Go.WideShapes Go.ChangeAt Go.RowKit

theorem own : ownKnob Tryz.prog.godebug = none := by kernel_rfl
theorem laidOut : laidOutB Tryz.prog = true := by kernel_rfl
theorem cells9 : Tryz.prog.cellsOf 9 = 1 := by kernel_rfl

/-- A slice of texts. -/
def Words (w : World) (v : Value) (ss : List (List UInt8)) : Prop := Row w v (ss.map encStr)
theorem Words.below {w w' : World} {v : Value} {ss : List (List UInt8)} (h : Words w v ss) (hb : Below w.heap.size w w') : Words w' v ss := Row.below h hb
theorem enc_of (s : ByteArray) : encStr s.data.toList = .string s := by cases s; simp [encStr]

end Go.Proofs.YtpknkhgkejkpkaaGreat

namespace Go.Proofs.YtpknkhgkejkpkaaGreat
open Go.RowKit

theorem Words.opened {w : World} {v : Value} {ss : List (List UInt8)} (h : Words w v ss) : ∃ (A : Option Addr) (c : Nat), v = .slice A ss.length c ∧ ss.length ≤ c ∧ (0 < ss.length → ∃ b o, A = some ⟨b, o, none⟩ ∧ b < w.heap.size ∧ ∀ k, k < ss.length → w.cell? ⟨b, o + k, none⟩ = some (.string ⟨(ss.getD k []).toArray⟩)) := by
  obtain ⟨A, c, e, hl, hx⟩ := h
  rw [List.length_map] at e hl hx
  refine ⟨A, c, e, hl, fun h0 => ?_⟩
  obtain ⟨b, o, e1, hb, hy⟩ := hx h0
  exact ⟨b, o, e1, hb, fun k hk => hy k _ (by rw [List.getElem?_map, List.getD, List.getElem?_eq_getElem hk]; rfl)⟩
theorem size_mk (x : List UInt8) : (⟨x.toArray⟩ : ByteArray).size = x.length := by simp [ByteArray.size]

end Go.Proofs.YtpknkhgkejkpkaaGreat

namespace Go.Proofs.YtpknkhgkejkpkaaGreat
open Go.RowKit

theorem byte_at (a : List UInt8) (s : ByteArray) (hs : s = ⟨a.toArray⟩) (k : Nat) (h : k < s.size) (h' : k < a.length) : (s[k]'h).toNat = (a[k]'h').toNat := by
  subst hs; rfl

set_option maxHeartbeats 1000000 in
theorem before_any (a b : List UInt8) (w : World) (ha : a.length ≤ 1000000) (hb : b.length ≤ 1000000) : Calls Tryz.prog 88 #[.string ⟨a.toArray⟩, .string ⟨b.toArray⟩] w fun e w' => e = .returned (.bool (M.ltB a b)) ∧ ∃ n, w' = w.drewN n := by
  obtain ⟨s, hs⟩ : ∃ s : ByteArray, s = ⟨a.toArray⟩ := ⟨_, rfl⟩
  obtain ⟨t, ht⟩ : ∃ t : ByteArray, t = ⟨b.toArray⟩ := ⟨_, rfl⟩
  rw [← hs, ← ht]
  have HS := Lib.hid hs
  have HT := Lib.hid ht
  have hsz : s.size = a.length := by rw [hs, size_mk]
  have htz : t.size = b.length := by rw [ht, size_mk]
  have ZS := Lib.hid hsz
  have ZT := Lib.hid htz
  have ha' : s.size ≤ 1000000 := by omega
  have hb' : t.size ≤ 1000000 := by omega
  clear hs ht hsz htz
  go_enter Tryz.func88, Tryz.ntmps88
  go_wp2
  go_loopw [5] (fun i wr => ∃ k n : Nat, k ≤ t.size ∧ k ≤ s.size ∧ i = .int .i64 k ∧ wr = w.drewN n ∧ a.take k = b.take k) (fun i _ => t.size - (intOf i).toNat)
  case atStart => exact ⟨0, 0, Nat.zero_le _, Nat.zero_le _, rfl, rfl, rfl⟩
  case round =>
    obtain ⟨k, n, hk, hk2, rfl, rfl, htk⟩ := hrel
    have HK := Lib.hid htk
    clear htk
    by_cases hlt : k < t.size
    · by_cases hks : k = s.size
      · have q1 : ((k : Int) == (s.size : Int)) = true := by rw [beq_iff_eq]; omega
        go_wp2
        go_ret
        exact ⟨ret_bool (M.lt_short HK.out (by have := ZS.out; omega) (by have := ZT.out; omega)), _, rfl⟩
      · have q1 : ((k : Int) == (s.size : Int)) = false := by rw [beq_eq_false_iff_ne]; omega
        have q2 : (k == s.size) = false := by rw [beq_eq_false_iff_ne]; exact hks
        have hls : k < s.size := by omega
        have ka : k < a.length := by have := ZS.out; omega
        have kb : k < b.length := by have := ZT.out; omega
        have e1 := byte_at a s HS.out k hls ka
        have e2 := byte_at b t HT.out k hlt kb
        obtain ⟨x, hx⟩ : ∃ x, x = (a[k]'ka).toNat := ⟨_, rfl⟩
        obtain ⟨y, hy⟩ : ∃ y, y = (b[k]'kb).toNat := ⟨_, rfl⟩
        rw [← hx] at e1
        rw [← hy] at e2
        have X := Lib.hid hx
        have Y := Lib.hid hy
        have x256 : x < 256 := by rw [hx]; exact (a[k]'ka).toNat_lt
        have y256 : y < 256 := by rw [hy]; exact (b[k]'kb).toNat_lt
        clear hx hy
        have i1 : (k : Int) < (s.size : Int) := by omega
        have i2 : (k : Int) < (t.size : Int) := by omega
        by_cases hxy : x = y
        · have heq : (a[k]'ka) = (b[k]'kb) := UInt8.toNat_inj.1 (by rw [← X.out, ← Y.out, hxy])
          have HE := Lib.hid heq
          clear heq
          go_wp2
          go_quiet (fail)
          go_wp2
          go_roundw
          case rel => exact ⟨k + 1, _, by omega, by omega, by go_num, rfl, M.take_byte HK.out ka kb HE.out⟩
          case measure => simp [intOf]; omega
        · have q3 : ((x : Int) == (y : Int)) = false := by rw [beq_eq_false_iff_ne]; omega
          have q4 : ((x : Int) != (y : Int)) = true := by rw [bne, q3]; rfl
          have q5 : (x == y) = false := by rw [beq_eq_false_iff_ne]; exact hxy
          have q6 : (x != y) = true := by rw [bne, q5]; rfl
          have hne : (a[k]'ka) ≠ (b[k]'kb) := fun h => hxy (by rw [X.out, Y.out, h])
          go_wp2
          go_quiet (fail)
          go_wp2
          go_quiet (fail)
          go_wp2
          go_ret
          refine ⟨ret_bool ?_, _, by rw [World.drewN_drewN, World.drewN_drewN]⟩
          rw [← M.lt_byte HK.out ka kb hne]
          exact decide_eq_decide.2 (by rw [UInt8.lt_iff_toNat_lt, ← X.out, ← Y.out])
    · go_wp2
      go_ret
      exact ⟨ret_bool (M.lt_long HK.out (by have := ZS.out; omega) (by have := ZT.out; omega)), _, rfl⟩
end Go.Proofs.YtpknkhgkejkpkaaGreat

namespace Go.Proofs.YtpknkhgkejkpkaaGreat
open Go.RowKit

namespace M
/-- May a text stand where it stands? -/
def okAt (ss : List (List UInt8)) (k : Nat) : Bool := rightB (ss.getD k []).length && (decide (k = 0) || ltB (ss.getD (k - 1) []) (ss.getD k []))
def okTo (ss : List (List UInt8)) (k : Nat) : Prop := ∀ i, i < k → okAt ss i = true
def rightsB (ss : List (List UInt8)) : Bool := decide (ss.length ≤ 8) && (List.range ss.length).all (okAt ss)
theorem rightsB_to {ss : List (List UInt8)} : rightsB ss = true ↔ ss.length ≤ 8 ∧ okTo ss ss.length := by simp [rightsB, okTo]
theorem okTo_zero (ss : List (List UInt8)) : okTo ss 0 := fun i h => absurd h (by omega)
theorem okTo_succ {ss : List (List UInt8)} {k : Nat} (h : okTo ss k) (hk : okAt ss k = true) : okTo ss (k + 1) := fun i hi => by
  by_cases e : i = k
  · rw [e]; exact hk
  · exact h i (by omega)
theorem rights_no {ss : List (List UInt8)} {k : Nat} (hk : k < ss.length) (h : okAt ss k = false) : false = rightsB ss := by
  cases e : rightsB ss
  · rfl
  · rw [(rightsB_to.1 e).2 k hk] at h; cases h
theorem rights_long {ss : List (List UInt8)} (h : ¬ ss.length ≤ 8) : false = rightsB ss := by simp [rightsB, h]
theorem rights_end {ss : List (List UInt8)} {k : Nat} (h : okTo ss k) (hk : ¬ k < ss.length) (hl : ss.length ≤ 8) : true = rightsB ss := by
  rw [eq_comm, rightsB_to]; exact ⟨hl, fun i hi => h i (by omega)⟩
theorem rights_len {ss : List (List UInt8)} {k : Nat} (h : okTo ss k) (hk : ¬ k < ss.length) : decide ((ss.length : Int) ≤ 8) = rightsB ss := by
  rw [Bool.eq_iff_iff, decide_eq_true_eq, rightsB_to]
  constructor
  · intro hl; exact ⟨by omega, fun i hi => h i (by omega)⟩
  · rintro ⟨hl, _⟩; omega
theorem okAt_zero {ss : List (List UInt8)} {x : List UInt8} (hx : x = ss.getD 0 []) : okAt ss 0 = rightB x.length := by simp [okAt, hx]
theorem okAt_succ {ss : List (List UInt8)} {x y : List UInt8} {j : Nat} (hx : x = ss.getD (j + 1) []) (hy : y = ss.getD j []) : okAt ss (j + 1) = (rightB x.length && ltB y x) := by simp [okAt, hx, hy]
end M
theorem less_is (x y : List UInt8) : Op.bytesLess x y = M.ltB x y := bytesLess_eq x y

theorem run_geq_str (P : Program) (w : World) (t : TypeId) (x y : List UInt8) : (binOp .geq t (.string ⟨x.toArray⟩) (.string ⟨y.toArray⟩)).run P w = .ok (.bool (!M.ltB x y)) w := by
  simp [binOp, Op.stringOp, less_is]
theorem right_l (x : List UInt8) (w : World) : Calls Tryz.prog 100 #[.string ⟨x.toArray⟩] w fun e w' => e = .returned (.bool (M.rightB x.length)) ∧ w = w' := by
  have := right_any ⟨x.toArray⟩ w
  rw [size_mk] at this
  exact this
theorem dright_l (x : List UInt8) (w : World) : Calls Tryz.prog 87 #[.string ⟨x.toArray⟩] w fun e w' => e = .returned (.bool (M.rightB x.length)) ∧ w = w' := by
  have := dright_any ⟨x.toArray⟩ w
  rw [size_mk] at this
  exact this

attribute [local go_sem ↓] run_geq_str
set_option maxHeartbeats 2000000 in
theorem rights_any {w : World} {v : Value} {ss : List (List UInt8)} (h : Words w v ss) : Calls Tryz.prog 95 #[v] w fun e w' => e = .returned (.bool (M.rightsB ss)) ∧ w = w' := by
  obtain ⟨A, c, rfl, hc, hx⟩ := h.opened
  have HX := Lib.hid hx
  clear hx h
  by_cases hl : ss.length ≤ 8
  · go_enter Tryz.func95, Tryz.ntmps95
    go_wp2
    go_loop [10] (fun i => ∃ k : Nat, k ≤ ss.length ∧ i = .int .i64 k ∧ M.okTo ss k) (fun i => ss.length - (intOf i).toNat)
    case atStart => exact ⟨0, Nat.zero_le _, rfl, M.okTo_zero ss⟩
    case round =>
      obtain ⟨k, hk, rfl, hok⟩ := hrel
      have HS := Lib.hid hok
      clear hok
      by_cases hlt : k < ss.length
      · obtain ⟨b, o, rfl, hb, hy⟩ := HX.out (by omega)
        have hcell := hy k hlt
        obtain ⟨x, hxk⟩ : ∃ x, x = ss.getD k [] := ⟨_, rfl⟩
        rw [← hxk] at hcell
        have HXK := Lib.hid hxk
        clear hxk
        cases k with
        | zero =>
          rw [Nat.add_zero] at hcell
          clear hy
          rcases two (M.rightB x.length) with e | e
          · go_wp2_with (go_at_call 100; refine (right_l _ _).mono ?_; rintro e w' ⟨rfl, rfl⟩)
            go_round
            case rel => exact ⟨1, by omega, by go_num, M.okTo_succ HS.out (by rw [M.okAt_zero HXK.out]; exact e)⟩
            case measure => simp [intOf]; omega
          · go_wp2_with (go_at_call 100; refine (right_l _ _).mono ?_; rintro e w' ⟨rfl, rfl⟩)
            go_ret
            exact ⟨ret_bool (M.rights_no hlt (by rw [M.okAt_zero HXK.out]; exact e)), rfl⟩
        | succ j =>
          have hcell2 := hy j (by omega)
          obtain ⟨y, hyk⟩ : ∃ y, y = ss.getD j [] := ⟨_, rfl⟩
          rw [← hyk] at hcell2
          have HYK := Lib.hid hyk
          have HE := Lib.hid (M.okAt_succ HXK.out HYK.out)
          clear hy hyk
          rcases two (M.rightB x.length) with e | e
          · rcases two (M.ltB y x) with f | f
            · go_wp2_with (go_at_call 100; refine (right_l _ _).mono ?_; rintro e w' ⟨rfl, rfl⟩)
              go_round
              case rel => exact ⟨j + 1 + 1, by omega, by go_num, M.okTo_succ HS.out (by rw [HE.out, e, f]; rfl)⟩
              case measure => simp [intOf]; omega
            · go_wp2_with (go_at_call 100; refine (right_l _ _).mono ?_; rintro e w' ⟨rfl, rfl⟩)
              go_ret
              exact ⟨ret_bool (M.rights_no hlt (by rw [HE.out, f, Bool.and_false])), rfl⟩
          · go_wp2_with (go_at_call 100; refine (right_l _ _).mono ?_; rintro e w' ⟨rfl, rfl⟩)
            go_ret
            exact ⟨ret_bool (M.rights_no hlt (by rw [HE.out, e, Bool.false_and])), rfl⟩
      · go_wp2
        go_ret
        exact ⟨ret_bool (M.rights_end HS.out hlt hl), rfl⟩
  · go_enter Tryz.func95, Tryz.ntmps95
    go_wp2
    go_ret
    exact ⟨ret_bool (M.rights_long hl), rfl⟩
end Go.Proofs.YtpknkhgkejkpkaaGreat

namespace Go.Proofs.YtpknkhgkejkpkaaGreat
open Go.RowKit

/-- Nothing but draws. -/
def Drawn (w w' : World) : Prop := ∃ n, w' = w.drewN n
theorem Drawn.refl (w : World) : Drawn w w := ⟨0, rfl⟩
theorem Drawn.on {w w' : World} (h : Drawn w w') (n : Nat) : Drawn w (w'.drewN n) := by
  obtain ⟨m, rfl⟩ := h
  exact ⟨m + n, by rw [World.drewN_drewN]⟩
theorem Drawn.cell {w w' : World} (h : Drawn w w') (a : Addr) : w'.cell? a = w.cell? a := by
  obtain ⟨m, rfl⟩ := h; rfl
theorem Drawn.below {w w' : World} (h : Drawn w w') : Below w.heap.size w w' := by
  obtain ⟨m, rfl⟩ := h; exact below_drewN (Below.refl _ _) _

theorem dright_q (x : List UInt8) (w : World) : Calls Tryz.prog 87 #[.string ⟨x.toArray⟩] w fun e w' => e = .returned (.bool (M.rightB x.length)) ∧ w' = w := (dright_l x w).mono fun _ _ h => ⟨h.1, h.2.symm⟩

set_option maxHeartbeats 2000000 in
theorem drights_any {w : World} {v : Value} {ss : List (List UInt8)} (h : Words w v ss) (hl : ss.length ≤ 1000) (hs : ∀ x ∈ ss, x.length ≤ 1000) : Calls Tryz.prog 62 #[v] w fun e w' => e = .returned (.bool (M.rightsB ss)) ∧ Below w.heap.size w w' := by
  obtain ⟨A, c, rfl, hc, hx⟩ := h.opened
  have HX := Lib.hid hx
  have HL := Lib.hid hs
  clear hx h hs
  go_enter Tryz.func62, Tryz.ntmps62
  go_wp2
  go_loopw [3] (fun i wr => ∃ k : Nat, k ≤ ss.length ∧ i = .int .i64 k ∧ M.okTo ss k ∧ Drawn w wr) (fun i _ => ss.length - (intOf i).toNat)
  case atStart => exact ⟨0, Nat.zero_le _, rfl, M.okTo_zero ss, Drawn.refl w⟩
  case round =>
    obtain ⟨k, hk, rfl, hok, hd⟩ := hrel
    have HS := Lib.hid hok
    have HD := Lib.hid hd
    clear hok hd
    by_cases hlt : k < ss.length
    · obtain ⟨b, o, rfl, hb, hy⟩ := HX.out (by omega)
      have hcell := (HD.out.cell _).trans (hy k hlt)
      obtain ⟨x, hxk⟩ : ∃ x, x = ss.getD k [] := ⟨_, rfl⟩
      rw [← hxk] at hcell
      have hx1 : x.length ≤ 1000 := by rw [hxk]; exact HL.out _ (M.getD_mem hlt)
      have HXK := Lib.hid hxk
      clear hxk
      cases k with
      | zero =>
        rw [Nat.add_zero] at hcell
        clear hy
        have hi1 : (0 : Int) < (ss.length : Int) := by omega
        rcases two (M.rightB x.length) with e | e
        · go_wp2
          go_quiet ((go_at_call 87; exact Calls.quiet_of_same (dright_q _ _)))
          go_wp2
          go_roundw
          case rel => exact ⟨1, by omega, by go_num, M.okTo_succ HS.out (by rw [M.okAt_zero HXK.out]; exact e), HD.out.on _⟩
          case measure => simp [intOf]; omega
        · go_wp2
          go_quiet ((go_at_call 87; exact Calls.quiet_of_same (dright_q _ _)))
          go_wp2
          go_ret
          exact ⟨ret_bool (M.rights_no hlt (by rw [M.okAt_zero HXK.out]; exact e)), (HD.out.on _).below⟩
      | succ j =>
        have hcell2 := (HD.out.cell _).trans (hy j (by omega))
        obtain ⟨y, hyk⟩ : ∃ y, y = ss.getD j [] := ⟨_, rfl⟩
        rw [← hyk] at hcell2
        have hy1 : y.length ≤ 1000 := by rw [hyk]; exact HL.out _ (M.getD_mem (by omega))
        have HYK := Lib.hid hyk
        have HE := Lib.hid (M.okAt_succ HXK.out HYK.out)
        clear hy hyk
        have hi1 : (j : Int) + 1 < (ss.length : Int) := by omega
        have hi2 : (j : Int) < (ss.length : Int) := by omega
        have hj1 : IntKind.i64.wrap ((j : Int) + 1 - 1) = (j : Int) := by rw [IntKind.wrap_i64]; omega
        rcases two (M.rightB x.length) with e | e
        · rcases two (M.ltB y x) with f | f
          · go_wp2
            go_quiet ((first | (go_at_call 87; exact Calls.quiet_of_same (dright_q _ _)) | (go_at_call 88; exact Calls.quiet_of (before_any _ _ _ (by omega) (by omega)))))
            go_wp2
            go_roundw
            case rel => exact ⟨j + 1 + 1, by omega, by go_num, M.okTo_succ HS.out (by rw [HE.out, e, f]; rfl), HD.out.on _⟩
            case measure => simp [intOf]; omega
          · go_wp2
            go_quiet ((first | (go_at_call 87; exact Calls.quiet_of_same (dright_q _ _)) | (go_at_call 88; exact Calls.quiet_of (before_any _ _ _ (by omega) (by omega)))))
            go_wp2
            go_ret
            exact ⟨ret_bool (M.rights_no hlt (by rw [HE.out, f, Bool.and_false])), (HD.out.on _).below⟩
        · go_wp2
          go_quiet ((first | (go_at_call 87; exact Calls.quiet_of_same (dright_q _ _)) | (go_at_call 88; exact Calls.quiet_of (before_any _ _ _ (by omega) (by omega)))))
          go_wp2
          go_ret
          exact ⟨ret_bool (M.rights_no hlt (by rw [HE.out, e, Bool.false_and])), (HD.out.on _).below⟩
    · go_wp2
      go_ret
      exact ⟨ret_bool (M.rights_len HS.out hlt), HD.out.below⟩
end Go.Proofs.YtpknkhgkejkpkaaGreat

namespace Go.Proofs.YtpknkhgkejkpkaaGreat
open Go.ChangeShapes Go.WideShapes Go.ChangeAt Go.RowKit

theorem info9 : (Tryz.prog.info? 9).map (fun i => (i.zero, i.size, i.bytes)) = some (some (.string ⟨#[]⟩), 1, 16) := by kernel_rfl
theorem one_str (ss : List (List UInt8)) : ∀ u ∈ ss.map encStr, u.oneCell' = true := by
  intro u hu
  rw [List.mem_map] at hu
  obtain ⟨x, _, rfl⟩ := hu
  rfl

theorem append_nil {w : World} {base : Nat} {v : Value} {n : Nat} {xs : List Value} (c : Nat) (hown : w.ownsRow base 9 1 v n xs) : (Builtin.append_ #[86, 86] 86 #[v, .slice none 0 c]).run Tryz.prog w = .ok v w := by
  obtain ⟨i0, hi, hz0, hz1, hz2⟩ := info_parts info9
  have ht : Tryz.prog.underlying 86 = some (.slice 9) := Tryz.underlying86
  rcases hown.2 with ⟨rfl, rfl⟩ | ⟨g, cap, cur, rfl, _, _, hnc, _⟩
  · simp [Builtin.append_, run_underlying ht, sizeOf, typeInfo, hi, Builtin.lenOf, Builtin.firstCells]
  · simp [Builtin.append_, run_underlying ht, sizeOf, typeInfo, hi, Builtin.lenOf, Builtin.firstCells, hnc, storeCells]

/-- append(own, others...). -/
theorem append_row {w : World} {base : Nat} {v u : Value} {n : Nat} {xs news : List Value} (hown : w.ownsRow base 9 1 v n xs) (hrow : Row w u news) (h1 : ∀ x ∈ news, x.oneCell' = true) (hl : n + news.length ≤ 1000000) (hbase : base ≤ w.heap.size) :
    ∃ v' w', (Builtin.append_ #[86, 86] 86 #[v, u]).run Tryz.prog w = .ok v' w' ∧ w'.ownsRow base 9 1 v' (n + news.length) (xs ++ news) ∧ w.grownBy w' v.ownBlock := by
  obtain ⟨i0, hi, hz0, hz1, hz2⟩ := info_parts info9
  obtain ⟨A, c, rfl, hc, hx⟩ := hrow
  cases news with
  | nil =>
    cases A with
    | none => exact ⟨v, w, append_nil c hown, by simpa using hown, World.grownBy.refl _ _⟩
    | some a =>
      obtain ⟨v', w', h1, h2, h3, _⟩ := run_append_own w base 86 86 9 i0 (.string ⟨#[]⟩) 1 16 Tryz.underlying86 hi hz0 hz1 hz2 rfl (by decide) v n xs hown a 0 c [] rfl (by simp) (by simp) (by simp at hl; unfold maxLen; omega) (by simp at hl; omega) hbase
      exact ⟨v', w', h1, h2, h3⟩
  | cons x news =>
    obtain ⟨b, o, rfl, hb, hy⟩ := hx (by simp)
    obtain ⟨v', w', h1, h2, h3, _⟩ := run_append_own w base 86 86 9 i0 (.string ⟨#[]⟩) 1 16 Tryz.underlying86 hi hz0 hz1 hz2 rfl (by decide) v n xs hown ⟨b, o, none⟩ (x :: news).length c (x :: news) (by simp) (fun j y hj => by rw [add_plain]; exact hy j y hj) h1 (by unfold maxLen; omega) (by omega) hbase
    exact ⟨v', w', h1, h2, h3⟩

/-- A new row of texts. -/
def Made (l : List (List UInt8)) (w : World) (e : Ending) (w' : World) : Prop := ∃ v, e = .returned v ∧ w'.ownsRow w.heap.size 9 1 v l.length (l.map encStr) ∧ Below w.heap.size w w'

end Go.Proofs.YtpknkhgkejkpkaaGreat

namespace Go.Proofs.YtpknkhgkejkpkaaGreat
open Go.ChangeShapes Go.WideShapes Go.ChangeAt Go.RowKit

/-- One of three places. -/
def At3 (i : Value) (P0 P1 P2 : Prop) : Prop := (i = .int .i64 0 ∧ P0) ∨ (i = .int .i64 1 ∧ P1) ∨ (i = .int .i64 2 ∧ P2)

theorem Made.words {l : List (List UInt8)} {w' : World} {base : Nat} {v : Value} (h : w'.ownsRow base 9 1 v l.length (l.map encStr)) : Words w' v l := Row.of_owns h

end Go.Proofs.YtpknkhgkejkpkaaGreat

namespace Go.Proofs.YtpknkhgkejkpkaaGreat
open Go.RowKit

namespace M
/-- Between two numbers, both let in. -/
def within (n lo hi : Int) : Bool := decide (lo ≤ n) && decide (n ≤ hi)
theorem within_true {n lo hi : Int} (h1 : lo ≤ n) (h2 : n ≤ hi) : within n lo hi = true := by simp [within, h1, h2]
theorem within_low {n lo hi : Int} (h : ¬ lo ≤ n) : within n lo hi = false := by simp [within, h]
theorem within_high {n lo hi : Int} (h : ¬ n ≤ hi) : within n lo hi = false := by simp [within, h]
theorem within_iff {n lo hi : Int} : within n lo hi = true ↔ lo ≤ n ∧ n ≤ hi := by simp [within]
theorem within_no {n lo hi : Int} (h : within n lo hi = false) : n < lo ∨ hi < n := by
  by_cases h1 : lo ≤ n
  · by_cases h2 : n ≤ hi
    · rw [within_true h1 h2] at h; cases h
    · omega
  · omega

/-- A pair whose first number is up to a and from lo on, the second from lo' up to b. -/
def pairB (x y lo a lo' b : Int) : Bool := within x lo a && within y lo' b
theorem pair_true {x y lo a lo' b : Int} (h1 : within x lo a = true) (h2 : within y lo' b = true) : pairB x y lo a lo' b = true := by simp [pairB, h1, h2]
theorem pair_one {x y lo a lo' b : Int} (h1 : within x lo a = false) : pairB x y lo a lo' b = false := by simp [pairB, h1]
theorem pair_two {x y lo a lo' b : Int} (h2 : within y lo' b = false) : pairB x y lo a lo' b = false := by simp [pairB, h2]
theorem pair_iff {x y lo a lo' b : Int} : pairB x y lo a lo' b = true ↔ (lo ≤ x ∧ x ≤ a) ∧ (lo' ≤ y ∧ y ≤ b) := by simp [pairB, within_iff]

/-- The order of two pairs. -/
def ord (a b c d : Int) : Int := if a < c then -1 else if c < a then 1 else if b < d then -1 else if d < b then 1 else 0
theorem ord_lt {a b c d : Int} (h : a < c) : ord a b c d = -1 := by simp [ord, h]
theorem ord_gt {a b c d : Int} (h : c < a) : ord a b c d = 1 := by
  have : ¬ a < c := by omega
  simp [ord, h, this]
theorem ord_lt2 {a b d : Int} (h : b < d) : ord a b a d = -1 := by simp [ord, h]
theorem ord_gt2 {a b d : Int} (h : d < b) : ord a b a d = 1 := by
  have : ¬ b < d := by omega
  simp [ord, h, this]
theorem ord_same (a b : Int) : ord a b a b = 0 := by simp [ord]
end M

set_option maxHeartbeats 400000 in
theorem within_any (n lo hi : Int) (w : World) :
    Calls Tryz.prog 72 #[.int .i64 n, .int .i64 lo, .int .i64 hi] w fun e w' => e = .returned (.bool (M.within n lo hi)) ∧ w = w' := by
  by_cases h1 : lo ≤ n
  · by_cases h2 : n ≤ hi
    · rw [M.within_true h1 h2]
      go_enter Tryz.func72, Tryz.ntmps72
      go_wp2
      go_ret
      exact ⟨rfl, rfl⟩
    · rw [M.within_high h2]
      go_enter Tryz.func72, Tryz.ntmps72
      go_wp2
      go_ret
      exact ⟨rfl, rfl⟩
  · rw [M.within_low h1]
    go_enter Tryz.func72, Tryz.ntmps72
    go_wp2
    go_ret
    exact ⟨rfl, rfl⟩

set_option maxHeartbeats 400000 in
theorem isClient_any (k : Int) (w : World) :
    Calls Tryz.prog 92 #[.int .i64 k] w fun e w' => e = .returned (.bool (M.within k 0 3)) ∧ w = w' := by
  go_enter Tryz.func92, Tryz.ntmps92
  go_wp2_with (go_at_call 72; refine (within_any _ _ _ _).mono ?_; rintro e w' ⟨rfl, rfl⟩)
  go_ret
  exact ⟨rfl, rfl⟩

set_option maxHeartbeats 400000 in
theorem side_true (w : World) :
    Calls Tryz.prog 68 #[.bool true] w fun e w' => e = .returned (.int .i64 (-1)) ∧ w = w' := by
  go_enter Tryz.func68, Tryz.ntmps68
  go_wp2
  go_ret
  exact ⟨rfl, rfl⟩

set_option maxHeartbeats 400000 in
theorem side_false (w : World) :
    Calls Tryz.prog 68 #[.bool false] w fun e w' => e = .returned (.int .i64 1) ∧ w = w' := by
  go_enter Tryz.func68, Tryz.ntmps68
  go_wp2
  go_ret
  exact ⟨rfl, rfl⟩

set_option maxHeartbeats 400000 in
theorem rightStamp_any (x y : Int) (w : World) :
    Calls Tryz.prog 79 #[.agg #[.int .i64 x, .int .i64 y]] w fun e w' => e = .returned (.bool (M.pairB x y 0 1099511627776 0 3)) ∧ Below w.heap.size w w' := by
  cases h1 : M.within x 0 1099511627776
  · rw [M.pair_one h1]
    go_enter Tryz.func79, Tryz.ntmps79
    go_wp2_with (first
      | (go_at_call 72; refine (within_any _ _ _ _).mono ?_; rintro e w' ⟨rfl, rfl⟩)
      | (go_at_call 92; refine (isClient_any _ _).mono ?_; rintro e w' ⟨rfl, rfl⟩))
    go_ret
    exact ⟨rfl, (Below.refl _ _).alloc (Nat.le_refl _) _⟩
  · cases h2 : M.within y 0 3
    · rw [M.pair_two h2]
      go_enter Tryz.func79, Tryz.ntmps79
      go_wp2_with (first
        | (go_at_call 72; refine (within_any _ _ _ _).mono ?_; rintro e w' ⟨rfl, rfl⟩)
        | (go_at_call 92; refine (isClient_any _ _).mono ?_; rintro e w' ⟨rfl, rfl⟩))
      go_ret
      exact ⟨rfl, (Below.refl _ _).alloc (Nat.le_refl _) _⟩
    · rw [M.pair_true h1 h2]
      go_enter Tryz.func79, Tryz.ntmps79
      go_wp2_with (first
        | (go_at_call 72; refine (within_any _ _ _ _).mono ?_; rintro e w' ⟨rfl, rfl⟩)
        | (go_at_call 92; refine (isClient_any _ _).mono ?_; rintro e w' ⟨rfl, rfl⟩))
      go_ret
      exact ⟨rfl, (Below.refl _ _).alloc (Nat.le_refl _) _⟩

set_option maxHeartbeats 400000 in
theorem rightTxn_any (x y : Int) (w : World) :
    Calls Tryz.prog 78 #[.agg #[.int .i64 x, .int .i64 y]] w fun e w' => e = .returned (.bool (M.pairB x y 0 3 1 1099511627776)) ∧ Below w.heap.size w w' := by
  cases h1 : M.within x 0 3
  · rw [M.pair_one h1]
    go_enter Tryz.func78, Tryz.ntmps78
    go_wp2_with (first
      | (go_at_call 92; refine (isClient_any _ _).mono ?_; rintro e w' ⟨rfl, rfl⟩)
      | (go_at_call 72; refine (within_any _ _ _ _).mono ?_; rintro e w' ⟨rfl, rfl⟩))
    go_ret
    exact ⟨rfl, (Below.refl _ _).alloc (Nat.le_refl _) _⟩
  · cases h2 : M.within y 1 1099511627776
    · rw [M.pair_two h2]
      go_enter Tryz.func78, Tryz.ntmps78
      go_wp2_with (first
        | (go_at_call 92; refine (isClient_any _ _).mono ?_; rintro e w' ⟨rfl, rfl⟩)
        | (go_at_call 72; refine (within_any _ _ _ _).mono ?_; rintro e w' ⟨rfl, rfl⟩))
      go_ret
      exact ⟨rfl, (Below.refl _ _).alloc (Nat.le_refl _) _⟩
    · rw [M.pair_true h1 h2]
      go_enter Tryz.func78, Tryz.ntmps78
      go_wp2_with (first
        | (go_at_call 92; refine (isClient_any _ _).mono ?_; rintro e w' ⟨rfl, rfl⟩)
        | (go_at_call 72; refine (within_any _ _ _ _).mono ?_; rintro e w' ⟨rfl, rfl⟩))
      go_ret
      exact ⟨rfl, (Below.refl _ _).alloc (Nat.le_refl _) _⟩

set_option maxHeartbeats 400000 in
theorem refStamp_any (x y : Int) (w : World) :
    Calls Tryz.prog 60 #[.agg #[.int .i64 x, .int .i64 y]] w fun e w' => e = .returned (.bool (M.pairB x y 0 1099511627776 0 3)) ∧ Below w.heap.size w w' := by
  by_cases h1 : 0 ≤ x
  · by_cases h2 : x ≤ 1099511627776
    · by_cases h3 : 0 ≤ y
      · by_cases h4 : y ≤ 3
        · rw [M.pair_true (M.within_true h1 h2) (M.within_true h3 h4)]
          go_enter Tryz.func60, Tryz.ntmps60
          go_wp2
          go_ret
          exact ⟨rfl, (Below.refl _ _).alloc (Nat.le_refl _) _⟩
        · rw [M.pair_two (M.within_high h4)]
          go_enter Tryz.func60, Tryz.ntmps60
          go_wp2
          go_ret
          exact ⟨rfl, (Below.refl _ _).alloc (Nat.le_refl _) _⟩
      · rw [M.pair_two (M.within_low h3)]
        go_enter Tryz.func60, Tryz.ntmps60
        go_wp2
        go_ret
        exact ⟨rfl, (Below.refl _ _).alloc (Nat.le_refl _) _⟩
    · rw [M.pair_one (M.within_high h2)]
      go_enter Tryz.func60, Tryz.ntmps60
      go_wp2
      go_ret
      exact ⟨rfl, (Below.refl _ _).alloc (Nat.le_refl _) _⟩
  · rw [M.pair_one (M.within_low h1)]
    go_enter Tryz.func60, Tryz.ntmps60
    go_wp2
    go_ret
    exact ⟨rfl, (Below.refl _ _).alloc (Nat.le_refl _) _⟩

set_option maxHeartbeats 400000 in
theorem refTxn_any (x y : Int) (w : World) :
    Calls Tryz.prog 59 #[.agg #[.int .i64 x, .int .i64 y]] w fun e w' => e = .returned (.bool (M.pairB x y 0 3 1 1099511627776)) ∧ Below w.heap.size w w' := by
  by_cases h1 : 0 ≤ x
  · by_cases h2 : x ≤ 3
    · by_cases h3 : 1 ≤ y
      · by_cases h4 : y ≤ 1099511627776
        · rw [M.pair_true (M.within_true h1 h2) (M.within_true h3 h4)]
          go_enter Tryz.func59, Tryz.ntmps59
          go_wp2
          go_ret
          exact ⟨rfl, (Below.refl _ _).alloc (Nat.le_refl _) _⟩
        · rw [M.pair_two (M.within_high h4)]
          go_enter Tryz.func59, Tryz.ntmps59
          go_wp2
          go_ret
          exact ⟨rfl, (Below.refl _ _).alloc (Nat.le_refl _) _⟩
      · rw [M.pair_two (M.within_low h3)]
        go_enter Tryz.func59, Tryz.ntmps59
        go_wp2
        go_ret
        exact ⟨rfl, (Below.refl _ _).alloc (Nat.le_refl _) _⟩
    · rw [M.pair_one (M.within_high h2)]
      go_enter Tryz.func59, Tryz.ntmps59
      go_wp2
      go_ret
      exact ⟨rfl, (Below.refl _ _).alloc (Nat.le_refl _) _⟩
  · rw [M.pair_one (M.within_low h1)]
    go_enter Tryz.func59, Tryz.ntmps59
    go_wp2
    go_ret
    exact ⟨rfl, (Below.refl _ _).alloc (Nat.le_refl _) _⟩

set_option maxHeartbeats 400000 in
theorem order_any (a b c d : Int) (w : World) :
    Calls Tryz.prog 42 #[.int .i64 a, .int .i64 b, .int .i64 c, .int .i64 d] w fun e w' => e = .returned (.int .i64 (M.ord a b c d)) ∧ w = w' := by
  by_cases h1 : a < c
  · rw [M.ord_lt h1]
    go_enter Tryz.func42, Tryz.ntmps42
    go_wp2
    go_ret
    exact ⟨rfl, rfl⟩
  · by_cases h2 : c < a
    · rw [M.ord_gt h2]
      go_enter Tryz.func42, Tryz.ntmps42
      go_wp2
      go_ret
      exact ⟨rfl, rfl⟩
    · obtain rfl : a = c := by omega
      by_cases h3 : b < d
      · rw [M.ord_lt2 h3]
        go_enter Tryz.func42, Tryz.ntmps42
        go_wp2
        go_ret
        exact ⟨rfl, rfl⟩
      · by_cases h4 : d < b
        · rw [M.ord_gt2 h4]
          go_enter Tryz.func42, Tryz.ntmps42
          go_wp2
          go_ret
          exact ⟨rfl, rfl⟩
        · obtain rfl : b = d := by omega
          rw [M.ord_same]
          go_enter Tryz.func42, Tryz.ntmps42
          go_wp2
          go_ret
          exact ⟨rfl, rfl⟩

set_option maxHeartbeats 400000 in
theorem compareStamps_any (a b c d : Int) (w : World) :
    Calls Tryz.prog 94 #[.agg #[.int .i64 a, .int .i64 b], .agg #[.int .i64 c, .int .i64 d]] w fun e w' => e = .returned (.int .i64 (M.ord a b c d)) ∧ Below w.heap.size w w' := by
  by_cases h1 : a < c
  · have n1 : ¬ a = c := by omega
    rw [M.ord_lt h1]
    go_enter Tryz.func94, Tryz.ntmps94
    go_wp2_with (first
      | (go_at_call 68; refine (side_true _).mono ?_; rintro e w' ⟨rfl, rfl⟩))
    go_ret
    exact ⟨rfl, ((Below.refl _ _).alloc (Nat.le_refl _) _).alloc (by simp) _⟩
  · by_cases h2 : c < a
    · have n1 : ¬ a = c := by omega
      rw [M.ord_gt h2]
      go_enter Tryz.func94, Tryz.ntmps94
      go_wp2_with (first
        | (go_at_call 68; refine (side_false _).mono ?_; rintro e w' ⟨rfl, rfl⟩))
      go_ret
      exact ⟨rfl, ((Below.refl _ _).alloc (Nat.le_refl _) _).alloc (by simp) _⟩
    · obtain rfl : a = c := by omega
      by_cases h3 : b < d
      · have n1 : ¬ b = d := by omega
        rw [M.ord_lt2 h3]
        go_enter Tryz.func94, Tryz.ntmps94
        go_wp2_with (first
          | (go_at_call 68; refine (side_true _).mono ?_; rintro e w' ⟨rfl, rfl⟩))
        go_ret
        exact ⟨rfl, ((Below.refl _ _).alloc (Nat.le_refl _) _).alloc (by simp) _⟩
      · by_cases h4 : d < b
        · have n1 : ¬ b = d := by omega
          rw [M.ord_gt2 h4]
          go_enter Tryz.func94, Tryz.ntmps94
          go_wp2_with (first
            | (go_at_call 68; refine (side_false _).mono ?_; rintro e w' ⟨rfl, rfl⟩))
          go_ret
          exact ⟨rfl, ((Below.refl _ _).alloc (Nat.le_refl _) _).alloc (by simp) _⟩
        · obtain rfl : b = d := by omega
          rw [M.ord_same]
          go_enter Tryz.func94, Tryz.ntmps94
          go_wp2
          go_ret
          exact ⟨rfl, ((Below.refl _ _).alloc (Nat.le_refl _) _).alloc (by simp) _⟩

end Go.Proofs.YtpknkhgkejkpkaaGreat

namespace Go.Proofs.YtpknkhgkejkpkaaGreat
open Go.RowKit

/-- A world in which all that was there in w is as it was. -/
structure After (w : World) where
  out : World
  below : Below w.heap.size w out
instance (w : World) : Nonempty (After w) := ⟨⟨w, Below.refl _ _⟩⟩
theorem After.cell {w : World} (x : After w) (b o : Nat) (h : b < w.heap.size) : x.out.cell? ⟨b, o, none⟩ = w.cell? ⟨b, o, none⟩ := x.below.cell (p := ⟨b, o, none⟩) h

theorem wp_region_after {P : Program} {id : Nat} {Q : Exit → Act → World → Prop} {a : Act} {w : World} {l : List Oper} (hm : P.follows .mixedOrders = true) (hB : Region.lexB .any l.toArray = true)
    (h : wpQuiet P l.toArray (fun w' => ∃ x : After w, w' = x.out) (fun a' => ∀ w', (∃ x : After w, w' = x.out) → Q .normal a' w') l a) : (Code.region id l.toArray true).wp P Q a w :=
  wp_region_quiet (C := fun w' => ∃ x : After w, w' = x.out) hm hB ⟨⟨w.drew, (Below.refl _ _).drew⟩, rfl⟩ (by simpa using h)

/-- A callee that changes nothing that was there, met in such a world. -/
theorem Calls.after_of {P : Program} {f : FuncId} {args : Array Value} {w : World} {x : After w} {v : Value}
    (h : Calls P f args x.out fun e w' => e = .returned v ∧ Below x.out.heap.size x.out w') : Calls P f args x.out fun e w'' => e = .returned v ∧ ∃ y : After w, w'' = y.out :=
  h.mono fun _ _ ⟨he, hb⟩ => ⟨he, ⟨_, x.below.trans (hb.mono x.below.size)⟩, rfl⟩

/-- A block of two cells, and what they hold. -/
structure At (w : World) (b : Nat) (u v : Value) : Prop where
  lt : b < w.heap.size
  one : w.cell? ⟨b, 0, none⟩ = some u
  two : w.cell? ⟨b, 1, none⟩ = some v
theorem At.new (w : World) (u v : Value) (t : TypeId) : At (w.alloc (.cells #[u, v] t)) w.heap.size u v := ⟨by simp, by simp, by simp⟩
theorem At.new1 (w : World) (o : Obj) (u v : Value) (t : TypeId) : At ((w.alloc o).alloc (.cells #[u, v] t)) (w.heap.size + 1) u v := by simpa using At.new (w.alloc o) u v t
theorem At.new2 (w : World) (o o' : Obj) (u v : Value) (t : TypeId) : At (((w.alloc o).alloc o').alloc (.cells #[u, v] t)) (w.heap.size + 2) u v := by simpa using At.new ((w.alloc o).alloc o') u v t
theorem At.push {w : World} {b : Nat} {u v : Value} (h : At w b u v) (o : Obj) : At (w.alloc o) b u v :=
  ⟨by have := h.lt; simp; omega, (World.cell?_alloc_lt w o _ h.lt).trans h.one, (World.cell?_alloc_lt w o _ h.lt).trans h.two⟩
theorem At.on {w w' : World} {b : Nat} {u v : Value} (h : At w b u v) (k : Below w.heap.size w w') : At w' b u v :=
  ⟨Nat.lt_of_lt_of_le h.lt k.size, (k.cell (p := ⟨b, 0, none⟩) h.lt).trans h.one, (k.cell (p := ⟨b, 1, none⟩) h.lt).trans h.two⟩

end Go.Proofs.YtpknkhgkejkpkaaGreat

namespace Go.Proofs.YtpknkhgkejkpkaaGreat
open Go.RowKit

set_option maxHeartbeats 400000 in
theorem isReplica_any (k : Int) (w : World) :
    Calls Tryz.prog 71 #[.int .i64 k] w fun e w' => e = .returned (.bool (M.within k 0 6)) ∧ w = w' := by
  go_enter Tryz.func71, Tryz.ntmps71
  go_wp2_with (go_at_call 72; refine (within_any _ _ _ _).mono ?_; rintro e w' ⟨rfl, rfl⟩)
  go_ret
  exact ⟨rfl, rfl⟩

set_option maxHeartbeats 400000 in
theorem rightBallot_any (n r : Int) (w : World) :
    Calls Tryz.prog 49 #[.agg #[.int .i64 n, .int .i64 r]] w fun e w' => e = .returned (.bool (M.pairB n r 0 1099511627776 0 6)) ∧ Below w.heap.size w w' := by
  cases h1 : M.within n 0 1099511627776
  · rw [M.pair_one h1]
    go_enter Tryz.func49, Tryz.ntmps49
    go_wp2_with (go_at_call 72; refine (within_any _ _ _ _).mono ?_; rintro e w' ⟨rfl, rfl⟩)
    go_ret
    exact ⟨rfl, (Below.refl _ _).alloc (Nat.le_refl _) _⟩
  · cases h2 : M.within r 0 6
    · rw [M.pair_two h2]
      go_enter Tryz.func49, Tryz.ntmps49
      go_wp2_with (first
        | (go_at_call 72; refine (within_any _ _ _ _).mono ?_; rintro e w' ⟨rfl, rfl⟩)
        | (go_at_call 71; refine (isReplica_any _ _).mono ?_; rintro e w' ⟨rfl, rfl⟩))
      go_ret
      exact ⟨rfl, (Below.refl _ _).alloc (Nat.le_refl _) _⟩
    · rw [M.pair_true h1 h2]
      go_enter Tryz.func49, Tryz.ntmps49
      go_wp2_with (first
        | (go_at_call 72; refine (within_any _ _ _ _).mono ?_; rintro e w' ⟨rfl, rfl⟩)
        | (go_at_call 71; refine (isReplica_any _ _).mono ?_; rintro e w' ⟨rfl, rfl⟩))
      go_ret
      exact ⟨rfl, (Below.refl _ _).alloc (Nat.le_refl _) _⟩
set_option maxHeartbeats 400000 in
theorem rightInst_any (x y : Int) (w : World) :
    Calls Tryz.prog 48 #[.agg #[.int .i64 x, .int .i64 y]] w fun e w' => e = .returned (.bool (M.pairB x y 0 6 1 1048576)) ∧ Below w.heap.size w w' := by
  cases h1 : M.within x 0 6
  · rw [M.pair_one h1]
    go_enter Tryz.func48, Tryz.ntmps48
    go_wp2_with (first
      | (go_at_call 71; refine (isReplica_any _ _).mono ?_; rintro e w' ⟨rfl, rfl⟩)
      | (go_at_call 72; refine (within_any _ _ _ _).mono ?_; rintro e w' ⟨rfl, rfl⟩))
    go_ret
    exact ⟨rfl, (Below.refl _ _).alloc (Nat.le_refl _) _⟩
  · cases h2 : M.within y 1 1048576
    · rw [M.pair_two h2]
      go_enter Tryz.func48, Tryz.ntmps48
      go_wp2_with (first
        | (go_at_call 71; refine (isReplica_any _ _).mono ?_; rintro e w' ⟨rfl, rfl⟩)
        | (go_at_call 72; refine (within_any _ _ _ _).mono ?_; rintro e w' ⟨rfl, rfl⟩))
      go_ret
      exact ⟨rfl, (Below.refl _ _).alloc (Nat.le_refl _) _⟩
    · rw [M.pair_true h1 h2]
      go_enter Tryz.func48, Tryz.ntmps48
      go_wp2_with (first
        | (go_at_call 71; refine (isReplica_any _ _).mono ?_; rintro e w' ⟨rfl, rfl⟩)
        | (go_at_call 72; refine (within_any _ _ _ _).mono ?_; rintro e w' ⟨rfl, rfl⟩))
      go_ret
      exact ⟨rfl, (Below.refl _ _).alloc (Nat.le_refl _) _⟩

set_option maxHeartbeats 400000 in
theorem refBallot_any (x y : Int) (w : World) :
    Calls Tryz.prog 44 #[.agg #[.int .i64 x, .int .i64 y]] w fun e w' => e = .returned (.bool (M.pairB x y 0 1099511627776 0 6)) ∧ Below w.heap.size w w' := by
  by_cases h1 : 0 ≤ x
  · by_cases h2 : x ≤ 1099511627776
    · by_cases h3 : 0 ≤ y
      · by_cases h4 : y ≤ 6
        · rw [M.pair_true (M.within_true h1 h2) (M.within_true h3 h4)]
          go_enter Tryz.func44, Tryz.ntmps44
          go_wp2
          go_ret
          exact ⟨rfl, (Below.refl _ _).alloc (Nat.le_refl _) _⟩
        · rw [M.pair_two (M.within_high h4)]
          go_enter Tryz.func44, Tryz.ntmps44
          go_wp2
          go_ret
          exact ⟨rfl, (Below.refl _ _).alloc (Nat.le_refl _) _⟩
      · rw [M.pair_two (M.within_low h3)]
        go_enter Tryz.func44, Tryz.ntmps44
        go_wp2
        go_ret
        exact ⟨rfl, (Below.refl _ _).alloc (Nat.le_refl _) _⟩
    · rw [M.pair_one (M.within_high h2)]
      go_enter Tryz.func44, Tryz.ntmps44
      go_wp2
      go_ret
      exact ⟨rfl, (Below.refl _ _).alloc (Nat.le_refl _) _⟩
  · rw [M.pair_one (M.within_low h1)]
    go_enter Tryz.func44, Tryz.ntmps44
    go_wp2
    go_ret
    exact ⟨rfl, (Below.refl _ _).alloc (Nat.le_refl _) _⟩

set_option maxHeartbeats 400000 in
theorem refInst_any (x y : Int) (w : World) :
    Calls Tryz.prog 43 #[.agg #[.int .i64 x, .int .i64 y]] w fun e w' => e = .returned (.bool (M.pairB x y 0 6 1 1048576)) ∧ Below w.heap.size w w' := by
  by_cases h1 : 0 ≤ x
  · by_cases h2 : x ≤ 6
    · by_cases h3 : 1 ≤ y
      · by_cases h4 : y ≤ 1048576
        · rw [M.pair_true (M.within_true h1 h2) (M.within_true h3 h4)]
          go_enter Tryz.func43, Tryz.ntmps43
          go_wp2
          go_ret
          exact ⟨rfl, (Below.refl _ _).alloc (Nat.le_refl _) _⟩
        · rw [M.pair_two (M.within_high h4)]
          go_enter Tryz.func43, Tryz.ntmps43
          go_wp2
          go_ret
          exact ⟨rfl, (Below.refl _ _).alloc (Nat.le_refl _) _⟩
      · rw [M.pair_two (M.within_low h3)]
        go_enter Tryz.func43, Tryz.ntmps43
        go_wp2
        go_ret
        exact ⟨rfl, (Below.refl _ _).alloc (Nat.le_refl _) _⟩
    · rw [M.pair_one (M.within_high h2)]
      go_enter Tryz.func43, Tryz.ntmps43
      go_wp2
      go_ret
      exact ⟨rfl, (Below.refl _ _).alloc (Nat.le_refl _) _⟩
  · rw [M.pair_one (M.within_low h1)]
    go_enter Tryz.func43, Tryz.ntmps43
    go_wp2
    go_ret
    exact ⟨rfl, (Below.refl _ _).alloc (Nat.le_refl _) _⟩

set_option maxHeartbeats 400000 in
theorem compareBallots_any (a b c d : Int) (w : World) :
    Calls Tryz.prog 38 #[.agg #[.int .i64 a, .int .i64 b], .agg #[.int .i64 c, .int .i64 d]] w fun e w' => e = .returned (.int .i64 (M.ord a b c d)) ∧ Below w.heap.size w w' := by
  by_cases h1 : a < c
  · have n1 : ¬ a = c := by omega
    rw [M.ord_lt h1]
    go_enter Tryz.func38, Tryz.ntmps38
    go_wp2_with (first
      | (go_at_call 68; refine (side_true _).mono ?_; rintro e w' ⟨rfl, rfl⟩))
    go_ret
    exact ⟨rfl, ((Below.refl _ _).alloc (Nat.le_refl _) _).alloc (by simp) _⟩
  · by_cases h2 : c < a
    · have n1 : ¬ a = c := by omega
      rw [M.ord_gt h2]
      go_enter Tryz.func38, Tryz.ntmps38
      go_wp2_with (first
        | (go_at_call 68; refine (side_false _).mono ?_; rintro e w' ⟨rfl, rfl⟩))
      go_ret
      exact ⟨rfl, ((Below.refl _ _).alloc (Nat.le_refl _) _).alloc (by simp) _⟩
    · obtain rfl : a = c := by omega
      by_cases h3 : b < d
      · have n1 : ¬ b = d := by omega
        rw [M.ord_lt2 h3]
        go_enter Tryz.func38, Tryz.ntmps38
        go_wp2_with (first
          | (go_at_call 68; refine (side_true _).mono ?_; rintro e w' ⟨rfl, rfl⟩))
        go_ret
        exact ⟨rfl, ((Below.refl _ _).alloc (Nat.le_refl _) _).alloc (by simp) _⟩
      · by_cases h4 : d < b
        · have n1 : ¬ b = d := by omega
          rw [M.ord_gt2 h4]
          go_enter Tryz.func38, Tryz.ntmps38
          go_wp2_with (first
            | (go_at_call 68; refine (side_false _).mono ?_; rintro e w' ⟨rfl, rfl⟩))
          go_ret
          exact ⟨rfl, ((Below.refl _ _).alloc (Nat.le_refl _) _).alloc (by simp) _⟩
        · obtain rfl : b = d := by omega
          rw [M.ord_same]
          go_enter Tryz.func38, Tryz.ntmps38
          go_wp2
          go_ret
          exact ⟨rfl, ((Below.refl _ _).alloc (Nat.le_refl _) _).alloc (by simp) _⟩

end Go.Proofs.YtpknkhgkejkpkaaGreat

namespace Go.Proofs.YtpknkhgkejkpkaaGreat
open Go.RowKit

namespace V7
/-- The greater one, the lesser one. -/
def mx (x y : Int) : Int := if y > x then y else x
def mn (x y : Int) : Int := if y < x then y else x
/-- Seven and seven are the same. -/
def same7 (x0 x1 x2 x3 x4 x5 x6 y0 y1 y2 y3 y4 y5 y6 : Int) : Bool := decide (x0 = y0 ∧ x1 = y1 ∧ x2 = y2 ∧ x3 = y3 ∧ x4 = y4 ∧ x5 = y5 ∧ x6 = y6)
theorem same7_iff {x0 x1 x2 x3 x4 x5 x6 y0 y1 y2 y3 y4 y5 y6 : Int} : same7 x0 x1 x2 x3 x4 x5 x6 y0 y1 y2 y3 y4 y5 y6 = true ↔ x0 = y0 ∧ x1 = y1 ∧ x2 = y2 ∧ x3 = y3 ∧ x4 = y4 ∧ x5 = y5 ∧ x6 = y6 := by simp [same7]
theorem same7_self (x0 x1 x2 x3 x4 x5 x6 : Int) : same7 x0 x1 x2 x3 x4 x5 x6 x0 x1 x2 x3 x4 x5 x6 = true := by simp [same7]
/-- What is joined. -/
def join (a b : Nat → Int) (k : Nat) : Int := mx (a k) (b k)
def same (a b : Nat → Int) : Bool := same7 (a 0) (a 1) (a 2) (a 3) (a 4) (a 5) (a 6) (b 0) (b 1) (b 2) (b 3) (b 4) (b 5) (b 6)
def over (a b : Nat → Int) : Bool := same (join a b) a
def repB (r : Int) : Bool := decide (0 ≤ r ∧ r ≤ 6)
def has (a : Nat → Int) (r s : Int) : Bool := decide ((0 ≤ r ∧ r ≤ 6) ∧ 1 ≤ s ∧ s ≤ a r.toNat)
def wit (a : Nat → Int) (r s : Int) (k : Nat) : Int := if r = k then mx (a k) s else a k
def out (a : Nat → Int) (r s : Int) (k : Nat) : Int := if r = k ∧ 1 ≤ s then mn (a k) (s - 1) else a k
def zf (_ : Nat) : Int := 0
def wf (_ : Nat) : Int := 1048576
def right (a : Nat → Int) : Bool := over a zf && over wf a
theorem seven {k : Nat} (h : k < 7) : k = 0 ∨ k = 1 ∨ k = 2 ∨ k = 3 ∨ k = 4 ∨ k = 5 ∨ k = 6 := by omega
theorem all7 {p : Nat → Prop} : (∀ k, k < 7 → p k) ↔ p 0 ∧ p 1 ∧ p 2 ∧ p 3 ∧ p 4 ∧ p 5 ∧ p 6 :=
  ⟨fun h => ⟨h 0 (by omega), h 1 (by omega), h 2 (by omega), h 3 (by omega), h 4 (by omega), h 5 (by omega), h 6 (by omega)⟩, fun h k hk => by
    obtain ⟨h0, h1, h2, h3, h4, h5, h6⟩ := h
    rcases seven hk with rfl | rfl | rfl | rfl | rfl | rfl | rfl <;> assumption⟩
theorem same_iff {a b : Nat → Int} : same a b = true ↔ ∀ k, k < 7 → a k = b k := by
  rw [all7 (p := fun k => a k = b k)]
  exact same7_iff
theorem over_iff {a b : Nat → Int} : over a b = true ↔ ∀ k, k < 7 → b k ≤ a k := by
  unfold over
  rw [same_iff]
  refine forall_congr' fun k => imp_congr_right fun _ => ?_
  unfold join mx
  split <;> omega
theorem right_iff {a : Nat → Int} : right a = true ↔ ∀ k, k < 7 → 0 ≤ a k ∧ a k ≤ 1048576 := by
  rw [right, Bool.and_eq_true, over_iff, over_iff]
  exact ⟨fun h k hk => ⟨h.1 k hk, h.2 k hk⟩, fun h => ⟨fun k hk => (h k hk).1, fun k hk => (h k hk).2⟩⟩
theorem has_iff {a : Nat → Int} {r s : Int} : has a r s = true ↔ (0 ≤ r ∧ r ≤ 6) ∧ 1 ≤ s ∧ s ≤ a r.toNat := by simp [has]
theorem rep_iff {r : Int} : repB r = true ↔ 0 ≤ r ∧ r ≤ 6 := by simp [repB]
theorem rep_nat {r : Int} (h : repB r = true) : ∃ k : Nat, k < 7 ∧ r = k := by
  have := rep_iff.1 h
  exact ⟨r.toNat, by omega, by omega⟩
theorem wit_none {a : Nat → Int} {r s : Int} (h : repB r = false) : ∀ k : Nat, k < 7 → wit a r s k = a k := fun k hk => by
  have h' : ¬ (0 ≤ r ∧ r ≤ 6) := fun g => by rw [rep_iff.2 g] at h; cases h
  unfold wit; rw [if_neg (by omega)]
theorem out_none {a : Nat → Int} {r s : Int} (h : repB r = false) : ∀ k : Nat, k < 7 → out a r s k = a k := fun k hk => by
  have h' : ¬ (0 ≤ r ∧ r ≤ 6) := fun g => by rw [rep_iff.2 g] at h; cases h
  unfold out; rw [if_neg (by omega)]
theorem out_low {a : Nat → Int} {r s : Int} (h : ¬ 1 ≤ s) : ∀ k : Nat, k < 7 → out a r s k = a k := fun k _ => by
  unfold out; rw [if_neg (by omega)]
theorem has_none {a : Nat → Int} {r s : Int} (h : repB r = false) : has a r s = false := by
  have h' : ¬ (0 ≤ r ∧ r ≤ 6) := fun g => by rw [rep_iff.2 g] at h; cases h
  simp [has, h']
theorem has_low {a : Nat → Int} {r s : Int} (h : ¬ 1 ≤ s) : has a r s = false := by simp [has, h]
theorem has_at {a : Nat → Int} {k : Nat} {s : Int} (hk : k < 7) (h : 1 ≤ s) : has a k s = decide (s ≤ a k) := by
  unfold has
  have : (k : Int).toNat = k := by omega
  rw [this]
  simp [h]
  omega
end V7
theorem run_max_mx (P : Program) (w : World) (ts : Array TypeId) (t : TypeId) (x y : Int) : (Builtin.max_ ts t #[.int .i64 x, .int .i64 y]).run P w = .ok (.int .i64 (V7.mx x y)) w := by
  simp [Builtin.max_, Builtin.max2, V7.mx]
theorem run_part3 (w : World) (cs : Array Value) (i : Nat) (v : Value) (h : cs[i]? = some v) : (part 3 cs i).run Tryz.prog w = .ok v w := by
  simp [part, isAgg, run_underlying Tryz.underlying3, h]
theorem run_same7' (d : Nat) (w : World) (x0 x1 x2 x3 x4 x5 x6 y0 y1 y2 y3 y4 y5 y6 : Int) : (Op.equalIn (d + 2) 39 (.agg #[.int .i64 x0, .int .i64 x1, .int .i64 x2, .int .i64 x3, .int .i64 x4, .int .i64 x5, .int .i64 x6]) (.agg #[.int .i64 y0, .int .i64 y1, .int .i64 y2, .int .i64 y3, .int .i64 y4, .int .i64 y5, .int .i64 y6])).run Tryz.prog w = .ok (V7.same7 x0 x1 x2 x3 x4 x5 x6 y0 y1 y2 y3 y4 y5 y6) w := by
  have h3 : ∀ (w : World) (a b : Int), (Op.equalIn (d + 1) 3 (.int .i64 a) (.int .i64 b)).run Tryz.prog w = .ok (a == b) w := fun w a b => run_equalIn_int w d 3 .i64 .i64 a b Tryz.underlying3
  rw [Op.equalIn]
  simp [run_underlying Tryz.underlying39]
  rw [show List.range' 0 7 = [0, 1, 2, 3, 4, 5, 6] from rfl]
  by_cases e0 : x0 = y0
  · subst e0
    by_cases e1 : x1 = y1
    · subst e1
      by_cases e2 : x2 = y2
      · subst e2
        by_cases e3 : x3 = y3
        · subst e3
          by_cases e4 : x4 = y4
          · subst e4
            by_cases e5 : x5 = y5
            · subst e5
              by_cases e6 : x6 = y6
              · subst e6
                simp [List.forIn_cons, run_part3, h3, V7.same7]
              · simp [List.forIn_cons, run_part3, h3, V7.same7, e6]
            · simp [List.forIn_cons, run_part3, h3, V7.same7, e5]
          · simp [List.forIn_cons, run_part3, h3, V7.same7, e4]
        · simp [List.forIn_cons, run_part3, h3, V7.same7, e3]
      · simp [List.forIn_cons, run_part3, h3, V7.same7, e2]
    · simp [List.forIn_cons, run_part3, h3, V7.same7, e1]
  · simp [List.forIn_cons, run_part3, h3, V7.same7, e0]
theorem run_same7 (w : World) (x0 x1 x2 x3 x4 x5 x6 y0 y1 y2 y3 y4 y5 y6 : Int) : (Op.equalIn 10000 39 (.agg #[.int .i64 x0, .int .i64 x1, .int .i64 x2, .int .i64 x3, .int .i64 x4, .int .i64 x5, .int .i64 x6]) (.agg #[.int .i64 y0, .int .i64 y1, .int .i64 y2, .int .i64 y3, .int .i64 y4, .int .i64 y5, .int .i64 y6])).run Tryz.prog w = .ok (V7.same7 x0 x1 x2 x3 x4 x5 x6 y0 y1 y2 y3 y4 y5 y6) w := run_same7' 9998 w x0 x1 x2 x3 x4 x5 x6 y0 y1 y2 y3 y4 y5 y6
theorem run_idx0 (w : World) (x0 x1 x2 x3 x4 x5 x6 : Int) : (Instr.index 39 (.agg #[.int .i64 x0, .int .i64 x1, .int .i64 x2, .int .i64 x3, .int .i64 x4, .int .i64 x5, .int .i64 x6]) (.int .i64 0)).run Tryz.prog w = .ok (.int .i64 x0) w := by kernel_rfl
theorem run_idx1 (w : World) (x0 x1 x2 x3 x4 x5 x6 : Int) : (Instr.index 39 (.agg #[.int .i64 x0, .int .i64 x1, .int .i64 x2, .int .i64 x3, .int .i64 x4, .int .i64 x5, .int .i64 x6]) (.int .i64 1)).run Tryz.prog w = .ok (.int .i64 x1) w := by kernel_rfl
theorem run_idx2 (w : World) (x0 x1 x2 x3 x4 x5 x6 : Int) : (Instr.index 39 (.agg #[.int .i64 x0, .int .i64 x1, .int .i64 x2, .int .i64 x3, .int .i64 x4, .int .i64 x5, .int .i64 x6]) (.int .i64 2)).run Tryz.prog w = .ok (.int .i64 x2) w := by kernel_rfl
theorem run_idx3 (w : World) (x0 x1 x2 x3 x4 x5 x6 : Int) : (Instr.index 39 (.agg #[.int .i64 x0, .int .i64 x1, .int .i64 x2, .int .i64 x3, .int .i64 x4, .int .i64 x5, .int .i64 x6]) (.int .i64 3)).run Tryz.prog w = .ok (.int .i64 x3) w := by kernel_rfl
theorem run_idx4 (w : World) (x0 x1 x2 x3 x4 x5 x6 : Int) : (Instr.index 39 (.agg #[.int .i64 x0, .int .i64 x1, .int .i64 x2, .int .i64 x3, .int .i64 x4, .int .i64 x5, .int .i64 x6]) (.int .i64 4)).run Tryz.prog w = .ok (.int .i64 x4) w := by kernel_rfl
theorem run_idx5 (w : World) (x0 x1 x2 x3 x4 x5 x6 : Int) : (Instr.index 39 (.agg #[.int .i64 x0, .int .i64 x1, .int .i64 x2, .int .i64 x3, .int .i64 x4, .int .i64 x5, .int .i64 x6]) (.int .i64 5)).run Tryz.prog w = .ok (.int .i64 x5) w := by kernel_rfl
theorem run_idx6 (w : World) (x0 x1 x2 x3 x4 x5 x6 : Int) : (Instr.index 39 (.agg #[.int .i64 x0, .int .i64 x1, .int .i64 x2, .int .i64 x3, .int .i64 x4, .int .i64 x5, .int .i64 x6]) (.int .i64 6)).run Tryz.prog w = .ok (.int .i64 x6) w := by kernel_rfl
attribute [local go_sem ↓] run_max_mx run_same7 run_idx0 run_idx1 run_idx2 run_idx3 run_idx4 run_idx5 run_idx6
/-- A box of seven numbers. -/
theorem cell7 (w : World) (f : Nat → Int) (k : Nat) (h : k < 7) : (w.alloc (.cells #[.int .i64 (f 0), .int .i64 (f 1), .int .i64 (f 2), .int .i64 (f 3), .int .i64 (f 4), .int .i64 (f 5), .int .i64 (f 6)] 39)).cell? ⟨w.heap.size, k, none⟩ = some (.int .i64 (f k)) := by
  rcases V7.seven h with rfl | rfl | rfl | rfl | rfl | rfl | rfl <;> simp

set_option maxRecDepth 100000 in
set_option maxHeartbeats 4000000 in
theorem djoin7_any (a b : Nat → Int) (w : World) :
    Calls Tryz.prog 91 #[.agg #[.int .i64 (a 0), .int .i64 (a 1), .int .i64 (a 2), .int .i64 (a 3), .int .i64 (a 4), .int .i64 (a 5), .int .i64 (a 6)], .agg #[.int .i64 (b 0), .int .i64 (b 1), .int .i64 (b 2), .int .i64 (b 3), .int .i64 (b 4), .int .i64 (b 5), .int .i64 (b 6)]] w fun e w' => e = .returned (.agg #[.int .i64 (V7.join a b 0), .int .i64 (V7.join a b 1), .int .i64 (V7.join a b 2), .int .i64 (V7.join a b 3), .int .i64 (V7.join a b 4), .int .i64 (V7.join a b 5), .int .i64 (V7.join a b 6)]) ∧ Below w.heap.size w w' := by
  go_enter Tryz.func91, Tryz.ntmps91
  go_wp2
  refine wp_loop_rounds 8 ?_
  rw [rounds_succ]
  go_wp2
  rw [rounds_succ]
  go_wp2
  rw [rounds_succ]
  go_wp2
  rw [rounds_succ]
  go_wp2
  rw [rounds_succ]
  go_wp2
  rw [rounds_succ]
  go_wp2
  rw [rounds_succ]
  go_wp2
  rw [rounds_succ]
  go_wp2
  exact bodyPost_ret (v := .agg #[.int .i64 (V7.join a b 0), .int .i64 (V7.join a b 1), .int .i64 (V7.join a b 2), .int .i64 (V7.join a b 3), .int .i64 (V7.join a b 4), .int .i64 (V7.join a b 5), .int .i64 (V7.join a b 6)]) (by simp [results, Tryz.results91, go_sem]; exact ⟨rfl, rfl, rfl, rfl, rfl, rfl, rfl⟩) rfl ⟨rfl, below_new (below_new (below_new (Below.refl _ _)))⟩

set_option maxRecDepth 100000 in
set_option maxHeartbeats 4000000 in
theorem whole_any (w : World) :
    Calls Tryz.prog 74 #[] w fun e w' => e = .returned (.agg #[.int .i64 (V7.wf 0), .int .i64 (V7.wf 1), .int .i64 (V7.wf 2), .int .i64 (V7.wf 3), .int .i64 (V7.wf 4), .int .i64 (V7.wf 5), .int .i64 (V7.wf 6)]) ∧ Below w.heap.size w w' := by
  go_enter Tryz.func74, Tryz.ntmps74
  go_wp2
  refine wp_loop_rounds 8 ?_
  rw [rounds_succ]
  go_wp2
  rw [rounds_succ]
  go_wp2
  rw [rounds_succ]
  go_wp2
  rw [rounds_succ]
  go_wp2
  rw [rounds_succ]
  go_wp2
  rw [rounds_succ]
  go_wp2
  rw [rounds_succ]
  go_wp2
  rw [rounds_succ]
  go_wp2
  exact bodyPost_ret (v := .agg #[.int .i64 (V7.wf 0), .int .i64 (V7.wf 1), .int .i64 (V7.wf 2), .int .i64 (V7.wf 3), .int .i64 (V7.wf 4), .int .i64 (V7.wf 5), .int .i64 (V7.wf 6)]) (by simp [results, Tryz.results74, go_sem, V7.wf]) rfl ⟨rfl, below_new (below_new (Below.refl _ _))⟩
set_option maxRecDepth 100000 in
set_option maxHeartbeats 1000000 in
theorem over_any (a b : Nat → Int) (w : World) :
    Calls Tryz.prog 73 #[.agg #[.int .i64 (a 0), .int .i64 (a 1), .int .i64 (a 2), .int .i64 (a 3), .int .i64 (a 4), .int .i64 (a 5), .int .i64 (a 6)], .agg #[.int .i64 (b 0), .int .i64 (b 1), .int .i64 (b 2), .int .i64 (b 3), .int .i64 (b 4), .int .i64 (b 5), .int .i64 (b 6)]] w fun e w' => e = .returned (.bool (V7.over a b)) ∧ Below w.heap.size w w' := by
  go_enter Tryz.func73, Tryz.ntmps73
  go_wp2_with (fail)
  have HB := Lib.hid (show Below w.heap.size w ((w.alloc (.cells #[.int .i64 (a 0), .int .i64 (a 1), .int .i64 (a 2), .int .i64 (a 3), .int .i64 (a 4), .int .i64 (a 5), .int .i64 (a 6)] 39)).alloc (.cells #[.int .i64 (b 0), .int .i64 (b 1), .int .i64 (b 2), .int .i64 (b 3), .int .i64 (b 4), .int .i64 (b 5), .int .i64 (b 6)] 39)) from below_new (below_new (Below.refl _ _)))
  refine wp_region_after (by kernel_rfl) (by kernel_rfl) ?_
  have hx := @After.cell ((w.alloc (.cells #[.int .i64 (a 0), .int .i64 (a 1), .int .i64 (a 2), .int .i64 (a 3), .int .i64 (a 4), .int .i64 (a 5), .int .i64 (a 6)] 39)).alloc (.cells #[.int .i64 (b 0), .int .i64 (b 1), .int .i64 (b 2), .int .i64 (b 3), .int .i64 (b 4), .int .i64 (b 5), .int .i64 (b 6)] 39))
  repeat (go_big_quiet_step (first | (go_at_call 91; exact Calls.after_of (djoin7_any _ _ _))))
  refine wpQuiet_nil ?_
  rintro _ ⟨x, rfl⟩
  go_wp2
  go_ret
  exact ⟨rfl, below_on HB.out x.below⟩



theorem over_zero (a : Nat → Int) (w : World) :
    Calls Tryz.prog 73 #[.agg #[.int .i64 (a 0), .int .i64 (a 1), .int .i64 (a 2), .int .i64 (a 3), .int .i64 (a 4), .int .i64 (a 5), .int .i64 (a 6)], .agg #[.int .i64 0, .int .i64 0, .int .i64 0, .int .i64 0, .int .i64 0, .int .i64 0, .int .i64 0]] w fun e w' => e = .returned (.bool (V7.over a V7.zf)) ∧ Below w.heap.size w w' := by
  have h := over_any a V7.zf w
  simp only [V7.zf] at h
  exact h
theorem over_wf (a : Nat → Int) (w : World) :
    Calls Tryz.prog 73 #[.agg #[.int .i64 (V7.wf 0), .int .i64 (V7.wf 1), .int .i64 (V7.wf 2), .int .i64 (V7.wf 3), .int .i64 (V7.wf 4), .int .i64 (V7.wf 5), .int .i64 (V7.wf 6)], .agg #[.int .i64 (a 0), .int .i64 (a 1), .int .i64 (a 2), .int .i64 (a 3), .int .i64 (a 4), .int .i64 (a 5), .int .i64 (a 6)]] w fun e w' => e = .returned (.bool (V7.over V7.wf a)) ∧ Below w.heap.size w w' := over_any V7.wf a w
set_option maxRecDepth 100000 in
set_option maxHeartbeats 400000 in
theorem depsR_no (a : Nat → Int) (w : World) (h : V7.over a V7.zf = false) :
    Calls Tryz.prog 50 #[.agg #[.int .i64 (a 0), .int .i64 (a 1), .int .i64 (a 2), .int .i64 (a 3), .int .i64 (a 4), .int .i64 (a 5), .int .i64 (a 6)]] w fun e w' => e = .returned (.bool false) ∧ Below w.heap.size w w' := by
  have K := Lib.hid (over_zero a)
  rw [h] at K
  go_enter Tryz.func50, Tryz.ntmps50
  go_wp2_with (fail)
  have HB := Lib.hid (show Below w.heap.size w (w.alloc (.cells #[.int .i64 (a 0), .int .i64 (a 1), .int .i64 (a 2), .int .i64 (a 3), .int .i64 (a 4), .int .i64 (a 5), .int .i64 (a 6)] 39)) from below_new (Below.refl _ _))
  refine wp_region_after (by kernel_rfl) (by kernel_rfl) ?_
  have hx := @After.cell (w.alloc (.cells #[.int .i64 (a 0), .int .i64 (a 1), .int .i64 (a 2), .int .i64 (a 3), .int .i64 (a 4), .int .i64 (a 5), .int .i64 (a 6)] 39))
  clear h
  repeat (go_big_quiet_step (first | (go_at_call 73; exact Calls.after_of (K.out _))))
  refine wpQuiet_nil ?_
  rintro _ ⟨x, rfl⟩
  go_wp2
  go_ret
  exact ⟨rfl, below_on HB.out x.below⟩
set_option maxRecDepth 100000 in
set_option maxHeartbeats 400000 in
theorem depsR_yes (a : Nat → Int) (w : World) (h : V7.over a V7.zf = true) :
    Calls Tryz.prog 50 #[.agg #[.int .i64 (a 0), .int .i64 (a 1), .int .i64 (a 2), .int .i64 (a 3), .int .i64 (a 4), .int .i64 (a 5), .int .i64 (a 6)]] w fun e w' => e = .returned (.bool (V7.over V7.wf a)) ∧ Below w.heap.size w w' := by
  have K := Lib.hid (over_zero a)
  rw [h] at K
  go_enter Tryz.func50, Tryz.ntmps50
  go_wp2_with (fail)
  have HB := Lib.hid (show Below w.heap.size w (w.alloc (.cells #[.int .i64 (a 0), .int .i64 (a 1), .int .i64 (a 2), .int .i64 (a 3), .int .i64 (a 4), .int .i64 (a 5), .int .i64 (a 6)] 39)) from below_new (Below.refl _ _))
  refine wp_region_after (by kernel_rfl) (by kernel_rfl) ?_
  have hx := @After.cell (w.alloc (.cells #[.int .i64 (a 0), .int .i64 (a 1), .int .i64 (a 2), .int .i64 (a 3), .int .i64 (a 4), .int .i64 (a 5), .int .i64 (a 6)] 39))
  clear h
  go_big_quiet_step (first | (go_at_call 73; exact Calls.after_of (K.out _)))
  go_big_quiet_step (first | (go_at_call 73; exact Calls.after_of (K.out _)))
  go_big_quiet_step (first | (go_at_call 73; exact Calls.after_of (K.out _)))
  go_big_quiet_step (first | (go_at_call 73; exact Calls.after_of (K.out _)))
  go_big_quiet_step (first | (go_at_call 74; exact Calls.after_of (whole_any _)))
  go_big_quiet_step (fail)
  repeat (go_big_quiet_step (first
    | (go_at_call 73; exact Calls.after_of (over_wf _ _))))
  refine wpQuiet_nil ?_
  rintro _ ⟨x, rfl⟩
  go_wp2
  go_ret
  exact ⟨rfl, below_on HB.out x.below⟩
theorem depsR_any (a : Nat → Int) (w : World) :
    Calls Tryz.prog 50 #[.agg #[.int .i64 (a 0), .int .i64 (a 1), .int .i64 (a 2), .int .i64 (a 3), .int .i64 (a 4), .int .i64 (a 5), .int .i64 (a 6)]] w fun e w' => e = .returned (.bool (V7.right a)) ∧ Below w.heap.size w w' := by
  cases h : V7.over a V7.zf
  · rw [show V7.right a = false by unfold V7.right; rw [h]; rfl]
    exact depsR_no a w h
  · rw [show V7.right a = V7.over V7.wf a by unfold V7.right; rw [h]; rfl]
    exact depsR_yes a w h

namespace V7
/-- The first k may be; the first k are no less. -/
def may (a : Nat → Int) (k : Nat) : Prop := ∀ j, j < k → 0 ≤ a j ∧ a j ≤ 1048576
theorem may_zero (a : Nat → Int) : may a 0 := fun j h => by omega
theorem may_succ {a : Nat → Int} {k : Nat} (h : may a k) (h0 : 0 ≤ a k) (h1 : a k ≤ 1048576) : may a (k + 1) := fun j hj => by
  by_cases e : j = k
  · subst e; exact ⟨h0, h1⟩
  · exact h j (by omega)
theorem right_may {a : Nat → Int} (h : may a 7) : right a = true := right_iff.2 h
theorem right_not {a : Nat → Int} {k : Nat} (hk : k < 7) (h : ¬ (0 ≤ a k ∧ a k ≤ 1048576)) : right a = false := by
  cases e : right a
  · rfl
  · exact absurd (right_iff.1 e k hk) h
end V7
set_option maxRecDepth 100000 in
set_option maxHeartbeats 1000000 in
theorem refDeps_any (a : Nat → Int) (w : World) :
    Calls Tryz.prog 45 #[.agg #[.int .i64 (a 0), .int .i64 (a 1), .int .i64 (a 2), .int .i64 (a 3), .int .i64 (a 4), .int .i64 (a 5), .int .i64 (a 6)]] w fun e w' => e = .returned (.bool (V7.right a)) ∧ Below w.heap.size w w' := by
  have hc := cell7 w a
  have HB := Lib.hid (show Below w.heap.size w (w.alloc (.cells #[.int .i64 (a 0), .int .i64 (a 1), .int .i64 (a 2), .int .i64 (a 3), .int .i64 (a 4), .int .i64 (a 5), .int .i64 (a 6)] 39)) from below_new (Below.refl _ _))
  have HC := Lib.hid hc
  clear hc
  go_enter Tryz.func45, Tryz.ntmps45
  go_wp2
  generalize w.alloc (.cells #[.int .i64 (a 0), .int .i64 (a 1), .int .i64 (a 2), .int .i64 (a 3), .int .i64 (a 4), .int .i64 (a 5), .int .i64 (a 6)] 39) = w0 at HC HB ⊢
  go_loop [3] (fun i => ∃ k : Nat, k ≤ 7 ∧ i = .int .i64 k ∧ V7.may a k) (fun i => 7 - (intOf i).toNat)
  case atStart => exact ⟨0, by omega, rfl, V7.may_zero a⟩
  case round =>
    obtain ⟨k, hk, rfl, hr⟩ := hrel
    have HR := Lib.hid hr
    clear hr
    by_cases hlt : k < 7
    · have hcell := HC.out k hlt
      by_cases h1 : 0 ≤ a k
      · by_cases h2 : a k ≤ 1048576
        · go_wp2
          go_round
          case rel => exact ⟨k + 1, by omega, by go_num, V7.may_succ HR.out h1 h2⟩
          case measure => simp [intOf]; omega
        · have h3 : 1048576 < a k := by omega
          go_wp2
          go_ret
          exact ⟨ret_bool (V7.right_not hlt (by omega)).symm, HB.out⟩
      · have h3 : a k < 0 := by omega
        go_wp2
        go_ret
        exact ⟨ret_bool (V7.right_not hlt (by omega)).symm, HB.out⟩
    · obtain rfl : k = 7 := by omega
      go_wp2
      go_ret
      exact ⟨ret_bool (V7.right_may HR.out).symm, HB.out⟩
end Go.Proofs.YtpknkhgkejkpkaaGreat
