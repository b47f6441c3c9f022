/- Keys, stamps, ballots, instances and deps: plain facts, contracts; no conditions but those that they name. -/
import Derived.Test.YtdachohcjpjblaaGreatDoorRows
import Derived.Laws.RangeString
import Derived.Laws.RangeAny
import Derived.WalkKit
import Derived.WalkSpells
import Derived.Lib.Hide
import Derived.Lib.OthersKept
import Derived.BigCall
import Derived.Deep.QuietTactic
import Derived.BigQuiet
import Derived.Maps.AppendAt
import Derived.LoopN
import Derived.ProofKit
import Derived.OpenShut
import Derived.Carry
import Derived.SliceStrings
import Derived.ChangeMaps5
import Derived.Sort.EncStr
import Derived.Sort.Walk0
import Derived.Lib.AppendZerosOnto
import Derived.Lib.SliceRun
import Derived.WalkSmall
import Derived.LoopTactic
import Derived.Deep.LoopGhost
set_option maxHeartbeats 8000000
set_option maxRecDepth 100000
namespace Go.Proofs.YtdachohcjpjblaaGreatDoor.Wi
namespace M
def rightB (n : Nat) : Bool := decide (1 ≤ n) && decide (n ≤ 8)
theorem rightB_iff {n : Nat} : rightB n = true ↔ 1 ≤ n ∧ n ≤ 8 := by simp [rightB]
def rn (s : ByteArray) (p : Nat) : Nat := (Utf8.decode s p).1
def wd (s : ByteArray) (p : Nat) : Nat := (Utf8.decode s p).2
def runesFrom (s : ByteArray) : Nat → Nat → List Nat
 | 0, _ => []
 | f + 1, p => if p < s.size then rn s p :: runesFrom s f (p + wd s p) else []
def runes (s : ByteArray) : List Nat := runesFrom s s.size 0
def weigh : Nat → List Nat → Nat
 | _, [] => 0
 | k, r :: l => (k + 1) * r + weigh (k + 1) l
def weight (s : ByteArray) : Nat := weigh 0 (runes s)
end M
open Go.RowKit
theorem ret_int {k : IntKind} {a b : Int} (h : a = b) : Ending.returned (.int k a) = .returned (.int k b) := by rw [h]
theorem ret_bool {a b : Bool} (h : a = b) : Ending.returned (.bool a) = .returned (.bool b) := by rw [h]
theorem below_on {a b c : World} (h : Below a.heap.size a b) (k : Below b.heap.size b c) : Below a.heap.size a c := h.trans (k.mono h.size)
theorem below_new {a b : World} {o : Obj} (h : Below a.heap.size a b) : Below a.heap.size a (b.alloc o) := h.alloc h.size _
theorem rb_one {n : Nat} (h : 1 ≤ n) : decide ((n : Int) ≤ 8) = M.rightB n := by
 rw [Bool.eq_iff_iff, M.rightB_iff, decide_eq_true_eq]; omega
theorem rb_two {n : Nat} (h : 0 < n) : decide ((n : Int) < 9) = M.rightB n := by
 rw [Bool.eq_iff_iff, M.rightB_iff, decide_eq_true_eq]; omega
theorem rb_no {n : Nat} (h : ¬ 1 ≤ n) : false = M.rightB n := by
 cases e : M.rightB n
 ·rfl
 ·exact absurd (M.rightB_iff.1 e).1 h
theorem right_any (s : ByteArray) (w : World) : Calls Tryz.prog 188 #[.string s] w fun e w' => e = .returned (.bool (M.rightB s.size)) ∧ w = w' := by
 by_cases h1 : 1 ≤ s.size
 ·go_enter Tryz.func188, Tryz.ntmps188
  go_wp2
  go_ret
  exact ⟨ret_bool (rb_one h1), rfl⟩
 ·go_enter Tryz.func188, Tryz.ntmps188
  go_wp2
  go_ret
  exact ⟨ret_bool (rb_no h1), rfl⟩
theorem dright_any (s : ByteArray) (w : World) : Calls Tryz.prog 107 #[.string s] w fun e w' => e = .returned (.bool (M.rightB s.size)) ∧ w = w' := by
 by_cases h1 : 0 < s.size
 ·go_enter Tryz.func107, Tryz.ntmps107
  go_wp2
  go_ret
  exact ⟨ret_bool (rb_two h1), rfl⟩
 ·go_enter Tryz.func107, Tryz.ntmps107
  go_wp2
  go_ret
  exact ⟨ret_bool (rb_no (by omega)), rfl⟩
open Go.RowKit
theorem below_drewN {a w : World} (h : Below a.heap.size a w) (n : Nat) : Below a.heap.size a (w.drewN n) := ⟨h.os, h.tape, h.output, h.size, h.block⟩
open Go.RowKit
theorem info3 : (Tryz.prog.info? 3).map (fun i => (i.zero, i.size, i.bytes)) = some (some (.int .i64 0), 1, 8) := by kernel_rfl
def Nums (t : TypeId) (k : IntKind) (l : List Nat) (w : World) (e : Ending) (w' : World) : Prop := ∃ v, e = .returned v ∧ w'.ownsRow w.heap.size t 1 v l.length (l.map fun n => .int k (n : Nat)) ∧ Below w.heap.size w w'
theorem ownsRow_base {w : World} {base base' : Nat} {t : TypeId} {v : Value} {n : Nat} {xs : List Value} (h : w.ownsRow base t 1 v n xs) (hb : base' ≤ base) : w.ownsRow base' t 1 v n xs := by
 refine ⟨h.1, ?_⟩
 rcases h.2 with h0 | ⟨g, cap, cur, hv, hg, r⟩
 ·exact .inl h0
 ·exact .inr ⟨g, cap, cur, hv, Nat.le_trans hb hg, r⟩
open Go.RowKit
def Cut (s : ByteArray) (p : Nat) (t : ByteArray) : Prop := p ≤ s.size ∧ t = s.extract p s.size
def strLen : Value → Nat
 | .string s => s.size
 | _ => 0
def Row (w : World) (v : Value) (xs : List Value) : Prop := ∃ (A : Option Addr) (c : Nat), v = .slice A xs.length c ∧ xs.length ≤ c ∧ (0 < xs.length → ∃ b o, A = some ⟨b, o, none⟩ ∧ b < w.heap.size ∧ ∀ k x, xs[k]? = some x → w.cell? ⟨b, o + k, none⟩ = some x)
theorem Row.of_owns {w : World} {base : Nat} {t : TypeId} {v : Value} {n : Nat} {xs : List Value} (h : w.ownsRow base t 1 v n xs) : Row w v xs := by
 obtain ⟨hl, h2⟩ := h
 rw [Nat.mul_one] at hl
 rcases h2 with ⟨rfl, rfl⟩ | ⟨g, cap, cur, rfl, hb, hg, hn, hm, hs, ht⟩
 ·exact ⟨none, 0, by rw [hl], by omega, fun h => absurd h (by omega)⟩
 ·refine ⟨some ⟨g, 0, none⟩, cap, by rw [hl], by omega, fun _ => ⟨g, 0, rfl, (Array.getElem?_eq_some_iff.1 hg).1, fun k x hx => ?_⟩⟩
  have hk : k < xs.length := (List.getElem?_eq_some_iff.1 hx).1
  have h1 : (cur.toList.take (n * 1))[k]? = some x := by rw [ht]; exact hx
  rw [List.getElem?_take_of_lt (by omega), Array.getElem?_toList] at h1
  simp only [World.cell?, hg, Nat.zero_add, Option.isSome_none, Bool.false_eq_true, if_false]
  exact h1
theorem Row.below {w w' : World} {v : Value} {xs : List Value} (h : Row w v xs) (hb : Below w.heap.size w w') : Row w' v xs := by
 obtain ⟨A, c, e, hl, hc⟩ := h
 refine ⟨A, c, e, hl, fun h0 => ?_⟩
 obtain ⟨b, o, e1, hlt, hx⟩ := hc h0
 exact ⟨b, o, e1, Nat.lt_of_lt_of_le hlt hb.size, fun k x hk => (hb.cell hlt).trans (hx k x hk)⟩
namespace M
end M
open Go.RowKit
namespace M
def okB (l : Nat) (n : Int) : Bool := rightB l && (decide (1 ≤ n) && decide (n ≤ 4))
def sh (s : ByteArray) (n : Int) : Int := if okB s.size n then (weight s : Int) % n else 0
def er (s : ByteArray) (n : Int) : Int := if okB s.size n then 0 else 1
end M
theorem two (b : Bool) : b = true ∨ b = false := by cases b <;> simp
namespace M
def fewB (ss : List (List UInt8)) : Bool := (ss.take 41).all (fun x => decide (x.length ≤ 100)) && decide (ss.length ≤ 40)
def Few (ss : List (List UInt8)) : Prop := ss.length ≤ 40 ∧ ∀ x ∈ ss, x.length ≤ 100
def shortTo (ss : List (List UInt8)) (k : Nat) : Prop := ∀ x ∈ ss.take k, x.length ≤ 100
theorem getD_mem {ss : List (List UInt8)} {k : Nat} (h : k < ss.length) : ss.getD k [] ∈ ss := by
 rw [List.getD, List.getElem?_eq_getElem h]; exact List.getElem_mem h
def inB (ss : List (List UInt8)) (k : List UInt8) : Bool := decide (k ∈ ss)
def sameB (ss ts : List (List UInt8)) : Bool := decide (ss = ts)
def ltB (a b : List UInt8) : Bool := decide (a < b)
theorem ltB_iff {a b : List UInt8} : ltB a b = true ↔ a < b := by simp [ltB]
theorem lt_step {c d : UInt8} {a b : List UInt8} : (c :: a < d :: b) ↔ (c < d ∨ c = d ∧ a < b) := List.cons_lt_cons_iff
theorem lt_drop (a b : List UInt8) (k : Nat) (h : a.take k = b.take k) (ha : k ≤ a.length) (hb : k ≤ b.length) : ltB a b = ltB (a.drop k) (b.drop k) := by
 induction k generalizing a b with
 | zero => rfl
 | succ k ih =>
   match a, b with
   | [], _ => simp at ha
   | _, [] => simp at hb
   | c :: a, d :: b =>
     simp only [List.take_succ_cons, List.cons.injEq] at h
     obtain ⟨rfl, h⟩ := h
     have := ih a b h (by simpa using ha) (by simpa using hb)
     simp only [List.drop_succ_cons]
     rw [← this]
     unfold ltB
     exact decide_eq_decide.2 (by rw [lt_step]; constructor
                                  ·rintro (h | h)
                                   ·exact absurd h (UInt8.lt_irrefl _)
                                   ·exact h.2
                                  ·exact fun h => .inr ⟨rfl, h⟩)
theorem lt_short {a b : List UInt8} {k : Nat} (h : a.take k = b.take k) (ha : k = a.length) (hb : k < b.length) : true = ltB a b := by
 rw [lt_drop a b k h (by omega) (by omega), ha, List.drop_length, eq_comm, ltB_iff]
 cases e : b.drop a.length with
 | nil => have := congrArg List.length e; simp at this; omega
 | cons => simp
theorem lt_long {a b : List UInt8} {k : Nat} (h : a.take k = b.take k) (ha : k ≤ a.length) (hb : k = b.length) : false = ltB a b := by
 rw [lt_drop a b k h (by omega) (by omega), hb, List.drop_length]
 simp [ltB]
theorem lt_byte {a b : List UInt8} {k : Nat} (h : a.take k = b.take k) (ha : k < a.length) (hb : k < b.length) (hne : a[k] ≠ b[k]) : decide (a[k] < b[k]) = ltB a b := by
 rw [lt_drop a b k h (by omega) (by omega), List.drop_eq_getElem_cons ha, List.drop_eq_getElem_cons hb]
 unfold ltB
 exact decide_eq_decide.2 (by rw [lt_step]; constructor
                              ·exact fun h => .inl h
                              ·rintro (h | h)
                               ·exact h
                               ·exact absurd h.1 hne)
theorem take_byte {a b : List UInt8} {k : Nat} (h : a.take k = b.take k) (ha : k < a.length) (hb : k < b.length) (he : a[k] = b[k]) : a.take (k + 1) = b.take (k + 1) := by
 rw [List.take_add_one, List.take_add_one, h, List.getElem?_eq_getElem ha, List.getElem?_eq_getElem hb, he]
def Asc (l : List (List UInt8)) : Prop := l.Pairwise (· < ·)
def add (acc : List (List UInt8)) (x : List UInt8) : List (List UInt8) := if inB acc x then acc else acc ++ [x]
def gat (l : List (List UInt8)) : List (List UInt8) := l.foldl add []
def srt (l : List (List UInt8)) : List (List UInt8) := l.mergeSort (fun x y => decide (x ≤ y))
def join (ss ts : List (List UInt8)) : List (List UInt8) := srt (gat (ss ++ ts))
def ins (out : List (List UInt8)) (x : List UInt8) : List (List UInt8) := if inB out x then out else out.takeWhile (ltB · x) ++ x :: out.dropWhile (ltB · x)
def djoin (ss ts : List (List UInt8)) : List (List UInt8) := (ss ++ ts).foldl ins []
end M
open Go.ChangeShapes Go.WideShapes Go.ChangeAt Go.RowKit
theorem own : ownKnob Tryz.prog.godebug = none := by kernel_rfl
theorem laidOut : laidOutB Tryz.prog = true := by kernel_rfl
theorem cells9 : Tryz.prog.cellsOf 9 = 1 := by kernel_rfl
def Words (w : World) (v : Value) (ss : List (List UInt8)) : Prop := Row w v (ss.map encStr)
theorem Words.below {w w' : World} {v : Value} {ss : List (List UInt8)} (h : Words w v ss) (hb : Below w.heap.size w w') : Words w' v ss := Row.below h hb
open Go.RowKit
theorem Words.opened {w : World} {v : Value} {ss : List (List UInt8)} (h : Words w v ss) : ∃ (A : Option Addr) (c : Nat), v = .slice A ss.length c ∧ ss.length ≤ c ∧ (0 < ss.length → ∃ b o, A = some ⟨b, o, none⟩ ∧ b < w.heap.size ∧ ∀ k, k < ss.length → w.cell? ⟨b, o + k, none⟩ = some (.string ⟨(ss.getD k []).toArray⟩)) := by
 obtain ⟨A, c, e, hl, hx⟩ := h
 rw [List.length_map] at e hl hx
 refine ⟨A, c, e, hl, fun h0 => ?_⟩
 obtain ⟨b, o, e1, hb, hy⟩ := hx h0
 exact ⟨b, o, e1, hb, fun k hk => hy k _ (by rw [List.getElem?_map, List.getD, List.getElem?_eq_getElem hk]; rfl)⟩
theorem size_mk (x : List UInt8) : (⟨x.toArray⟩ : ByteArray).size = x.length := by simp [ByteArray.size]
open Go.RowKit
theorem byte_at (a : List UInt8) (s : ByteArray) (hs : s = ⟨a.toArray⟩) (k : Nat) (h : k < s.size) (h' : k < a.length) : (s[k]'h).toNat = (a[k]'h').toNat := by
 subst hs; rfl
theorem before_any (a b : List UInt8) (w : World) (ha : a.length ≤ 1000000) (hb : b.length ≤ 1000000) : Calls Tryz.prog 108 #[.string ⟨a.toArray⟩,.string ⟨b.toArray⟩] w fun e w' => e = .returned (.bool (M.ltB a b)) ∧ ∃ n, w' = w.drewN n := by
 obtain ⟨s, hs⟩ : ∃ s : ByteArray, s = ⟨a.toArray⟩ := ⟨_, rfl⟩
 obtain ⟨t, ht⟩ : ∃ t : ByteArray, t = ⟨b.toArray⟩ := ⟨_, rfl⟩
 rw [← hs, ← ht]
 have HS := Lib.hid hs
 have HT := Lib.hid ht
 have hsz : s.size = a.length := by rw [hs, size_mk]
 have htz : t.size = b.length := by rw [ht, size_mk]
 have ZS := Lib.hid hsz
 have ZT := Lib.hid htz
 have ha' : s.size ≤ 1000000 := by omega
 have hb' : t.size ≤ 1000000 := by omega
 clear hs ht hsz htz
 go_enter Tryz.func108, Tryz.ntmps108
 go_wp2
 go_loopw [5] (fun i wr => ∃ k n : Nat, k ≤ t.size ∧ k ≤ s.size ∧ i = .int .i64 k ∧ wr = w.drewN n ∧ a.take k = b.take k) (fun i _ => t.size - (intOf i).toNat)
 case atStart => exact ⟨0, 0, Nat.zero_le _, Nat.zero_le _, rfl, rfl, rfl⟩
 case round =>
  obtain ⟨k, n, hk, hk2, rfl, rfl, htk⟩ := hrel
  have HK := Lib.hid htk
  clear htk
  by_cases hlt : k < t.size
  ·by_cases hks : k = s.size
   ·have q1 : ((k : Int) == (s.size : Int)) = true := by rw [beq_iff_eq]; omega
    go_wp2
    go_ret
    exact ⟨ret_bool (M.lt_short HK.out (by have := ZS.out; omega) (by have := ZT.out; omega)), _, rfl⟩
   ·have q1 : ((k : Int) == (s.size : Int)) = false := by rw [beq_eq_false_iff_ne]; omega
    have q2 : (k == s.size) = false := by rw [beq_eq_false_iff_ne]; exact hks
    have hls : k < s.size := by omega
    have ka : k < a.length := by have := ZS.out; omega
    have kb : k < b.length := by have := ZT.out; omega
    have e1 := byte_at a s HS.out k hls ka
    have e2 := byte_at b t HT.out k hlt kb
    obtain ⟨x, hx⟩ : ∃ x, x = (a[k]'ka).toNat := ⟨_, rfl⟩
    obtain ⟨y, hy⟩ : ∃ y, y = (b[k]'kb).toNat := ⟨_, rfl⟩
    rw [← hx] at e1
    rw [← hy] at e2
    have X := Lib.hid hx
    have Y := Lib.hid hy
    have x256 : x < 256 := by rw [hx]; exact (a[k]'ka).toNat_lt
    have y256 : y < 256 := by rw [hy]; exact (b[k]'kb).toNat_lt
    clear hx hy
    have i1 : (k : Int) < (s.size : Int) := by omega
    have i2 : (k : Int) < (t.size : Int) := by omega
    by_cases hxy : x = y
    ·have heq : (a[k]'ka) = (b[k]'kb) := UInt8.toNat_inj.1 (by rw [← X.out, ← Y.out, hxy])
     have HE := Lib.hid heq
     clear heq
     go_wp2
     go_quiet (fail)
     go_wp2
     go_roundw
     case rel => exact ⟨k + 1, _, by omega, by omega, by go_num, rfl, M.take_byte HK.out ka kb HE.out⟩
     case measure => simp [intOf]; omega
    ·have q3 : ((x : Int) == (y : Int)) = false := by rw [beq_eq_false_iff_ne]; omega
     have q4 : ((x : Int) != (y : Int)) = true := by rw [bne, q3]; rfl
     have q5 : (x == y) = false := by rw [beq_eq_false_iff_ne]; exact hxy
     have q6 : (x != y) = true := by rw [bne, q5]; rfl
     have hne : (a[k]'ka) ≠ (b[k]'kb) := fun h => hxy (by rw [X.out, Y.out, h])
     go_wp2
     go_quiet (fail)
     go_wp2
     go_quiet (fail)
     go_wp2
     go_ret
     refine ⟨ret_bool ?_, _, by rw [World.drewN_drewN, World.drewN_drewN]⟩
     rw [← M.lt_byte HK.out ka kb hne]
     exact decide_eq_decide.2 (by rw [UInt8.lt_iff_toNat_lt, ← X.out, ← Y.out])
  ·go_wp2
   go_ret
   exact ⟨ret_bool (M.lt_long HK.out (by have := ZS.out; omega) (by have := ZT.out; omega)), _, rfl⟩
open Go.RowKit
namespace M
def okAt (ss : List (List UInt8)) (k : Nat) : Bool := rightB (ss.getD k []).length && (decide (k = 0) || ltB (ss.getD (k - 1) []) (ss.getD k []))
def okTo (ss : List (List UInt8)) (k : Nat) : Prop := ∀ i, i < k → okAt ss i = true
def rightsB (ss : List (List UInt8)) : Bool := decide (ss.length ≤ 8) && (List.range ss.length).all (okAt ss)
theorem rightsB_to {ss : List (List UInt8)} : rightsB ss = true ↔ ss.length ≤ 8 ∧ okTo ss ss.length := by simp [rightsB, okTo]
theorem okTo_zero (ss : List (List UInt8)) : okTo ss 0 := fun i h => absurd h (by omega)
theorem okTo_succ {ss : List (List UInt8)} {k : Nat} (h : okTo ss k) (hk : okAt ss k = true) : okTo ss (k + 1) := fun i hi => by
 by_cases e : i = k
 ·rw [e]; exact hk
 ·exact h i (by omega)
theorem rights_no {ss : List (List UInt8)} {k : Nat} (hk : k < ss.length) (h : okAt ss k = false) : false = rightsB ss := by
 cases e : rightsB ss
 ·rfl
 ·rw [(rightsB_to.1 e).2 k hk] at h; cases h
theorem rights_long {ss : List (List UInt8)} (h : ¬ ss.length ≤ 8) : false = rightsB ss := by simp [rightsB, h]
theorem rights_end {ss : List (List UInt8)} {k : Nat} (h : okTo ss k) (hk : ¬ k < ss.length) (hl : ss.length ≤ 8) : true = rightsB ss := by
 rw [eq_comm, rightsB_to]; exact ⟨hl, fun i hi => h i (by omega)⟩
theorem rights_len {ss : List (List UInt8)} {k : Nat} (h : okTo ss k) (hk : ¬ k < ss.length) : decide ((ss.length : Int) ≤ 8) = rightsB ss := by
 rw [Bool.eq_iff_iff, decide_eq_true_eq, rightsB_to]
 constructor
 ·intro hl; exact ⟨by omega, fun i hi => h i (by omega)⟩
 ·rintro ⟨hl, _⟩; omega
theorem okAt_zero {ss : List (List UInt8)} {x : List UInt8} (hx : x = ss.getD 0 []) : okAt ss 0 = rightB x.length := by simp [okAt, hx]
theorem okAt_succ {ss : List (List UInt8)} {x y : List UInt8} {j : Nat} (hx : x = ss.getD (j + 1) []) (hy : y = ss.getD j []) : okAt ss (j + 1) = (rightB x.length && ltB y x) := by simp [okAt, hx, hy]
end M
theorem less_is (x y : List UInt8) : Op.bytesLess x y = M.ltB x y := bytesLess_eq x y
theorem run_geq_str (P : Program) (w : World) (t : TypeId) (x y : List UInt8) : (binOp .geq t (.string ⟨x.toArray⟩) (.string ⟨y.toArray⟩)).run P w = .ok (.bool (!M.ltB x y)) w := by
 simp [binOp, Op.stringOp, less_is]
theorem right_l (x : List UInt8) (w : World) : Calls Tryz.prog 188 #[.string ⟨x.toArray⟩] w fun e w' => e = .returned (.bool (M.rightB x.length)) ∧ w = w' := by
 have := right_any ⟨x.toArray⟩ w
 rw [size_mk] at this
 exact this
theorem dright_l (x : List UInt8) (w : World) : Calls Tryz.prog 107 #[.string ⟨x.toArray⟩] w fun e w' => e = .returned (.bool (M.rightB x.length)) ∧ w = w' := by
 have := dright_any ⟨x.toArray⟩ w
 rw [size_mk] at this
 exact this
attribute [local go_sem ↓] run_geq_str
theorem rights_any {w : World} {v : Value} {ss : List (List UInt8)} (h : Words w v ss) : Calls Tryz.prog 182 #[v] w fun e w' => e = .returned (.bool (M.rightsB ss)) ∧ w = w' := by
 obtain ⟨A, c, rfl, hc, hx⟩ := h.opened
 have HX := Lib.hid hx
 clear hx h
 by_cases hl : ss.length ≤ 8
 ·go_enter Tryz.func182, Tryz.ntmps182
  go_wp2
  go_loop [10] (fun i => ∃ k : Nat, k ≤ ss.length ∧ i = .int .i64 k ∧ M.okTo ss k) (fun i => ss.length - (intOf i).toNat)
  case atStart => exact ⟨0, Nat.zero_le _, rfl, M.okTo_zero ss⟩
  case round =>
   obtain ⟨k, hk, rfl, hok⟩ := hrel
   have HS := Lib.hid hok
   clear hok
   by_cases hlt : k < ss.length
   ·obtain ⟨b, o, rfl, hb, hy⟩ := HX.out (by omega)
    have hcell := hy k hlt
    obtain ⟨x, hxk⟩ : ∃ x, x = ss.getD k [] := ⟨_, rfl⟩
    rw [← hxk] at hcell
    have HXK := Lib.hid hxk
    clear hxk
    cases k with
    | zero =>
      rw [Nat.add_zero] at hcell
      clear hy
      rcases two (M.rightB x.length) with e | e
      ·go_wp2_with (go_at_call 188; refine (right_l _ _).mono ?_; rintro e w' ⟨rfl, rfl⟩)
       go_round
       case rel => exact ⟨1, by omega, by go_num, M.okTo_succ HS.out (by rw [M.okAt_zero HXK.out]; exact e)⟩
       case measure => simp [intOf]; omega
      ·go_wp2_with (go_at_call 188; refine (right_l _ _).mono ?_; rintro e w' ⟨rfl, rfl⟩)
       go_ret
       exact ⟨ret_bool (M.rights_no hlt (by rw [M.okAt_zero HXK.out]; exact e)), rfl⟩
    | succ j =>
      have hcell2 := hy j (by omega)
      obtain ⟨y, hyk⟩ : ∃ y, y = ss.getD j [] := ⟨_, rfl⟩
      rw [← hyk] at hcell2
      have HYK := Lib.hid hyk
      have HE := Lib.hid (M.okAt_succ HXK.out HYK.out)
      clear hy hyk
      rcases two (M.rightB x.length) with e | e
      ·rcases two (M.ltB y x) with f | f
       ·go_wp2_with (go_at_call 188; refine (right_l _ _).mono ?_; rintro e w' ⟨rfl, rfl⟩)
        go_round
        case rel => exact ⟨j + 1 + 1, by omega, by go_num, M.okTo_succ HS.out (by rw [HE.out, e, f]; rfl)⟩
        case measure => simp [intOf]; omega
       ·go_wp2_with (go_at_call 188; refine (right_l _ _).mono ?_; rintro e w' ⟨rfl, rfl⟩)
        go_ret
        exact ⟨ret_bool (M.rights_no hlt (by rw [HE.out, f, Bool.and_false])), rfl⟩
      ·go_wp2_with (go_at_call 188; refine (right_l _ _).mono ?_; rintro e w' ⟨rfl, rfl⟩)
       go_ret
       exact ⟨ret_bool (M.rights_no hlt (by rw [HE.out, e, Bool.false_and])), rfl⟩
   ·go_wp2
    go_ret
    exact ⟨ret_bool (M.rights_end HS.out hlt hl), rfl⟩
 ·go_enter Tryz.func182, Tryz.ntmps182
  go_wp2
  go_ret
  exact ⟨ret_bool (M.rights_long hl), rfl⟩
open Go.RowKit
def Drawn (w w' : World) : Prop := ∃ n, w' = w.drewN n
theorem Drawn.refl (w : World) : Drawn w w := ⟨0, rfl⟩
theorem Drawn.on {w w' : World} (h : Drawn w w') (n : Nat) : Drawn w (w'.drewN n) := by
 obtain ⟨m, rfl⟩ := h
 exact ⟨m + n, by rw [World.drewN_drewN]⟩
theorem Drawn.cell {w w' : World} (h : Drawn w w') (a : Addr) : w'.cell? a = w.cell? a := by
 obtain ⟨m, rfl⟩ := h; rfl
theorem Drawn.below {w w' : World} (h : Drawn w w') : Below w.heap.size w w' := by
 obtain ⟨m, rfl⟩ := h; exact below_drewN (Below.refl _ _) _
theorem dright_q (x : List UInt8) (w : World) : Calls Tryz.prog 107 #[.string ⟨x.toArray⟩] w fun e w' => e = .returned (.bool (M.rightB x.length)) ∧ w' = w := (dright_l x w).mono fun _ _ h => ⟨h.1, h.2.symm⟩
theorem drights_any {w : World} {v : Value} {ss : List (List UInt8)} (h : Words w v ss) (hl : ss.length ≤ 1000) (hs : ∀ x ∈ ss, x.length ≤ 1000) : Calls Tryz.prog 83 #[v] w fun e w' => e = .returned (.bool (M.rightsB ss)) ∧ Below w.heap.size w w' := by
 obtain ⟨A, c, rfl, hc, hx⟩ := h.opened
 have HX := Lib.hid hx
 have HL := Lib.hid hs
 clear hx h hs
 go_enter Tryz.func83, Tryz.ntmps83
 go_wp2
 go_loopw [3] (fun i wr => ∃ k : Nat, k ≤ ss.length ∧ i = .int .i64 k ∧ M.okTo ss k ∧ Drawn w wr) (fun i _ => ss.length - (intOf i).toNat)
 case atStart => exact ⟨0, Nat.zero_le _, rfl, M.okTo_zero ss, Drawn.refl w⟩
 case round =>
  obtain ⟨k, hk, rfl, hok, hd⟩ := hrel
  have HS := Lib.hid hok
  have HD := Lib.hid hd
  clear hok hd
  by_cases hlt : k < ss.length
  ·obtain ⟨b, o, rfl, hb, hy⟩ := HX.out (by omega)
   have hcell := (HD.out.cell _).trans (hy k hlt)
   obtain ⟨x, hxk⟩ : ∃ x, x = ss.getD k [] := ⟨_, rfl⟩
   rw [← hxk] at hcell
   have hx1 : x.length ≤ 1000 := by rw [hxk]; exact HL.out _ (M.getD_mem hlt)
   have HXK := Lib.hid hxk
   clear hxk
   cases k with
   | zero =>
     rw [Nat.add_zero] at hcell
     clear hy
     have hi1 : (0 : Int) < (ss.length : Int) := by omega
     rcases two (M.rightB x.length) with e | e
     ·go_wp2
      go_quiet ((go_at_call 107; exact Calls.quiet_of_same (dright_q _ _)))
      go_wp2
      go_roundw
      case rel => exact ⟨1, by omega, by go_num, M.okTo_succ HS.out (by rw [M.okAt_zero HXK.out]; exact e), HD.out.on _⟩
      case measure => simp [intOf]; omega
     ·go_wp2
      go_quiet ((go_at_call 107; exact Calls.quiet_of_same (dright_q _ _)))
      go_wp2
      go_ret
      exact ⟨ret_bool (M.rights_no hlt (by rw [M.okAt_zero HXK.out]; exact e)), (HD.out.on _).below⟩
   | succ j =>
     have hcell2 := (HD.out.cell _).trans (hy j (by omega))
     obtain ⟨y, hyk⟩ : ∃ y, y = ss.getD j [] := ⟨_, rfl⟩
     rw [← hyk] at hcell2
     have hy1 : y.length ≤ 1000 := by rw [hyk]; exact HL.out _ (M.getD_mem (by omega))
     have HYK := Lib.hid hyk
     have HE := Lib.hid (M.okAt_succ HXK.out HYK.out)
     clear hy hyk
     have hi1 : (j : Int) + 1 < (ss.length : Int) := by omega
     have hi2 : (j : Int) < (ss.length : Int) := by omega
     have hj1 : IntKind.i64.wrap ((j : Int) + 1 - 1) = (j : Int) := by rw [IntKind.wrap_i64]; omega
     rcases two (M.rightB x.length) with e | e
     ·rcases two (M.ltB y x) with f | f
      ·go_wp2
       go_quiet ((first | (go_at_call 107; exact Calls.quiet_of_same (dright_q _ _)) | (go_at_call 108; exact Calls.quiet_of (before_any _ _ _ (by omega) (by omega)))))
       go_wp2
       go_roundw
       case rel => exact ⟨j + 1 + 1, by omega, by go_num, M.okTo_succ HS.out (by rw [HE.out, e, f]; rfl), HD.out.on _⟩
       case measure => simp [intOf]; omega
      ·go_wp2
       go_quiet ((first | (go_at_call 107; exact Calls.quiet_of_same (dright_q _ _)) | (go_at_call 108; exact Calls.quiet_of (before_any _ _ _ (by omega) (by omega)))))
       go_wp2
       go_ret
       exact ⟨ret_bool (M.rights_no hlt (by rw [HE.out, f, Bool.and_false])), (HD.out.on _).below⟩
     ·go_wp2
      go_quiet ((first | (go_at_call 107; exact Calls.quiet_of_same (dright_q _ _)) | (go_at_call 108; exact Calls.quiet_of (before_any _ _ _ (by omega) (by omega)))))
      go_wp2
      go_ret
      exact ⟨ret_bool (M.rights_no hlt (by rw [HE.out, e, Bool.false_and])), (HD.out.on _).below⟩
  ·go_wp2
   go_ret
   exact ⟨ret_bool (M.rights_len HS.out hlt), HD.out.below⟩
open Go.ChangeShapes Go.WideShapes Go.ChangeAt Go.RowKit
theorem info9 : (Tryz.prog.info? 9).map (fun i => (i.zero, i.size, i.bytes)) = some (some (.string ⟨#[]⟩), 1, 16) := by kernel_rfl
theorem one_str (ss : List (List UInt8)) : ∀ u ∈ ss.map encStr, u.oneCell' = true := by
 intro u hu
 rw [List.mem_map] at hu
 obtain ⟨x, _, rfl⟩ := hu
 rfl
theorem append_nil {w : World} {base : Nat} {v : Value} {n : Nat} {xs : List Value} (c : Nat) (hown : w.ownsRow base 9 1 v n xs) : (Builtin.append_ #[147, 147] 147 #[v,.slice none 0 c]).run Tryz.prog w = .ok v w := by
 obtain ⟨i0, hi, hz0, hz1, hz2⟩ := info_parts info9
 have ht : Tryz.prog.underlying 147 = some (.slice 9) := Tryz.underlying147
 rcases hown.2 with ⟨rfl, rfl⟩ | ⟨g, cap, cur, rfl, _, _, hnc, _⟩
 ·simp [Builtin.append_, run_underlying ht, sizeOf, typeInfo, hi, Builtin.lenOf, Builtin.firstCells]
 ·simp [Builtin.append_, run_underlying ht, sizeOf, typeInfo, hi, Builtin.lenOf, Builtin.firstCells, hnc, storeCells]
def Made (l : List (List UInt8)) (w : World) (e : Ending) (w' : World) : Prop := ∃ v, e = .returned v ∧ w'.ownsRow w.heap.size 9 1 v l.length (l.map encStr) ∧ Below w.heap.size w w'
open Go.ChangeShapes Go.WideShapes Go.ChangeAt Go.RowKit
def At3 (i : Value) (P0 P1 P2 : Prop) : Prop := (i = .int .i64 0 ∧ P0) ∨ (i = .int .i64 1 ∧ P1) ∨ (i = .int .i64 2 ∧ P2)
theorem Made.words {l : List (List UInt8)} {w' : World} {base : Nat} {v : Value} (h : w'.ownsRow base 9 1 v l.length (l.map encStr)) : Words w' v l := Row.of_owns h
open Go.RowKit
namespace M
def within (n lo hi : Int) : Bool := decide (lo ≤ n) && decide (n ≤ hi)
theorem within_true {n lo hi : Int} (h1 : lo ≤ n) (h2 : n ≤ hi) : within n lo hi = true := by simp [within, h1, h2]
theorem within_low {n lo hi : Int} (h : ¬ lo ≤ n) : within n lo hi = false := by simp [within, h]
theorem within_high {n lo hi : Int} (h : ¬ n ≤ hi) : within n lo hi = false := by simp [within, h]
theorem within_iff {n lo hi : Int} : within n lo hi = true ↔ lo ≤ n ∧ n ≤ hi := by simp [within]
def pairB (x y lo a lo' b : Int) : Bool := within x lo a && within y lo' b
theorem pair_true {x y lo a lo' b : Int} (h1 : within x lo a = true) (h2 : within y lo' b = true) : pairB x y lo a lo' b = true := by simp [pairB, h1, h2]
theorem pair_one {x y lo a lo' b : Int} (h1 : within x lo a = false) : pairB x y lo a lo' b = false := by simp [pairB, h1]
theorem pair_two {x y lo a lo' b : Int} (h2 : within y lo' b = false) : pairB x y lo a lo' b = false := by simp [pairB, h2]
theorem pair_iff {x y lo a lo' b : Int} : pairB x y lo a lo' b = true ↔ (lo ≤ x ∧ x ≤ a) ∧ (lo' ≤ y ∧ y ≤ b) := by simp [pairB, within_iff]
def ord (a b c d : Int) : Int := if a < c then -1 else if c < a then 1 else if b < d then -1 else if d < b then 1 else 0
theorem ord_lt {a b c d : Int} (h : a < c) : ord a b c d = -1 := by simp [ord, h]
theorem ord_gt {a b c d : Int} (h : c < a) : ord a b c d = 1 := by
 have : ¬ a < c := by omega
 simp [ord, h, this]
theorem ord_lt2 {a b d : Int} (h : b < d) : ord a b a d = -1 := by simp [ord, h]
theorem ord_gt2 {a b d : Int} (h : d < b) : ord a b a d = 1 := by
 have : ¬ b < d := by omega
 simp [ord, h, this]
theorem ord_same (a b : Int) : ord a b a b = 0 := by simp [ord]
end M
theorem within_any (n lo hi : Int) (w : World) :
 Calls Tryz.prog 165 #[.int .i64 n,.int .i64 lo,.int .i64 hi] w fun e w' => e = .returned (.bool (M.within n lo hi)) ∧ w = w' := by
 by_cases h1 : lo ≤ n
 ·by_cases h2 : n ≤ hi
  ·rw [M.within_true h1 h2]
   go_enter Tryz.func165, Tryz.ntmps165
   go_wp2
   go_ret
   exact ⟨rfl, rfl⟩
  ·rw [M.within_high h2]
   go_enter Tryz.func165, Tryz.ntmps165
   go_wp2
   go_ret
   exact ⟨rfl, rfl⟩
 ·rw [M.within_low h1]
  go_enter Tryz.func165, Tryz.ntmps165
  go_wp2
  go_ret
  exact ⟨rfl, rfl⟩
theorem isClient_any (k : Int) (w : World) :
 Calls Tryz.prog 179 #[.int .i64 k] w fun e w' => e = .returned (.bool (M.within k 0 3)) ∧ w = w' := by
 go_enter Tryz.func179, Tryz.ntmps179
 go_wp2_with (go_at_call 165; refine (within_any _ _ _ _).mono ?_; rintro e w' ⟨rfl, rfl⟩)
 go_ret
 exact ⟨rfl, rfl⟩
theorem side_true (w : World) :
 Calls Tryz.prog 94 #[.bool true] w fun e w' => e = .returned (.int .i64 (-1)) ∧ w = w' := by
 go_enter Tryz.func94, Tryz.ntmps94
 go_wp2
 go_ret
 exact ⟨rfl, rfl⟩
theorem side_false (w : World) :
 Calls Tryz.prog 94 #[.bool false] w fun e w' => e = .returned (.int .i64 1) ∧ w = w' := by
 go_enter Tryz.func94, Tryz.ntmps94
 go_wp2
 go_ret
 exact ⟨rfl, rfl⟩
theorem rightStamp_any (x y : Int) (w : World) :
 Calls Tryz.prog 160 #[.agg #[.int .i64 x,.int .i64 y]] w fun e w' => e = .returned (.bool (M.pairB x y 0 1099511627776 0 3)) ∧ Below w.heap.size w w' := by
 cases h1 : M.within x 0 1099511627776
 ·rw [M.pair_one h1]
  go_enter Tryz.func160, Tryz.ntmps160
  go_wp2_with (first
   | (go_at_call 165; refine (within_any _ _ _ _).mono ?_; rintro e w' ⟨rfl, rfl⟩)
   | (go_at_call 179; refine (isClient_any _ _).mono ?_; rintro e w' ⟨rfl, rfl⟩))
  go_ret
  exact ⟨rfl, (Below.refl _ _).alloc (Nat.le_refl _) _⟩
 ·cases h2 : M.within y 0 3
  ·rw [M.pair_two h2]
   go_enter Tryz.func160, Tryz.ntmps160
   go_wp2_with (first
    | (go_at_call 165; refine (within_any _ _ _ _).mono ?_; rintro e w' ⟨rfl, rfl⟩)
    | (go_at_call 179; refine (isClient_any _ _).mono ?_; rintro e w' ⟨rfl, rfl⟩))
   go_ret
   exact ⟨rfl, (Below.refl _ _).alloc (Nat.le_refl _) _⟩
  ·rw [M.pair_true h1 h2]
   go_enter Tryz.func160, Tryz.ntmps160
   go_wp2_with (first
    | (go_at_call 165; refine (within_any _ _ _ _).mono ?_; rintro e w' ⟨rfl, rfl⟩)
    | (go_at_call 179; refine (isClient_any _ _).mono ?_; rintro e w' ⟨rfl, rfl⟩))
   go_ret
   exact ⟨rfl, (Below.refl _ _).alloc (Nat.le_refl _) _⟩
theorem rightTxn_any (x y : Int) (w : World) :
 Calls Tryz.prog 159 #[.agg #[.int .i64 x,.int .i64 y]] w fun e w' => e = .returned (.bool (M.pairB x y 0 3 1 1099511627776)) ∧ Below w.heap.size w w' := by
 cases h1 : M.within x 0 3
 ·rw [M.pair_one h1]
  go_enter Tryz.func159, Tryz.ntmps159
  go_wp2_with (first
   | (go_at_call 179; refine (isClient_any _ _).mono ?_; rintro e w' ⟨rfl, rfl⟩)
   | (go_at_call 165; refine (within_any _ _ _ _).mono ?_; rintro e w' ⟨rfl, rfl⟩))
  go_ret
  exact ⟨rfl, (Below.refl _ _).alloc (Nat.le_refl _) _⟩
 ·cases h2 : M.within y 1 1099511627776
  ·rw [M.pair_two h2]
   go_enter Tryz.func159, Tryz.ntmps159
   go_wp2_with (first
    | (go_at_call 179; refine (isClient_any _ _).mono ?_; rintro e w' ⟨rfl, rfl⟩)
    | (go_at_call 165; refine (within_any _ _ _ _).mono ?_; rintro e w' ⟨rfl, rfl⟩))
   go_ret
   exact ⟨rfl, (Below.refl _ _).alloc (Nat.le_refl _) _⟩
  ·rw [M.pair_true h1 h2]
   go_enter Tryz.func159, Tryz.ntmps159
   go_wp2_with (first
    | (go_at_call 179; refine (isClient_any _ _).mono ?_; rintro e w' ⟨rfl, rfl⟩)
    | (go_at_call 165; refine (within_any _ _ _ _).mono ?_; rintro e w' ⟨rfl, rfl⟩))
   go_ret
   exact ⟨rfl, (Below.refl _ _).alloc (Nat.le_refl _) _⟩
theorem refStamp_any (x y : Int) (w : World) :
 Calls Tryz.prog 81 #[.agg #[.int .i64 x,.int .i64 y]] w fun e w' => e = .returned (.bool (M.pairB x y 0 1099511627776 0 3)) ∧ Below w.heap.size w w' := by
 by_cases h1 : 0 ≤ x
 ·by_cases h2 : x ≤ 1099511627776
  ·by_cases h3 : 0 ≤ y
   ·by_cases h4 : y ≤ 3
    ·rw [M.pair_true (M.within_true h1 h2) (M.within_true h3 h4)]
     go_enter Tryz.func81, Tryz.ntmps81
     go_wp2
     go_ret
     exact ⟨rfl, (Below.refl _ _).alloc (Nat.le_refl _) _⟩
    ·rw [M.pair_two (M.within_high h4)]
     go_enter Tryz.func81, Tryz.ntmps81
     go_wp2
     go_ret
     exact ⟨rfl, (Below.refl _ _).alloc (Nat.le_refl _) _⟩
   ·rw [M.pair_two (M.within_low h3)]
    go_enter Tryz.func81, Tryz.ntmps81
    go_wp2
    go_ret
    exact ⟨rfl, (Below.refl _ _).alloc (Nat.le_refl _) _⟩
  ·rw [M.pair_one (M.within_high h2)]
   go_enter Tryz.func81, Tryz.ntmps81
   go_wp2
   go_ret
   exact ⟨rfl, (Below.refl _ _).alloc (Nat.le_refl _) _⟩
 ·rw [M.pair_one (M.within_low h1)]
  go_enter Tryz.func81, Tryz.ntmps81
  go_wp2
  go_ret
  exact ⟨rfl, (Below.refl _ _).alloc (Nat.le_refl _) _⟩
theorem refTxn_any (x y : Int) (w : World) :
 Calls Tryz.prog 80 #[.agg #[.int .i64 x,.int .i64 y]] w fun e w' => e = .returned (.bool (M.pairB x y 0 3 1 1099511627776)) ∧ Below w.heap.size w w' := by
 by_cases h1 : 0 ≤ x
 ·by_cases h2 : x ≤ 3
  ·by_cases h3 : 1 ≤ y
   ·by_cases h4 : y ≤ 1099511627776
    ·rw [M.pair_true (M.within_true h1 h2) (M.within_true h3 h4)]
     go_enter Tryz.func80, Tryz.ntmps80
     go_wp2
     go_ret
     exact ⟨rfl, (Below.refl _ _).alloc (Nat.le_refl _) _⟩
    ·rw [M.pair_two (M.within_high h4)]
     go_enter Tryz.func80, Tryz.ntmps80
     go_wp2
     go_ret
     exact ⟨rfl, (Below.refl _ _).alloc (Nat.le_refl _) _⟩
   ·rw [M.pair_two (M.within_low h3)]
    go_enter Tryz.func80, Tryz.ntmps80
    go_wp2
    go_ret
    exact ⟨rfl, (Below.refl _ _).alloc (Nat.le_refl _) _⟩
  ·rw [M.pair_one (M.within_high h2)]
   go_enter Tryz.func80, Tryz.ntmps80
   go_wp2
   go_ret
   exact ⟨rfl, (Below.refl _ _).alloc (Nat.le_refl _) _⟩
 ·rw [M.pair_one (M.within_low h1)]
  go_enter Tryz.func80, Tryz.ntmps80
  go_wp2
  go_ret
  exact ⟨rfl, (Below.refl _ _).alloc (Nat.le_refl _) _⟩
theorem order_any (a b c d : Int) (w : World) :
 Calls Tryz.prog 106 #[.int .i64 a,.int .i64 b,.int .i64 c,.int .i64 d] w fun e w' => e = .returned (.int .i64 (M.ord a b c d)) ∧ w = w' := by
 by_cases h1 : a < c
 ·rw [M.ord_lt h1]
  go_enter Tryz.func106, Tryz.ntmps106
  go_wp2
  go_ret
  exact ⟨rfl, rfl⟩
 ·by_cases h2 : c < a
  ·rw [M.ord_gt h2]
   go_enter Tryz.func106, Tryz.ntmps106
   go_wp2
   go_ret
   exact ⟨rfl, rfl⟩
  ·obtain rfl : a = c := by omega
   by_cases h3 : b < d
   ·rw [M.ord_lt2 h3]
    go_enter Tryz.func106, Tryz.ntmps106
    go_wp2
    go_ret
    exact ⟨rfl, rfl⟩
   ·by_cases h4 : d < b
    ·rw [M.ord_gt2 h4]
     go_enter Tryz.func106, Tryz.ntmps106
     go_wp2
     go_ret
     exact ⟨rfl, rfl⟩
    ·obtain rfl : b = d := by omega
     rw [M.ord_same]
     go_enter Tryz.func106, Tryz.ntmps106
     go_wp2
     go_ret
     exact ⟨rfl, rfl⟩
theorem compareStamps_any (a b c d : Int) (w : World) :
 Calls Tryz.prog 181 #[.agg #[.int .i64 a,.int .i64 b],.agg #[.int .i64 c,.int .i64 d]] w fun e w' => e = .returned (.int .i64 (M.ord a b c d)) ∧ Below w.heap.size w w' := by
 by_cases h1 : a < c
 ·have n1 : ¬ a = c := by omega
  rw [M.ord_lt h1]
  go_enter Tryz.func181, Tryz.ntmps181
  go_wp2_with (first
   | (go_at_call 94; refine (side_true _).mono ?_; rintro e w' ⟨rfl, rfl⟩))
  go_ret
  exact ⟨rfl, ((Below.refl _ _).alloc (Nat.le_refl _) _).alloc (by simp) _⟩
 ·by_cases h2 : c < a
  ·have n1 : ¬ a = c := by omega
   rw [M.ord_gt h2]
   go_enter Tryz.func181, Tryz.ntmps181
   go_wp2_with (first
    | (go_at_call 94; refine (side_false _).mono ?_; rintro e w' ⟨rfl, rfl⟩))
   go_ret
   exact ⟨rfl, ((Below.refl _ _).alloc (Nat.le_refl _) _).alloc (by simp) _⟩
  ·obtain rfl : a = c := by omega
   by_cases h3 : b < d
   ·have n1 : ¬ b = d := by omega
    rw [M.ord_lt2 h3]
    go_enter Tryz.func181, Tryz.ntmps181
    go_wp2_with (first
     | (go_at_call 94; refine (side_true _).mono ?_; rintro e w' ⟨rfl, rfl⟩))
    go_ret
    exact ⟨rfl, ((Below.refl _ _).alloc (Nat.le_refl _) _).alloc (by simp) _⟩
   ·by_cases h4 : d < b
    ·have n1 : ¬ b = d := by omega
     rw [M.ord_gt2 h4]
     go_enter Tryz.func181, Tryz.ntmps181
     go_wp2_with (first
      | (go_at_call 94; refine (side_false _).mono ?_; rintro e w' ⟨rfl, rfl⟩))
     go_ret
     exact ⟨rfl, ((Below.refl _ _).alloc (Nat.le_refl _) _).alloc (by simp) _⟩
    ·obtain rfl : b = d := by omega
     rw [M.ord_same]
     go_enter Tryz.func181, Tryz.ntmps181
     go_wp2
     go_ret
     exact ⟨rfl, ((Below.refl _ _).alloc (Nat.le_refl _) _).alloc (by simp) _⟩
open Go.RowKit
structure After (w : World) where
 out : World
 below : Below w.heap.size w out
instance (w : World) : Nonempty (After w) := ⟨⟨w, Below.refl _ _⟩⟩
theorem After.cell {w : World} (x : After w) (b o : Nat) (h : b < w.heap.size) : x.out.cell? ⟨b, o, none⟩ = w.cell? ⟨b, o, none⟩ := x.below.cell (p := ⟨b, o, none⟩) h
theorem wp_region_after {P : Program} {id : Nat} {Q : Exit → Act → World → Prop} {a : Act} {w : World} {l : List Oper} (hm : P.follows .mixedOrders = true) (hB : Region.lexB .any l.toArray = true)
 (h : wpQuiet P l.toArray (fun w' => ∃ x : After w, w' = x.out) (fun a' => ∀ w', (∃ x : After w, w' = x.out) → Q .normal a' w') l a) : (Code.region id l.toArray true).wp P Q a w :=
 wp_region_quiet (C := fun w' => ∃ x : After w, w' = x.out) hm hB ⟨⟨w.drew, (Below.refl _ _).drew⟩, rfl⟩ (by simpa using h)
theorem Calls.after_of {P : Program} {f : FuncId} {args : Array Value} {w : World} {x : After w} {v : Value}
 (h : Calls P f args x.out fun e w' => e = .returned v ∧ Below x.out.heap.size x.out w') : Calls P f args x.out fun e w'' => e = .returned v ∧ ∃ y : After w, w'' = y.out :=
 h.mono fun _ _ ⟨he, hb⟩ => ⟨he, ⟨_, x.below.trans (hb.mono x.below.size)⟩, rfl⟩
structure At (w : World) (b : Nat) (u v : Value) : Prop where
 lt : b < w.heap.size
 one : w.cell? ⟨b, 0, none⟩ = some u
 two : w.cell? ⟨b, 1, none⟩ = some v
theorem At.new (w : World) (u v : Value) (t : TypeId) : At (w.alloc (.cells #[u, v] t)) w.heap.size u v := ⟨by simp, by simp, by simp⟩
theorem At.push {w : World} {b : Nat} {u v : Value} (h : At w b u v) (o : Obj) : At (w.alloc o) b u v :=
 ⟨by have := h.lt; simp; omega, (World.cell?_alloc_lt w o _ h.lt).trans h.one, (World.cell?_alloc_lt w o _ h.lt).trans h.two⟩
theorem At.on {w w' : World} {b : Nat} {u v : Value} (h : At w b u v) (k : Below w.heap.size w w') : At w' b u v :=
 ⟨Nat.lt_of_lt_of_le h.lt k.size, (k.cell (p := ⟨b, 0, none⟩) h.lt).trans h.one, (k.cell (p := ⟨b, 1, none⟩) h.lt).trans h.two⟩
open Go.RowKit
theorem isReplica_any (k : Int) (w : World) :
 Calls Tryz.prog 164 #[.int .i64 k] w fun e w' => e = .returned (.bool (M.within k 0 6)) ∧ w = w' := by
 go_enter Tryz.func164, Tryz.ntmps164
 go_wp2_with (go_at_call 165; refine (within_any _ _ _ _).mono ?_; rintro e w' ⟨rfl, rfl⟩)
 go_ret
 exact ⟨rfl, rfl⟩
theorem rightBallot_any (n r : Int) (w : World) :
 Calls Tryz.prog 138 #[.agg #[.int .i64 n,.int .i64 r]] w fun e w' => e = .returned (.bool (M.pairB n r 0 1099511627776 0 6)) ∧ Below w.heap.size w w' := by
 cases h1 : M.within n 0 1099511627776
 ·rw [M.pair_one h1]
  go_enter Tryz.func138, Tryz.ntmps138
  go_wp2_with (go_at_call 165; refine (within_any _ _ _ _).mono ?_; rintro e w' ⟨rfl, rfl⟩)
  go_ret
  exact ⟨rfl, (Below.refl _ _).alloc (Nat.le_refl _) _⟩
 ·cases h2 : M.within r 0 6
  ·rw [M.pair_two h2]
   go_enter Tryz.func138, Tryz.ntmps138
   go_wp2_with (first
    | (go_at_call 165; refine (within_any _ _ _ _).mono ?_; rintro e w' ⟨rfl, rfl⟩)
    | (go_at_call 164; refine (isReplica_any _ _).mono ?_; rintro e w' ⟨rfl, rfl⟩))
   go_ret
   exact ⟨rfl, (Below.refl _ _).alloc (Nat.le_refl _) _⟩
  ·rw [M.pair_true h1 h2]
   go_enter Tryz.func138, Tryz.ntmps138
   go_wp2_with (first
    | (go_at_call 165; refine (within_any _ _ _ _).mono ?_; rintro e w' ⟨rfl, rfl⟩)
    | (go_at_call 164; refine (isReplica_any _ _).mono ?_; rintro e w' ⟨rfl, rfl⟩))
   go_ret
   exact ⟨rfl, (Below.refl _ _).alloc (Nat.le_refl _) _⟩
theorem rightInst_any (x y : Int) (w : World) :
 Calls Tryz.prog 137 #[.agg #[.int .i64 x,.int .i64 y]] w fun e w' => e = .returned (.bool (M.pairB x y 0 6 1 1048576)) ∧ Below w.heap.size w w' := by
 cases h1 : M.within x 0 6
 ·rw [M.pair_one h1]
  go_enter Tryz.func137, Tryz.ntmps137
  go_wp2_with (first
   | (go_at_call 164; refine (isReplica_any _ _).mono ?_; rintro e w' ⟨rfl, rfl⟩)
   | (go_at_call 165; refine (within_any _ _ _ _).mono ?_; rintro e w' ⟨rfl, rfl⟩))
  go_ret
  exact ⟨rfl, (Below.refl _ _).alloc (Nat.le_refl _) _⟩
 ·cases h2 : M.within y 1 1048576
  ·rw [M.pair_two h2]
   go_enter Tryz.func137, Tryz.ntmps137
   go_wp2_with (first
    | (go_at_call 164; refine (isReplica_any _ _).mono ?_; rintro e w' ⟨rfl, rfl⟩)
    | (go_at_call 165; refine (within_any _ _ _ _).mono ?_; rintro e w' ⟨rfl, rfl⟩))
   go_ret
   exact ⟨rfl, (Below.refl _ _).alloc (Nat.le_refl _) _⟩
  ·rw [M.pair_true h1 h2]
   go_enter Tryz.func137, Tryz.ntmps137
   go_wp2_with (first
    | (go_at_call 164; refine (isReplica_any _ _).mono ?_; rintro e w' ⟨rfl, rfl⟩)
    | (go_at_call 165; refine (within_any _ _ _ _).mono ?_; rintro e w' ⟨rfl, rfl⟩))
   go_ret
   exact ⟨rfl, (Below.refl _ _).alloc (Nat.le_refl _) _⟩
theorem refBallot_any (x y : Int) (w : World) :
 Calls Tryz.prog 85 #[.agg #[.int .i64 x,.int .i64 y]] w fun e w' => e = .returned (.bool (M.pairB x y 0 1099511627776 0 6)) ∧ Below w.heap.size w w' := by
 by_cases h1 : 0 ≤ x
 ·by_cases h2 : x ≤ 1099511627776
  ·by_cases h3 : 0 ≤ y
   ·by_cases h4 : y ≤ 6
    ·rw [M.pair_true (M.within_true h1 h2) (M.within_true h3 h4)]
     go_enter Tryz.func85, Tryz.ntmps85
     go_wp2
     go_ret
     exact ⟨rfl, (Below.refl _ _).alloc (Nat.le_refl _) _⟩
    ·rw [M.pair_two (M.within_high h4)]
     go_enter Tryz.func85, Tryz.ntmps85
     go_wp2
     go_ret
     exact ⟨rfl, (Below.refl _ _).alloc (Nat.le_refl _) _⟩
   ·rw [M.pair_two (M.within_low h3)]
    go_enter Tryz.func85, Tryz.ntmps85
    go_wp2
    go_ret
    exact ⟨rfl, (Below.refl _ _).alloc (Nat.le_refl _) _⟩
  ·rw [M.pair_one (M.within_high h2)]
   go_enter Tryz.func85, Tryz.ntmps85
   go_wp2
   go_ret
   exact ⟨rfl, (Below.refl _ _).alloc (Nat.le_refl _) _⟩
 ·rw [M.pair_one (M.within_low h1)]
  go_enter Tryz.func85, Tryz.ntmps85
  go_wp2
  go_ret
  exact ⟨rfl, (Below.refl _ _).alloc (Nat.le_refl _) _⟩
theorem refInst_any (x y : Int) (w : World) :
 Calls Tryz.prog 84 #[.agg #[.int .i64 x,.int .i64 y]] w fun e w' => e = .returned (.bool (M.pairB x y 0 6 1 1048576)) ∧ Below w.heap.size w w' := by
 by_cases h1 : 0 ≤ x
 ·by_cases h2 : x ≤ 6
  ·by_cases h3 : 1 ≤ y
   ·by_cases h4 : y ≤ 1048576
    ·rw [M.pair_true (M.within_true h1 h2) (M.within_true h3 h4)]
     go_enter Tryz.func84, Tryz.ntmps84
     go_wp2
     go_ret
     exact ⟨rfl, (Below.refl _ _).alloc (Nat.le_refl _) _⟩
    ·rw [M.pair_two (M.within_high h4)]
     go_enter Tryz.func84, Tryz.ntmps84
     go_wp2
     go_ret
     exact ⟨rfl, (Below.refl _ _).alloc (Nat.le_refl _) _⟩
   ·rw [M.pair_two (M.within_low h3)]
    go_enter Tryz.func84, Tryz.ntmps84
    go_wp2
    go_ret
    exact ⟨rfl, (Below.refl _ _).alloc (Nat.le_refl _) _⟩
  ·rw [M.pair_one (M.within_high h2)]
   go_enter Tryz.func84, Tryz.ntmps84
   go_wp2
   go_ret
   exact ⟨rfl, (Below.refl _ _).alloc (Nat.le_refl _) _⟩
 ·rw [M.pair_one (M.within_low h1)]
  go_enter Tryz.func84, Tryz.ntmps84
  go_wp2
  go_ret
  exact ⟨rfl, (Below.refl _ _).alloc (Nat.le_refl _) _⟩
theorem compareBallots_any (a b c d : Int) (w : World) :
 Calls Tryz.prog 139 #[.agg #[.int .i64 a,.int .i64 b],.agg #[.int .i64 c,.int .i64 d]] w fun e w' => e = .returned (.int .i64 (M.ord a b c d)) ∧ Below w.heap.size w w' := by
 by_cases h1 : a < c
 ·have n1 : ¬ a = c := by omega
  rw [M.ord_lt h1]
  go_enter Tryz.func139, Tryz.ntmps139
  go_wp2_with (first
   | (go_at_call 94; refine (side_true _).mono ?_; rintro e w' ⟨rfl, rfl⟩))
  go_ret
  exact ⟨rfl, ((Below.refl _ _).alloc (Nat.le_refl _) _).alloc (by simp) _⟩
 ·by_cases h2 : c < a
  ·have n1 : ¬ a = c := by omega
   rw [M.ord_gt h2]
   go_enter Tryz.func139, Tryz.ntmps139
   go_wp2_with (first
    | (go_at_call 94; refine (side_false _).mono ?_; rintro e w' ⟨rfl, rfl⟩))
   go_ret
   exact ⟨rfl, ((Below.refl _ _).alloc (Nat.le_refl _) _).alloc (by simp) _⟩
  ·obtain rfl : a = c := by omega
   by_cases h3 : b < d
   ·have n1 : ¬ b = d := by omega
    rw [M.ord_lt2 h3]
    go_enter Tryz.func139, Tryz.ntmps139
    go_wp2_with (first
     | (go_at_call 94; refine (side_true _).mono ?_; rintro e w' ⟨rfl, rfl⟩))
    go_ret
    exact ⟨rfl, ((Below.refl _ _).alloc (Nat.le_refl _) _).alloc (by simp) _⟩
   ·by_cases h4 : d < b
    ·have n1 : ¬ b = d := by omega
     rw [M.ord_gt2 h4]
     go_enter Tryz.func139, Tryz.ntmps139
     go_wp2_with (first
      | (go_at_call 94; refine (side_false _).mono ?_; rintro e w' ⟨rfl, rfl⟩))
     go_ret
     exact ⟨rfl, ((Below.refl _ _).alloc (Nat.le_refl _) _).alloc (by simp) _⟩
    ·obtain rfl : b = d := by omega
     rw [M.ord_same]
     go_enter Tryz.func139, Tryz.ntmps139
     go_wp2
     go_ret
     exact ⟨rfl, ((Below.refl _ _).alloc (Nat.le_refl _) _).alloc (by simp) _⟩
open Go.RowKit
namespace V7
def mx (x y : Int) : Int := if y > x then y else x
def mn (x y : Int) : Int := if y < x then y else x
def same7 (x0 x1 x2 x3 x4 x5 x6 y0 y1 y2 y3 y4 y5 y6 : Int) : Bool := decide (x0 = y0 ∧ x1 = y1 ∧ x2 = y2 ∧ x3 = y3 ∧ x4 = y4 ∧ x5 = y5 ∧ x6 = y6)
theorem same7_iff {x0 x1 x2 x3 x4 x5 x6 y0 y1 y2 y3 y4 y5 y6 : Int} : same7 x0 x1 x2 x3 x4 x5 x6 y0 y1 y2 y3 y4 y5 y6 = true ↔ x0 = y0 ∧ x1 = y1 ∧ x2 = y2 ∧ x3 = y3 ∧ x4 = y4 ∧ x5 = y5 ∧ x6 = y6 := by simp [same7]
def join (a b : Nat → Int) (k : Nat) : Int := mx (a k) (b k)
def same (a b : Nat → Int) : Bool := same7 (a 0) (a 1) (a 2) (a 3) (a 4) (a 5) (a 6) (b 0) (b 1) (b 2) (b 3) (b 4) (b 5) (b 6)
def over (a b : Nat → Int) : Bool := same (join a b) a
def repB (r : Int) : Bool := decide (0 ≤ r ∧ r ≤ 6)
def has (a : Nat → Int) (r s : Int) : Bool := decide ((0 ≤ r ∧ r ≤ 6) ∧ 1 ≤ s ∧ s ≤ a r.toNat)
def wit (a : Nat → Int) (r s : Int) (k : Nat) : Int := if r = k then mx (a k) s else a k
def out (a : Nat → Int) (r s : Int) (k : Nat) : Int := if r = k ∧ 1 ≤ s then mn (a k) (s - 1) else a k
def zf (_ : Nat) : Int := 0
def wf (_ : Nat) : Int := 1048576
def right (a : Nat → Int) : Bool := over a zf && over wf a
theorem seven {k : Nat} (h : k < 7) : k = 0 ∨ k = 1 ∨ k = 2 ∨ k = 3 ∨ k = 4 ∨ k = 5 ∨ k = 6 := by omega
theorem all7 {p : Nat → Prop} : (∀ k, k < 7 → p k) ↔ p 0 ∧ p 1 ∧ p 2 ∧ p 3 ∧ p 4 ∧ p 5 ∧ p 6 :=
 ⟨fun h => ⟨h 0 (by omega), h 1 (by omega), h 2 (by omega), h 3 (by omega), h 4 (by omega), h 5 (by omega), h 6 (by omega)⟩, fun h k hk => by
  obtain ⟨h0, h1, h2, h3, h4, h5, h6⟩ := h
  rcases seven hk with rfl | rfl | rfl | rfl | rfl | rfl | rfl <;> assumption⟩
theorem same_iff {a b : Nat → Int} : same a b = true ↔ ∀ k, k < 7 → a k = b k := by
 rw [all7 (p := fun k => a k = b k)]
 exact same7_iff
theorem over_iff {a b : Nat → Int} : over a b = true ↔ ∀ k, k < 7 → b k ≤ a k := by
 unfold over
 rw [same_iff]
 refine forall_congr' fun k => imp_congr_right fun _ => ?_
 unfold join mx
 split <;> omega
theorem right_iff {a : Nat → Int} : right a = true ↔ ∀ k, k < 7 → 0 ≤ a k ∧ a k ≤ 1048576 := by
 rw [right, Bool.and_eq_true, over_iff, over_iff]
 exact ⟨fun h k hk => ⟨h.1 k hk, h.2 k hk⟩, fun h => ⟨fun k hk => (h k hk).1, fun k hk => (h k hk).2⟩⟩
end V7
theorem run_max_mx (P : Program) (w : World) (ts : Array TypeId) (t : TypeId) (x y : Int) : (Builtin.max_ ts t #[.int .i64 x,.int .i64 y]).run P w = .ok (.int .i64 (V7.mx x y)) w := by
 simp [Builtin.max_, Builtin.max2, V7.mx]
theorem run_part3 (w : World) (cs : Array Value) (i : Nat) (v : Value) (h : cs[i]? = some v) : (part 3 cs i).run Tryz.prog w = .ok v w := by
 simp [part, isAgg, run_underlying Tryz.underlying3, h]
theorem run_same7' (d : Nat) (w : World) (x0 x1 x2 x3 x4 x5 x6 y0 y1 y2 y3 y4 y5 y6 : Int) : (Op.equalIn (d + 2) 65 (.agg #[.int .i64 x0,.int .i64 x1,.int .i64 x2,.int .i64 x3,.int .i64 x4,.int .i64 x5,.int .i64 x6]) (.agg #[.int .i64 y0,.int .i64 y1,.int .i64 y2,.int .i64 y3,.int .i64 y4,.int .i64 y5,.int .i64 y6])).run Tryz.prog w = .ok (V7.same7 x0 x1 x2 x3 x4 x5 x6 y0 y1 y2 y3 y4 y5 y6) w := by
 have h3 : ∀ (w : World) (a b : Int), (Op.equalIn (d + 1) 3 (.int .i64 a) (.int .i64 b)).run Tryz.prog w = .ok (a == b) w := fun w a b => run_equalIn_int w d 3 .i64 .i64 a b Tryz.underlying3
 rw [Op.equalIn]
 simp [run_underlying Tryz.underlying65]
 rw [show List.range' 0 7 = [0, 1, 2, 3, 4, 5, 6] from rfl]
 by_cases e0 : x0 = y0
 ·subst e0
  by_cases e1 : x1 = y1
  ·subst e1
   by_cases e2 : x2 = y2
   ·subst e2
    by_cases e3 : x3 = y3
    ·subst e3
     by_cases e4 : x4 = y4
     ·subst e4
      by_cases e5 : x5 = y5
      ·subst e5
       by_cases e6 : x6 = y6
       ·subst e6
        simp [List.forIn_cons, run_part3, h3, V7.same7]
       ·simp [List.forIn_cons, run_part3, h3, V7.same7, e6]
      ·simp [List.forIn_cons, run_part3, h3, V7.same7, e5]
     ·simp [List.forIn_cons, run_part3, h3, V7.same7, e4]
    ·simp [List.forIn_cons, run_part3, h3, V7.same7, e3]
   ·simp [List.forIn_cons, run_part3, h3, V7.same7, e2]
  ·simp [List.forIn_cons, run_part3, h3, V7.same7, e1]
 ·simp [List.forIn_cons, run_part3, h3, V7.same7, e0]
theorem run_same7 (w : World) (x0 x1 x2 x3 x4 x5 x6 y0 y1 y2 y3 y4 y5 y6 : Int) : (Op.equalIn 10000 65 (.agg #[.int .i64 x0,.int .i64 x1,.int .i64 x2,.int .i64 x3,.int .i64 x4,.int .i64 x5,.int .i64 x6]) (.agg #[.int .i64 y0,.int .i64 y1,.int .i64 y2,.int .i64 y3,.int .i64 y4,.int .i64 y5,.int .i64 y6])).run Tryz.prog w = .ok (V7.same7 x0 x1 x2 x3 x4 x5 x6 y0 y1 y2 y3 y4 y5 y6) w := run_same7' 9998 w x0 x1 x2 x3 x4 x5 x6 y0 y1 y2 y3 y4 y5 y6
theorem run_idx0 (w : World) (x0 x1 x2 x3 x4 x5 x6 : Int) : (Instr.index 65 (.agg #[.int .i64 x0,.int .i64 x1,.int .i64 x2,.int .i64 x3,.int .i64 x4,.int .i64 x5,.int .i64 x6]) (.int .i64 0)).run Tryz.prog w = .ok (.int .i64 x0) w := by kernel_rfl
theorem run_idx1 (w : World) (x0 x1 x2 x3 x4 x5 x6 : Int) : (Instr.index 65 (.agg #[.int .i64 x0,.int .i64 x1,.int .i64 x2,.int .i64 x3,.int .i64 x4,.int .i64 x5,.int .i64 x6]) (.int .i64 1)).run Tryz.prog w = .ok (.int .i64 x1) w := by kernel_rfl
theorem run_idx2 (w : World) (x0 x1 x2 x3 x4 x5 x6 : Int) : (Instr.index 65 (.agg #[.int .i64 x0,.int .i64 x1,.int .i64 x2,.int .i64 x3,.int .i64 x4,.int .i64 x5,.int .i64 x6]) (.int .i64 2)).run Tryz.prog w = .ok (.int .i64 x2) w := by kernel_rfl
theorem run_idx3 (w : World) (x0 x1 x2 x3 x4 x5 x6 : Int) : (Instr.index 65 (.agg #[.int .i64 x0,.int .i64 x1,.int .i64 x2,.int .i64 x3,.int .i64 x4,.int .i64 x5,.int .i64 x6]) (.int .i64 3)).run Tryz.prog w = .ok (.int .i64 x3) w := by kernel_rfl
theorem run_idx4 (w : World) (x0 x1 x2 x3 x4 x5 x6 : Int) : (Instr.index 65 (.agg #[.int .i64 x0,.int .i64 x1,.int .i64 x2,.int .i64 x3,.int .i64 x4,.int .i64 x5,.int .i64 x6]) (.int .i64 4)).run Tryz.prog w = .ok (.int .i64 x4) w := by kernel_rfl
theorem run_idx5 (w : World) (x0 x1 x2 x3 x4 x5 x6 : Int) : (Instr.index 65 (.agg #[.int .i64 x0,.int .i64 x1,.int .i64 x2,.int .i64 x3,.int .i64 x4,.int .i64 x5,.int .i64 x6]) (.int .i64 5)).run Tryz.prog w = .ok (.int .i64 x5) w := by kernel_rfl
theorem run_idx6 (w : World) (x0 x1 x2 x3 x4 x5 x6 : Int) : (Instr.index 65 (.agg #[.int .i64 x0,.int .i64 x1,.int .i64 x2,.int .i64 x3,.int .i64 x4,.int .i64 x5,.int .i64 x6]) (.int .i64 6)).run Tryz.prog w = .ok (.int .i64 x6) w := by kernel_rfl
attribute [local go_sem ↓] run_max_mx run_same7 run_idx0 run_idx1 run_idx2 run_idx3 run_idx4 run_idx5 run_idx6
theorem cell7 (w : World) (f : Nat → Int) (k : Nat) (h : k < 7) : (w.alloc (.cells #[.int .i64 (f 0),.int .i64 (f 1),.int .i64 (f 2),.int .i64 (f 3),.int .i64 (f 4),.int .i64 (f 5),.int .i64 (f 6)] 65)).cell? ⟨w.heap.size, k, none⟩ = some (.int .i64 (f k)) := by
 rcases V7.seven h with rfl | rfl | rfl | rfl | rfl | rfl | rfl <;> simp
theorem djoin7_any (a b : Nat → Int) (w : World) :
 Calls Tryz.prog 185 #[.agg #[.int .i64 (a 0),.int .i64 (a 1),.int .i64 (a 2),.int .i64 (a 3),.int .i64 (a 4),.int .i64 (a 5),.int .i64 (a 6)],.agg #[.int .i64 (b 0),.int .i64 (b 1),.int .i64 (b 2),.int .i64 (b 3),.int .i64 (b 4),.int .i64 (b 5),.int .i64 (b 6)]] w fun e w' => e = .returned (.agg #[.int .i64 (V7.join a b 0),.int .i64 (V7.join a b 1),.int .i64 (V7.join a b 2),.int .i64 (V7.join a b 3),.int .i64 (V7.join a b 4),.int .i64 (V7.join a b 5),.int .i64 (V7.join a b 6)]) ∧ Below w.heap.size w w' := by
 go_enter Tryz.func185, Tryz.ntmps185
 go_wp2
 refine wp_loop_rounds 8 ?_
 rw [rounds_succ]
 go_wp2
 rw [rounds_succ]
 go_wp2
 rw [rounds_succ]
 go_wp2
 rw [rounds_succ]
 go_wp2
 rw [rounds_succ]
 go_wp2
 rw [rounds_succ]
 go_wp2
 rw [rounds_succ]
 go_wp2
 rw [rounds_succ]
 go_wp2
 exact bodyPost_ret (v := .agg #[.int .i64 (V7.join a b 0),.int .i64 (V7.join a b 1),.int .i64 (V7.join a b 2),.int .i64 (V7.join a b 3),.int .i64 (V7.join a b 4),.int .i64 (V7.join a b 5),.int .i64 (V7.join a b 6)]) (by simp [results, Tryz.results185, go_sem]; exact ⟨rfl, rfl, rfl, rfl, rfl, rfl, rfl⟩) rfl ⟨rfl, below_new (below_new (below_new (Below.refl _ _)))⟩
theorem whole_any (w : World) :
 Calls Tryz.prog 167 #[] w fun e w' => e = .returned (.agg #[.int .i64 (V7.wf 0),.int .i64 (V7.wf 1),.int .i64 (V7.wf 2),.int .i64 (V7.wf 3),.int .i64 (V7.wf 4),.int .i64 (V7.wf 5),.int .i64 (V7.wf 6)]) ∧ Below w.heap.size w w' := by
 go_enter Tryz.func167, Tryz.ntmps167
 go_wp2
 refine wp_loop_rounds 8 ?_
 rw [rounds_succ]
 go_wp2
 rw [rounds_succ]
 go_wp2
 rw [rounds_succ]
 go_wp2
 rw [rounds_succ]
 go_wp2
 rw [rounds_succ]
 go_wp2
 rw [rounds_succ]
 go_wp2
 rw [rounds_succ]
 go_wp2
 rw [rounds_succ]
 go_wp2
 exact bodyPost_ret (v := .agg #[.int .i64 (V7.wf 0),.int .i64 (V7.wf 1),.int .i64 (V7.wf 2),.int .i64 (V7.wf 3),.int .i64 (V7.wf 4),.int .i64 (V7.wf 5),.int .i64 (V7.wf 6)]) (by simp [results, Tryz.results167, go_sem, V7.wf]) rfl ⟨rfl, below_new (below_new (Below.refl _ _))⟩
theorem over_any (a b : Nat → Int) (w : World) :
 Calls Tryz.prog 166 #[.agg #[.int .i64 (a 0),.int .i64 (a 1),.int .i64 (a 2),.int .i64 (a 3),.int .i64 (a 4),.int .i64 (a 5),.int .i64 (a 6)],.agg #[.int .i64 (b 0),.int .i64 (b 1),.int .i64 (b 2),.int .i64 (b 3),.int .i64 (b 4),.int .i64 (b 5),.int .i64 (b 6)]] w fun e w' => e = .returned (.bool (V7.over a b)) ∧ Below w.heap.size w w' := by
 go_enter Tryz.func166, Tryz.ntmps166
 go_wp2_with (fail)
 have HB := Lib.hid (show Below w.heap.size w ((w.alloc (.cells #[.int .i64 (a 0),.int .i64 (a 1),.int .i64 (a 2),.int .i64 (a 3),.int .i64 (a 4),.int .i64 (a 5),.int .i64 (a 6)] 65)).alloc (.cells #[.int .i64 (b 0),.int .i64 (b 1),.int .i64 (b 2),.int .i64 (b 3),.int .i64 (b 4),.int .i64 (b 5),.int .i64 (b 6)] 65)) from below_new (below_new (Below.refl _ _)))
 refine wp_region_after (by kernel_rfl) (by kernel_rfl) ?_
 have hx := @After.cell ((w.alloc (.cells #[.int .i64 (a 0),.int .i64 (a 1),.int .i64 (a 2),.int .i64 (a 3),.int .i64 (a 4),.int .i64 (a 5),.int .i64 (a 6)] 65)).alloc (.cells #[.int .i64 (b 0),.int .i64 (b 1),.int .i64 (b 2),.int .i64 (b 3),.int .i64 (b 4),.int .i64 (b 5),.int .i64 (b 6)] 65))
 repeat (go_big_quiet_step (first | (go_at_call 185; exact Calls.after_of (djoin7_any _ _ _))))
 refine wpQuiet_nil ?_
 rintro _ ⟨x, rfl⟩
 go_wp2
 go_ret
 exact ⟨rfl, below_on HB.out x.below⟩
theorem over_zero (a : Nat → Int) (w : World) :
 Calls Tryz.prog 166 #[.agg #[.int .i64 (a 0),.int .i64 (a 1),.int .i64 (a 2),.int .i64 (a 3),.int .i64 (a 4),.int .i64 (a 5),.int .i64 (a 6)],.agg #[.int .i64 0,.int .i64 0,.int .i64 0,.int .i64 0,.int .i64 0,.int .i64 0,.int .i64 0]] w fun e w' => e = .returned (.bool (V7.over a V7.zf)) ∧ Below w.heap.size w w' := by
 have h := over_any a V7.zf w
 simp only [V7.zf] at h
 exact h
theorem over_wf (a : Nat → Int) (w : World) :
 Calls Tryz.prog 166 #[.agg #[.int .i64 (V7.wf 0),.int .i64 (V7.wf 1),.int .i64 (V7.wf 2),.int .i64 (V7.wf 3),.int .i64 (V7.wf 4),.int .i64 (V7.wf 5),.int .i64 (V7.wf 6)],.agg #[.int .i64 (a 0),.int .i64 (a 1),.int .i64 (a 2),.int .i64 (a 3),.int .i64 (a 4),.int .i64 (a 5),.int .i64 (a 6)]] w fun e w' => e = .returned (.bool (V7.over V7.wf a)) ∧ Below w.heap.size w w' := over_any V7.wf a w
theorem depsR_no (a : Nat → Int) (w : World) (h : V7.over a V7.zf = false) :
 Calls Tryz.prog 140 #[.agg #[.int .i64 (a 0),.int .i64 (a 1),.int .i64 (a 2),.int .i64 (a 3),.int .i64 (a 4),.int .i64 (a 5),.int .i64 (a 6)]] w fun e w' => e = .returned (.bool false) ∧ Below w.heap.size w w' := by
 have K := Lib.hid (over_zero a)
 rw [h] at K
 go_enter Tryz.func140, Tryz.ntmps140
 go_wp2_with (fail)
 have HB := Lib.hid (show Below w.heap.size w (w.alloc (.cells #[.int .i64 (a 0),.int .i64 (a 1),.int .i64 (a 2),.int .i64 (a 3),.int .i64 (a 4),.int .i64 (a 5),.int .i64 (a 6)] 65)) from below_new (Below.refl _ _))
 refine wp_region_after (by kernel_rfl) (by kernel_rfl) ?_
 have hx := @After.cell (w.alloc (.cells #[.int .i64 (a 0),.int .i64 (a 1),.int .i64 (a 2),.int .i64 (a 3),.int .i64 (a 4),.int .i64 (a 5),.int .i64 (a 6)] 65))
 clear h
 repeat (go_big_quiet_step (first | (go_at_call 166; exact Calls.after_of (K.out _))))
 refine wpQuiet_nil ?_
 rintro _ ⟨x, rfl⟩
 go_wp2
 go_ret
 exact ⟨rfl, below_on HB.out x.below⟩
theorem depsR_yes (a : Nat → Int) (w : World) (h : V7.over a V7.zf = true) :
 Calls Tryz.prog 140 #[.agg #[.int .i64 (a 0),.int .i64 (a 1),.int .i64 (a 2),.int .i64 (a 3),.int .i64 (a 4),.int .i64 (a 5),.int .i64 (a 6)]] w fun e w' => e = .returned (.bool (V7.over V7.wf a)) ∧ Below w.heap.size w w' := by
 have K := Lib.hid (over_zero a)
 rw [h] at K
 go_enter Tryz.func140, Tryz.ntmps140
 go_wp2_with (fail)
 have HB := Lib.hid (show Below w.heap.size w (w.alloc (.cells #[.int .i64 (a 0),.int .i64 (a 1),.int .i64 (a 2),.int .i64 (a 3),.int .i64 (a 4),.int .i64 (a 5),.int .i64 (a 6)] 65)) from below_new (Below.refl _ _))
 refine wp_region_after (by kernel_rfl) (by kernel_rfl) ?_
 have hx := @After.cell (w.alloc (.cells #[.int .i64 (a 0),.int .i64 (a 1),.int .i64 (a 2),.int .i64 (a 3),.int .i64 (a 4),.int .i64 (a 5),.int .i64 (a 6)] 65))
 clear h
 go_big_quiet_step (first | (go_at_call 166; exact Calls.after_of (K.out _)))
 go_big_quiet_step (first | (go_at_call 166; exact Calls.after_of (K.out _)))
 go_big_quiet_step (first | (go_at_call 166; exact Calls.after_of (K.out _)))
 go_big_quiet_step (first | (go_at_call 166; exact Calls.after_of (K.out _)))
 go_big_quiet_step (first | (go_at_call 167; exact Calls.after_of (whole_any _)))
 go_big_quiet_step (fail)
 repeat (go_big_quiet_step (first
  | (go_at_call 166; exact Calls.after_of (over_wf _ _))))
 refine wpQuiet_nil ?_
 rintro _ ⟨x, rfl⟩
 go_wp2
 go_ret
 exact ⟨rfl, below_on HB.out x.below⟩
theorem depsR_any (a : Nat → Int) (w : World) :
 Calls Tryz.prog 140 #[.agg #[.int .i64 (a 0),.int .i64 (a 1),.int .i64 (a 2),.int .i64 (a 3),.int .i64 (a 4),.int .i64 (a 5),.int .i64 (a 6)]] w fun e w' => e = .returned (.bool (V7.right a)) ∧ Below w.heap.size w w' := by
 cases h : V7.over a V7.zf
 ·rw [show V7.right a = false by unfold V7.right; rw [h]; rfl]
  exact depsR_no a w h
 ·rw [show V7.right a = V7.over V7.wf a by unfold V7.right; rw [h]; rfl]
  exact depsR_yes a w h
namespace V7
def may (a : Nat → Int) (k : Nat) : Prop := ∀ j, j < k → 0 ≤ a j ∧ a j ≤ 1048576
theorem may_zero (a : Nat → Int) : may a 0 := fun j h => by omega
theorem may_succ {a : Nat → Int} {k : Nat} (h : may a k) (h0 : 0 ≤ a k) (h1 : a k ≤ 1048576) : may a (k + 1) := fun j hj => by
 by_cases e : j = k
 ·subst e; exact ⟨h0, h1⟩
 ·exact h j (by omega)
theorem right_may {a : Nat → Int} (h : may a 7) : right a = true := right_iff.2 h
theorem right_not {a : Nat → Int} {k : Nat} (hk : k < 7) (h : ¬ (0 ≤ a k ∧ a k ≤ 1048576)) : right a = false := by
 cases e : right a
 ·rfl
 ·exact absurd (right_iff.1 e k hk) h
end V7
theorem refDeps_any (a : Nat → Int) (w : World) :
 Calls Tryz.prog 87 #[.agg #[.int .i64 (a 0),.int .i64 (a 1),.int .i64 (a 2),.int .i64 (a 3),.int .i64 (a 4),.int .i64 (a 5),.int .i64 (a 6)]] w fun e w' => e = .returned (.bool (V7.right a)) ∧ Below w.heap.size w w' := by
 have hc := cell7 w a
 have HB := Lib.hid (show Below w.heap.size w (w.alloc (.cells #[.int .i64 (a 0),.int .i64 (a 1),.int .i64 (a 2),.int .i64 (a 3),.int .i64 (a 4),.int .i64 (a 5),.int .i64 (a 6)] 65)) from below_new (Below.refl _ _))
 have HC := Lib.hid hc
 clear hc
 go_enter Tryz.func87, Tryz.ntmps87
 go_wp2
 generalize w.alloc (.cells #[.int .i64 (a 0),.int .i64 (a 1),.int .i64 (a 2),.int .i64 (a 3),.int .i64 (a 4),.int .i64 (a 5),.int .i64 (a 6)] 65) = w0 at HC HB ⊢
 go_loop [3] (fun i => ∃ k : Nat, k ≤ 7 ∧ i = .int .i64 k ∧ V7.may a k) (fun i => 7 - (intOf i).toNat)
 case atStart => exact ⟨0, by omega, rfl, V7.may_zero a⟩
 case round =>
  obtain ⟨k, hk, rfl, hr⟩ := hrel
  have HR := Lib.hid hr
  clear hr
  by_cases hlt : k < 7
  ·have hcell := HC.out k hlt
   by_cases h1 : 0 ≤ a k
   ·by_cases h2 : a k ≤ 1048576
    ·go_wp2
     go_round
     case rel => exact ⟨k + 1, by omega, by go_num, V7.may_succ HR.out h1 h2⟩
     case measure => simp [intOf]; omega
    ·have h3 : 1048576 < a k := by omega
     go_wp2
     go_ret
     exact ⟨ret_bool (V7.right_not hlt (by omega)).symm, HB.out⟩
   ·have h3 : a k < 0 := by omega
    go_wp2
    go_ret
    exact ⟨ret_bool (V7.right_not hlt (by omega)).symm, HB.out⟩
  ·obtain rfl : k = 7 := by omega
   go_wp2
   go_ret
   exact ⟨ret_bool (V7.right_may HR.out).symm, HB.out⟩
end Go.Proofs.YtdachohcjpjblaaGreatDoor.Wi
