/- Sums and frames: plain facts, contracts of the program's functions and of the document's; no conditions but the lengths that they name. -/
import Derived.Test.YtdachohcjpjblaaGreatDoorRows
import Derived.Lib.Hide
import Derived.WalkKit
import Derived.WalkSpells
import Derived.Lib.OthersKept
import Derived.BigCall
import Derived.BigQuiet
import Derived.Deep.QuietTactic
import Derived.Laws.AppendOwn
import Derived.OwnWalk
import Derived.Lib.AppendZerosOnto
import Derived.Lib.SliceRun
import Derived.Laws.BytesArg
import Derived.Lib.Bytes
import Derived.Deep.RegionWith
import Derived.Deep.LoopGhost
set_option maxHeartbeats 8000000
set_option maxRecDepth 100000
namespace Go.Proofs.YtdachohcjpjblaaGreatDoor.Fr
namespace M
def PP : Nat := 3988292384
def S (n : Nat) : Nat := n / 2 ^^^ (n % 2) * 3988292384
def S4 (n : Nat) : Nat := S (S (S (S n)))
def bt (n c : Nat) : Nat := S4 (S4 (n ^^^ c))
theorem half_xor (a b : Nat) : (a ^^^ b) / 2 = a / 2 ^^^ b / 2 := by
 apply Nat.eq_of_testBit_eq; intro i
 simp [Nat.testBit_div_two, Nat.testBit_xor]
theorem par_xor (a b : Nat) : (a ^^^ b) % 2 = (a % 2 + b % 2) % 2 := by
 have h : ((a ^^^ b) % 2 = 1) ↔ ¬ (a % 2 = 1 ↔ b % 2 = 1) := by
  have := Nat.testBit_xor a b 0
  simp only [Nat.testBit_zero] at this
  by_cases h1 : a % 2 = 1 <;> by_cases h2 : b % 2 = 1 <;> simp_all
 omega
theorem two_or (n : Nat) : n % 2 = 0 ∨ n % 2 = 1 := by omega
theorem S_even {n : Nat} (h : n % 2 = 0) : S n = n / 2 := by simp [S, h]
theorem S_odd {n : Nat} (h : n % 2 = 1) : S n = n / 2 ^^^ 3988292384 := by simp [S, h]
theorem S_xor (a b : Nat) : S (a ^^^ b) = S a ^^^ S b := by
 rcases two_or a with ha | ha <;> rcases two_or b with hb | hb
 ·rw [S_even (by rw [par_xor]; omega), S_even ha, S_even hb, half_xor]
 ·rw [S_odd (by rw [par_xor]; omega), S_even ha, S_odd hb, half_xor, Nat.xor_assoc]
 ·rw [S_odd (by rw [par_xor]; omega), S_odd ha, S_even hb, half_xor]
  rw [Nat.xor_assoc, Nat.xor_assoc, Nat.xor_comm (b / 2)]
 ·rw [S_even (by rw [par_xor]; omega), S_odd ha, S_odd hb, half_xor]
  rw [Nat.xor_assoc (a / 2), Nat.xor_comm (b / 2), ← Nat.xor_assoc 3988292384, Nat.xor_self, Nat.zero_xor]
theorem S4_xor (a b : Nat) : S4 (a ^^^ b) = S4 a ^^^ S4 b := by simp only [S4, S_xor]
def tb (k : Nat) : Nat := [0, 498536548, 997073096, 651767980, 1994146192, 1802195444, 1303535960, 1342533948, 3988292384, 4027552580, 3604390888, 3412177804, 2607071920, 2262029012, 2685067896, 3183342108].getD k 0
theorem sixteen {k : Nat} (h : k < 16) : k = 0 ∨ k = 1 ∨ k = 2 ∨ k = 3 ∨ k = 4 ∨ k = 5 ∨ k = 6 ∨ k = 7 ∨ k = 8 ∨ k = 9 ∨ k = 10 ∨ k = 11 ∨ k = 12 ∨ k = 13 ∨ k = 14 ∨ k = 15 := by omega
theorem S4_low {r : Nat} (h : r < 16) : S4 r = tb r := by
 rcases sixteen h with rfl | rfl | rfl | rfl | rfl | rfl | rfl | rfl | rfl | rfl | rfl | rfl | rfl | rfl | rfl | rfl <;> rfl
theorem tb_lt (r : Nat) : tb r < 4294967296 := by
 by_cases h : r < 16
 ·rcases sixteen h with rfl | rfl | rfl | rfl | rfl | rfl | rfl | rfl | rfl | rfl | rfl | rfl | rfl | rfl | rfl | rfl <;> decide
 ·unfold tb; rw [List.getD, List.getElem?_eq_none (by simp; omega)]; decide
theorem S_two (q : Nat) : S (2 * q) = q := by rw [S_even (by omega)]; omega
theorem S4_high (q : Nat) : S4 (16 * q) = q := by
 unfold S4
 rw [show 16 * q = 2 * (8 * q) by omega, S_two, show 8 * q = 2 * (4 * q) by omega, S_two, show 4 * q = 2 * (2 * q) by omega, S_two, S_two]
theorem parts16 (m : Nat) : m = 16 * (m / 16) ^^^ m % 16 := by
 apply Nat.eq_of_testBit_eq; intro i
 rw [Nat.testBit_xor, show (16 : Nat) = 2 ^ 4 by rfl, Nat.testBit_two_pow_mul, Nat.testBit_div_two_pow, Nat.testBit_mod_two_pow]
 by_cases h : i < 4
 ·simp [h, show ¬ 4 ≤ i by omega]
 ·have h' : 4 ≤ i := by omega
  have e : i - 4 + 4 = i := by omega
  simp [h, h', e]
theorem S4_eq (m : Nat) : S4 m = m / 16 ^^^ tb (m % 16) := by
 have h := S4_xor (16 * (m / 16)) (m % 16)
 rw [← parts16, S4_high, S4_low (Nat.mod_lt _ (by omega))] at h
 exact h
theorem xor_lt {a b : Nat} (ha : a < 4294967296) (hb : b < 4294967296) : a ^^^ b < 4294967296 := Nat.xor_lt_two_pow (n := 32) ha hb
theorem S_lt {n : Nat} (h : n < 4294967296) : S n < 4294967296 := by
 rcases two_or n with e | e
 ·rw [S_even e]; omega
 ·rw [S_odd e]; exact xor_lt (by omega) (by decide)
theorem S4_lt {n : Nat} (h : n < 4294967296) : S4 n < 4294967296 := S_lt (S_lt (S_lt (S_lt h)))
theorem bt_lt {n c : Nat} (h : n < 4294967296) (hc : c < 256) : bt n c < 4294967296 := S4_lt (S4_lt (xor_lt h (by omega)))
theorem odd_high {n : Nat} (h : n < 4294967296) (e : n % 2 = 1) : 2147483648 ≤ S n := by
 rw [S_odd e]
 have hb : (n / 2 ^^^ 3988292384).testBit 31 = true := by
  rw [Nat.testBit_xor, Nat.testBit_lt_two_pow (show n / 2 < 2 ^ 31 by omega)]; decide
 exact Nat.ge_two_pow_of_testBit hb
theorem xor_cancel {a b c : Nat} (h : a ^^^ c = b ^^^ c) : a = b := by
 have := congrArg (· ^^^ c) h
 simpa [Nat.xor_assoc] using this
theorem xor_cancel' {a b c : Nat} (h : c ^^^ a = c ^^^ b) : a = b := xor_cancel (by rw [Nat.xor_comm a c, Nat.xor_comm b c]; exact h)
theorem S_inj {a b : Nat} (ha : a < 4294967296) (hb : b < 4294967296) (h : S a = S b) : a = b := by
 rcases two_or a with ea | ea <;> rcases two_or b with eb | eb
 ·rw [S_even ea, S_even eb] at h; omega
 ·have := odd_high hb eb; rw [← h, S_even ea] at this; omega
 ·have := odd_high ha ea; rw [h, S_even eb] at this; omega
 ·rw [S_odd ea, S_odd eb] at h
  have := xor_cancel h
  omega
theorem S4_inj {a b : Nat} (ha : a < 4294967296) (hb : b < 4294967296) (h : S4 a = S4 b) : a = b :=
 S_inj ha hb (S_inj (S_lt ha) (S_lt hb) (S_inj (S_lt (S_lt ha)) (S_lt (S_lt hb)) (S_inj (S_lt (S_lt (S_lt ha))) (S_lt (S_lt (S_lt hb))) h)))
theorem bt_inj {a b c d : Nat} (ha : a < 4294967296) (hb : b < 4294967296) (hc : c < 256) (hd : d < 256) (h : bt a c = bt b d) : a ^^^ c = b ^^^ d :=
 S4_inj (xor_lt ha (by omega)) (xor_lt hb (by omega)) (S4_inj (S4_lt (xor_lt ha (by omega))) (S4_lt (xor_lt hb (by omega))) h)
def crcFrom (n : Nat) (l : List UInt8) : Nat := l.foldl (fun n x => bt n x.toNat) n
def crc (l : List UInt8) : Nat := 4294967295 - crcFrom 4294967295 l
theorem byte_lt (x : UInt8) : x.toNat < 256 := x.toNat_lt
theorem crcFrom_cons (n : Nat) (x : UInt8) (l : List UInt8) : crcFrom n (x :: l) = crcFrom (bt n x.toNat) l := rfl
theorem crcFrom_append (n : Nat) (l m : List UInt8) : crcFrom n (l ++ m) = crcFrom (crcFrom n l) m := by simp [crcFrom, List.foldl_append]
theorem crcFrom_lt : ∀ (l : List UInt8) (n : Nat), n < 4294967296 → crcFrom n l < 4294967296
 | [], n, h => h
 | x :: l, n, h => by rw [crcFrom_cons]; exact crcFrom_lt l _ (bt_lt h (byte_lt x))
theorem crc_lt (l : List UInt8) : crc l < 4294967296 := by unfold crc; omega
theorem crcFrom_inj : ∀ (l : List UInt8) (a b : Nat), a < 4294967296 → b < 4294967296 → crcFrom a l = crcFrom b l → a = b
 | [], a, b, _, _, h => h
 | x :: l, a, b, ha, hb, h => by
   rw [crcFrom_cons, crcFrom_cons] at h
   have h1 := crcFrom_inj l _ _ (bt_lt ha (byte_lt x)) (bt_lt hb (byte_lt x)) h
   have h2 := bt_inj ha hb (byte_lt x) (byte_lt x) h1
   exact xor_cancel h2
theorem crc_turned (l m : List UInt8) (x y : UInt8) (h : crc (l ++ x :: m) = crc (l ++ y :: m)) : x = y := by
 have hx := crcFrom_lt (l ++ x :: m) 4294967295 (by omega)
 have hy := crcFrom_lt (l ++ y :: m) 4294967295 (by omega)
 have hl := crcFrom_lt l 4294967295 (by omega)
 have e : crcFrom 4294967295 (l ++ x :: m) = crcFrom 4294967295 (l ++ y :: m) := by unfold crc at h; omega
 rw [crcFrom_append, crcFrom_append, crcFrom_cons, crcFrom_cons] at e
 have e1 := crcFrom_inj m _ _ (bt_lt hl (byte_lt x)) (bt_lt hl (byte_lt y)) e
 have e2 := bt_inj hl hl (byte_lt x) (byte_lt y) e1
 exact UInt8.toNat_inj.1 (xor_cancel' e2)
def dstep (n c : Nat) : Nat := n / 2 ^^^ ((n % 2 + c % 2) % 2) * 3988292384
def dloop : Nat → Nat → Nat → Nat
 | 0, n, _ => n
 | k + 1, n, c => dloop k (dstep n c) (c / 2)
end M
open Go.RowKit
theorem ret_int {k : IntKind} {a b : Int} (h : a = b) : Ending.returned (.int k a) = .returned (.int k b) := by rw [h]
theorem ret_bool {a b : Bool} (h : a = b) : Ending.returned (.bool a) = .returned (.bool b) := by rw [h]
theorem below_on {a b c : World} (h : Below a.heap.size a b) (k : Below b.heap.size b c) : Below a.heap.size a c := h.trans (k.mono h.size)
theorem below_new {a b : World} {o : Obj} (h : Below a.heap.size a b) : Below a.heap.size a (b.alloc o) := h.alloc h.size _
def Row (w : World) (v : Value) (xs : List Value) : Prop := ∃ (A : Option Addr) (c : Nat), v = .slice A xs.length c ∧ xs.length ≤ c ∧ (0 < xs.length → ∃ b o, A = some ⟨b, o, none⟩ ∧ b < w.heap.size ∧ ∀ k x, xs[k]? = some x → w.cell? ⟨b, o + k, none⟩ = some x)
theorem Row.of_owns {w : World} {base : Nat} {t : TypeId} {v : Value} {n : Nat} {xs : List Value} (h : w.ownsRow base t 1 v n xs) : Row w v xs := by
 obtain ⟨hl, h2⟩ := h
 rw [Nat.mul_one] at hl
 rcases h2 with ⟨rfl, rfl⟩ | ⟨g, cap, cur, rfl, hb, hg, hn, hm, hs, ht⟩
 ·exact ⟨none, 0, by rw [hl], by omega, fun h => absurd h (by omega)⟩
 ·refine ⟨some ⟨g, 0, none⟩, cap, by rw [hl], by omega, fun _ => ⟨g, 0, rfl, (Array.getElem?_eq_some_iff.1 hg).1, fun k x hx => ?_⟩⟩
  have hk : k < xs.length := (List.getElem?_eq_some_iff.1 hx).1
  have h1 : (cur.toList.take (n * 1))[k]? = some x := by rw [ht]; exact hx
  rw [List.getElem?_take_of_lt (by omega), Array.getElem?_toList] at h1
  simp only [World.cell?, hg, Nat.zero_add, Option.isSome_none, Bool.false_eq_true, if_false]
  exact h1
theorem Row.below {w w' : World} {v : Value} {xs : List Value} (h : Row w v xs) (hb : Below w.heap.size w w') : Row w' v xs := by
 obtain ⟨A, c, e, hl, hc⟩ := h
 refine ⟨A, c, e, hl, fun h0 => ?_⟩
 obtain ⟨b, o, e1, hlt, hx⟩ := hc h0
 exact ⟨b, o, e1, Nat.lt_of_lt_of_le hlt hb.size, fun k x hk => (hb.cell hlt).trans (hx k x hk)⟩
def enc8 (x : UInt8) : Value := .int .u8 (x.toNat : Int)
def Bts (w : World) (v : Value) (xs : List UInt8) : Prop := Row w v (xs.map enc8)
theorem Bts.below {w w' : World} {v : Value} {xs : List UInt8} (h : Bts w v xs) (hb : Below w.heap.size w w') : Bts w' v xs := Row.below h hb
theorem Bts.opened {w : World} {v : Value} {xs : List UInt8} (h : Bts w v xs) : ∃ (A : Option Addr) (c : Nat), v = .slice A xs.length c ∧ xs.length ≤ c ∧ (0 < xs.length → ∃ b o, A = some ⟨b, o, none⟩ ∧ b < w.heap.size ∧
 ∀ k, k < xs.length → w.cell? ⟨b, o + k, none⟩ = some (.int .u8 ((xs.getD k 0).toNat : Int))) := by
 obtain ⟨A, c, e, hl, hc⟩ := h
 rw [List.length_map] at e hl hc
 refine ⟨A, c, e, hl, fun h0 => ?_⟩
 obtain ⟨b, o, e1, hlt, hx⟩ := hc h0
 refine ⟨b, o, e1, hlt, fun k hk => hx k _ ?_⟩
 rw [List.getElem?_map, List.getElem?_eq_getElem hk, List.getD, List.getElem?_eq_getElem hk]; rfl
def Tab (w : World) : Prop := 0 < w.heap.size ∧ ∀ k, k < 16 → w.cell? ⟨0, k, none⟩ = some (.int .u32 (M.tb k : Nat))
theorem Tab.below {w w' : World} (h : Tab w) (hb : Below w.heap.size w w') : Tab w' :=
 ⟨Nat.lt_of_lt_of_le h.1 hb.size, fun k hk => (hb.cell (p := ⟨0, k, none⟩) h.1).trans (h.2 k hk)⟩
theorem take_snoc (xs : List UInt8) (k : Nat) (h : k < xs.length) : xs.take (k + 1) = xs.take k ++ [xs.getD k 0] := by
 rw [List.take_add_one, List.getElem?_eq_getElem h, List.getD, List.getElem?_eq_getElem h]; rfl
theorem wrap32 (n : Int) : IntKind.u32.wrap n = n % 4294967296 := by
 simp [IntKind.wrap, IntKind.bits, IntKind.signed]
theorem xor32 (a b : Nat) (ha : a < 4294967296) (hb : b < 4294967296) : bits .xor .u32 (a : Int) (b : Int) = ((a ^^^ b : Nat) : Int) := by
 have e : bits .xor .u32 (a : Int) (b : Int) = IntKind.u32.wrap ((BitVec.ofInt 32 (a : Int) ^^^ BitVec.ofInt 32 (b : Int)).toNat : Int) := rfl
 have h := M.xor_lt ha hb
 rw [e, wrap32, BitVec.toNat_xor, BitVec.ofInt_natCast, BitVec.ofInt_natCast, BitVec.toNat_ofNat, BitVec.toNat_ofNat, Nat.mod_eq_of_lt (by omega), Nat.mod_eq_of_lt (by omega)]
 omega
theorem xor32' (a b : Nat) (ha : a < 4294967296) (hb : b < 4294967296) : bits .xor .u32 ((a : Int) / 16) (b : Int) = ((a / 16 ^^^ b : Nat) : Int) := by
 have h := xor32 (a / 16) b (by omega) hb
 rw [Int.natCast_ediv] at h
 exact h
theorem and15 (a : Nat) (ha : a < 4294967296) : bits .and .u32 (a : Int) 15 = ((a % 16 : Nat) : Int) := by
 have e : bits .and .u32 (a : Int) 15 = IntKind.u32.wrap ((BitVec.ofInt 32 (a : Int) &&& BitVec.ofInt 32 ((15 : Nat) : Int)).toNat : Int) := rfl
 rw [e, wrap32, BitVec.toNat_and, BitVec.ofInt_natCast, BitVec.ofInt_natCast, BitVec.toNat_ofNat, BitVec.toNat_ofNat, Nat.mod_eq_of_lt (by omega)]
 rw [show (15 % 2 ^ 32 : Nat) = 2 ^ 4 - 1 by rfl, Nat.and_two_pow_sub_one_eq_mod]
 omega
theorem not32 (a : Nat) (ha : a < 4294967296) : bits .xor .u32 IntKind.u32.max (a : Int) = ((4294967295 - a : Nat) : Int) := by
 have e : bits .xor .u32 IntKind.u32.max (a : Int) = IntKind.u32.wrap ((BitVec.allOnes 32 ^^^ BitVec.ofInt 32 (a : Int)).toNat : Int) := rfl
 rw [e, wrap32, BitVec.allOnes_xor, BitVec.toNat_not, BitVec.ofInt_natCast, BitVec.toNat_ofNat, Nat.mod_eq_of_lt (by omega)]
 omega
theorem wrap8 (n : Int) : IntKind.u8.wrap n = n % 256 := by
 simp [IntKind.wrap, IntKind.bits, IntKind.signed]
theorem not8 (a : Nat) (ha : a < 256) : bits .xor .u8 IntKind.u8.max (a : Int) = ((255 - a : Nat) : Int) := by
 have e : bits .xor .u8 IntKind.u8.max (a : Int) = IntKind.u8.wrap ((BitVec.allOnes 8 ^^^ BitVec.ofInt 8 (a : Int)).toNat : Int) := rfl
 rw [e, wrap8, BitVec.allOnes_xor, BitVec.toNat_not, BitVec.ofInt_natCast, BitVec.toNat_ofNat, Nat.mod_eq_of_lt (by omega)]
 omega
theorem sum_any {w : World} {v : Value} {xs : List UInt8} (hT : Tab w) (h : Bts w v xs) (hl : xs.length ≤ 1000000) : Calls Tryz.prog 120 #[v] w fun e w' => e = .returned (.int .u32 (M.crc xs : Nat)) ∧ w = w' := by
 obtain ⟨A, c, rfl, hc, hx⟩ := h.opened
 have HX := Lib.hid hx
 have HT := Lib.hid hT
 clear hx hT h
 go_enter Tryz.func120, Tryz.ntmps120
 go_wp2
 go_loop [3, 8] (fun s i => ∃ k : Nat, k ≤ xs.length ∧ i = .int .i64 k ∧ s = .int .u32 (M.crcFrom 4294967295 (xs.take k) : Nat)) (fun _ i => xs.length - (intOf i).toNat)
 case atStart => exact ⟨0, Nat.zero_le _, rfl, rfl⟩
 case round =>
  obtain ⟨k, hk, rfl, rfl⟩ := hrel
  have hn := M.crcFrom_lt (xs.take k) 4294967295 (by omega)
  by_cases hlt : k < xs.length
  ·obtain ⟨b, o, rfl, hb, hy⟩ := HX.out (by omega)
   have hcell := hy k hlt
   have HS := Lib.hid (show M.crcFrom 4294967295 (xs.take (k + 1)) = M.bt (M.crcFrom 4294967295 (xs.take k)) (xs.getD k 0).toNat by rw [take_snoc xs k hlt, M.crcFrom_append]; rfl)
   have hxb := M.byte_lt (xs.getD k 0)
   obtain ⟨x, hxx⟩ : ∃ x, x = (xs.getD k 0).toNat := ⟨_, rfl⟩
   rw [← hxx] at hcell HS hxb
   clear hy hxx
   generalize M.crcFrom 4294967295 (xs.take k) = n at *
   unfold M.bt at HS
   have e1 := xor32 n x hn (by omega)
   have hm := M.xor_lt hn (show x < 4294967296 by omega)
   generalize n ^^^ x = m at *
   rw [M.S4_eq m] at HS
   have e2 := and15 m hm
   have c1 := HT.out.2 (m % 16) (by omega)
   have g1 : m % 16 < 16 := by omega
   have e3 := xor32' m (M.tb (m % 16)) hm (M.tb_lt _)
   have hm' := M.xor_lt (show m / 16 < 4294967296 by omega) (M.tb_lt (m % 16))
   generalize M.tb (m % 16) = t at *
   generalize m % 16 = r at *
   generalize m / 16 ^^^ t = q at *
   rw [M.S4_eq q] at HS
   have e4 := and15 q hm'
   have c2 := HT.out.2 (q % 16) (by omega)
   have g2 : q % 16 < 16 := by omega
   have e5 := xor32' q (M.tb (q % 16)) hm' (M.tb_lt _)
   generalize M.tb (q % 16) = t' at *
   generalize q % 16 = r' at *
   generalize q / 16 ^^^ t' = q' at *
   go_wp2
   go_round
   case rel => exact ⟨k + 1, by omega, by go_num, by rw [HS.out]⟩
   case measure => simp [intOf]; omega
  ·go_wp2
   go_ret
   refine ⟨ret_int ?_, rfl⟩
   rw [List.take_of_length_le (by omega)]
   exact not32 _ (M.crcFrom_lt xs _ (by omega))
open Go.RowKit
open Go.RowKit
theorem below_drewN {a w : World} (h : Below a.heap.size a w) (n : Nat) : Below a.heap.size a (w.drewN n) := ⟨h.os, h.tape, h.output, h.size, h.block⟩
theorem info5 : (Tryz.prog.info? 5).map (fun i => (i.zero, i.size, i.bytes)) = some (some (.int .u8 0), 1, 1) := by kernel_rfl
theorem one_enc (xs : List UInt8) : ∀ u ∈ xs.map enc8, u.oneCell' = true := by
 intro u hu
 rw [List.mem_map] at hu
 obtain ⟨x, _, rfl⟩ := hu
 rfl
theorem add_plain' (b o k : Nat) : (⟨b, o, none⟩ : Addr).add k = ⟨b, o + k, none⟩ := Addr.add_lit ..
theorem ownsRow_base {w : World} {base base' : Nat} {t : TypeId} {v : Value} {n : Nat} {xs : List Value} (h : w.ownsRow base t 1 v n xs) (hb : base' ≤ base) : w.ownsRow base' t 1 v n xs := by
 refine ⟨h.1, ?_⟩
 rcases h.2 with h0 | ⟨g, cap, cur, hv, hg, r⟩
 ·exact .inl h0
 ·exact .inr ⟨g, cap, cur, hv, Nat.le_trans hb hg, r⟩
def Blk (w : World) (g : Nat) (cs : List UInt8) : Prop := w.heap[g]? = some (.cells (cs.map enc8).toArray 5 (0, 0))
theorem Blk.lt {w : World} {g : Nat} {cs : List UInt8} (h : Blk w g cs) : g < w.heap.size := (Array.getElem?_eq_some_iff.1 h).1
theorem Blk.keep {w w' : World} {B g : Nat} {cs : List UInt8} (h : Blk w g cs) (hb : Below B w w') (hg : g < B) : Blk w' g cs := (hb.block g hg).trans h
theorem Blk.below {w w' : World} {g : Nat} {cs : List UInt8} (h : Blk w g cs) (hb : Below w.heap.size w w') : Blk w' g cs := h.keep hb h.lt
theorem Blk.cell {w : World} {g : Nat} {cs : List UInt8} (h : Blk w g cs) {k : Nat} {x : UInt8} (hk : cs[k]? = some x) : w.cell? ⟨g, k, none⟩ = some (enc8 x) := by
 unfold Blk at h
 simp only [World.cell?, h, Option.isSome_none, Bool.false_eq_true, if_false]
 simp [hk]
theorem Blk.bts {w : World} {g o n c : Nat} {cs xs : List UInt8} (h : Blk w g cs) (hx : xs = (cs.drop o).take n) (hn : o + n ≤ cs.length) (hc : n ≤ c) : Bts w (.slice (some ⟨g, o, none⟩) n c) xs := by
 have hl : xs.length = n := by rw [hx]; simp; omega
 refine ⟨some ⟨g, o, none⟩, c, by simp [hl], by simp [hl]; exact hc, fun _ => ⟨g, o, rfl, h.lt, fun k x hk => ?_⟩⟩
 rw [List.getElem?_map, Option.map_eq_some_iff] at hk
 obtain ⟨y, hy, rfl⟩ := hk
 have hkn : k < n := by have := (List.getElem?_eq_some_iff.1 hy).1; omega
 refine h.cell ?_
 rw [hx, List.getElem?_take_of_lt hkn, List.getElem?_drop] at hy
 exact hy
theorem Blk.made (w : World) (n : Nat) : Blk (w.alloc (.cells (madeCells #[.int .u8 0] n) 5)) w.heap.size (List.replicate n 0) := by
 unfold Blk
 rw [heap_alloc_new]
 have h := toList_madeCells_one (.int .u8 0) n
 have : madeCells #[.int .u8 0] n = ((List.replicate n (0 : UInt8)).map enc8).toArray := by
  apply Array.toList_inj.1
  rw [h]
  simp [enc8]
 rw [this]
theorem append_in {w : World} {u : Value} {g k : Nat} {cs new : List UInt8} (h : Blk w g cs) (hu : Bts w u new) (hk : k + new.length ≤ cs.length) :
 ∃ w', (Builtin.append_ #[22, 22] 22 #[.slice (some ⟨g, 0, none⟩) k cs.length, u]).run Tryz.prog w = .ok (.slice (some ⟨g, 0, none⟩) (k + new.length) cs.length) w' ∧ Blk w' g (cs.take k ++ new ++ cs.drop (k + new.length)) ∧ w.grownBy w' (some g) := by
 obtain ⟨i0, hi, hz0, hz1, hz2⟩ := info_parts info5
 have ht : Tryz.prog.underlying 22 = some (.slice 5) := Tryz.underlying22
 obtain ⟨A, c, rfl, hc, hx⟩ := hu
 rw [List.length_map] at hc hx ⊢
 cases A with
 | none =>
   have h0 : new = [] := by
    cases new with
    | nil => rfl
    | cons => obtain ⟨b, o, e, _⟩ := hx (by simp); cases e
   subst h0
   refine ⟨w, ?_, by simpa [Blk] using h, World.grownBy.refl _ _⟩
   have hn : k ≤ cs.length := by simpa using hk
   simp [Builtin.append_, run_underlying ht, sizeOf, typeInfo, hi, Builtin.lenOf, Builtin.firstCells, hn, storeCells]
 | some a =>
   have hr := run_append_room (P := Tryz.prog) w 22 22 5 i0 ht hi g k cs.length (cs.map enc8).toArray h a new.length c (new.map enc8) (by rw [hz1]; simp) (fun j y hj => by
    have hp : 0 < new.length := by have := (List.getElem?_eq_some_iff.1 hj).1; simp at this; omega
    obtain ⟨b, o, e, hb, hy⟩ := hx hp
    cases e
    rw [add_plain']; exact hy j y hj) (one_enc new) hk (by rw [hz1]; simp; omega)
   refine ⟨_, hr, ?_, ⟨rfl, rfl, rfl, by simp, fun j _ hj => setRow_other w g j _ (fun e => hj (by simp [e]))⟩⟩
   unfold Blk
   rw [setRow_heap w g _ _ 5 (0, 0) h, hz1]
   simp [List.map_take, List.map_drop]
theorem append_any {w : World} {base : Nat} {v u : Value} {xs new : List UInt8} (hown : w.ownsRow base 5 1 v xs.length (xs.map enc8)) (hu : Bts w u new) (hl : xs.length + new.length ≤ 1000000) (hbase : base ≤ w.heap.size) :
 ∃ v' w', (Builtin.append_ #[22, 22] 22 #[v, u]).run Tryz.prog w = .ok v' w' ∧ w'.ownsRow base 5 1 v' (xs ++ new).length ((xs ++ new).map enc8) ∧ w.grownBy w' v.ownBlock := by
 obtain ⟨i0, hi, hz0, hz1, hz2⟩ := info_parts info5
 have ht : Tryz.prog.underlying 22 = some (.slice 5) := Tryz.underlying22
 obtain ⟨A, c, rfl, hc, hx⟩ := hu
 rw [List.length_map] at hc hx ⊢
 rw [List.length_append, List.map_append]
 by_cases h0 : new = []
 ·subst h0
  cases A with
  | none =>
    refine ⟨v, w, ?_, by simpa using hown, World.grownBy.refl _ _⟩
    rcases hown.2 with ⟨rfl, e⟩ | ⟨g, cap, cur, rfl, _, _, hnc, _⟩
    ·simp [Builtin.append_, run_underlying ht, sizeOf, typeInfo, hi, Builtin.lenOf, Builtin.firstCells]
    ·simp [Builtin.append_, run_underlying ht, sizeOf, typeInfo, hi, Builtin.lenOf, Builtin.firstCells, hnc, storeCells]
  | some a =>
    obtain ⟨v', w', h1, h2, h3, _⟩ := run_append_own w base 22 22 5 i0 (.int .u8 0) 1 1 ht hi hz0 hz1 hz2 rfl (by decide) v xs.length (xs.map enc8) hown a 0 c [] rfl (by simp) (by simp) (by simp at hl; unfold maxLen; omega) (by simp at hl; omega) hbase
    exact ⟨v', w', h1, by simpa using h2, h3⟩
 ·have hp : 0 < new.length := by cases new with | nil => exact absurd rfl h0 | cons => simp
  obtain ⟨b, o, rfl, hb, hy⟩ := hx hp
  obtain ⟨v', w', h1, h2, h3, _⟩ := run_append_own w base 22 22 5 i0 (.int .u8 0) 1 1 ht hi hz0 hz1 hz2 rfl (by decide) v xs.length (xs.map enc8) hown ⟨b, o, none⟩ new.length c (new.map enc8) (by simp) (fun j y hj => by rw [add_plain']; exact hy j y hj) (one_enc new) (by unfold maxLen; omega) (by omega) hbase
  exact ⟨v', w', h1, h2, h3⟩
namespace M
def size (n : Int) : Int := if 1 ≤ n ∧ n ≤ 4096 then n + 8 else 0
theorem size_yes {n : Int} (h : 1 ≤ n ∧ n ≤ 4096) : size n = n + 8 := by simp [size, h]
theorem size_no {n : Int} (h : ¬ (1 ≤ n ∧ n ≤ 4096)) : size n = 0 := by rw [size, if_neg h]
def sameB (xs ys : List UInt8) : Bool := decide (xs = ys)
theorem sameB_iff {xs ys : List UInt8} : sameB xs ys = true ↔ xs = ys := by simp [sameB]
end M
theorem size_any (n : Int) (w : World) : Calls Tryz.prog 97 #[.int .i64 n] w fun e w' => e = .returned (.int .i64 (M.size n)) ∧ w = w' := by
 by_cases h1 : 1 ≤ n
 ·by_cases h2 : n ≤ 4096
  ·have HS := Lib.hid (M.size_yes ⟨h1, h2⟩)
   go_enter Tryz.func97, Tryz.ntmps97
   go_wp2
   go_ret
   exact ⟨ret_int (by rw [HS.out]; omega), rfl⟩
  ·have HS := Lib.hid (M.size_no (n := n) (by omega))
   go_enter Tryz.func97, Tryz.ntmps97
   go_wp2
   go_ret
   exact ⟨ret_int (by rw [HS.out]), rfl⟩
 ·have HS := Lib.hid (M.size_no (n := n) (by omega))
  go_enter Tryz.func97, Tryz.ntmps97
  go_wp2
  go_ret
  exact ⟨ret_int (by rw [HS.out]), rfl⟩
def Owned (w : World) (xs : List UInt8) (e : Ending) (w' : World) : Prop := e = .returned (.slice (some ⟨w.heap.size, 0, none⟩) xs.length (xs.length + 16)) ∧ Blk w' w.heap.size (xs ++ List.replicate 16 0) ∧ Below w.heap.size w w'
open Go.RowKit
namespace M
def b8 (n : Nat) : UInt8 := UInt8.ofNat n
theorem b8_nat (n : Nat) : (b8 n).toNat = n % 256 := by simp [b8]
def head (n : Nat) : List UInt8 := [b8 n, b8 (n / 256), b8 (255 - n % 256), b8 (255 - n / 256 % 256)]
def tail (s : Nat) : List UInt8 := [b8 s, b8 (s / 256), b8 (s / 65536), b8 (s / 16777216)]
theorem head_len (n : Nat) : (head n).length = 4 := rfl
theorem tail_len (n : Nat) : (tail n).length = 4 := rfl
end M
def Made (xs : List UInt8) (w : World) (e : Ending) (w' : World) : Prop := ∃ v, e = .returned v ∧ Bts w' v xs ∧ Below w.heap.size w w'
theorem four_new (w : World) {a b c d : UInt8} {x y z u : Int} (hx : x = a.toNat) (hy : y = b.toNat) (hz : z = c.toNat) (hu : u = d.toNat) : Bts (w.alloc (.cells #[.int .u8 x,.int .u8 y,.int .u8 z,.int .u8 u] 5)) (.slice (some ⟨w.heap.size, 0, none⟩) 4 4) [a, b, c, d] := by
 refine Blk.bts (cs := [a, b, c, d]) ?_ rfl (Nat.le_refl _) (Nat.le_refl _)
 unfold Blk
 rw [heap_alloc_new, hx, hy, hz, hu]; rfl
theorem head_any (n : Nat) (w : World) (hn : n ≤ 65535) : Calls Tryz.prog 98 #[.int .i64 n] w (Made (M.head n) w) := by
 have e1 := not8 (n % 256) (by omega)
 have e2 := not8 (n / 256) (by omega)
 rw [Int.natCast_emod] at e1
 rw [Int.natCast_ediv] at e2
 go_enter Tryz.func98, Tryz.ntmps98
 go_wp2
 go_ret
 refine ⟨_, rfl, four_new w ?_ ?_ ?_ ?_, below_new (Below.refl _ _)⟩
 ·rw [M.b8_nat]; omega
 ·rw [M.b8_nat]; omega
 ·rw [show (↑n % 256 : Int) = ↑n % ((256 : Nat) : Int) from rfl, e1, M.b8_nat]; omega
 ·rw [show (↑n / 256 : Int) = ↑n / ((256 : Nat) : Int) from rfl, e2, M.b8_nat]; omega
theorem tail_any {w : World} {v : Value} {xs : List UInt8} (hT : Tab w) (h : Bts w v xs) (hl : xs.length ≤ 1000000) : Calls Tryz.prog 99 #[v] w (Made (M.tail (M.crc xs)) w) := by
 have hs := sum_any hT h hl
 have hlt := M.crc_lt xs
 clear h hT hl
 generalize M.crc xs = s at *
 go_enter Tryz.func99, Tryz.ntmps99
 go_wp2_with (fail)
 refine hs.mono ?_
 rintro e w' ⟨rfl, rfl⟩
 go_wp2
 go_ret
 refine ⟨_, rfl, four_new w ?_ ?_ ?_ ?_, below_new (Below.refl _ _)⟩
 ·rw [M.b8_nat]; omega
 ·rw [M.b8_nat]; omega
 ·rw [M.b8_nat]; omega
 ·rw [M.b8_nat]; omega
theorem conv_any {w : World} {v : Value} {xs : List UInt8} (h : Bts w v xs) : (convert 22 9 v).run Tryz.prog w = .ok (.string ⟨xs.toArray⟩) w := by
 obtain ⟨A, c, rfl, hc, hx⟩ := h.opened
 have hs : strOfNums (xs.map fun x => (x.toNat : Int)) = ⟨xs.toArray⟩ := by
  unfold strOfNums
  rw [List.map_map]
  have : ((fun n : Int => UInt8.ofNat n.toNat) ∘ fun x : UInt8 => (x.toNat : Int)) = id := by funext x; simp
  rw [this, List.map_id]
 by_cases h0 : 0 < xs.length
 ·obtain ⟨b, o, rfl, hb, hy⟩ := hx h0
  have := run_convert_bytes_arg (P := Tryz.prog) w 22 5 Tryz.underlying22 Tryz.underlying5 b o xs.length c (xs.map fun x => (x.toNat : Int)) (by simp) (fun i hi => by rw [hy i hi, List.getD, List.getD, List.getElem?_map, List.getElem?_eq_getElem hi]; rfl) 9 Tryz.underlying9
  rw [hs] at this
  exact this
 ·have h0' : xs = [] := List.eq_nil_of_length_eq_zero (by omega)
  subst h0'
  cases A with
  | none => exact run_convert_bytes_nil (P := Tryz.prog) w 22 5 Tryz.underlying22 Tryz.underlying5 0 c 9 Tryz.underlying9
  | some a =>
    have := run_convert_bytes_string (P := Tryz.prog) w 22 9 5 (some a) 0 c Tryz.underlying22 Tryz.underlying5 Tryz.underlying9
    simp only [List.length_nil]
    rw [this]
    simp [Conv.bytesToString, loadCells, loadCellsFrom]
    rfl
theorem equal_any {w : World} {v u : Value} {xs ys : List UInt8} (h : Bts w v xs) (h' : Bts w u ys) : Calls Tryz.prog 101 #[v, u] w fun e w' => e = .returned (.bool (M.sameB xs ys)) ∧ w = w' := by
 have e1 := conv_any h
 have e2 := conv_any h'
 obtain ⟨A, c, rfl, hc, hx⟩ := h.opened
 obtain ⟨A', c', rfl, hc', hx'⟩ := h'.opened
 clear h h' hx hx'
 go_enter Tryz.func101, Tryz.ntmps101
 go_wp2
 go_ret
 refine ⟨ret_bool ?_, rfl⟩
 rw [Bool.eq_iff_iff]; simp [M.sameB]
theorem Bts.take {w : World} {A : Option Addr} {n c : Nat} {xs : List UInt8} (h : Bts w (.slice A n c) xs) (m : Nat) (hm : m ≤ n) : Bts w (.slice A m c) (xs.take m) := by
 obtain ⟨A', c', e, hc, hx⟩ := h
 simp only [Value.slice.injEq, List.length_map] at e hc hx
 obtain ⟨rfl, rfl, rfl⟩ := e
 refine ⟨A, c, by simp; omega, by simp; omega, fun h0 => ?_⟩
 obtain ⟨b, o, e, hb, hy⟩ := hx (by simp at h0; omega)
 refine ⟨b, o, e, hb, fun k x hk => hy k x ?_⟩
 have hkm : k < m := by have := (List.getElem?_eq_some_iff.1 hk).1; simp at this; omega
 rw [List.map_take, List.getElem?_take_of_lt hkm] at hk
 exact hk
theorem Bts.drop {w : World} {b o n c : Nat} {xs : List UInt8} (h : Bts w (.slice (some ⟨b, o, none⟩) n c) xs) (m : Nat) (hm : m ≤ n) : Bts w (.slice (some ⟨b, o + m, none⟩) (n - m) (c - m)) (xs.drop m) := by
 obtain ⟨A', c', e, hc, hx⟩ := h
 simp only [Value.slice.injEq, List.length_map] at e hc hx
 obtain ⟨rfl, rfl, rfl⟩ := e
 refine ⟨some ⟨b, o + m, none⟩, c - m, by simp, by simp; omega, fun h0 => ?_⟩
 obtain ⟨b', o', e, hb, hy⟩ := hx (by simp at h0; omega)
 cases e
 refine ⟨b, o + m, rfl, hb, fun k x hk => ?_⟩
 rw [List.getElem?_map, List.getElem?_drop] at hk
 rw [Nat.add_assoc]
 exact hy (m + k) x (by rw [List.getElem?_map]; exact hk)
theorem Bts.len {w : World} {A : Option Addr} {n c : Nat} {xs : List UInt8} (h : Bts w (.slice A n c) xs) : xs.length = n ∧ n ≤ c := by
 obtain ⟨A', c', e, hc, hx⟩ := h
 simp only [Value.slice.injEq, List.length_map] at e hc
 obtain ⟨rfl, rfl, rfl⟩ := e
 exact ⟨rfl, hc⟩
theorem Bts.nil (w : World) (A : Option Addr) (c : Nat) : Bts w (.slice A 0 c) [] := ⟨A, c, rfl, Nat.zero_le _, fun h => absurd h (by simp)⟩
theorem prefix_any {w : World} {u : Value} {b o n c : Nat} {xs ys : List UInt8} (h : Bts w (.slice (some ⟨b, o, none⟩) n c) xs) (h' : Bts w u ys) (hy : ys.length = 4) (hn : 4 ≤ n) (hl : n ≤ 1000000) :
 Calls Tryz.prog 73 #[.slice (some ⟨b, o, none⟩) n c, u] w fun e w' => e = .returned (.bool (M.sameB (xs.take 4) ys)) ∧ w = w' := by
 have ht := h.take 4 hn
 have hc := h.len.2
 have HE := Lib.hid (equal_any ht h')
 obtain ⟨A', c', rfl, hc', hx'⟩ := h'.opened
 rw [hy] at HE ⊢
 clear h h' hx' ht hy hc'
 go_enter Tryz.func73, Tryz.ntmps73
 go_wp2_with (fail)
 refine HE.out.mono ?_
 rintro e w' ⟨rfl, rfl⟩
 go_wp2
 go_ret
 exact ⟨rfl, rfl⟩
def Cloned (w : World) (xs : List UInt8) (e : Ending) (w' : World) : Prop := ∃ v, e = .returned v ∧ w'.ownsRow w.heap.size 5 1 v xs.length (xs.map enc8) ∧ Below w.heap.size w w'
theorem clone_any {w : World} {v : Value} {xs : List UInt8} (h : Bts w v xs) (h0 : 0 < xs.length) (hl : xs.length ≤ 1000000) : Calls Tryz.prog 146 #[v] w (Cloned w xs) := by
 have q22 : ∀ (w : World) (a : Option Addr) (n c n' c' : Nat), (binOp .eql 22 (.slice a n c) (.slice none n' c')).run Tryz.prog w = .ok (.bool a.isNone) w := fun w a n c n' c' => Lib.run_eql_slice_nil w _ _ a n c n' c' Tryz.underlying22
 have h2 := h.below (below_new (o := .cells #[] 5) (Below.refl _ _))
 have hown : (w.alloc (.cells #[] 5)).ownsRow w.heap.size 5 1 (.slice (some ⟨w.heap.size, 0, none⟩) 0 0) ([] : List UInt8).length (([] : List UInt8).map enc8) := World.ownsRow_made w #[] 0 (Nat.le_refl _) (Nat.zero_le _) rfl
 obtain ⟨v', w', hr, ho, hg⟩ := append_any hown h2 (by simpa using hl) (by simp)
 have HO := Lib.hid ho
 have HB := Lib.hid (show Below w.heap.size w w' from (below_new (Below.refl _ _)).grown hg (by simp) (fun k e => by cases e; exact Nat.le_refl _))
 obtain ⟨A, c, rfl, hc, hx⟩ := h.opened
 obtain ⟨b, o, rfl, hb, hy⟩ := hx h0
 clear hx hy h h2 ho hg hown
 go_enter Tryz.func146, Tryz.ntmps146
 go_wp2_with (at_builtin; refine Lib.wpList_append_run _ rfl _ _ _ _ rfl _ _ rfl rfl _ _ hr ?_)
 go_ret
 exact ⟨_, rfl, by simpa using HO.out, HB.out⟩
namespace M
def gn (xs : List UInt8) : Nat := (xs.getD 0 0).toNat + 256 * (xs.getD 1 0).toNat
def hdB (xs : List UInt8) : Bool := decide (1 ≤ gn xs ∧ gn xs ≤ 4096) && sameB (xs.take 4) (head (gn xs))
def smB (xs : List UInt8) : Bool := sameB ((xs.drop (gn xs + 4)).take 4) (tail (crc (xs.take (gn xs + 4))))
def ge (xs : List UInt8) : Nat := if xs.length < 4 then 3 else if hdB xs = false then 4 else if xs.length < gn xs + 8 then 3 else if smB xs = false then 6 else 0
def gp (xs : List UInt8) : List UInt8 := if ge xs = 0 then (xs.drop 4).take (gn xs) else []
def gs (xs : List UInt8) : Nat := if ge xs = 0 then gn xs + 8 else 0
theorem gn_lt (xs : List UInt8) : gn xs ≤ 65535 := by
 have h0 := byte_lt (xs.getD 0 0)
 have h1 := byte_lt (xs.getD 1 0)
 unfold gn; omega
theorem ge_short {xs : List UInt8} (h : xs.length < 4) : ge xs = 3 := by simp [ge, h]
theorem ge_form {xs : List UInt8} (h : ¬ xs.length < 4) (h1 : hdB xs = false) : ge xs = 4 := by simp [ge, h, h1]
theorem ge_long {xs : List UInt8} (h : ¬ xs.length < 4) (h1 : hdB xs = true) (h2 : xs.length < gn xs + 8) : ge xs = 3 := by simp [ge, h, h1, h2]
theorem ge_sum {xs : List UInt8} (h : ¬ xs.length < 4) (h1 : hdB xs = true) (h2 : ¬ xs.length < gn xs + 8) (h3 : smB xs = false) : ge xs = 6 := by simp [ge, h, h1, h2, h3]
theorem ge_ok {xs : List UInt8} (h : ¬ xs.length < 4) (h1 : hdB xs = true) (h2 : ¬ xs.length < gn xs + 8) (h3 : smB xs = true) : ge xs = 0 := by simp [ge, h, h1, h2, h3]
theorem ge_ok_iff {xs : List UInt8} : ge xs = 0 ↔ ¬ xs.length < 4 ∧ hdB xs = true ∧ ¬ xs.length < gn xs + 8 ∧ smB xs = true := by
 constructor
 ·intro h
  by_cases a : xs.length < 4
  ·rw [ge_short a] at h; omega
  ·cases b : hdB xs with
   | false => rw [ge_form a b] at h; omega
   | true =>
     by_cases c : xs.length < gn xs + 8
     ·rw [ge_long a b c] at h; omega
     ·cases d : smB xs with
      | false => rw [ge_sum a b c d] at h; omega
      | true => exact ⟨a, rfl, c, rfl⟩
 ·rintro ⟨a, b, c, d⟩; exact ge_ok a b c d
theorem hd_iff {xs : List UInt8} : hdB xs = true ↔ (1 ≤ gn xs ∧ gn xs ≤ 4096) ∧ xs.take 4 = head (gn xs) := by
 simp [hdB, sameB]
end M
theorem or_shift (a b : Nat) (ha : a < 256) (hb : b < 256) : bits .or .i64 (a : Int) ((b : Int) * 256) = ((a + 256 * b : Nat) : Int) := by
 have e : bits .or .i64 (a : Int) ((b : Int) * 256) = IntKind.i64.wrap ((BitVec.ofInt 64 (a : Int) ||| BitVec.ofInt 64 ((b * 256 : Nat) : Int)).toNat : Int) := by rw [Int.natCast_mul]; rfl
 rw [e, BitVec.toNat_or, BitVec.ofInt_natCast, BitVec.ofInt_natCast, BitVec.toNat_ofNat, BitVec.toNat_ofNat, Nat.mod_eq_of_lt (by omega), Nat.mod_eq_of_lt (by omega)]
 rw [show a ||| b * 256 = a + 256 * b by
  have := Nat.two_pow_add_eq_or_of_lt (i := 8) (b := a) ha b
  rw [show (2 : Nat) ^ 8 = 256 from rfl] at this
  rw [Nat.or_comm, Nat.mul_comm]
  omega]
 rw [IntKind.wrap_i64]
 omega
open Go.RowKit
def Got (w : World) (xs : List UInt8) (e : Ending) (w' : World) : Prop :=
 ∃ v, e = .returned (.tuple #[v,.int .i64 (M.gs xs : Nat),.int .i64 (M.ge xs : Nat)]) ∧ (M.ge xs = 0 → w'.ownsRow w.heap.size 5 1 v (M.gp xs).length ((M.gp xs).map enc8)) ∧ (M.ge xs ≠ 0 → v = .slice none 0 0) ∧ Below w.heap.size w w'
theorem Got.bad {w w' : World} {xs : List UInt8} {k : Nat} {z : Int} (h : M.ge xs = k) (hk : k ≠ 0) (hz : z = k) (hb : Below w.heap.size w w') : Got w xs (.returned (.tuple #[.slice none 0 0,.int .i64 0,.int .i64 z])) w' := by
 have hs : M.gs xs = 0 := by rw [M.gs, if_neg (by omega)]
 refine ⟨.slice none 0 0, by rw [hs, h, hz]; rfl, fun h0 => absurd h0 (by omega), fun _ => rfl, hb⟩
theorem get_any {w : World} {v : Value} {xs : List UInt8} (hT : Tab w) (h : Bts w v xs) (hl : xs.length ≤ 1000000) : Calls Tryz.prog 123 #[v] w (Got w xs) := by
 have HV := Lib.hid h
 have HT := Lib.hid hT
 obtain ⟨A, c, rfl, hc, hx⟩ := h.opened
 have HX := Lib.hid hx
 clear h hT hx
 by_cases h4 : xs.length < 4
 ·have HE := Lib.hid (M.ge_short h4)
  go_enter Tryz.func123, Tryz.ntmps123
  go_wp2
  go_ret3
  exact Got.bad (k := 3) HE.out (by omega) rfl (Below.refl _ _)
 ·obtain ⟨b, o, rfl, hb, hy⟩ := HX.out (by omega)
  have hc0 := hy 0 (by omega)
  have hc1 := hy 1 (by omega)
  have hg : (xs.getD 0 0).toNat + 256 * (xs.getD 1 0).toNat = M.gn xs := rfl
  have hor := or_shift (xs.getD 0 0).toNat (xs.getD 1 0).toNat (M.byte_lt _) (M.byte_lt _)
  rw [hg] at hor
  have hb0 := M.byte_lt (xs.getD 0 0)
  have hb1 := M.byte_lt (xs.getD 1 0)
  have hn := M.gn_lt xs
  generalize (xs.getD 0 0).toNat = x0 at *
  generalize (xs.getD 1 0).toNat = x1 at *
  rw [Nat.add_zero] at hc0
  clear hy hg HX
  go_enter Tryz.func123, Tryz.ntmps123
  go_wp2
  go_quiet (fail)
  have HB := Lib.hid (show Below w.heap.size w (w.drewN nq) from below_drewN (Below.refl _ _) _)
  generalize w.drewN nq = w0 at *
  have HV0 := Lib.hid (HV.out.below HB.out)
  have HT0 := Lib.hid (HT.out.below HB.out)
  clear HV HT hc0 hc1 hor
  obtain ⟨n, hnn⟩ : ∃ n, n = M.gn xs := ⟨_, rfl⟩
  rw [← hnn] at hn ⊢
  have HN := Lib.hid hnn
  clear hnn
  go_wp2_with (fail)
  refine (size_any _ _).mono ?_
  rintro e w' ⟨rfl, rfl⟩
  by_cases hr : 1 ≤ n ∧ n ≤ 4096
  ·obtain ⟨hr1, hr2⟩ := hr
   have hz := M.size_yes (n := (n : Int)) (by omega)
   rw [hz]
   clear hz
   have q1 : ((n : Int) + 8 == 0) = false := by rw [beq_eq_false_iff_ne]; omega
   go_wp2_with (fail)
   refine (head_any n _ hn).mono ?_
   rintro e w1 ⟨v1, rfl, hv1, hb1⟩
   have HB1 := Lib.hid (below_on HB.out hb1)
   have HV1 := Lib.hid (HV0.out.below hb1)
   have HT1 := Lib.hid (HT0.out.below hb1)
   have HH := Lib.hid hv1
   clear hv1 hb1 HB HV0 HT0
   go_wp2_with (fail)
   refine (prefix_any HV1.out HH.out (M.head_len n) (by omega) hl).mono ?_
   rintro e w' ⟨rfl, rfl⟩
   have HD := Lib.hid (show M.hdB xs = M.sameB (xs.take 4) (M.head n) by rw [M.hdB, ← HN.out, decide_eq_true ⟨hr1, hr2⟩, Bool.true_and])
   cases hsb : M.sameB (xs.take 4) (M.head n) with
   | false =>
     rw [hsb] at HD
     clear hsb
     have HE := Lib.hid (M.ge_form h4 HD.out)
     go_wp2
     go_ret3
     exact Got.bad (k := 4) HE.out (by omega) rfl HB1.out
   | true =>
     rw [hsb] at HD
     clear hsb
     by_cases h8 : xs.length < n + 8
     ·have HE := Lib.hid (M.ge_long h4 HD.out (by rw [← HN.out]; exact h8))
      go_wp2
      go_ret3
      exact Got.bad (k := 3) HE.out (by omega) rfl HB1.out
     ·have hq : ¬ c = n + 4 := by omega
      have hcc : ¬ c = 4 := by omega
      have T1 := Lib.hid (HV1.out.take (n + 4) (by omega))
      have T2 := Lib.hid ((HV1.out.drop (n + 4) (by omega)).take 4 (by omega))
      go_wp2
      have TT := Lib.hid (HT1.out.below (Below.refl _ _).drew)
      have TB := Lib.hid (T1.out.below (Below.refl _ _).drew)
      have TE := Lib.hid (show (xs.take (n + 4)).length ≤ 1000000 by simp; omega)
      go_wp2
      have z1 : (4 + (n : Int)).toNat = n + 4 := by omega
      have z2 : ((n : Int) + 8).toNat = n + 8 := by omega
      have z3 : 0 ≤ 4 + (n : Int) := by omega
      have z4 : 4 + (n : Int) ≤ (n : Int) + 8 := by omega
      have z5 : (n : Int) + 8 ≤ (c : Int) := by omega
      have z6 : 4 + (n : Int) ≤ (c : Int) := by omega
      go_region_with (first
       | (go_at_call 99; refine (tail_any TT.out TB.out TE.out).mono ?_; rintro e w2 ⟨v2, rfl, hv2, hb2⟩
          have HV2 := Lib.hid hv2
          have HB2 := Lib.hid ((Below.refl _ w1).drew.trans hb2)
          clear hv2 hb2)
       | (go_at_call 101; refine (equal_any (T2.out.below HB2.out) HV2.out).mono ?_; rintro e w3 ⟨rfl, rfl⟩))
      all_goals
       clear z1 z2 z3 z4 z5 z6 hq
       have HS := Lib.hid (show M.smB xs = M.sameB ((xs.drop (n + 4)).take 4) (M.tail (M.crc (xs.take (n + 4)))) by rw [M.smB, ← HN.out])
       have HB3 := Lib.hid (below_on HB1.out (show Below w1.heap.size w1 w2 from HB2.out))
       have T3 := Lib.hid (((HV1.out.below HB2.out).drop 4 (by omega)).take n (by omega))
       clear HB2 HB1 HV2 T1 T2 TT TB TE HT1 HV1 HH
       cases hsb : M.sameB ((xs.drop (n + 4)).take 4) (M.tail (M.crc (xs.take (n + 4)))) with
       | false =>
         rw [hsb] at HS
         clear hsb
         have HE := Lib.hid (M.ge_sum h4 HD.out (by rw [← HN.out]; exact h8) HS.out)
         go_wp2
         go_ret3
         exact Got.bad (k := 6) HE.out (by omega) rfl HB3.out
       | true =>
         rw [hsb] at HS
         clear hsb
         have HE := Lib.hid (M.ge_ok h4 HD.out (by rw [← HN.out]; exact h8) HS.out)
         have HP := Lib.hid (show M.gp xs = (xs.drop 4).take n by rw [M.gp, if_pos HE.out, ← HN.out])
         have HG := Lib.hid (show M.gs xs = n + 8 by rw [M.gs, if_pos HE.out, ← HN.out])
         have z1 : (4 + (n : Int)).toNat = n + 4 := by omega
         have z3 : 4 ≤ 4 + (n : Int) := by omega
         have z6 : 4 + (n : Int) ≤ (c : Int) := by omega
         go_wp2_with (fail)
         refine (clone_any T3.out (by simp; omega) (by simp; omega)).mono ?_
         rintro e w4 ⟨v4, rfl, ho, hb4⟩
         have HB4 := Lib.hid (below_on HB3.out hb4)
         have hsz := HB3.out.size
         have HO := Lib.hid (show w4.ownsRow w.heap.size 5 1 v4 (M.gp xs).length ((M.gp xs).map enc8) from by rw [HP.out]; exact ownsRow_base ho hsz)
         clear z1 z3 z6 ho hb4 hsz T3 HB3
         go_wp2
         go_ret3
         exact ⟨v4, by rw [HG.out, HE.out]; rfl, fun _ => HO.out, fun h0 => absurd HE.out h0, HB4.out⟩
  ·have hz := M.size_no (n := (n : Int)) (by omega)
   rw [hz]
   have HE := Lib.hid (M.ge_form h4 (by rw [M.hdB, ← HN.out, decide_eq_false hr, Bool.false_and]))
   clear hz hr
   go_wp2
   go_ret3
   exact Got.bad (k := 4) HE.out (by omega) rfl HB.out
open Go.RowKit
namespace M
def frm (p : List UInt8) : List UInt8 := head p.length ++ p ++ tail (crc (head p.length ++ p))
theorem frm_len (p : List UInt8) : (frm p).length = p.length + 8 := by simp [frm, head_len, tail_len]; omega
end M
theorem append_next {w : World} {u : Value} {g k m r N : Nat} {pre new : List UInt8} (h : Blk w g (pre ++ List.replicate (m + r) 0)) (hu : Bts w u new) (hk : pre.length = k) (hm : new.length = m) (hN : N = k + (m + r)) :
 ∃ w', (Builtin.append_ #[22, 22] 22 #[.slice (some ⟨g, 0, none⟩) k N, u]).run Tryz.prog w = .ok (.slice (some ⟨g, 0, none⟩) (k + m) N) w' ∧ Blk w' g ((pre ++ new) ++ List.replicate r 0) ∧ w.grownBy w' (some g) := by
 obtain ⟨w', h1, h2, h3⟩ := append_in (k := k) h hu (by simp; omega)
 have e : (pre ++ List.replicate (m + r) (0 : UInt8)).length = N := by simp; omega
 rw [e, hm] at h1
 refine ⟨w', h1, ?_, h3⟩
 have e2 : (pre ++ List.replicate (m + r) (0 : UInt8)).take k ++ new ++ (pre ++ List.replicate (m + r) (0 : UInt8)).drop (k + new.length) = (pre ++ new) ++ List.replicate r 0 := by
  rw [← hk, List.take_left, List.drop_append, hm]
  simp
 rw [← e2]; exact h2
theorem mid_take (a m z : List UInt8) {k n : Nat} (hk : a.length = k) (hn : m.length = n) : m = ((a ++ m ++ z).drop k).take n := by
 rw [List.append_assoc, ← hk, List.drop_left, ← hn, List.take_left]
def PutOk (w : World) (bs ps : List UInt8) (e : Ending) (w' : World) : Prop :=
 e = .returned (.tuple #[.slice (some ⟨w.heap.size, 0, none⟩) (bs.length + (ps.length + 8)) (bs.length + (ps.length + 8)),.int .i64 0]) ∧ Blk w' w.heap.size (bs ++ M.frm ps) ∧ Below w.heap.size w w'
theorem put_ok {w : World} {v u : Value} {bs ps : List UInt8} (hT : Tab w) (h : Bts w v bs) (h' : Bts w u ps) (hl : bs.length ≤ 100000) (h1 : 1 ≤ ps.length) (h2 : ps.length ≤ 4096) : Calls Tryz.prog 70 #[v, u] w (PutOk w bs ps) := by
 obtain ⟨i0, hi, hz0, hz1, hz2⟩ := info_parts info5
 have hm := run_make (P := Tryz.prog) w 22 5 i0 (.int .u8 0) Tryz.underlying22 hi hz0 .i64 .i64 0 ((bs.length : Int) + ((ps.length : Int) + 8)) (by omega) (by omega) (by rw [hz2]; omega) (by omega)
 rw [hz1, show ((bs.length : Int) + ((ps.length : Int) + 8)).toNat = bs.length + (ps.length + 8) by omega] at hm
 have hB := Blk.made w (bs.length + (ps.length + 8))
 have nb := below_new (o := .cells (madeCells #[.int .u8 0] (bs.length + (ps.length + 8))) 5) (Below.refl w.heap.size w)
 obtain ⟨w1, hr1, hb1, hg1⟩ := append_next (pre := []) (k := 0) (m := bs.length) (r := ps.length + 8) (N := bs.length + (ps.length + 8)) (by simpa using hB) (h.below nb) rfl rfl (by omega)
 have B1 := Lib.hid (show Below w.heap.size w w1 from nb.grown hg1 (by simp) (fun k e => by cases e; exact Nat.le_refl _))
 have K1 := Lib.hid (show Blk w1 w.heap.size (bs ++ List.replicate (4 + (ps.length + 4)) 0) by rw [show 4 + (ps.length + 4) = ps.length + 8 by omega]; simpa using hb1)
 rw [Nat.zero_add] at hr1
 have HT := Lib.hid hT
 have HU := Lib.hid h'
 obtain ⟨A, c, rfl, hc, hx⟩ := h.opened
 obtain ⟨A', c', rfl, hc', hx'⟩ := h'.opened
 clear hx hx' h h' hT nb hb1 hg1 hB hi hz0 hz1 hz2
 simp only [Value.cells, Nat.mul_one, Int.toNat_zero] at hm
 have hz := M.size_yes (n := (ps.length : Int)) (by omega)
 obtain ⟨g, hg⟩ : ∃ g, g = w.heap.size := ⟨_, rfl⟩
 have HG := Lib.hid hg
 clear hg
 go_enter Tryz.func70, Tryz.ntmps70
 go_wp2_with (fail)
 refine (size_any _ _).mono ?_
 rintro e w' ⟨rfl, rfl⟩
 rw [hz]
 clear hz
 have q1 : ((ps.length : Int) + 8 == 0) = false := by rw [beq_eq_false_iff_ne]; omega
 go_wp2_with (at_builtin; refine Lib.wpList_append_run _ rfl _ _ _ _ rfl _ _ rfl rfl _ _ hr1 ?_)
 refine (head_any ps.length _ (by omega)).mono ?_
 rintro e w2 ⟨v2, rfl, hv2, hb2⟩
 obtain ⟨w3, hr3, hb3, hg3⟩ := append_next (k := bs.length) (m := 4) (r := ps.length + 4) (N := bs.length + (ps.length + 8)) (K1.out.below hb2) hv2 rfl rfl (by omega)
 have hB3 := (below_on B1.out hb2).grown hg3 (Nat.le_trans B1.out.size hb2.size) (fun k e => by cases e; exact Nat.le_refl _)
 obtain ⟨w4, hr4, hb4, hg4⟩ := append_next (pre := bs ++ M.head ps.length) (k := bs.length + 4) (m := ps.length) (r := 4) (N := bs.length + (ps.length + 8)) hb3 (HU.out.below hB3) (by simp [M.head_len]) rfl (by omega)
 have hB4 := hB3.grown hg4 hB3.size (fun k e => by cases e; exact Nat.le_refl _)
 have B4 := Lib.hid hB4
 have T4 := Lib.hid (HT.out.below hB4)
 have K4 := Lib.hid hb4
 have Q4 := Lib.hid (Blk.bts (o := bs.length) (n := ps.length + 4) (c := ps.length + 8) hb4 (xs := M.head ps.length ++ ps) (by have := mid_take bs (M.head ps.length ++ ps) (List.replicate 4 0) (k := bs.length) (n := ps.length + 4) rfl (by simp [M.head_len]; omega); rw [← List.append_assoc bs] at this; exact this) (by simp [M.head_len]) (by omega))
 clear hr1 hv2 hb2 hg3 hb3 K1 B1 q1 hB3 hB4 hb4 hg4 HU HT
 have z1 : ¬ bs.length + (ps.length + 8) = bs.length := by omega
 have z2 : bs.length + (ps.length + 8) - bs.length = ps.length + 8 := by omega
 have z3 : bs.length + 4 + ps.length - bs.length = ps.length + 4 := by omega
 go_wp2_with (first | (at_builtin; refine Lib.wpList_append_run _ rfl _ _ _ _ rfl _ _ rfl rfl _ _ hr3 ?_) | (at_builtin; refine Lib.wpList_append_run _ rfl _ _ _ _ rfl _ _ rfl rfl _ _ hr4 ?_))
 refine (tail_any T4.out Q4.out (by simp [M.head_len]; omega)).mono ?_
 rintro e w5 ⟨v5, rfl, hv5, hb5⟩
 obtain ⟨w6, hr6, hb6, hg6⟩ := append_next (k := bs.length + 4 + ps.length) (m := 4) (r := 0) (N := bs.length + (ps.length + 8)) (K4.out.below hb5) hv5 (by simp [M.head_len]; omega) rfl (by omega)
 have B5 := below_on B4.out hb5
 have B6 := Lib.hid (B5.grown hg6 B5.size (fun k e => by cases e; exact Nat.le_refl _))
 have K6 := Lib.hid (show Blk w6 w.heap.size (bs ++ M.frm ps) by simpa [M.frm] using hb6)
 clear z1 z2 z3 hr3 hr4 hv5 hb5 hb6 hg6 B4 B5 T4 K4 Q4
 have z1 : bs.length + 4 + ps.length + 4 = bs.length + (ps.length + 8) := by omega
 rw [z1] at hr6
 go_wp2_with (at_builtin; refine Lib.wpList_append_run _ rfl _ _ _ _ rfl _ _ rfl rfl _ _ hr6 ?_)
 go_ret2
 exact ⟨rfl, K6.out, B6.out⟩
open Go.RowKit
namespace M
def tl : Nat → Nat → List UInt8
 | 0, _ => []
 | j + 1, s => b8 s :: tl j (s / 256)
end M
open Go.RowKit
def DGot (w : World) (arg : Value) (xs : List UInt8) (e : Ending) (w' : World) : Prop :=
 ∃ v, e = .returned (.tuple #[v,.int .i64 (M.gs xs : Nat),.int .i64 (M.ge xs : Nat)]) ∧ (∀ W, Bts W arg xs → Bts W v (M.gp xs)) ∧ Below w.heap.size w w'
namespace M
theorem hd_doc {xs : List UInt8} (h : 4 ≤ xs.length) : hdB xs = true ↔ (xs.getD 0 0).toNat + (xs.getD 2 0).toNat = 255 ∧ (xs.getD 1 0).toNat + (xs.getD 3 0).toNat = 255 ∧ 1 ≤ gn xs ∧ gn xs ≤ 4096 := by
 rw [hd_iff]
 match xs, h with
 | a :: b :: c :: d :: r, _ =>
   have ha := byte_lt a
   have hb := byte_lt b
   have hc := byte_lt c
   have hd := byte_lt d
   simp only [gn, head, List.getD_cons_zero, List.getD_cons_succ, List.take_succ_cons, List.take_zero, List.cons.injEq, and_true, ← UInt8.toNat_inj, b8_nat]
   omega
theorem getD_take {xs : List UInt8} {k n : Nat} (h : k < n) : (xs.take n).getD k 0 = xs.getD k 0 := by
 rw [List.getD, List.getD, List.getElem?_take_of_lt h]
theorem sm_iff {xs : List UInt8} (h1 : hdB xs = true) (h2 : gn xs + 8 ≤ xs.length) : smB xs = true ↔ frm ((xs.drop 4).take (gn xs)) = xs.take (gn xs + 8) := by
 have h := (hd_iff.1 h1).2
 have hl : ((xs.drop 4).take (gn xs)).length = gn xs := by simp; omega
 have e4 : xs.take (gn xs + 4) = head (gn xs) ++ (xs.drop 4).take (gn xs) := by rw [Nat.add_comm, List.take_add, h]
 have e8 : xs.take (gn xs + 8) = head (gn xs) ++ (xs.drop 4).take (gn xs) ++ (xs.drop (gn xs + 4)).take 4 := by rw [show gn xs + 8 = (gn xs + 4) + 4 by omega, List.take_add, e4]
 rw [smB, sameB_iff, frm, hl, e8, e4]
 constructor
 ·intro e; rw [e]
 ·intro e; exact (List.append_cancel_left e).symm
end M
namespace M
def scan : Nat → List UInt8 → List (List UInt8) × Nat
 | 0, _ => ([], 0)
 | f + 1, xs => if ge xs = 0 then (gp xs :: (scan f (xs.drop (gs xs))).1, gs xs + (scan f (xs.drop (gs xs))).2) else ([], 0)
def sl (xs : List UInt8) : List (List UInt8) := (scan (xs.length + 1) xs).1
def st (xs : List UInt8) : Nat := (scan (xs.length + 1) xs).2
theorem scan_ok {f : Nat} {xs : List UInt8} (h : ge xs = 0) : scan (f + 1) xs = (gp xs :: (scan f (xs.drop (gs xs))).1, gs xs + (scan f (xs.drop (gs xs))).2) := by rw [scan, if_pos h]
theorem scan_no {f : Nat} {xs : List UInt8} (h : ge xs ≠ 0) : scan f xs = ([], 0) := by
 cases f with
 | zero => rfl
 | succ f => rw [scan, if_neg h]
theorem gs_ok {xs : List UInt8} (h : ge xs = 0) : gs xs = gn xs + 8 ∧ 1 ≤ gn xs ∧ gn xs ≤ 4096 ∧ gs xs ≤ xs.length := by
 obtain ⟨a, b, c, d⟩ := ge_ok_iff.1 h
 have h1 := (hd_iff.1 b).1
 have hg : gs xs = gn xs + 8 := by rw [gs, if_pos h]
 omega
theorem gp_ok {xs : List UInt8} (h : ge xs = 0) : (gp xs).length = gn xs := by
 have := gs_ok h
 rw [gp, if_pos h]; simp; omega
theorem scan_more : ∀ (f g : Nat) (xs : List UInt8), xs.length < f → xs.length < g → scan f xs = scan g xs
 | 0, _, _, h, _ => absurd h (by omega)
 | _ + 1, 0, _, _, h => absurd h (by omega)
 | f + 1, g + 1, xs, h1, h2 => by
   by_cases h : ge xs = 0
   ·have := gs_ok h
    rw [scan_ok h, scan_ok h, scan_more f g (xs.drop (gs xs)) (by simp; omega) (by simp; omega)]
   ·rw [scan_no h, scan_no h]
theorem sl_ok {xs : List UInt8} (h : ge xs = 0) : sl xs = gp xs :: sl (xs.drop (gs xs)) ∧ st xs = gs xs + st (xs.drop (gs xs)) := by
 have := gs_ok h
 unfold sl st
 rw [scan_ok h]
 rw [scan_more xs.length ((xs.drop (gs xs)).length + 1) (xs.drop (gs xs)) (by simp; omega) (by omega)]
 exact ⟨rfl, rfl⟩
theorem sl_no {xs : List UInt8} (h : ge xs ≠ 0) : sl xs = [] ∧ st xs = 0 := by
 unfold sl st
 rw [scan_no h]
 exact ⟨rfl, rfl⟩
theorem gn_head {n : Nat} (hn : n ≤ 65535) (r : List UInt8) : gn (head n ++ r) = n := by
 simp only [gn, head, List.cons_append, List.getD_cons_zero, List.getD_cons_succ, b8_nat]
 omega
theorem get_frm {p : List UInt8} (h1 : 1 ≤ p.length) (h2 : p.length ≤ 4096) (r : List UInt8) : ge (frm p ++ r) = 0 ∧ gp (frm p ++ r) = p ∧ gs (frm p ++ r) = p.length + 8 := by
 have hlen := frm_len p
 have hg : gn (frm p ++ r) = p.length := by rw [frm, List.append_assoc, List.append_assoc]; exact gn_head (by omega) _
 have ht : (frm p ++ r).take 4 = head p.length := by rw [frm, List.append_assoc, List.append_assoc, List.take_left' (head_len _)]
 have hh : hdB (frm p ++ r) = true := by rw [hd_iff, hg]; exact ⟨⟨h1, h2⟩, ht⟩
 have hp : ((frm p ++ r).drop 4).take (gn (frm p ++ r)) = p := by
  rw [hg, frm, List.append_assoc, List.append_assoc, List.drop_left' (head_len _), List.take_left]
 have hs : smB (frm p ++ r) = true := by
  rw [sm_iff hh (by rw [hg]; simp; omega), hp, hg, List.take_left' hlen]
 have he : ge (frm p ++ r) = 0 := ge_ok (by simp; omega) hh (by rw [hg]; simp; omega) hs
 exact ⟨he, by rw [gp, if_pos he]; exact hp, by rw [gs, if_pos he, hg]⟩
def frms : List (List UInt8) → List UInt8
 | [] => []
 | p :: l => frm p ++ frms l
theorem frms_append : ∀ (l m : List (List UInt8)), frms (l ++ m) = frms l ++ frms m
 | [], m => rfl
 | p :: l, m => by rw [List.cons_append, frms, frms, frms_append l m, List.append_assoc]
def Fits (l : List (List UInt8)) : Prop := ∀ p ∈ l, 1 ≤ p.length ∧ p.length ≤ 4096
theorem scan_row : ∀ (l : List (List UInt8)) (r : List UInt8), Fits l → sl (frms l ++ r) = l ++ sl r ∧ st (frms l ++ r) = (frms l).length + st r
 | [], r, _ => by simp [frms]
 | p :: l, r, h => by
   obtain ⟨h1, h2⟩ := h p (by simp)
   rw [frms, List.append_assoc]
   obtain ⟨e1, e2, e3⟩ := get_frm h1 h2 (frms l ++ r)
   obtain ⟨s1, s2⟩ := sl_ok e1
   have ed : (frm p ++ (frms l ++ r)).drop (gs (frm p ++ (frms l ++ r))) = frms l ++ r := by rw [e3]; exact List.drop_left' (frm_len p)
   rw [ed] at s1 s2
   obtain ⟨i1, i2⟩ := scan_row l r (fun q hq => h q (by simp [hq]))
   rw [s1, s2, e2, e3, i1, i2]
   simp [frm_len]; omega
end M
namespace M
def ahead : Nat → List (List UInt8) → Nat × Nat
 | _, [] => (0, 0)
 | k, p :: l => if p.length + 8 ≤ k then ((ahead (k - (p.length + 8)) l).1 + 1, (ahead (k - (p.length + 8)) l).2 + (p.length + 8)) else (0, 0)
theorem tail_inj {a b : Nat} (ha : a < 4294967296) (hb : b < 4294967296) (h : tail a = tail b) : a = b := by
 simp only [tail, List.cons.injEq, and_true, ← UInt8.toNat_inj, b8_nat] at h
 omega
theorem gn_take4 {xs ys : List UInt8} (h : xs.take 4 = ys.take 4) : gn xs = gn ys := by
 have e : ∀ (zs : List UInt8) (k : Nat), k < 4 → zs.getD k 0 = (zs.take 4).getD k 0 := fun zs k hk => (getD_take hk).symm
 rw [gn, gn, e xs 0 (by omega), e xs 1 (by omega), h, ← e ys 0 (by omega), ← e ys 1 (by omega)]
theorem frm_take4 (p : List UInt8) : (frm p).take 4 = head p.length := by rw [frm, List.append_assoc, List.take_left' (head_len _)]
theorem gn_frm {p : List UInt8} (h : p.length ≤ 65535) {xs : List UInt8} (hx : xs.take 4 = (frm p).take 4) : gn xs = p.length := by
 rw [gn_take4 (hx.trans (frm_take4 p)|>.trans (show head p.length = (head p.length ++ []).take 4 by rw [List.append_nil]; rfl))]
 exact gn_head h []
theorem head_sum (n : Nat) : ((head n).getD 0 0).toNat + ((head n).getD 2 0).toNat = 255 ∧ ((head n).getD 1 0).toNat + ((head n).getD 3 0).toNat = 255 := by
 simp only [head, List.getD_cons_zero, List.getD_cons_succ, b8_nat]
 omega
theorem getD_frm {p : List UInt8} {j : Nat} (hj : j < 4) : (frm p).getD j 0 = (head p.length).getD j 0 := by
 rw [← getD_take hj, frm_take4]
theorem getD_set_ne {xs : List UInt8} {k j : Nat} {y : UInt8} (h : j ≠ k) : (xs.set k y).getD j 0 = xs.getD j 0 := by
 rw [List.getD, List.getD, List.getElem?_set_ne (Ne.symm h)]
theorem getD_set_eq {xs : List UInt8} {k : Nat} {y : UInt8} (h : k < xs.length) : (xs.set k y).getD k 0 = y := by
 rw [List.getD, List.getElem?_set_self h]; rfl
theorem getD_left {xs ys : List UInt8} {j : Nat} (h : j < xs.length) : (xs ++ ys).getD j 0 = xs.getD j 0 := by
 rw [List.getD, List.getD, List.getElem?_append_left h]
theorem turned_frm {p r : List UInt8} {k : Nat} {y : UInt8} (h2 : p.length ≤ 4096) (hk : k < p.length + 8) (hy : (y.toNat : Nat) ≠ ((frm p).getD k 0).toNat) : ge ((frm p).set k y ++ r) ≠ 0 := by
 intro hz
 have hl := frm_len p
 obtain ⟨a, b, c, d⟩ := ge_ok_iff.1 hz
 by_cases hk4 : k < 4
 ·have hd := (hd_doc (by omega)).1 b
  have hs := head_sum p.length
  have e : ∀ j, j < 4 → j ≠ k → ((frm p).set k y ++ r).getD j 0 = (head p.length).getD j 0 := by
   intro j hj hne
   rw [getD_left (by simp; omega), getD_set_ne hne, getD_frm hj]
  have ek : ((frm p).set k y ++ r).getD k 0 = y := by rw [getD_left (by simp; omega)]; exact getD_set_eq (by omega)
  rw [getD_frm hk4] at hy
  have : k = 0 ∨ k = 1 ∨ k = 2 ∨ k = 3 := by omega
  rcases this with rfl | rfl | rfl | rfl
  ·rw [ek, e 1 (by omega) (by omega), e 2 (by omega) (by omega), e 3 (by omega) (by omega)] at hd; omega
  ·rw [ek, e 0 (by omega) (by omega), e 2 (by omega) (by omega), e 3 (by omega) (by omega)] at hd; omega
  ·rw [ek, e 0 (by omega) (by omega), e 1 (by omega) (by omega), e 3 (by omega) (by omega)] at hd; omega
  ·rw [ek, e 0 (by omega) (by omega), e 1 (by omega) (by omega), e 2 (by omega) (by omega)] at hd; omega
 ·have ht : ((frm p).set k y ++ r).take 4 = (frm p).take 4 := by
   rw [List.take_append_of_le_length (by simp; omega), List.take_set_of_le (by omega)]
  have hg := gn_frm (by omega) ht
  have hs := (sm_iff b (by omega)).1 d
  rw [hg] at hs
  have e8 : ((frm p).set k y ++ r).take (p.length + 8) = (frm p).set k y := List.take_left' (by simp; omega)
  rw [e8] at hs
  by_cases hk8 : k < p.length + 4
  ·have hset : (frm p).set k y = head p.length ++ p.set (k - 4) y ++ tail (crc (head p.length ++ p)) := by
    rw [frm, List.set_append_left _ _ (by simp [head_len]; omega), List.set_append_right _ _ (by simp [head_len]; omega), head_len]
   have hp : (((frm p).set k y ++ r).drop 4).take p.length = p.set (k - 4) y := by
    rw [hset, List.append_assoc, List.append_assoc, List.drop_left' (head_len _), List.take_left' (by simp)]
   rw [hp, hset, frm, List.length_set] at hs
   have ht2 := List.append_cancel_left hs
   have hc := tail_inj (crc_lt _) (crc_lt _) ht2
   have hkp : k - 4 < p.length := by omega
   have e1 : p = p.take (k - 4) ++ p[k - 4] :: p.drop (k - 4 + 1) := by simp
   have e2 : p.set (k - 4) y = p.take (k - 4) ++ y :: p.drop (k - 4 + 1) := by rw [List.set_eq_take_append_cons_drop, if_pos hkp]
   rw [e2] at hc
   have hc' : crc ((head p.length ++ p.take (k - 4)) ++ y :: p.drop (k - 4 + 1)) = crc ((head p.length ++ p.take (k - 4)) ++ p[k - 4] :: p.drop (k - 4 + 1)) := by
    rw [List.append_assoc, List.append_assoc, ← e1]; exact hc
   have hyy := crc_turned _ _ _ _ hc'
   apply hy
   rw [hyy, frm, List.append_assoc, List.getD, List.getElem?_append_right (by rw [head_len]; omega), head_len, List.getElem?_append_left hkp, List.getElem?_eq_getElem hkp]
   rfl
  ·have hp : (((frm p).set k y ++ r).drop 4).take p.length = p := by
    rw [frm, List.set_append_right _ _ (by simp [head_len]; omega), List.append_assoc, List.append_assoc, List.drop_left' (head_len _), List.take_left]
   rw [hp] at hs
   apply hy
   have := congrArg (fun z : List UInt8 => z.getD k 0) hs
   rw [getD_set_eq (by omega)] at this
   rw [this]
theorem cut_frm {p : List UInt8} {k : Nat} (h2 : p.length ≤ 4096) (hk : k < p.length + 8) : ge ((frm p).take k) ≠ 0 := by
 intro hz
 have hl := frm_len p
 obtain ⟨a, b, c, d⟩ := ge_ok_iff.1 hz
 have hlen : ((frm p).take k).length = k := by simp; omega
 have ht : ((frm p).take k).take 4 = (frm p).take 4 := by rw [List.take_take, Nat.min_eq_left (by omega)]
 have hg := gn_frm (by omega) ht
 omega
end M
open Go.RowKit
theorem info22 : (Tryz.prog.info? 22).map (fun i => (i.zero, i.size, i.bytes)) = some (some (.slice none 0 0), 1, 24) := by kernel_rfl
theorem own_keep {w w' : World} {base : Nat} {t : TypeId} {v : Value} {n : Nat} {xs : List Value} (h : w.ownsRow base t 1 v n xs) (hb : Below w.heap.size w w') : w'.ownsRow base t 1 v n xs :=
 h.kept (row := none) ⟨hb.os, hb.tape, hb.output, hb.size, fun i h _ => hb.block i h⟩ (by rcases h.2 with ⟨rfl, _⟩ | ⟨g, cap, cur, rfl, _⟩ <;> simp [Value.ownBlock])
theorem own_apart {w : World} {b b' : Nat} {t t' : TypeId} (ht : t ≠ t') {v u : Value} {n m : Nat} {xs ys : List Value} (h : w.ownsRow b t 1 v n xs) (h' : w.ownsRow b' t' 1 u m ys) : u.ownBlock = none ∨ u.ownBlock ≠ v.ownBlock := by
 rcases h'.2 with ⟨rfl, _⟩ | ⟨g, cap, cur, rfl, _, hg, _⟩
 ·exact .inl rfl
 ·right
  intro e
  rcases h.2 with ⟨rfl, _⟩ | ⟨g', cap', cur', rfl, _, hg', _⟩
  ·simp [Value.ownBlock] at e
  ·simp [Value.ownBlock] at e
   subst e
   rw [hg] at hg'
   simp at hg'
   exact ht hg'.2.symm
def Pays (w : World) (base : Nat) (vs : List Value) (ps : List (List UInt8)) : Prop :=
 vs.length = ps.length ∧ (∀ (i : Nat) (u : Value) (x : List UInt8), vs[i]? = some u → ps[i]? = some x → x ≠ [] ∧ w.ownsRow base 5 1 u x.length (x.map enc8)) ∧ (vs.map Value.ownBlock).Nodup
theorem Pays.nil (w : World) (base : Nat) : Pays w base [] [] := ⟨rfl, fun i u x h => by simp at h, by simp⟩
theorem Pays.keep {w w' : World} {base : Nat} {vs : List Value} {ps : List (List UInt8)} (h : Pays w base vs ps) (hb : Below w.heap.size w w') : Pays w' base vs ps :=
 ⟨h.1, fun i u x hu hx => ⟨(h.2.1 i u x hu hx).1, own_keep (h.2.1 i u x hu hx).2 hb⟩, h.2.2⟩
theorem Pays.grown {w w' : World} {base b : Nat} {vs : List Value} {ps : List (List UInt8)} {v : Value} {n : Nat} {xs : List Value} (h : Pays w base vs ps) (ho : w.ownsRow b 22 1 v n xs) (hg : w.grownBy w' v.ownBlock) : Pays w' base vs ps :=
 ⟨h.1, fun i u x hu hx => ⟨(h.2.1 i u x hu hx).1, (h.2.1 i u x hu hx).2.kept hg (own_apart (by decide) ho (h.2.1 i u x hu hx).2)⟩, h.2.2⟩
theorem own_some {w : World} {base : Nat} {t : TypeId} {v : Value} {n : Nat} {xs : List Value} (h : w.ownsRow base t 1 v n xs) (h0 : xs ≠ []) : ∃ g, v.ownBlock = some g ∧ base ≤ g ∧ g < w.heap.size := by
 rcases h.2 with ⟨rfl, e⟩ | ⟨g, cap, cur, rfl, hb, hg, _⟩
 ·have := h.1; rw [e] at this; simp at this; exact absurd this h0
 ·exact ⟨g, rfl, hb, (Array.getElem?_eq_some_iff.1 hg).1⟩
theorem Pays.snoc {w w1 : World} {base : Nat} {vs : List Value} {ps : List (List UInt8)} {u : Value} {x : List UInt8} (h : Pays w base vs ps) (hb : Below w.heap.size w w1) (hx : x ≠ []) (ho : w1.ownsRow w.heap.size 5 1 u x.length (x.map enc8)) (hbase : base ≤ w.heap.size) : Pays w1 base (vs ++ [u]) (ps ++ [x]) := by
 have hk := h.keep hb
 refine ⟨by simp [h.1], fun i u' x' hu hx' => ?_, ?_⟩
 ·by_cases hi : i < vs.length
  ·rw [List.getElem?_append_left hi] at hu
   rw [List.getElem?_append_left (by rw [← h.1]; exact hi)] at hx'
   exact hk.2.1 i u' x' hu hx'
  ·rw [List.getElem?_append_right (by omega)] at hu
   rw [List.getElem?_append_right (by rw [← h.1]; omega), ← h.1] at hx'
   have hz : i - vs.length = 0 := by
    have := (List.getElem?_eq_some_iff.1 hu).1; simp at this; omega
   rw [hz] at hu hx'
   simp at hu hx'
   subst hu hx'
   exact ⟨hx, ownsRow_base ho hbase⟩
 ·rw [List.map_append, List.nodup_append]
  refine ⟨h.2.2, by simp, ?_⟩
  intro a ha b hb'
  simp only [List.map_cons, List.map_nil, List.mem_cons, List.not_mem_nil, or_false] at hb'
  subst hb'
  obtain ⟨u', hu', rfl⟩ := List.mem_map.1 ha
  obtain ⟨i, hi, rfl⟩ := List.mem_iff_getElem.1 hu'
  have hi' : i < ps.length := by rw [← h.1]; exact hi
  have hp := h.2.1 i vs[i] ps[i] (List.getElem?_eq_getElem hi) (List.getElem?_eq_getElem hi')
  obtain ⟨g, e1, _, e2⟩ := own_some hp.2 (by simp; exact hp.1)
  obtain ⟨g', e3, e4, _⟩ := own_some ho (by simp; exact hx)
  rw [e1, e3]
  intro e
  injection e with e
  omega
theorem Pays.bts {w : World} {base : Nat} {vs : List Value} {ps : List (List UInt8)} (h : Pays w base vs ps) {i : Nat} {u : Value} {x : List UInt8} (hu : vs[i]? = some u) (hx : ps[i]? = some x) : Bts w u x := Row.of_owns (h.2.1 i u x hu hx).2
def Scanned (w : World) (xs : List UInt8) (e : Ending) (w' : World) : Prop :=
 ∃ v vs, e = .returned (.tuple #[v,.int .i64 (M.st xs : Nat)]) ∧ w'.ownsRow w.heap.size 22 1 v (M.sl xs).length vs ∧ Pays w' w.heap.size vs (M.sl xs) ∧ Below w.heap.size w w'
theorem one_row (w : World) (u : Value) : ∀ (j : Nat) (y : Value), [u][j]? = some y → (w.alloc (.cells #[u] 22)).cell? ((⟨w.heap.size, 0, none⟩ : Addr).add j) = some y := by
 intro j y hj
 have hj0 : j = 0 := by have := (List.getElem?_eq_some_iff.1 hj).1; simp at this; omega
 subst hj0
 simp at hj
 subst hj
 simp [Addr.add, go_sem]
theorem own_slice {w : World} {base : Nat} {t : TypeId} {v : Value} {n : Nat} {xs : List Value} (h : w.ownsRow base t 1 v n xs) : ∃ A c, v = .slice A n c := by
 rcases h.2 with ⟨rfl, rfl⟩ | ⟨g, cap, cur, rfl, _⟩
 ·exact ⟨none, 0, rfl⟩
 ·exact ⟨_, cap, rfl⟩
theorem scan_any {w : World} {b o n c : Nat} {xs : List UInt8} (hT : Tab w) (h : Bts w (.slice (some ⟨b, o, none⟩) n c) xs) (hl : n ≤ 100000) : Calls Tryz.prog 102 #[.slice (some ⟨b, o, none⟩) n c] w (Scanned w xs) := by
 obtain ⟨i0, hi, hz0, hz1, hz2⟩ := info_parts info22
 have HT := Lib.hid hT
 have HV := Lib.hid h
 have hn := h.len
 obtain ⟨hxn, hnc⟩ := hn
 have HXN := Lib.hid hxn
 clear hT h hxn
 go_enter Tryz.func102, Tryz.ntmps102
 go_wp2
 go_step3
 go_wp2
 go_step3
 go_wp2
 go_loopg [4, 5] (n + 1) (fun f v i wr => ∃ (t : Nat) (vs : List Value) (acc : List (List UInt8)), i = .int .i64 t ∧ t ≤ n ∧ n < t + f ∧ acc.length ≤ t ∧ wr.ownsRow w.heap.size 22 1 v acc.length vs ∧ Pays wr w.heap.size vs acc ∧ Below w.heap.size w wr ∧ acc ++ M.sl (xs.drop t) = M.sl xs ∧ t + M.st (xs.drop t) = M.st xs)
 case atStart => exact ⟨0, [], [], rfl, Nat.zero_le _, by omega, Nat.le_refl _, World.ownsRow_nil _ _ _ _, Pays.nil _ _, Below.refl _ _, by simp, by simp⟩
 case round =>
  obtain ⟨t, vs, acc, rfl, ht, hf, hla, hown, hpay, hbw, hsl, hst⟩ := hrel
  have HO := Lib.hid hown
  have HP := Lib.hid hpay
  have HB := Lib.hid hbw
  have HS := Lib.hid hsl
  have HE := Lib.hid hst
  have HV1 := Lib.hid ((HV.out.below hbw).drop t ht)
  have HT1 := Lib.hid (HT.out.below hbw)
  have hbs := hbw.size
  clear hown hpay hbw hsl hst
  by_cases hc : c = t
  ·have hnt : n = t := by omega
   subst hc hnt
   have hd : xs.drop n = [] := List.drop_of_length_le (by rw [HXN.out]; omega)
   have HN := Lib.hid (Bts.nil wr (some ⟨b, o, none⟩) 0)
   have hge : M.ge [] = 3 := by simp [M.ge]
   have hgs : M.gs [] = 0 := by simp [M.gs, hge]
   rw [hd] at HS HE
   rw [(M.sl_no (xs := []) (by omega)).1, List.append_nil] at HS
   rw [(M.sl_no (xs := []) (by omega)).2, Nat.add_zero] at HE
   have HG := Lib.hid (get_any HT1.out HN.out (by simp))
   clear hd HV1 HN
   have HGE := Lib.hid hge
   have HGS := Lib.hid hgs
   clear hge hgs
   go_wp2_with (fail)
   refine HG.out.mono ?_
   rintro e w1 ⟨u, rfl, _, hno, hb⟩
   have hv := hno (by rw [HGE.out]; omega)
   have HO1 := Lib.hid (own_keep HO.out hb)
   have HP1 := Lib.hid (HP.out.keep hb)
   have HB1 := Lib.hid (below_on HB.out hb)
   subst hv
   rw [HGE.out, HGS.out]
   clear hno hb HO HP HB HT1 HG HGE HGS
   go_wp2
   try rw [Exit.noGoto_ret]
   go_ret2
   exact ⟨_, vs, by rw [← HE.out]; rfl, by rw [← HS.out]; exact HO1.out, by rw [← HS.out]; exact HP1.out, HB1.out⟩
  ·have hge := @M.ge_ok_iff (xs.drop t)
   have HG := Lib.hid (get_any HT1.out HV1.out (by simp; have := HXN.out; omega))
   clear hge
   go_wp2_with (fail)
   refine HG.out.mono ?_
   rintro e w1 ⟨u, rfl, hok, hno, hb⟩
   by_cases h0 : M.ge (xs.drop t) = 0
   ·have ho := hok h0
    have hg := M.gs_ok h0
    have hgp := M.gp_ok h0
    have hsk := M.sl_ok h0
    rw [List.drop_drop] at hsk
    have hpn : M.gp (xs.drop t) ≠ [] := by intro e; rw [e] at hgp; simp at hgp; omega
    have hgl : t + M.gs (xs.drop t) ≤ n := by have := hg.2.2.2; simp at this; have := HXN.out; omega
    have HS1 := Lib.hid (show (acc ++ [M.gp (xs.drop t)]) ++ M.sl (xs.drop (t + M.gs (xs.drop t))) = M.sl xs by rw [List.append_assoc, List.singleton_append, ← hsk.1]; exact HS.out)
    have HE1 := Lib.hid (show t + M.gs (xs.drop t) + M.st (xs.drop (t + M.gs (xs.drop t))) = M.st xs by rw [Nat.add_assoc, ← hsk.2]; exact HE.out)
    have HP1 := Lib.hid (HP.out.snoc hb hpn ho hbs)
    have HO1 := Lib.hid (own_keep HO.out hb)
    have HB1 := Lib.hid (below_on HB.out hb)
    have h9 : 9 ≤ M.gs (xs.drop t) := by omega
    obtain ⟨A, cc, rfl⟩ := own_slice ho
    have hsz : w.heap.size ≤ w1.heap.size := Nat.le_trans hbs hb.size
    rw [h0]
    clear hok hno hb ho hg hgp hsk hpn h0 HO HP HB HS HE HV1 HT1 HG
    generalize M.gs (xs.drop t) = z at *
    generalize M.gp (xs.drop t) = p at *
    go_wp2_with (at_builtin; refine wpList_append_own _ rfl _ _ 91 rfl w.heap.size 22 i0 (.slice none 0 0) 1 24 Tryz.underlying91 hi hz0 hz1 hz2 rfl (by decide) _ _ _ rfl (HO1.out.alloc _) ⟨w1.heap.size, 0, none⟩ 1 1 [.slice A p.length cc] rfl rfl (one_row _ _) (by intro y hy; simp at hy; subst hy; rfl) (by unfold maxLen; omega) (by omega) (by simp; omega) ?_; intro v' w2 hown' hgrow hnil)
    go_roundg (gk - 1)
    case measure => omega
    case rel =>
     refine ⟨t + z, vs ++ [.slice A p.length cc], acc ++ [p], by go_num, hgl, by omega, by simp; omega, by simpa using hown', ?_, ?_, HS1.out, HE1.out⟩
     ·exact (HP1.out.keep (below_new (Below.refl _ _))).grown (HO1.out.alloc _) hgrow
     ·exact (below_new HB1.out).grown hgrow (by simp; omega) (fun k hk => (HO1.out.lt k hk).1)
   ·have hz : M.gs (xs.drop t) = 0 := by rw [M.gs, if_neg h0]
    have hv := hno h0
    have HO1 := Lib.hid (own_keep HO.out hb)
    have HP1 := Lib.hid (HP.out.keep hb)
    have HB1 := Lib.hid (below_on HB.out hb)
    rw [(M.sl_no h0).1, List.append_nil] at HS
    rw [(M.sl_no h0).2, Nat.add_zero] at HE
    subst hv
    rw [hz]
    clear hok hno hb hz HO HP HB HV1 HT1 HG
    generalize M.ge (xs.drop t) = z at *
    have q1 : ((z : Int) == 0) = false := by rw [beq_eq_false_iff_ne]; omega
    go_wp2
    try rw [Exit.noGoto_ret]
    go_ret2
    exact ⟨_, vs, by rw [← HE.out]; rfl, by rw [← HS.out]; exact HO1.out, by rw [← HS.out]; exact HP1.out, HB1.out⟩
open Go.RowKit
def Reads (w : World) (vs : List Value) (ps : List (List UInt8)) : Prop := vs.length = ps.length ∧ ∀ (i : Nat) (u : Value) (x : List UInt8), vs[i]? = some u → ps[i]? = some x → Bts w u x
def DScanned (w : World) (xs : List UInt8) (e : Ending) (w' : World) : Prop :=
 ∃ v vs, e = .returned (.tuple #[v,.int .i64 (M.st xs : Nat)]) ∧ w'.ownsRow w.heap.size 22 1 v (M.sl xs).length vs ∧ Reads w vs (M.sl xs) ∧ Below w.heap.size w w'
end Go.Proofs.YtdachohcjpjblaaGreatDoor.Fr
