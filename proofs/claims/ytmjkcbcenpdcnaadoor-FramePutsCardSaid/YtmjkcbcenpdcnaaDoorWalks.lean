/- Bytes in memory, and the contract of frame.Sum in a world in which the table of sixteen reads as the text lays it; no conditions but the lengths that they name. -/
import Derived.Test.YtmjkcbcenpdcnaaDoorRows
import Derived.Test.YtmjkcbcenpdcnaaDoorMath
import Derived.WalkKit
import Derived.WalkSpells
import Derived.Lib.Hide
import Derived.Lib.OthersKept
import Derived.BigCall
import Derived.BigQuiet
import Derived.Deep.QuietTactic
import Derived.Laws.AppendOwn
namespace Go.Proofs.YtmjkcbcenpdcnaaDoor
open Go.RowKit

theorem ret_int {k : IntKind} {a b : Int} (h : a = b) : Ending.returned (.int k a) = .returned (.int k b) := by rw [h]
theorem ret_bool {a b : Bool} (h : a = b) : Ending.returned (.bool a) = .returned (.bool b) := by rw [h]
/-- One stretch behind another. -/
theorem below_on {a b c : World} (h : Below a.heap.size a b) (k : Below b.heap.size b c) : Below a.heap.size a c := h.trans (k.mono h.size)
/-- A new block. -/
theorem below_new {a b : World} {o : Obj} (h : Below a.heap.size a b) : Below a.heap.size a (b.alloc o) := h.alloc h.size _

/-- A slice that reads as a list. -/
def Row (w : World) (v : Value) (xs : List Value) : Prop := ∃ (A : Option Addr) (c : Nat), v = .slice A xs.length c ∧ xs.length ≤ c ∧ (0 < xs.length → ∃ b o, A = some ⟨b, o, none⟩ ∧ b < w.heap.size ∧ ∀ k x, xs[k]? = some x → w.cell? ⟨b, o + k, none⟩ = some x)
theorem Row.of_owns {w : World} {base : Nat} {t : TypeId} {v : Value} {n : Nat} {xs : List Value} (h : w.ownsRow base t 1 v n xs) : Row w v xs := by
  obtain ⟨hl, h2⟩ := h
  rw [Nat.mul_one] at hl
  rcases h2 with ⟨rfl, rfl⟩ | ⟨g, cap, cur, rfl, hb, hg, hn, hm, hs, ht⟩
  · exact ⟨none, 0, by rw [hl], by omega, fun h => absurd h (by omega)⟩
  · refine ⟨some ⟨g, 0, none⟩, cap, by rw [hl], by omega, fun _ => ⟨g, 0, rfl, (Array.getElem?_eq_some_iff.1 hg).1, fun k x hx => ?_⟩⟩
    have hk : k < xs.length := (List.getElem?_eq_some_iff.1 hx).1
    have h1 : (cur.toList.take (n * 1))[k]? = some x := by rw [ht]; exact hx
    rw [List.getElem?_take_of_lt (by omega), Array.getElem?_toList] at h1
    simp only [World.cell?, hg, Nat.zero_add, Option.isSome_none, Bool.false_eq_true, if_false]
    exact h1
theorem Row.below {w w' : World} {v : Value} {xs : List Value} (h : Row w v xs) (hb : Below w.heap.size w w') : Row w' v xs := by
  obtain ⟨A, c, e, hl, hc⟩ := h
  refine ⟨A, c, e, hl, fun h0 => ?_⟩
  obtain ⟨b, o, e1, hlt, hx⟩ := hc h0
  exact ⟨b, o, e1, Nat.lt_of_lt_of_le hlt hb.size, fun k x hk => (hb.cell hlt).trans (hx k x hk)⟩

/-- A byte as a value. -/
def enc8 (x : UInt8) : Value := .int .u8 (x.toNat : Int)
/-- A slice of bytes. -/
def Bts (w : World) (v : Value) (xs : List UInt8) : Prop := Row w v (xs.map enc8)
theorem Bts.below {w w' : World} {v : Value} {xs : List UInt8} (h : Bts w v xs) (hb : Below w.heap.size w w') : Bts w' v xs := Row.below h hb
theorem Bts.opened {w : World} {v : Value} {xs : List UInt8} (h : Bts w v xs) : ∃ (A : Option Addr) (c : Nat), v = .slice A xs.length c ∧ xs.length ≤ c ∧ (0 < xs.length → ∃ b o, A = some ⟨b, o, none⟩ ∧ b < w.heap.size ∧
    ∀ k, k < xs.length → w.cell? ⟨b, o + k, none⟩ = some (.int .u8 ((xs.getD k 0).toNat : Int))) := by
  obtain ⟨A, c, e, hl, hc⟩ := h
  rw [List.length_map] at e hl hc
  refine ⟨A, c, e, hl, fun h0 => ?_⟩
  obtain ⟨b, o, e1, hlt, hx⟩ := hc h0
  refine ⟨b, o, e1, hlt, fun k hk => hx k _ ?_⟩
  rw [List.getElem?_map, List.getElem?_eq_getElem hk, List.getD, List.getElem?_eq_getElem hk]; rfl

/-- The table of sixteen, cell by cell. -/
def Tab (w : World) : Prop := 0 < w.heap.size ∧ ∀ k, k < 16 → w.cell? ⟨0, k, none⟩ = some (.int .u32 (M.tb k : Nat))
theorem Tab.below {w w' : World} (h : Tab w) (hb : Below w.heap.size w w') : Tab w' :=
  ⟨Nat.lt_of_lt_of_le h.1 hb.size, fun k hk => (hb.cell (p := ⟨0, k, none⟩) h.1).trans (h.2 k hk)⟩

theorem take_snoc (xs : List UInt8) (k : Nat) (h : k < xs.length) : xs.take (k + 1) = xs.take k ++ [xs.getD k 0] := by
  rw [List.take_add_one, List.getElem?_eq_getElem h, List.getD, List.getElem?_eq_getElem h]; rfl

theorem wrap32 (n : Int) : IntKind.u32.wrap n = n % 4294967296 := by
  simp [IntKind.wrap, IntKind.bits, IntKind.signed]
theorem xor32 (a b : Nat) (ha : a < 4294967296) (hb : b < 4294967296) : bits .xor .u32 (a : Int) (b : Int) = ((a ^^^ b : Nat) : Int) := by
  have e : bits .xor .u32 (a : Int) (b : Int) = IntKind.u32.wrap ((BitVec.ofInt 32 (a : Int) ^^^ BitVec.ofInt 32 (b : Int)).toNat : Int) := rfl
  have h := M.xor_lt ha hb
  rw [e, wrap32, BitVec.toNat_xor, BitVec.ofInt_natCast, BitVec.ofInt_natCast, BitVec.toNat_ofNat, BitVec.toNat_ofNat, Nat.mod_eq_of_lt (by omega), Nat.mod_eq_of_lt (by omega)]
  omega
theorem xor32' (a b : Nat) (ha : a < 4294967296) (hb : b < 4294967296) : bits .xor .u32 ((a : Int) / 16) (b : Int) = ((a / 16 ^^^ b : Nat) : Int) := by
  have h := xor32 (a / 16) b (by omega) hb
  rw [Int.natCast_ediv] at h
  exact h
theorem and15 (a : Nat) (ha : a < 4294967296) : bits .and .u32 (a : Int) 15 = ((a % 16 : Nat) : Int) := by
  have e : bits .and .u32 (a : Int) 15 = IntKind.u32.wrap ((BitVec.ofInt 32 (a : Int) &&& BitVec.ofInt 32 ((15 : Nat) : Int)).toNat : Int) := rfl
  rw [e, wrap32, BitVec.toNat_and, BitVec.ofInt_natCast, BitVec.ofInt_natCast, BitVec.toNat_ofNat, BitVec.toNat_ofNat, Nat.mod_eq_of_lt (by omega)]
  rw [show (15 % 2 ^ 32 : Nat) = 2 ^ 4 - 1 by rfl, Nat.and_two_pow_sub_one_eq_mod]
  omega
theorem not32 (a : Nat) (ha : a < 4294967296) : bits .xor .u32 IntKind.u32.max (a : Int) = ((4294967295 - a : Nat) : Int) := by
  have e : bits .xor .u32 IntKind.u32.max (a : Int) = IntKind.u32.wrap ((BitVec.allOnes 32 ^^^ BitVec.ofInt 32 (a : Int)).toNat : Int) := rfl
  rw [e, wrap32, BitVec.allOnes_xor, BitVec.toNat_not, BitVec.ofInt_natCast, BitVec.toNat_ofNat, Nat.mod_eq_of_lt (by omega)]
  omega
theorem wrap8 (n : Int) : IntKind.u8.wrap n = n % 256 := by
  simp [IntKind.wrap, IntKind.bits, IntKind.signed]
theorem not8 (a : Nat) (ha : a < 256) : bits .xor .u8 IntKind.u8.max (a : Int) = ((255 - a : Nat) : Int) := by
  have e : bits .xor .u8 IntKind.u8.max (a : Int) = IntKind.u8.wrap ((BitVec.allOnes 8 ^^^ BitVec.ofInt 8 (a : Int)).toNat : Int) := rfl
  rw [e, wrap8, BitVec.allOnes_xor, BitVec.toNat_not, BitVec.ofInt_natCast, BitVec.toNat_ofNat, Nat.mod_eq_of_lt (by omega)]
  omega

set_option maxHeartbeats 1000000 in
set_option maxRecDepth 100000 in
theorem sum_any {w : World} {v : Value} {xs : List UInt8} (hT : Tab w) (h : Bts w v xs) (hl : xs.length ≤ 1000000) : Calls Tryd.prog 11 #[v] w fun e w' => e = .returned (.int .u32 (M.crc xs : Nat)) ∧ w = w' := by
  obtain ⟨A, c, rfl, hc, hx⟩ := h.opened
  have HX := Lib.hid hx
  have HT := Lib.hid hT
  clear hx hT h
  go_enter Tryd.func11, Tryd.ntmps11
  go_wp2
  go_loop [3, 8] (fun s i => ∃ k : Nat, k ≤ xs.length ∧ i = .int .i64 k ∧ s = .int .u32 (M.crcFrom 4294967295 (xs.take k) : Nat)) (fun _ i => xs.length - (intOf i).toNat)
  case atStart => exact ⟨0, Nat.zero_le _, rfl, rfl⟩
  case round =>
    obtain ⟨k, hk, rfl, rfl⟩ := hrel
    have hn := M.crcFrom_lt (xs.take k) 4294967295 (by omega)
    by_cases hlt : k < xs.length
    · obtain ⟨b, o, rfl, hb, hy⟩ := HX.out (by omega)
      have hcell := hy k hlt
      have HS := Lib.hid (show M.crcFrom 4294967295 (xs.take (k + 1)) = M.bt (M.crcFrom 4294967295 (xs.take k)) (xs.getD k 0).toNat by rw [take_snoc xs k hlt, M.crcFrom_append]; rfl)
      have hxb := M.byte_lt (xs.getD k 0)
      obtain ⟨x, hxx⟩ : ∃ x, x = (xs.getD k 0).toNat := ⟨_, rfl⟩
      rw [← hxx] at hcell HS hxb
      clear hy hxx
      generalize M.crcFrom 4294967295 (xs.take k) = n at *
      unfold M.bt at HS
      have e1 := xor32 n x hn (by omega)
      have hm := M.xor_lt hn (show x < 4294967296 by omega)
      generalize n ^^^ x = m at *
      rw [M.S4_eq m] at HS
      have e2 := and15 m hm
      have c1 := HT.out.2 (m % 16) (by omega)
      have g1 : m % 16 < 16 := by omega
      have e3 := xor32' m (M.tb (m % 16)) hm (M.tb_lt _)
      have hm' := M.xor_lt (show m / 16 < 4294967296 by omega) (M.tb_lt (m % 16))
      generalize M.tb (m % 16) = t at *
      generalize m % 16 = r at *
      generalize m / 16 ^^^ t = q at *
      rw [M.S4_eq q] at HS
      have e4 := and15 q hm'
      have c2 := HT.out.2 (q % 16) (by omega)
      have g2 : q % 16 < 16 := by omega
      have e5 := xor32' q (M.tb (q % 16)) hm' (M.tb_lt _)
      generalize M.tb (q % 16) = t' at *
      generalize q % 16 = r' at *
      generalize q / 16 ^^^ t' = q' at *
      go_wp2
      go_round
      case rel => exact ⟨k + 1, by omega, by go_num, by rw [HS.out]⟩
      case measure => simp [intOf]; omega
    · go_wp2
      go_ret
      refine ⟨ret_int ?_, rfl⟩
      rw [List.take_of_length_le (by omega)]
      exact not32 _ (M.crcFrom_lt xs _ (by omega))
end Go.Proofs.YtmjkcbcenpdcnaaDoor
