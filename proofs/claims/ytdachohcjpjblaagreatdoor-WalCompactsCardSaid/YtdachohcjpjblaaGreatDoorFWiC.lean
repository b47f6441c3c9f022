/- Bytes of commands and records: contracts of the program's functions that put them; no conditions but those that they name. -/
import Derived.Test.YtdachohcjpjblaaGreatDoorFWiB
import Derived.OwnWalk
import Derived.Maps.AppendAt
import Derived.Maps.Range
import Derived.Deep.LoopGhost
import Derived.Lib.AppendStr
import Derived.Deep.MidRow
set_option maxHeartbeats 8000000
set_option maxRecDepth 100000
namespace Go.Proofs.YtdachohcjpjblaaGreatDoor.Wi
open Go.RowKit
namespace M
def numF : Nat → Nat → List UInt8
 | 0, n => [UInt8.ofNat n]
 | f + 1, n => if n < 128 then [UInt8.ofNat n] else UInt8.ofNat (n % 128 + 128) :: numF f (n / 128)
def num (n : Nat) : List UInt8 := numF 6 n
def nums (l : List Nat) : List UInt8 := l.flatMap num
theorem numF_small {f n : Nat} (h : n < 128) : numF f n = [UInt8.ofNat n] := by
 cases f <;> simp [numF, h]
theorem numF_step {f n : Nat} (h : 128 ≤ n) : numF (f + 1) n = UInt8.ofNat (n % 128 + 128) :: numF f (n / 128) := by
 rw [numF, if_neg (by omega)]
theorem numF_len : ∀ (f n : Nat), 1 ≤ (numF f n).length ∧ (numF f n).length ≤ f + 1
 | 0, n => by simp [numF]
 | f + 1, n => by
   unfold numF
   split
   ·simp
   ·have := numF_len f (n / 128); simp; omega
theorem num_len (n : Nat) : 1 ≤ (num n).length ∧ (num n).length ≤ 7 := numF_len 6 n
theorem nums_cons (n : Nat) (l : List Nat) : nums (n :: l) = num n ++ nums l := rfl
theorem nums_append (l m : List Nat) : nums (l ++ m) = nums l ++ nums m := List.flatMap_append
theorem nums_len (l : List Nat) : (nums l).length ≤ l.length * 7 := by
 induction l with
 | nil => simp [nums]
 | cons n l ih => rw [nums_cons, List.length_append, List.length_cons]; have := num_len n; omega
theorem nums_take {l : List Nat} {k : Nat} (h : k < l.length) : nums (l.take (k + 1)) = nums (l.take k) ++ num (l.getD k 0) := by
 rw [List.take_add_one, List.getElem?_eq_getElem h, nums_append, List.getD, List.getElem?_eq_getElem h]
 simp [nums]
end M
def enc8 (x : UInt8) : Value := .int .u8 (x.toNat : Int)
def Bts (w : World) (v : Value) (xs : List UInt8) : Prop := Row w v (xs.map enc8)
theorem Bts.below {w w' : World} {v : Value} {xs : List UInt8} (h : Bts w v xs) (hb : Below w.heap.size w w') : Bts w' v xs := Row.below h hb
theorem Bts.opened {w : World} {v : Value} {xs : List UInt8} (h : Bts w v xs) : ∃ (A : Option Addr) (c : Nat), v = .slice A xs.length c ∧ xs.length ≤ c ∧ (0 < xs.length → ∃ b o, A = some ⟨b, o, none⟩ ∧ b < w.heap.size ∧
 ∀ k, k < xs.length → w.cell? ⟨b, o + k, none⟩ = some (.int .u8 ((xs.getD k 0).toNat : Int))) := by
 obtain ⟨A, c, e, hl, hc⟩ := h
 rw [List.length_map] at e hl hc
 refine ⟨A, c, e, hl, fun h0 => ?_⟩
 obtain ⟨b, o, e1, hlt, hx⟩ := hc h0
 refine ⟨b, o, e1, hlt, fun k hk => hx k _ ?_⟩
 rw [List.getElem?_map, List.getElem?_eq_getElem hk, List.getD, List.getElem?_eq_getElem hk]; rfl
theorem info5 : (Tryz.prog.info? 5).map (fun i => (i.zero, i.size, i.bytes)) = some (some (.int .u8 0), 1, 1) := by kernel_rfl
theorem one_enc (xs : List UInt8) : ∀ u ∈ xs.map enc8, u.oneCell' = true := by
 intro u hu
 rw [List.mem_map] at hu
 obtain ⟨x, _, rfl⟩ := hu
 rfl
theorem add_plain' (b o k : Nat) : (⟨b, o, none⟩ : Addr).add k = ⟨b, o + k, none⟩ := Addr.add_lit ..
theorem byte_of (n : Nat) (h : n < 256) : enc8 (UInt8.ofNat n) = .int .u8 (n : Int) := by
 unfold enc8; congr 1; simp; omega
def Own (w : World) (base : Nat) (v : Value) (xs : List UInt8) : Prop := w.ownsRow base 5 1 v xs.length (xs.map enc8)
theorem Own.nil (w : World) (base : Nat) : Own w base (.slice none 0 0) [] := World.ownsRow_nil _ _ _ _
theorem Own.bts {w : World} {base : Nat} {v : Value} {xs : List UInt8} (h : Own w base v xs) : Bts w v xs := Row.of_owns h
theorem Own.lt {w : World} {base : Nat} {v : Value} {xs : List UInt8} (h : Own w base v xs) {k : Nat} (e : v.ownBlock = some k) : base ≤ k ∧ k < w.heap.size := World.ownsRow.lt h k e
theorem Own.alloc {w : World} {base : Nat} {v : Value} {xs : List UInt8} (h : Own w base v xs) (o : Obj) : Own (w.alloc o) base v xs := World.ownsRow.alloc h o
theorem Own.base {w : World} {base base' : Nat} {v : Value} {xs : List UInt8} (h : Own w base v xs) (hb : base' ≤ base) : Own w base' v xs := ownsRow_base h hb
theorem Own.slice {w : World} {base : Nat} {v : Value} {xs : List UInt8} (h : Own w base v xs) : ∃ A c, v = .slice A xs.length c ∧ xs.length ≤ c := by
 rcases h.2 with ⟨rfl, e⟩ | ⟨g, cap, cur, rfl, _, _, hn, _⟩
 ·exact ⟨none, 0, by rw [e], by omega⟩
 ·exact ⟨_, _, rfl, hn⟩
structure Ext (w w' : World) (v v' : Value) : Prop where
 grow : w.grownBy w' v.ownBlock
 at' : v'.ownBlock = v.ownBlock ∨ ∃ g, v'.ownBlock = some g ∧ w.heap.size ≤ g
theorem Ext.refl (w : World) (v : Value) : Ext w w v v := ⟨World.grownBy.refl _ _, .inl rfl⟩
theorem Ext.trans {a b c : World} {u v x : Value} (h : Ext a b u v) (k : Ext b c v x) : Ext a c u x := by
 refine ⟨h.grow.andThen k.grow (fun j hj => ?_), ?_⟩
 ·rcases h.at' with e | ⟨g, e, hg⟩
  ·exact .inr (by rw [← e, hj])
  ·rw [hj] at e; cases e; exact .inl hg
 ·rcases k.at' with e | ⟨g, e, hg⟩
  ·rcases h.at' with e' | ⟨g, e', hg⟩
   ·exact .inl (e.trans e')
   ·exact .inr ⟨g, e.trans e', hg⟩
  ·exact .inr ⟨g, e, Nat.le_trans h.grow.size hg⟩
theorem Ext.alloc {w w' : World} {v v' : Value} (h : Ext w w' v v') (o : Obj) : Ext w (w'.alloc o) v v' := h.trans ⟨World.grownBy_alloc _ _ _, .inl rfl⟩
theorem Ext.made {w w' : World} {v v' : Value} (h1 : w.grownBy w' v.ownBlock) (h2 : v'.ownBlock = v.ownBlock ∨ v'.ownBlock = some w.heap.size) : Ext w w' v v' :=
 ⟨h1, h2.imp id (fun e => ⟨_, e, Nat.le_refl _⟩)⟩
def Off (v : Value) (g : Nat) : Prop := v.ownBlock ≠ some g
theorem Ext.off {w w' : World} {v v' : Value} {g : Nat} (h : Ext w w' v v') (hg : g < w.heap.size) (k : Off v g) : Off v' g := by
 intro e
 rcases h.at' with e' | ⟨j, e', hj⟩
 ·exact k (by rw [← e', e])
 ·rw [e] at e'; cases e'; omega
theorem Ext.below {w0 w w' : World} {base : Nat} {v v' : Value} (h : Ext w w' v v') (hb : Below base w0 w) (hw : base ≤ w.heap.size) (hv : ∀ k, v.ownBlock = some k → base ≤ k) : Below base w0 w' :=
 ⟨h.grow.os.trans hb.os, h.grow.tape.trans hb.tape, h.grow.output.trans hb.output, Nat.le_trans hb.size h.grow.size, fun k hk => (h.grow.block k (by omega) (fun e => by have := hv k e.symm; omega)).trans (hb.block k hk)⟩
theorem Own.off {w : World} {base g : Nat} {v : Value} {xs : List UInt8} (h : Own w base v xs) (hg : w.heap.size ≤ g) : Off v g := fun e => by have := (h.lt e).2; omega
def Put (w : World) (base : Nat) (v : Value) (ys : List UInt8) (e : Ending) (w' : World) : Prop := ∃ v', e = .returned v' ∧ Own w' base v' ys ∧ Ext w w' v v'
def Ints (w : World) (u : Value) (b : Nat) (ns : List Nat) : Prop := ∃ o c, u = .slice (some ⟨b, o, none⟩) ns.length c ∧ ns.length ≤ c ∧ b < w.heap.size ∧ ∀ k, k < ns.length → w.cell? ⟨b, o + k, none⟩ = some (.int .i64 (ns.getD k 0 : Nat))
theorem wrap8 (n : Int) : IntKind.u8.wrap n = n % 256 := by
 simp [IntKind.wrap, IntKind.bits, IntKind.signed]
theorem or128 (a : Nat) (ha : a < 256) : bits .or .u8 128 (a : Int) = ((a % 128 + 128 : Nat) : Int) := by
 have e : bits .or .u8 128 (a : Int) = IntKind.u8.wrap ((BitVec.ofInt 8 ((128 : Nat) : Int) ||| BitVec.ofInt 8 (a : Int)).toNat : Int) := rfl
 rw [e, wrap8, BitVec.toNat_or, BitVec.ofInt_natCast, BitVec.ofInt_natCast, BitVec.toNat_ofNat, BitVec.toNat_ofNat, Nat.mod_eq_of_lt (by omega : a < 2 ^ 8)]
 have h : ∀ a : Fin 256, (128 % 2 ^ 8 ||| a.val) = a.val % 128 + 128 := by decide
 have := h ⟨a, ha⟩
 simp only at this
 rw [this]
 omega
open Go.RowKit
theorem enc_snoc (xs : List UInt8) (n : Nat) (h : n < 256) : (xs ++ [UInt8.ofNat n]).map enc8 = xs.map enc8 ++ [.int .u8 (n : Int)] := by
 rw [List.map_append, List.map_cons, List.map_nil, byte_of n h]
theorem Own.snoc {w : World} {base : Nat} {v : Value} {xs : List UInt8} {n : Nat} (hn : n < 256) (h : w.ownsRow base 5 1 v (xs.length + 1) (xs.map enc8 ++ [.int .u8 (n : Int)])) : Own w base v (xs ++ [UInt8.ofNat n]) := by
 unfold Own; rw [enc_snoc xs n hn, List.length_append]; exact h
theorem putNumbers_any {w : World} {base b : Nat} {v u : Value} {xs : List UInt8} {ns : List Nat} (hown : Own w base v xs) (hbase : base ≤ w.heap.size) (hu : Ints w u b ns) (hoff : Off v b) (hn : ∀ n ∈ ns, n < 128 ^ 7) (hl : xs.length ≤ 100000) (hl' : ns.length ≤ 1000) :
 Calls Tryz.prog 143 #[v, u] w (Put w base v (xs ++ M.nums ns)) := by
 obtain ⟨i0, hi, hz0, hz1, hz2⟩ := info_parts info5
 obtain ⟨o, c, rfl, hc, hb, hx⟩ := hu
 have HX := Lib.hid hx
 have HN := Lib.hid hn
 have HO := Lib.hid hown
 have HF := Lib.hid hoff
 have hll := M.nums_len ns
 obtain ⟨A0, c0, hv0, -⟩ := hown.slice
 have HV := Lib.hid hv0
 clear hx hn hown hoff hv0
 go_enter Tryz.func143, Tryz.ntmps143
 go_wp2
 go_loopw [0, 9] (fun y i wr => ∃ k : Nat, k ≤ ns.length ∧ i = .int .i64 k ∧ Own wr base y (xs ++ M.nums (ns.take k)) ∧ Ext w wr v y) (fun _ i _ => ns.length - (intOf i).toNat)
 case atStart => exact ⟨0, Nat.zero_le _, rfl, by simpa [M.nums] using HO.out, Ext.refl _ _⟩
 case round =>
  obtain ⟨k, hk, rfl, hrow, hext⟩ := hrel
  by_cases hlt : k < ns.length
  ·have hc1 := (hext.grow.cell (HX.out k hlt) (fun e => HF.out e.symm))
   have HM := Lib.hid (M.nums_take hlt)
   have hnk := HN.out (ns.getD k 0) (by rw [List.getD, List.getElem?_eq_getElem hlt]; exact List.getElem_mem hlt)
   have hlen : (xs ++ M.nums (ns.take k)).length ≤ 107000 := by
    have := M.nums_len (ns.take k); rw [List.length_append]; rw [List.length_take] at this; omega
   have HR := Lib.hid hrow
   have HE := Lib.hid hext
   clear hrow hext
   generalize ns.getD k 0 = m at *
   obtain ⟨T, hT⟩ : ∃ T, T = xs ++ M.nums (ns.take k) ++ M.num m := ⟨_, rfl⟩
   have HT := Lib.hid hT
   have hm2 : m < 562949953421312 := hnk
   clear hnk hT
   go_wp2
   go_loopw [0, 6] (fun y n wr' => ∃ (f p : Nat) (ys : List UInt8), n = .int .i64 p ∧ p < 128 ^ (f + 1) ∧ p < 562949953421312 ∧ Own wr' base y ys ∧ ys ++ M.numF f p = T ∧ ys.length + f ≤ 107006 ∧ Ext w wr' v y) (fun _ n _ => (intOf n).toNat)
   case atStart => exact ⟨6, m, _, rfl, by omega, hm2, HR.out, HT.out.symm, by omega, HE.out⟩
   case round =>
    obtain ⟨f, p, ys, rfl, hp, hp2, hrow, hys, hyl, hext⟩ := hrel
    have HR2 := Lib.hid hrow
    have HE2 := Lib.hid hext
    have HY := Lib.hid hys
    have hsz := hext.grow.size
    clear hrow hext hys
    by_cases hge : 128 ≤ p
    ·obtain ⟨f, rfl⟩ : ∃ g, f = g + 1 := by
      cases f with
      | zero => omega
      | succ g => exact ⟨g, rfl⟩
     have e1 : bits .or .u8 128 ((p : Int) % 256) = ((p % 128 + 128 : Nat) : Int) := by
      have := or128 (p % 256) (by omega)
      rw [show ((p : Int) % 256) = ((p % 256 : Nat) : Int) by omega, this]; omega
     have HQ := Lib.hid (show p % 128 + 128 < 256 by omega)
     have HZ := Lib.hid (show (ys ++ [UInt8.ofNat (p % 128 + 128)]) ++ M.numF f (p / 128) = T by rw [← HY.out, M.numF_step hge]; simp)
     have HP := Lib.hid (show p / 128 < 128 ^ (f + 1) by rw [Nat.pow_succ] at hp; omega)
     clear hp
     generalize p % 128 + 128 = q at *
     go_wp2_with (at_builtin; refine wpList_append_own_at _ rfl _ _ 22 rfl base 5 i0 (.int .u8 0) 1 1 Tryz.underlying22 hi hz0 hz1 hz2 rfl (by decide) _ _ _ rfl (HR2.out.alloc _) ⟨wr.heap.size, 0, none⟩ 1 1 [.int .u8 (q : Int)] rfl rfl (cell_one_new _ _ _) (by simp [Value.oneCell']) (by unfold maxLen; omega) (by omega) (by simp; omega) ?_; intro v' w3 hown3 hgrow3 hnil3 hat3)
     have O3 := Lib.hid (Own.snoc HQ.out hown3)
     have E3 := Lib.hid ((HE2.out.alloc _).trans (Ext.made hgrow3 hat3))
     clear hown3 hgrow3 hnil3 hat3 e1
     go_wp2
     go_roundw
     case rel => exact ⟨f, p / 128, _, by go_num, HP.out, by omega, O3.out, HZ.out, by simp; omega, E3.out⟩
     case measure => simp [intOf]; omega
    ·have hpm : p % 256 = p := by omega
     have hpi : (p : Int) % 256 = (p : Int) := by omega
     have HZ := Lib.hid (show ys ++ [UInt8.ofNat p] = T by rw [← HY.out, M.numF_small (by omega)])
     clear hpm
     go_wp2_with (at_builtin; refine wpList_append_own_at _ rfl _ _ 22 rfl base 5 i0 (.int .u8 0) 1 1 Tryz.underlying22 hi hz0 hz1 hz2 rfl (by decide) _ _ _ rfl (HR2.out.alloc _) ⟨wr.heap.size, 0, none⟩ 1 1 [.int .u8 (p : Int)] rfl rfl (cell_one_new _ _ _) (by simp [Value.oneCell']) (by unfold maxLen; omega) (by omega) (by simp; omega) ?_; intro v' w3 hown3 hgrow3 hnil3 hat3)
     have O3 := Lib.hid (Own.snoc (show p < 256 by omega) hown3)
     have E3 := Lib.hid ((HE2.out.alloc _).trans (Ext.made hgrow3 hat3))
     clear hown3 hgrow3 hnil3 hat3 hpi
     go_wp2
     go_roundw
     case rel => exact ⟨k + 1, by omega, by go_num, by rw [HM.out, ← List.append_assoc, ← HT.out, ← HZ.out]; exact O3.out, E3.out⟩
     case measure => simp [intOf]; omega
  ·obtain rfl : k = ns.length := by omega
   rw [List.take_length] at hrow
   have HR := Lib.hid hrow
   have HE := Lib.hid hext
   clear hrow hext
   go_wp2
   go_ret
   exact ⟨_, rfl, HR.out, HE.out⟩
open Go.RowKit
namespace M
def numZ (z : Int) : List UInt8 := num z.toNat
def numsZ (l : List Int) : List UInt8 := l.flatMap numZ
def txt (x : List UInt8) : List UInt8 := num x.length ++ x
def flag (b : Bool) : List UInt8 := if b then [1] else [0]
theorem numsZ_map (l : List Int) : nums (l.map Int.toNat) = numsZ l := by
 unfold nums numsZ; rw [List.flatMap_map]; rfl
theorem numsZ_cons (z : Int) (l : List Int) : numsZ (z :: l) = numZ z ++ numsZ l := rfl
theorem numsZ_nil : numsZ [] = [] := rfl
theorem numsZ_len (l : List Int) : (numsZ l).length ≤ l.length * 7 := by
 rw [← numsZ_map]; have := nums_len (l.map Int.toNat); simpa using this
theorem txt_len (x : List UInt8) : (txt x).length ≤ x.length + 7 := by
 unfold txt; rw [List.length_append]; have := num_len x.length; omega
end M
theorem Ints.newZ (w : World) (zs : List Int) (h : ∀ z ∈ zs, 0 ≤ z) : Ints (w.alloc (.cells ((zs.map fun z => Value.int .i64 z).toArray) 3)) (.slice (some ⟨w.heap.size, 0, none⟩) zs.length zs.length) w.heap.size (zs.map Int.toNat) := by
 refine ⟨0, zs.length, by simp, by simp, by simp, fun k hk => ?_⟩
 rw [List.length_map] at hk
 have e : (zs.map Int.toNat).getD k 0 = (zs[k]).toNat := by
  rw [List.getD, List.getElem?_map, List.getElem?_eq_getElem hk]; rfl
 have h0 := h _ (List.getElem_mem hk)
 rw [e, Int.toNat_of_nonneg h0]
 simp [hk]
theorem str_at {w : World} {base : Nat} {v v' : Value} {xs : List Value} {n : Nat} {w' : World} {s : ByteArray} (hown : w.ownsRow base 5 1 v n xs) (hl : n ≤ 1000000) (hs : s.size ≤ 1000000)
 (hr : (Builtin.append_ #[22, 9] 22 #[v,.string s]).run Tryz.prog w = .ok v' w') : v'.ownBlock = v.ownBlock ∨ v'.ownBlock = some w.heap.size := by
 obtain ⟨i0, hi, hz0, hz1, hz2⟩ := info_parts info5
 have ht : Tryz.prog.underlying 22 = some (.slice 5) := Tryz.underlying22
 have hu : Tryz.prog.underlying 9 = some .string := Tryz.underlying9
 have hxl : xs.length = n := by simpa using hown.1
 rcases hown.2 with ⟨rfl, rfl⟩ | ⟨g, cap, cur, rfl, hbg, hg, hnc, hcm, hcs, htake⟩
 ·by_cases hm : s.size = 0
  ·have hf := Lib.run_firstCells_string (P := Tryz.prog) w 1 s
   rw [hm] at hf
   have e : (Builtin.append_ #[22, 9] 22 #[.slice none 0 0,.string s]).run Tryz.prog w = .ok (.slice none 0 0) w := by
    simp [Builtin.append_, run_underlying ht, run_underlying hu, sizeOf, typeInfo, hi, hz1, Builtin.lenOf, hm, hf]
   rw [e] at hr
   cases hr
   exact .inl rfl
  ·have e := run_append_nil_string (P := Tryz.prog) w 22 9 22 5 i0 (.int .u8 0) ht hu hi hz0 s (by omega) (by omega) (by rw [hz2]; omega)
   rw [e] at hr
   cases hr
   exact .inr rfl
 ·by_cases hroom : n + s.size ≤ cap
  ·have hcs' : cur.size = cap := by simpa using hcs
   have e := Lib.run_append_room_string (P := Tryz.prog) w 22 9 22 5 i0 ht hu hi hz1 g n cap cur hg s hroom (by omega)
   rw [e] at hr
   cases hr
   exact .inl rfl
  ·have holds : ∀ j u, xs[j]? = some u → w.cell? ((⟨g, 0, none⟩ : Addr).add j) = some u := hown.cells (g := g) rfl
   have e := Lib.run_append_grow_string (P := Tryz.prog) w 22 9 22 5 i0 (.int .u8 0) ht hu hi hz0 ⟨g, 0, none⟩ n cap xs (by rw [hz1]; simpa using hxl) holds s (by omega) (by omega) (by rw [hz2]; exact growslice_fits (by omega) (by omega))
   rw [e] at hr
   cases hr
   exact .inr rfl
theorem append_txt {w : World} {base : Nat} {v : Value} {xs : List UInt8} (t : List UInt8) (hown : Own w base v xs) (hl : xs.length ≤ 500000) (hs : t.length ≤ 500000) (hbase : base ≤ w.heap.size) :
 ∃ v' w', (Builtin.append_ #[22, 9] 22 #[v,.string ⟨t.toArray⟩]).run Tryz.prog w = .ok v' w' ∧ Own w' base v' (xs ++ t) ∧ Ext w w' v v' := by
 obtain ⟨i0, hi, hz0, hz1, hz2⟩ := info_parts info5
 have hsz : (⟨t.toArray⟩ : ByteArray).size = t.length := by simp [ByteArray.size]
 obtain ⟨v', w', h1, h2, h3, _⟩ := Lib.run_append_own_string (P := Tryz.prog) w base 22 9 22 5 i0 Tryz.underlying22 Tryz.underlying9 hi hz0 hz1 hz2 v xs.length (xs.map enc8) hown ⟨t.toArray⟩ (by rw [hsz]; unfold maxLen; omega) (by rw [hsz]; omega) hbase
 refine ⟨v', w', h1, ?_, Ext.made h3 (str_at hown (by omega) (by rw [hsz]; omega) h1)⟩
 rw [hsz] at h2
 unfold Own
 rw [List.map_append, List.length_append]
 exact h2
theorem putText_any {w : World} {base : Nat} {v : Value} {xs : List UInt8} (t : List UInt8) (hown : Own w base v xs) (hbase : base ≤ w.heap.size) (hl : xs.length ≤ 90000) (hs : t.length ≤ 1000) :
 Calls Tryz.prog 144 #[v,.string ⟨t.toArray⟩] w (Put w base v (xs ++ M.txt t)) := by
 have hsz : (⟨t.toArray⟩ : ByteArray).size = t.length := by simp [ByteArray.size]
 have HA := Lib.hid (fun (w : World) (v : Value) (xs : List UInt8) (hown : Own w base v xs) (hl : xs.length ≤ 500000) (hb : base ≤ w.heap.size) => append_txt t hown hl (by omega) hb)
 obtain ⟨s, hS⟩ : ∃ s : ByteArray, s = ⟨t.toArray⟩ := ⟨_, rfl⟩
 rw [← hS] at HA hsz ⊢
 have HO := Lib.hid hown
 have HI := Lib.hid (Ints.newZ w [(s.size : Int)] (by simp))
 have HF := Lib.hid (hown.off (Nat.le_refl _))
 have HT := Lib.hid (show xs ++ M.nums ([(s.size : Int)].map Int.toNat) ++ t = xs ++ M.txt t by simp [M.nums, M.txt, hsz])
 have hnl := M.num_len s.size
 have HL := Lib.hid (show (xs ++ M.nums ([(s.size : Int)].map Int.toNat)).length ≤ 500000 by simp [M.nums]; omega)
 have hss : s.size ≤ 1000 := by omega
 clear hown hsz hS hs
 go_enter Tryz.func144, Tryz.ntmps144
 go_wp2_with (fail)
 refine (putNumbers_any (HO.out.alloc _) (by simp; omega) HI.out HF.out (by simp; omega) (by omega) (by simp)).mono ?_
 rintro e w1 ⟨v1, rfl, ho1, he1⟩
 have hb1 : base ≤ w1.heap.size := by have := he1.grow.size; simp at this; omega
 obtain ⟨v2, w2, hr, ho2, he2⟩ := HA.out w1 v1 _ ho1 HL.out hb1
 have O2 := Lib.hid ho2
 have E2 := Lib.hid (((Ext.refl _ _).alloc _).trans (he1.trans he2))
 clear ho1 he1 ho2 he2
 go_wp2_with (at_builtin; refine Lib.wpList_append_run _ rfl _ _ _ _ rfl _ _ rfl rfl _ _ hr ?_)
 go_ret
 exact ⟨_, rfl, by rw [← HT.out]; exact O2.out, E2.out⟩
theorem putBoolean_any {w : World} {base : Nat} {v : Value} {xs : List UInt8} (b : Bool) (hown : Own w base v xs) (hbase : base ≤ w.heap.size) (hl : xs.length ≤ 90000) :
 Calls Tryz.prog 145 #[v,.bool b] w (Put w base v (xs ++ M.flag b)) := by
 obtain ⟨i0, hi, hz0, hz1, hz2⟩ := info_parts info5
 have HO := Lib.hid hown
 clear hown
 rcases two b with rfl | rfl
 ·go_enter Tryz.func145, Tryz.ntmps145
  go_wp2_with (at_builtin; refine wpList_append_own_at _ rfl _ _ 22 rfl base 5 i0 (.int .u8 0) 1 1 Tryz.underlying22 hi hz0 hz1 hz2 rfl (by decide) _ _ _ rfl (HO.out.alloc _) ⟨w.heap.size, 0, none⟩ 1 1 [.int .u8 1] rfl rfl (cell_one_new _ _ _) (by simp [Value.oneCell']) (by unfold maxLen; omega) (by omega) (by simp; omega) ?_; intro v' w3 hown3 hgrow3 hnil3 hat3)
  have O3 := Lib.hid (Own.snoc (n := 1) (by omega) hown3)
  have E3 := Lib.hid (((Ext.refl _ _).alloc _).trans (Ext.made hgrow3 hat3))
  clear hown3 hgrow3 hnil3 hat3
  go_wp2
  go_ret
  exact ⟨_, rfl, O3.out, E3.out⟩
 ·go_enter Tryz.func145, Tryz.ntmps145
  go_wp2_with (at_builtin; refine wpList_append_own_at _ rfl _ _ 22 rfl base 5 i0 (.int .u8 0) 1 1 Tryz.underlying22 hi hz0 hz1 hz2 rfl (by decide) _ _ _ rfl (HO.out.alloc _) ⟨w.heap.size, 0, none⟩ 1 1 [.int .u8 0] rfl rfl (cell_one_new _ _ _) (by simp [Value.oneCell']) (by unfold maxLen; omega) (by omega) (by simp; omega) ?_; intro v' w3 hown3 hgrow3 hnil3 hat3)
  have O3 := Lib.hid (Own.snoc (n := 0) (by omega) hown3)
  have E3 := Lib.hid (((Ext.refl _ _).alloc _).trans (Ext.made hgrow3 hat3))
  clear hown3 hgrow3 hnil3 hat3
  go_wp2
  go_ret
  exact ⟨_, rfl, O3.out, E3.out⟩
open Go.RowKit
structure St (wB : World) (base : Nat) (v : Value) (w' : World) (y : Value) (ys : List UInt8) : Prop where
 own : Own w' base y ys
 ext : Ext wB w' v y
 ok : base ≤ wB.heap.size
theorem St.new {w : World} {base : Nat} {v : Value} {xs : List UInt8} (h : Own w base v xs) (hb : base ≤ w.heap.size) : St w base v w v xs := ⟨h, Ext.refl _ _, hb⟩
theorem St.size {wB w' : World} {base : Nat} {v y : Value} {ys : List UInt8} (h : St wB base v w' y ys) : base ≤ w'.heap.size := Nat.le_trans h.ok h.ext.grow.size
theorem St.alloc {wB w' : World} {base : Nat} {v y : Value} {ys : List UInt8} (h : St wB base v w' y ys) (o : Obj) : St wB base v (w'.alloc o) y ys := ⟨h.own.alloc o, h.ext.alloc o, h.ok⟩
theorem St.step {wB w' w'' : World} {base : Nat} {v y z : Value} {ys zs : List UInt8} (h : St wB base v w' y ys) (ho : Own w'' base z zs) (he : Ext w' w'' y z) : St wB base v w'' z zs := ⟨ho, h.ext.trans he, h.ok⟩
theorem St.cell {wB w' : World} {base : Nat} {v y : Value} {ys : List UInt8} (h : St wB base v w' y ys) {g o : Nat} {x : Value} (hx : wB.cell? ⟨g, o, none⟩ = some x) (hoff : Off v g) : w'.cell? ⟨g, o, none⟩ = some x := h.ext.grow.cell hx (fun e => hoff e.symm)
theorem St.push {wB w' w3 : World} {base : Nat} {v y z : Value} {ys : List UInt8} {n : Nat} (h : St wB base v w' y ys) (hn : n < 256) (o : Obj) (h1 : w3.ownsRow base 5 1 z (ys.length + 1) (ys.map enc8 ++ [.int .u8 (n : Int)])) (h2 : (w'.alloc o).grownBy w3 y.ownBlock) (h3 : z.ownBlock = y.ownBlock ∨ z.ownBlock = some (w'.alloc o).heap.size) : St wB base v w3 z (ys ++ [UInt8.ofNat n]) :=
 (h.alloc o).step (Own.snoc hn h1) (Ext.made h2 h3)
theorem St.below {w0 wB w' : World} {v y : Value} {ys : List UInt8} (h : St wB w0.heap.size v w' y ys) (hb : Below w0.heap.size w0 wB) (hv : ∀ k, v.ownBlock = some k → w0.heap.size ≤ k) : Below w0.heap.size w0 w' := h.ext.below hb h.ok hv
def Stp (wB : World) (base : Nat) (v : Value) (ys : List UInt8) (e : Ending) (w' : World) : Prop := ∃ y, e = .returned y ∧ St wB base v w' y ys
theorem St.nums {wB w' : World} {base : Nat} {v y : Value} {ys : List UInt8} (h : St wB base v w' y ys) (zs : List Int) (hz : ∀ z ∈ zs, 0 ≤ z ∧ z ≤ 1099511627776) (hl : ys.length ≤ 90000) (hl' : zs.length ≤ 1000) :
 Calls Tryz.prog 143 #[y,.slice (some ⟨w'.heap.size, 0, none⟩) zs.length zs.length] (w'.alloc (.cells ((zs.map fun z => Value.int .i64 z).toArray) 3)) (Stp wB base v (ys ++ M.numsZ zs)) := by
 have hi := Ints.newZ w' zs (fun z hz' => (hz z hz').1)
 have := putNumbers_any (h.own.alloc (.cells ((zs.map fun z => Value.int .i64 z).toArray) 3)) (by have := h.size; simp; omega) hi (h.own.off (Nat.le_refl _)) (by
  intro n hn
  rw [List.mem_map] at hn
  obtain ⟨z, hz', rfl⟩ := hn
  have := hz z hz'
  omega) (by omega) (by simpa using hl')
 rw [M.numsZ_map] at this
 refine this.mono ?_
 rintro e w'' ⟨z, rfl, ho, he⟩
 exact ⟨z, rfl, (h.alloc _).step ho he⟩
theorem St.text {wB w' : World} {base : Nat} {v y : Value} {ys : List UInt8} (h : St wB base v w' y ys) (t : List UInt8) (hl : ys.length ≤ 90000) (hs : t.length ≤ 1000) :
 Calls Tryz.prog 144 #[y,.string ⟨t.toArray⟩] w' (Stp wB base v (ys ++ M.txt t)) :=
 (putText_any t h.own h.size hl hs).mono fun _ _ ⟨z, e, ho, he⟩ => ⟨z, e, h.step ho he⟩
theorem St.flag {wB w' : World} {base : Nat} {v y : Value} {ys : List UInt8} (h : St wB base v w' y ys) (b : Bool) (hl : ys.length ≤ 90000) :
 Calls Tryz.prog 145 #[y,.bool b] w' (Stp wB base v (ys ++ M.flag b)) :=
 (putBoolean_any b h.own h.size hl).mono fun _ _ ⟨z, e, ho, he⟩ => ⟨z, e, h.step ho he⟩
theorem Box.st {wB w' : World} {base : Nat} {v y : Value} {ys : List UInt8} {g : Nat} {c : M.Cmd} {va vb : Value} (X : Box wB g c va vb) (h : St wB base v w' y ys) (hoff : Off v g) : Box w' g c va vb :=
 ⟨Nat.lt_of_lt_of_le X.lt h.ext.grow.size, h.cell X.c0 hoff, h.cell X.c1 hoff, h.cell X.c2 hoff, h.cell X.c3 hoff, h.cell X.c4 hoff, h.cell X.c5 hoff, h.cell X.c6 hoff, h.cell X.c7 hoff, h.cell X.c8 hoff⟩
namespace M
def encRd (r : List UInt8 × Int × Int) : List UInt8 := txt r.1 ++ numsZ [r.2.1, r.2.2]
def encWr (r : List UInt8 × List UInt8) : List UInt8 := txt r.1 ++ txt r.2
def encC (c : Cmd) : List UInt8 := [1] ++ numsZ [c.k, c.tc, c.tn] ++ numsZ [c.tt, c.tk, c.sh] ++ numsZ [(c.rs.length : Int)] ++ c.rs.flatMap encRd ++ numsZ [(c.ws.length : Int)] ++ c.ws.flatMap encWr ++ flag c.cm
def Nb (z : Int) : Prop := 0 ≤ z ∧ z ≤ 1099511627776
structure Fits (c : Cmd) : Prop where
 k : Nb c.k
 tc : Nb c.tc
 tn : Nb c.tn
 tt : Nb c.tt
 tk : Nb c.tk
 sh : Nb c.sh
 rl : c.rs.length ≤ 20
 wl : c.ws.length ≤ 20
 rs : ∀ r ∈ c.rs, r.1.length ≤ 100 ∧ Nb r.2.1 ∧ Nb r.2.2
 ws : ∀ r ∈ c.ws, r.1.length ≤ 100 ∧ r.2.length ≤ 100
theorem nb1 {a : Int} (h : Nb a) : ∀ z ∈ [a], 0 ≤ z ∧ z ≤ 1099511627776 := by intro z hz; simp at hz; rw [hz]; exact h
theorem nb2 {a b : Int} (h : Nb a) (h' : Nb b) : ∀ z ∈ [a, b], 0 ≤ z ∧ z ≤ 1099511627776 := by intro z hz; simp at hz; rcases hz with rfl | rfl <;> assumption
theorem nb3 {a b d : Int} (h : Nb a) (h' : Nb b) (h'' : Nb d) : ∀ z ∈ [a, b, d], 0 ≤ z ∧ z ≤ 1099511627776 := by intro z hz; simp at hz; rcases hz with rfl | rfl | rfl <;> assumption
theorem nbl (n : Nat) (h : n ≤ 1000) : Nb (n : Int) := ⟨by omega, by omega⟩
theorem rd_take {l : List (List UInt8 × Int × Int)} {k : Nat} (h : k < l.length) : (l.take (k + 1)).flatMap encRd = (l.take k).flatMap encRd ++ (txt (l.getD k rd0).1 ++ numsZ [(l.getD k rd0).2.1, (l.getD k rd0).2.2]) := by
 rw [List.take_add_one, List.getElem?_eq_getElem h, List.flatMap_append, List.getD, List.getElem?_eq_getElem h]; simp [encRd]
theorem wr_take {l : List (List UInt8 × List UInt8)} {k : Nat} (h : k < l.length) : (l.take (k + 1)).flatMap encWr = (l.take k).flatMap encWr ++ (txt (l.getD k wr0).1 ++ txt (l.getD k wr0).2) := by
 rw [List.take_add_one, List.getElem?_eq_getElem h, List.flatMap_append, List.getD, List.getElem?_eq_getElem h]; simp [encWr]
theorem rds_len (l : List (List UInt8 × Int × Int)) (h : ∀ r ∈ l, r.1.length ≤ 100) : (l.flatMap encRd).length ≤ l.length * 121 := by
 induction l with
 | nil => simp
 | cons r l ih =>
   have h1 := txt_len r.1
   have h2 := numsZ_len [r.2.1, r.2.2]
   have h3 := h r (by simp)
   have h4 := ih (fun r hr => h r (by simp [hr]))
   simp only [List.flatMap_cons, List.length_append, List.length_cons, encRd] at *
   simp only [List.length_nil] at h2
   omega
theorem wrs_len (l : List (List UInt8 × List UInt8)) (h : ∀ r ∈ l, r.1.length ≤ 100 ∧ r.2.length ≤ 100) : (l.flatMap encWr).length ≤ l.length * 214 := by
 induction l with
 | nil => simp
 | cons r l ih =>
   have h1 := txt_len r.1
   have h2 := txt_len r.2
   have h3 := h r (by simp)
   have h4 := ih (fun r hr => h r (by simp [hr]))
   simp only [List.flatMap_cons, List.length_append, List.length_cons, encWr] at *
   omega
theorem flag_len (b : Bool) : (flag b).length = 1 := by cases b <;> rfl
end M
theorem putCommand_any {w0 w : World} {v : Value} {xs : List UInt8} (c : M.Cmd) {va vb : Value} (h : Rds w0 va c.rs) (h' : Wrs w0 vb c.ws) (hb0 : Below w0.heap.size w0 w) (hown : Own w w0.heap.size v xs) (hl : xs.length ≤ 1000) (F : M.Fits c) :
 Calls Tryz.prog 117 #[v,.agg #[.int .i64 c.k,.int .i64 c.tc,.int .i64 c.tn,.int .i64 c.tt,.int .i64 c.tk,.int .i64 c.sh, va, vb,.bool c.cm]] w (Stp w w0.heap.size v (xs ++ M.encC c)) := by
 obtain ⟨i0, hi, hz0, hz1, hz2⟩ := info_parts info5
 obtain ⟨A, c1, rfl, hc1, hx⟩ := h.opened
 obtain ⟨A', c2, rfl, hc2, hx'⟩ := h'.opened
 have HX := Lib.hid hx
 have HX' := Lib.hid hx'
 have hw : w0.heap.size ≤ w.heap.size := hb0.size
 have X0 := Lib.hid (Box.new w c (.slice A c.rs.length c1) (.slice A' c.ws.length c2))
 have HF := Lib.hid (hown.off (Nat.le_refl _))
 have HV := Lib.hid (show ∀ k, v.ownBlock = some k → w0.heap.size ≤ k from fun k e => (hown.lt e).1)
 have HB := Lib.hid (show Below w0.heap.size w0 (w.alloc (.cells #[.int .i64 c.k,.int .i64 c.tc,.int .i64 c.tn,.int .i64 c.tt,.int .i64 c.tk,.int .i64 c.sh,.slice A c.rs.length c1,.slice A' c.ws.length c2,.bool c.cm] 63)) from below_new hb0)
 have S0 := Lib.hid (show St (w.alloc (.cells #[.int .i64 c.k,.int .i64 c.tc,.int .i64 c.tn,.int .i64 c.tt,.int .i64 c.tk,.int .i64 c.sh,.slice A c.rs.length c1,.slice A' c.ws.length c2,.bool c.cm] 63)) w0.heap.size v (w.alloc (.cells #[.int .i64 c.k,.int .i64 c.tc,.int .i64 c.tn,.int .i64 c.tt,.int .i64 c.tk,.int .i64 c.sh,.slice A c.rs.length c1,.slice A' c.ws.length c2,.bool c.cm] 63)) v xs from St.new (hown.alloc _) (by simp; omega))
 have EB := Lib.hid (show Ext w (w.alloc (.cells #[.int .i64 c.k,.int .i64 c.tc,.int .i64 c.tn,.int .i64 c.tt,.int .i64 c.tk,.int .i64 c.sh,.slice A c.rs.length c1,.slice A' c.ws.length c2,.bool c.cm] 63)) v v from (Ext.refl _ _).alloc _)
 have hr1 := F.rl
 have hr2 := F.wl
 have FR := Lib.hid F.rs
 have FW := Lib.hid F.ws
 clear hx hx' h h' hb0 hown
 go_enter Tryz.func117, Tryz.ntmps117
 go_wp2_with
  (at_builtin
   refine wpList_append_own_at _ rfl _ _ 22 rfl w0.heap.size 5 i0 (.int .u8 0) 1 1 Tryz.underlying22 hi hz0 hz1 hz2 rfl (by decide) _ _ _ rfl (S0.out.own.alloc _) ⟨w.heap.size + 1, 0, none⟩ 1 1 [.int .u8 1] rfl rfl (cell_two_new _ _ _ _) (by simp [Value.oneCell']) (by unfold maxLen; omega) (by omega) (by simp; omega) ?_
   intro v1 w1 hown3 hgrow3 hnil3 hat3
   have S1 := Lib.hid (S0.out.push (n := 1) (by omega) _ hown3 hgrow3 hat3)
   clear hown3 hgrow3 hnil3 hat3
   have X1 := Lib.hid (X0.out.st S1.out HF.out)
   obtain ⟨l1, p10, p11, p12, p13, p14, p15, p16, p17, p18⟩ := X1.out)
 generalize (w.alloc _) = wB at *
 have L1 : (xs ++ [UInt8.ofNat 1]).length ≤ 1001 := by simp; omega
 generalize hy : xs ++ [UInt8.ofNat 1] = y1 at S1 L1
 have Y1 := Lib.hid hy
 clear hy
 refine (S1.out.nums [c.k, c.tc, c.tn] (M.nb3 F.k F.tc F.tn) (by omega) (by simp)).mono ?_
 rintro e w2 ⟨v2, rfl, hs⟩
 have L2 : (y1 ++ M.numsZ [c.k, c.tc, c.tn]).length ≤ 1022 := by have := M.numsZ_len [c.k, c.tc, c.tn]; simp at this ⊢; omega
 generalize hy : y1 ++ M.numsZ [c.k, c.tc, c.tn] = y2 at hs L2
 have Y2 := Lib.hid hy
 have S2 := Lib.hid hs
 have X2 := Lib.hid (X0.out.st hs HF.out)
 clear hs hy l1 p10 p11 p12 p13 p14 p15 p16 p17 p18 S1 X1
 obtain ⟨l1, p10, p11, p12, p13, p14, p15, p16, p17, p18⟩ := X2.out
 go_wp2_with (fail)
 refine (S2.out.nums [c.tt, c.tk, c.sh] (M.nb3 F.tt F.tk F.sh) (by omega) (by simp)).mono ?_
 rintro e w3 ⟨v3, rfl, hs⟩
 have L3 : (y2 ++ M.numsZ [c.tt, c.tk, c.sh]).length ≤ 1043 := by have := M.numsZ_len [c.tt, c.tk, c.sh]; simp at this ⊢; omega
 generalize hy : y2 ++ M.numsZ [c.tt, c.tk, c.sh] = y3 at hs L3
 have Y3 := Lib.hid hy
 have S3 := Lib.hid hs
 have X3 := Lib.hid (X0.out.st hs HF.out)
 clear hs hy l1 p10 p11 p12 p13 p14 p15 p16 p17 p18 S2 X2
 obtain ⟨l1, p10, p11, p12, p13, p14, p15, p16, p17, p18⟩ := X3.out
 go_wp2_with (fail)
 refine (S3.out.nums [(c.rs.length : Int)] (M.nb1 (M.nbl _ (by omega))) (by omega) (by simp)).mono ?_
 rintro e w4 ⟨v4, rfl, hs⟩
 have L4 : (y3 ++ M.numsZ [(c.rs.length : Int)]).length ≤ 1050 := by have := M.numsZ_len [(c.rs.length : Int)]; simp at this ⊢; omega
 generalize hy : y3 ++ M.numsZ [(c.rs.length : Int)] = y4 at hs L4
 have Y4 := Lib.hid hy
 have S4 := Lib.hid hs
 have X4 := Lib.hid (X0.out.st hs HF.out)
 clear hs hy l1 p10 p11 p12 p13 p14 p15 p16 p17 p18 S3 X3
 obtain ⟨l1, p10, p11, p12, p13, p14, p15, p16, p17, p18⟩ := X4.out
 have hv4 : y4 ++ (c.rs.take 0).flatMap M.encRd = y4 := by simp
 go_wp2
 go_loopw [0, 43] (fun y i wr => ∃ k : Nat, k ≤ c.rs.length ∧ i = .int .i64 k ∧ St wB w0.heap.size v wr y (y4 ++ (c.rs.take k).flatMap M.encRd)) (fun _ i _ => c.rs.length - (intOf i).toNat)
 case atStart => exact ⟨0, Nat.zero_le _, rfl, by rw [hv4]; exact S4.out⟩
 case round =>
  obtain ⟨k, hk, rfl, hst⟩ := hrel
  obtain ⟨wr, hwr, hst⟩ : ∃ wr', wr' = _ ∧ St wB w0.heap.size v wr' _ _ := ⟨_, rfl, hst⟩
  subst hwr
  have HS := Lib.hid hst
  have hbw := hst.below HB.out HV.out
  have hsz := hst.size
  by_cases hlt : k < c.rs.length
  ·obtain ⟨b, o, rfl, hb, hy⟩ := HX.out (by omega)
   obtain ⟨z1, z2, z3⟩ := (hy k hlt).below hbw hb
   have HT := Lib.hid (M.rd_take hlt)
   obtain ⟨f1, f2, f3⟩ := FR.out (c.rs.getD k rd0) (by rw [List.getD, List.getElem?_eq_getElem hlt]; exact List.getElem_mem hlt)
   have hlen : (y4 ++ (c.rs.take k).flatMap M.encRd).length ≤ 4000 := by
    have := M.rds_len (c.rs.take k) (fun r hr => (FR.out r (List.mem_of_mem_take hr)).1)
    rw [List.length_take] at this; rw [List.length_append]; omega
   clear hy hst hbw
   generalize (c.rs.getD k rd0).1 = x at *
   generalize (c.rs.getD k rd0).2.1 = t at *
   generalize (c.rs.getD k rd0).2.2 = u at *
   generalize hq : y4 ++ (c.rs.take k).flatMap M.encRd = q0 at HS hlen
   have HQ := Lib.hid hq
   clear hq
   have N0 := Lib.hid (St.new (HS.out.own.alloc (.cells #[.string ⟨x.toArray⟩,.int .i64 t,.int .i64 u] 113)) (by simp; omega))
   have c1 : (wr.alloc (.cells #[.string ⟨x.toArray⟩,.int .i64 t,.int .i64 u] 113)).cell? ⟨wr.heap.size, 1, none⟩ = some (.int .i64 t) := by simp
   have c2 : (wr.alloc (.cells #[.string ⟨x.toArray⟩,.int .i64 t,.int .i64 u] 113)).cell? ⟨wr.heap.size, 2, none⟩ = some (.int .i64 u) := by simp
   have C1 := Lib.hid c1
   have C2 := Lib.hid c2
   have HOF := Lib.hid (HS.out.own.off (Nat.le_refl _))
   clear c1 c2
   go_wp2_with (fail)
   refine (N0.out.text x (by omega) (by omega)).mono ?_
   rintro e w5 ⟨v5, rfl, hs⟩
   have N1 := Lib.hid hs
   have d1 := hs.cell C1.out HOF.out
   have d2 := hs.cell C2.out HOF.out
   clear hs
   go_wp2_with (fail)
   refine (N1.out.nums [t, u] (M.nb2 f2 f3) (by have := M.txt_len x; simp; omega) (by simp)).mono ?_
   rintro e w6 ⟨v6, rfl, hs⟩
   have N2 := Lib.hid (((HS.out.alloc _).step hs.own hs.ext))
   clear hs d1 d2
   go_wp2
   go_roundw
   case rel => exact ⟨k + 1, by omega, by go_num, by rw [HT.out, ← List.append_assoc, HQ.out, ← List.append_assoc]; exact N2.out⟩
   case measure => simp [intOf]; omega
  ·obtain rfl : k = c.rs.length := by omega
   rw [List.take_length] at hst HS
   have L5 : (y4 ++ c.rs.flatMap M.encRd).length ≤ 4000 := by
    have := M.rds_len c.rs (fun r hr => (FR.out r hr).1)
    rw [List.length_append]; omega
   clear hv4 S4 X4 l1 p10 p11 p12 p13 p14 p15 p16 p17 p18 HX HS hsz hbw
   have X5 := Lib.hid (X0.out.st hst HF.out)
   generalize hy : y4 ++ c.rs.flatMap M.encRd = y5 at hst L5
   have Y5 := Lib.hid hy
   have S5 := Lib.hid hst
   clear hst hy
   obtain ⟨l1, p10, p11, p12, p13, p14, p15, p16, p17, p18⟩ := X5.out
   go_wp2_with (fail)
   refine (S5.out.nums [(c.ws.length : Int)] (M.nb1 (M.nbl _ (by omega))) (by omega) (by simp)).mono ?_
   rintro e w6 ⟨v6, rfl, hs⟩
   have L6 : (y5 ++ M.numsZ [(c.ws.length : Int)]).length ≤ 4010 := by have := M.numsZ_len [(c.ws.length : Int)]; simp at this ⊢; omega
   generalize hy : y5 ++ M.numsZ [(c.ws.length : Int)] = y6 at hs L6
   have Y6 := Lib.hid hy
   have S6 := Lib.hid hs
   have X6 := Lib.hid (X0.out.st hs HF.out)
   clear hs hy l1 p10 p11 p12 p13 p14 p15 p16 p17 p18 S5 X5
   obtain ⟨l1, p10, p11, p12, p13, p14, p15, p16, p17, p18⟩ := X6.out
   have hv6 : y6 ++ (c.ws.take 0).flatMap M.encWr = y6 := by simp
   go_wp2
   go_loopw [0, 70] (fun y i wr => ∃ k : Nat, k ≤ c.ws.length ∧ i = .int .i64 k ∧ St wB w0.heap.size v wr y (y6 ++ (c.ws.take k).flatMap M.encWr)) (fun _ i _ => c.ws.length - (intOf i).toNat)
   case atStart => exact ⟨0, Nat.zero_le _, rfl, by rw [hv6]; exact S6.out⟩
   case round =>
    obtain ⟨k, hk, rfl, hst⟩ := hrel
    obtain ⟨wr, hwr, hst⟩ : ∃ wr', wr' = _ ∧ St wB w0.heap.size v wr' _ _ := ⟨_, rfl, hst⟩
    subst hwr
    have HS := Lib.hid hst
    have hbw := hst.below HB.out HV.out
    have hsz := hst.size
    by_cases hlt : k < c.ws.length
    ·obtain ⟨b, o, rfl, hb, hy⟩ := HX'.out (by omega)
     obtain ⟨z1, z2⟩ := (hy k hlt).below hbw hb
     have HT := Lib.hid (M.wr_take hlt)
     obtain ⟨f1, f2⟩ := FW.out (c.ws.getD k wr0) (by rw [List.getD, List.getElem?_eq_getElem hlt]; exact List.getElem_mem hlt)
     have hlen : (y6 ++ (c.ws.take k).flatMap M.encWr).length ≤ 9000 := by
      have := M.wrs_len (c.ws.take k) (fun r hr => FW.out r (List.mem_of_mem_take hr))
      rw [List.length_take] at this; rw [List.length_append]; omega
     clear hy hst hbw
     generalize (c.ws.getD k wr0).1 = x at *
     generalize (c.ws.getD k wr0).2 = t at *
     generalize hq : y6 ++ (c.ws.take k).flatMap M.encWr = q0 at HS hlen
     have HQ := Lib.hid hq
     clear hq
     have N0 := Lib.hid (St.new (HS.out.own.alloc (.cells #[.string ⟨x.toArray⟩,.string ⟨t.toArray⟩] 115)) (by simp; omega))
     have c1 : (wr.alloc (.cells #[.string ⟨x.toArray⟩,.string ⟨t.toArray⟩] 115)).cell? ⟨wr.heap.size, 1, none⟩ = some (.string ⟨t.toArray⟩) := by simp
     have C1 := Lib.hid c1
     have HOF := Lib.hid (HS.out.own.off (Nat.le_refl _))
     clear c1
     go_wp2_with (fail)
     refine (N0.out.text x (by omega) (by omega)).mono ?_
     rintro e w7 ⟨v7, rfl, hs⟩
     have N1 := Lib.hid hs
     have d1 := hs.cell C1.out HOF.out
     clear hs
     go_wp2_with (fail)
     refine (N1.out.text t (by have := M.txt_len x; simp; omega) (by omega)).mono ?_
     rintro e w8 ⟨v8, rfl, hs⟩
     have N2 := Lib.hid (((HS.out.alloc _).step hs.own hs.ext))
     clear hs d1
     go_wp2
     go_roundw
     case rel => exact ⟨k + 1, by omega, by go_num, by rw [HT.out, ← List.append_assoc, HQ.out, ← List.append_assoc]; exact N2.out⟩
     case measure => simp [intOf]; omega
    ·obtain rfl : k = c.ws.length := by omega
     rw [List.take_length] at hst HS
     have L7 : (y6 ++ c.ws.flatMap M.encWr).length ≤ 9000 := by
      have := M.wrs_len c.ws (fun r hr => FW.out r hr)
      rw [List.length_append]; omega
     clear hv6 S6 X6 l1 p10 p11 p12 p13 p14 p15 p16 p17 p18 HX' HS hsz hbw
     have X7 := Lib.hid (X0.out.st hst HF.out)
     generalize hy : y6 ++ c.ws.flatMap M.encWr = y7 at hst L7
     have Y7 := Lib.hid hy
     have S7 := Lib.hid hst
     clear hst hy
     obtain ⟨l1, p10, p11, p12, p13, p14, p15, p16, p17, p18⟩ := X7.out
     go_wp2_with (fail)
     refine (S7.out.flag c.cm (by omega)).mono ?_
     rintro e w9 ⟨v9, rfl, hs⟩
     have HE := Lib.hid (show y7 ++ M.flag c.cm = xs ++ M.encC c by
      rw [← Y7.out, ← Y6.out, ← Y5.out, ← Y4.out, ← Y3.out, ← Y2.out, ← Y1.out]
      simp only [M.encC, List.append_assoc]
      rfl)
     rw [HE.out] at hs
     have S9 := Lib.hid hs
     clear hs l1 p10 p11 p12 p13 p14 p15 p16 p17 p18
     go_wp2
     go_ret
     exact ⟨_, rfl, S9.out.own, EB.out.trans S9.out.ext, by omega⟩
open Go.RowKit
namespace M
structure Rec where
 ir : Int
 is : Int
 st : Int
 pn : Int
 pr : Int
 bn : Int
 br : Int
 c : Cmd
 sq : Int
 d0 : Int
 d1 : Int
 d2 : Int
 d3 : Int
 d4 : Int
 d5 : Int
 d6 : Int
 kp : Bool
structure Msg where
 k : Int
 fr : Int
 to : Int
 bn : Int
 br : Int
 r : Rec
end M
structure Cel (w : World) (b : Nat) (L : List Value) : Prop where
 lt : b < w.heap.size
 get : ∀ j x, L[j]? = some x → w.cell? ⟨b, j, none⟩ = some x
theorem Cel.new (w : World) (L : List Value) (t : TypeId) : Cel (w.alloc (.cells L.toArray t)) w.heap.size L :=
 ⟨by simp, fun j x h => by simp [h]⟩
theorem Cel.new1 (w : World) (o : Obj) (L : List Value) (t : TypeId) : Cel ((w.alloc o).alloc (.cells L.toArray t)) (w.heap.size + 1) L := by
 simpa using Cel.new (w.alloc o) L t
theorem Cel.on {w w' : World} {b : Nat} {L : List Value} (h : Cel w b L) (k : Below w.heap.size w w') : Cel w' b L :=
 ⟨Nat.lt_of_lt_of_le h.lt k.size, fun j x hj => (k.cell (p := ⟨b, j, none⟩) h.lt).trans (h.get j x hj)⟩
theorem Cel.push {w : World} {b : Nat} {L : List Value} (h : Cel w b L) (o : Obj) : Cel (w.alloc o) b L := h.on (below_new (Below.refl _ _))
theorem Cel.grown {w w' : World} {b : Nat} {L : List Value} {row : Option Nat} (h : Cel w b L) (k : w.grownBy w' row) (hn : row ≠ some b) : Cel w' b L :=
 ⟨Nat.lt_of_lt_of_le h.lt k.size, fun j x hj => k.cell (h.get j x hj) (fun e => hn e.symm)⟩
theorem Cel.range {w : World} {b o : Nat} {pre L : List Value} (X : Cel w b (pre ++ L)) (h : pre.length = o) : w.rangeAt b o L := fun j x hj => X.get (o + j) x (by
 rw [List.getElem?_append_right (by omega), show o + j - pre.length = j by omega]; exact hj)
theorem Cel.whole {w : World} {b : Nat} {L : List Value} (X : Cel w b L) : w.rangeAt b 0 L := fun j x hj => by rw [Nat.zero_add]; exact X.get j x hj
theorem Cel.st {wB w' : World} {base : Nat} {v y : Value} {ys : List UInt8} {g : Nat} {L : List Value} (X : Cel wB g L) (h : St wB base v w' y ys) (hoff : Off v g) : Cel w' g L := X.grown h.ext.grow hoff
theorem St.cmd {w0 wB w' : World} {v y : Value} {ys : List UInt8} (h : St wB w0.heap.size v w' y ys) (c : M.Cmd) {va vb : Value} (hr : Rds w0 va c.rs) (hw : Wrs w0 vb c.ws) (hb : Below w0.heap.size w0 w') (hl : ys.length ≤ 1000) (F : M.Fits c) :
 Calls Tryz.prog 117 #[y,.agg #[.int .i64 c.k,.int .i64 c.tc,.int .i64 c.tn,.int .i64 c.tt,.int .i64 c.tk,.int .i64 c.sh, va, vb,.bool c.cm]] w' (Stp wB w0.heap.size v (ys ++ M.encC c)) :=
 (putCommand_any c hr hw hb h.own hl F).mono fun _ _ ⟨z, e, hs⟩ => ⟨z, e, h.step hs.own hs.ext⟩
namespace M
def encR (r : Rec) : List UInt8 := [2] ++ numsZ [r.ir, r.is, r.st] ++ numsZ [r.pn, r.pr] ++ numsZ [r.bn, r.br] ++ numsZ [r.sq] ++ numsZ [r.d0, r.d1, r.d2, r.d3, r.d4, r.d5, r.d6] ++ flag r.kp ++ encC r.c
def encM (m : Msg) : List UInt8 := [3] ++ numsZ [m.k, m.fr, m.to] ++ numsZ [m.bn, m.br] ++ encR m.r
structure FitsR (r : Rec) : Prop where
 ir : Nb r.ir
 is : Nb r.is
 st : Nb r.st
 pn : Nb r.pn
 pr : Nb r.pr
 bn : Nb r.bn
 br : Nb r.br
 c : Fits r.c
 sq : Nb r.sq
 d0 : Nb r.d0
 d1 : Nb r.d1
 d2 : Nb r.d2
 d3 : Nb r.d3
 d4 : Nb r.d4
 d5 : Nb r.d5
 d6 : Nb r.d6
structure FitsM (m : Msg) : Prop where
 k : Nb m.k
 fr : Nb m.fr
 to : Nb m.to
 bn : Nb m.bn
 br : Nb m.br
 r : FitsR m.r
theorem nb7 {a b c d e f g : Int} (h1 : Nb a) (h2 : Nb b) (h3 : Nb c) (h4 : Nb d) (h5 : Nb e) (h6 : Nb f) (h7 : Nb g) : ∀ z ∈ [a, b, c, d, e, f, g], 0 ≤ z ∧ z ≤ 1099511627776 := by
 intro z hz
 simp only [List.mem_cons, List.not_mem_nil, or_false] at hz
 rcases hz with rfl | rfl | rfl | rfl | rfl | rfl | rfl <;> assumption
end M
theorem Ints.of_cel {w : World} {b o : Nat} {zs : List Int} (hb : b < w.heap.size) (h : ∀ k, k < zs.length → w.cell? ⟨b, o + k, none⟩ = some (.int .i64 (zs.getD k 0))) (hz : ∀ z ∈ zs, 0 ≤ z) : Ints w (.slice (some ⟨b, o, none⟩) zs.length zs.length) b (zs.map Int.toNat) := by
 refine ⟨o, zs.length, by simp, by simp, hb, fun k hk => ?_⟩
 rw [List.length_map] at hk
 rw [h k hk]
 have e : (zs.map Int.toNat).getD k 0 = (zs[k]).toNat := by
  rw [List.getD, List.getElem?_map, List.getElem?_eq_getElem hk]; rfl
 have h0 := hz _ (List.getElem_mem hk)
 rw [e, Int.toNat_of_nonneg h0, List.getD, List.getElem?_eq_getElem hk]; rfl
theorem St.ints {wB w' : World} {base g o : Nat} {v y : Value} {ys : List UInt8} (h : St wB base v w' y ys) (zs : List Int) (hz : ∀ z ∈ zs, 0 ≤ z ∧ z ≤ 1099511627776) (hg : g < w'.heap.size) (hc : ∀ k, k < zs.length → w'.cell? ⟨g, o + k, none⟩ = some (.int .i64 (zs.getD k 0))) (hoff : Off y g) (hl : ys.length ≤ 90000) (hl' : zs.length ≤ 1000) :
 Calls Tryz.prog 143 #[y,.slice (some ⟨g, o, none⟩) zs.length zs.length] w' (Stp wB base v (ys ++ M.numsZ zs)) := by
 have hi := Ints.of_cel hg hc (fun z hz' => (hz z hz').1)
 have := putNumbers_any h.own h.size hi hoff (by
  intro n hn
  rw [List.mem_map] at hn
  obtain ⟨z, hz', rfl⟩ := hn
  have := hz z hz'
  omega) (by omega) (by simpa using hl')
 rw [M.numsZ_map] at this
 refine this.mono ?_
 rintro e w'' ⟨z, rfl, ho, he⟩
 exact ⟨z, rfl, h.step ho he⟩
theorem St.offs {wB w' : World} {base g : Nat} {v y : Value} {ys : List UInt8} (h : St wB base v w' y ys) (hg : g < wB.heap.size) (hoff : Off v g) : Off y g := h.ext.off hg hoff
open Go.RowKit
theorem putRecord_any {w0 w : World} {v : Value} {xs : List UInt8} (r : M.Rec) {va vb : Value} (h : Rds w0 va r.c.rs) (h' : Wrs w0 vb r.c.ws) (hb0 : Below w0.heap.size w0 w) (hown : Own w w0.heap.size v xs) (hl : xs.length ≤ 500) (F : M.FitsR r) :
 Calls Tryz.prog 118 #[v,.agg #[.int .i64 r.ir,.int .i64 r.is,.int .i64 r.st,.int .i64 r.pn,.int .i64 r.pr,.int .i64 r.bn,.int .i64 r.br,.int .i64 r.c.k,.int .i64 r.c.tc,.int .i64 r.c.tn,.int .i64 r.c.tt,.int .i64 r.c.tk,.int .i64 r.c.sh, va, vb,.bool r.c.cm,.int .i64 r.sq,.int .i64 r.d0,.int .i64 r.d1,.int .i64 r.d2,.int .i64 r.d3,.int .i64 r.d4,.int .i64 r.d5,.int .i64 r.d6,.bool r.kp]] w (Stp w w0.heap.size v (xs ++ M.encR r)) := by
 obtain ⟨i0, hi, hz0, hz1, hz2⟩ := info_parts info5
 have hw : w0.heap.size ≤ w.heap.size := hb0.size
 have X0 := Lib.hid (Cel.new w [.int .i64 r.ir,.int .i64 r.is,.int .i64 r.st,.int .i64 r.pn,.int .i64 r.pr,.int .i64 r.bn,.int .i64 r.br,.int .i64 r.c.k,.int .i64 r.c.tc,.int .i64 r.c.tn,.int .i64 r.c.tt,.int .i64 r.c.tk,.int .i64 r.c.sh, va, vb,.bool r.c.cm,.int .i64 r.sq,.int .i64 r.d0,.int .i64 r.d1,.int .i64 r.d2,.int .i64 r.d3,.int .i64 r.d4,.int .i64 r.d5,.int .i64 r.d6,.bool r.kp] 67)
 have HF := Lib.hid (hown.off (Nat.le_refl _))
 have HV := Lib.hid (show ∀ k, v.ownBlock = some k → w0.heap.size ≤ k from fun k e => (hown.lt e).1)
 have HB := Lib.hid (show Below w0.heap.size w0 (w.alloc (.cells #[.int .i64 r.ir,.int .i64 r.is,.int .i64 r.st,.int .i64 r.pn,.int .i64 r.pr,.int .i64 r.bn,.int .i64 r.br,.int .i64 r.c.k,.int .i64 r.c.tc,.int .i64 r.c.tn,.int .i64 r.c.tt,.int .i64 r.c.tk,.int .i64 r.c.sh, va, vb,.bool r.c.cm,.int .i64 r.sq,.int .i64 r.d0,.int .i64 r.d1,.int .i64 r.d2,.int .i64 r.d3,.int .i64 r.d4,.int .i64 r.d5,.int .i64 r.d6,.bool r.kp] 67)) from below_new hb0)
 have S0 := Lib.hid (show St (w.alloc (.cells #[.int .i64 r.ir,.int .i64 r.is,.int .i64 r.st,.int .i64 r.pn,.int .i64 r.pr,.int .i64 r.bn,.int .i64 r.br,.int .i64 r.c.k,.int .i64 r.c.tc,.int .i64 r.c.tn,.int .i64 r.c.tt,.int .i64 r.c.tk,.int .i64 r.c.sh, va, vb,.bool r.c.cm,.int .i64 r.sq,.int .i64 r.d0,.int .i64 r.d1,.int .i64 r.d2,.int .i64 r.d3,.int .i64 r.d4,.int .i64 r.d5,.int .i64 r.d6,.bool r.kp] 67)) w0.heap.size v (w.alloc (.cells #[.int .i64 r.ir,.int .i64 r.is,.int .i64 r.st,.int .i64 r.pn,.int .i64 r.pr,.int .i64 r.bn,.int .i64 r.br,.int .i64 r.c.k,.int .i64 r.c.tc,.int .i64 r.c.tn,.int .i64 r.c.tt,.int .i64 r.c.tk,.int .i64 r.c.sh, va, vb,.bool r.c.cm,.int .i64 r.sq,.int .i64 r.d0,.int .i64 r.d1,.int .i64 r.d2,.int .i64 r.d3,.int .i64 r.d4,.int .i64 r.d5,.int .i64 r.d6,.bool r.kp] 67)) v xs from St.new (hown.alloc _) (by simp; omega))
 have EB := Lib.hid (show Ext w (w.alloc (.cells #[.int .i64 r.ir,.int .i64 r.is,.int .i64 r.st,.int .i64 r.pn,.int .i64 r.pr,.int .i64 r.bn,.int .i64 r.br,.int .i64 r.c.k,.int .i64 r.c.tc,.int .i64 r.c.tn,.int .i64 r.c.tt,.int .i64 r.c.tk,.int .i64 r.c.sh, va, vb,.bool r.c.cm,.int .i64 r.sq,.int .i64 r.d0,.int .i64 r.d1,.int .i64 r.d2,.int .i64 r.d3,.int .i64 r.d4,.int .i64 r.d5,.int .i64 r.d6,.bool r.kp] 67)) v v from (Ext.refl _ _).alloc _)
 have HR := Lib.hid h
 have HW := Lib.hid h'
 clear h h' hb0 hown
 go_enter Tryz.func118, Tryz.ntmps118
 go_wp2_with
  (at_builtin
   refine wpList_append_own_at _ rfl _ _ 22 rfl w0.heap.size 5 i0 (.int .u8 0) 1 1 Tryz.underlying22 hi hz0 hz1 hz2 rfl (by decide) _ _ _ rfl (S0.out.own.alloc _) ⟨w.heap.size + 1, 0, none⟩ 1 1 [.int .u8 2] rfl rfl (cell_two_new _ _ _ _) (by simp [Value.oneCell']) (by unfold maxLen; omega) (by omega) (by simp; omega) ?_
   intro v1 w1 hown3 hgrow3 hnil3 hat3
   have S1 := Lib.hid (S0.out.push (n := 2) (by omega) _ hown3 hgrow3 hat3)
   clear hown3 hgrow3 hnil3 hat3
   have X1 := X0.out.st S1.out HF.out
   have l1 := X1.lt
   have p0 := X1.get 0 _ rfl
   have p1 := X1.get 1 _ rfl
   have p2 := X1.get 2 _ rfl
   clear X1)
 generalize (w.alloc _) = wB at *
 have L1 : (xs ++ [UInt8.ofNat 2]).length ≤ 501 := by simp; omega
 generalize hy : xs ++ [UInt8.ofNat 2] = y1 at S1 L1
 have Y1 := Lib.hid hy
 clear hy
 refine (S1.out.nums [r.ir, r.is, r.st] (M.nb3 F.ir F.is F.st) (by omega) (by simp)).mono ?_
 rintro e w2 ⟨v2, rfl, hs⟩
 have L2 : (y1 ++ M.numsZ [r.ir, r.is, r.st]).length ≤ 522 := by have := M.numsZ_len [r.ir, r.is, r.st]; simp at this ⊢; omega
 generalize hy : y1 ++ M.numsZ [r.ir, r.is, r.st] = y2 at hs L2
 have Y2 := Lib.hid hy
 have S2 := Lib.hid hs
 have X1 := X0.out.st hs HF.out
 clear hs hy S1 l1 p0 p1 p2
 have l1 := X1.lt
 have p3 := X1.get 3 _ rfl
 have p4 := X1.get 4 _ rfl
 clear X1
 go_wp2_with (fail)
 refine (S2.out.nums [r.pn, r.pr] (M.nb2 F.pn F.pr) (by omega) (by simp)).mono ?_
 rintro e w3 ⟨v3, rfl, hs⟩
 have L3 : (y2 ++ M.numsZ [r.pn, r.pr]).length ≤ 536 := by have := M.numsZ_len [r.pn, r.pr]; simp at this ⊢; omega
 generalize hy : y2 ++ M.numsZ [r.pn, r.pr] = y3 at hs L3
 have Y3 := Lib.hid hy
 have S3 := Lib.hid hs
 have X1 := X0.out.st hs HF.out
 clear hs hy S2 l1 p3 p4
 have l1 := X1.lt
 have p5 := X1.get 5 _ rfl
 have p6 := X1.get 6 _ rfl
 clear X1
 go_wp2_with (fail)
 refine (S3.out.nums [r.bn, r.br] (M.nb2 F.bn F.br) (by omega) (by simp)).mono ?_
 rintro e w4 ⟨v4, rfl, hs⟩
 have L4 : (y3 ++ M.numsZ [r.bn, r.br]).length ≤ 550 := by have := M.numsZ_len [r.bn, r.br]; simp at this ⊢; omega
 generalize hy : y3 ++ M.numsZ [r.bn, r.br] = y4 at hs L4
 have Y4 := Lib.hid hy
 have S4 := Lib.hid hs
 have X1 := X0.out.st hs HF.out
 clear hs hy S3 l1 p5 p6
 have l1 := X1.lt
 have p16 := X1.get 16 _ rfl
 clear X1
 go_wp2_with (fail)
 refine (S4.out.nums [r.sq] (M.nb1 F.sq) (by omega) (by simp)).mono ?_
 rintro e w5 ⟨v5, rfl, hs⟩
 have L5 : (y4 ++ M.numsZ [r.sq]).length ≤ 557 := by have := M.numsZ_len [r.sq]; simp at this ⊢; omega
 generalize hy : y4 ++ M.numsZ [r.sq] = y5 at hs L5
 have Y5 := Lib.hid hy
 have S5 := Lib.hid hs
 have X1 := X0.out.st hs HF.out
 clear hs hy S4 l1 p16
 have l1 := X1.lt
 have p17 := X1.get 17 _ rfl
 have p18 := X1.get 18 _ rfl
 have p19 := X1.get 19 _ rfl
 have p20 := X1.get 20 _ rfl
 have p21 := X1.get 21 _ rfl
 have p22 := X1.get 22 _ rfl
 have p23 := X1.get 23 _ rfl
 clear X1
 go_wp2_with (fail)
 refine (S5.out.ints (g := w.heap.size) (o := 17) [r.d0, r.d1, r.d2, r.d3, r.d4, r.d5, r.d6] (M.nb7 F.d0 F.d1 F.d2 F.d3 F.d4 F.d5 F.d6) l1 (by
  intro k hk
  match k, hk with
  | 0, _ => exact p17
  | 1, _ => exact p18
  | 2, _ => exact p19
  | 3, _ => exact p20
  | 4, _ => exact p21
  | 5, _ => exact p22
  | 6, _ => exact p23
  | k + 7, hk => simp at hk; omega) (S5.out.offs X0.out.lt HF.out) (by omega) (by simp)).mono ?_
 rintro e w6 ⟨v6, rfl, hs⟩
 have L6 : (y5 ++ M.numsZ [r.d0, r.d1, r.d2, r.d3, r.d4, r.d5, r.d6]).length ≤ 606 := by have := M.numsZ_len [r.d0, r.d1, r.d2, r.d3, r.d4, r.d5, r.d6]; simp at this ⊢; omega
 generalize hy : y5 ++ M.numsZ [r.d0, r.d1, r.d2, r.d3, r.d4, r.d5, r.d6] = y6 at hs L6
 have Y6 := Lib.hid hy
 have S6 := Lib.hid hs
 have X1 := X0.out.st hs HF.out
 clear hs hy S5 l1 p17 p18 p19 p20 p21 p22 p23
 have l1 := X1.lt
 have p24 := X1.get 24 _ rfl
 clear X1
 go_wp2_with (fail)
 refine (S6.out.flag r.kp (by omega)).mono ?_
 rintro e w7 ⟨v7, rfl, hs⟩
 have L7 : (y6 ++ M.flag r.kp).length ≤ 607 := by have := M.flag_len (r.kp); simp at this ⊢; omega
 generalize hy : y6 ++ M.flag r.kp = y7 at hs L7
 have Y7 := Lib.hid hy
 have S7 := Lib.hid hs
 have X1 := X0.out.st hs HF.out
 clear hs hy S6 l1 p24
 have l1 := X1.lt
 have p7 := X1.get 7 _ rfl
 have p8 := X1.get 8 _ rfl
 have p9 := X1.get 9 _ rfl
 have p10 := X1.get 10 _ rfl
 have p11 := X1.get 11 _ rfl
 have p12 := X1.get 12 _ rfl
 have p13 := X1.get 13 _ rfl
 have p14 := X1.get 14 _ rfl
 have p15 := X1.get 15 _ rfl
 clear X1
 go_wp2_with (fail)
 have HD := Lib.hid (S7.out.below HB.out HV.out)
 refine (S7.out.cmd r.c HR.out HW.out HD.out (by omega) F.c).mono ?_
 rintro e w9 ⟨v9, rfl, hs⟩
 have HE := Lib.hid (show y7 ++ M.encC r.c = xs ++ M.encR r by
  rw [← Y7.out, ← Y6.out, ← Y5.out, ← Y4.out, ← Y3.out, ← Y2.out, ← Y1.out]
  simp only [M.encR, List.append_assoc]
  rfl)
 rw [HE.out] at hs
 have S9 := Lib.hid hs
 clear hs l1 p7 p8 p9 p10 p11 p12 p13 p14 p15
 go_wp2
 go_ret
 exact ⟨_, rfl, S9.out.own, EB.out.trans S9.out.ext, by omega⟩
open Go.RowKit
theorem ta_yes33 (x : Value) (s : TypeId) (w : World) : (Instr.typeAssert (.iface 63 x) s 63 true).run Tryz.prog w = .ok (.tuple #[x,.bool true]) w := by
 simp [Instr.typeAssert, run_underlying Tryz.underlying63]
theorem ta_nil33 (s : TypeId) (w : World) : (Instr.typeAssert .nilIface s 63 true).run Tryz.prog w = .ok (.tuple #[.agg #[.int .i64 0,.int .i64 0,.int .i64 0,.int .i64 0,.int .i64 0,.int .i64 0,.slice none 0 0,.slice none 0 0,.bool false],.bool false]) w := by
 simp [Instr.typeAssert, run_underlying Tryz.underlying63]
theorem ta_no33_3 (x : Value) (s : TypeId) (w : World) : (Instr.typeAssert (.iface 3 x) s 63 true).run Tryz.prog w = .ok (.tuple #[.agg #[.int .i64 0,.int .i64 0,.int .i64 0,.int .i64 0,.int .i64 0,.int .i64 0,.slice none 0 0,.slice none 0 0,.bool false],.bool false]) w := by
 simp [Instr.typeAssert, run_underlying Tryz.underlying63]
theorem ta_no33_37 (x : Value) (s : TypeId) (w : World) : (Instr.typeAssert (.iface 67 x) s 63 true).run Tryz.prog w = .ok (.tuple #[.agg #[.int .i64 0,.int .i64 0,.int .i64 0,.int .i64 0,.int .i64 0,.int .i64 0,.slice none 0 0,.slice none 0 0,.bool false],.bool false]) w := by
 simp [Instr.typeAssert, run_underlying Tryz.underlying63]
theorem ta_no33_39 (x : Value) (s : TypeId) (w : World) : (Instr.typeAssert (.iface 95 x) s 63 true).run Tryz.prog w = .ok (.tuple #[.agg #[.int .i64 0,.int .i64 0,.int .i64 0,.int .i64 0,.int .i64 0,.int .i64 0,.slice none 0 0,.slice none 0 0,.bool false],.bool false]) w := by
 simp [Instr.typeAssert, run_underlying Tryz.underlying63]
theorem ta_yes37 (x : Value) (s : TypeId) (w : World) : (Instr.typeAssert (.iface 67 x) s 67 true).run Tryz.prog w = .ok (.tuple #[x,.bool true]) w := by
 simp [Instr.typeAssert, run_underlying Tryz.underlying67]
theorem ta_nil37 (s : TypeId) (w : World) : (Instr.typeAssert .nilIface s 67 true).run Tryz.prog w = .ok (.tuple #[.agg #[.int .i64 0,.int .i64 0,.int .i64 0,.int .i64 0,.int .i64 0,.int .i64 0,.int .i64 0,.int .i64 0,.int .i64 0,.int .i64 0,.int .i64 0,.int .i64 0,.int .i64 0,.slice none 0 0,.slice none 0 0,.bool false,.int .i64 0,.int .i64 0,.int .i64 0,.int .i64 0,.int .i64 0,.int .i64 0,.int .i64 0,.int .i64 0,.bool false],.bool false]) w := by
 simp [Instr.typeAssert, run_underlying Tryz.underlying67]
theorem ta_no37_3 (x : Value) (s : TypeId) (w : World) : (Instr.typeAssert (.iface 3 x) s 67 true).run Tryz.prog w = .ok (.tuple #[.agg #[.int .i64 0,.int .i64 0,.int .i64 0,.int .i64 0,.int .i64 0,.int .i64 0,.int .i64 0,.int .i64 0,.int .i64 0,.int .i64 0,.int .i64 0,.int .i64 0,.int .i64 0,.slice none 0 0,.slice none 0 0,.bool false,.int .i64 0,.int .i64 0,.int .i64 0,.int .i64 0,.int .i64 0,.int .i64 0,.int .i64 0,.int .i64 0,.bool false],.bool false]) w := by
 simp [Instr.typeAssert, run_underlying Tryz.underlying67]
theorem ta_no37_33 (x : Value) (s : TypeId) (w : World) : (Instr.typeAssert (.iface 63 x) s 67 true).run Tryz.prog w = .ok (.tuple #[.agg #[.int .i64 0,.int .i64 0,.int .i64 0,.int .i64 0,.int .i64 0,.int .i64 0,.int .i64 0,.int .i64 0,.int .i64 0,.int .i64 0,.int .i64 0,.int .i64 0,.int .i64 0,.slice none 0 0,.slice none 0 0,.bool false,.int .i64 0,.int .i64 0,.int .i64 0,.int .i64 0,.int .i64 0,.int .i64 0,.int .i64 0,.int .i64 0,.bool false],.bool false]) w := by
 simp [Instr.typeAssert, run_underlying Tryz.underlying67]
theorem ta_no37_39 (x : Value) (s : TypeId) (w : World) : (Instr.typeAssert (.iface 95 x) s 67 true).run Tryz.prog w = .ok (.tuple #[.agg #[.int .i64 0,.int .i64 0,.int .i64 0,.int .i64 0,.int .i64 0,.int .i64 0,.int .i64 0,.int .i64 0,.int .i64 0,.int .i64 0,.int .i64 0,.int .i64 0,.int .i64 0,.slice none 0 0,.slice none 0 0,.bool false,.int .i64 0,.int .i64 0,.int .i64 0,.int .i64 0,.int .i64 0,.int .i64 0,.int .i64 0,.int .i64 0,.bool false],.bool false]) w := by
 simp [Instr.typeAssert, run_underlying Tryz.underlying67]
theorem ta_yes39 (x : Value) (s : TypeId) (w : World) : (Instr.typeAssert (.iface 95 x) s 95 true).run Tryz.prog w = .ok (.tuple #[x,.bool true]) w := by
 simp [Instr.typeAssert, run_underlying Tryz.underlying95]
theorem ta_nil39 (s : TypeId) (w : World) : (Instr.typeAssert .nilIface s 95 true).run Tryz.prog w = .ok (.tuple #[.agg #[.int .i64 0,.int .i64 0,.int .i64 0,.int .i64 0,.int .i64 0,.int .i64 0,.int .i64 0,.int .i64 0,.int .i64 0,.int .i64 0,.int .i64 0,.int .i64 0,.int .i64 0,.int .i64 0,.int .i64 0,.int .i64 0,.int .i64 0,.int .i64 0,.slice none 0 0,.slice none 0 0,.bool false,.int .i64 0,.int .i64 0,.int .i64 0,.int .i64 0,.int .i64 0,.int .i64 0,.int .i64 0,.int .i64 0,.bool false],.bool false]) w := by
 simp [Instr.typeAssert, run_underlying Tryz.underlying95]
theorem ta_no39_3 (x : Value) (s : TypeId) (w : World) : (Instr.typeAssert (.iface 3 x) s 95 true).run Tryz.prog w = .ok (.tuple #[.agg #[.int .i64 0,.int .i64 0,.int .i64 0,.int .i64 0,.int .i64 0,.int .i64 0,.int .i64 0,.int .i64 0,.int .i64 0,.int .i64 0,.int .i64 0,.int .i64 0,.int .i64 0,.int .i64 0,.int .i64 0,.int .i64 0,.int .i64 0,.int .i64 0,.slice none 0 0,.slice none 0 0,.bool false,.int .i64 0,.int .i64 0,.int .i64 0,.int .i64 0,.int .i64 0,.int .i64 0,.int .i64 0,.int .i64 0,.bool false],.bool false]) w := by
 simp [Instr.typeAssert, run_underlying Tryz.underlying95]
theorem ta_no39_33 (x : Value) (s : TypeId) (w : World) : (Instr.typeAssert (.iface 63 x) s 95 true).run Tryz.prog w = .ok (.tuple #[.agg #[.int .i64 0,.int .i64 0,.int .i64 0,.int .i64 0,.int .i64 0,.int .i64 0,.int .i64 0,.int .i64 0,.int .i64 0,.int .i64 0,.int .i64 0,.int .i64 0,.int .i64 0,.int .i64 0,.int .i64 0,.int .i64 0,.int .i64 0,.int .i64 0,.slice none 0 0,.slice none 0 0,.bool false,.int .i64 0,.int .i64 0,.int .i64 0,.int .i64 0,.int .i64 0,.int .i64 0,.int .i64 0,.int .i64 0,.bool false],.bool false]) w := by
 simp [Instr.typeAssert, run_underlying Tryz.underlying95]
theorem ta_no39_37 (x : Value) (s : TypeId) (w : World) : (Instr.typeAssert (.iface 67 x) s 95 true).run Tryz.prog w = .ok (.tuple #[.agg #[.int .i64 0,.int .i64 0,.int .i64 0,.int .i64 0,.int .i64 0,.int .i64 0,.int .i64 0,.int .i64 0,.int .i64 0,.int .i64 0,.int .i64 0,.int .i64 0,.int .i64 0,.int .i64 0,.int .i64 0,.int .i64 0,.int .i64 0,.int .i64 0,.slice none 0 0,.slice none 0 0,.bool false,.int .i64 0,.int .i64 0,.int .i64 0,.int .i64 0,.int .i64 0,.int .i64 0,.int .i64 0,.int .i64 0,.bool false],.bool false]) w := by
 simp [Instr.typeAssert, run_underlying Tryz.underlying95]
theorem must_yes (x : Value) (s : TypeId) (w : World) : (Instr.typeAssert (.iface 67 x) s 67 false).run Tryz.prog w = .ok x w := by
 simp [Instr.typeAssert, run_underlying Tryz.underlying67]
def taP (w : World) : Value := .iface 15 (.pointer (some ⟨w.heap.size, 0, none⟩))
open Go.RowKit
theorem fresh_set (w : World) (t : TypeId) : ∀ (L P Z : List Value), Z.length = L.length → (w.alloc (.cells (P ++ Z).toArray t)).setCells w.heap.size P.length L = w.alloc (.cells (P ++ L).toArray t)
 | [], P, Z, h => by
   have : Z = [] := List.length_eq_zero_iff.1 h
   subst this; rfl
 | v :: r, P, [], h => by simp at h
 | v :: r, P, z :: Z, h => by
   rw [World.setCells, World.setCell_alloc_new]
   have e : (P ++ z :: Z).toArray.setIfInBounds P.length v = ((P ++ [v]) ++ Z).toArray := by
    apply Array.toList_inj.1
    simp
   rw [e]
   have := fresh_set w t r (P ++ [v]) Z (by simpa using h)
   rw [List.length_append] at this
   simp only [List.length_cons, List.length_nil, Nat.zero_add] at this
   rw [this]
   simp
theorem fresh_there (w : World) (t : TypeId) (Z : List Value) : (w.alloc (.cells Z.toArray t)).there w.heap.size 0 Z.length := fun j hj => by
 constructor
 ·simp [hj]
 ·simp [go_sem]
theorem wpList_store_fresh {P : Program} {ops : Array Oper} {rest : List Oper} {op : Oper} {a : Act} {w : World} {Q : Exit → Act → World → Prop} (hgd : op.guard = none) (ty : TypeId) (x y : Operand) (ho : op.op = .store ty x y)
 (b : Nat) (hb : b = w.heap.size) (t : TypeId) (Z L : List Value) (hx : a.eval x = .pointer (some ⟨b, 0, none⟩)) (hy : a.eval y = .agg L.toArray)
 (hl : Z.length = L.length) (hi : (P.info? ty).map (·.size) = some L.length) (h1 : L.all (·.oneCell') = true)
 (h : wpList P ops Q rest (a.put op.dst undef) (w.alloc (.cells L.toArray t))) : wpList P ops Q (op :: rest) a (w.alloc (.cells Z.toArray t)) := by
 subst hb
 refine wpList_store_mid hgd ty x y ho w.heap.size 0 L.toArray hx hy ?_ (by simpa using hi) (by simpa using h1) ?_
 ·have := fresh_there w t Z
  rw [hl] at this
  simpa using this
 ·have e := fresh_set w t L [] Z hl
  simp only [List.nil_append, List.length_nil] at e
  simp only []
  rw [e]
  exact h
open Go.RowKit
attribute [local go_sem ↓] ta_yes33 ta_nil33 ta_yes37 ta_nil37 ta_yes39 ta_nil39 ta_no33_3 ta_no33_37 ta_no33_39 ta_no37_3 ta_no37_33 ta_no37_39 ta_no39_3 ta_no39_33 ta_no39_37
def Made8 (xs : List UInt8) (w : World) (e : Ending) (w' : World) : Prop := ∃ v, e = .returned v ∧ Own w' w.heap.size v xs ∧ Below w.heap.size w w'
theorem Stp.made {w0 w w' : World} {ys : List UInt8} {e : Ending} (hb : Below w0.heap.size w0 w) (h : Stp w w0.heap.size (.slice none 0 0) ys e w') : Made8 ys w0 e w' := by
 obtain ⟨y, e, hs⟩ := h
 exact ⟨y, e, hs.own, hs.below hb (fun k e => by cases e)⟩
theorem bytesOf_rec {w : World} (r : M.Rec) {va vb : Value} (h : Rds w va r.c.rs) (h' : Wrs w vb r.c.ws) (F : M.FitsR r) : Calls Tryz.prog 96 #[.iface 67 (.agg #[.int .i64 r.ir,.int .i64 r.is,.int .i64 r.st,.int .i64 r.pn,.int .i64 r.pr,.int .i64 r.bn,.int .i64 r.br,.int .i64 r.c.k,.int .i64 r.c.tc,.int .i64 r.c.tn,.int .i64 r.c.tt,.int .i64 r.c.tk,.int .i64 r.c.sh, va, vb,.bool r.c.cm,.int .i64 r.sq,.int .i64 r.d0,.int .i64 r.d1,.int .i64 r.d2,.int .i64 r.d3,.int .i64 r.d4,.int .i64 r.d5,.int .i64 r.d6,.bool r.kp])] w (Made8 (M.encR r) w) := by
 have HR := Lib.hid h
 have HW := Lib.hid h'
 obtain ⟨A, c1, rfl, -, -⟩ := h.opened
 obtain ⟨A', c2, rfl, -, -⟩ := h'.opened
 have RG := Lib.hid ((Cel.new w [.int .i64 r.ir,.int .i64 r.is,.int .i64 r.st,.int .i64 r.pn,.int .i64 r.pr,.int .i64 r.bn,.int .i64 r.br,.int .i64 r.c.k,.int .i64 r.c.tc,.int .i64 r.c.tn,.int .i64 r.c.tt,.int .i64 r.c.tk,.int .i64 r.c.sh, (.slice A r.c.rs.length c1), (.slice A' r.c.ws.length c2),.bool r.c.cm,.int .i64 r.sq,.int .i64 r.d0,.int .i64 r.d1,.int .i64 r.d2,.int .i64 r.d3,.int .i64 r.d4,.int .i64 r.d5,.int .i64 r.d6,.bool r.kp] 67).whole)
 have B0 := Lib.hid (below_new (o := .cells #[.int .i64 r.ir,.int .i64 r.is,.int .i64 r.st,.int .i64 r.pn,.int .i64 r.pr,.int .i64 r.bn,.int .i64 r.br,.int .i64 r.c.k,.int .i64 r.c.tc,.int .i64 r.c.tn,.int .i64 r.c.tt,.int .i64 r.c.tk,.int .i64 r.c.sh, (.slice A r.c.rs.length c1), (.slice A' r.c.ws.length c2),.bool r.c.cm,.int .i64 r.sq,.int .i64 r.d0,.int .i64 r.d1,.int .i64 r.d2,.int .i64 r.d3,.int .i64 r.d4,.int .i64 r.d5,.int .i64 r.d6,.bool r.kp] 67) (Below.refl w.heap.size w))
 clear h h'
 go_enter Tryz.func96, Tryz.ntmps96
 go_wp2_with (first
  | (with_reducible refine wpList_store_fresh rfl 67 _ _ rfl w.heap.size rfl 67 _ [.int .i64 r.ir,.int .i64 r.is,.int .i64 r.st,.int .i64 r.pn,.int .i64 r.pr,.int .i64 r.bn,.int .i64 r.br,.int .i64 r.c.k,.int .i64 r.c.tc,.int .i64 r.c.tn,.int .i64 r.c.tt,.int .i64 r.c.tk,.int .i64 r.c.sh, (.slice A r.c.rs.length c1), (.slice A' r.c.ws.length c2),.bool r.c.cm,.int .i64 r.sq,.int .i64 r.d0,.int .i64 r.d1,.int .i64 r.d2,.int .i64 r.d3,.int .i64 r.d4,.int .i64 r.d5,.int .i64 r.d6,.bool r.kp] rfl rfl rfl (by kernel_rfl) rfl ?_)
  | (with_reducible refine wpList_load_mid rfl 67 _ rfl w.heap.size 0 rfl _ _ RG.out Tryz.underlying67 rfl (by kernel_rfl) ?_))
 refine (putRecord_any (w0 := w) r HR.out HW.out B0.out (Own.nil _ _) (by simp) F).mono ?_
 rintro e w1 hs
 have K := Stp.made B0.out hs
 obtain ⟨y, rfl, -⟩ := hs
 have K := Lib.hid K
 go_wp2
 go_ret
 exact K.out
end Go.Proofs.YtdachohcjpjblaaGreatDoor.Wi
