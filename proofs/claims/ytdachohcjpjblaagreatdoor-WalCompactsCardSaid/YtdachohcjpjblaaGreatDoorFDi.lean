/- Disks: plain facts, rows of bytes in memory, contracts of the program's functions; no conditions but what may be. -/
import Derived.Test.YtdachohcjpjblaaGreatDoorRows
import Derived.WalkKit
import Derived.WalkSpells
import Derived.Lib.Hide
import Derived.Lib.OthersKept
import Derived.BigCall
import Derived.BigQuiet
import Derived.Deep.QuietTactic
import Derived.Laws.AppendOwn
import Derived.Laws.CopyOwn
import Derived.OwnWalk
import Derived.Lib.AppendZerosOnto
import Derived.Lib.SliceRun
import Derived.IntWalk
import Derived.Deep.RegionWith
set_option maxHeartbeats 8000000
set_option maxRecDepth 100000
namespace Go.Proofs.YtdachohcjpjblaaGreatDoor.Di.M
structure St where
 z : Nat
 bs : List UInt8
 k : Nat
structure Do where
 verb : Int
 n : Int
 pos : Int
 mask : UInt8
 b : List UInt8
def Ok (s : St) : Prop := s.bs.length ≤ s.z ∧ s.z ≤ 1048576 ∧ s.k ≤ s.bs.length
def app (b : List UInt8) (s : St) : St := if s.bs.length + b.length ≤ s.z then ⟨s.z, s.bs ++ b, s.k⟩ else s
def appE (b : List UInt8) (s : St) : Int := if s.bs.length + b.length ≤ s.z then 0 else 7
def syn (s : St) : St := ⟨s.z, s.bs, s.bs.length⟩
def cut (n : Int) (s : St) : St := if 0 ≤ n ∧ n ≤ s.bs.length then ⟨s.z, s.bs.take n.toNat, min s.k n.toNat⟩ else s
def cutE (n : Int) (s : St) : Int := if 0 ≤ n ∧ n ≤ s.bs.length then 0 else 2
def rep (b : List UInt8) (s : St) : St := if b.length ≤ s.z then ⟨s.z, b, b.length⟩ else s
def repE (b : List UInt8) (s : St) : Int := if b.length ≤ s.z then 0 else 7
def left (keep : Int) (s : St) : Nat := min (max keep 0).toNat (s.bs.length - s.k)
def fell (keep pos : Int) (mask : UInt8) (s : St) : List UInt8 :=
 if 0 ≤ pos ∧ pos < left keep s then (s.bs.take (s.k + left keep s)).set (s.k + pos.toNat) (s.bs.getD (s.k + pos.toNat) 0 ^^^ mask) else s.bs.take (s.k + left keep s)
def crash (keep pos : Int) (mask : UInt8) (s : St) : St := ⟨s.z, fell keep pos mask s, s.k + left keep s⟩
def step (s : St) (d : Do) : St :=
 if d.verb = 0 then app d.b s else if d.verb = 1 then syn s else if d.verb = 2 then cut d.n s else if d.verb = 3 then rep d.b s else if d.verb = 4 then crash d.n d.pos d.mask s else s
def err (s : St) (d : Do) : Int :=
 if d.verb = 0 then appE d.b s else if d.verb = 2 then cutE d.n s else if d.verb = 3 then repE d.b s else 0
def steps (s : St) (l : List Do) : St := l.foldl step s
def alike (s t : St) (d : Do) : Bool := decide (err s d = err t d)
theorem left_le (keep : Int) (s : St) : left keep s ≤ s.bs.length - s.k := by unfold left; omega
theorem fell_len {keep pos : Int} {mask : UInt8} {s : St} (h : Ok s) : (fell keep pos mask s).length = s.k + left keep s := by
 have := left_le keep s
 have h3 := h.2.2
 unfold fell
 split <;> simp <;> omega
theorem Ok.app {s : St} (h : Ok s) (b : List UInt8) : Ok (app b s) := by
 unfold M.app; split
 ·exact ⟨by simpa using ‹_›, h.2.1, by simp; have := h.2.2; omega⟩
 ·exact h
theorem Ok.syn {s : St} (h : Ok s) : Ok (syn s) := ⟨h.1, h.2.1, Nat.le_refl _⟩
theorem Ok.cut {s : St} (h : Ok s) (n : Int) : Ok (cut n s) := by
 unfold M.cut; split
 ·have h1 := h.1
  have h3 := h.2.2
  refine ⟨?_, h.2.1, ?_⟩ <;> simp <;> omega
 ·exact h
def nil (z : Nat) : St := ⟨z, [], 0⟩
theorem ok_nil {z : Nat} (h : z ≤ 1048576) : Ok (nil z) := ⟨Nat.zero_le _, h, Nat.zero_le _⟩
theorem step_app {s : St} {d : Do} (h : d.verb = 0) : step s d = app d.b s := by simp [step, h]
def loose (l : List UInt8) (pos : Int) (mask : UInt8) (i : Nat) : List UInt8 := (List.range i).map fun (j : Nat) => if (j : Int) = pos then l.getD j 0 ^^^ mask else l.getD j 0
end Go.Proofs.YtdachohcjpjblaaGreatDoor.Di.M
namespace Go.Proofs.YtdachohcjpjblaaGreatDoor.Di
open Go.RowKit
theorem ret_int {k : IntKind} {a b : Int} (h : a = b) : Ending.returned (.int k a) = .returned (.int k b) := by rw [h]
theorem ret_bool {a b : Bool} (h : a = b) : Ending.returned (.bool a) = .returned (.bool b) := by rw [h]
theorem below_on {a b c : World} (h : Below a.heap.size a b) (k : Below b.heap.size b c) : Below a.heap.size a c := h.trans (k.mono h.size)
theorem below_new {a b : World} {o : Obj} (h : Below a.heap.size a b) : Below a.heap.size a (b.alloc o) := h.alloc h.size _
theorem below_drewN {a w : World} {B : Nat} (h : Below B a w) (n : Nat) : Below B a (w.drewN n) := ⟨h.os, h.tape, h.output, h.size, h.block⟩
structure Keeps (F : Nat → Prop) (w w' : World) : Prop where
 os : w'.os = w.os
 tape : w'.tape = w.tape
 output : w'.output = w.output
 size : w.heap.size ≤ w'.heap.size
 block : ∀ k, k < w.heap.size → ¬ F k → w'.heap[k]? = w.heap[k]?
theorem Keeps.refl (F : Nat → Prop) (w : World) : Keeps F w w := ⟨rfl, rfl, rfl, Nat.le_refl _, fun _ _ _ => rfl⟩
theorem Keeps.trans {F G : Nat → Prop} {a b c : World} (h : Keeps F a b) (k : Keeps G b c) (hg : ∀ x, x < a.heap.size → G x → F x) : Keeps F a c :=
 ⟨k.os.trans h.os, k.tape.trans h.tape, k.output.trans h.output, Nat.le_trans h.size k.size, fun i hi hf => (k.block i (Nat.lt_of_lt_of_le hi h.size) (fun e => hf (hg i hi e))).trans (h.block i hi hf)⟩
theorem Keeps.of_below {F : Nat → Prop} {w w' : World} (h : Below w.heap.size w w') : Keeps F w w' := ⟨h.os, h.tape, h.output, h.size, fun k hk _ => h.block k hk⟩
theorem Keeps.below {F : Nat → Prop} {w w' : World} {B : Nat} (h : Keeps F w w') (hF : ∀ x, F x → B ≤ x) (hB : B ≤ w.heap.size) : Below B w w' :=
 ⟨h.os, h.tape, h.output, h.size, fun k hk => h.block k (by omega) (fun e => by have := hF k e; omega)⟩
theorem Keeps.of_grown {F : Nat → Prop} {w w' : World} {row : Option Nat} (h : w.grownBy w' row) (hr : ∀ x, row = some x → F x) : Keeps F w w' :=
 ⟨h.os, h.tape, h.output, h.size, fun k hk hf => h.block k hk (fun e => hf (hr k e.symm))⟩
theorem Keeps.setCell {F : Nat → Prop} {a w : World} (h : Keeps F a w) {p : Addr} (hp : F p.block ∨ a.heap.size ≤ p.block) (u : Value) : Keeps F a (w.setCell p u) :=
 ⟨h.os, h.tape, h.output, by rw [show (w.setCell p u).heap.size = w.heap.size by simp [World.setCell]]; exact h.size, fun k hk hf => (Below.heap_setCell w p u k (fun e => by
  subst e
  rcases hp with hp | hp
  ·exact hf hp
  ·omega)).trans (h.block k hk hf)⟩
theorem Keeps.alloc {F : Nat → Prop} {a w : World} (h : Keeps F a w) (o : Obj) : Keeps F a (w.alloc o) :=
 ⟨h.os, h.tape, h.output, Nat.le_trans h.size (by simp), fun k hk hf => (Below.heap_alloc w o k (Nat.lt_of_lt_of_le hk h.size)).trans (h.block k hk hf)⟩
theorem Keeps.wide {F G : Nat → Prop} {a w : World} (h : Keeps F a w) (hg : ∀ x, x < a.heap.size → F x → G x) : Keeps G a w := (Keeps.refl G a).trans h hg
theorem Keeps.on {F : Nat → Prop} {a b c : World} (h : Keeps F a b) (k : Below b.heap.size b c) : Keeps F a c := h.trans (Keeps.of_below (F := F) k) fun _ _ e => e
theorem Keeps.cell {F : Nat → Prop} {w w' : World} (h : Keeps F w w') {p : Addr} (hp : p.block < w.heap.size) (hf : ¬ F p.block) : w'.cell? p = w.cell? p := World.cell?_of_block (w := w) (h.block p.block hp hf)
def Row (w : World) (v : Value) (xs : List Value) : Prop := ∃ (A : Option Addr) (c : Nat), v = .slice A xs.length c ∧ xs.length ≤ c ∧ (0 < xs.length → ∃ b o, A = some ⟨b, o, none⟩ ∧ b < w.heap.size ∧ ∀ k x, xs[k]? = some x → w.cell? ⟨b, o + k, none⟩ = some x)
theorem Row.below {w w' : World} {v : Value} {xs : List Value} (h : Row w v xs) (hb : Below w.heap.size w w') : Row w' v xs := by
 obtain ⟨A, c, e, hl, hc⟩ := h
 refine ⟨A, c, e, hl, fun h0 => ?_⟩
 obtain ⟨b, o, e1, hlt, hx⟩ := hc h0
 exact ⟨b, o, e1, Nat.lt_of_lt_of_le hlt hb.size, fun k x hk => (hb.cell hlt).trans (hx k x hk)⟩
def In (R : Nat → Prop) (v : Value) : Prop := ∀ b, v.ownBlock = some b → R b
theorem In.nil (R : Nat → Prop) (n c : Nat) : In R (.slice none n c) := fun b e => by simp [Value.ownBlock] at e
theorem In.mk {R : Nat → Prop} {b o n c : Nat} (h : R b) : In R (.slice (some ⟨b, o, none⟩) n c) := fun x e => by simp [Value.ownBlock] at e; exact e ▸ h
theorem In.at_ {R : Nat → Prop} {b o n c : Nat} (h : In R (.slice (some ⟨b, o, none⟩) n c)) : R b := h b rfl
theorem Row.keeps {w w' : World} {v : Value} {xs : List Value} {F R : Nat → Prop} (h : Row w v xs) (hr : In R v) (hb : Keeps F w w') (hf : ∀ x, R x → ¬ F x) : Row w' v xs := by
 obtain ⟨A, c, e, hl, hc⟩ := h
 refine ⟨A, c, e, hl, fun h0 => ?_⟩
 obtain ⟨b, o, e1, hlt, hx⟩ := hc h0
 subst e e1
 exact ⟨b, o, rfl, Nat.lt_of_lt_of_le hlt hb.size, fun k x hk => (hb.cell (p := ⟨b, o + k, none⟩) hlt (hf b hr.at_)).trans (hx k x hk)⟩
theorem Row.of_owns {w : World} {base : Nat} {t : TypeId} {v : Value} {n : Nat} {xs : List Value} (h : w.ownsRow base t 1 v n xs) : Row w v xs := by
 obtain ⟨hl, h2⟩ := h
 rw [Nat.mul_one] at hl
 rcases h2 with ⟨rfl, rfl⟩ | ⟨g, cap, cur, rfl, hb, hg, hn, hm, hs, ht⟩
 ·exact ⟨none, 0, by rw [hl], by omega, fun h => absurd h (by omega)⟩
 ·refine ⟨some ⟨g, 0, none⟩, cap, by rw [hl], by omega, fun _ => ⟨g, 0, rfl, (Array.getElem?_eq_some_iff.1 hg).1, fun k x hx => ?_⟩⟩
  have hk : k < xs.length := (List.getElem?_eq_some_iff.1 hx).1
  have h1 : (cur.toList.take (n * 1))[k]? = some x := by rw [ht]; exact hx
  rw [List.getElem?_take_of_lt (by omega), Array.getElem?_toList] at h1
  simp only [World.cell?, hg, Nat.zero_add, Option.isSome_none, Bool.false_eq_true, if_false]
  exact h1
def enc8 (x : UInt8) : Value := .int .u8 (x.toNat : Int)
def Bts (w : World) (v : Value) (xs : List UInt8) : Prop := Row w v (xs.map enc8)
theorem Bts.below {w w' : World} {v : Value} {xs : List UInt8} (h : Bts w v xs) (hb : Below w.heap.size w w') : Bts w' v xs := Row.below h hb
theorem Bts.keeps {w w' : World} {v : Value} {xs : List UInt8} {F R : Nat → Prop} (h : Bts w v xs) (hr : In R v) (hb : Keeps F w w') (hf : ∀ x, R x → ¬ F x) : Bts w' v xs := Row.keeps h hr hb hf
theorem Bts.keeps0 {w w' : World} {v : Value} {xs : List UInt8} {F R : Nat → Prop} (h : Bts w v xs) (hr : xs ≠ [] → In R v) (hb : Keeps F w w') (hf : ∀ x, R x → ¬ F x) : Bts w' v xs := by
 by_cases h0 : xs = []
 ·subst h0
  obtain ⟨A, c, e, hl, hc⟩ := h
  exact ⟨A, c, e, hl, fun h => absurd h (by simp)⟩
 ·exact h.keeps (hr h0) hb hf
theorem Bts.opened {w : World} {v : Value} {xs : List UInt8} (h : Bts w v xs) : ∃ (A : Option Addr) (c : Nat), v = .slice A xs.length c ∧ xs.length ≤ c ∧ (0 < xs.length → ∃ b o, A = some ⟨b, o, none⟩ ∧ b < w.heap.size ∧
 ∀ k, k < xs.length → w.cell? ⟨b, o + k, none⟩ = some (.int .u8 ((xs.getD k 0).toNat : Int))) := by
 obtain ⟨A, c, e, hl, hc⟩ := h
 rw [List.length_map] at e hl hc
 refine ⟨A, c, e, hl, fun h0 => ?_⟩
 obtain ⟨b, o, e1, hlt, hx⟩ := hc h0
 refine ⟨b, o, e1, hlt, fun k hk => hx k _ ?_⟩
 rw [List.getElem?_map, List.getElem?_eq_getElem hk, List.getD, List.getElem?_eq_getElem hk]; rfl
theorem Bts.nil (w : World) (A : Option Addr) (c : Nat) : Bts w (.slice A 0 c) [] := ⟨A, c, rfl, Nat.zero_le _, fun h => absurd h (by simp)⟩
theorem Bts.len {w : World} {A : Option Addr} {n c : Nat} {xs : List UInt8} (h : Bts w (.slice A n c) xs) : xs.length = n ∧ n ≤ c := by
 obtain ⟨A', c', e, hc, hx⟩ := h
 simp only [Value.slice.injEq, List.length_map] at e hc
 obtain ⟨rfl, rfl, rfl⟩ := e
 exact ⟨rfl, hc⟩
theorem Bts.take {w : World} {A : Option Addr} {n c : Nat} {xs : List UInt8} (h : Bts w (.slice A n c) xs) (m : Nat) (hm : m ≤ n) : Bts w (.slice A m c) (xs.take m) := by
 obtain ⟨A', c', e, hc, hx⟩ := h
 simp only [Value.slice.injEq, List.length_map] at e hc hx
 obtain ⟨rfl, rfl, rfl⟩ := e
 refine ⟨A, c, by simp; omega, by simp; omega, fun h0 => ?_⟩
 obtain ⟨b, o, e, hb, hy⟩ := hx (by simp at h0; omega)
 refine ⟨b, o, e, hb, fun k x hk => hy k x ?_⟩
 have hkm : k < m := by have := (List.getElem?_eq_some_iff.1 hk).1; simp at this; omega
 rw [List.map_take, List.getElem?_take_of_lt hkm] at hk
 exact hk
theorem info5 : (Tryz.prog.info? 5).map (fun i => (i.zero, i.size, i.bytes)) = some (some (.int .u8 0), 1, 1) := by kernel_rfl
theorem one_enc (xs : List UInt8) : ∀ u ∈ xs.map enc8, u.oneCell' = true := by
 intro u hu
 rw [List.mem_map] at hu
 obtain ⟨x, _, rfl⟩ := hu
 rfl
theorem add_plain' (b o k : Nat) : (⟨b, o, none⟩ : Addr).add k = ⟨b, o + k, none⟩ := Addr.add_lit ..
theorem byte_lt (x : UInt8) : x.toNat < 256 := x.toNat_lt
theorem wrap8 (n : Int) : IntKind.u8.wrap n = n % 256 := by
 simp [IntKind.wrap, IntKind.bits, IntKind.signed]
def Blk (w : World) (g : Nat) (cs : List UInt8) : Prop := w.heap[g]? = some (.cells (cs.map enc8).toArray 5 (0, 0))
theorem Blk.lt {w : World} {g : Nat} {cs : List UInt8} (h : Blk w g cs) : g < w.heap.size := (Array.getElem?_eq_some_iff.1 h).1
theorem Blk.below {w w' : World} {g : Nat} {cs : List UInt8} (h : Blk w g cs) (hb : Below w.heap.size w w') : Blk w' g cs := (hb.block g h.lt).trans h
theorem Blk.keeps {w w' : World} {g : Nat} {cs : List UInt8} {F : Nat → Prop} (h : Blk w g cs) (hb : Keeps F w w') (hf : ¬ F g) : Blk w' g cs := (hb.block g h.lt hf).trans h
theorem Blk.cell {w : World} {g : Nat} {cs : List UInt8} (h : Blk w g cs) {k : Nat} {x : UInt8} (hk : cs[k]? = some x) : w.cell? ⟨g, k, none⟩ = some (enc8 x) := by
 unfold Blk at h
 simp only [World.cell?, h, Option.isSome_none, Bool.false_eq_true, if_false]
 simp [hk]
theorem Blk.at_ {w : World} {g : Nat} {cs : List UInt8} (h : Blk w g cs) {k : Nat} (hk : k < cs.length) : w.cell? ⟨g, k, none⟩ = some (.int .u8 ((cs.getD k 0).toNat : Int)) := by
 refine h.cell ?_
 rw [List.getD, List.getElem?_eq_getElem hk]; rfl
theorem Blk.unfrozen {w : World} {g : Nat} {cs : List UInt8} (h : Blk w g cs) (k : Nat) : w.frozen? ⟨g, k, none⟩ = false := frozen_of_row w g k _ 5 h
theorem Blk.bts {w : World} {g : Nat} {cs : List UInt8} (h : Blk w g cs) : Bts w (.slice (some ⟨g, 0, none⟩) cs.length cs.length) cs := by
 refine ⟨some ⟨g, 0, none⟩, cs.length, by simp, by simp, fun _ => ⟨g, 0, rfl, h.lt, fun k x hk => ?_⟩⟩
 rw [List.getElem?_map, Option.map_eq_some_iff] at hk
 obtain ⟨y, hy, rfl⟩ := hk
 rw [Nat.zero_add]
 exact h.cell hy
theorem Blk.made (w : World) (n : Nat) : Blk (w.alloc (.cells (madeCells #[.int .u8 0] n) 5)) w.heap.size (List.replicate n 0) := by
 unfold Blk
 rw [heap_alloc_new]
 have h := toList_madeCells_one (.int .u8 0) n
 have : madeCells #[.int .u8 0] n = ((List.replicate n (0 : UInt8)).map enc8).toArray := by
  apply Array.toList_inj.1
  rw [h]
  simp [enc8]
 rw [this]
theorem Blk.set {w : World} {g : Nat} {cs : List UInt8} (h : Blk w g cs) (k : Nat) (x : UInt8) : Blk (w.setCell ⟨g, k, none⟩ (enc8 x)) g (cs.set k x) := by
 unfold Blk at h ⊢
 rw [heap_setCell_same w g k _ 5 _ h]
 simp [List.map_set]
def OwnB (F : Nat → Prop) (w : World) (v : Value) (xs : List UInt8) : Prop :=
 (v = .slice none 0 0 ∧ xs = []) ∨ ∃ b cap cur, v = .slice (some ⟨b, 0, none⟩) xs.length cap ∧ F b ∧ w.heap[b]? = some (.cells cur 5 (0, 0)) ∧ xs.length ≤ cap ∧ cap ≤ cur.size ∧ cur.toList.take xs.length = xs.map enc8
theorem OwnB.nil (F : Nat → Prop) (w : World) : OwnB F w (.slice none 0 0) [] := .inl ⟨rfl, rfl⟩
theorem OwnB.slice {F : Nat → Prop} {w : World} {v : Value} {xs : List UInt8} (h : OwnB F w v xs) : ∃ A c, v = .slice A xs.length c ∧ xs.length ≤ c := by
 rcases h with ⟨rfl, rfl⟩ | ⟨b, cap, cur, rfl, _, _, hn, _⟩
 ·exact ⟨none, 0, rfl, Nat.le_refl _⟩
 ·exact ⟨_, _, rfl, hn⟩
theorem OwnB.bts {F : Nat → Prop} {w : World} {v : Value} {xs : List UInt8} (h : OwnB F w v xs) : Bts w v xs := by
 rcases h with ⟨rfl, rfl⟩ | ⟨b, cap, cur, rfl, _, hg, hn, hc, ht⟩
 ·exact Bts.nil _ _ _
 ·refine ⟨some ⟨b, 0, none⟩, cap, by simp, by simpa using hn, fun _ => ⟨b, 0, rfl, (Array.getElem?_eq_some_iff.1 hg).1, fun k x hx => ?_⟩⟩
  have hk : k < xs.length := by simpa using (List.getElem?_eq_some_iff.1 hx).1
  rw [← ht, List.getElem?_take_of_lt (by omega), Array.getElem?_toList] at hx
  simp only [World.cell?, hg, Nat.zero_add, Option.isSome_none, Bool.false_eq_true, if_false]
  exact hx
theorem OwnB.in_ {F : Nat → Prop} {w : World} {v : Value} {xs : List UInt8} (h : OwnB F w v xs) : In F v := by
 rcases h with ⟨rfl, rfl⟩ | ⟨b, cap, cur, rfl, hf, _⟩
 ·exact In.nil _ _ _
 ·exact In.mk hf
theorem OwnB.wide {F G : Nat → Prop} {w : World} {v : Value} {xs : List UInt8} (h : OwnB F w v xs) (hg : ∀ x, F x → G x) : OwnB G w v xs := by
 rcases h with h | ⟨b, cap, cur, e, hf, r⟩
 ·exact .inl h
 ·exact .inr ⟨b, cap, cur, e, hg _ hf, r⟩
theorem OwnB.keeps' {F G : Nat → Prop} {w w' : World} {v : Value} {xs : List UInt8} (h : OwnB F w v xs) (hb : Keeps G w w') (hg : ∀ b, v.ownBlock = some b → ¬ G b) : OwnB F w' v xs := by
 rcases h with h | ⟨b, cap, cur, rfl, hf, hh, r⟩
 ·exact .inl h
 ·exact .inr ⟨b, cap, cur, rfl, hf, (hb.block b (Array.getElem?_eq_some_iff.1 hh).1 (hg b rfl)).trans hh, r⟩
theorem OwnB.keeps {F G : Nat → Prop} {w w' : World} {v : Value} {xs : List UInt8} (h : OwnB F w v xs) (hb : Keeps G w w') (hg : ∀ x, F x → ¬ G x) : OwnB F w' v xs := h.keeps' hb fun b e => hg b (h.in_ b e)
theorem OwnB.cut {F : Nat → Prop} {w : World} {A : Option Addr} {n c : Nat} {xs : List UInt8} (h : OwnB F w (.slice A n c) xs) {m c' : Nat} (hm : m ≤ n) (hc : m ≤ c') (hc' : c' ≤ c) : OwnB F w (.slice A m c') (xs.take m) := by
 rcases h with ⟨e, rfl⟩ | ⟨b, cap, cur, e, hf, hh, hn, hs, ht⟩
 ·cases e
  obtain rfl : m = 0 := by omega
  obtain rfl : c' = 0 := by omega
  exact .inl ⟨rfl, rfl⟩
 ·cases e
  refine .inr ⟨b, c', cur, ?_, hf, hh, ?_, by omega, ?_⟩
  ·simp; omega
  ·simp; omega
  ·rw [List.map_take, ← ht, List.take_take, List.length_take]
theorem Blk.own {F : Nat → Prop} {w : World} {g : Nat} {cs : List UInt8} (h : Blk w g cs) (hf : F g) : OwnB F w (.slice (some ⟨g, 0, none⟩) cs.length cs.length) cs :=
 .inr ⟨g, cs.length, _, rfl, hf, h, Nat.le_refl _, by simp, by simp; exact List.take_of_length_le (by simp)⟩
theorem OwnB.of_owns {F : Nat → Prop} {w : World} {base n : Nat} {v : Value} {xs : List UInt8} (h : w.ownsRow base 5 1 v n (xs.map enc8)) (hf : ∀ b, base ≤ b → b < w.heap.size → F b) : OwnB F w v xs := by
 obtain ⟨hl, h2⟩ := h
 rw [List.length_map, Nat.mul_one] at hl
 subst hl
 rcases h2 with ⟨rfl, e⟩ | ⟨g, cap, cur, rfl, hb, hg, hn, hm, hs, ht⟩
 ·exact .inl ⟨rfl, List.eq_nil_of_length_eq_zero e⟩
 ·exact .inr ⟨g, cap, cur, rfl, hf g hb (Array.getElem?_eq_some_iff.1 hg).1, hg, hn, by omega, by rw [Nat.mul_one] at ht; exact ht⟩
theorem append_b {w : World} {F : Nat → Prop} {v u : Value} {xs new : List UInt8} (hown : OwnB F w v xs) (hu : Bts w u new) (hl : xs.length + new.length ≤ 10000000) :
 ∃ v' w', (Builtin.append_ #[22, 22] 22 #[v, u]).run Tryz.prog w = .ok v' w' ∧ OwnB (fun x => F x ∨ (w.heap.size ≤ x ∧ x < w'.heap.size)) w' v' (xs ++ new) ∧ w.grownBy w' v.ownBlock := by
 obtain ⟨i0, hi, hz0, hz1, hz2⟩ := info_parts info5
 have ht : Tryz.prog.underlying 22 = some (.slice 5) := Tryz.underlying22
 obtain ⟨A, c, rfl, hc, hx⟩ := hu
 rw [List.length_map] at hc hx ⊢
 by_cases h0 : new = []
 ·subst h0
  cases A with
  | none =>
    refine ⟨v, w, ?_, by rw [List.append_nil]; exact hown.wide fun _ e => .inl e, World.grownBy.refl _ _⟩
    rcases hown with ⟨rfl, e⟩ | ⟨g, cap, cur, rfl, _, _, hnc, _⟩
    ·simp [Builtin.append_, run_underlying ht, sizeOf, typeInfo, hi, Builtin.lenOf, Builtin.firstCells]
    ·simp [Builtin.append_, run_underlying ht, sizeOf, typeInfo, hi, Builtin.lenOf, Builtin.firstCells, hnc, storeCells]
  | some a =>
    rcases hown with ⟨rfl, rfl⟩ | ⟨g, cap, cur, rfl, hf, hg, hnc, hs, hx2⟩
    ·refine ⟨.slice none 0 0, w, ?_, .inl ⟨rfl, rfl⟩, World.grownBy.refl _ _⟩
     simp [Builtin.append_, run_underlying ht, sizeOf, typeInfo, hi, Builtin.lenOf, Builtin.firstCells, loadCells, loadCellsFrom]
    ·refine ⟨_, _, run_append_room (P := Tryz.prog) w 22 22 5 i0 ht hi g xs.length cap cur hg a 0 c [] (by simp) (by simp) (by simp) (by omega) (by rw [hz1]; simp; omega), ?_, ⟨rfl, rfl, rfl, by simp, fun j _ hj => setRow_other w g j _ (fun e => hj (by simp [Value.ownBlock, e]))⟩⟩
     refine .inr ⟨g, cap, _, by simp, .inl hf, setRow_heap w g cur _ 5 (0, 0) hg, by simpa using hnc, ?_, ?_⟩
     ·rw [hz1]; simp; omega
     ·rw [hz1, Nat.mul_one, hx2]
      simp only [List.append_nil, List.length_nil, Nat.add_zero]
      rw [List.take_append_of_le_length (by simp)]
      exact List.take_of_length_le (by simp)
 ·have hp : 0 < new.length := by cases new with | nil => exact absurd rfl h0 | cons => simp
  obtain ⟨b, o, rfl, hb, hy⟩ := hx hp
  have hnews : ∀ (j : Nat) (x : Value), (new.map enc8)[j]? = some x → w.cell? ((⟨b, o, none⟩ : Addr).add j) = some x := fun j y hj => by rw [add_plain']; exact hy j y hj
  rcases hown with ⟨rfl, rfl⟩ | ⟨g, cap, cur, rfl, hf, hg, hnc, hs, hx2⟩
  ·obtain ⟨v', w', h1, h2, h3, _⟩ := run_append_own (P := Tryz.prog) w w.heap.size 22 22 5 i0 (.int .u8 0) 1 1 ht hi hz0 hz1 hz2 rfl (by decide) _ 0 [] (World.ownsRow_nil w w.heap.size 5 1) ⟨b, o, none⟩ new.length c (new.map enc8) (by simp) hnews (one_enc new) (by unfold maxLen; simp at hl; omega) (by simp at hl; omega) (Nat.le_refl _)
   exact ⟨v', w', h1, OwnB.of_owns (xs := [] ++ new) (by simpa using h2) (fun b hb hb' => .inr ⟨hb, hb'⟩), h3⟩
  ·by_cases hroom : xs.length + new.length ≤ cap
   ·refine ⟨_, _, run_append_room (P := Tryz.prog) w 22 22 5 i0 ht hi g xs.length cap cur hg ⟨b, o, none⟩ new.length c (new.map enc8) (by rw [hz1]; simp) hnews (one_enc new) hroom (by rw [hz1]; simp; omega), ?_, ⟨rfl, rfl, rfl, by simp, fun j _ hj => setRow_other w g j _ (fun e => hj (by simp [Value.ownBlock, e]))⟩⟩
    refine .inr ⟨g, cap, _, by simp, .inl hf, setRow_heap w g cur _ 5 (0, 0) hg, by simpa using hroom, ?_, ?_⟩
    ·rw [hz1]; simp; omega
    ·rw [hz1, Nat.mul_one, hx2]
     simp only [List.length_append, List.map_append]
     rw [List.take_append_of_le_length (by simp)]
     exact List.take_of_length_le (by simp)
   ·have holds : ∀ (j : Nat) (x : Value), (xs.map enc8)[j]? = some x → w.cell? ((⟨g, 0, none⟩ : Addr).add j) = some x := fun j x hj => by
     have hk : j < xs.length := by simpa using (List.getElem?_eq_some_iff.1 hj).1
     rw [← hx2, List.getElem?_take_of_lt (by omega), Array.getElem?_toList] at hj
     rw [add_plain']
     simp only [World.cell?, hg, Nat.zero_add, Option.isSome_none, Bool.false_eq_true, if_false]
     exact hj
    have hr := run_append_grow (P := Tryz.prog) w 22 22 5 i0 (.int .u8 0) ht hi hz0 ⟨g, 0, none⟩ xs.length cap (xs.map enc8) (by rw [hz1]; simp) holds ⟨b, o, none⟩ new.length c (new.map enc8) (by rw [hz1]; simp) hnews (by omega) (by omega) (growslice_fits (by omega) (by rw [hz2]; omega))
    have hge := grownCap_ge w (xs.length + new.length) cap 5
    refine ⟨_, _, hr, ?_, ⟨rfl, rfl, rfl, by simp, fun k hk _ => Below.heap_alloc w.drew _ k hk⟩⟩
    refine .inr ⟨w.heap.size, grownCap w (xs.length + new.length) cap 5, _, by simp, .inr ⟨Nat.le_refl _, by simp⟩, heap_alloc_new w.drew _, by simpa using hge, ?_, ?_⟩
    ·simp [size_zeroCells, Value.cells]; omega
    ·simp only [Array.toList_append, List.append_assoc, List.map_append]
     rw [← List.append_assoc, show (xs ++ new).length = (xs.map enc8 ++ new.map enc8).length by simp]
     exact List.take_left
open Go.RowKit
theorem take_snoc (xs : List UInt8) (k : Nat) (h : k < xs.length) : xs.take (k + 1) = xs.take k ++ [xs.getD k 0] := by
 rw [List.take_add_one, List.getElem?_eq_getElem h, List.getD, List.getElem?_eq_getElem h]; rfl
namespace M
def sameB (xs ys : List UInt8) : Bool := decide (xs = ys)
theorem sameB_iff {xs ys : List UInt8} : sameB xs ys = true ↔ xs = ys := by simp [sameB]
end M
def Copied (w : World) (xs : List UInt8) (e : Ending) (w' : World) : Prop := e = .returned (.slice (some ⟨w.heap.size, 0, none⟩) xs.length xs.length) ∧ Blk w' w.heap.size xs ∧ Below w.heap.size w w'
theorem splice_all (n : Nat) (cs : List Value) (z : Value) (h : cs.length = n) : splice (List.replicate n z) 0 cs = cs := by
 simp [splice, h]
theorem copied_any {w : World} {v : Value} {xs : List UInt8} (h : Bts w v xs) (hl : xs.length ≤ 100000000) : Calls Tryz.prog 34 #[v] w (Copied w xs) := by
 obtain ⟨i0, hi, hz0, hz1, hz2⟩ := info_parts info5
 have hm := run_make (P := Tryz.prog) w 22 5 i0 (.int .u8 0) Tryz.underlying22 hi hz0 .i64 .i64 (xs.length : Int) (xs.length : Int) (by omega) (by omega) (by rw [hz2]; omega) (by omega)
 rw [hz1, Int.toNat_natCast] at hm
 have hB : (w.alloc (.cells (madeCells #[.int .u8 0] xs.length) 5)).heap[w.heap.size]? = some (.cells (List.replicate xs.length (enc8 0)).toArray 5 (0, 0)) := by
  have := Blk.made w xs.length
  unfold Blk at this
  simpa using this
 have nb := below_new (o := .cells (madeCells #[.int .u8 0] xs.length) 5) (Below.refl w.heap.size w)
 obtain ⟨A, c, rfl, hc, hx⟩ := h.opened
 have hpos : 0 < (xs.map enc8).length → ((some ⟨w.heap.size, 0, none⟩ : Option Addr) = some ⟨w.heap.size, 0, none⟩ ∧ ∃ ad, A = some ad ∧ ∀ (j : Nat) (v : Value), (xs.map enc8)[j]? = some v → (w.alloc (.cells (madeCells #[.int .u8 0] xs.length) 5)).cell? (ad.add j) = some v) := by
  intro h0
  obtain ⟨b, o, rfl, hb, hy⟩ := hx (by simpa using h0)
  refine ⟨rfl, _, rfl, fun j v hj => ?_⟩
  rw [add_plain', nb.cell (p := ⟨b, o + j, none⟩) hb]
  have hk : j < xs.length := by simpa using (List.getElem?_eq_some_iff.1 hj).1
  rw [hy j hk, ← hj, List.getElem?_map, List.getD, List.getElem?_eq_getElem hk]; rfl
 have HP := Lib.hid hpos
 have HB := Lib.hid hB
 have NB := Lib.hid nb
 have HC := Lib.hid (show (xs.map enc8).length = Nat.min xs.length xs.length by simp)
 have H1 := Lib.hid (one_enc xs)
 clear hx h hpos hB nb hi hz0 hz1 hz2
 simp only [Value.cells, Nat.mul_one] at hm
 go_enter Tryz.func34, Tryz.ntmps34
 go_wp2_with (with_reducible refine wpList_copy_splice rfl (.tmp 7) (.tmp 8) 22 22 rfl 5 Tryz.underlying22 (by kernel_rfl) _ _ _ _ _ _ rfl rfl w.heap.size 0 (List.replicate xs.length (enc8 0)) 5 HB.out (xs.map enc8) HC.out HP.out (by simp) H1.out w.heap.size w NB.out (Nat.le_refl _) ?_; intro w2 HG2 hB2)
 go_ret
 refine ⟨rfl, ?_, hB2⟩
 have := HG2.out
 rw [splice_all _ _ _ (by simp)] at this
 exact this
open Go.RowKit
def OwnU (F : Nat → Prop) (w : World) (u : Value) : Prop := u = .pointer none ∨ ∃ p m, u = .pointer (some ⟨p, 0, none⟩) ∧ F p ∧ w.heap[p]? = some (.cells #[.int .i64 m] 3 (0, 0))
theorem OwnU.keeps' {F G : Nat → Prop} {w w' : World} {u : Value} (h : OwnU F w u) (hb : Keeps G w w') (hg : ∀ p, u = .pointer (some ⟨p, 0, none⟩) → ¬ G p) : OwnU F w' u := by
 rcases h with h | ⟨p, m, rfl, hf, hh⟩
 ·exact .inl h
 ·exact .inr ⟨p, m, rfl, hf, (hb.block p (Array.getElem?_eq_some_iff.1 hh).1 (hg p rfl)).trans hh⟩
theorem OwnU.keeps {F G : Nat → Prop} {w w' : World} {u : Value} (h : OwnU F w u) (hb : Keeps G w w') (hg : ∀ x, F x → ¬ G x) : OwnU F w' u := by
 rcases h with h | ⟨p, m, rfl, hf, hh⟩
 ·exact .inl h
 ·exact .inr ⟨p, m, rfl, hf, (hb.block p (Array.getElem?_eq_some_iff.1 hh).1 (hg p hf)).trans hh⟩
def Cells (w : World) (g : Nat) (z : Int) (v : Value) (k : Int) (u : Value) : Prop := w.heap[g]? = some (.cells #[.int .i64 z, v,.int .i64 k, u] 80 (0, 0))
theorem Cells.lt {w : World} {g : Nat} {z k : Int} {v u : Value} (h : Cells w g z v k u) : g < w.heap.size := (Array.getElem?_eq_some_iff.1 h).1
theorem Cells.at_ {w : World} {g : Nat} {z k : Int} {v u : Value} (h : Cells w g z v k u) : w.cell? ⟨g, 0, none⟩ = some (.int .i64 z) ∧ w.cell? ⟨g, 1, none⟩ = some v ∧ w.cell? ⟨g, 2, none⟩ = some (.int .i64 k) ∧ w.cell? ⟨g, 3, none⟩ = some u := by
 unfold Cells at h
 simp [World.cell?, h]
theorem Cells.unfrozen {w : World} {g : Nat} {z k : Int} {v u : Value} (h : Cells w g z v k u) (i : Nat) : w.frozen? ⟨g, i, none⟩ = false := frozen_of_row w g i _ 80 h
theorem Cells.keeps {w w' : World} {g : Nat} {z k : Int} {v u : Value} {F : Nat → Prop} (h : Cells w g z v k u) (hb : Keeps F w w') (hf : ¬ F g) : Cells w' g z v k u := (hb.block g h.lt hf).trans h
theorem Cells.below {w w' : World} {g : Nat} {z k : Int} {v u : Value} (h : Cells w g z v k u) (hb : Below w.heap.size w w') : Cells w' g z v k u := (hb.block g h.lt).trans h
theorem Cells.set1 {w : World} {g : Nat} {z k : Int} {v u : Value} (h : Cells w g z v k u) (x : Value) : Cells (w.setCell ⟨g, 1, none⟩ x) g z x k u := by
 unfold Cells at h ⊢
 rw [heap_setCell_same w g 1 _ 80 _ h]; rfl
theorem Cells.set2 {w : World} {g : Nat} {z k : Int} {v u : Value} (h : Cells w g z v k u) (x : Int) : Cells (w.setCell ⟨g, 2, none⟩ (.int .i64 x)) g z v x u := by
 unfold Cells at h ⊢
 rw [heap_setCell_same w g 2 _ 80 _ h]; rfl
theorem Cells.set3 {w : World} {g : Nat} {z k : Int} {v u : Value} (h : Cells w g z v k u) (x : Value) : Cells (w.setCell ⟨g, 3, none⟩ x) g z v k x := by
 unfold Cells at h ⊢
 rw [heap_setCell_same w g 3 _ 80 _ h]; rfl
theorem Cells.apart {w : World} {g : Nat} {z k : Int} {v u : Value} (h : Cells w g z v k u) {F : Nat → Prop} {r : Value} {xs : List UInt8} (hr : OwnB F w r xs) : r.ownBlock ≠ some g := by
 rcases hr with ⟨rfl, _⟩ | ⟨b, cap, cur, rfl, _, hh, _⟩
 ·simp [Value.ownBlock]
 ·intro e
  simp only [Value.ownBlock, Option.some.injEq] at e
  subst e
  unfold Cells at h
  rw [hh] at h
  simp at h
theorem Cells.apartU {w : World} {g : Nat} {z k : Int} {v u : Value} (h : Cells w g z v k u) {F : Nat → Prop} {r : Value} (hr : OwnU F w r) : r ≠ .pointer (some ⟨g, 0, none⟩) := by
 rcases hr with rfl | ⟨p, m, rfl, _, hh⟩
 ·simp
 ·intro e
  simp only [Value.pointer.injEq, Option.some.injEq, Addr.mk.injEq] at e
  obtain ⟨rfl, _⟩ := e
  unfold Cells at h
  rw [hh] at h
  simp at h
structure Dk (w : World) (g : Nat) (F : Nat → Prop) (s : M.St) (v u : Value) : Prop where
 blk : Cells w g s.z v s.k u
 row : OwnB F w v s.bs
 box : OwnU F w u
 own : F g
 lt : ∀ x, F x → x < w.heap.size
 ok : M.Ok s
def Disk (w : World) (g : Nat) (F : Nat → Prop) (s : M.St) : Prop := ∃ v u, Dk w g F s v u
theorem Disk.keeps {w w' : World} {g : Nat} {F G : Nat → Prop} {s : M.St} (h : Disk w g F s) (hb : Keeps G w w') (hg : ∀ x, F x → ¬ G x) : Disk w' g F s := by
 obtain ⟨v, u, h⟩ := h
 exact ⟨v, u, h.blk.keeps hb (hg g h.own), h.row.keeps hb hg, h.box.keeps hb hg, h.own, fun x e => Nat.lt_of_lt_of_le (h.lt x e) hb.size, h.ok⟩
theorem Disk.below {w w' : World} {g : Nat} {F : Nat → Prop} {s : M.St} (h : Disk w g F s) (hb : Below w.heap.size w w') : Disk w' g F s := h.keeps (Keeps.of_below (F := fun _ => False) hb) fun _ _ e => e
theorem Disk.lt {w : World} {g : Nat} {F : Nat → Prop} {s : M.St} (h : Disk w g F s) : ∀ x, F x → x < w.heap.size := by
 obtain ⟨v, u, h⟩ := h
 exact h.lt
theorem Disk.ok {w : World} {g : Nat} {F : Nat → Prop} {s : M.St} (h : Disk w g F s) : M.Ok s := by
 obtain ⟨v, u, h⟩ := h
 exact h.ok
def Grew (F F' : Nat → Prop) (w w' : World) : Prop := (∀ x, F' x → F x ∨ w.heap.size ≤ x) ∧ ∀ x, F' x → x < w'.heap.size
def Stept (x : Ending) (w : World) (g : Nat) (F : Nat → Prop) (s : M.St) (e : Ending) (w' : World) : Prop := e = x ∧ ∃ F', Disk w' g F' s ∧ Keeps F w w' ∧ Grew F F' w w'
theorem safe_any {w : World} {g : Nat} {F : Nat → Prop} {s : M.St} (h : Disk w g F s) : Calls Tryz.prog 45 #[.pointer (some ⟨g, 0, none⟩)] w fun e w' => e = .returned (.int .i64 s.k) ∧ w = w' := by
 obtain ⟨v, u, h⟩ := h
 obtain ⟨c0, c1, c2, c3⟩ := h.blk.at_
 clear h
 go_enter Tryz.func45, Tryz.ntmps45
 go_wp2
 go_ret
 exact ⟨rfl, rfl⟩
theorem dk_step {w w' : World} {g : Nat} {F F' : Nat → Prop} {s' : M.St} {v' u' : Value} (hb : Cells w' g s'.z v' s'.k u') (hk : Keeps F w w') (hv : OwnB F' w' v' s'.bs) (hu : OwnU F' w' u') (hg : Grew F F' w w') (hF : F' g) (ho : M.Ok s') : ∃ F', Disk w' g F' s' ∧ Keeps F w w' ∧ Grew F F' w w' :=
 ⟨F', ⟨v', u', hb, hv, hu, hF, hg.2, ho⟩, hk, hg⟩
theorem Grew.refl {F : Nat → Prop} {w : World} (h : ∀ x, F x → x < w.heap.size) {w' : World} (hs : w.heap.size ≤ w'.heap.size) : Grew F F w w' := ⟨fun _ e => .inl e, fun x e => Nat.lt_of_lt_of_le (h x e) hs⟩
theorem Dk.keep1 {w : World} {g : Nat} {F : Nat → Prop} {s : M.St} {v u : Value} (h : Dk w g F s v u) (i : Nat) (x : Value) : Keeps F w (w.setCell ⟨g, i, none⟩ x) ∧ Keeps (fun y => y = g) w (w.setCell ⟨g, i, none⟩ x) :=
 ⟨(Keeps.refl F w).setCell (p := ⟨g, i, none⟩) (.inl h.own) x, (Keeps.refl (fun y => y = g) w).setCell (p := ⟨g, i, none⟩) (.inl rfl) x⟩
theorem size_set (w : World) (p : Addr) (x : Value) : (w.setCell p x).heap.size = w.heap.size := by simp [World.setCell]
theorem sync_any {w : World} {g : Nat} {F : Nat → Prop} {s : M.St} (h : Disk w g F s) : Calls Tryz.prog 50 #[.pointer (some ⟨g, 0, none⟩)] w (Stept (.returned (.tuple #[])) w g F (M.syn s)) := by
 obtain ⟨v, u, h⟩ := h
 obtain ⟨c0, c1, c2, c3⟩ := h.blk.at_
 have f2 := h.blk.unfrozen 2
 obtain ⟨A, c, rfl, hc⟩ := h.row.slice
 have H := Lib.hid h
 clear h
 go_enter Tryz.func50, Tryz.ntmps50
 go_wp2
 go_end0
 have h := H.out
 have hk := h.keep1 2 (.int .i64 s.bs.length)
 refine ⟨rfl, dk_step (s' := M.syn s) (F' := F) (h.blk.set2 _) hk.1 (h.row.keeps' hk.2 fun b e eg => h.blk.apart h.row (by rw [e, eg])) (h.box.keeps' hk.2 fun p e eg => h.blk.apartU h.box (by rw [e, eg])) (Grew.refl h.lt (by rw [size_set]; exact Nat.le_refl _)) h.own h.ok.syn⟩
theorem bytes_any {w : World} {g : Nat} {F : Nat → Prop} {s : M.St} (h : Disk w g F s) : Calls Tryz.prog 16 #[.pointer (some ⟨g, 0, none⟩)] w (Copied w s.bs) := by
 have ho := h.ok
 obtain ⟨v, u, h⟩ := h
 obtain ⟨c0, c1, c2, c3⟩ := h.blk.at_
 have hb := copied_any h.row.bts (by have := ho.1; have := ho.2.1; omega)
 have HB := Lib.hid hb
 clear h hb ho
 go_enter Tryz.func16, Tryz.ntmps16
 go_wp2_with (fail)
 refine HB.out.mono ?_
 rintro e w1 ⟨rfl, h1, h2⟩
 go_wp2
 go_ret
 exact ⟨rfl, h1, h2⟩
theorem room_any {w : World} {g : Nat} {F : Nat → Prop} {s : M.St} (h : Disk w g F s) : Calls Tryz.prog 51 #[.pointer (some ⟨g, 0, none⟩)] w fun e w' => e = .returned (.int .i64 ((s.z : Int) - s.bs.length)) ∧ Below w.heap.size w w' := by
 have ho1 := h.ok.1
 have ho2 := h.ok.2.1
 obtain ⟨v, u, h⟩ := h
 obtain ⟨c0, c1, c2, c3⟩ := h.blk.at_
 obtain ⟨A, c, rfl, hc⟩ := h.row.slice
 clear h
 have e1 : IntKind.i64.wrap ((s.z : Int) - (s.bs.length : Int)) = (s.z : Int) - (s.bs.length : Int) := IntWalk.i64_in _ (by omega)
 go_enter Tryz.func51, Tryz.ntmps51
 go_wp2
 go_quiet (fail)
 go_wp2
 go_ret
 exact ⟨rfl, below_drewN (Below.refl _ _) _⟩
def NewD (n : Nat) (w : World) (e : Ending) (w' : World) : Prop := e = .returned (.pointer (some ⟨w.heap.size, 0, none⟩)) ∧ Disk w' w.heap.size (fun x => x = w.heap.size) (M.nil n) ∧ Below w.heap.size w w'
theorem new_any (n : Nat) (w : World) (h : n ≤ 1048576) : Calls Tryz.prog 10 #[.int .i64 n] w (NewD n w) := by
 go_enter Tryz.func10, Tryz.ntmps10
 go_wp2
 go_ret
 exact ⟨rfl, ⟨_, _, heap_alloc_new w _, OwnB.nil _ _, .inl rfl, rfl, fun x e => by simp [e], M.ok_nil h⟩, below_new (Below.refl _ _)⟩
theorem hold_any {w : World} {g : Nat} {F : Nat → Prop} {s : M.St} {b : Nat} {xs : List UInt8} (h : Disk w g F s) (hb : Blk w b xs) (hg : g ≠ b) (hl : xs.length ≤ s.z) : Calls Tryz.prog 33 #[.pointer (some ⟨g, 0, none⟩),.slice (some ⟨b, 0, none⟩) xs.length xs.length] w
 fun e w' => e = .returned (.tuple #[]) ∧ Disk w' g (fun x => x = g ∨ x = b) ⟨s.z, xs, xs.length⟩ ∧ Keeps (fun x => x = g) w w' := by
 have ho := h.ok
 obtain ⟨v, u, h⟩ := h
 obtain ⟨c0, c1, c2, c3⟩ := h.blk.at_
 have f1 := h.blk.unfrozen 1
 have f2 := h.blk.unfrozen 2
 have f3 := h.blk.unfrozen 3
 have H := Lib.hid h
 have HB := Lib.hid hb
 have HG := Lib.hid hg
 clear h hb hg
 go_enter Tryz.func33, Tryz.ntmps33
 go_wp2
 go_end0
 have k := (((Keeps.refl (fun x => x = g) w).setCell (p := ⟨g, 1, none⟩) (.inl rfl) (.slice (some ⟨b, 0, none⟩) xs.length xs.length)).setCell (p := ⟨g, 2, none⟩) (.inl rfl) (.int .i64 xs.length)).setCell (p := ⟨g, 3, none⟩) (.inl rfl) (.pointer none)
 exact ⟨rfl, ⟨_, _, ((H.out.blk.set1 _).set2 _).set3 _, (HB.out.keeps k HG.out.symm).own (.inr rfl), .inl rfl, .inl rfl, fun x e => by
  have h1 := H.out.blk.lt
  have h2 := HB.out.lt
  simp only [size_set]
  rcases e with rfl | rfl <;> assumption, ⟨hl, ho.2.1, Nat.le_refl _⟩⟩, k⟩
open Go.RowKit
def Fenced (w : World) (g : Nat) (F : Nat → Prop) (s : M.St) (e : Ending) (w' : World) : Prop :=
 e = .returned (.tuple #[]) ∧ ∃ F' v p m, Dk w' g F' s v (.pointer (some ⟨p, 0, none⟩)) ∧ F' p ∧ w'.heap[p]? = some (.cells #[.int .i64 m] 3 (0, 0)) ∧ Keeps F w w' ∧ Grew F F' w w'
theorem fenced_new {w : World} {g : Nat} {F : Nat → Prop} {s : M.St} {A : Option Addr} {c : Nat} {u : Value} (h : Dk w g F s (.slice A s.bs.length c) u) (hc : s.bs.length ≤ c) :
 Fenced w g F s (.returned (.tuple #[])) (((w.setCell ⟨g, 1, none⟩ (.slice A s.bs.length s.bs.length)).setCell ⟨g, 3, none⟩ (.pointer (some ⟨w.heap.size, 0, none⟩))).alloc (.cells #[.int .i64 0] 3)) := by
 obtain ⟨W, hW⟩ : ∃ W, W = (((w.setCell ⟨g, 1, none⟩ (.slice A s.bs.length s.bs.length)).setCell ⟨g, 3, none⟩ (.pointer (some ⟨w.heap.size, 0, none⟩))).alloc (.cells #[.int .i64 0] 3)) := ⟨_, rfl⟩
 rw [← hW]
 have hgl := h.blk.lt
 have k1 : Keeps (fun y => y = g) w W := by
  rw [hW]; exact (((Keeps.refl (fun y => y = g) w).setCell (p := ⟨g, 1, none⟩) (.inl rfl) _).setCell (p := ⟨g, 3, none⟩) (.inl rfl) _).alloc _
 have hsz : W.heap.size = w.heap.size + 1 := by rw [hW]; simp
 have hb : Cells W g s.z (.slice A s.bs.length s.bs.length) s.k (.pointer (some ⟨w.heap.size, 0, none⟩)) := by
  rw [hW]
  exact ((h.blk.set1 _).set3 _).below (below_new (Below.refl _ _))
 have hp : W.heap[w.heap.size]? = some (.cells #[.int .i64 0] 3 (0, 0)) := by
  rw [hW]
  have := heap_alloc_new ((w.setCell ⟨g, 1, none⟩ (.slice A s.bs.length s.bs.length)).setCell ⟨g, 3, none⟩ (.pointer (some ⟨w.heap.size, 0, none⟩))) (.cells #[.int .i64 0] 3)
  rw [size_set, size_set] at this
  exact this
 have hr : OwnB F W (.slice A s.bs.length s.bs.length) s.bs := by
  have := (h.row.keeps' k1 fun b e eg => h.blk.apart h.row (by rw [e, eg])).cut (m := s.bs.length) (c' := s.bs.length) (Nat.le_refl _) (Nat.le_refl _) hc
  rwa [List.take_length] at this
 exact ⟨rfl, fun x => F x ∨ x = w.heap.size, _, w.heap.size, 0, ⟨hb, hr.wide fun _ e => .inl e, .inr ⟨_, 0, rfl, .inr rfl, hp⟩, .inl h.own, fun x e => by
  rcases e with e | rfl
  ·have := h.lt x e; omega
  ·omega, h.ok⟩, .inr rfl, hp, k1.wide fun x _ e => e ▸ h.own, fun x e => e.imp id (fun e => by omega), fun x e => by
  rcases e with e | rfl
  ·have := h.lt x e; omega
  ·omega⟩
theorem fence_any {w : World} {g : Nat} {F : Nat → Prop} {s : M.St} (h : Disk w g F s) : Calls Tryz.prog 72 #[.pointer (some ⟨g, 0, none⟩)] w (Fenced w g F s) := by
 obtain ⟨v, u, h⟩ := h
 obtain ⟨A, c, rfl, hc⟩ := h.row.slice
 obtain ⟨c0, c1, c2, c3⟩ := h.blk.at_
 have f1 := h.blk.unfrozen 1
 have f3 := h.blk.unfrozen 3
 have H := Lib.hid h
 have hg := h.blk.lt
 rcases h.box with rfl | ⟨p, m, rfl, hp, hh⟩
 ·clear h
  go_enter Tryz.func72, Tryz.ntmps72
  go_wp2
  go_end0
  exact fenced_new H.out hc
 ·have hne : g ≠ p := fun e => by have := h.blk; unfold Cells at this; rw [e, hh] at this; simp at this
  have b0 : w.cell? ⟨p, 0, none⟩ = some (.int .i64 m) := by simp [World.cell?, hh]
  have HH := Lib.hid hh
  have HP := Lib.hid hp
  have hpl : p < w.heap.size := (Array.getElem?_eq_some_iff.1 hh).1
  by_cases e : m = s.bs.length
  ·subst e
   clear h hh hp hne
   go_enter Tryz.func72, Tryz.ntmps72
   go_wp2
   go_end0
   exact ⟨rfl, F, _, p, _, H.out, HP.out, HH.out, Keeps.refl _ _, Grew.refl H.out.lt (Nat.le_refl _)⟩
  ·have q1 : (m == (s.bs.length : Int)) = false := by rw [beq_eq_false_iff_ne]; exact e
   have q2 : (m != (s.bs.length : Int)) = true := by rw [bne, q1]; rfl
   clear h hh hp hne e
   go_enter Tryz.func72, Tryz.ntmps72
   go_wp2
   go_end0
   exact fenced_new H.out hc
theorem box_apart {w : World} {p : Nat} {m : Int} {F : Nat → Prop} {v : Value} {xs : List UInt8} (hh : w.heap[p]? = some (.cells #[.int .i64 m] 3 (0, 0))) (h : OwnB F w v xs) : v.ownBlock ≠ some p := by
 intro e
 rcases h with ⟨rfl, _⟩ | ⟨b, cap, cur, rfl, _, h2, _⟩
 ·simp [Value.ownBlock] at e
 ·simp only [Value.ownBlock, Option.some.injEq] at e
  rw [← e, h2] at hh; simp at hh
theorem Dk.boxed {w : World} {g p : Nat} {F : Nat → Prop} {s : M.St} {v : Value} {m : Int} (h : Dk w g F s v (.pointer (some ⟨p, 0, none⟩))) (hh : w.heap[p]? = some (.cells #[.int .i64 m] 3 (0, 0))) : p ≠ g ∧ v.ownBlock ≠ some p := by
 refine ⟨fun e => ?_, box_apart hh h.row⟩
 have := h.blk
 unfold Cells at this
 rw [← e, hh] at this; simp at this
theorem app_done {w w2 w3 W : World} {g p : Nat} {F F2 : Nat → Prop} {s : M.St} {v2 v3 : Value} {m m' : Int} {new : List UInt8} (hF : F g) (hs : w.heap.size ≤ w2.heap.size) (hd : Dk w2 g F2 s v2 (.pointer (some ⟨p, 0, none⟩))) (hp : F2 p) (hh : w2.heap[p]? = some (.cells #[.int .i64 m] 3 (0, 0))) (hk : Keeps F w w2) (hg : ∀ x, F2 x → F x ∨ w.heap.size ≤ x)
 (ho : OwnB (fun x => F2 x ∨ (w2.heap.size ≤ x ∧ x < w3.heap.size)) w3 v3 (s.bs ++ new)) (hgr : w2.grownBy w3 v2.ownBlock) (hok : M.Ok ⟨s.z, s.bs ++ new, s.k⟩) (hW : W.heap = (w3.setCell ⟨g, 1, none⟩ v3).heap) (ho' : W.os = w3.os) (ht' : W.tape = w3.tape) (hu' : W.output = w3.output) :
 ∃ F', Disk (W.setCell ⟨p, 0, none⟩ (.int .i64 m')) g F' ⟨s.z, s.bs ++ new, s.k⟩ ∧ Keeps F w (W.setCell ⟨p, 0, none⟩ (.int .i64 m')) ∧ Grew F F' w (W.setCell ⟨p, 0, none⟩ (.int .i64 m')) := by
 have hk3 : Keeps (fun x => v2.ownBlock = some x) w2 w3 := Keeps.of_grown hgr fun x e => e
 have hbx := hd.boxed hh
 have hb3 : Cells w3 g s.z v2 s.k (.pointer (some ⟨p, 0, none⟩)) := hd.blk.keeps hk3 (hd.blk.apart hd.row)
 have hh3 : w3.heap[p]? = some (.cells #[.int .i64 m] 3 (0, 0)) := (hk3.block p (Array.getElem?_eq_some_iff.1 hh).1 hbx.2).trans hh
 have a1 := hb3.apart ho
 have a2 := box_apart hh3 ho
 have kW : Keeps (fun x => x = g) w3 W := by
  have := (Keeps.refl (fun x => x = g) w3).setCell (p := ⟨g, 1, none⟩) (.inl rfl) v3
  exact ⟨ho', ht', hu', by rw [hW]; exact this.size, fun k hk hf => by rw [hW]; exact this.block k hk hf⟩
 have hbW : Cells W g s.z v3 s.k (.pointer (some ⟨p, 0, none⟩)) := by
  unfold Cells
  rw [hW]
  exact hb3.set1 v3
 have hhW : W.heap[p]? = some (.cells #[.int .i64 m] 3 (0, 0)) := (kW.block p (Array.getElem?_eq_some_iff.1 hh3).1 hbx.1).trans hh3
 have kp := (Keeps.refl (fun x => x = p) W).setCell (p := ⟨p, 0, none⟩) (.inl rfl) (.int .i64 m')
 have hsz : (W.setCell ⟨p, 0, none⟩ (.int .i64 m')).heap.size = w3.heap.size := by rw [size_set, hW, size_set]
 have hF2 : ∀ x, F2 x → x < w3.heap.size := fun x e => Nat.lt_of_lt_of_le (hd.lt x e) hk3.size
 refine ⟨fun x => F2 x ∨ (w2.heap.size ≤ x ∧ x < w3.heap.size), ⟨v3,.pointer (some ⟨p, 0, none⟩), hbW.keeps kp (fun e => hbx.1 e.symm), (ho.keeps' kW fun b e eg => a1 (by rw [e, eg])).keeps' kp fun b e eg => a2 (by rw [e, eg]), ?_, .inl hd.own, ?_, hok⟩, ?_, ?_, ?_⟩
 ·refine .inr ⟨p, m', rfl, .inl hp, ?_⟩
  rw [heap_setCell_same W p 0 _ 3 _ hhW]; rfl
 ·intro x e
  rw [hsz]
  exact e.elim (hF2 x) (fun e => e.2)
 ·refine ((hk.trans hk3 fun x hx e => ?_).trans kW fun x hx e => ?_).trans kp fun x hx e => ?_
  ·exact (hg x (hd.row.in_ x e)).resolve_right (by omega)
  ·exact e ▸ hF
  ·exact (hg x (e ▸ hp)).resolve_right (by omega)
 ·intro x e
  rcases e with e | e
  ·exact hg x e
  ·exact .inr (by omega)
 ·intro x e
  rw [hsz]
  exact e.elim (hF2 x) (fun e => e.2)
theorem appendD_any {w : World} {g : Nat} {F : Nat → Prop} {s : M.St} {uv : Value} {new : List UInt8} (h : Disk w g F s) (hu : Bts w uv new) (hin : new ≠ [] → In (fun x => ¬ F x) uv) : Calls Tryz.prog 52 #[.pointer (some ⟨g, 0, none⟩), uv] w (Stept (.returned (.int .i64 (M.appE new s))) w g F (M.app new s)) := by
 have hbs := h.ok.1
 have hz := h.ok.2.1
 obtain ⟨A, c, rfl, hc, -⟩ := hu.opened
 have H := Lib.hid h
 have HU := Lib.hid hu
 have HI := Lib.hid hin
 clear h hu hin
 by_cases hf : s.bs.length + new.length ≤ s.z
 ·have HE := Lib.hid (show M.appE new s = 0 by simp [M.appE, hf])
  have HA := Lib.hid (show M.app new s = ⟨s.z, s.bs ++ new, s.k⟩ by simp [M.app, hf])
  rw [HE.out, HA.out]
  have q1 : ¬ ((s.z : Int) - (s.bs.length : Int) < (new.length : Int)) := by omega
  go_enter Tryz.func52, Tryz.ntmps52
  go_wp2_with (fail)
  refine (room_any H.out).mono ?_
  rintro e w1 ⟨rfl, hb1⟩
  have H1 := Lib.hid (H.out.below hb1)
  have HU1 := Lib.hid (HU.out.below hb1)
  have HB1 := Lib.hid hb1
  clear hb1
  go_wp2_with (fail)
  refine (fence_any H1.out).mono ?_
  rintro e w2 ⟨rfl, F2, v2, p, m, hd, hp, hh, hk, hg⟩
  obtain ⟨v3, w3, hr, ho, hgr⟩ := append_b hd.row (HU1.out.keeps0 HI.out hk (fun _ e => e)) (by omega)
  obtain ⟨A3, n3, rfl⟩ : ∃ A3 n3, v3 = .slice A3 (s.bs.length + new.length) n3 := by
   obtain ⟨A3, n3, e, _⟩ := ho.slice
   exact ⟨A3, n3, by rw [e, List.length_append]⟩
  have hbx := hd.boxed hh
  have hk3 : Keeps (fun x => v2.ownBlock = some x) w2 w3 := Keeps.of_grown hgr fun x e => e
  have hb3 : Cells w3 g s.z v2 s.k (.pointer (some ⟨p, 0, none⟩)) := hd.blk.keeps hk3 (hd.blk.apart hd.row)
  have hh3 : w3.heap[p]? = some (.cells #[.int .i64 m] 3 (0, 0)) := (hk3.block p (Array.getElem?_eq_some_iff.1 hh).1 hbx.2).trans hh
  have hb4 := hb3.set1 (.slice A3 (s.bs.length + new.length) n3)
  have hh4 : (w3.setCell ⟨g, 1, none⟩ (.slice A3 (s.bs.length + new.length) n3)).heap[p]? = some (.cells #[.int .i64 m] 3 (0, 0)) := (Below.heap_setCell _ _ _ _ hbx.1).trans hh3
  obtain ⟨c0, c1, c2, c3⟩ := hd.blk.at_
  have f1 := hb3.unfrozen 1
  have g1 := hb3.lt
  have d1 := hb3.at_.2.1
  have b4 : (w3.setCell ⟨g, 1, none⟩ (.slice A3 (s.bs.length + new.length) n3)).cell? ⟨p, 0, none⟩ = some (.int .i64 m) := by simp [World.cell?, hh4]
  have f4 : (w3.setCell ⟨g, 1, none⟩ (.slice A3 (s.bs.length + new.length) n3)).frozen? ⟨p, 0, none⟩ = false := frozen_of_row _ p 0 _ 3 hh4
  obtain ⟨-, x1, -, x3⟩ := hb4.at_
  have KD := Lib.hid (fun (W : World) (h1 : W.heap = (w3.setCell ⟨g, 1, none⟩ (.slice A3 (s.bs.length + new.length) n3)).heap) (h2 : W.os = w3.os) (h3 : W.tape = w3.tape) (h4 : W.output = w3.output) =>
   app_done (w := w) (F := F) (W := W) (m' := ((s.bs.length : Int) + (new.length : Int))) (by obtain ⟨_, _, h⟩ := H.out; exact h.own) (Nat.le_trans HB1.out.size hk.size) hd hp hh ((Keeps.of_below HB1.out).trans hk fun _ _ e => e) (fun x e => (hg.1 x e).imp id fun e => Nat.le_trans HB1.out.size e) ho hgr (by have := hd.ok.app new; rwa [HA.out] at this) h1 h2 h3 h4)
  clear hd hp hh hk hg ho hgr hk3 hb3 hh3 hb4 hh4 hbx
  go_wp2_with (at_builtin; refine Lib.wpList_append_run _ rfl _ _ _ _ rfl _ _ rfl rfl _ _ hr ?_)
  go_region_with (fail)
  all_goals
   go_wp2
   go_ret
   exact ⟨rfl, KD.out (w3.setCell ⟨g, 1, none⟩ (.slice A3 (s.bs.length + new.length) n3)).drew rfl rfl rfl rfl⟩
 ·have HE := Lib.hid (show M.appE new s = 7 by simp [M.appE, hf])
  have HA := Lib.hid (show M.app new s = s by simp [M.app, hf])
  rw [HE.out, HA.out]
  have q1 : (s.z : Int) - (s.bs.length : Int) < (new.length : Int) := by omega
  go_enter Tryz.func52, Tryz.ntmps52
  go_wp2_with (fail)
  refine (room_any H.out).mono ?_
  rintro e w1 ⟨rfl, hb1⟩
  go_wp2
  go_ret
  exact ⟨rfl, F, H.out.below hb1, Keeps.of_below hb1, Grew.refl H.out.lt hb1.size⟩
open Go.RowKit
theorem cut_done {w : World} {g : Nat} {F : Nat → Prop} {s : M.St} {A : Option Addr} {c : Nat} {u : Value} (H : Dk w g F s (.slice A s.bs.length c) u) (n : Nat) (hn : n ≤ s.bs.length) (hc : s.bs.length ≤ c) (y : Int) (hy : y = (min s.k n : Nat)) :
 ∃ F', Disk ((w.setCell ⟨g, 1, none⟩ (.slice A n c)).setCell ⟨g, 2, none⟩ (.int .i64 y)) g F' (M.cut n s) ∧ Keeps F w ((w.setCell ⟨g, 1, none⟩ (.slice A n c)).setCell ⟨g, 2, none⟩ (.int .i64 y)) ∧ Grew F F' w ((w.setCell ⟨g, 1, none⟩ (.slice A n c)).setCell ⟨g, 2, none⟩ (.int .i64 y)) := by
 have e : M.cut n s = ⟨s.z, s.bs.take n, min s.k n⟩ := by
  rw [M.cut, if_pos ⟨by omega, by omega⟩]; simp
 have ho := H.ok.cut n
 rw [e] at ho ⊢
 have k := ((Keeps.refl (fun x => x = g) w).setCell (p := ⟨g, 1, none⟩) (.inl rfl) (.slice A n c)).setCell (p := ⟨g, 2, none⟩) (.inl rfl) (.int .i64 y)
 have hb := (H.blk.set1 (.slice A n c)).set2 y
 rw [hy] at hb k ⊢
 refine dk_step (s' := ⟨s.z, s.bs.take n, min s.k n⟩) (F' := F) hb (k.wide fun x _ e => e ▸ H.own) ?_ (H.box.keeps' k fun p e eg => H.blk.apartU H.box (by rw [e, eg])) (Grew.refl H.lt (by rw [size_set, size_set]; exact Nat.le_refl _)) H.own ho
 exact (H.row.keeps' k fun b e eg => H.blk.apart H.row (by rw [e, eg])).cut hn (by omega) (Nat.le_refl _)
theorem cutD_any {w : World} {g : Nat} {F : Nat → Prop} {s : M.St} (h : Disk w g F s) (n : Int) : Calls Tryz.prog 35 #[.pointer (some ⟨g, 0, none⟩),.int .i64 n] w (Stept (.returned (.int .i64 (M.cutE n s))) w g F (M.cut n s)) := by
 have hD := h
 obtain ⟨v, u, h⟩ := h
 obtain ⟨A, c, rfl, hc⟩ := h.row.slice
 obtain ⟨c0, c1, c2, c3⟩ := h.blk.at_
 have f1 := h.blk.unfrozen 1
 have f2 := h.blk.unfrozen 2
 have H := Lib.hid h
 have HD := Lib.hid hD
 have hbs := h.ok.1
 have hz := h.ok.2.1
 by_cases hn : 0 ≤ n ∧ n ≤ s.bs.length
 ·obtain ⟨m, rfl⟩ : ∃ m : Nat, n = m := ⟨n.toNat, by omega⟩
  have hm : m ≤ s.bs.length := by omega
  have HE := Lib.hid (show M.cutE m s = 0 by rw [M.cutE, if_pos hn])
  rw [HE.out]
  have q1 : ¬ s.bs.length < m := by omega
  clear h hn hD
  by_cases hk : s.k ≤ m
  ·go_enter Tryz.func35, Tryz.ntmps35
   go_wp2
   go_ret
   exact ⟨rfl, cut_done H.out m hm hc _ (by omega)⟩
  ·go_enter Tryz.func35, Tryz.ntmps35
   go_wp2
   go_ret
   exact ⟨rfl, cut_done H.out m hm hc _ (by omega)⟩
 ·have HE := Lib.hid (show M.cutE n s = 2 by rw [M.cutE, if_neg hn])
  have HA := Lib.hid (show M.cut n s = s by rw [M.cut, if_neg hn])
  rw [HE.out, HA.out]
  by_cases h0 : n < 0
  ·clear h hn hD
   go_enter Tryz.func35, Tryz.ntmps35
   go_wp2
   go_ret
   exact ⟨rfl, F, HD.out, Keeps.refl _ _, Grew.refl HD.out.lt (Nat.le_refl _)⟩
  ·have h1 : (s.bs.length : Int) < n := by omega
   clear h hn hD
   go_enter Tryz.func35, Tryz.ntmps35
   go_wp2
   go_ret
   exact ⟨rfl, F, HD.out, Keeps.refl _ _, Grew.refl HD.out.lt (Nat.le_refl _)⟩
theorem replaceD_any {w : World} {g : Nat} {F : Nat → Prop} {s : M.St} {uv : Value} {new : List UInt8} (h : Disk w g F s) (hu : Bts w uv new) (hl : new.length ≤ 100000000) : Calls Tryz.prog 11 #[.pointer (some ⟨g, 0, none⟩), uv] w (Stept (.returned (.int .i64 (M.repE new s))) w g F (M.rep new s)) := by
 have HD := Lib.hid h
 have HU := Lib.hid hu
 obtain ⟨v, u, h⟩ := h
 obtain ⟨c0, c1, c2, c3⟩ := h.blk.at_
 have hz := h.ok.2.1
 have hg := h.blk.lt
 have HG := Lib.hid h.own
 obtain ⟨A, c, rfl, hc, -⟩ := hu.opened
 clear h hu
 by_cases hf : new.length ≤ s.z
 ·have HE := Lib.hid (show M.repE new s = 0 by rw [M.repE, if_pos hf])
  have HA := Lib.hid (show M.rep new s = ⟨s.z, new, new.length⟩ by rw [M.rep, if_pos hf])
  rw [HE.out, HA.out]
  go_enter Tryz.func11, Tryz.ntmps11
  go_wp2_with (fail)
  refine (copied_any HU.out hl).mono ?_
  rintro e w1 ⟨rfl, hB, hb1⟩
  have H1 := Lib.hid (HD.out.below hb1)
  have HB := Lib.hid hB
  have HB1 := Lib.hid hb1
  clear hB hb1
  go_wp2_with (fail)
  refine (hold_any H1.out HB.out (by omega) hf).mono ?_
  rintro e w2 ⟨rfl, hd, hk⟩
  have HX := Lib.hid hd
  have HK := Lib.hid hk
  clear hd hk
  go_wp2
  go_ret
  refine ⟨rfl, _, HX.out, (Keeps.of_below HB1.out).trans HK.out (fun x _ e => e ▸ HG.out), fun x e => e.elim (fun e => .inl (e ▸ HG.out)) fun e => .inr (by omega), HX.out.lt⟩
 ·have HE := Lib.hid (show M.repE new s = 7 by rw [M.repE, if_neg hf])
  have HA := Lib.hid (show M.rep new s = s by rw [M.rep, if_neg hf])
  rw [HE.out, HA.out]
  go_enter Tryz.func11, Tryz.ntmps11
  go_wp2
  go_ret
  exact ⟨rfl, F, HD.out, Keeps.refl _ _, Grew.refl HD.out.lt (Nat.le_refl _)⟩
open Go.RowKit
namespace M
def mx (x y : Int) : Int := if x < y then y else x
def mn (x y : Int) : Int := if y < x then y else x
theorem left_int (keep : Int) (s : St) (h : Ok s) : mn (mx keep 0) ((s.bs.length : Int) - (s.k : Int)) = (left keep s : Nat) := by
 have := h.2.2
 unfold mn mx left
 repeat' split
 all_goals omega
end M
theorem run_max_mx (P : Program) (w : World) (ts : Array TypeId) (t : TypeId) (x y : Int) : (Builtin.max_ ts t #[.int .i64 x,.int .i64 y]).run P w = .ok (.int .i64 (M.mx x y)) w := by
 simp [Builtin.max_, Builtin.max2, M.mx]
theorem run_min_mn (P : Program) (w : World) (ts : Array TypeId) (t : TypeId) (x y : Int) : (Builtin.min_ ts t #[.int .i64 x,.int .i64 y]).run P w = .ok (.int .i64 (M.mn x y)) w := by
 simp [Builtin.min_, Builtin.min2, M.mn]
attribute [local go_sem ↓] run_max_mx run_min_mn
theorem xor8 (a b : UInt8) : bits .xor .u8 (a.toNat : Int) (b.toNat : Int) = ((a ^^^ b).toNat : Int) := by
 have ha := byte_lt a
 have hb := byte_lt b
 have e : bits .xor .u8 (a.toNat : Int) (b.toNat : Int) = IntKind.u8.wrap ((BitVec.ofInt 8 (a.toNat : Int) ^^^ BitVec.ofInt 8 (b.toNat : Int)).toNat : Int) := rfl
 have hx := byte_lt (a ^^^ b)
 rw [UInt8.toNat_xor] at hx ⊢
 rw [e, wrap8, BitVec.toNat_xor, BitVec.ofInt_natCast, BitVec.ofInt_natCast, BitVec.toNat_ofNat, BitVec.toNat_ofNat, Nat.mod_eq_of_lt (by omega), Nat.mod_eq_of_lt (by omega)]
 omega
theorem copied_n {w : World} {v : Value} {xs : List UInt8} {n : Nat} (h : Bts w v xs) (hn : xs.length = n) (hl : n ≤ 100000000) : Calls Tryz.prog 34 #[v] w fun e w' => e = .returned (.slice (some ⟨w.heap.size, 0, none⟩) n n) ∧ Blk w' w.heap.size xs ∧ Below w.heap.size w w' := by
 subst hn
 exact copied_any h hl
theorem hold_n {w : World} {g : Nat} {F : Nat → Prop} {s : M.St} {b n : Nat} {xs : List UInt8} (h : Disk w g F s) (hb : Blk w b xs) (hn : xs.length = n) (hg : g ≠ b) (hl : n ≤ s.z) : Calls Tryz.prog 33 #[.pointer (some ⟨g, 0, none⟩),.slice (some ⟨b, 0, none⟩) n n] w
 fun e w' => e = .returned (.tuple #[]) ∧ Disk w' g (fun x => x = g ∨ x = b) ⟨s.z, xs, n⟩ ∧ Keeps (fun x => x = g) w w' := by
 subst hn
 exact hold_any h hb hg hl
theorem crash_done {w w1 w2 w3 : World} {g b n : Nat} {F : Nat → Prop} {s : M.St} {keep pos : Int} {mask : UInt8} (hF : F g) (hb : b = w.heap.size) (h1 : Below w.heap.size w w1) (h2 : Keeps (fun x => x = b) w1 w2) (h3 : Keeps (fun x => x = g) w2 w3)
 (hd : Disk w3 g (fun x => x = g ∨ x = b) ⟨s.z, M.fell keep pos mask s, n⟩) (hn : n = s.k + M.left keep s) : ∃ F', Disk w3 g F' (M.crash keep pos mask s) ∧ Keeps F w w3 ∧ Grew F F' w w3 := by
 subst hn
 refine ⟨_, hd, ((Keeps.of_below h1).trans h2 fun x hx e => ?_).trans h3 fun x _ e => e ▸ hF, fun x e => ?_, hd.lt⟩
 ·omega
 ·rcases e with rfl | rfl
  ·exact .inl hF
  ·exact .inr (by omega)
theorem crashD_any {w : World} {g : Nat} {F : Nat → Prop} {s : M.St} (h : Disk w g F s) (keep pos : Int) (mask : UInt8) : Calls Tryz.prog 21 #[.pointer (some ⟨g, 0, none⟩),.int .i64 keep,.int .i64 pos,.int .u8 (mask.toNat : Int)] w (Stept (.returned (.tuple #[])) w g F (M.crash keep pos mask s)) := by
 have HD := Lib.hid h
 obtain ⟨v, u, h⟩ := h
 obtain ⟨A, c, rfl, hc⟩ := h.row.slice
 obtain ⟨c0, c1, c2, c3⟩ := h.blk.at_
 have hbs := h.ok.1
 have hz := h.ok.2.1
 have hk := h.ok.2.2
 have hg := h.blk.lt
 have e1 : IntKind.i64.wrap ((s.bs.length : Int) - (s.k : Int)) = (s.bs.length : Int) - (s.k : Int) := IntWalk.i64_in _ (by omega)
 have hL := M.left_int keep s h.ok
 have hLl := M.left_le keep s
 have HF := Lib.hid (M.fell_len (keep := keep) (pos := pos) (mask := mask) h.ok)
 obtain ⟨L, hLe⟩ : ∃ L, L = M.left keep s := ⟨_, rfl⟩
 rw [← hLe] at hL hLl HF
 have HL := Lib.hid hLe
 have HB := Lib.hid (h.row.bts.take (s.k + L) (by omega))
 have HG := Lib.hid h.own
 have e2 : IntKind.i64.wrap ((s.k : Int) + (L : Int)) = (s.k : Int) + (L : Int) := IntWalk.i64_in _ (by omega)
 have e3 : ((s.k : Int) + (L : Int)).toNat = s.k + L := by omega
 have e4 : 0 ≤ (s.k : Int) + (L : Int) := by omega
 have e5 : (s.k : Int) + (L : Int) ≤ (c : Int) := by omega
 clear h hLe
 go_enter Tryz.func21, Tryz.ntmps21
 go_wp2
 go_quiet (fail)
 go_wp2
 go_region_with (go_at_call 34; refine Calls.mono (copied_n (xs := s.bs.take (s.k + L)) (n := s.k + L) (by exact HB.out) (by simp; omega) (by omega)) ?_; rintro e w1 ⟨rfl, hB, hb⟩)
 all_goals
  have hB1 : Blk w1 w.heap.size (s.bs.take (s.k + L)) := hB
  have hb1 : Below w.heap.size w w1 := ⟨hb.os, hb.tape, hb.output, hb.size, hb.block⟩
  have H1 := Lib.hid (HD.out.below hb1)
  have c2' := (hb1.cell (p := ⟨g, 2, none⟩) hg).trans c2
  have HB1 := Lib.hid hB1
  have HN1 := Lib.hid hb1
  clear hB hb hb1 hB1
  by_cases hp : 0 ≤ pos ∧ pos < L
  ·obtain ⟨j, rfl⟩ : ∃ j : Nat, pos = j := ⟨pos.toNat, by omega⟩
   have hj : j < L := by omega
   have hcell := HB1.out.at_ (k := s.k + j) (by simp; omega)
   have hfz := HB1.out.unfrozen (s.k + j)
   have HS := HB1.out.set (s.k + j) ((s.bs.take (s.k + L)).getD (s.k + j) 0 ^^^ mask)
   have hX := xor8 ((s.bs.take (s.k + L)).getD (s.k + j) 0) mask
   have HFe := Lib.hid (show (s.bs.take (s.k + L)).set (s.k + j) ((s.bs.take (s.k + L)).getD (s.k + j) 0 ^^^ mask) = M.fell keep j mask s by
    rw [M.fell, ← HL.out, if_pos hp]
    have : (s.bs.take (s.k + L)).getD (s.k + j) 0 = s.bs.getD (s.k + j) 0 := by rw [List.getD, List.getD, List.getElem?_take_of_lt (by omega)]
    rw [this]; simp)
   rw [HFe.out] at HS
   unfold enc8 at HS
   generalize (s.bs.take (s.k + L)).getD (s.k + j) 0 ^^^ mask = x at *
   generalize (s.bs.take (s.k + L)).getD (s.k + j) 0 = y at *
   have HS2 := Lib.hid HS
   have K2 := Lib.hid ((Keeps.refl (fun y => y = w.heap.size) w1).setCell (p := ⟨w.heap.size, s.k + j, none⟩) (.inl rfl) (.int .u8 (x.toNat : Int)))
   have H2 := Lib.hid (H1.out.keeps K2.out fun x e => by have := HD.out.lt x e; omega)
   have e6 : IntKind.i64.wrap ((s.k : Int) + (j : Int)) = (s.k : Int) + (j : Int) := IntWalk.i64_in _ (by omega)
   have e7 : ((s.k : Int) + (j : Int)).toNat = s.k + j := by omega
   have e8 : 0 ≤ (s.k : Int) + (j : Int) := by omega
   clear HS
   go_wp2_with (fail)
   refine (hold_n H2.out HS2.out HF.out (by omega) (by omega)).mono ?_
   rintro e w3 ⟨rfl, hd, hk3⟩
   have HX := Lib.hid hd
   have HK := Lib.hid hk3
   clear hd hk3
   go_wp2
   go_end0
   exact ⟨rfl, crash_done (b := w.heap.size) (n := s.k + L) HG.out rfl HN1.out K2.out HK.out HX.out (by rw [← HL.out])⟩
  ·have HFe := Lib.hid (show s.bs.take (s.k + L) = M.fell keep pos mask s by rw [M.fell, ← HL.out, if_neg hp])
   rw [HFe.out] at HB1
   have HS2 := HB1
   have K2 := Lib.hid (Keeps.refl (fun y => y = w.heap.size) w1)
   have H2 := H1
   by_cases h0 : pos < 0
   ·clear hp
    go_wp2_with (fail)
    refine (hold_n H2.out HS2.out HF.out (by omega) (by omega)).mono ?_
    rintro e w3 ⟨rfl, hd, hk3⟩
    have HX := Lib.hid hd
    have HK := Lib.hid hk3
    clear hd hk3
    go_wp2
    go_end0
    exact ⟨rfl, crash_done (b := w.heap.size) (n := s.k + L) HG.out rfl HN1.out K2.out HK.out HX.out (by rw [← HL.out])⟩
   ·have h1 : (L : Int) ≤ pos := by omega
    clear hp
    go_wp2_with (fail)
    refine (hold_n H2.out HS2.out HF.out (by omega) (by omega)).mono ?_
    rintro e w3 ⟨rfl, hd, hk3⟩
    have HX := Lib.hid hd
    have HK := Lib.hid hk3
    clear hd hk3
    go_wp2
    go_end0
    exact ⟨rfl, crash_done (b := w.heap.size) (n := s.k + L) HG.out rfl HN1.out K2.out HK.out HX.out (by rw [← HL.out])⟩
end Go.Proofs.YtdachohcjpjblaaGreatDoor.Di
