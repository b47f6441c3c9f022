/- Maps from instances to records in memory: what a look-up, a store, a clearing do; no conditions but those that each theorem names. -/
import Derived.Test.YtdachohcjpjblaaGreatDoorFDi
import Derived.Test.YtdachohcjpjblaaGreatDoorFWiC
import Derived.MapKept
import Derived.WideKeyRuns
import Derived.RangeFuncRecord
set_option maxHeartbeats 8000000
set_option maxRecDepth 100000
namespace Go.Proofs.YtdachohcjpjblaaGreatDoor
open Go.RowKit
structure Rv where
 r : Wi.M.Rec
 va : Value
 vb : Value
def Rv.cells (x : Rv) : List Value := [.int .i64 x.r.ir,.int .i64 x.r.is,.int .i64 x.r.st,.int .i64 x.r.pn,.int .i64 x.r.pr,.int .i64 x.r.bn,.int .i64 x.r.br,.int .i64 x.r.c.k,.int .i64 x.r.c.tc,.int .i64 x.r.c.tn,.int .i64 x.r.c.tt,.int .i64 x.r.c.tk,.int .i64 x.r.c.sh, x.va, x.vb,.bool x.r.c.cm,.int .i64 x.r.sq,.int .i64 x.r.d0,.int .i64 x.r.d1,.int .i64 x.r.d2,.int .i64 x.r.d3,.int .i64 x.r.d4,.int .i64 x.r.d5,.int .i64 x.r.d6,.bool x.r.kp]
def Rv.val (x : Rv) : Value := .agg x.cells.toArray
abbrev Ky := Int × Int
def Rv.key (x : Rv) : Ky := (x.r.ir, x.r.is)
def kv (k : Ky) : Value := .agg #[.int .i64 k.1,.int .i64 k.2]
def Rv.zero : Rv := ⟨⟨0, 0, 0, 0, 0, 0, 0, ⟨0, 0, 0, 0, 0, 0, [], [], false⟩, 0, 0, 0, 0, 0, 0, 0, 0, false⟩,.slice none 0 0,.slice none 0 0⟩
theorem run_eq53 (a b : Ky) (w : World) : (Op.equal 53 (kv a) (kv b)).run Tryz.prog w = .ok (decide (a = b)) w := by
 obtain ⟨a1, a2⟩ := a
 obtain ⟨b1, b2⟩ := b
 unfold Op.equal Op.maxDepth kv
 by_cases h2 : a1 = b1 <;> by_cases h3 : a2 = b2 <;> go_simp
theorem run_check3 (em : Bool) (n : Nat) (v : Value) (w : World) : (Instr.checkKey em (n + 1) 3 v).run Tryz.prog w = .ok () w := by
 unfold Instr.checkKey
 simp [run_underlying Tryz.underlying3]
theorem run_check53' (em : Bool) (n : Nat) (a : Ky) (w : World) : (Instr.checkKey em (n + 2) 53 (kv a)).run Tryz.prog w = .ok () w := by
 obtain ⟨a1, a2⟩ := a
 unfold kv Instr.checkKey
 have h3 := run_check3 em n
 go_simp
theorem run_check53 (em : Bool) (a : Ky) (w : World) : (Instr.checkKey em 10000 53 (kv a)).run Tryz.prog w = .ok () w := run_check53' em 9998 a w
def mput : List (Ky × Rv) → Ky → Rv → List (Ky × Rv)
 | [], k, x => [(k, x)]
 | p :: m, k, x => if k = p.1 then (k, x) :: m else p :: mput m k x
def mget : List (Ky × Rv) → Ky → Option Rv
 | [], _ => none
 | p :: m, k => if k = p.1 then some p.2 else mget m k
def midx : List (Ky × Rv) → Ky → Nat → Option (Nat × Rv)
 | [], _, _ => none
 | p :: m, k, i => if k = p.1 then some (i, p.2) else midx m k (i + 1)
theorem midx_get : ∀ (m : List (Ky × Rv)) (k : Ky) (i : Nat), (midx m k i).map (·.2) = mget m k
 | [], _, _ => rfl
 | p :: m, k, i => by
   rw [midx, mget]; split
   ·rfl
   ·exact midx_get m k (i + 1)
theorem midx_put : ∀ (m : List (Ky × Rv)) (k : Ky) (x : Rv) (i : Nat), (midx m k i = none → mput m k x = m ++ [(k, x)]) ∧ ∀ j y, midx m k i = some (j, y) → i ≤ j ∧ j - i < m.length ∧ (m.map (·.1))[j - i]? = some k ∧ mput m k x = m.set (j - i) (k, x)
 | [], k, x, i => ⟨fun _ => rfl, fun j y h => by cases h⟩
 | p :: m, k, x, i => by
   obtain ⟨h1, h2⟩ := midx_put m k x (i + 1)
   by_cases hp : k = p.1
   ·simp only [midx, mput, if_pos hp]
    refine ⟨fun h => (by cases h), fun j y h => ?_⟩
    cases h
    simp [hp]
   ·simp only [midx, mput, if_neg hp]
    refine ⟨fun h => by rw [h1 h]; rfl, fun j y h => ?_⟩
    obtain ⟨a, b, c, d⟩ := h2 j y h
    have e : j - i = (j - (i + 1)) + 1 := by omega
    rw [e]
    exact ⟨by omega, by simp; omega, by simpa using c, by rw [d]; rfl⟩
def MapIs (w : World) (gm : Nat) (m : List (Ky × Rv)) : Prop := ∃ es ck, w.heap[gm]? = some (.map es ck) ∧ es.toList.map (fun e => (e.key, e.val)) = m.map (fun p => (kv p.1, p.2.val)) ∧ (es.toList.map (·.born)).Pairwise (· < ·) ∧ ∀ e ∈ es.toList, e.born < ck
theorem MapIs.lt {w : World} {gm : Nat} {m : List (Ky × Rv)} (h : MapIs w gm m) : gm < w.heap.size := by
 obtain ⟨es, ck, h, _⟩ := h
 exact (Array.getElem?_eq_some_iff.1 h).1
theorem MapIs.keeps {w w' : World} {gm : Nat} {m : List (Ky × Rv)} {F : Nat → Prop} (h : MapIs w gm m) (k : Di.Keeps F w w') (hf : ¬ F gm) : MapIs w' gm m := by
 have hl := h.lt
 obtain ⟨es, ck, h, r⟩ := h
 exact ⟨es, ck, (k.block gm hl hf).trans h, r⟩
theorem MapIs.apart {w : World} {gm : Nat} {m : List (Ky × Rv)} (h : MapIs w gm m) {b : Nat} {cur : Array Value} {t : TypeId} {z : Nat × Nat} (hb : w.heap[b]? = some (.cells cur t z)) : b ≠ gm := by
 obtain ⟨es, ck, h, _⟩ := h
 rintro rfl
 rw [h] at hb
 cases hb
theorem MapIs.new (w : World) : MapIs (w.alloc (.map #[] 0)) w.heap.size [] := ⟨#[], 0, heap_alloc_new w _, rfl, by simp, by simp⟩
theorem find_inst (k : Ky) (w : World) : ∀ (l : List MapEntry) (m : List (Ky × Rv)) (i : Nat), l.map (fun e => (e.key, e.val)) = m.map (fun p => (kv p.1, p.2.val)) →
 (Instr.findAsking 53 (kv k) l i).run Tryz.prog w = .ok ((midx m k i).map fun q => (q.1, q.2.val)) w
 | [], m, i, h => by
   obtain rfl : m = [] := by cases m <;> simp_all
   simp [Instr.findAsking, midx]
 | e :: l, m, i, h => by
   cases m with
   | nil => simp at h
   | cons p m =>
     simp only [List.map_cons, List.cons.injEq, Prod.mk.injEq] at h
     obtain ⟨⟨h1, h2⟩, h3⟩ := h
     by_cases hp : k = p.1
     ·simp [Instr.findAsking, h1, run_eq53, midx, hp, h2]
     ·simp [Instr.findAsking, h1, run_eq53, midx, hp, find_inst k w l m (i + 1) h3]
theorem wide53 : (match Tryz.prog.underlying 53 with | some (.array _ _) | some (.struct _) => true | _ => false) = true := by kernel_rfl
theorem run_look {w : World} {gm : Nat} {m : List (Ky × Rv)} (h : MapIs w gm m) (k : Ky) : (Instr.lookup 73 (.map (some gm)) (kv k) true).run Tryz.prog w = .ok (.tuple #[((mget m k).getD Rv.zero).val,.bool (mget m k).isSome]) w := by
 obtain ⟨es, ck, hb, he, _⟩ := h
 have hf : (Instr.findKey 53 (kv k) es.toList).run Tryz.prog w = .ok ((midx m k 0).map fun q => (q.1, q.2.val)) w := (run_findKey_eq w wide53 (kv k) es.toList).trans (find_inst k w es.toList m 0 he)
 have hg := midx_get m k 0
 unfold Instr.lookup
 simp only [Sem.run_bind, run_underlying Tryz.underlying73, Result.andThen_ok, MapKept.run_getObj_map hb, run_check53, hf, Sem.run_pure]
 cases e : midx m k 0 with
 | none =>
   rw [e] at hg
   simp [← hg]
   rfl
 | some q =>
   rw [e] at hg
   simp [← hg]
theorem run_look1 {w : World} {gm : Nat} {m : List (Ky × Rv)} (h : MapIs w gm m) (k : Ky) : (Instr.lookup 73 (.map (some gm)) (kv k) false).run Tryz.prog w = .ok ((mget m k).getD Rv.zero).val w := by
 obtain ⟨es, ck, hb, he, _⟩ := h
 have hf : (Instr.findKey 53 (kv k) es.toList).run Tryz.prog w = .ok ((midx m k 0).map fun q => (q.1, q.2.val)) w := (run_findKey_eq w wide53 (kv k) es.toList).trans (find_inst k w es.toList m 0 he)
 have hg := midx_get m k 0
 unfold Instr.lookup
 simp only [Sem.run_bind, run_underlying Tryz.underlying73, Result.andThen_ok, MapKept.run_getObj_map hb, run_check53, hf, Sem.run_pure]
 cases e : midx m k 0 with
 | none =>
   rw [e] at hg
   simp [← hg]
   rfl
 | some q =>
   rw [e] at hg
   simp [← hg]
theorem bits_kv' (n : Nat) (k : Ky) : Instr.sameBits (n + 1) (kv k) (kv k) = true := by
 simp [Instr.sameBits, kv]
theorem bits_kv (k : Ky) : Instr.sameBits 10000 (kv k) (kv k) = true := bits_kv' 9999 k
theorem run_stays (k : Ky) (w : World) : (Instr.keyThatStays (kv k) (kv k)).run Tryz.prog w = .ok (kv k) w := by
 unfold Instr.keyThatStays
 rw [bits_kv]
 simp
theorem map_modify (es : Array MapEntry) (i : Nat) (f : MapEntry → MapEntry) {α : Type} (g : MapEntry → α) (y : α) (hg : ∀ e, es.toList[i]? = some e → g (f e) = y) : ((es.modify i f).toList.map g) = (es.toList.map g).set i y := by
 apply List.ext_getElem?
 intro j
 rw [List.getElem?_map, Array.getElem?_toList, Array.getElem?_modify]
 by_cases h : i = j
 ·subst h
  rw [if_pos rfl]
  by_cases hi : i < es.size
  ·rw [List.getElem?_set_self (by simpa using hi)]
   have he : es.toList[i]? = some es[i] := by rw [Array.getElem?_toList, Array.getElem?_eq_getElem hi]
   rw [Array.getElem?_eq_getElem hi]
   simp [hg _ he]
  ·rw [List.getElem?_eq_none (by simp; omega), Array.getElem?_eq_none (by omega)]; rfl
 ·rw [if_neg h, List.getElem?_set_ne h, List.getElem?_map, Array.getElem?_toList]
theorem putObj_same {w : World} {r : Nat} (o : Obj) (h : r < w.heap.size) : (w.putObj r o).heap[r]? = some o := by
 unfold World.putObj
 simp [h]
theorem keeps_putObj (w : World) (r : Nat) (o : Obj) : Di.Keeps (fun x => x = r) w (w.putObj r o) :=
 ⟨rfl, rfl, rfl, by simp [World.putObj], fun k _ hk => by
  unfold World.putObj
  rw [Array.getElem?_setIfInBounds, if_neg (fun e => hk e.symm)]⟩
theorem size_putObj (w : World) (r : Nat) (o : Obj) : (w.putObj r o).heap.size = w.heap.size := by simp [World.putObj]
theorem run_put {w : World} {gm : Nat} {m : List (Ky × Rv)} (h : MapIs w gm m) (k : Ky) (x : Rv) : ∃ w', (Instr.mapUpdate 73 (.map (some gm)) (kv k) x.val).run Tryz.prog w = .ok () w' ∧ MapIs w' gm (mput m k x) ∧ Di.Keeps (fun y => y = gm) w w' ∧ w'.heap.size = w.heap.size := by
 have hlt := h.lt
 obtain ⟨es, ck, hb, he, hp, hc⟩ := h
 have hf : (Instr.findKey 53 (kv k) es.toList).run Tryz.prog w = .ok ((midx m k 0).map fun q => (q.1, q.2.val)) w := (run_findKey_eq w wide53 (kv k) es.toList).trans (find_inst k w es.toList m 0 he)
 obtain ⟨hn, hs⟩ := midx_put m k x 0
 cases e : midx m k 0 with
 | none =>
   refine ⟨w.putObj gm (.map (es.push { key := kv k, val := x.val, born := ck }) (ck + 1)), ?_, ⟨_, _, putObj_same _ hlt, ?_, ?_, ?_⟩, keeps_putObj _ _ _, size_putObj _ _ _⟩
   ·unfold Instr.mapUpdate
    simp only [Sem.run_bind, run_underlying Tryz.underlying73, Result.andThen_ok, MapKept.run_getObj_map hb, run_check53, hf, e, Option.map_none, MapKept.run_setObj_map _ hb]
    rfl
   ·rw [hn e]; simp [he]
   ·simp only [Array.toList_push, List.map_append, List.map_cons, List.map_nil]
    rw [List.pairwise_append]
    refine ⟨hp, by simp, fun a ha b hb' => ?_⟩
    obtain ⟨y, hy, rfl⟩ := List.mem_map.1 ha
    simp at hb'
    subst hb'
    exact hc y hy
   ·intro y hy
    simp only [Array.toList_push, List.mem_append, List.mem_singleton] at hy
    rcases hy with hy | rfl
    ·have := hc y hy; omega
    ·simp
 | some q =>
   obtain ⟨j, y⟩ := q
   obtain ⟨-, hj, hk, hset⟩ := hs j y e
   rw [Nat.sub_zero] at hj hk hset
   have hlen : es.size = m.length := by have := congrArg List.length he; simpa using this
   have hkey : ((es[j]?).map (·.key)).getD (kv k) = kv k := by
    have h1 : (es.toList.map (fun e => (e.key, e.val)))[j]? = (m.map (fun p => (kv p.1, p.2.val)))[j]? := by rw [he]
    rw [List.getElem?_map, List.getElem?_map, Array.getElem?_toList] at h1
    rw [List.getElem?_map] at hk
    cases e1 : es[j]? with
    | none => rfl
    | some en =>
      cases e2 : m[j]? with
      | none => rw [e2] at hk; cases hk
      | some p =>
        rw [e1, e2] at h1
        rw [e2] at hk
        simp only [Option.map_some, Option.some.injEq, Prod.mk.injEq] at h1 hk
        simp [h1.1, hk]
   refine ⟨w.putObj gm (.map (es.modify j fun e => { e with key := kv k, val := x.val }) ck), ?_, ⟨_, _, putObj_same _ hlt, ?_, ?_, ?_⟩, keeps_putObj _ _ _, size_putObj _ _ _⟩
   ·unfold Instr.mapUpdate
    simp only [Sem.run_bind, run_underlying Tryz.underlying73, Result.andThen_ok, MapKept.run_getObj_map hb, run_check53, hf, e, Option.map_some, hkey, run_stays, MapKept.run_setObj_map _ hb]
    rfl
   ·rw [map_modify es j _ _ (kv k, x.val) (fun _ _ => rfl), he, hset, List.map_set]
   ·have : (es.modify j fun e => { e with key := kv k, val := x.val }).toList.map (·.born) = es.toList.map (·.born) := by
     apply List.ext_getElem?
     intro i
     rw [List.getElem?_map, List.getElem?_map, Array.getElem?_toList, Array.getElem?_toList, Array.getElem?_modify]
     split
     ·cases es[i]? <;> rfl
     ·rfl
    rw [this]; exact hp
   ·intro y hy
    obtain ⟨i, hi, rfl⟩ := List.mem_iff_getElem.1 hy
    simp only [Array.getElem_toList, Array.getElem_modify]
    have hi' : i < es.size := by simpa using hi
    have := hc es[i] (by simp)
    split <;> simpa using this
theorem run_clear73 {w : World} {gm : Nat} {m : List (Ky × Rv)} (h : MapIs w gm m) (ty : TypeId) : ∃ w', (Builtin.clear_ #[73] ty #[.map (some gm)]).run Tryz.prog w = .ok (.tuple #[]) w' ∧ MapIs w' gm [] ∧ Di.Keeps (fun y => y = gm) w w' ∧ w'.heap.size = w.heap.size := by
 have hlt := h.lt
 obtain ⟨es, ck, hb, he, hp, hc⟩ := h
 refine ⟨w.putObj gm (.map #[] ck), ?_, ⟨_, _, putObj_same _ hlt, rfl, by simp, by simp⟩, keeps_putObj _ _ _, size_putObj _ _ _⟩
 unfold Builtin.clear_
 simp [run_underlying Tryz.underlying73, MapKept.run_getObj_map hb, MapKept.run_setObj_map _ hb]
 rfl
end Go.Proofs.YtdachohcjpjblaaGreatDoor
