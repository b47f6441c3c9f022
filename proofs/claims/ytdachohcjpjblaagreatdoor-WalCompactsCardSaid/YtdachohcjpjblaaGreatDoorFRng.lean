/- A range over a map of rows: its steps, whichever way the order falls; the library's iterator over its keys; conditions: a block that is a map. -/
import Derived.Test.YtdachohcjpjblaaGreatDoorFItr
import Derived.Maps.Range
set_option maxHeartbeats 8000000
set_option maxRecDepth 100000
namespace Go.Proofs.YtdachohcjpjblaaGreatDoor
open Go.ChangeShapes Go.WideShapes Go.ChangeAt Go.RowKit
open Di (Keeps In below_on below_new)
open Wi (Hold)
open Go.Proofs Go.Maps Go.Shelf Go.Sort
open Go.ChangeMaps (setBlock)
open Go.ChangeMaps
namespace Rg
attribute [local go_sem] Oper.semAt_some
def num : Option Value → Int
 | some (.int _ x) => x
 | _ => 0
def ky : Value → Ky
 | .agg a => (num a[0]?, num a[1]?)
 | _ => (0, 0)
theorem ky_kv (k : Ky) : ky (kv k) = k := by simp [ky, kv, num]
def Ranging (w : World) (gm r : Nat) (m : List (Ky × Rv)) (L : List MapEntry) : Prop := ∃ es ck since seen c0, w.heap[gm]? = some (.map es ck) ∧ es.toList.map (fun e => (e.key, e.val)) = m.map (fun p => (kv p.1, p.2.val)) ∧ (es.toList.map (·.born)).Pairwise (· < ·) ∧ (∀ e ∈ es.toList, e.born < ck) ∧
 w.heap[r]? = some (.mapIter (some gm) since seen c0) ∧ (∀ x ∈ es.toList, x.born < since) ∧ since ≤ c0 ∧ since ≤ ck ∧ L = (leftOf es seen).toList
theorem Ranging.ne {w : World} {gm r : Nat} {m : List (Ky × Rv)} {L : List MapEntry} (h : Ranging w gm r m L) : r ≠ gm := by
 obtain ⟨es, ck, since, seen, c0, hb, -, -, -, hr, -⟩ := h
 intro e
 rw [e, hb] at hr
 cases hr
theorem Ranging.left {w : World} {gm r : Nat} {m : List (Ky × Rv)} {L : List MapEntry} (h : Ranging w gm r m L) : w.rangeLeft gm r = L.length := by
 obtain ⟨es, ck, since, seen, c0, hb, -, -, -, hr, -, -, -, rfl⟩ := h
 simp [World.rangeLeft, hb, hr]
theorem Ranging.kept {w w' : World} {row : Option Nat} {gm r : Nat} {m : List (Ky × Rv)} {L : List MapEntry} (h : Ranging w gm r m L) (hg : w.grownBy w' row) (h1 : some gm ≠ row) (h2 : some r ≠ row) : Ranging w' gm r m L := by
 obtain ⟨es, ck, since, seen, c0, hb, a, b, c, hr, rest⟩ := h
 exact ⟨es, ck, since, seen, c0, (hg.block gm (Array.getElem?_eq_some_iff.1 hb).1 h1).trans hb, a, b, c, (hg.block r (Array.getElem?_eq_some_iff.1 hr).1 h2).trans hr, rest⟩
theorem Ranging.walks {w w' : World} {gm r : Nat} {m : List (Ky × Rv)} {L : List MapEntry} (h : Ranging w gm r m L) (hk : KeepsWalks w w') : Ranging w' gm r m L := by
 obtain ⟨es, ck, since, seen, c0, hb, a, b, c, hr, rest⟩ := h
 exact ⟨es, ck, since, seen, c0, hk.same gm _ hb rfl, a, b, c, hk.same r _ hr rfl, rest⟩
theorem Ranging.walk {w : World} {gm r : Nat} {m : List (Ky × Rv)} {L : List MapEntry} (h : Ranging w gm r m L) : ∃ o : Obj, w.heap[r]? = some o ∧ o.isWalk = true := by
 obtain ⟨es, ck, since, seen, c0, hb, a, b, c, hr, rest⟩ := h
 exact ⟨_, hr, rfl⟩
theorem start {w : World} {gm : Nat} {m : List (Ky × Rv)} (h : MapIs w gm m) : ∃ w' L, (Instr.range 73 (.map (some gm))).run Tryz.prog w = .ok (.pointer (some ⟨w.heap.size, 0, none⟩)) w' ∧ Ranging w' gm w.heap.size m L ∧ L.map (fun e => ky e.key) = m.map (·.1) ∧ w.grownBy w' none ∧ w'.heap.size = w.heap.size + 1 := by
 have hl := h.lt
 obtain ⟨es, ck, hb, he, hp, hc⟩ := h
 refine ⟨_, (leftOf es #[]).toList, run_range_map w 73 53 67 gm es ck It.u73 hb, ⟨es, ck, ck, #[], ck, ((MapKept.heap_alloc w _).2 gm hl).trans hb, he, hp, hc, (MapKept.heap_alloc w _).1, hc, Nat.le_refl _, Nat.le_refl _, rfl⟩, ?_, World.grownBy_alloc w _ none, by simp⟩
 have e1 : leftOf es #[] = es := by simp [leftOf]
 rw [e1]
 have := congrArg (List.map (fun q : Value × Value => ky q.1)) he
 simpa [Function.comp_def, ky_kv] using this
theorem perm_out : ∀ {L : List MapEntry} {e : MapEntry}, (L.map (·.born)).Nodup → e ∈ L → L.Perm (e :: L.filter (fun x => x.born != e.born))
 | [], _, _, he => (List.not_mem_nil he).elim
 | a :: L, e, hn, he => by
   obtain ⟨h1, h2⟩ := List.nodup_cons.1 (by simpa using hn : (a.born :: L.map (·.born)).Nodup)
   by_cases hab : a.born = e.born
   ·have hae : e = a := by
     rcases List.mem_cons.1 he with h | h
     ·exact h
     ·exact absurd (List.mem_map.2 ⟨e, h, hab.symm⟩) h1
    subst hae
    have : L.filter (fun x => x.born != e.born) = L := List.filter_eq_self.2 (fun x hx => by
     simp only [bne_iff_ne, ne_eq]
     exact fun h => h1 (List.mem_map.2 ⟨x, hx, h⟩))
    rw [List.filter_cons]
    simp [this]
   ·have hel : e ∈ L := by
     rcases List.mem_cons.1 he with h | h
     ·exact absurd (by rw [h]) hab
     ·exact h
    rw [List.filter_cons, if_pos (by simpa using hab)]
    exact ((perm_out h2 hel).cons a).trans (List.Perm.swap _ _ _)
theorem next {w : World} {gm r : Nat} {m : List (Ky × Rv)} {L : List MapEntry} (h : Ranging w gm r m L) (ty : TypeId) :
 (L = [] ∧ (Instr.next (.pointer (some ⟨r, 0, none⟩)) false ty).run Tryz.prog w = .ok (.tuple #[.bool false]) w) ∨
 ∃ (p : Ky × Rv) (L' : List MapEntry) (w' : World), p ∈ m ∧ (L.map (fun e => ky e.key)).Perm (p.1 :: L'.map (fun e => ky e.key)) ∧ L'.length < L.length ∧ (Instr.next (.pointer (some ⟨r, 0, none⟩)) false ty).run Tryz.prog w = .ok (.tuple #[.bool true, kv p.1, p.2.val]) w' ∧
   Ranging w' gm r m L' ∧ w.grownBy w' (some r) ∧ w'.heap.size = w.heap.size ∧ (Instr.entry (.pointer (some ⟨r, 0, none⟩))).run Tryz.prog w' = .ok (.tuple #[kv p.1, p.2.val]) w' := by
 have hne := h.ne
 obtain ⟨es, ck, since, seen, c0, hb, he, hp, hc, hr, hold, hsc, hsk, rfl⟩ := h
 rcases run_next_at (P := Tryz.prog) w ty r gm since c0 seen es ck hr hb hold hsc with ⟨h0, hrun⟩ | ⟨e, hel, w1, hal, hrun⟩
 ·exact .inl ⟨List.eq_nil_of_length_eq_zero (by simpa using h0), hrun⟩
 ·have hem : e ∈ es.toList := by simp [leftOf] at hel ⊢; exact hel.1
  have hnd : (es.toList.map (·.born)).Nodup := hp.imp (fun h => Nat.ne_of_lt h)
  obtain ⟨p, hpm, hpe⟩ : ∃ p ∈ m, (kv p.1, p.2.val) = (e.key, e.val) := by
   have : (e.key, e.val) ∈ es.toList.map (fun e => (e.key, e.val)) := List.mem_map.2 ⟨e, hem, rfl⟩
   rw [he] at this
   exact List.mem_map.1 this
  simp only [Prod.mk.injEq] at hpe
  have hr1 : w1.heap[r]? = some (.mapIter (some gm) since seen c0) := by rcases hal with rfl | rfl <;> exact hr
  have hb1 : w1.heap[gm]? = some (.map es ck) := by rcases hal with rfl | rfl <;> exact hb
  have hset := MapKept.heap_set (o' := .mapIter (some gm) since (seen.push e.born) ck) hr1
  have hb' : (setBlock w1 r (.mapIter (some gm) since (seen.push e.born) ck)).heap[gm]? = some (.map es ck) := (hset.2 gm (fun e1 => hne e1.symm)).trans hb1
  have hL : (leftOf es (seen.push e.born)).toList = (leftOf es seen).toList.filter (fun x => x.born != e.born) := by
   simp only [leftOf, Array.toList_filter, List.filter_filter]
   refine List.filter_congr (fun x _ => ?_)
   rw [Array.contains_push]
   cases seen.contains x.born <;> simp [bne, Bool.beq_eq_decide_eq, eq_comm]
  have hnl : ((leftOf es seen).toList.map (·.born)).Nodup := by
   simp only [leftOf, Array.toList_filter]
   exact hnd.sublist (List.filter_sublist.map _)
  have hpo := perm_out hnl hel
  refine .inr ⟨p, (leftOf es (seen.push e.born)).toList, _, hpm, ?_, ?_, by rw [hpe.1, hpe.2]; exact hrun, ⟨es, ck, since, _, ck, hb', he, hp, hc, hset.1, hold, hsk, hsk, rfl⟩, ?_, ?_, ?_⟩
  ·rw [hL]
   have := hpo.map (fun e : MapEntry => ky e.key)
   rw [List.map_cons, ← hpe.1, ky_kv] at this
   exact this
  ·rw [hL]
   have := hpo.length_eq
   simp only [List.length_cons] at this
   omega
  ·rcases hal with rfl | rfl <;> exact ⟨rfl, rfl, rfl, by simp [setBlock], fun i _ hi => hset.2 i (fun e1 => hi (by rw [e1]))⟩
  ·rcases hal with rfl | rfl <;> simp [setBlock]
  ·rw [hpe.1, hpe.2]
   exact run_entry_at _ r gm since seen es ck e hset.1 hb' hem hnd
end Rg
end Go.Proofs.YtdachohcjpjblaaGreatDoor
