/- The instances of a log, sorted; condition: content that holds. -/
import Derived.Test.YtdachohcjpjblaaGreatDoorFKit
import Derived.Test.YtdachohcjpjblaaGreatDoorFCmp
import Derived.Test.YtdachohcjpjblaaGreatDoorFSrt
import Derived.Test.YtdachohcjpjblaaGreatDoorFSol
import Derived.Test.YtdachohcjpjblaaGreatDoorFMet
import Derived.Sort.OwnSorted
import Derived.Deep.Onto
set_option maxHeartbeats 8000000
set_option maxRecDepth 100000
namespace Go.Proofs.YtdachohcjpjblaaGreatDoor
open Go.ChangeShapes Go.WideShapes Go.ChangeAt Go.RowKit
open Di (Keeps In below_on below_new)
open Wi (Hold)
open Go.Proofs Go.Maps Go.Shelf Go.Sort Go.Lib
namespace Sr
theorem kc_len (k : Ky) : (It.kc k).length = 2 := rfl
theorem kc_at : ∀ (ks : List Ky) (t : Nat), t < ks.length * 2 → (ks.flatMap It.kc)[t]? = some ((It.kc ks[t / 2]!)[t % 2]!)
 | [], t, h => by simp at h
 | k :: ks, 0, _ => rfl
 | k :: ks, 1, _ => rfl
 | k :: ks, t + 2, h => by
   have h' : t < ks.length * 2 := by simp only [List.length_cons] at h; omega
   have := kc_at ks t h'
   rw [show (t + 2) / 2 = t / 2 + 1 by omega, show (t + 2) % 2 = t % 2 by omega]
   simp only [List.flatMap_cons]
   rw [List.getElem?_append_right (by rw [kc_len]; omega), kc_len, Nat.add_sub_cancel, this]
   simp
theorem flat_len (ks : List Ky) : (ks.flatMap It.kc).length = ks.length * 2 := by
 induction ks with
 | nil => rfl
 | cons k ks ih => rw [List.flatMap_cons, List.length_append, ih, kc_len, List.length_cons]; omega
theorem flatK_list (d : Array Ky) : (flatK It.kc 2 d).toList = d.toList.flatMap It.kc := by
 apply List.ext_getElem?
 intro t
 by_cases h : t < d.size * 2
 ·rw [kc_at d.toList t (by simpa using h), Array.getElem?_toList, Array.getElem?_eq_getElem (by simpa using h)]
  have := get_flatK It.kc 2 d t h
  rw [getElem!_pos _ _ (by simpa using h)] at this
  have h2 : t / 2 < d.size := by omega
  have e3 : d.toList[t / 2]! = d[t / 2]! := by rw [getElem!_pos d (t / 2) h2, getElem!_pos d.toList (t / 2) (by simpa using h2)]; simp
  rw [this, e3]
 ·rw [List.getElem?_eq_none (by simp; omega), List.getElem?_eq_none (by rw [flat_len]; simp; omega)]
theorem holds_block {w : World} {g : Nat} {cur : Array Value} {e : TypeId} {ks : List Ky} (hb : w.heap[g]? = some (.cells cur e (0, 0))) (ht : cur.toList.take (ks.length * 2) = ks.flatMap It.kc) : HoldsK It.kc 2 w g 0 ks.toArray := by
 intro j hj
 have hj' : j < ks.length * 2 := by simpa using hj
 refine ⟨?_, by simp [World.frozen?, hb]⟩
 have h1 : (cur.toList.take (ks.length * 2))[j]? = (ks.flatMap It.kc)[j]? := by rw [ht]
 rw [List.getElem?_take_of_lt hj'] at h1
 have h2 : (flatK It.kc 2 ks.toArray).toList[j]? = (ks.flatMap It.kc)[j]? := by rw [flatK_list]
 simp only [World.cell?, hb, Nat.zero_add]
 simp only [Option.isSome_none, Bool.false_eq_true, if_false]
 rw [← Array.getElem?_toList, h1, ← h2, Array.getElem?_toList, Array.getElem?_eq_getElem hj, getElem!_pos (flatK It.kc 2 ks.toArray) j hj]
 rfl
theorem heap_sorted {w : World} {g n : Nat} {os : Array Obj} {cur : Array Value} {e : TypeId} {fr : Nat × Nat} (F : Array Value) (hb : w.heap[g]? = some (.cells cur e fr)) :
 (grow (putRow id (Sort.ahead w n) g 0 F) os).heap[g]? = some (.cells (putCells id 0 F cur) e fr) := by
 have hg : g < w.heap.size := (Array.getElem?_eq_some_iff.1 hb).1
 rw [heap_grow_old _ _ (by simpa using hg)]
 simp [putRow, mapBlock, Sort.ahead, Array.getElem?_modify, hb, onCells]
theorem grownBy_sorted {w : World} {g n : Nat} {os : Array Obj} (F : Array Value) : w.grownBy (grow (putRow id (Sort.ahead w n) g 0 F) os) (some g) := by
 refine ⟨rfl, rfl, rfl, by simp, fun k hk hne => ?_⟩
 rw [heap_grow_old _ _ (by simpa using hk)]
 have : g ≠ k := fun e => hne (by rw [e])
 simp [putRow, mapBlock, Sort.ahead, Array.getElem?_modify, this]
theorem take_put (cur F : Array Value) (h : F.size ≤ cur.size) : (putCells id 0 F cur).toList.take F.size = F.toList := by
 apply List.ext_getElem?
 intro j
 by_cases hj : j < F.size
 ·rw [List.getElem?_take_of_lt hj, Array.getElem?_toList]
  simp [putCells, hj, show j < cur.size by omega]
 ·rw [List.getElem?_take_eq_none (by omega), List.getElem?_eq_none (by simp; omega)]
theorem agg53 (w : World) : (isAgg 53).run Tryz.prog w = .ok true w := by kernel_rfl
theorem size53 (w : World) : (Go.sizeOf 53).run Tryz.prog w = .ok 2 w := by kernel_rfl
theorem sort_any {W : World} {base g cap : Nat} {cur : Array Value} {ks : List Ky} (hbase : base ≤ g) (hb : W.heap[g]? = some (.cells cur 53 (0, 0))) (h1 : ks.length ≤ cap) (h2 : cap ≤ maxLen) (h3 : cur.size = cap * 2) (h4 : cur.toList.take (ks.length * 2) = ks.flatMap It.kc) (hn : ks.length ≤ 1000000) :
 Calls Tryz.prog 92 #[.slice (some ⟨g, 0, none⟩) ks.length cap, .func (.func 68) #[] #[]] W fun e w' => e = .returned (.tuple #[]) ∧ ∃ ks' : List Ky, ks'.Perm ks ∧ w'.ownsRow base 53 2 (.slice (some ⟨g, 0, none⟩) ks.length cap) ks.length (ks'.flatMap It.kc) ∧ W.grownBy w' (some g) := by
 have hH := holds_block hb h4
 have hg := (Array.getElem?_eq_some_iff.1 hb).1
 have hcon := AnyQ.slices_SortFunc YtdachohcjpjblaaGreatDoor.sortK 2 agg53 size53 It.kc kc_len (fun x v hv => by simp [It.kc] at hv; rcases hv with rfl | rfl <;> rfl) Cm.cmpI Cm.swo 68 #[] g 0 cap ks.toArray W (enters_of Tryz.func68 (by kernel_rfl) rfl) (Cm.lays g 0 _ W) hH hg (by simp; omega)
 refine Calls.mono (show Calls Tryz.prog 92 #[.slice (some ⟨g, 0, none⟩) ks.length cap, .func (.func 68) #[] #[]] W _ from hcon) ?_
 rintro e w' ⟨rfl, d', n, os, hp, -, rfl⟩
 have hs : d'.size = ks.length := by simpa using hp.1
 have hpm : d'.toList.Perm ks := by
  have := hp.2.2
  have e1 : d'.extract 0 ks.toArray.size = d' := by
   apply Array.ext' ; simp [← hs]
  rw [e1] at this
  simpa using this
 refine ⟨rfl, d'.toList, hpm, ⟨?_, .inr ⟨g, cap, _, rfl, hbase, heap_sorted _ hb, h1, h2, ?_, ?_⟩⟩, grownBy_sorted _⟩
 ·rw [flat_len]; simp [hs]
 ·simp [putCells, h3]
 ·have e2 : ks.length * 2 = (flatK It.kc 2 d').size := by simp [hs]
  rw [e2, take_put _ _ (by simp [hs, h3]; omega), flatK_list]
theorem sorted_any {w : World} {b N : Nat} {mk : List Ky} (hk : mk.length ≤ 1000000) (hN : N ≤ 1000000) (h : SeqStops Fence.wide 3 Tryz.prog 93 #[.pointer (some ⟨b, 0, none⟩)] It.kv (fun ks : List Ky => ks.Perm mk) (fun _ => True) N w) :
 Calls Tryz.prog 66 #[.func (.func 93) #[] #[.pointer (some ⟨b, 0, none⟩)], .func (.func 68) #[] #[]] w fun e w' => ∃ (v : Value) (ks : List Ky), e = .returned v ∧ ks.Perm mk ∧ w'.ownsRow w.heap.size 53 2 v ks.length (ks.flatMap It.kc) ∧ RowKit.Below w.heap.size w w' := by
 have HC := callsIn_wide.1 (It.collect Fence.wide 5 trivial trivial rfl (by omega) 93 _ trivial (enters_of Tryz.func93 (by kernel_rfl) rfl) _ _ N hN w h)
 clear h
 go_enter Tryz.func66, Tryz.ntmps66
 go_wp2_with (fail)
 refine HC.mono ?_
 rintro e w1 ⟨v, ks, rfl, hp, hrow, hb⟩
 have HKL := Lib.hid (show ks.length ≤ 1000000 by rw [hp.length_eq]; exact hk)
 rcases hrow.2 with ⟨rfl, hz⟩ | ⟨g, cap, cur, rfl, hbase, hgb, r1, r2, r3, r4⟩
 ·have h0 : ks = [] := List.eq_nil_of_length_eq_zero hz
  subst h0
  go_wp2_with (fail)
  refine (It.sort0 _ _ _ _).mono ?_
  rintro e w2 ⟨rfl, rfl⟩
  go_wp2
  go_ret
  exact ⟨_, [], rfl, hp, hrow, hb⟩
 ·have HS := Lib.hid (sort_any hbase hgb r1 r2 r3 r4 HKL.out)
  have HP := Lib.hid hp
  have HB := Lib.hid hb
  have HG := Lib.hid hbase
  clear HKL hgb r3 r4 hrow hp hb hbase
  generalize ks.length = j at *
  go_wp2_with (fail)
  refine HS.out.mono ?_
  rintro e w2 ⟨rfl, ks', hp2, hrow2, hg2⟩
  have hj : ks'.length = j := by
   have := hrow2.1
   rw [flat_len] at this
   omega
  subst hj
  clear HS
  go_wp2
  go_ret
  exact ⟨_, ks', rfl, hp2.trans HP.out, hrow2, HB.out.grown hg2 HB.out.size (fun j hj => by cases hj; exact HG.out)⟩
theorem insts_any {w : World} {g gm : Nat} {m : List (Ky × Rv)} (h : w.cell? ⟨g, 4, none⟩ = some (.map (some gm))) (hm : MapIs w gm m) (hl : m.length ≤ 1000000) :
 Calls Tryz.prog 46 #[.pointer (some ⟨g, 0, none⟩)] w fun e w' => ∃ (v : Value) (ks : List Ky), e = .returned v ∧ ks.Perm (m.map (·.1)) ∧ w'.ownsRow w.heap.size 53 2 v ks.length (ks.flatMap It.kc) ∧ RowKit.Below w.heap.size w w' := by
 have hb1 : RowKit.Below w.heap.size w (w.alloc (.cells #[.map (some gm)] 73)) := below_new (RowKit.Below.refl _ _)
 have HS := Lib.hid (Rg.keys_stops Fence.wide 3 trivial rfl (by omega) w.heap.size gm m (w.alloc (.cells #[.map (some gm)] 73)) (by simp) (Boxed.new w 73 (.map (some gm))).cell (hm.keeps (F := fun _ => False) (Di.Keeps.of_below hb1) id))
 clear hm
 go_enter Tryz.func46, Tryz.ntmps46
 go_wp2_with (fail)
 refine (It.keys_any (some gm) _).mono ?_
 rintro e w1 ⟨rfl, rfl⟩
 go_wp2_with (fail)
 refine (sorted_any (by simpa using hl) hl HS.out).mono ?_
 rintro e w2 ⟨v, ks, rfl, hp, hrow, hb⟩
 go_wp2
 go_ret
 exact ⟨v, ks, rfl, hp, hrow.mono (by simp), below_on hb1 hb⟩
theorem mput_len (m : List (Ky × Rv)) (k : Ky) (x : Rv) : (mput m k x).length ≤ m.length + 1 := by
 induction m with
 | nil => simp [mput]
 | cons p m ih =>
   unfold mput
   split <;> simp <;> omega
theorem cur_len (X : List Rv) : (cur X).length ≤ X.length := by
 have h : ∀ (X : List Rv) (m : List (Ky × Rv)), (X.foldl (fun m x => mput m x.key x) m).length ≤ m.length + X.length := by
  intro X
  induction X with
  | nil => intro m; simp
  | cons x X ih =>
    intro m
    have := ih (mput m x.key x)
    have := mput_len m x.key x
    simp only [List.foldl_cons, List.length_cons]
    omega
 simpa [cur] using h X []
def Instd (w : World) (gl gd : Nat) (F : Nat → Prop) (s : Di.M.St) (e : Ending) (w' : World) : Prop := ∃ (v : Value) (ks : List Ky) (X : List Rv), e = .returned v ∧ rcs X = K.rd s.bs ∧ ks.Perm ((cur X).map (·.1)) ∧ w'.ownsRow w.heap.size 53 2 v ks.length (ks.flatMap It.kc) ∧ Logs w gl gd F s w'
end Sr
end Go.Proofs.YtdachohcjpjblaaGreatDoor
