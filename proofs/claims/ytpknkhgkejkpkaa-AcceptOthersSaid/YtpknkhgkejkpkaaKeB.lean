/- Keys joined: contracts of the program's functions and of the document's; no conditions but those that they name. -/
import Derived.Test.YtpknkhgkejkpkaaKeA
import Derived.Test.YtpknkhgkejkpkaaKeS
import Derived.Sort.OwnSorted
import Derived.Deep.RegionLaw

namespace Go.Proofs.Ytpknkhgkejkpkaa
open Go.ChangeShapes Go.WideShapes Go.ChangeAt Go.RowKit Go.Maps

/-- All but one block, and what is new. -/
theorem grown_on {a b c : World} {B : Nat} {row : Option Nat} (h : a.grownBy b (some B)) (k : b.grownBy c row) (hr : ∀ i, row = some i → i = B ∨ a.heap.size ≤ i) : a.grownBy c (some B) :=
  ⟨k.os.trans h.os, k.tape.trans h.tape, k.output.trans h.output, Nat.le_trans h.size k.size, fun i hi hne => by
    rw [k.block i (Nat.lt_of_lt_of_le hi h.size) (fun e => by
      rcases hr i e.symm with rfl | h1
      · exact hne rfl
      · omega)]
    exact h.block i hi hne⟩
theorem below_but {a b c : World} (h : Below a.heap.size a b) (k : b.grownBy c (some a.heap.size)) : Below a.heap.size a c :=
  ⟨k.os.trans h.os, k.tape.trans h.tape, k.output.trans h.output, Nat.le_trans h.size k.size, fun i hi => by
    rw [k.block i (Nat.lt_of_lt_of_le hi h.size) (fun e => by injection e; omega)]
    exact h.block i hi⟩
theorem map_below {w w' : World} {b n : Nat} {D : DataW Unit} (h : w.ownsMap Try.prog 9 unitElem b n D) (hb : b < w.heap.size) (hbel : Below w.heap.size w w') : w'.ownsMap Try.prog 9 unitElem b n D := by
  obtain ⟨es, clock, h1, r⟩ := h
  exact ⟨es, clock, (hbel.block b hb).trans h1, r⟩
theorem own_opened {w : World} {base : Nat} {v : Value} {l : List (List UInt8)} (h : w.ownsRow base 9 1 v l.length (l.map encStr)) : ∃ (A : Option Addr) (c : Nat), v = .slice A l.length c ∧ (0 < l.length → ∃ g, A = some ⟨g, 0, none⟩ ∧ base ≤ g ∧ g < w.heap.size ∧ ∀ k, k < l.length → w.cell? ⟨g, k, none⟩ = some (.string ⟨(l.getD k []).toArray⟩)) := by
  rcases h.2 with ⟨rfl, h0⟩ | ⟨g, cap, cur, rfl, hb, hg, _⟩
  · exact ⟨none, 0, by rw [h0], fun h => absurd h (by omega)⟩
  · refine ⟨some ⟨g, 0, none⟩, cap, rfl, fun _ => ⟨g, rfl, hb, (Array.getElem?_eq_some_iff.1 hg).1, fun k hk => ?_⟩⟩
    rw [h.cellAt k (by omega), List.getElem?_map, List.getD, List.getElem?_eq_getElem hk]; rfl
theorem map_grown {w w' : World} {b n : Nat} {D : DataW Unit} {row : Option Nat} (h : w.ownsMap Try.prog 9 unitElem b n D) (hg : w.grownBy w' row) (hne : some b ≠ row) : w'.ownsMap Try.prog 9 unitElem b n D := by
  obtain ⟨es, clock, h1, r⟩ := h
  exact ⟨es, clock, (hg.block b (Array.getElem?_eq_some_iff.1 h1).1 hne).trans h1, r⟩

set_option maxHeartbeats 4000000 in
set_option maxRecDepth 100000 in
theorem join_any {w : World} {v u : Value} {ss ts : List (List UInt8)} (h : Words w v ss) (h' : Words w u ts) (hl : ss.length ≤ 1000) (hl' : ts.length ≤ 1000) (hs : ∀ x ∈ ss, x.length ≤ 1000) (hs' : ∀ x ∈ ts, x.length ≤ 1000) :
    Calls Try.prog 76 #[v, u] w (Made (M.join ss ts) w) := by
  obtain ⟨i0, hi, hz0, hz1, hz2⟩ := info_parts info9
  have hmm := @run_makeMap Try.prog
  have HL := Lib.hid (show ∀ x ∈ ss ++ ts, x.length ≤ 1000 from fun x hx => by
    rcases List.mem_append.1 hx with hx | hx
    · exact hs x hx
    · exact hs' x hx)
  have HV := Lib.hid h
  have HU := Lib.hid h'
  have HJ := Lib.hid (show M.join ss ts = M.srt (M.gat (ss ++ ts)) from rfl)
  have hln : (ss ++ ts).length ≤ 2000 := by rw [List.length_append]; omega
  obtain ⟨A1, k1, rfl, -, -⟩ := h.opened
  obtain ⟨A2, k2, rfl, -, -⟩ := h'.opened
  clear hs hs' h h'
  go_enter Try.func76, Try.ntmps76
  go_wp2_with (fail)
  have b0 : Below w.heap.size w ((w.alloc (.map #[] 0)).alloc (.cells #[.slice A1 ss.length k1, .slice A2 ts.length k2] 87)) := ((Below.refl _ w).alloc (Nat.le_refl _) _).alloc (by simp) _
  refine (concat_any (b := w.heap.size + 1) (HV.out.below b0) (HU.out.below b0) hl hl' (by simp) (by simp) (by simp)).mono ?_
  rintro e w1 ⟨v1, rfl, hown, hbel⟩
  have hm0 : ((w.alloc (.map #[] 0)).alloc (.cells #[.slice A1 ss.length k1, .slice A2 ts.length k2] 87)).ownsMap Try.prog 9 (unitElem (H := Unit)) w.heap.size 0 (.map []) := (World.ownsMap_made _ _ _ _).alloc _
  have hm1 := Lib.hid (map_below hm0 (by simp; omega) hbel)
  have HB1 := Lib.hid (b0.trans (hbel.mono (by simp; omega)))
  have hsz1 : w.heap.size + 2 ≤ w1.heap.size := by have := hbel.size; simpa using this
  have hown' : w1.ownsRow (w.heap.size + 2) 9 1 v1 (ss ++ ts).length ((ss ++ ts).map encStr) := by simpa using hown
  clear hown hbel hm0 b0 HV HU
  generalize ss ++ ts = l at *
  obtain ⟨A, c, rfl, hx⟩ := own_opened hown'
  have HX := Lib.hid hx
  clear hx hown'
  go_wp2
  go_loopw [6, 17] (fun x i wr => ∃ k : Nat, k ≤ l.length ∧ i = .int .i64 k ∧ wr.ownsMap Try.prog 9 (unitElem (H := Unit)) w.heap.size k (M.setL (M.gat (l.take k))) ∧ wr.ownsRow w1.heap.size 9 1 x (M.gat (l.take k)).length ((M.gat (l.take k)).map encStr) ∧ w1.grownBy wr (some w.heap.size)) (fun _ i _ => l.length - (intOf i).toNat)
  case atStart => exact ⟨0, Nat.zero_le _, rfl, hm1.out, World.ownsRow_nil _ _ _ _, World.grownBy.refl _ _⟩
  case round =>
    clear hm1
    obtain ⟨k, hk, rfl, hmap, hrow, hgr⟩ := hrel
    have hgl := M.gat_len (l.take k)
    rw [List.length_take] at hgl
    have hszr := hgr.size
    by_cases hlt : k < l.length
    · obtain ⟨g, rfl, hg1, hg2, hy⟩ := HX.out (by omega)
      have hcell : wr.cell? ⟨g, k, none⟩ = some (.string ⟨(l.getD k []).toArray⟩) := by
        rw [World.cell?_of_block (hgr.block g hg2 (fun e => by injection e; omega))]
        exact hy k hlt
      obtain ⟨x, hxk⟩ : ∃ x, x = l.getD k [] := ⟨_, rfl⟩
      rw [← hxk] at hcell
      have hx1 : x.length ≤ 1000 := by rw [hxk]; exact HL.out _ (M.getD_mem hlt)
      have hkey := Lib.hid (key_of hx1)
      have HG := Lib.hid (show M.gat (l.take (k + 1)) = M.add (M.gat (l.take k)) x by rw [M.gat_snoc l k hlt, hxk])
      have hhas := M.has_setL (M.gat (l.take k)) x
      have HM := Lib.hid hmap
      have HR := Lib.hid hrow
      have HGR := Lib.hid hgr
      clear hy hxk hmap hrow hgr
      generalize M.gat (l.take k) = acc at *
      rcases two (M.inB acc x) with e | e
      · rw [e] at hhas
        have HA := Lib.hid (show M.add acc x = acc by simp [M.add, e])
        go_wp2_with (at_lookup; refine wpList_lookup_own_unit _ rfl _ _ 108 rfl 9 109 law9 Try.underlying108 (zero47 _) w.heap.size k _ rfl HM.out _ _ rfl hkey.out ?_)
        go_roundw
        case rel => exact ⟨k + 1, by omega, by go_num, by rw [HG.out, HA.out]; exact (HM.out.alloc _).mono (Nat.le_succ _), by rw [HG.out, HA.out]; exact HR.out.alloc _, grown_on HGR.out (World.grownBy_alloc _ _ none) (fun i h => by cases h)⟩
        case measure => simp [intOf]; omega
      · rw [e] at hhas
        have HA := Lib.hid (show M.add acc x = acc ++ [x] by simp [M.add, e])
        go_wp2_with (first
          | (at_lookup; refine wpList_lookup_own_unit _ rfl _ _ 108 rfl 9 109 law9 Try.underlying108 (zero47 _) w.heap.size k _ rfl HM.out _ _ rfl hkey.out ?_)
          | (at_mapUpdate; refine wpList_mapUpdate_own _ rfl _ _ _ 108 rfl 9 109 law9 Try.underlying108 (unitElem (H := Unit)) w.heap.size k _ rfl (HM.out.alloc _) (by unfold maxLen; omega) _ _ _ rfl rfl hkey.out _ [] unitElem_mk ?_; intro w2 hown2 hgrow2)
          | (at_builtin; refine wpList_append_own _ rfl _ _ 87 rfl w1.heap.size 9 i0 (.string ⟨#[]⟩) 1 16 Try.underlying87 hi hz0 hz1 hz2 rfl (by decide) _ _ _ rfl (((HR.out.alloc _).kept hgrow2 (Or.inr (fun e => by have := (HR.out.lt _ e).1; omega))).alloc _) ⟨w2.heap.size, 0, none⟩ 1 1 [.string ⟨x.toArray⟩] rfl rfl (cell_one_new _ _ _) (one_str [x]) (by unfold maxLen; omega) (by omega) (by have := hgrow2.size; simp at this ⊢; omega) ?_; intro v' w3 hown3 hgrow3 hnil3))
        have G1 := Lib.hid hown2
        have R1 := Lib.hid ((HR.out.alloc (.cells #[] 109)).kept hgrow2 (Or.inr (fun e => by have := (HR.out.lt _ e).1; omega)))
        have GR1 := Lib.hid (grown_on (grown_on HGR.out (World.grownBy_alloc _ _ none) (fun i h => by cases h)) hgrow2 (fun i h => by cases h; exact .inl rfl))
        have R2 := Lib.hid hown3
        have G2 := Lib.hid (map_grown (G1.out.alloc _) hgrow3 (fun e => by have := (R1.out.lt _ e.symm).1; omega))
        have GR2 := Lib.hid (grown_on (grown_on GR1.out (World.grownBy_alloc _ _ none) (fun i h => by cases h)) hgrow3 (fun i h => .inr (R1.out.lt i h).1))
        clear hown2 hgrow2 hown3 hgrow3 hnil3 G1 R1 GR1
        go_roundw
        case rel => exact ⟨k + 1, by omega, by go_num, by rw [HG.out, HA.out, M.setL_snoc]; exact G2.out, by rw [HG.out, HA.out]; simpa using R2.out, GR2.out⟩
        case measure => simp [intOf]; omega
    · obtain rfl : k = l.length := by omega
      rw [List.take_length] at hrow hgl
      have HB := Lib.hid (below_but HB1.out hgr)
      have hb9 : w.heap.size ≤ w1.heap.size := by omega
      have hsz9 : w.heap.size ≤ wr.heap.size := by omega
      clear hmap hgr HB1
      rcases hrow.2 with ⟨rfl, hn0⟩ | ⟨g, cap, cur, rfl, hbase, hb, h1, h2, h3, h4⟩
      · have HN := Lib.hid (show M.join ss ts = [] by rw [HJ.out]; exact List.length_eq_zero_iff.1 (by rw [M.srt_len]; exact hn0))
        clear hrow hn0
        go_wp2_with (fail)
        refine (sort_none _ _ _).mono ?_
        rintro e w2 ⟨rfl, rfl⟩
        go_wp2
        go_ret
        exact ⟨_, rfl, by rw [HN.out]; exact World.ownsRow_nil _ _ _ _, HB.out⟩
      · have hgw : g < wr.heap.size := (Array.getElem?_eq_some_iff.1 hb).1
        have hc := Lib.hid (sort_some g 0 cap (M.gat l) wr (holds_of_block hb (by simpa using h4)) hgw (by omega))
        have HS := Lib.hid (show ∀ nn os, (Sort.grow (Sort.putRow encStr (Sort.ahead wr nn) g 0 (M.srt (M.gat l)).toArray) os).ownsRow w1.heap.size 9 1 (.slice (some ⟨g, 0, none⟩) (M.gat l).length cap) (M.gat l).length ((M.srt (M.gat l)).map encStr) from fun nn os => ownsRow_sorted (M.srt_len _) hbase hb h1 h2 h3)
        clear hrow hb h3 h4
        go_wp2_with (fail)
        refine hc.out.mono ?_
        rintro e w2 ⟨rfl, nn, os, hw2⟩
        have K1 := Lib.hid (show w2.ownsRow w.heap.size 9 1 (.slice (some ⟨g, 0, none⟩) (M.gat l).length cap) (M.join ss ts).length ((M.join ss ts).map encStr) by
          have := HS.out nn os
          rw [HJ.out, M.srt_len, hw2]
          exact ownsRow_base this hb9)
        have K2 := Lib.hid (show Below w.heap.size w w2 by
          rw [hw2]
          exact HB.out.grown (grownBy_sorted _) hsz9 (fun j hj => by cases hj; omega))
        clear hw2 HS hc
        go_wp2
        go_ret
        exact ⟨_, rfl, K1.out, K2.out⟩
end Go.Proofs.Ytpknkhgkejkpkaa

namespace Go.Proofs.Ytpknkhgkejkpkaa
open Go.ChangeShapes Go.WideShapes Go.ChangeAt Go.RowKit

namespace M
/-- A key's shard. -/
def shL (x : List UInt8) (n : Int) : Int := sh ⟨x.toArray⟩ n
theorem shL_ok {x : List UInt8} {n : Int} (h : rightB x.length = true) (h1 : 1 ≤ n) (h2 : n ≤ 4) : er ⟨x.toArray⟩ n = 0 ∧ 0 ≤ shL x n ∧ shL x n < n := by
  obtain ⟨e1, e2⟩ := sh_ok (s := ⟨x.toArray⟩) (okB_yes (by rw [size_mk]; exact h) h1 h2)
  refine ⟨e2, ?_, ?_⟩
  · unfold shL; rw [e1]; exact Int.emod_nonneg _ (by omega)
  · unfold shL; rw [e1]; exact Int.emod_lt_of_pos _ (by omega)
/-- Those of one shard. -/
def ofL (ss : List (List UInt8)) (k n : Int) : List (List UInt8) := ss.filter (fun x => decide (shL x n = k))
theorem ofL_yes {ss : List (List UInt8)} {i : Nat} {k n : Int} {x : List UInt8} (hi : i < ss.length) (hx : x = ss.getD i []) (h : shL x n = k) : ofL (ss.take (i + 1)) k n = ofL (ss.take i) k n ++ [x] := by
  unfold ofL; rw [take_succ hi, List.filter_append, ← hx]; simp [h]
theorem ofL_no {ss : List (List UInt8)} {i : Nat} {k n : Int} {x : List UInt8} (hi : i < ss.length) (hx : x = ss.getD i []) (h : shL x n ≠ k) : ofL (ss.take (i + 1)) k n = ofL (ss.take i) k n := by
  unfold ofL; rw [take_succ hi, List.filter_append, ← hx]; simp [h]
theorem ofL_len (ss : List (List UInt8)) (i : Nat) (k n : Int) : (ofL (ss.take i) k n).length ≤ i := by
  have := List.length_filter_le (fun x => decide (shL x n = k)) (ss.take i)
  rw [List.length_take] at this
  unfold ofL; omega
end M

namespace M
theorem or_small : ∀ m : Fin 16, ∀ s : Fin 4, bits .or .i64 ((m.val : Nat) : Int) (wrap64 (2 ^ s.val)) = ((m.val ||| 2 ^ s.val : Nat) : Int) := by decide +kernel
theorem or_less : ∀ m : Fin 16, ∀ s : Fin 4, m.val ||| 2 ^ s.val < 16 := by decide +kernel
/-- Which shards. -/
def maskL (ss : List (List UInt8)) (n : Int) : Nat := ss.foldl (fun m x => m ||| 2 ^ (shL x n).toNat) 0
theorem maskL_snoc (ss : List (List UInt8)) (x : List UInt8) (n : Int) : maskL (ss ++ [x]) n = maskL ss n ||| 2 ^ (shL x n).toNat := by unfold maskL; rw [List.foldl_append]; rfl
theorem maskL_take {ss : List (List UInt8)} {i : Nat} {n : Int} {x : List UInt8} (hi : i < ss.length) (hx : x = ss.getD i []) : maskL (ss.take (i + 1)) n = maskL (ss.take i) n ||| 2 ^ (shL x n).toNat := by
  rw [take_succ hi, maskL_snoc, hx]
theorem or_at {m : Nat} {s : Int} (hm : m < 16) (h0 : 0 ≤ s) (h4 : s < 4) : bits .or .i64 (m : Int) (wrap64 (2 ^ s.toNat)) = ((m ||| 2 ^ s.toNat : Nat) : Int) ∧ m ||| 2 ^ s.toNat < 16 := by
  have hs : s.toNat < 4 := by omega
  exact ⟨or_small ⟨m, hm⟩ ⟨s.toNat, hs⟩, or_less ⟨m, hm⟩ ⟨s.toNat, hs⟩⟩
theorem foldl_bit (n : Int) (k : Nat) : ∀ (ss : List (List UInt8)) (m : Nat), (ss.foldl (fun m x => m ||| 2 ^ (shL x n).toNat) m).testBit k = (m.testBit k || ss.any (fun x => decide ((shL x n).toNat = k)))
  | [], m => by simp
  | x :: ss, m => by
    rw [List.foldl_cons, foldl_bit n k ss, Nat.testBit_or, Nat.testBit_two_pow, List.any_cons, Bool.or_assoc]
theorem maskL_bit (ss : List (List UInt8)) (n : Int) (k : Nat) : (maskL ss n).testBit k = ss.any (fun x => decide ((shL x n).toNat = k)) := by
  unfold maskL; rw [foldl_bit]; simp
end M

end Go.Proofs.Ytpknkhgkejkpkaa

namespace Go.Proofs.Ytpknkhgkejkpkaa
open Go.ChangeShapes Go.WideShapes Go.ChangeAt Go.RowKit

/-- append, whose run is known, as one step of a region that draws. -/
theorem step_append_run {P : Program} {ops : Array Oper} {o : Oper} {a : Act} {w : World} {K : Act → World → Prop} {Q : Exit → Act → World → Prop} {E : Prop}
    (hg : o.guard = none) (s x : Operand) (t tn : TypeId) (hop : o.op = Op.call { callee := Callee.builtin Builtin.append, args := #[s, x], argTypes := #[t, tn] })
    (vs vx : Value) (hs : a.eval s = vs) (hx : a.eval x = vx) (v' : Value) (w' : World) (hr : (Builtin.append_ #[t, tn] o.type #[vs, vx]).run P w = .ok v' w')
    (hK : K (a.put o.dst v') w') : if Region.wanted o (yielded ops a.tmps) = true then Oper.wp P o a w K Q else E := by
  have hw : Region.wanted o (yielded ops a.tmps) = true := by simp [Region.wanted, hg]
  rw [if_pos hw]
  unfold Oper.wp
  simp [execOp, hop, resolve, invoke, builtin, hs, hx, hr, Result.andThen]
  exact hK

namespace M
/-- What stands ahead of a text, and what behind. -/
def allLt (l : List (List UInt8)) (x : List UInt8) : Prop := ∀ y ∈ l, ltB y x = true
theorem allLt_succ {l : List (List UInt8)} {j : Nat} {x : List UInt8} (hj : j < l.length) (h : allLt (l.take j) x) (hx : ltB (l.getD j []) x = true) : allLt (l.take (j + 1)) x := by
  intro y hy
  rw [take_succ hj, List.mem_append, List.mem_singleton] at hy
  rcases hy with hy | rfl
  · exact h y hy
  · exact hx
theorem while_of : ∀ (l : List (List UInt8)) (j : Nat) (x : List UInt8), j ≤ l.length → allLt (l.take j) x → (j < l.length → ltB (l.getD j []) x = false) → l.takeWhile (ltB · x) = l.take j ∧ l.dropWhile (ltB · x) = l.drop j
  | [], j, x, hj, _, _ => by simp
  | y :: l, 0, x, _, _, h => by
    have := h (by simp)
    simp at this
    simp [this]
  | y :: l, j + 1, x, hj, ha, h => by
    have hy : ltB y x = true := ha y (by simp)
    have ih := while_of l j x (by simpa using hj) (fun z hz => ha z (by simp [hz])) (fun hl => by have := h (by simpa using hl); simpa using this)
    simp [hy, ih.1, ih.2]
theorem ins_at {l : List (List UInt8)} {j : Nat} {x : List UInt8} (hn : inB l x = false) (hj : j ≤ l.length) (ha : allLt (l.take j) x) (h : j < l.length → ltB (l.getD j []) x = false) : ins l x = l.take j ++ [x] ++ l.drop j := by
  obtain ⟨h1, h2⟩ := while_of l j x hj ha h
  unfold ins
  rw [hn, h1, h2]
  simp
theorem ins_in {l : List (List UInt8)} {x : List UInt8} (hn : inB l x = true) : ins l x = l := by unfold ins; rw [hn]; rfl
/-- Put in one by one. -/
def put (l : List (List UInt8)) (k : Nat) : List (List UInt8) := (l.take k).foldl ins []
theorem put_succ {l : List (List UInt8)} {k : Nat} (hk : k < l.length) : put l (k + 1) = ins (put l k) (l.getD k []) := by
  unfold put; rw [take_succ hk, List.foldl_append]; rfl
theorem put_len (l : List (List UInt8)) (k : Nat) : (put l k).length ≤ k := by
  have := foldl_ins_len (l.take k) []
  rw [List.length_take] at this
  unfold put; simp at this; omega
theorem put_mem (l : List (List UInt8)) (k : Nat) : ∀ x ∈ put l k, x ∈ l := fun x hx => by
  have := (foldl_ins (l.take k) [] List.Pairwise.nil).2 x
  unfold put at hx
  rw [this] at hx
  rcases hx with hx | hx
  · simp at hx
  · exact List.mem_of_mem_take hx
end M

theorem own_empty (w : World) {base : Nat} (h : base ≤ w.heap.size) : (w.alloc (.cells #[] 9)).ownsRow base 9 1 (.slice (some ⟨w.heap.size, 0, none⟩) 0 0) 0 [] := by
  have := World.ownsRow_lit (base := base) (e := 9) (size := 1) w #[] 0 h (Nat.zero_le _) rfl
  simpa using this

theorem Drawn.own {w w' : World} {base : Nat} {v : Value} {n : Nat} {xs : List Value} (h : Drawn w w') (ho : w.ownsRow base 9 1 v n xs) : w'.ownsRow base 9 1 v n xs := by
  obtain ⟨m, rfl⟩ := h; exact ho
theorem own_front {w : World} {base g n c : Nat} {xs : List Value} {j : Nat} (h : w.ownsRow base 9 1 (.slice (some ⟨g, 0, none⟩) n c) n xs) (hj : j ≤ n) : w.ownsRow base 9 1 (.slice (some ⟨g, 0, none⟩) j c) j (xs.take j) := by
  obtain ⟨hl, h2⟩ := h
  rcases h2 with ⟨h0, _⟩ | ⟨g', cap, cur, hv, hb, hg, hn, hm, hs, ht⟩
  · cases h0
  · cases hv
    refine ⟨by simp; omega, .inr ⟨g, c, cur, rfl, hb, hg, by omega, hm, hs, ?_⟩⟩
    rw [← ht, List.take_take, show min j (n * 1) = j * 1 by omega]
theorem own_back {w : World} {base g n c : Nat} {xs : List Value} {j : Nat} (h : w.ownsRow base 9 1 (.slice (some ⟨g, 0, none⟩) n c) n xs) (hj : j ≤ n) : Row w (.slice (some ⟨g, j, none⟩) (n - j) (c - j)) (xs.drop j) := by
  have hx : xs.length = n := by have := h.1; omega
  have hnc : n ≤ c := by
    rcases h.2 with ⟨h0, _⟩ | ⟨g', cap, cur, hv, hb, hg, hn, _⟩
    · cases h0
    · cases hv; exact hn
  refine ⟨some ⟨g, j, none⟩, c - j, by rw [List.length_drop, hx], by rw [List.length_drop]; omega, fun _ => ⟨g, j, rfl, (h.lt g rfl).2, fun k x hk => ?_⟩⟩
  rw [List.getElem?_drop] at hk
  have hlt : j + k < n := by have := (List.getElem?_eq_some_iff.1 hk).1; omega
  rw [h.cellAt (j + k) (by omega)]
  exact hk
theorem row_zero {w : World} {A : Option Addr} {j : Nat} {xs : List Value} (hj : xs.length ≤ j) : Row w (.slice A 0 0) (xs.drop j) :=
  ⟨A, 0, by rw [List.length_drop, show xs.length - j = 0 by omega], by rw [List.length_drop]; omega, fun h => absurd h (by rw [List.length_drop]; omega)⟩
theorem row_one (w : World) (x : List UInt8) : Row (w.alloc (.cells #[.string ⟨x.toArray⟩] 9)) (.slice (some ⟨w.heap.size, 0, none⟩) 1 1) ([x].map encStr) :=
  ⟨some ⟨w.heap.size, 0, none⟩, 1, rfl, Nat.le_refl _, fun _ => ⟨w.heap.size, 0, rfl, by simp, fun k y hk => by
    have := cell_one_new w (.string ⟨x.toArray⟩) 9 k y hk
    rw [add_plain] at this
    exact this⟩⟩

end Go.Proofs.Ytpknkhgkejkpkaa

namespace Go.Proofs.Ytpknkhgkejkpkaa
open Go.ChangeShapes Go.WideShapes Go.ChangeAt Go.RowKit

namespace M
theorem asc_at {l : List (List UInt8)} (h : Asc l) {j : Nat} (hj : j + 1 < l.length) : ltB (l.getD j []) (l.getD (j + 1) []) = true := by
  rw [ltB_iff, List.getD, List.getD, List.getElem?_eq_getElem (by omega), List.getElem?_eq_getElem hj]
  exact (List.pairwise_iff_getElem.1 h) j (j + 1) (by omega) hj (by omega)
theorem join_le {ss ts : List (List UInt8)} {n : Nat} (h : ∀ x ∈ ss, x.length ≤ n) (h' : ∀ x ∈ ts, x.length ≤ n) : ∀ x ∈ join ss ts, x.length ≤ n := fun x hx => by
  rcases (join_mem ss ts x).1 hx with hx | hx
  · exact h x hx
  · exact h' x hx
theorem inB_join (ss ts : List (List UInt8)) (x : List UInt8) : inB (join ss ts) x = (inB ss x || inB ts x) := by
  rw [Bool.eq_iff_iff, Bool.or_eq_true, inB_iff, inB_iff, inB_iff, join_mem]
end M
attribute [local go_sem ↓] run_geq_str
end Go.Proofs.Ytpknkhgkejkpkaa
