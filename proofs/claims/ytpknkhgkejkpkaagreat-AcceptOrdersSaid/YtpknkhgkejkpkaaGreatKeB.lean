/- Keys joined: contracts of the program's functions and of the document's; no conditions but those that they name. -/
import Derived.Test.YtpknkhgkejkpkaaGreatKeA
import Derived.Test.YtpknkhgkejkpkaaGreatKeS
import Derived.Sort.OwnSorted
import Derived.Deep.RegionLaw

namespace Go.Proofs.YtpknkhgkejkpkaaGreat
open Go.ChangeShapes Go.WideShapes Go.ChangeAt Go.RowKit Go.Maps

/-- All but one block, and what is new. -/
theorem grown_on {a b c : World} {B : Nat} {row : Option Nat} (h : a.grownBy b (some B)) (k : b.grownBy c row) (hr : ∀ i, row = some i → i = B ∨ a.heap.size ≤ i) : a.grownBy c (some B) :=
  ⟨k.os.trans h.os, k.tape.trans h.tape, k.output.trans h.output, Nat.le_trans h.size k.size, fun i hi hne => by
    rw [k.block i (Nat.lt_of_lt_of_le hi h.size) (fun e => by
      rcases hr i e.symm with rfl | h1
      · exact hne rfl
      · omega)]
    exact h.block i hi hne⟩
theorem below_but {a b c : World} (h : Below a.heap.size a b) (k : b.grownBy c (some a.heap.size)) : Below a.heap.size a c :=
  ⟨k.os.trans h.os, k.tape.trans h.tape, k.output.trans h.output, Nat.le_trans h.size k.size, fun i hi => by
    rw [k.block i (Nat.lt_of_lt_of_le hi h.size) (fun e => by injection e; omega)]
    exact h.block i hi⟩
theorem map_below {w w' : World} {b n : Nat} {D : DataW Unit} (h : w.ownsMap Tryz.prog 9 unitElem b n D) (hb : b < w.heap.size) (hbel : Below w.heap.size w w') : w'.ownsMap Tryz.prog 9 unitElem b n D := by
  obtain ⟨es, clock, h1, r⟩ := h
  exact ⟨es, clock, (hbel.block b hb).trans h1, r⟩
theorem own_opened {w : World} {base : Nat} {v : Value} {l : List (List UInt8)} (h : w.ownsRow base 9 1 v l.length (l.map encStr)) : ∃ (A : Option Addr) (c : Nat), v = .slice A l.length c ∧ (0 < l.length → ∃ g, A = some ⟨g, 0, none⟩ ∧ base ≤ g ∧ g < w.heap.size ∧ ∀ k, k < l.length → w.cell? ⟨g, k, none⟩ = some (.string ⟨(l.getD k []).toArray⟩)) := by
  rcases h.2 with ⟨rfl, h0⟩ | ⟨g, cap, cur, rfl, hb, hg, _⟩
  · exact ⟨none, 0, by rw [h0], fun h => absurd h (by omega)⟩
  · refine ⟨some ⟨g, 0, none⟩, cap, rfl, fun _ => ⟨g, rfl, hb, (Array.getElem?_eq_some_iff.1 hg).1, fun k hk => ?_⟩⟩
    rw [h.cellAt k (by omega), List.getElem?_map, List.getD, List.getElem?_eq_getElem hk]; rfl
theorem map_grown {w w' : World} {b n : Nat} {D : DataW Unit} {row : Option Nat} (h : w.ownsMap Tryz.prog 9 unitElem b n D) (hg : w.grownBy w' row) (hne : some b ≠ row) : w'.ownsMap Tryz.prog 9 unitElem b n D := by
  obtain ⟨es, clock, h1, r⟩ := h
  exact ⟨es, clock, (hg.block b (Array.getElem?_eq_some_iff.1 h1).1 hne).trans h1, r⟩

set_option maxHeartbeats 4000000 in
set_option maxRecDepth 100000 in
theorem join_any {w : World} {v u : Value} {ss ts : List (List UInt8)} (h : Words w v ss) (h' : Words w u ts) (hl : ss.length ≤ 1000) (hl' : ts.length ≤ 1000) (hs : ∀ x ∈ ss, x.length ≤ 1000) (hs' : ∀ x ∈ ts, x.length ≤ 1000) :
    Calls Tryz.prog 101 #[v, u] w (Made (M.join ss ts) w) := by
  obtain ⟨i0, hi, hz0, hz1, hz2⟩ := info_parts info9
  have hmm := @run_makeMap Tryz.prog
  have HL := Lib.hid (show ∀ x ∈ ss ++ ts, x.length ≤ 1000 from fun x hx => by
    rcases List.mem_append.1 hx with hx | hx
    · exact hs x hx
    · exact hs' x hx)
  have HV := Lib.hid h
  have HU := Lib.hid h'
  have HJ := Lib.hid (show M.join ss ts = M.srt (M.gat (ss ++ ts)) from rfl)
  have hln : (ss ++ ts).length ≤ 2000 := by rw [List.length_append]; omega
  obtain ⟨A1, k1, rfl, -, -⟩ := h.opened
  obtain ⟨A2, k2, rfl, -, -⟩ := h'.opened
  clear hs hs' h h'
  go_enter Tryz.func101, Tryz.ntmps101
  go_wp2_with (fail)
  have b0 : Below w.heap.size w ((w.alloc (.map #[] 0)).alloc (.cells #[.slice A1 ss.length k1, .slice A2 ts.length k2] 86)) := ((Below.refl _ w).alloc (Nat.le_refl _) _).alloc (by simp) _
  refine (concat_any (b := w.heap.size + 1) (HV.out.below b0) (HU.out.below b0) hl hl' (by simp) (by simp) (by simp)).mono ?_
  rintro e w1 ⟨v1, rfl, hown, hbel⟩
  have hm0 : ((w.alloc (.map #[] 0)).alloc (.cells #[.slice A1 ss.length k1, .slice A2 ts.length k2] 86)).ownsMap Tryz.prog 9 (unitElem (H := Unit)) w.heap.size 0 (.map []) := (World.ownsMap_made _ _ _ _).alloc _
  have hm1 := Lib.hid (map_below hm0 (by simp; omega) hbel)
  have HB1 := Lib.hid (b0.trans (hbel.mono (by simp; omega)))
  have hsz1 : w.heap.size + 2 ≤ w1.heap.size := by have := hbel.size; simpa using this
  have hown' : w1.ownsRow (w.heap.size + 2) 9 1 v1 (ss ++ ts).length ((ss ++ ts).map encStr) := by simpa using hown
  clear hown hbel hm0 b0 HV HU
  generalize ss ++ ts = l at *
  obtain ⟨A, c, rfl, hx⟩ := own_opened hown'
  have HX := Lib.hid hx
  clear hx hown'
  go_wp2
  go_loopw [6, 17] (fun x i wr => ∃ k : Nat, k ≤ l.length ∧ i = .int .i64 k ∧ wr.ownsMap Tryz.prog 9 (unitElem (H := Unit)) w.heap.size k (M.setL (M.gat (l.take k))) ∧ wr.ownsRow w1.heap.size 9 1 x (M.gat (l.take k)).length ((M.gat (l.take k)).map encStr) ∧ w1.grownBy wr (some w.heap.size)) (fun _ i _ => l.length - (intOf i).toNat)
  case atStart => exact ⟨0, Nat.zero_le _, rfl, hm1.out, World.ownsRow_nil _ _ _ _, World.grownBy.refl _ _⟩
  case round =>
    clear hm1
    obtain ⟨k, hk, rfl, hmap, hrow, hgr⟩ := hrel
    have hgl := M.gat_len (l.take k)
    rw [List.length_take] at hgl
    have hszr := hgr.size
    by_cases hlt : k < l.length
    · obtain ⟨g, rfl, hg1, hg2, hy⟩ := HX.out (by omega)
      have hcell : wr.cell? ⟨g, k, none⟩ = some (.string ⟨(l.getD k []).toArray⟩) := by
        rw [World.cell?_of_block (hgr.block g hg2 (fun e => by injection e; omega))]
        exact hy k hlt
      obtain ⟨x, hxk⟩ : ∃ x, x = l.getD k [] := ⟨_, rfl⟩
      rw [← hxk] at hcell
      have hx1 : x.length ≤ 1000 := by rw [hxk]; exact HL.out _ (M.getD_mem hlt)
      have hkey := Lib.hid (key_of hx1)
      have HG := Lib.hid (show M.gat (l.take (k + 1)) = M.add (M.gat (l.take k)) x by rw [M.gat_snoc l k hlt, hxk])
      have hhas := M.has_setL (M.gat (l.take k)) x
      have HM := Lib.hid hmap
      have HR := Lib.hid hrow
      have HGR := Lib.hid hgr
      clear hy hxk hmap hrow hgr
      generalize M.gat (l.take k) = acc at *
      rcases two (M.inB acc x) with e | e
      · rw [e] at hhas
        have HA := Lib.hid (show M.add acc x = acc by simp [M.add, e])
        go_wp2_with (at_lookup; refine wpList_lookup_own_unit _ rfl _ _ 121 rfl 9 122 law9 Tryz.underlying121 (zero47 _) w.heap.size k _ rfl HM.out _ _ rfl hkey.out ?_)
        go_roundw
        case rel => exact ⟨k + 1, by omega, by go_num, by rw [HG.out, HA.out]; exact (HM.out.alloc _).mono (Nat.le_succ _), by rw [HG.out, HA.out]; exact HR.out.alloc _, grown_on HGR.out (World.grownBy_alloc _ _ none) (fun i h => by cases h)⟩
        case measure => simp [intOf]; omega
      · rw [e] at hhas
        have HA := Lib.hid (show M.add acc x = acc ++ [x] by simp [M.add, e])
        go_wp2_with (first
          | (at_lookup; refine wpList_lookup_own_unit _ rfl _ _ 121 rfl 9 122 law9 Tryz.underlying121 (zero47 _) w.heap.size k _ rfl HM.out _ _ rfl hkey.out ?_)
          | (at_mapUpdate; refine wpList_mapUpdate_own _ rfl _ _ _ 121 rfl 9 122 law9 Tryz.underlying121 (unitElem (H := Unit)) w.heap.size k _ rfl (HM.out.alloc _) (by unfold maxLen; omega) _ _ _ rfl rfl hkey.out _ [] unitElem_mk ?_; intro w2 hown2 hgrow2)
          | (at_builtin; refine wpList_append_own _ rfl _ _ 86 rfl w1.heap.size 9 i0 (.string ⟨#[]⟩) 1 16 Tryz.underlying86 hi hz0 hz1 hz2 rfl (by decide) _ _ _ rfl (((HR.out.alloc _).kept hgrow2 (Or.inr (fun e => by have := (HR.out.lt _ e).1; omega))).alloc _) ⟨w2.heap.size, 0, none⟩ 1 1 [.string ⟨x.toArray⟩] rfl rfl (cell_one_new _ _ _) (one_str [x]) (by unfold maxLen; omega) (by omega) (by have := hgrow2.size; simp at this ⊢; omega) ?_; intro v' w3 hown3 hgrow3 hnil3))
        have G1 := Lib.hid hown2
        have R1 := Lib.hid ((HR.out.alloc (.cells #[] 122)).kept hgrow2 (Or.inr (fun e => by have := (HR.out.lt _ e).1; omega)))
        have GR1 := Lib.hid (grown_on (grown_on HGR.out (World.grownBy_alloc _ _ none) (fun i h => by cases h)) hgrow2 (fun i h => by cases h; exact .inl rfl))
        have R2 := Lib.hid hown3
        have G2 := Lib.hid (map_grown (G1.out.alloc _) hgrow3 (fun e => by have := (R1.out.lt _ e.symm).1; omega))
        have GR2 := Lib.hid (grown_on (grown_on GR1.out (World.grownBy_alloc _ _ none) (fun i h => by cases h)) hgrow3 (fun i h => .inr (R1.out.lt i h).1))
        clear hown2 hgrow2 hown3 hgrow3 hnil3 G1 R1 GR1
        go_roundw
        case rel => exact ⟨k + 1, by omega, by go_num, by rw [HG.out, HA.out, M.setL_snoc]; exact G2.out, by rw [HG.out, HA.out]; simpa using R2.out, GR2.out⟩
        case measure => simp [intOf]; omega
    · obtain rfl : k = l.length := by omega
      rw [List.take_length] at hrow hgl
      have HB := Lib.hid (below_but HB1.out hgr)
      have hb9 : w.heap.size ≤ w1.heap.size := by omega
      have hsz9 : w.heap.size ≤ wr.heap.size := by omega
      clear hmap hgr HB1
      rcases hrow.2 with ⟨rfl, hn0⟩ | ⟨g, cap, cur, rfl, hbase, hb, h1, h2, h3, h4⟩
      · have HN := Lib.hid (show M.join ss ts = [] by rw [HJ.out]; exact List.length_eq_zero_iff.1 (by rw [M.srt_len]; exact hn0))
        clear hrow hn0
        go_wp2_with (fail)
        refine (sort_none _ _ _).mono ?_
        rintro e w2 ⟨rfl, rfl⟩
        go_wp2
        go_ret
        exact ⟨_, rfl, by rw [HN.out]; exact World.ownsRow_nil _ _ _ _, HB.out⟩
      · have hgw : g < wr.heap.size := (Array.getElem?_eq_some_iff.1 hb).1
        have hc := Lib.hid (sort_some g 0 cap (M.gat l) wr (holds_of_block hb (by simpa using h4)) hgw (by omega))
        have HS := Lib.hid (show ∀ nn os, (Sort.grow (Sort.putRow encStr (Sort.ahead wr nn) g 0 (M.srt (M.gat l)).toArray) os).ownsRow w1.heap.size 9 1 (.slice (some ⟨g, 0, none⟩) (M.gat l).length cap) (M.gat l).length ((M.srt (M.gat l)).map encStr) from fun nn os => ownsRow_sorted (M.srt_len _) hbase hb h1 h2 h3)
        clear hrow hb h3 h4
        go_wp2_with (fail)
        refine hc.out.mono ?_
        rintro e w2 ⟨rfl, nn, os, hw2⟩
        have K1 := Lib.hid (show w2.ownsRow w.heap.size 9 1 (.slice (some ⟨g, 0, none⟩) (M.gat l).length cap) (M.join ss ts).length ((M.join ss ts).map encStr) by
          have := HS.out nn os
          rw [HJ.out, M.srt_len, hw2]
          exact ownsRow_base this hb9)
        have K2 := Lib.hid (show Below w.heap.size w w2 by
          rw [hw2]
          exact HB.out.grown (grownBy_sorted _) hsz9 (fun j hj => by cases hj; omega))
        clear hw2 HS hc
        go_wp2
        go_ret
        exact ⟨_, rfl, K1.out, K2.out⟩
end Go.Proofs.YtpknkhgkejkpkaaGreat

namespace Go.Proofs.YtpknkhgkejkpkaaGreat
open Go.ChangeShapes Go.WideShapes Go.ChangeAt Go.RowKit

namespace M
/-- A key's shard. -/
def shL (x : List UInt8) (n : Int) : Int := sh ⟨x.toArray⟩ n
theorem shL_ok {x : List UInt8} {n : Int} (h : rightB x.length = true) (h1 : 1 ≤ n) (h2 : n ≤ 4) : er ⟨x.toArray⟩ n = 0 ∧ 0 ≤ shL x n ∧ shL x n < n := by
  obtain ⟨e1, e2⟩ := sh_ok (s := ⟨x.toArray⟩) (okB_yes (by rw [size_mk]; exact h) h1 h2)
  refine ⟨e2, ?_, ?_⟩
  · unfold shL; rw [e1]; exact Int.emod_nonneg _ (by omega)
  · unfold shL; rw [e1]; exact Int.emod_lt_of_pos _ (by omega)
/-- Those of one shard. -/
def ofL (ss : List (List UInt8)) (k n : Int) : List (List UInt8) := ss.filter (fun x => decide (shL x n = k))
theorem ofL_yes {ss : List (List UInt8)} {i : Nat} {k n : Int} {x : List UInt8} (hi : i < ss.length) (hx : x = ss.getD i []) (h : shL x n = k) : ofL (ss.take (i + 1)) k n = ofL (ss.take i) k n ++ [x] := by
  unfold ofL; rw [take_succ hi, List.filter_append, ← hx]; simp [h]
theorem ofL_no {ss : List (List UInt8)} {i : Nat} {k n : Int} {x : List UInt8} (hi : i < ss.length) (hx : x = ss.getD i []) (h : shL x n ≠ k) : ofL (ss.take (i + 1)) k n = ofL (ss.take i) k n := by
  unfold ofL; rw [take_succ hi, List.filter_append, ← hx]; simp [h]
theorem ofL_len (ss : List (List UInt8)) (i : Nat) (k n : Int) : (ofL (ss.take i) k n).length ≤ i := by
  have := List.length_filter_le (fun x => decide (shL x n = k)) (ss.take i)
  rw [List.length_take] at this
  unfold ofL; omega
end M

namespace M
theorem or_small : ∀ m : Fin 16, ∀ s : Fin 4, bits .or .i64 ((m.val : Nat) : Int) (wrap64 (2 ^ s.val)) = ((m.val ||| 2 ^ s.val : Nat) : Int) := by decide +kernel
theorem or_less : ∀ m : Fin 16, ∀ s : Fin 4, m.val ||| 2 ^ s.val < 16 := by decide +kernel
/-- Which shards. -/
def maskL (ss : List (List UInt8)) (n : Int) : Nat := ss.foldl (fun m x => m ||| 2 ^ (shL x n).toNat) 0
theorem maskL_snoc (ss : List (List UInt8)) (x : List UInt8) (n : Int) : maskL (ss ++ [x]) n = maskL ss n ||| 2 ^ (shL x n).toNat := by unfold maskL; rw [List.foldl_append]; rfl
theorem maskL_take {ss : List (List UInt8)} {i : Nat} {n : Int} {x : List UInt8} (hi : i < ss.length) (hx : x = ss.getD i []) : maskL (ss.take (i + 1)) n = maskL (ss.take i) n ||| 2 ^ (shL x n).toNat := by
  rw [take_succ hi, maskL_snoc, hx]
theorem or_at {m : Nat} {s : Int} (hm : m < 16) (h0 : 0 ≤ s) (h4 : s < 4) : bits .or .i64 (m : Int) (wrap64 (2 ^ s.toNat)) = ((m ||| 2 ^ s.toNat : Nat) : Int) ∧ m ||| 2 ^ s.toNat < 16 := by
  have hs : s.toNat < 4 := by omega
  exact ⟨or_small ⟨m, hm⟩ ⟨s.toNat, hs⟩, or_less ⟨m, hm⟩ ⟨s.toNat, hs⟩⟩
theorem foldl_bit (n : Int) (k : Nat) : ∀ (ss : List (List UInt8)) (m : Nat), (ss.foldl (fun m x => m ||| 2 ^ (shL x n).toNat) m).testBit k = (m.testBit k || ss.any (fun x => decide ((shL x n).toNat = k)))
  | [], m => by simp
  | x :: ss, m => by
    rw [List.foldl_cons, foldl_bit n k ss, Nat.testBit_or, Nat.testBit_two_pow, List.any_cons, Bool.or_assoc]
theorem maskL_bit (ss : List (List UInt8)) (n : Int) (k : Nat) : (maskL ss n).testBit k = ss.any (fun x => decide ((shL x n).toNat = k)) := by
  unfold maskL; rw [foldl_bit]; simp
end M

end Go.Proofs.YtpknkhgkejkpkaaGreat

namespace Go.Proofs.YtpknkhgkejkpkaaGreat
open Go.ChangeShapes Go.WideShapes Go.ChangeAt Go.RowKit

/-- append, whose run is known, as one step of a region that draws. -/
theorem step_append_run {P : Program} {ops : Array Oper} {o : Oper} {a : Act} {w : World} {K : Act → World → Prop} {Q : Exit → Act → World → Prop} {E : Prop}
    (hg : o.guard = none) (s x : Operand) (t tn : TypeId) (hop : o.op = Op.call { callee := Callee.builtin Builtin.append, args := #[s, x], argTypes := #[t, tn] })
    (vs vx : Value) (hs : a.eval s = vs) (hx : a.eval x = vx) (v' : Value) (w' : World) (hr : (Builtin.append_ #[t, tn] o.type #[vs, vx]).run P w = .ok v' w')
    (hK : K (a.put o.dst v') w') : if Region.wanted o (yielded ops a.tmps) = true then Oper.wp P o a w K Q else E := by
  have hw : Region.wanted o (yielded ops a.tmps) = true := by simp [Region.wanted, hg]
  rw [if_pos hw]
  unfold Oper.wp
  simp [execOp, hop, resolve, invoke, builtin, hs, hx, hr, Result.andThen]
  exact hK

namespace M
/-- What stands ahead of a text, and what behind. -/
def allLt (l : List (List UInt8)) (x : List UInt8) : Prop := ∀ y ∈ l, ltB y x = true
theorem allLt_succ {l : List (List UInt8)} {j : Nat} {x : List UInt8} (hj : j < l.length) (h : allLt (l.take j) x) (hx : ltB (l.getD j []) x = true) : allLt (l.take (j + 1)) x := by
  intro y hy
  rw [take_succ hj, List.mem_append, List.mem_singleton] at hy
  rcases hy with hy | rfl
  · exact h y hy
  · exact hx
theorem while_of : ∀ (l : List (List UInt8)) (j : Nat) (x : List UInt8), j ≤ l.length → allLt (l.take j) x → (j < l.length → ltB (l.getD j []) x = false) → l.takeWhile (ltB · x) = l.take j ∧ l.dropWhile (ltB · x) = l.drop j
  | [], j, x, hj, _, _ => by simp
  | y :: l, 0, x, _, _, h => by
    have := h (by simp)
    simp at this
    simp [this]
  | y :: l, j + 1, x, hj, ha, h => by
    have hy : ltB y x = true := ha y (by simp)
    have ih := while_of l j x (by simpa using hj) (fun z hz => ha z (by simp [hz])) (fun hl => by have := h (by simpa using hl); simpa using this)
    simp [hy, ih.1, ih.2]
theorem ins_at {l : List (List UInt8)} {j : Nat} {x : List UInt8} (hn : inB l x = false) (hj : j ≤ l.length) (ha : allLt (l.take j) x) (h : j < l.length → ltB (l.getD j []) x = false) : ins l x = l.take j ++ [x] ++ l.drop j := by
  obtain ⟨h1, h2⟩ := while_of l j x hj ha h
  unfold ins
  rw [hn, h1, h2]
  simp
theorem ins_in {l : List (List UInt8)} {x : List UInt8} (hn : inB l x = true) : ins l x = l := by unfold ins; rw [hn]; rfl
/-- Put in one by one. -/
def put (l : List (List UInt8)) (k : Nat) : List (List UInt8) := (l.take k).foldl ins []
theorem put_succ {l : List (List UInt8)} {k : Nat} (hk : k < l.length) : put l (k + 1) = ins (put l k) (l.getD k []) := by
  unfold put; rw [take_succ hk, List.foldl_append]; rfl
theorem put_len (l : List (List UInt8)) (k : Nat) : (put l k).length ≤ k := by
  have := foldl_ins_len (l.take k) []
  rw [List.length_take] at this
  unfold put; simp at this; omega
theorem put_mem (l : List (List UInt8)) (k : Nat) : ∀ x ∈ put l k, x ∈ l := fun x hx => by
  have := (foldl_ins (l.take k) [] List.Pairwise.nil).2 x
  unfold put at hx
  rw [this] at hx
  rcases hx with hx | hx
  · simp at hx
  · exact List.mem_of_mem_take hx
end M

theorem own_empty (w : World) {base : Nat} (h : base ≤ w.heap.size) : (w.alloc (.cells #[] 9)).ownsRow base 9 1 (.slice (some ⟨w.heap.size, 0, none⟩) 0 0) 0 [] := by
  have := World.ownsRow_lit (base := base) (e := 9) (size := 1) w #[] 0 h (Nat.zero_le _) rfl
  simpa using this

theorem Drawn.own {w w' : World} {base : Nat} {v : Value} {n : Nat} {xs : List Value} (h : Drawn w w') (ho : w.ownsRow base 9 1 v n xs) : w'.ownsRow base 9 1 v n xs := by
  obtain ⟨m, rfl⟩ := h; exact ho
theorem own_front {w : World} {base g n c : Nat} {xs : List Value} {j : Nat} (h : w.ownsRow base 9 1 (.slice (some ⟨g, 0, none⟩) n c) n xs) (hj : j ≤ n) : w.ownsRow base 9 1 (.slice (some ⟨g, 0, none⟩) j c) j (xs.take j) := by
  obtain ⟨hl, h2⟩ := h
  rcases h2 with ⟨h0, _⟩ | ⟨g', cap, cur, hv, hb, hg, hn, hm, hs, ht⟩
  · cases h0
  · cases hv
    refine ⟨by simp; omega, .inr ⟨g, c, cur, rfl, hb, hg, by omega, hm, hs, ?_⟩⟩
    rw [← ht, List.take_take, show min j (n * 1) = j * 1 by omega]
theorem own_back {w : World} {base g n c : Nat} {xs : List Value} {j : Nat} (h : w.ownsRow base 9 1 (.slice (some ⟨g, 0, none⟩) n c) n xs) (hj : j ≤ n) : Row w (.slice (some ⟨g, j, none⟩) (n - j) (c - j)) (xs.drop j) := by
  have hx : xs.length = n := by have := h.1; omega
  have hnc : n ≤ c := by
    rcases h.2 with ⟨h0, _⟩ | ⟨g', cap, cur, hv, hb, hg, hn, _⟩
    · cases h0
    · cases hv; exact hn
  refine ⟨some ⟨g, j, none⟩, c - j, by rw [List.length_drop, hx], by rw [List.length_drop]; omega, fun _ => ⟨g, j, rfl, (h.lt g rfl).2, fun k x hk => ?_⟩⟩
  rw [List.getElem?_drop] at hk
  have hlt : j + k < n := by have := (List.getElem?_eq_some_iff.1 hk).1; omega
  rw [h.cellAt (j + k) (by omega)]
  exact hk
theorem row_zero {w : World} {A : Option Addr} {j : Nat} {xs : List Value} (hj : xs.length ≤ j) : Row w (.slice A 0 0) (xs.drop j) :=
  ⟨A, 0, by rw [List.length_drop, show xs.length - j = 0 by omega], by rw [List.length_drop]; omega, fun h => absurd h (by rw [List.length_drop]; omega)⟩
theorem row_one (w : World) (x : List UInt8) : Row (w.alloc (.cells #[.string ⟨x.toArray⟩] 9)) (.slice (some ⟨w.heap.size, 0, none⟩) 1 1) ([x].map encStr) :=
  ⟨some ⟨w.heap.size, 0, none⟩, 1, rfl, Nat.le_refl _, fun _ => ⟨w.heap.size, 0, rfl, by simp, fun k y hk => by
    have := cell_one_new w (.string ⟨x.toArray⟩) 9 k y hk
    rw [add_plain] at this
    exact this⟩⟩

set_option maxHeartbeats 4000000 in
set_option maxRecDepth 100000 in
theorem djoin_any {w : World} {v u : Value} {ss ts : List (List UInt8)} (h : Words w v ss) (h' : Words w u ts) (hl : ss.length ≤ 400) (hl' : ts.length ≤ 400) (hs : ∀ x ∈ ss, x.length ≤ 1000) (hs' : ∀ x ∈ ts, x.length ≤ 1000) :
    Calls Tryz.prog 70 #[v, u] w (Made (M.djoin ss ts) w) := by
  have HL := Lib.hid (show ∀ x ∈ ss ++ ts, x.length ≤ 1000 from fun x hx => by
    rcases List.mem_append.1 hx with hx | hx
    · exact hs x hx
    · exact hs' x hx)
  have HD := Lib.hid (show M.djoin ss ts = M.put (ss ++ ts) (ss ++ ts).length by unfold M.djoin M.put; rw [List.take_length])
  have hln : (ss ++ ts).length ≤ 800 := by rw [List.length_append]; omega
  have b0 : Below w.heap.size w (w.alloc (.cells #[] 9)) := (Below.refl _ w).alloc (Nat.le_refl _) _
  have o0 := own_empty w (Nat.le_refl w.heap.size)
  obtain ⟨v1, w1, r1, o1, g1⟩ := append_row o0 (h.below b0) (one_str ss) (by rw [List.length_map]; omega) (by simp)
  have b1 := b0.grown g1 (by simp) (fun k hk => (o0.lt k hk).1)
  obtain ⟨v2, w2, r2, o2, g2⟩ := append_row o1 (h'.below b1) (one_str ts) (by rw [List.length_map, List.length_map]; omega) b1.size
  have b2 := b1.grown g2 b1.size (fun k hk => (o1.lt k hk).1)
  rw [List.length_map, List.length_map, Nat.zero_add, List.nil_append, ← List.map_append, ← List.length_append] at o2
  have HW := Lib.hid (Made.words o2)
  have HB := Lib.hid b2
  clear o0 o1 g1 b1 g2 b2 b0 h h' hs hs' o2
  generalize ss ++ ts = l at *
  obtain ⟨A, c, rfl, hc, hx⟩ := HW.out.opened
  have HX := Lib.hid hx
  clear hx HW
  go_enter Tryz.func70, Tryz.ntmps70
  go_wp2_with (first
    | (at_builtin; refine Lib.wpList_append_run _ rfl (.tmp 10) (.tmp 11) _ _ rfl _ _ rfl rfl _ _ r1 ?_)
    | (at_builtin; refine Lib.wpList_append_run _ rfl (.tmp 12) (.tmp 13) _ _ rfl _ _ rfl rfl _ _ r2 ?_))
  clear r1 r2
  go_loopw [5, 7] (fun x i wr => ∃ k : Nat, k ≤ l.length ∧ i = .int .i64 k ∧ wr.ownsRow w2.heap.size 9 1 x (M.put l k).length ((M.put l k).map encStr) ∧ Below w2.heap.size w2 wr) (fun _ i _ => l.length - (intOf i).toNat)
  case atStart => exact ⟨0, Nat.zero_le _, rfl, World.ownsRow_nil _ _ _ _, Below.refl _ _⟩
  case round =>
    obtain ⟨k, hk, rfl, hrow, hbw⟩ := hrel
    have hpl := M.put_len l k
    by_cases hlt : k < l.length
    · obtain ⟨b, o, rfl, hb, hy⟩ := HX.out (by omega)
      have hcell := (hbw.cell (p := ⟨b, o + k, none⟩) hb).trans (hy k hlt)
      obtain ⟨x, hxk⟩ : ∃ x, x = l.getD k [] := ⟨_, rfl⟩
      rw [← hxk] at hcell
      have hx1 : x.length ≤ 1000 := by rw [hxk]; exact HL.out _ (M.getD_mem hlt)
      have HN := Lib.hid (show M.put l (k + 1) = M.ins (M.put l k) x by rw [M.put_succ hlt, hxk])
      have HP := Lib.hid (show ∀ y ∈ M.put l k, y.length ≤ 1000 from fun y hy => HL.out _ (M.put_mem l k y hy))
      have HR := Lib.hid hrow
      have HBw := Lib.hid hbw
      have HIn := Lib.hid (in_any x (Made.words hrow) (by omega))
      have hbz := hbw.size
      clear hy hxk hrow hbw
      generalize M.put l k = O at *
      rcases two (M.inB O x) with e | e
      · have HI := Lib.hid (M.ins_in e)
        go_wp2_with (go_at_call 47; refine HIn.out.mono ?_; rintro e w' ⟨rfl, rfl⟩)
        go_roundw
        case rel => exact ⟨k + 1, by omega, by go_num, by rw [HN.out, HI.out]; exact HR.out, HBw.out⟩
        case measure => simp [intOf]; omega
      · have HE := Lib.hid e
        go_wp2_with (go_at_call 47; refine HIn.out.mono ?_; rintro e w' ⟨rfl, rfl⟩)
        clear HIn
        clear e
        rcases HR.out.2 with ⟨hv1, hn0⟩ | ⟨g, c1, cur, hv1, hbase, hblk, hnc, hcm, hcs, htk⟩
        · have hn1 : O.length ≤ 0 := by omega
          clear hn0
          have HO := Lib.hid (show O = [] from List.length_eq_zero_iff.1 (by omega))
          subst hv1
          obtain ⟨w3, hw3⟩ : ∃ w3 : World, w3 = wr := ⟨_, rfl⟩
          rw [← hw3] at hcell HR HBw hbz
          have HW3 := Lib.hid hw3
          clear hw3
          have i1 : (k : Int) < (l.length : Int) := by omega
          go_loopw [8] (fun i wr => i = .int .i64 0 ∧ Drawn w3 wr) (fun _ _ => 0)
          case atStart => exact ⟨rfl, by rw [HW3.out]; exact Drawn.refl _⟩
          case round =>
            clear HW3
            obtain ⟨rfl, hd⟩ := hrel
            have HDr := Lib.hid hd
            have hcellx := (hd.cell ⟨b, o + k, none⟩).trans hcell
            have HI := Lib.hid (M.ins_at (j := 0) HE.out (Nat.zero_le _) (fun y hy => by simp at hy) (fun h => absurd h (by omega)))
            clear hd hcell
            go_wp2
            go_quiet (fail)
            have HD4 := Lib.hid (HDr.out.on nq)
            have hcx4 : (wr.drewN nq).cell? ⟨b, o + k, none⟩ = some (.string ⟨x.toArray⟩) := hcellx
            clear hcellx
            have hcellx := hcx4
            clear hcx4 HDr
            generalize wr.drewN nq = w4 at *
            have R4 := HD4.out.own HR.out
            have B4 := HBw.out.trans ((HD4.out.below).mono hbz)
            have s4 : w2.heap.size ≤ w4.heap.size := B4.size
            have s34 : w3.heap.size ≤ w4.heap.size := HD4.out.below.size
            have o5 := own_empty w4 (Nat.le_refl w4.heap.size)
            have b5 : Below w4.heap.size w4 (w4.alloc (.cells #[] 9)) := (Below.refl _ w4).alloc (Nat.le_refl _) _
            obtain ⟨vr, w5, r5, own5, g5⟩ := append_row o5 (u := .slice none 0 0) (news := (O.map encStr).drop 0) (Row.below (by rw [HO.out]; exact ⟨none, 0, rfl, Nat.le_refl _, fun h => absurd h (by simp)⟩) b5) (fun y hy => one_str O y (List.mem_of_mem_drop hy)) (by simp <;> omega) (by simp)
            have B5 := b5.grown g5 (by simp) (fun i hi => (o5.lt i hi).1)
            rw [Nat.zero_add, List.nil_append] at own5
            have s5 : w4.heap.size ≤ w5.heap.size := B5.size
            have own5' := own5
            have F5 : w5.ownsRow w2.heap.size 9 1 (.slice none 0 0) 0 ((O.map encStr).take 0) := by
              simpa using World.ownsRow_nil w5 _ _ _
            have c5 := (B5.cell (p := ⟨b, o + k, none⟩) (by have := hb; show b < _; omega)).trans hcellx
            obtain ⟨v6, w6, r6, own6, g6⟩ := append_row (w := (w5.alloc (.cells #[.string ⟨x.toArray⟩] 9)).drew) (F5.alloc (.cells #[.string ⟨x.toArray⟩] 9)).drew (u := .slice (some ⟨w5.heap.size, 0, none⟩) 1 1) (news := [x].map encStr) (row_one w5 x) (one_str [x]) (by simp <;> omega) (by simp <;> omega)
            have k6 : w6.ownsRow w4.heap.size 9 1 vr ((O.map encStr).drop 0).length ((O.map encStr).drop 0) := ((own5.alloc (.cells #[.string ⟨x.toArray⟩] 9)).drew).kept g6 (by cases hq : vr.ownBlock with | none => exact .inl rfl | some q => exact .inr (by simp [Value.ownBlock]))
            have s6 : w5.heap.size + 1 ≤ w6.heap.size := by have := g6.size; simpa using this
            obtain ⟨v7, w7, r7, own7, g7⟩ := append_row own6 (Row.of_owns k6) (fun y hy => one_str O y (List.mem_of_mem_drop hy)) (by simp <;> omega) (by omega)
            have B7 : Below w2.heap.size w2 w7 := (((B4.trans (B5.mono s4)).alloc (by omega) _).drew.grown g6 (by simp <;> omega) (fun i hi => ((F5.alloc (.cells #[.string ⟨x.toArray⟩] 9)).lt i hi).1)).grown g7 (by omega) (fun i hi => (own6.lt i hi).1)
            have E7 : w7.ownsRow w2.heap.size 9 1 v7 (M.put l (k + 1)).length ((M.put l (k + 1)).map encStr) := by
              rw [HN.out, HI.out]
              simp only [List.map_append, List.length_append, List.length_take, List.length_drop, List.map_take, List.map_drop]
              have e1 : min 0 O.length = 0 := by omega
              rw [e1]
              simpa using own7
            have H7 := Lib.hid E7
            have H8 := Lib.hid B7
            clear R4 B4 o5 b5 own5 g5 B5 own5' F5 own6 g6 k6 own7 g7 B7 E7 HI
            go_wp2_with (at_builtin; refine Lib.wpList_append_run _ rfl (.tmp 44) (.tmp 47) _ _ rfl _ _ rfl rfl _ _ r5 ?_)
            go_region_law (first
              | refine step_append_run rfl (.tmp 51) (.tmp 56) 86 86 rfl _ _ (by simp [Act.eval]) (by simp [Act.eval]) _ _ r6 ?_
              | refine step_append_run rfl (.tmp 57) (.tmp 58) 86 86 rfl _ _ (by simp [Act.eval]) (by simp [Act.eval]) _ _ r7 ?_)
            all_goals
              go_wp2
              go_roundw
              case rel => exact ⟨k + 1, by omega, by go_num, H7.out, H8.out⟩
              case measure => simp [intOf]; omega
        subst hv1
        have hgw := (Array.getElem?_eq_some_iff.1 hblk).1
        have HX2 := Lib.hid (show ∀ i, i < O.length → wr.cell? ⟨g, i, none⟩ = some (.string ⟨(O.getD i []).toArray⟩) from fun i hi => by rw [HR.out.cellAt i (by omega), List.getElem?_map, List.getD, List.getElem?_eq_getElem hi]; rfl)
        clear hblk hcs htk
        obtain ⟨w3, hw3⟩ : ∃ w3 : World, w3 = wr := ⟨_, rfl⟩
        rw [← hw3] at hcell HR HBw hbz HX2 hgw
        have HW3 := Lib.hid hw3
        clear hw3
        go_loopw [8] (fun i wr => ∃ j : Nat, j ≤ O.length ∧ i = .int .i64 j ∧ Drawn w3 wr ∧ M.allLt (O.take j) x) (fun i _ => O.length - (intOf i).toNat)
        case atStart => exact ⟨0, Nat.zero_le _, rfl, by rw [HW3.out]; exact Drawn.refl _, fun y hy => by simp at hy⟩
        case round =>
          clear HW3
          obtain ⟨j, hj, rfl, hd, hal⟩ := hrel
          have HDr := Lib.hid hd
          have HAl := Lib.hid hal
          have hcellx := (hd.cell ⟨b, o + k, none⟩).trans hcell
          clear hd hal
          have i1 : (k : Int) < (l.length : Int) := by omega
          by_cases hjl : j < O.length
          · have hcelly := (HDr.out.cell ⟨g, j, none⟩).trans (HX2.out j hjl)
            obtain ⟨y, hyk⟩ : ∃ y, y = O.getD j [] := ⟨_, rfl⟩
            rw [← hyk] at hcelly
            have hy1 : y.length ≤ 1000 := by rw [hyk]; exact HP.out _ (M.getD_mem hjl)
            have HYK := Lib.hid hyk
            have i2 : (j : Int) < (O.length : Int) := by omega
            clear hyk hcell
            rcases two (M.ltB y x) with f | f
            · go_wp2
              go_quiet ((go_at_call 88; exact Calls.quiet_of (before_any _ _ _ (by omega) (by omega))))
              go_wp2
              go_roundw
              case rel => exact ⟨j + 1, by omega, by go_num, HDr.out.on _, M.allLt_succ hjl HAl.out (by rw [← HYK.out]; exact f)⟩
              case measure => simp [intOf]; omega
            · have HI := Lib.hid (M.ins_at HE.out hj HAl.out (fun _ => by rw [← HYK.out]; exact f))
              go_wp2
              go_quiet ((go_at_call 88; exact Calls.quiet_of (before_any _ _ _ (by omega) (by omega))))
              have hcj : ¬ c1 = j := by omega
              have hjc : j ≤ c1 := by omega
              have HD4 := Lib.hid (HDr.out.on nq)
              have hcx4 : (wr.drewN nq).cell? ⟨b, o + k, none⟩ = some (.string ⟨x.toArray⟩) := hcellx
              clear hcellx hcelly HYK
              have hcellx := hcx4
              clear hcx4 HDr HAl
              generalize wr.drewN nq = w4 at *
              have R4 := HD4.out.own HR.out
              have B4 := HBw.out.trans ((HD4.out.below).mono hbz)
              have s4 : w2.heap.size ≤ w4.heap.size := B4.size
              have s34 : w3.heap.size ≤ w4.heap.size := HD4.out.below.size
              have o5 := own_empty w4 (Nat.le_refl w4.heap.size)
              have b5 : Below w4.heap.size w4 (w4.alloc (.cells #[] 9)) := (Below.refl _ w4).alloc (Nat.le_refl _) _
              obtain ⟨vr, w5, r5, own5, g5⟩ := append_row o5 (u := .slice (some ⟨g, j, none⟩) (O.length - j) (c1 - j)) (news := (O.map encStr).drop j) (Row.below (own_back R4 hj) b5) (fun y hy => one_str O y (List.mem_of_mem_drop hy)) (by simp <;> omega) (by simp)
              have B5 := b5.grown g5 (by simp) (fun i hi => (o5.lt i hi).1)
              rw [Nat.zero_add, List.nil_append] at own5
              have s5 : w4.heap.size ≤ w5.heap.size := B5.size
              have own5' := own5
              have F5 : w5.ownsRow w2.heap.size 9 1 (.slice (some ⟨g, 0, none⟩) j c1) j ((O.map encStr).take j) := by
                exact (own_front R4 hj).kept (row := none) ⟨B5.os, B5.tape, B5.output, B5.size, fun i h _ => B5.block i h⟩ (by simp [Value.ownBlock])
              have c5 := (B5.cell (p := ⟨b, o + k, none⟩) (by have := hb; show b < _; omega)).trans hcellx
              obtain ⟨v6, w6, r6, own6, g6⟩ := append_row (w := (w5.alloc (.cells #[.string ⟨x.toArray⟩] 9)).drew) (F5.alloc (.cells #[.string ⟨x.toArray⟩] 9)).drew (u := .slice (some ⟨w5.heap.size, 0, none⟩) 1 1) (news := [x].map encStr) (row_one w5 x) (one_str [x]) (by simp <;> omega) (by simp <;> omega)
              have k6 : w6.ownsRow w4.heap.size 9 1 vr ((O.map encStr).drop j).length ((O.map encStr).drop j) := ((own5.alloc (.cells #[.string ⟨x.toArray⟩] 9)).drew).kept g6 (Or.inr (fun e => by have := (own5.lt g e).1; omega))
              have s6 : w5.heap.size + 1 ≤ w6.heap.size := by have := g6.size; simpa using this
              obtain ⟨v7, w7, r7, own7, g7⟩ := append_row own6 (Row.of_owns k6) (fun y hy => one_str O y (List.mem_of_mem_drop hy)) (by simp <;> omega) (by omega)
              have B7 : Below w2.heap.size w2 w7 := (((B4.trans (B5.mono s4)).alloc (by omega) _).drew.grown g6 (by simp <;> omega) (fun i hi => ((F5.alloc (.cells #[.string ⟨x.toArray⟩] 9)).lt i hi).1)).grown g7 (by omega) (fun i hi => (own6.lt i hi).1)
              have E7 : w7.ownsRow w2.heap.size 9 1 v7 (M.put l (k + 1)).length ((M.put l (k + 1)).map encStr) := by
                rw [HN.out, HI.out]
                simp only [List.map_append, List.length_append, List.length_take, List.length_drop, List.map_take, List.map_drop]
                have e1 : min j O.length = j := by omega
                rw [e1]
                simpa using own7
              have H7 := Lib.hid E7
              have H8 := Lib.hid B7
              clear R4 B4 o5 b5 own5 g5 B5 own5' F5 own6 g6 k6 own7 g7 B7 E7 HI
              go_wp2_with (at_builtin; refine Lib.wpList_append_run _ rfl (.tmp 44) (.tmp 47) _ _ rfl _ _ rfl rfl _ _ r5 ?_)
              go_region_law (first
                | refine step_append_run rfl (.tmp 51) (.tmp 56) 86 86 rfl _ _ (by simp [Act.eval]) (by simp [Act.eval]) _ _ r6 ?_
                | refine step_append_run rfl (.tmp 57) (.tmp 58) 86 86 rfl _ _ (by simp [Act.eval]) (by simp [Act.eval]) _ _ r7 ?_)
              all_goals
                go_wp2
                go_roundw
                case rel => exact ⟨k + 1, by omega, by go_num, H7.out, H8.out⟩
                case measure => simp [intOf]; omega
          · have hdf : decide ((j : Int) < (O.length : Int)) = false := decide_eq_false (by omega)
            have HI := Lib.hid (M.ins_at HE.out hj HAl.out (fun h => absurd h hjl))
            clear hcell
            by_cases hcj : c1 = j
            · subst hcj
              have hjc : c1 ≤ c1 := Nat.le_refl _
              go_wp2
              go_quiet (fail)
              have HD4 := Lib.hid (HDr.out.on nq)
              have hcx4 : (wr.drewN nq).cell? ⟨b, o + k, none⟩ = some (.string ⟨x.toArray⟩) := hcellx
              clear hcellx
              have hcellx := hcx4
              clear hcx4 HDr HAl
              generalize wr.drewN nq = w4 at *
              have R4 := HD4.out.own HR.out
              have B4 := HBw.out.trans ((HD4.out.below).mono hbz)
              have s4 : w2.heap.size ≤ w4.heap.size := B4.size
              have s34 : w3.heap.size ≤ w4.heap.size := HD4.out.below.size
              have o5 := own_empty w4 (Nat.le_refl w4.heap.size)
              have b5 : Below w4.heap.size w4 (w4.alloc (.cells #[] 9)) := (Below.refl _ w4).alloc (Nat.le_refl _) _
              obtain ⟨vr, w5, r5, own5, g5⟩ := append_row o5 (u := .slice (some ⟨g, 0, none⟩) 0 0) (news := (O.map encStr).drop c1) (Row.below (row_zero (by rw [List.length_map]; omega)) b5) (fun y hy => one_str O y (List.mem_of_mem_drop hy)) (by simp <;> omega) (by simp)
              have B5 := b5.grown g5 (by simp) (fun i hi => (o5.lt i hi).1)
              rw [Nat.zero_add, List.nil_append] at own5
              have s5 : w4.heap.size ≤ w5.heap.size := B5.size
              have own5' := own5
              have F5 : w5.ownsRow w2.heap.size 9 1 (.slice (some ⟨g, 0, none⟩) c1 c1) c1 ((O.map encStr).take c1) := by
                exact (own_front R4 hj).kept (row := none) ⟨B5.os, B5.tape, B5.output, B5.size, fun i h _ => B5.block i h⟩ (by simp [Value.ownBlock])
              have c5 := (B5.cell (p := ⟨b, o + k, none⟩) (by have := hb; show b < _; omega)).trans hcellx
              obtain ⟨v6, w6, r6, own6, g6⟩ := append_row (w := (w5.alloc (.cells #[.string ⟨x.toArray⟩] 9)).drew) (F5.alloc (.cells #[.string ⟨x.toArray⟩] 9)).drew (u := .slice (some ⟨w5.heap.size, 0, none⟩) 1 1) (news := [x].map encStr) (row_one w5 x) (one_str [x]) (by simp <;> omega) (by simp <;> omega)
              have k6 : w6.ownsRow w4.heap.size 9 1 vr ((O.map encStr).drop c1).length ((O.map encStr).drop c1) := ((own5.alloc (.cells #[.string ⟨x.toArray⟩] 9)).drew).kept g6 (Or.inr (fun e => by have := (own5.lt g e).1; omega))
              have s6 : w5.heap.size + 1 ≤ w6.heap.size := by have := g6.size; simpa using this
              obtain ⟨v7, w7, r7, own7, g7⟩ := append_row own6 (Row.of_owns k6) (fun y hy => one_str O y (List.mem_of_mem_drop hy)) (by simp <;> omega) (by omega)
              have B7 : Below w2.heap.size w2 w7 := (((B4.trans (B5.mono s4)).alloc (by omega) _).drew.grown g6 (by simp <;> omega) (fun i hi => ((F5.alloc (.cells #[.string ⟨x.toArray⟩] 9)).lt i hi).1)).grown g7 (by omega) (fun i hi => (own6.lt i hi).1)
              have E7 : w7.ownsRow w2.heap.size 9 1 v7 (M.put l (k + 1)).length ((M.put l (k + 1)).map encStr) := by
                rw [HN.out, HI.out]
                simp only [List.map_append, List.length_append, List.length_take, List.length_drop, List.map_take, List.map_drop]
                have e1 : min c1 O.length = c1 := by omega
                rw [e1]
                simpa using own7
              have H7 := Lib.hid E7
              have H8 := Lib.hid B7
              clear R4 B4 o5 b5 own5 g5 B5 own5' F5 own6 g6 k6 own7 g7 B7 E7 HI
              go_wp2_with (at_builtin; refine Lib.wpList_append_run _ rfl (.tmp 44) (.tmp 47) _ _ rfl _ _ rfl rfl _ _ r5 ?_)
              go_region_law (first
                | refine step_append_run rfl (.tmp 51) (.tmp 56) 86 86 rfl _ _ (by simp [Act.eval]) (by simp [Act.eval]) _ _ r6 ?_
                | refine step_append_run rfl (.tmp 57) (.tmp 58) 86 86 rfl _ _ (by simp [Act.eval]) (by simp [Act.eval]) _ _ r7 ?_)
              all_goals
                go_wp2
                go_roundw
                case rel => exact ⟨k + 1, by omega, by go_num, H7.out, H8.out⟩
                case measure => simp [intOf]; omega
            · have hjc : j ≤ c1 := by omega
              go_wp2
              go_quiet (fail)
              have HD4 := Lib.hid (HDr.out.on nq)
              have hcx4 : (wr.drewN nq).cell? ⟨b, o + k, none⟩ = some (.string ⟨x.toArray⟩) := hcellx
              clear hcellx
              have hcellx := hcx4
              clear hcx4 HDr HAl
              generalize wr.drewN nq = w4 at *
              have R4 := HD4.out.own HR.out
              have B4 := HBw.out.trans ((HD4.out.below).mono hbz)
              have s4 : w2.heap.size ≤ w4.heap.size := B4.size
              have s34 : w3.heap.size ≤ w4.heap.size := HD4.out.below.size
              have o5 := own_empty w4 (Nat.le_refl w4.heap.size)
              have b5 : Below w4.heap.size w4 (w4.alloc (.cells #[] 9)) := (Below.refl _ w4).alloc (Nat.le_refl _) _
              obtain ⟨vr, w5, r5, own5, g5⟩ := append_row o5 (u := .slice (some ⟨g, j, none⟩) (O.length - j) (c1 - j)) (news := (O.map encStr).drop j) (Row.below (own_back R4 hj) b5) (fun y hy => one_str O y (List.mem_of_mem_drop hy)) (by simp <;> omega) (by simp)
              have B5 := b5.grown g5 (by simp) (fun i hi => (o5.lt i hi).1)
              rw [Nat.zero_add, List.nil_append] at own5
              have s5 : w4.heap.size ≤ w5.heap.size := B5.size
              have own5' := own5
              have F5 : w5.ownsRow w2.heap.size 9 1 (.slice (some ⟨g, 0, none⟩) j c1) j ((O.map encStr).take j) := by
                exact (own_front R4 hj).kept (row := none) ⟨B5.os, B5.tape, B5.output, B5.size, fun i h _ => B5.block i h⟩ (by simp [Value.ownBlock])
              have c5 := (B5.cell (p := ⟨b, o + k, none⟩) (by have := hb; show b < _; omega)).trans hcellx
              obtain ⟨v6, w6, r6, own6, g6⟩ := append_row (w := (w5.alloc (.cells #[.string ⟨x.toArray⟩] 9)).drew) (F5.alloc (.cells #[.string ⟨x.toArray⟩] 9)).drew (u := .slice (some ⟨w5.heap.size, 0, none⟩) 1 1) (news := [x].map encStr) (row_one w5 x) (one_str [x]) (by simp <;> omega) (by simp <;> omega)
              have k6 : w6.ownsRow w4.heap.size 9 1 vr ((O.map encStr).drop j).length ((O.map encStr).drop j) := ((own5.alloc (.cells #[.string ⟨x.toArray⟩] 9)).drew).kept g6 (Or.inr (fun e => by have := (own5.lt g e).1; omega))
              have s6 : w5.heap.size + 1 ≤ w6.heap.size := by have := g6.size; simpa using this
              obtain ⟨v7, w7, r7, own7, g7⟩ := append_row own6 (Row.of_owns k6) (fun y hy => one_str O y (List.mem_of_mem_drop hy)) (by simp <;> omega) (by omega)
              have B7 : Below w2.heap.size w2 w7 := (((B4.trans (B5.mono s4)).alloc (by omega) _).drew.grown g6 (by simp <;> omega) (fun i hi => ((F5.alloc (.cells #[.string ⟨x.toArray⟩] 9)).lt i hi).1)).grown g7 (by omega) (fun i hi => (own6.lt i hi).1)
              have E7 : w7.ownsRow w2.heap.size 9 1 v7 (M.put l (k + 1)).length ((M.put l (k + 1)).map encStr) := by
                rw [HN.out, HI.out]
                simp only [List.map_append, List.length_append, List.length_take, List.length_drop, List.map_take, List.map_drop]
                have e1 : min j O.length = j := by omega
                rw [e1]
                simpa using own7
              have H7 := Lib.hid E7
              have H8 := Lib.hid B7
              clear R4 B4 o5 b5 own5 g5 B5 own5' F5 own6 g6 k6 own7 g7 B7 E7 HI
              go_wp2_with (at_builtin; refine Lib.wpList_append_run _ rfl (.tmp 44) (.tmp 47) _ _ rfl _ _ rfl rfl _ _ r5 ?_)
              go_region_law (first
                | refine step_append_run rfl (.tmp 51) (.tmp 56) 86 86 rfl _ _ (by simp [Act.eval]) (by simp [Act.eval]) _ _ r6 ?_
                | refine step_append_run rfl (.tmp 57) (.tmp 58) 86 86 rfl _ _ (by simp [Act.eval]) (by simp [Act.eval]) _ _ r7 ?_)
              all_goals
                go_wp2
                go_roundw
                case rel => exact ⟨k + 1, by omega, by go_num, H7.out, H8.out⟩
                case measure => simp [intOf]; omega
    · obtain rfl : k = l.length := by omega
      have K1 := Lib.hid (ownsRow_base hrow HB.out.size)
      have K2 := Lib.hid (HB.out.trans (hbw.mono HB.out.size))
      clear hrow hbw
      go_wp2
      go_ret
      exact ⟨_, rfl, by rw [HD.out]; exact K1.out, K2.out⟩
end Go.Proofs.YtpknkhgkejkpkaaGreat

namespace Go.Proofs.YtpknkhgkejkpkaaGreat
open Go.ChangeShapes Go.WideShapes Go.ChangeAt Go.RowKit

theorem in_s {w : World} {v : Value} {ss : List (List UInt8)} (s : ByteArray) (h : Words w v ss) (hl : ss.length ≤ 1000) : Calls Tryz.prog 47 #[v, .string s] w fun e w' => e = .returned (.bool (M.inB ss s.data.toList)) ∧ w = w' := by
  have := in_any (v := v) s.data.toList h hl
  have e : (⟨s.data.toList.toArray⟩ : ByteArray) = s := by cases s; simp
  rw [e] at this
  exact this
namespace M
theorem asc_at {l : List (List UInt8)} (h : Asc l) {j : Nat} (hj : j + 1 < l.length) : ltB (l.getD j []) (l.getD (j + 1) []) = true := by
  rw [ltB_iff, List.getD, List.getD, List.getElem?_eq_getElem (by omega), List.getElem?_eq_getElem hj]
  exact (List.pairwise_iff_getElem.1 h) j (j + 1) (by omega) hj (by omega)
theorem join_le {ss ts : List (List UInt8)} {n : Nat} (h : ∀ x ∈ ss, x.length ≤ n) (h' : ∀ x ∈ ts, x.length ≤ n) : ∀ x ∈ join ss ts, x.length ≤ n := fun x hx => by
  rcases (join_mem ss ts x).1 hx with hx | hx
  · exact h x hx
  · exact h' x hx
theorem inB_join (ss ts : List (List UInt8)) (x : List UInt8) : inB (join ss ts) x = (inB ss x || inB ts x) := by
  rw [Bool.eq_iff_iff, Bool.or_eq_true, inB_iff, inB_iff, inB_iff, join_mem]
end M
attribute [local go_sem ↓] run_geq_str
end Go.Proofs.YtpknkhgkejkpkaaGreat
