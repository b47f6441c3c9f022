/- Contract of counting; no conditions but those that they name. -/
import Derived.Test.YtpknkhgkejkpkaaGreatPx
import Derived.Great.BuildSlice
import Derived.Lib.Hide

namespace Go.Proofs.YtpknkhgkejkpkaaGreat
open Go.ChangeShapes Go.WideShapes Go.ChangeAt Go.RowKit

theorem rows_of_owns {w : World} {base : Nat} {v : Value} {X : List Rv} (h : w.ownsRow base 41 25 v X.length (X.flatMap Rv.cells)) (t : ∀ x ∈ X, Txt w x) : Rows w v X := ⟨RowN.of_owns h, t⟩
set_option maxRecDepth 100000 in
theorem fill_rec (x : Rv) : Instr.fill (fun i => some (i * 25, 25)) ((Array.range (1 * 25)).map (Rv.zero.val.cells[· % Rv.zero.val.cells.size]!)) [(0, Value.agg x.cells.toArray)] = some x.cells.toArray := by kernel_rfl
section
variable (w : World) {ops : Array Oper} {rest : List Oper} {o : Oper} {a : Act} {Q : Exit → Act → World → Prop}
theorem wpList_put (hg : o.guard = none) (mm x v : Operand) (hop : o.op = Op.mapUpdate 120 mm x v) (gm : Nat) (m : List (Ky × Int)) (hm : a.eval mm = .map (some gm)) (h : MapIs w gm m) (k : Ky) (y : Int) (hx : a.eval x = kv k) (hv : a.eval v = .int .i64 y)
    (hK : ∀ w', MapIs w' gm (mput m k y) → Below gm w w' → w'.heap.size = w.heap.size → wpList Tryz.prog ops Q rest (a.put o.dst undef) w') : wpList Tryz.prog ops Q (o :: rest) a w := by
  refine wpList_plain hg fun K' hK' => ?_
  obtain ⟨w', hrun, r1, r2, -, r3⟩ := run_put h k y
  unfold Oper.wp
  simp [execOp, hop, hm, hx, hv, hrun, Result.andThen]
  exact hK' _ _ (hK w' r1 r2 r3)
theorem wpList_look (hg : o.guard = none) (mm x : Operand) (hop : o.op = Op.lookup 120 mm x false) (gm : Nat) (m : List (Ky × Int)) (hm : a.eval mm = .map (some gm)) (h : MapIs w gm m) (k : Ky) (hx : a.eval x = kv k)
    (hK : wpList Tryz.prog ops Q rest (a.put o.dst (.int .i64 ((mget m k).getD 0))) w) : wpList Tryz.prog ops Q (o :: rest) a w := by
  refine wpList_plain hg fun K' hK' => ?_
  have hrun := run_look1 h k
  unfold Oper.wp
  simp [execOp, hop, hm, hx, hrun, Result.andThen]
  exact hK' _ _ hK
theorem wpList_len (hg : o.guard = none) (mm : Operand) (hop : o.op = Op.call { callee := Callee.builtin Builtin.len, args := #[mm], argTypes := #[120] }) (gm : Nat) (m : List (Ky × Int)) (hm : a.eval mm = .map (some gm)) (h : MapIs w gm m)
    (hK : wpList Tryz.prog ops Q rest (a.put o.dst (.int .i64 (m.length : Int))) w) : wpList Tryz.prog ops Q (o :: rest) a w := by
  refine wpList_plain hg fun K' hK' => ?_
  have hrun : ∀ ty, (Builtin.len_ #[120] ty #[.map (some gm)]).run Tryz.prog w = .ok (.int .i64 (m.length : Int)) w := fun ty => by
    obtain ⟨es, ck, hb, he⟩ := h
    have hl : es.size = m.length := by have := congrArg List.length he; simpa using this
    rw [← hl]
    simp [Builtin.len_, run_underlying Tryz.underlying120, MapKept.run_getObj_map hb, goInt, Result.andThen]
  unfold Oper.wp
  simp [execOp, hop, resolve, invoke, builtin, hm, hrun o.type, Result.andThen]
  exact hK' _ _ hK
end
theorem wpList_build44 {ops : Array Oper} {rest : List Oper} {o : Oper} {a : Act} {w : World} {Q : Exit → Act → World → Prop} (hg : o.guard = none) (y : Operand) (ho : o.op = .buildSlice 22 1 #[(0, y)]) (x : Rv) (hy : a.eval y = .agg x.cells.toArray)
    (h : wpList Tryz.prog ops Q rest (a.put o.dst (.slice (some ⟨w.heap.size, 0, none⟩) 1 1)) (w.alloc (.cells x.cells.toArray 41))) : wpList Tryz.prog ops Q (o :: rest) a w := by
  obtain ⟨i0, hi, hz0, hz1, hz2⟩ := info_parts info44
  refine wpList_buildSlice hg 22 41 1 #[(0, y)] ho x.cells.toArray i0 Rv.zero.val Tryz.underlying22 hi hz0 (by rw [hz1]; omega) (by rw [hz1]; omega) ?_ h
  rw [hz1]
  simp only [List.map_toArray, List.map_cons, List.map_nil, hy]
  exact fill_rec x
theorem add_plain' (b o k : Nat) : (⟨b, o, none⟩ : Addr).add k = ⟨b, o + k, none⟩ := by
  cases k <;> rfl
theorem rec_new (w : World) (x : Rv) : ∀ (j : Nat) (u : Value), x.cells[j]? = some u → (w.alloc (.cells x.cells.toArray 41)).cell? ((⟨w.heap.size, 0, none⟩ : Addr).add j) = some u := fun j u hj => by
  rw [add_plain', Nat.zero_add]
  exact (Cel.new w x.cells 41).get j u hj
theorem rec_one {x : Rv} (h1 : x.va.oneCell' = true) (h2 : x.vb.oneCell' = true) : ∀ u ∈ x.cells, u.oneCell' = true := by
  intro u hu
  simp only [Rv.cells, List.mem_cons, List.not_mem_nil, or_false] at hu
  rcases hu with rfl | rfl | rfl | rfl | rfl | rfl | rfl | rfl | rfl | rfl | rfl | rfl | rfl | rfl | rfl | rfl | rfl | rfl | rfl | rfl | rfl | rfl | rfl | rfl | rfl
  all_goals first | exact h1 | exact h2 | rfl
end Go.Proofs.YtpknkhgkejkpkaaGreat

namespace Go.Proofs.YtpknkhgkejkpkaaGreat
open Go.ChangeShapes Go.WideShapes Go.ChangeAt Go.RowKit

/-- A list of records in a row of one's own, their texts where they were. -/
def MadeX (Y : List Rv) (w : World) (e : Ending) (w' : World) : Prop := ∃ u, e = .returned u ∧ w'.ownsRow w.heap.size 41 25 u Y.length (Y.flatMap Rv.cells) ∧ Below w.heap.size w w'
theorem flat_snoc (Y : List Rv) (x : Rv) : (Y ++ [x]).flatMap Rv.cells = Y.flatMap Rv.cells ++ x.cells := by simp
theorem take_snoc {X : List Rv} {k : Nat} {x : Rv} (h : X[k]? = some x) : X.take (k + 1) = X.take k ++ [x] := by rw [List.take_add_one, h]; rfl
theorem one_of (n : Nat) (A : Option Addr) (c : Nat) : (Value.slice A n c).oneCell' = true := rfl
set_option maxHeartbeats 4000000 in
set_option maxRecDepth 100000 in
theorem counting_any {w : World} {v : Value} {X : List Rv} (h : Rows w v X) (hl : X.length ≤ 1000) : Calls Tryz.prog 85 #[v] w (MadeX (known X) w) := by
  obtain ⟨i0, hi, hz0, hz1, hz2⟩ := info_parts info44
  obtain ⟨A, c, rfl⟩ := rowN_sliceOf h.row
  have HH := Lib.hid h
  clear h
  have hmm := @run_makeMap Tryz.prog
  go_enter Tryz.func85, Tryz.ntmps85
  go_wp2
  go_loopw [12] (fun i wr => ∃ k : Nat, i = .int .i64 k ∧ k ≤ X.length ∧ Hid (Below w.heap.size w wr) ∧ Hid (MapIs wr w.heap.size (lastM ((keysOf X).take k)))) (fun i _ => X.length - (intOf i).toNat)
  case atStart => exact ⟨0, rfl, Nat.zero_le _, Lib.hid (below_new (Below.refl _ _)), Lib.hid (MapIs.new w)⟩
  case round =>
    obtain ⟨k, rfl, hk, HW, HM⟩ := hrel
    by_cases hlt : k < X.length
    · obtain ⟨x, hx⟩ : ∃ x, X[k]? = some x := ⟨_, List.getElem?_eq_getElem hlt⟩
      have hxm : x ∈ X := List.mem_of_getElem? hx
      obtain ⟨b, o, rfl, hbl, hrr⟩ := rowN_range (HH.out.below HW.out).row hx
      have HX := Lib.hid ((HH.out.tx x hxm).below HW.out)
      have HKS := Lib.hid (show lastM ((keysOf X).take (k + 1)) = mput (lastM ((keysOf X).take k)) x.key k by
        have := keysOf_at hx
        rw [List.take_add_one, this, Option.toList_some, lastM_snoc, List.length_take]
        congr 1
        have : (keysOf X).length = X.length := by unfold keysOf; simp
        omega)
      obtain ⟨r, va, vb⟩ := x
      obtain ⟨A3, c3, ea⟩ := rowN_sliceOf HX.out.rs
      obtain ⟨A4, c4, eb⟩ := rowN_sliceOf HX.out.ws
      dsimp only at ea eb
      subst ea eb
      have HRR := Lib.hid (show wr.rangeAt b (o + k * 25) [.int .i64 r.ir, .int .i64 r.is, .int .i64 r.st, .int .i64 r.pn, .int .i64 r.pr, .int .i64 r.bn, .int .i64 r.br, .int .i64 r.c.k, .int .i64 r.c.tc, .int .i64 r.c.tn, .int .i64 r.c.tt, .int .i64 r.c.tk, .int .i64 r.c.sh, (.slice A3 r.c.rs.length c3), (.slice A4 r.c.ws.length c4), .bool r.c.cm, .int .i64 r.sq, .int .i64 r.d0, .int .i64 r.d1, .int .i64 r.d2, .int .i64 r.d3, .int .i64 r.d4, .int .i64 r.d5, .int .i64 r.d6, .bool r.kp] from hrr)
      have hk1 : (k : Int) < (X.length : Int) := by omega
      have hb3 : Below wr.heap.size wr (wr.alloc (.cells #[.int .i64 r.ir, .int .i64 r.is, .int .i64 r.st, .int .i64 r.pn, .int .i64 r.pr, .int .i64 r.bn, .int .i64 r.br, .int .i64 r.c.k, .int .i64 r.c.tc, .int .i64 r.c.tn, .int .i64 r.c.tt, .int .i64 r.c.tk, .int .i64 r.c.sh, (.slice A3 r.c.rs.length c3), (.slice A4 r.c.ws.length c4), .bool r.c.cm, .int .i64 r.sq, .int .i64 r.d0, .int .i64 r.d1, .int .i64 r.d2, .int .i64 r.d3, .int .i64 r.d4, .int .i64 r.d5, .int .i64 r.d6, .bool r.kp] 41)) := below_new (Below.refl _ _)
      have HI := Lib.hid (hold_range (Hold.new wr [.int .i64 r.ir, .int .i64 r.is, .int .i64 r.st, .int .i64 r.pn, .int .i64 r.pr, .int .i64 r.bn, .int .i64 r.br, .int .i64 r.c.k, .int .i64 r.c.tc, .int .i64 r.c.tn, .int .i64 r.c.tt, .int .i64 r.c.tk, .int .i64 r.c.sh, (.slice A3 r.c.rs.length c3), (.slice A4 r.c.ws.length c4), .bool r.c.cm, .int .i64 r.sq, .int .i64 r.d0, .int .i64 r.d1, .int .i64 r.d2, .int .i64 r.d3, .int .i64 r.d4, .int .i64 r.d5, .int .i64 r.d6, .bool r.kp] 41) 0 [.int .i64 r.ir, .int .i64 r.is] (fun j v hj => by
        match j, hj with
        | 0, hj => exact hj
        | 1, hj => exact hj))
      have HM3 := Lib.hid (HM.out.on hb3)
      have HW3 := Lib.hid (below_on HW.out hb3)
      clear hx hxm hbl hrr hb3 HX HM
      go_wp2_with (first
        | (with_reducible refine wpList_load_mid rfl 41 _ rfl b (o + k * 25) rfl [.int .i64 r.ir, .int .i64 r.is, .int .i64 r.st, .int .i64 r.pn, .int .i64 r.pr, .int .i64 r.bn, .int .i64 r.br, .int .i64 r.c.k, .int .i64 r.c.tc, .int .i64 r.c.tn, .int .i64 r.c.tt, .int .i64 r.c.tk, .int .i64 r.c.sh, (.slice A3 r.c.rs.length c3), (.slice A4 r.c.ws.length c4), .bool r.c.cm, .int .i64 r.sq, .int .i64 r.d0, .int .i64 r.d1, .int .i64 r.d2, .int .i64 r.d3, .int .i64 r.d4, .int .i64 r.d5, .int .i64 r.d6, .bool r.kp] _ HRR.out Tryz.underlying41 rfl (by kernel_rfl) ?_)
        | (with_reducible refine wpList_store_fresh rfl 41 _ _ rfl wr.heap.size rfl 41 _ [.int .i64 r.ir, .int .i64 r.is, .int .i64 r.st, .int .i64 r.pn, .int .i64 r.pr, .int .i64 r.bn, .int .i64 r.br, .int .i64 r.c.k, .int .i64 r.c.tc, .int .i64 r.c.tn, .int .i64 r.c.tt, .int .i64 r.c.tk, .int .i64 r.c.sh, (.slice A3 r.c.rs.length c3), (.slice A4 r.c.ws.length c4), .bool r.c.cm, .int .i64 r.sq, .int .i64 r.d0, .int .i64 r.d1, .int .i64 r.d2, .int .i64 r.d3, .int .i64 r.d4, .int .i64 r.d5, .int .i64 r.d6, .bool r.kp] rfl rfl rfl (by kernel_rfl) rfl ?_)
        | (with_reducible refine wpList_load_mid rfl 32 _ rfl wr.heap.size 0 rfl [.int .i64 r.ir, .int .i64 r.is] _ HI.out Tryz.underlying32 rfl (by kernel_rfl) ?_)
        | (refine wpList_put _ rfl _ _ _ rfl w.heap.size _ rfl HM3.out (r.ir, r.is) (k : Int) rfl rfl ?_; intro w8 hm8 ht8 hs8)
        | fail)
      have HM8 := Lib.hid (show MapIs w8 w.heap.size (lastM ((keysOf X).take (k + 1))) by rw [HKS.out]; exact hm8)
      have HW8 := Lib.hid (HW3.out.trans ht8)
      clear hm8 ht8
      go_roundw
      case rel => exact ⟨k + 1, by go_num, hlt, HW8, HM8⟩
      case measure => simp [intOf]; omega
    · obtain rfl : k = X.length := by omega
      have HMA := Lib.hid (show MapIs wr w.heap.size (lastM (keysOf X)) by
        have := HM.out
        rwa [List.take_of_length_le (by unfold keysOf; simp)] at this)
      have hml : (lastM (keysOf X)).length ≤ X.length := by have := lastM_len (keysOf X); unfold keysOf at *; simpa using this
      have HKL := Lib.hid (show ∀ k, (kept X allB k).length ≤ k from fun k => kept_len k)
      have HSZ := Lib.hid (show w.heap.size + 1 ≤ wr.heap.size from HMA.out.lt)
      clear HM
      go_wp2_with (first
        | (refine wpList_len _ rfl _ rfl w.heap.size _ rfl HMA.out ?_)
        | (at_make; refine wpList_make_own _ rfl _ _ 22 rfl (w.heap.size + 1) 41 i0 Rv.zero.val 25 Tryz.underlying22 hi hz0 hz1 _ _ _ (lastM (keysOf X)).length rfl rfl rfl (by rw [hz2]; omega) (by unfold maxLen; omega) (by have := HSZ.out; omega) ?_; intro w2 hown2 hgrow2)
        | fail)
      have HM2 := Lib.hid (HMA.out.grown hgrow2 (by simp))
      have HW2 := Lib.hid (HW.out.grown hgrow2 HW.out.size (by simp))
      have HO2 := Lib.hid hown2
      have HS2 := Lib.hid (show w.heap.size + 1 ≤ w2.heap.size from Nat.le_trans HSZ.out hgrow2.size)
      clear hown2 hgrow2 HMA HW HSZ
      go_wp2
      go_loopw [6, 27] (fun u i wr => ∃ k : Nat, i = .int .i64 k ∧ k ≤ X.length ∧ Hid (Below w.heap.size w wr) ∧ Hid (MapIs wr w.heap.size (lastM (keysOf X))) ∧ Hid (wr.ownsRow (w.heap.size + 1) 41 25 u (kept X allB k).length ((kept X allB k).flatMap Rv.cells))) (fun _ i _ => X.length - (intOf i).toNat)
      case atStart => exact ⟨0, rfl, Nat.zero_le _, HW2, HM2, HO2⟩
      case round =>
        clear HW2 HM2 HO2 HS2
        obtain ⟨k, rfl, hk, HW, HM, HO⟩ := hrel
        by_cases hlt : k < X.length
        · obtain ⟨x, hx⟩ : ∃ x, X[k]? = some x := ⟨_, List.getElem?_eq_getElem hlt⟩
          have hxm : x ∈ X := List.mem_of_getElem? hx
          obtain ⟨b, o, rfl, hbl, hrr⟩ := rowN_range (HH.out.below HW.out).row hx
          have HX := Lib.hid ((HH.out.tx x hxm).below HW.out)
          have hls := last_at (keysOf_at hx)
          have HY := Lib.hid (show lastB (keysOf X) k = true → kept X allB (k + 1) = kept X allB k ++ [x] from fun e => kept_yes hx (by rw [e]; rfl))
          have HN := Lib.hid (show lastB (keysOf X) k = false → kept X allB (k + 1) = kept X allB k from fun e => kept_no hx (by rw [e]; rfl))
          have hkl := HKL.out k
          obtain ⟨r, va, vb⟩ := x
          obtain ⟨A3, c3, ea⟩ := rowN_sliceOf HX.out.rs
          obtain ⟨A4, c4, eb⟩ := rowN_sliceOf HX.out.ws
          dsimp only at ea eb
          subst ea eb
          have HRR := Lib.hid (show wr.rangeAt b (o + k * 25) [.int .i64 r.ir, .int .i64 r.is, .int .i64 r.st, .int .i64 r.pn, .int .i64 r.pr, .int .i64 r.bn, .int .i64 r.br, .int .i64 r.c.k, .int .i64 r.c.tc, .int .i64 r.c.tn, .int .i64 r.c.tt, .int .i64 r.c.tk, .int .i64 r.c.sh, (.slice A3 r.c.rs.length c3), (.slice A4 r.c.ws.length c4), .bool r.c.cm, .int .i64 r.sq, .int .i64 r.d0, .int .i64 r.d1, .int .i64 r.d2, .int .i64 r.d3, .int .i64 r.d4, .int .i64 r.d5, .int .i64 r.d6, .bool r.kp] from hrr)
          have hk1 : (k : Int) < (X.length : Int) := by omega
          have hb3 : Below wr.heap.size wr (wr.alloc (.cells #[.int .i64 r.ir, .int .i64 r.is, .int .i64 r.st, .int .i64 r.pn, .int .i64 r.pr, .int .i64 r.bn, .int .i64 r.br, .int .i64 r.c.k, .int .i64 r.c.tc, .int .i64 r.c.tn, .int .i64 r.c.tt, .int .i64 r.c.tk, .int .i64 r.c.sh, (.slice A3 r.c.rs.length c3), (.slice A4 r.c.ws.length c4), .bool r.c.cm, .int .i64 r.sq, .int .i64 r.d0, .int .i64 r.d1, .int .i64 r.d2, .int .i64 r.d3, .int .i64 r.d4, .int .i64 r.d5, .int .i64 r.d6, .bool r.kp] 41)) := below_new (Below.refl _ _)
          have HHO := Lib.hid (Hold.new wr [.int .i64 r.ir, .int .i64 r.is, .int .i64 r.st, .int .i64 r.pn, .int .i64 r.pr, .int .i64 r.bn, .int .i64 r.br, .int .i64 r.c.k, .int .i64 r.c.tc, .int .i64 r.c.tn, .int .i64 r.c.tt, .int .i64 r.c.tk, .int .i64 r.c.sh, (.slice A3 r.c.rs.length c3), (.slice A4 r.c.ws.length c4), .bool r.c.cm, .int .i64 r.sq, .int .i64 r.d0, .int .i64 r.d1, .int .i64 r.d2, .int .i64 r.d3, .int .i64 r.d4, .int .i64 r.d5, .int .i64 r.d6, .bool r.kp] 41)
          have HI := Lib.hid (hold_range HHO.out 0 [.int .i64 r.ir, .int .i64 r.is] (fun j v hj => by
            match j, hj with
            | 0, hj => exact hj
            | 1, hj => exact hj))
          have HBX := Lib.hid (hold_range HHO.out 0 [.int .i64 r.ir, .int .i64 r.is, .int .i64 r.st, .int .i64 r.pn, .int .i64 r.pr, .int .i64 r.bn, .int .i64 r.br, .int .i64 r.c.k, .int .i64 r.c.tc, .int .i64 r.c.tn, .int .i64 r.c.tt, .int .i64 r.c.tk, .int .i64 r.c.sh, (.slice A3 r.c.rs.length c3), (.slice A4 r.c.ws.length c4), .bool r.c.cm, .int .i64 r.sq, .int .i64 r.d0, .int .i64 r.d1, .int .i64 r.d2, .int .i64 r.d3, .int .i64 r.d4, .int .i64 r.d5, .int .i64 r.d6, .bool r.kp] (fun j v hj => by rw [Nat.zero_add]; exact hj))
          have HM3 := Lib.hid (HM.out.on hb3)
          have HW3 := Lib.hid (below_on HW.out hb3)
          have HO3 := Lib.hid (ownsRow_on HO.out hb3)
          have HS3 := Lib.hid (show w.heap.size + 1 ≤ wr.heap.size from HM.out.lt)
          have hkey : (Rv.key ⟨r, .slice A3 r.c.rs.length c3, .slice A4 r.c.ws.length c4⟩) = (r.ir, r.is) := rfl
          rw [hkey] at hls
          clear hx hxm hbl hrr hb3 HX HM HHO hkey HO
          rcases hq : lastB (keysOf X) k with _ | _
          · have HNX := Lib.hid (HN.out hq)
            rw [hq, decide_eq_false_iff_not] at hls
            have hls' : ((mget (lastM (keysOf X)) (r.ir, r.is)).getD 0 == (k : Int)) = false := by rw [beq_eq_false_iff_ne]; exact hls
            clear hls hq
            go_wp2_with (first
              | (with_reducible refine wpList_load_mid rfl 41 _ rfl b (o + k * 25) rfl [.int .i64 r.ir, .int .i64 r.is, .int .i64 r.st, .int .i64 r.pn, .int .i64 r.pr, .int .i64 r.bn, .int .i64 r.br, .int .i64 r.c.k, .int .i64 r.c.tc, .int .i64 r.c.tn, .int .i64 r.c.tt, .int .i64 r.c.tk, .int .i64 r.c.sh, (.slice A3 r.c.rs.length c3), (.slice A4 r.c.ws.length c4), .bool r.c.cm, .int .i64 r.sq, .int .i64 r.d0, .int .i64 r.d1, .int .i64 r.d2, .int .i64 r.d3, .int .i64 r.d4, .int .i64 r.d5, .int .i64 r.d6, .bool r.kp] _ HRR.out Tryz.underlying41 rfl (by kernel_rfl) ?_)
              | (with_reducible refine wpList_store_fresh rfl 41 _ _ rfl wr.heap.size rfl 41 _ [.int .i64 r.ir, .int .i64 r.is, .int .i64 r.st, .int .i64 r.pn, .int .i64 r.pr, .int .i64 r.bn, .int .i64 r.br, .int .i64 r.c.k, .int .i64 r.c.tc, .int .i64 r.c.tn, .int .i64 r.c.tt, .int .i64 r.c.tk, .int .i64 r.c.sh, (.slice A3 r.c.rs.length c3), (.slice A4 r.c.ws.length c4), .bool r.c.cm, .int .i64 r.sq, .int .i64 r.d0, .int .i64 r.d1, .int .i64 r.d2, .int .i64 r.d3, .int .i64 r.d4, .int .i64 r.d5, .int .i64 r.d6, .bool r.kp] rfl rfl rfl (by kernel_rfl) rfl ?_)
              | (with_reducible refine wpList_load_mid rfl 32 _ rfl wr.heap.size 0 rfl [.int .i64 r.ir, .int .i64 r.is] _ HI.out Tryz.underlying32 rfl (by kernel_rfl) ?_)
              | (refine wpList_look _ rfl _ _ rfl w.heap.size _ rfl HM3.out (r.ir, r.is) rfl ?_)
              | fail)
            go_roundw
            case rel => exact ⟨k + 1, by go_num, hlt, HW3, HM3, by rw [HNX.out]; exact HO3⟩
            case measure => simp [intOf]; omega
          · have HYX := Lib.hid (HY.out hq)
            rw [hq, decide_eq_true_iff] at hls
            have hls' : ((mget (lastM (keysOf X)) (r.ir, r.is)).getD 0 == (k : Int)) = true := by rw [beq_iff_eq]; exact hls
            clear hls hq
            go_wp2_with (first
              | (with_reducible refine wpList_load_mid rfl 41 _ rfl b (o + k * 25) rfl [.int .i64 r.ir, .int .i64 r.is, .int .i64 r.st, .int .i64 r.pn, .int .i64 r.pr, .int .i64 r.bn, .int .i64 r.br, .int .i64 r.c.k, .int .i64 r.c.tc, .int .i64 r.c.tn, .int .i64 r.c.tt, .int .i64 r.c.tk, .int .i64 r.c.sh, (.slice A3 r.c.rs.length c3), (.slice A4 r.c.ws.length c4), .bool r.c.cm, .int .i64 r.sq, .int .i64 r.d0, .int .i64 r.d1, .int .i64 r.d2, .int .i64 r.d3, .int .i64 r.d4, .int .i64 r.d5, .int .i64 r.d6, .bool r.kp] _ HRR.out Tryz.underlying41 rfl (by kernel_rfl) ?_)
              | (with_reducible refine wpList_store_fresh rfl 41 _ _ rfl wr.heap.size rfl 41 _ [.int .i64 r.ir, .int .i64 r.is, .int .i64 r.st, .int .i64 r.pn, .int .i64 r.pr, .int .i64 r.bn, .int .i64 r.br, .int .i64 r.c.k, .int .i64 r.c.tc, .int .i64 r.c.tn, .int .i64 r.c.tt, .int .i64 r.c.tk, .int .i64 r.c.sh, (.slice A3 r.c.rs.length c3), (.slice A4 r.c.ws.length c4), .bool r.c.cm, .int .i64 r.sq, .int .i64 r.d0, .int .i64 r.d1, .int .i64 r.d2, .int .i64 r.d3, .int .i64 r.d4, .int .i64 r.d5, .int .i64 r.d6, .bool r.kp] rfl rfl rfl (by kernel_rfl) rfl ?_)
              | (with_reducible refine wpList_load_mid rfl 32 _ rfl wr.heap.size 0 rfl [.int .i64 r.ir, .int .i64 r.is] _ HI.out Tryz.underlying32 rfl (by kernel_rfl) ?_)
              | (refine wpList_look _ rfl _ _ rfl w.heap.size _ rfl HM3.out (r.ir, r.is) rfl ?_)
              | (with_reducible refine wpList_load_mid rfl 41 _ rfl wr.heap.size 0 rfl [.int .i64 r.ir, .int .i64 r.is, .int .i64 r.st, .int .i64 r.pn, .int .i64 r.pr, .int .i64 r.bn, .int .i64 r.br, .int .i64 r.c.k, .int .i64 r.c.tc, .int .i64 r.c.tn, .int .i64 r.c.tt, .int .i64 r.c.tk, .int .i64 r.c.sh, (.slice A3 r.c.rs.length c3), (.slice A4 r.c.ws.length c4), .bool r.c.cm, .int .i64 r.sq, .int .i64 r.d0, .int .i64 r.d1, .int .i64 r.d2, .int .i64 r.d3, .int .i64 r.d4, .int .i64 r.d5, .int .i64 r.d6, .bool r.kp] _ HBX.out Tryz.underlying41 rfl (by kernel_rfl) ?_)
              | (with_reducible refine wpList_build44 rfl (.tmp 39) rfl ⟨r, .slice A3 r.c.rs.length c3, .slice A4 r.c.ws.length c4⟩ rfl ?_)
              | (at_builtin; refine wpList_append_own _ rfl _ _ 22 rfl (w.heap.size + 1) 41 i0 Rv.zero.val 25 232 Tryz.underlying22 hi hz0 hz1 hz2 rfl (by decide) _ _ _ rfl (HO3.out.alloc _) ⟨(wr.alloc (.cells #[.int .i64 r.ir, .int .i64 r.is, .int .i64 r.st, .int .i64 r.pn, .int .i64 r.pr, .int .i64 r.bn, .int .i64 r.br, .int .i64 r.c.k, .int .i64 r.c.tc, .int .i64 r.c.tn, .int .i64 r.c.tt, .int .i64 r.c.tk, .int .i64 r.c.sh, (.slice A3 r.c.rs.length c3), (.slice A4 r.c.ws.length c4), .bool r.c.cm, .int .i64 r.sq, .int .i64 r.d0, .int .i64 r.d1, .int .i64 r.d2, .int .i64 r.d3, .int .i64 r.d4, .int .i64 r.d5, .int .i64 r.d6, .bool r.kp] 41)).heap.size, 0, none⟩ 1 1 (Rv.cells ⟨r, .slice A3 r.c.rs.length c3, .slice A4 r.c.ws.length c4⟩) (by simp; rfl) rfl (rec_new _ ⟨r, .slice A3 r.c.rs.length c3, .slice A4 r.c.ws.length c4⟩) (rec_one rfl rfl) (by unfold maxLen; omega) (by omega) (by simp; have := HS3.out; omega) ?_; intro v' w4 hown' hgrow hnil)
              | fail)
            have HO4 := Lib.hid (show w4.ownsRow (w.heap.size + 1) 41 25 v' (kept X allB (k + 1)).length ((kept X allB (k + 1)).flatMap Rv.cells) by rw [HYX.out, flat_snoc, List.length_append]; exact hown')
            have hal : Below (wr.alloc (.cells #[.int .i64 r.ir, .int .i64 r.is, .int .i64 r.st, .int .i64 r.pn, .int .i64 r.pr, .int .i64 r.bn, .int .i64 r.br, .int .i64 r.c.k, .int .i64 r.c.tc, .int .i64 r.c.tn, .int .i64 r.c.tt, .int .i64 r.c.tk, .int .i64 r.c.sh, (.slice A3 r.c.rs.length c3), (.slice A4 r.c.ws.length c4), .bool r.c.cm, .int .i64 r.sq, .int .i64 r.d0, .int .i64 r.d1, .int .i64 r.d2, .int .i64 r.d3, .int .i64 r.d4, .int .i64 r.d5, .int .i64 r.d6, .bool r.kp] 41)).heap.size (wr.alloc (.cells #[.int .i64 r.ir, .int .i64 r.is, .int .i64 r.st, .int .i64 r.pn, .int .i64 r.pr, .int .i64 r.bn, .int .i64 r.br, .int .i64 r.c.k, .int .i64 r.c.tc, .int .i64 r.c.tn, .int .i64 r.c.tt, .int .i64 r.c.tk, .int .i64 r.c.sh, (.slice A3 r.c.rs.length c3), (.slice A4 r.c.ws.length c4), .bool r.c.cm, .int .i64 r.sq, .int .i64 r.d0, .int .i64 r.d1, .int .i64 r.d2, .int .i64 r.d3, .int .i64 r.d4, .int .i64 r.d5, .int .i64 r.d6, .bool r.kp] 41)) ((wr.alloc (.cells #[.int .i64 r.ir, .int .i64 r.is, .int .i64 r.st, .int .i64 r.pn, .int .i64 r.pr, .int .i64 r.bn, .int .i64 r.br, .int .i64 r.c.k, .int .i64 r.c.tc, .int .i64 r.c.tn, .int .i64 r.c.tt, .int .i64 r.c.tk, .int .i64 r.c.sh, (.slice A3 r.c.rs.length c3), (.slice A4 r.c.ws.length c4), .bool r.c.cm, .int .i64 r.sq, .int .i64 r.d0, .int .i64 r.d1, .int .i64 r.d2, .int .i64 r.d3, .int .i64 r.d4, .int .i64 r.d5, .int .i64 r.d6, .bool r.kp] 41)).alloc (.cells (Rv.cells ⟨r, .slice A3 r.c.rs.length c3, .slice A4 r.c.ws.length c4⟩).toArray 41)) := below_new (Below.refl _ _)
            have HM4 := Lib.hid ((HM3.out.on hal).grown hgrow (fun e => by have := ((ownsRow_on HO3.out hal).lt _ e.symm).1; omega))
            have HW4 := Lib.hid ((below_on HW3.out hal).grown hgrow (below_on HW3.out hal).size (fun i hi => by have := ((ownsRow_on HO3.out hal).lt i hi).1; omega))
            clear hown' hgrow hnil hal
            go_wp2
            go_roundw
            case rel => exact ⟨k + 1, by go_num, hlt, HW4, HM4, HO4⟩
            case measure => simp [intOf]; omega
        · obtain rfl : k = X.length := by omega
          go_wp2
          go_ret
          exact ⟨_, rfl, ownsRow_baseN HO.out (by omega), HW.out⟩
end Go.Proofs.YtpknkhgkejkpkaaGreat
