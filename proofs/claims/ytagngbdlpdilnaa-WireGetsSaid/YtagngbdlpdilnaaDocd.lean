/- Contract of the document's command; no conditions but those that it names. -/
import Derived.Test.YtagngbdlpdilnaaDocc
import Derived.Deep.CutBlock
namespace Go.Proofs.Ytagngbdlpdilnaa
open Go.ChangeShapes Go.WideShapes Go.ChangeAt Go.RowKit

theorem ownsRow_put {w : World} {base : Nat} {t : TypeId} {k : Nat} {v : Value} {n : Nat} {xs : List Value} (h : w.ownsRow base t k v n xs) (b o : Nat) (u : Value) (hb : ∀ q, v.ownBlock = some q → q ≠ b) : (w.setCell ⟨b, o, none⟩ u).ownsRow base t k v n xs := by
  refine ⟨h.1, ?_⟩
  rcases h.2 with h0 | ⟨g, cap, cur, hv, hg, hblk, r⟩
  · exact .inl h0
  · exact .inr ⟨g, cap, cur, hv, hg, (Below.heap_setCell _ _ _ _ (hb g (by rw [hv]; rfl))).trans hblk, r⟩
theorem app_rd {w : World} {base : Nat} {va : Value} {rs : List (List UInt8 × Int × Int)} (h : w.ownsRow base 74 3 va rs.length (rdsC rs)) (x : List UInt8 × Int × Int) (hl : rs.length ≤ 1000) (hb : base ≤ w.heap.size) :
    ∃ v' w', (Builtin.append_ #[30, 30] 30 #[va, .slice (some ⟨w.heap.size, 0, none⟩) 1 1]).run Try.prog (w.alloc (.cells (rdC x).toArray 74)) = .ok v' w' ∧ w'.ownsRow base 74 3 v' (rs ++ [x]).length (rdsC (rs ++ [x])) ∧ (w.alloc (.cells (rdC x).toArray 74)).grownBy w' va.ownBlock := by
  obtain ⟨v', w', hr, hown, hgrow⟩ := append_rds (World.ownsRow.alloc h (.cells (rdC x).toArray 74)) (rds_one w x) (by simp; omega) (by simp; omega)
  refine ⟨v', w', hr, ?_, hgrow⟩
  rw [show (rs ++ [x]).length = rs.length + 1 by simp, show rdsC (rs ++ [x]) = rdsC rs ++ rdsC [x] by unfold rdsC; rw [List.flatMap_append]]
  exact hown
theorem app_wr {w : World} {base : Nat} {va : Value} {rs : List (List UInt8 × List UInt8)} (h : w.ownsRow base 76 2 va rs.length (wrsC rs)) (x : List UInt8 × List UInt8) (hl : rs.length ≤ 1000) (hb : base ≤ w.heap.size) :
    ∃ v' w', (Builtin.append_ #[31, 31] 31 #[va, .slice (some ⟨w.heap.size, 0, none⟩) 1 1]).run Try.prog (w.alloc (.cells (wrC x).toArray 76)) = .ok v' w' ∧ w'.ownsRow base 76 2 v' (rs ++ [x]).length (wrsC (rs ++ [x])) ∧ (w.alloc (.cells (wrC x).toArray 76)).grownBy w' va.ownBlock := by
  obtain ⟨v', w', hr, hown, hgrow⟩ := append_wrs (World.ownsRow.alloc h (.cells (wrC x).toArray 76)) (wrs_one w x) (by simp; omega) (by simp; omega)
  refine ⟨v', w', hr, ?_, hgrow⟩
  rw [show (rs ++ [x]).length = rs.length + 1 by simp, show wrsC (rs ++ [x]) = wrsC rs ++ wrsC [x] by unfold wrsC; rw [List.flatMap_append]]
  exact hown
theorem Hold.grow {w w' : World} {b : Nat} {t : TypeId} {L : List Value} {row : Option Nat} (h : Hold w b t L) (k : w.grownBy w' row) (hb : ∀ q, row = some q → q ≠ b) : Hold w' b t L := (k.block b h.lt (fun e => hb b e.symm rfl)).trans h

theorem step_ld {P : Program} {ops : Array Oper} {o : Oper} {a : Act} {w : World} {K : Act → World → Prop} {Q : Exit → Act → World → Prop} {E : Prop}
    (hw : Region.wanted o (yielded ops a.tmps) = true) (ty : TypeId) (x : Operand) (ho : o.op = .load ty x) (b off : Nat) (hx : a.eval x = .pointer (some ⟨b, off, none⟩)) (cs : List Value) (d : TypeDesc) (hc : w.rangeAt b off cs)
    (hu : P.underlying ty = some d) (hd : d.isRow = true) (hi : (P.info? ty).map (·.size) = some cs.length) (hK : K (a.put o.dst (.agg cs.toArray)) w) : if Region.wanted o (yielded ops a.tmps) = true then Oper.wp P o a w K Q else E := by
  rw [if_pos hw]
  exact wp_load_mid ty x ho b off hx cs d hc hu hd hi hK
theorem step_st {P : Program} {ops : Array Oper} {op : Oper} {a : Act} {w : World} {K : Act → World → Prop} {Q : Exit → Act → World → Prop} {E : Prop}
    (hw : Region.wanted op (yielded ops a.tmps) = true) (ty : TypeId) (x y : Operand) (ho : op.op = .store ty x y) (b o : Nat) (L : List Value) (hx : a.eval x = .pointer (some ⟨b, o, none⟩)) (hy : a.eval y = .agg L.toArray)
    (ht : w.there b o L.length) (hi : (P.info? ty).map (·.size) = some L.length) (h1 : L.all (·.oneCell') = true) (hK : K (a.put op.dst undef) (w.setCells b o L)) : if Region.wanted op (yielded ops a.tmps) = true then Oper.wp P op a w K Q else E := by
  rw [if_pos hw]
  exact wp_store_mid ty x y ho b o L.toArray hx hy ht hi (by simpa using h1) (by simpa using hK)
theorem results_cc {fn : Func} {j k : Nat} {t u : TypeId} {tmps : Array Value} {w : World} {b b' : Nat} {L L' : List Value} (hf : fn.results = #[ResultVar.cell j t, ResultVar.cell k u]) (hp : tmps.getD j undef = .pointer (some ⟨b, 0, none⟩)) (hp' : tmps.getD k undef = .pointer (some ⟨b', 0, none⟩)) (hr : w.rangeAt b 0 L) (hr' : w.rangeAt b' 0 L')
    (d d' : TypeDesc) (hu : Try.prog.underlying t = some d) (hu' : Try.prog.underlying u = some d') (hd : d.isRow = true) (hd' : d'.isRow = true) (hi : (Try.prog.info? t).map (·.size) = some L.length) (hi' : (Try.prog.info? u).map (·.size) = some L'.length) :
    (results fn tmps).run Try.prog w = .ok (.tuple #[.agg L.toArray, .agg L'.toArray]) w := by
  have e : tmps[j]?.getD undef = .pointer (some ⟨b, 0, none⟩) := by simpa using hp
  have e' : tmps[k]?.getD undef = .pointer (some ⟨b', 0, none⟩) := by simpa using hp'
  simp [results, hf, e, e', asAddr, run_loadVar_mid w b 0 t L _ hr hu hd hi, run_loadVar_mid w b' 0 u L' _ hr' hu' hd' hi', Result.andThen]

/-- What the document's command answers. -/
def DcC (w0 : World) (s : P.Sr) (w : World) (e : Ending) (w' : World) : Prop := ∃ (s1 : P.Sr) (c : M.Cmd) (va vb x : Value), e = .returned (.tuple #[x, .agg #[.int .i64 c.k, .int .i64 c.tc, .int .i64 c.tn, .int .i64 c.tt, .int .i64 c.tk, .int .i64 c.sh, va, vb, .bool c.cm]]) ∧ Prt w0 x s1 ∧ w'.ownsRow w.heap.size 74 3 va c.rs.length (rdsC c.rs) ∧ w'.ownsRow w.heap.size 76 2 vb c.ws.length (wrsC c.ws) ∧ Below w.heap.size w w' ∧ P.Ran P.cmd s s1 c ∧ M.Mod c

set_option maxHeartbeats 16000000 in
set_option maxRecDepth 100000 in
theorem command_doc {w0 w : World} {x : Value} {s : P.Sr} (hw : Below w0.heap.size w0 w) (h : Prt w0 x s) : Calls Try.prog 55 #[x] w (DcC w0 s w) := by
  obtain ⟨A0, c0, rfl, hq⟩ := h
  have D0 := Lib.hid (show Prt w0 _ s from ⟨A0, c0, rfl, hq⟩)
  have HW := Lib.hid hw
  have P0 := Lib.hid ((((Hold.new w [.slice A0 s.xs.length c0, .int .i64 (s.er : Int)] 98).alloc (.cells #[.slice none 0 0, .int .i64 0] 98)).alloc (.cells #[.int .i64 0, .int .i64 0, .int .i64 0, .int .i64 0, .int .i64 0, .int .i64 0, .slice none 0 0, .slice none 0 0, .bool false] 33)).alloc (.cells #[.int .i64 0, .int .i64 0, .int .i64 0, .int .i64 0, .int .i64 0, .int .i64 0, .slice none 0 0, .slice none 0 0, .bool false] 33))
  have Z0 := Lib.hid (((Hold.new1 w (.cells #[.slice A0 s.xs.length c0, .int .i64 (s.er : Int)] 98) [.slice none 0 0, .int .i64 0] 98).alloc (.cells #[.int .i64 0, .int .i64 0, .int .i64 0, .int .i64 0, .int .i64 0, .int .i64 0, .slice none 0 0, .slice none 0 0, .bool false] 33)).alloc (.cells #[.int .i64 0, .int .i64 0, .int .i64 0, .int .i64 0, .int .i64 0, .int .i64 0, .slice none 0 0, .slice none 0 0, .bool false] 33))
  have Y0 := Lib.hid ((show Hold (((w.alloc (.cells #[.slice A0 s.xs.length c0, .int .i64 (s.er : Int)] 98)).alloc (.cells #[.slice none 0 0, .int .i64 0] 98)).alloc (.cells #[.int .i64 0, .int .i64 0, .int .i64 0, .int .i64 0, .int .i64 0, .int .i64 0, .slice none 0 0, .slice none 0 0, .bool false] 33)) (w.heap.size + 2) 33 [.int .i64 0, .int .i64 0, .int .i64 0, .int .i64 0, .int .i64 0, .int .i64 0, .slice none 0 0, .slice none 0 0, .bool false] by simpa using Hold.new ((w.alloc (.cells #[.slice A0 s.xs.length c0, .int .i64 (s.er : Int)] 98)).alloc (.cells #[.slice none 0 0, .int .i64 0] 98)) [.int .i64 0, .int .i64 0, .int .i64 0, .int .i64 0, .int .i64 0, .int .i64 0, .slice none 0 0, .slice none 0 0, .bool false] 33).alloc (.cells #[.int .i64 0, .int .i64 0, .int .i64 0, .int .i64 0, .int .i64 0, .int .i64 0, .slice none 0 0, .slice none 0 0, .bool false] 33))
  have C0 := Lib.hid (show Hold ((((w.alloc (.cells #[.slice A0 s.xs.length c0, .int .i64 (s.er : Int)] 98)).alloc (.cells #[.slice none 0 0, .int .i64 0] 98)).alloc (.cells #[.int .i64 0, .int .i64 0, .int .i64 0, .int .i64 0, .int .i64 0, .int .i64 0, .slice none 0 0, .slice none 0 0, .bool false] 33)).alloc (.cells #[.int .i64 0, .int .i64 0, .int .i64 0, .int .i64 0, .int .i64 0, .int .i64 0, .slice none 0 0, .slice none 0 0, .bool false] 33)) (w.heap.size + 3) 33 [.int .i64 0, .int .i64 0, .int .i64 0, .int .i64 0, .int .i64 0, .int .i64 0, .slice none 0 0, .slice none 0 0, .bool false] by simpa using Hold.new (((w.alloc (.cells #[.slice A0 s.xs.length c0, .int .i64 (s.er : Int)] 98)).alloc (.cells #[.slice none 0 0, .int .i64 0] 98)).alloc (.cells #[.int .i64 0, .int .i64 0, .int .i64 0, .int .i64 0, .int .i64 0, .int .i64 0, .slice none 0 0, .slice none 0 0, .bool false] 33)) [.int .i64 0, .int .i64 0, .int .i64 0, .int .i64 0, .int .i64 0, .int .i64 0, .slice none 0 0, .slice none 0 0, .bool false] 33)
  have B0 := Lib.hid (below_new (o := .cells #[.int .i64 0, .int .i64 0, .int .i64 0, .int .i64 0, .int .i64 0, .int .i64 0, .slice none 0 0, .slice none 0 0, .bool false] 33) (below_new (o := .cells #[.int .i64 0, .int .i64 0, .int .i64 0, .int .i64 0, .int .i64 0, .int .i64 0, .slice none 0 0, .slice none 0 0, .bool false] 33) (below_new (o := .cells #[.slice none 0 0, .int .i64 0] 98) (below_new (o := .cells #[.slice A0 s.xs.length c0, .int .i64 (s.er : Int)] 98) (Below.refl w.heap.size w)))))
  clear hq hw
  go_enter Try.func55, Try.ntmps55
  go_wp2_with (with_reducible refine wpList_store_fresh rfl 33 _ _ rfl _ rfl 33 _ [.int .i64 0, .int .i64 0, .int .i64 0, .int .i64 0, .int .i64 0, .int .i64 0, .slice none 0 0, .slice none 0 0, .bool false] rfl rfl rfl (by kernel_rfl) rfl ?_)
  go_wp2_with (fail)
  refine (number_doc (HW.out.trans (B0.out.mono HW.out.size)) D0.out).mono ?_
  rintro e w1 ⟨s1, a1, x1, rfl, -, hx, hb, hp⟩
  obtain ⟨A1, c1, rfl, hq⟩ := hx
  have D1 := Lib.hid (show Prt w0 _ s1 from ⟨A1, c1, rfl, hq⟩)
  clear hq
  have P1 := Lib.hid (P0.out.on hb)
  have Z1 := Lib.hid (Z0.out.on hb)
  have Y1 := Lib.hid (Y0.out.on hb)
  have C1 := Lib.hid (C0.out.on hb)
  have B1 := Lib.hid (below_on B0.out hb)
  have Ha1 := Lib.hid hp
  clear hb hp
  clear P0 Z0 Y0 C0 B0
  have za0 := P1.out.cell 0 rfl
  have zb0 := P1.out.soft 0
  have za1 := P1.out.cell 1 rfl
  have zb1 := P1.out.soft 1
  have za2 := C1.out.cell 0 rfl
  have zb2 := C1.out.soft 0
  have P1a := Lib.hid (show Hold ((w1).setCell ⟨w.heap.size, 0, none⟩ (.slice A1 s1.xs.length c1)) w.heap.size 98 [.slice A1 s1.xs.length c1, .int .i64 (s.er : Int)] from P1.out.put 0 (.slice A1 s1.xs.length c1))
  have Z1a := Lib.hid (Z1.out.bel (Bel.store (w1) w.heap.size 0 (.slice A1 s1.xs.length c1)) (by omega))
  have Y1a := Lib.hid (Y1.out.bel (Bel.store (w1) w.heap.size 0 (.slice A1 s1.xs.length c1)) (by omega))
  have C1a := Lib.hid (C1.out.bel (Bel.store (w1) w.heap.size 0 (.slice A1 s1.xs.length c1)) (by omega))
  have B1a := Lib.hid (B1.out.setCell (p := ⟨w.heap.size, 0, none⟩) (by show w.heap.size ≤ w.heap.size; omega) (.slice A1 s1.xs.length c1))
  clear P1 Z1 Y1 C1 B1
  have P1b := Lib.hid (show Hold (((w1).setCell ⟨w.heap.size, 0, none⟩ (.slice A1 s1.xs.length c1)).setCell ⟨w.heap.size, 1, none⟩ (.int .i64 (s1.er : Int))) w.heap.size 98 [.slice A1 s1.xs.length c1, .int .i64 (s1.er : Int)] from P1a.out.put 1 (.int .i64 (s1.er : Int)))
  have Z1b := Lib.hid (Z1a.out.bel (Bel.store ((w1).setCell ⟨w.heap.size, 0, none⟩ (.slice A1 s1.xs.length c1)) w.heap.size 1 (.int .i64 (s1.er : Int))) (by omega))
  have Y1b := Lib.hid (Y1a.out.bel (Bel.store ((w1).setCell ⟨w.heap.size, 0, none⟩ (.slice A1 s1.xs.length c1)) w.heap.size 1 (.int .i64 (s1.er : Int))) (by omega))
  have C1b := Lib.hid (C1a.out.bel (Bel.store ((w1).setCell ⟨w.heap.size, 0, none⟩ (.slice A1 s1.xs.length c1)) w.heap.size 1 (.int .i64 (s1.er : Int))) (by omega))
  have B1b := Lib.hid (B1a.out.setCell (p := ⟨w.heap.size, 1, none⟩) (by show w.heap.size ≤ w.heap.size; omega) (.int .i64 (s1.er : Int)))
  clear P1a Z1a Y1a C1a B1a
  have P1c := Lib.hid (P1b.out.bel (Bel.store (((w1).setCell ⟨w.heap.size, 0, none⟩ (.slice A1 s1.xs.length c1)).setCell ⟨w.heap.size, 1, none⟩ (.int .i64 (s1.er : Int))) (w.heap.size + 3) 0 (encN a1)) (by omega))
  have Z1c := Lib.hid (Z1b.out.bel (Bel.store (((w1).setCell ⟨w.heap.size, 0, none⟩ (.slice A1 s1.xs.length c1)).setCell ⟨w.heap.size, 1, none⟩ (.int .i64 (s1.er : Int))) (w.heap.size + 3) 0 (encN a1)) (by omega))
  have Y1c := Lib.hid (Y1b.out.bel (Bel.store (((w1).setCell ⟨w.heap.size, 0, none⟩ (.slice A1 s1.xs.length c1)).setCell ⟨w.heap.size, 1, none⟩ (.int .i64 (s1.er : Int))) (w.heap.size + 3) 0 (encN a1)) (by omega))
  have C1c := Lib.hid (show Hold ((((w1).setCell ⟨w.heap.size, 0, none⟩ (.slice A1 s1.xs.length c1)).setCell ⟨w.heap.size, 1, none⟩ (.int .i64 (s1.er : Int))).setCell ⟨(w.heap.size + 3), 0, none⟩ (encN a1)) (w.heap.size + 3) 33 [encN a1, .int .i64 0, .int .i64 0, .int .i64 0, .int .i64 0, .int .i64 0, .slice none 0 0, .slice none 0 0, .bool false] from C1b.out.put 0 (encN a1))
  have B1c := Lib.hid (B1b.out.setCell (p := ⟨(w.heap.size + 3), 0, none⟩) (by show w.heap.size ≤ (w.heap.size + 3); omega) (encN a1))
  clear P1b Z1b Y1b C1b B1b
  go_wp2_with (fail)
  refine (number_doc (HW.out.trans (B1c.out.mono HW.out.size)) D1.out).mono ?_
  rintro e w2 ⟨s2, a2, x2, rfl, -, hx, hb, hp⟩
  obtain ⟨A2, c2, rfl, hq⟩ := hx
  have D2 := Lib.hid (show Prt w0 _ s2 from ⟨A2, c2, rfl, hq⟩)
  clear hq
  have P2 := Lib.hid (P1c.out.on hb)
  have Z2 := Lib.hid (Z1c.out.on hb)
  have Y2 := Lib.hid (Y1c.out.on hb)
  have C2 := Lib.hid (C1c.out.on hb)
  have B2 := Lib.hid (below_on B1c.out hb)
  have Ha2 := Lib.hid hp
  clear hb hp
  clear P1c Z1c Y1c C1c B1c
  clear za0 zb0 za1 zb1 za2 zb2
  have za0 := P2.out.cell 0 rfl
  have zb0 := P2.out.soft 0
  have za1 := P2.out.cell 1 rfl
  have zb1 := P2.out.soft 1
  have za2 := C2.out.cell 1 rfl
  have zb2 := C2.out.soft 1
  have P2a := Lib.hid (show Hold ((w2).setCell ⟨w.heap.size, 0, none⟩ (.slice A2 s2.xs.length c2)) w.heap.size 98 [.slice A2 s2.xs.length c2, .int .i64 (s1.er : Int)] from P2.out.put 0 (.slice A2 s2.xs.length c2))
  have Z2a := Lib.hid (Z2.out.bel (Bel.store (w2) w.heap.size 0 (.slice A2 s2.xs.length c2)) (by omega))
  have Y2a := Lib.hid (Y2.out.bel (Bel.store (w2) w.heap.size 0 (.slice A2 s2.xs.length c2)) (by omega))
  have C2a := Lib.hid (C2.out.bel (Bel.store (w2) w.heap.size 0 (.slice A2 s2.xs.length c2)) (by omega))
  have B2a := Lib.hid (B2.out.setCell (p := ⟨w.heap.size, 0, none⟩) (by show w.heap.size ≤ w.heap.size; omega) (.slice A2 s2.xs.length c2))
  clear P2 Z2 Y2 C2 B2
  have P2b := Lib.hid (show Hold (((w2).setCell ⟨w.heap.size, 0, none⟩ (.slice A2 s2.xs.length c2)).setCell ⟨w.heap.size, 1, none⟩ (.int .i64 (s2.er : Int))) w.heap.size 98 [.slice A2 s2.xs.length c2, .int .i64 (s2.er : Int)] from P2a.out.put 1 (.int .i64 (s2.er : Int)))
  have Z2b := Lib.hid (Z2a.out.bel (Bel.store ((w2).setCell ⟨w.heap.size, 0, none⟩ (.slice A2 s2.xs.length c2)) w.heap.size 1 (.int .i64 (s2.er : Int))) (by omega))
  have Y2b := Lib.hid (Y2a.out.bel (Bel.store ((w2).setCell ⟨w.heap.size, 0, none⟩ (.slice A2 s2.xs.length c2)) w.heap.size 1 (.int .i64 (s2.er : Int))) (by omega))
  have C2b := Lib.hid (C2a.out.bel (Bel.store ((w2).setCell ⟨w.heap.size, 0, none⟩ (.slice A2 s2.xs.length c2)) w.heap.size 1 (.int .i64 (s2.er : Int))) (by omega))
  have B2b := Lib.hid (B2a.out.setCell (p := ⟨w.heap.size, 1, none⟩) (by show w.heap.size ≤ w.heap.size; omega) (.int .i64 (s2.er : Int)))
  clear P2a Z2a Y2a C2a B2a
  have P2c := Lib.hid (P2b.out.bel (Bel.store (((w2).setCell ⟨w.heap.size, 0, none⟩ (.slice A2 s2.xs.length c2)).setCell ⟨w.heap.size, 1, none⟩ (.int .i64 (s2.er : Int))) (w.heap.size + 3) 1 (encN a2)) (by omega))
  have Z2c := Lib.hid (Z2b.out.bel (Bel.store (((w2).setCell ⟨w.heap.size, 0, none⟩ (.slice A2 s2.xs.length c2)).setCell ⟨w.heap.size, 1, none⟩ (.int .i64 (s2.er : Int))) (w.heap.size + 3) 1 (encN a2)) (by omega))
  have Y2c := Lib.hid (Y2b.out.bel (Bel.store (((w2).setCell ⟨w.heap.size, 0, none⟩ (.slice A2 s2.xs.length c2)).setCell ⟨w.heap.size, 1, none⟩ (.int .i64 (s2.er : Int))) (w.heap.size + 3) 1 (encN a2)) (by omega))
  have C2c := Lib.hid (show Hold ((((w2).setCell ⟨w.heap.size, 0, none⟩ (.slice A2 s2.xs.length c2)).setCell ⟨w.heap.size, 1, none⟩ (.int .i64 (s2.er : Int))).setCell ⟨(w.heap.size + 3), 1, none⟩ (encN a2)) (w.heap.size + 3) 33 [encN a1, encN a2, .int .i64 0, .int .i64 0, .int .i64 0, .int .i64 0, .slice none 0 0, .slice none 0 0, .bool false] from C2b.out.put 1 (encN a2))
  have B2c := Lib.hid (B2b.out.setCell (p := ⟨(w.heap.size + 3), 1, none⟩) (by show w.heap.size ≤ (w.heap.size + 3); omega) (encN a2))
  clear P2b Z2b Y2b C2b B2b
  go_wp2_with (fail)
  refine (number_doc (HW.out.trans (B2c.out.mono HW.out.size)) D2.out).mono ?_
  rintro e w3 ⟨s3, a3, x3, rfl, -, hx, hb, hp⟩
  obtain ⟨A3, c3, rfl, hq⟩ := hx
  have D3 := Lib.hid (show Prt w0 _ s3 from ⟨A3, c3, rfl, hq⟩)
  clear hq
  have P3 := Lib.hid (P2c.out.on hb)
  have Z3 := Lib.hid (Z2c.out.on hb)
  have Y3 := Lib.hid (Y2c.out.on hb)
  have C3 := Lib.hid (C2c.out.on hb)
  have B3 := Lib.hid (below_on B2c.out hb)
  have Ha3 := Lib.hid hp
  clear hb hp
  clear P2c Z2c Y2c C2c B2c
  clear za0 zb0 za1 zb1 za2 zb2
  have za0 := P3.out.cell 0 rfl
  have zb0 := P3.out.soft 0
  have za1 := P3.out.cell 1 rfl
  have zb1 := P3.out.soft 1
  have za2 := C3.out.cell 2 rfl
  have zb2 := C3.out.soft 2
  have P3a := Lib.hid (show Hold ((w3).setCell ⟨w.heap.size, 0, none⟩ (.slice A3 s3.xs.length c3)) w.heap.size 98 [.slice A3 s3.xs.length c3, .int .i64 (s2.er : Int)] from P3.out.put 0 (.slice A3 s3.xs.length c3))
  have Z3a := Lib.hid (Z3.out.bel (Bel.store (w3) w.heap.size 0 (.slice A3 s3.xs.length c3)) (by omega))
  have Y3a := Lib.hid (Y3.out.bel (Bel.store (w3) w.heap.size 0 (.slice A3 s3.xs.length c3)) (by omega))
  have C3a := Lib.hid (C3.out.bel (Bel.store (w3) w.heap.size 0 (.slice A3 s3.xs.length c3)) (by omega))
  have B3a := Lib.hid (B3.out.setCell (p := ⟨w.heap.size, 0, none⟩) (by show w.heap.size ≤ w.heap.size; omega) (.slice A3 s3.xs.length c3))
  clear P3 Z3 Y3 C3 B3
  have P3b := Lib.hid (show Hold (((w3).setCell ⟨w.heap.size, 0, none⟩ (.slice A3 s3.xs.length c3)).setCell ⟨w.heap.size, 1, none⟩ (.int .i64 (s3.er : Int))) w.heap.size 98 [.slice A3 s3.xs.length c3, .int .i64 (s3.er : Int)] from P3a.out.put 1 (.int .i64 (s3.er : Int)))
  have Z3b := Lib.hid (Z3a.out.bel (Bel.store ((w3).setCell ⟨w.heap.size, 0, none⟩ (.slice A3 s3.xs.length c3)) w.heap.size 1 (.int .i64 (s3.er : Int))) (by omega))
  have Y3b := Lib.hid (Y3a.out.bel (Bel.store ((w3).setCell ⟨w.heap.size, 0, none⟩ (.slice A3 s3.xs.length c3)) w.heap.size 1 (.int .i64 (s3.er : Int))) (by omega))
  have C3b := Lib.hid (C3a.out.bel (Bel.store ((w3).setCell ⟨w.heap.size, 0, none⟩ (.slice A3 s3.xs.length c3)) w.heap.size 1 (.int .i64 (s3.er : Int))) (by omega))
  have B3b := Lib.hid (B3a.out.setCell (p := ⟨w.heap.size, 1, none⟩) (by show w.heap.size ≤ w.heap.size; omega) (.int .i64 (s3.er : Int)))
  clear P3a Z3a Y3a C3a B3a
  have P3c := Lib.hid (P3b.out.bel (Bel.store (((w3).setCell ⟨w.heap.size, 0, none⟩ (.slice A3 s3.xs.length c3)).setCell ⟨w.heap.size, 1, none⟩ (.int .i64 (s3.er : Int))) (w.heap.size + 3) 2 (encN a3)) (by omega))
  have Z3c := Lib.hid (Z3b.out.bel (Bel.store (((w3).setCell ⟨w.heap.size, 0, none⟩ (.slice A3 s3.xs.length c3)).setCell ⟨w.heap.size, 1, none⟩ (.int .i64 (s3.er : Int))) (w.heap.size + 3) 2 (encN a3)) (by omega))
  have Y3c := Lib.hid (Y3b.out.bel (Bel.store (((w3).setCell ⟨w.heap.size, 0, none⟩ (.slice A3 s3.xs.length c3)).setCell ⟨w.heap.size, 1, none⟩ (.int .i64 (s3.er : Int))) (w.heap.size + 3) 2 (encN a3)) (by omega))
  have C3c := Lib.hid (show Hold ((((w3).setCell ⟨w.heap.size, 0, none⟩ (.slice A3 s3.xs.length c3)).setCell ⟨w.heap.size, 1, none⟩ (.int .i64 (s3.er : Int))).setCell ⟨(w.heap.size + 3), 2, none⟩ (encN a3)) (w.heap.size + 3) 33 [encN a1, encN a2, encN a3, .int .i64 0, .int .i64 0, .int .i64 0, .slice none 0 0, .slice none 0 0, .bool false] from C3b.out.put 2 (encN a3))
  have B3c := Lib.hid (B3b.out.setCell (p := ⟨(w.heap.size + 3), 2, none⟩) (by show w.heap.size ≤ (w.heap.size + 3); omega) (encN a3))
  clear P3b Z3b Y3b C3b B3b
  go_wp2_with (fail)
  refine (number_doc (HW.out.trans (B3c.out.mono HW.out.size)) D3.out).mono ?_
  rintro e w4 ⟨s4, a4, x4, rfl, -, hx, hb, hp⟩
  obtain ⟨A4, c4, rfl, hq⟩ := hx
  have D4 := Lib.hid (show Prt w0 _ s4 from ⟨A4, c4, rfl, hq⟩)
  clear hq
  have P4 := Lib.hid (P3c.out.on hb)
  have Z4 := Lib.hid (Z3c.out.on hb)
  have Y4 := Lib.hid (Y3c.out.on hb)
  have C4 := Lib.hid (C3c.out.on hb)
  have B4 := Lib.hid (below_on B3c.out hb)
  have Ha4 := Lib.hid hp
  clear hb hp
  clear P3c Z3c Y3c C3c B3c
  clear za0 zb0 za1 zb1 za2 zb2
  have za0 := P4.out.cell 0 rfl
  have zb0 := P4.out.soft 0
  have za1 := P4.out.cell 1 rfl
  have zb1 := P4.out.soft 1
  have za2 := C4.out.cell 3 rfl
  have zb2 := C4.out.soft 3
  have P4a := Lib.hid (show Hold ((w4).setCell ⟨w.heap.size, 0, none⟩ (.slice A4 s4.xs.length c4)) w.heap.size 98 [.slice A4 s4.xs.length c4, .int .i64 (s3.er : Int)] from P4.out.put 0 (.slice A4 s4.xs.length c4))
  have Z4a := Lib.hid (Z4.out.bel (Bel.store (w4) w.heap.size 0 (.slice A4 s4.xs.length c4)) (by omega))
  have Y4a := Lib.hid (Y4.out.bel (Bel.store (w4) w.heap.size 0 (.slice A4 s4.xs.length c4)) (by omega))
  have C4a := Lib.hid (C4.out.bel (Bel.store (w4) w.heap.size 0 (.slice A4 s4.xs.length c4)) (by omega))
  have B4a := Lib.hid (B4.out.setCell (p := ⟨w.heap.size, 0, none⟩) (by show w.heap.size ≤ w.heap.size; omega) (.slice A4 s4.xs.length c4))
  clear P4 Z4 Y4 C4 B4
  have P4b := Lib.hid (show Hold (((w4).setCell ⟨w.heap.size, 0, none⟩ (.slice A4 s4.xs.length c4)).setCell ⟨w.heap.size, 1, none⟩ (.int .i64 (s4.er : Int))) w.heap.size 98 [.slice A4 s4.xs.length c4, .int .i64 (s4.er : Int)] from P4a.out.put 1 (.int .i64 (s4.er : Int)))
  have Z4b := Lib.hid (Z4a.out.bel (Bel.store ((w4).setCell ⟨w.heap.size, 0, none⟩ (.slice A4 s4.xs.length c4)) w.heap.size 1 (.int .i64 (s4.er : Int))) (by omega))
  have Y4b := Lib.hid (Y4a.out.bel (Bel.store ((w4).setCell ⟨w.heap.size, 0, none⟩ (.slice A4 s4.xs.length c4)) w.heap.size 1 (.int .i64 (s4.er : Int))) (by omega))
  have C4b := Lib.hid (C4a.out.bel (Bel.store ((w4).setCell ⟨w.heap.size, 0, none⟩ (.slice A4 s4.xs.length c4)) w.heap.size 1 (.int .i64 (s4.er : Int))) (by omega))
  have B4b := Lib.hid (B4a.out.setCell (p := ⟨w.heap.size, 1, none⟩) (by show w.heap.size ≤ w.heap.size; omega) (.int .i64 (s4.er : Int)))
  clear P4a Z4a Y4a C4a B4a
  have P4c := Lib.hid (P4b.out.bel (Bel.store (((w4).setCell ⟨w.heap.size, 0, none⟩ (.slice A4 s4.xs.length c4)).setCell ⟨w.heap.size, 1, none⟩ (.int .i64 (s4.er : Int))) (w.heap.size + 3) 3 (encN a4)) (by omega))
  have Z4c := Lib.hid (Z4b.out.bel (Bel.store (((w4).setCell ⟨w.heap.size, 0, none⟩ (.slice A4 s4.xs.length c4)).setCell ⟨w.heap.size, 1, none⟩ (.int .i64 (s4.er : Int))) (w.heap.size + 3) 3 (encN a4)) (by omega))
  have Y4c := Lib.hid (Y4b.out.bel (Bel.store (((w4).setCell ⟨w.heap.size, 0, none⟩ (.slice A4 s4.xs.length c4)).setCell ⟨w.heap.size, 1, none⟩ (.int .i64 (s4.er : Int))) (w.heap.size + 3) 3 (encN a4)) (by omega))
  have C4c := Lib.hid (show Hold ((((w4).setCell ⟨w.heap.size, 0, none⟩ (.slice A4 s4.xs.length c4)).setCell ⟨w.heap.size, 1, none⟩ (.int .i64 (s4.er : Int))).setCell ⟨(w.heap.size + 3), 3, none⟩ (encN a4)) (w.heap.size + 3) 33 [encN a1, encN a2, encN a3, encN a4, .int .i64 0, .int .i64 0, .slice none 0 0, .slice none 0 0, .bool false] from C4b.out.put 3 (encN a4))
  have B4c := Lib.hid (B4b.out.setCell (p := ⟨(w.heap.size + 3), 3, none⟩) (by show w.heap.size ≤ (w.heap.size + 3); omega) (encN a4))
  clear P4b Z4b Y4b C4b B4b
  go_wp2_with (fail)
  refine (number_doc (HW.out.trans (B4c.out.mono HW.out.size)) D4.out).mono ?_
  rintro e w5 ⟨s5, a5, x5, rfl, -, hx, hb, hp⟩
  obtain ⟨A5, c5, rfl, hq⟩ := hx
  have D5 := Lib.hid (show Prt w0 _ s5 from ⟨A5, c5, rfl, hq⟩)
  clear hq
  have P5 := Lib.hid (P4c.out.on hb)
  have Z5 := Lib.hid (Z4c.out.on hb)
  have Y5 := Lib.hid (Y4c.out.on hb)
  have C5 := Lib.hid (C4c.out.on hb)
  have B5 := Lib.hid (below_on B4c.out hb)
  have Ha5 := Lib.hid hp
  clear hb hp
  clear P4c Z4c Y4c C4c B4c
  clear za0 zb0 za1 zb1 za2 zb2
  have za0 := P5.out.cell 0 rfl
  have zb0 := P5.out.soft 0
  have za1 := P5.out.cell 1 rfl
  have zb1 := P5.out.soft 1
  have za2 := C5.out.cell 4 rfl
  have zb2 := C5.out.soft 4
  have P5a := Lib.hid (show Hold ((w5).setCell ⟨w.heap.size, 0, none⟩ (.slice A5 s5.xs.length c5)) w.heap.size 98 [.slice A5 s5.xs.length c5, .int .i64 (s4.er : Int)] from P5.out.put 0 (.slice A5 s5.xs.length c5))
  have Z5a := Lib.hid (Z5.out.bel (Bel.store (w5) w.heap.size 0 (.slice A5 s5.xs.length c5)) (by omega))
  have Y5a := Lib.hid (Y5.out.bel (Bel.store (w5) w.heap.size 0 (.slice A5 s5.xs.length c5)) (by omega))
  have C5a := Lib.hid (C5.out.bel (Bel.store (w5) w.heap.size 0 (.slice A5 s5.xs.length c5)) (by omega))
  have B5a := Lib.hid (B5.out.setCell (p := ⟨w.heap.size, 0, none⟩) (by show w.heap.size ≤ w.heap.size; omega) (.slice A5 s5.xs.length c5))
  clear P5 Z5 Y5 C5 B5
  have P5b := Lib.hid (show Hold (((w5).setCell ⟨w.heap.size, 0, none⟩ (.slice A5 s5.xs.length c5)).setCell ⟨w.heap.size, 1, none⟩ (.int .i64 (s5.er : Int))) w.heap.size 98 [.slice A5 s5.xs.length c5, .int .i64 (s5.er : Int)] from P5a.out.put 1 (.int .i64 (s5.er : Int)))
  have Z5b := Lib.hid (Z5a.out.bel (Bel.store ((w5).setCell ⟨w.heap.size, 0, none⟩ (.slice A5 s5.xs.length c5)) w.heap.size 1 (.int .i64 (s5.er : Int))) (by omega))
  have Y5b := Lib.hid (Y5a.out.bel (Bel.store ((w5).setCell ⟨w.heap.size, 0, none⟩ (.slice A5 s5.xs.length c5)) w.heap.size 1 (.int .i64 (s5.er : Int))) (by omega))
  have C5b := Lib.hid (C5a.out.bel (Bel.store ((w5).setCell ⟨w.heap.size, 0, none⟩ (.slice A5 s5.xs.length c5)) w.heap.size 1 (.int .i64 (s5.er : Int))) (by omega))
  have B5b := Lib.hid (B5a.out.setCell (p := ⟨w.heap.size, 1, none⟩) (by show w.heap.size ≤ w.heap.size; omega) (.int .i64 (s5.er : Int)))
  clear P5a Z5a Y5a C5a B5a
  have P5c := Lib.hid (P5b.out.bel (Bel.store (((w5).setCell ⟨w.heap.size, 0, none⟩ (.slice A5 s5.xs.length c5)).setCell ⟨w.heap.size, 1, none⟩ (.int .i64 (s5.er : Int))) (w.heap.size + 3) 4 (encN a5)) (by omega))
  have Z5c := Lib.hid (Z5b.out.bel (Bel.store (((w5).setCell ⟨w.heap.size, 0, none⟩ (.slice A5 s5.xs.length c5)).setCell ⟨w.heap.size, 1, none⟩ (.int .i64 (s5.er : Int))) (w.heap.size + 3) 4 (encN a5)) (by omega))
  have Y5c := Lib.hid (Y5b.out.bel (Bel.store (((w5).setCell ⟨w.heap.size, 0, none⟩ (.slice A5 s5.xs.length c5)).setCell ⟨w.heap.size, 1, none⟩ (.int .i64 (s5.er : Int))) (w.heap.size + 3) 4 (encN a5)) (by omega))
  have C5c := Lib.hid (show Hold ((((w5).setCell ⟨w.heap.size, 0, none⟩ (.slice A5 s5.xs.length c5)).setCell ⟨w.heap.size, 1, none⟩ (.int .i64 (s5.er : Int))).setCell ⟨(w.heap.size + 3), 4, none⟩ (encN a5)) (w.heap.size + 3) 33 [encN a1, encN a2, encN a3, encN a4, encN a5, .int .i64 0, .slice none 0 0, .slice none 0 0, .bool false] from C5b.out.put 4 (encN a5))
  have B5c := Lib.hid (B5b.out.setCell (p := ⟨(w.heap.size + 3), 4, none⟩) (by show w.heap.size ≤ (w.heap.size + 3); omega) (encN a5))
  clear P5b Z5b Y5b C5b B5b
  go_wp2_with (fail)
  refine (number_doc (HW.out.trans (B5c.out.mono HW.out.size)) D5.out).mono ?_
  rintro e w6 ⟨s6, a6, x6, rfl, -, hx, hb, hp⟩
  obtain ⟨A6, c6, rfl, hq⟩ := hx
  have D6 := Lib.hid (show Prt w0 _ s6 from ⟨A6, c6, rfl, hq⟩)
  clear hq
  have P6 := Lib.hid (P5c.out.on hb)
  have Z6 := Lib.hid (Z5c.out.on hb)
  have Y6 := Lib.hid (Y5c.out.on hb)
  have C6 := Lib.hid (C5c.out.on hb)
  have B6 := Lib.hid (below_on B5c.out hb)
  have Ha6 := Lib.hid hp
  clear hb hp
  clear P5c Z5c Y5c C5c B5c
  clear za0 zb0 za1 zb1 za2 zb2
  have za0 := P6.out.cell 0 rfl
  have zb0 := P6.out.soft 0
  have za1 := P6.out.cell 1 rfl
  have zb1 := P6.out.soft 1
  have za2 := C6.out.cell 5 rfl
  have zb2 := C6.out.soft 5
  have P6a := Lib.hid (show Hold ((w6).setCell ⟨w.heap.size, 0, none⟩ (.slice A6 s6.xs.length c6)) w.heap.size 98 [.slice A6 s6.xs.length c6, .int .i64 (s5.er : Int)] from P6.out.put 0 (.slice A6 s6.xs.length c6))
  have Z6a := Lib.hid (Z6.out.bel (Bel.store (w6) w.heap.size 0 (.slice A6 s6.xs.length c6)) (by omega))
  have Y6a := Lib.hid (Y6.out.bel (Bel.store (w6) w.heap.size 0 (.slice A6 s6.xs.length c6)) (by omega))
  have C6a := Lib.hid (C6.out.bel (Bel.store (w6) w.heap.size 0 (.slice A6 s6.xs.length c6)) (by omega))
  have B6a := Lib.hid (B6.out.setCell (p := ⟨w.heap.size, 0, none⟩) (by show w.heap.size ≤ w.heap.size; omega) (.slice A6 s6.xs.length c6))
  clear P6 Z6 Y6 C6 B6
  have P6b := Lib.hid (show Hold (((w6).setCell ⟨w.heap.size, 0, none⟩ (.slice A6 s6.xs.length c6)).setCell ⟨w.heap.size, 1, none⟩ (.int .i64 (s6.er : Int))) w.heap.size 98 [.slice A6 s6.xs.length c6, .int .i64 (s6.er : Int)] from P6a.out.put 1 (.int .i64 (s6.er : Int)))
  have Z6b := Lib.hid (Z6a.out.bel (Bel.store ((w6).setCell ⟨w.heap.size, 0, none⟩ (.slice A6 s6.xs.length c6)) w.heap.size 1 (.int .i64 (s6.er : Int))) (by omega))
  have Y6b := Lib.hid (Y6a.out.bel (Bel.store ((w6).setCell ⟨w.heap.size, 0, none⟩ (.slice A6 s6.xs.length c6)) w.heap.size 1 (.int .i64 (s6.er : Int))) (by omega))
  have C6b := Lib.hid (C6a.out.bel (Bel.store ((w6).setCell ⟨w.heap.size, 0, none⟩ (.slice A6 s6.xs.length c6)) w.heap.size 1 (.int .i64 (s6.er : Int))) (by omega))
  have B6b := Lib.hid (B6a.out.setCell (p := ⟨w.heap.size, 1, none⟩) (by show w.heap.size ≤ w.heap.size; omega) (.int .i64 (s6.er : Int)))
  clear P6a Z6a Y6a C6a B6a
  have P6c := Lib.hid (P6b.out.bel (Bel.store (((w6).setCell ⟨w.heap.size, 0, none⟩ (.slice A6 s6.xs.length c6)).setCell ⟨w.heap.size, 1, none⟩ (.int .i64 (s6.er : Int))) (w.heap.size + 3) 5 (encN a6)) (by omega))
  have Z6c := Lib.hid (Z6b.out.bel (Bel.store (((w6).setCell ⟨w.heap.size, 0, none⟩ (.slice A6 s6.xs.length c6)).setCell ⟨w.heap.size, 1, none⟩ (.int .i64 (s6.er : Int))) (w.heap.size + 3) 5 (encN a6)) (by omega))
  have Y6c := Lib.hid (Y6b.out.bel (Bel.store (((w6).setCell ⟨w.heap.size, 0, none⟩ (.slice A6 s6.xs.length c6)).setCell ⟨w.heap.size, 1, none⟩ (.int .i64 (s6.er : Int))) (w.heap.size + 3) 5 (encN a6)) (by omega))
  have C6c := Lib.hid (show Hold ((((w6).setCell ⟨w.heap.size, 0, none⟩ (.slice A6 s6.xs.length c6)).setCell ⟨w.heap.size, 1, none⟩ (.int .i64 (s6.er : Int))).setCell ⟨(w.heap.size + 3), 5, none⟩ (encN a6)) (w.heap.size + 3) 33 [encN a1, encN a2, encN a3, encN a4, encN a5, encN a6, .slice none 0 0, .slice none 0 0, .bool false] from C6b.out.put 5 (encN a6))
  have B6c := Lib.hid (B6b.out.setCell (p := ⟨(w.heap.size + 3), 5, none⟩) (by show w.heap.size ≤ (w.heap.size + 3); omega) (encN a6))
  clear P6b Z6b Y6b C6b B6b
  go_wp2_with (fail)
  refine (few_doc (HW.out.trans (B6c.out.mono HW.out.size)) D6.out).mono ?_
  rintro e w7 ⟨s7, n, x7, rfl, ⟨hn, -⟩, hx, hb, hp⟩
  obtain ⟨A7, c7, rfl, hq⟩ := hx
  have D7 := Lib.hid (show Prt w0 _ s7 from ⟨A7, c7, rfl, hq⟩)
  clear hq
  have P7 := Lib.hid (P6c.out.on hb)
  have Z7 := Lib.hid (Z6c.out.on hb)
  have Y7 := Lib.hid (Y6c.out.on hb)
  have C7 := Lib.hid (C6c.out.on hb)
  have B7 := Lib.hid (below_on B6c.out hb)
  have H7 := Lib.hid hp
  have N1 := Lib.hid hn
  clear hb hp hn
  clear P6c Z6c Y6c C6c B6c
  clear za0 zb0 za1 zb1 za2 zb2
  have za0 := P7.out.cell 0 rfl
  have zb0 := P7.out.soft 0
  have za1 := P7.out.cell 1 rfl
  have zb1 := P7.out.soft 1
  have P7a := Lib.hid (show Hold ((w7).setCell ⟨w.heap.size, 0, none⟩ (.slice A7 s7.xs.length c7)) w.heap.size 98 [.slice A7 s7.xs.length c7, .int .i64 (s6.er : Int)] from P7.out.put 0 (.slice A7 s7.xs.length c7))
  have Z7a := Lib.hid (Z7.out.bel (Bel.store (w7) w.heap.size 0 (.slice A7 s7.xs.length c7)) (by omega))
  have Y7a := Lib.hid (Y7.out.bel (Bel.store (w7) w.heap.size 0 (.slice A7 s7.xs.length c7)) (by omega))
  have C7a := Lib.hid (C7.out.bel (Bel.store (w7) w.heap.size 0 (.slice A7 s7.xs.length c7)) (by omega))
  have B7a := Lib.hid (B7.out.setCell (p := ⟨w.heap.size, 0, none⟩) (by show w.heap.size ≤ w.heap.size; omega) (.slice A7 s7.xs.length c7))
  clear P7 Z7 Y7 C7 B7
  have P7b := Lib.hid (show Hold (((w7).setCell ⟨w.heap.size, 0, none⟩ (.slice A7 s7.xs.length c7)).setCell ⟨w.heap.size, 1, none⟩ (.int .i64 (s7.er : Int))) w.heap.size 98 [.slice A7 s7.xs.length c7, .int .i64 (s7.er : Int)] from P7a.out.put 1 (.int .i64 (s7.er : Int)))
  have Z7b := Lib.hid (Z7a.out.bel (Bel.store ((w7).setCell ⟨w.heap.size, 0, none⟩ (.slice A7 s7.xs.length c7)) w.heap.size 1 (.int .i64 (s7.er : Int))) (by omega))
  have Y7b := Lib.hid (Y7a.out.bel (Bel.store ((w7).setCell ⟨w.heap.size, 0, none⟩ (.slice A7 s7.xs.length c7)) w.heap.size 1 (.int .i64 (s7.er : Int))) (by omega))
  have C7b := Lib.hid (C7a.out.bel (Bel.store ((w7).setCell ⟨w.heap.size, 0, none⟩ (.slice A7 s7.xs.length c7)) w.heap.size 1 (.int .i64 (s7.er : Int))) (by omega))
  have B7b := Lib.hid (B7a.out.setCell (p := ⟨w.heap.size, 1, none⟩) (by show w.heap.size ≤ w.heap.size; omega) (.int .i64 (s7.er : Int)))
  clear P7a Z7a Y7a C7a B7a
  obtain ⟨wl, el⟩ : ∃ wl, wl = ((w7).setCell ⟨w.heap.size, 0, none⟩ (.slice A7 s7.xs.length c7)).setCell ⟨w.heap.size, 1, none⟩ (.int .i64 (s7.er : Int)) := ⟨_, rfl⟩
  have PL := Lib.hid (el ▸ P7b.out)
  have ZL := Lib.hid (el ▸ Z7b.out)
  have YL := Lib.hid (el ▸ Y7b.out)
  have CL := Lib.hid (el ▸ C7b.out)
  have BL := Lib.hid (el ▸ B7b.out)
  clear P7b Z7b Y7b C7b B7b
  go_upto_block 0 with (fail)
  rw [← el]
  clear el za0 zb0 za1 zb1
  go_cut [] from 56 to 92 (fun wc => ∃ (rs : List (List UInt8 × Int × Int)) (va : Value) (s9 : P.Sr) (A9 : Option Addr) (c9 : Nat), Hold wc w.heap.size 98 [.slice A9 s9.xs.length c9, .int .i64 (s9.er : Int)] ∧ Hold wc (w.heap.size + 1) 98 [.slice none 0 0, .int .i64 0] ∧ Hold wc (w.heap.size + 2) 33 [.int .i64 0, .int .i64 0, .int .i64 0, .int .i64 0, .int .i64 0, .int .i64 0, .slice none 0 0, .slice none 0 0, .bool false] ∧ Hold wc (w.heap.size + 3) 33 [encN a1, encN a2, encN a3, encN a4, encN a5, encN a6, va, .slice none 0 0, .bool false] ∧ wc.ownsRow (w.heap.size + 4) 74 3 va rs.length (rdsC rs) ∧ Below w.heap.size w wc ∧ Prt w0 (.agg #[.slice A9 s9.xs.length c9, .int .i64 (s9.er : Int)]) s9 ∧ P.Ran (P.rep P.rd n) s7 s9 rs ∧ rs.length ≤ 8 ∧ (∀ r ∈ rs, r.1.length ≤ 8))
  case first =>
    go_wp2
    go_loopw [6] (fun i wr => ∃ (k : Nat) (rs : List (List UInt8 × Int × Int)) (va : Value) (s9 : P.Sr) (A9 : Option Addr) (c9 : Nat), k ≤ n ∧ i = .int .i64 k ∧ rs.length = k ∧ Hold wr w.heap.size 98 [.slice A9 s9.xs.length c9, .int .i64 (s9.er : Int)] ∧ Hold wr (w.heap.size + 1) 98 [.slice none 0 0, .int .i64 0] ∧ Hold wr (w.heap.size + 2) 33 [.int .i64 0, .int .i64 0, .int .i64 0, .int .i64 0, .int .i64 0, .int .i64 0, .slice none 0 0, .slice none 0 0, .bool false] ∧ Hold wr (w.heap.size + 3) 33 [encN a1, encN a2, encN a3, encN a4, encN a5, encN a6, va, .slice none 0 0, .bool false] ∧ wr.ownsRow (w.heap.size + 4) 74 3 va rs.length (rdsC rs) ∧ Below w.heap.size w wr ∧ Prt w0 (.agg #[.slice A9 s9.xs.length c9, .int .i64 (s9.er : Int)]) s9 ∧ P.Ran (P.rep P.rd k) s7 s9 rs ∧ (∀ r ∈ rs, r.1.length ≤ 8)) (fun i _ => n - (intOf i).toNat)
    case atStart => exact ⟨0, [], .slice none 0 0, s7, A7, c7, Nat.zero_le _, rfl, rfl, PL.out, ZL.out, YL.out, CL.out, World.ownsRow_nil _ _ _ _, BL.out, D7.out, P.Ran.ret _ _, fun r h => by cases h⟩
    case round =>
      obtain ⟨k, rs, va, s9, A9, c9, hk, rfl, hlen, hp, hz, hy, hc, hr1, hb, hd, hq, htn⟩ := hrel
      have P9 := Lib.hid hp
      have Z9 := Lib.hid hz
      have Y9 := Lib.hid hy
      have C9 := Lib.hid hc
      have B9 := Lib.hid hb
      have D9 := Lib.hid hd
      have HQ := Lib.hid hq
      have HL := Lib.hid hlen
      have HTN := Lib.hid htn
      have I9 := Lib.hid hr1
      have hwr : w.heap.size + 4 ≤ wr.heap.size := by have := C9.out.lt; omega
      have KI := Lib.hid (fun q (e : va.ownBlock = some q) => World.ownsRow.lt I9.out q e)
      clear hp hz hy hc hb hd hq hlen htn hr1 PL ZL YL CL BL
      have p1 := P9.out.cell 1 rfl
      have p0 := P9.out.cell 0 rfl
      by_cases hgo : k < n ∧ s9.er = 0
      · obtain ⟨hlt, he⟩ := hgo
        have q1 : ((s9.er : Int) == 0) = true := by rw [beq_iff_eq]; omega
        have hk9 : k < 9 := by have := N1.out; omega
        have hki : (k : Int) < (n : Int) := by omega
        have PX := Lib.hid (P9.out.alloc (.cells #[.string ⟨#[]⟩, .int .i64 0, .int .i64 0] 74))
        have ZX := Lib.hid (Z9.out.alloc (.cells #[.string ⟨#[]⟩, .int .i64 0, .int .i64 0] 74))
        have YX := Lib.hid (Y9.out.alloc (.cells #[.string ⟨#[]⟩, .int .i64 0, .int .i64 0] 74))
        have CX := Lib.hid (C9.out.alloc (.cells #[.string ⟨#[]⟩, .int .i64 0, .int .i64 0] 74))
        have IX := Lib.hid (World.ownsRow.alloc I9.out (.cells #[.string ⟨#[]⟩, .int .i64 0, .int .i64 0] 74))
        have XX := Lib.hid (Hold.new wr [.string ⟨#[]⟩, .int .i64 0, .int .i64 0] 74)
        have BX := Lib.hid (below_new (o := .cells #[.string ⟨#[]⟩, .int .i64 0, .int .i64 0] 74) B9.out)
        have P9q := Lib.hid P9.out
        clear P9 Z9 Y9 C9 I9 B9
        clear he p0 p1
        have p1 := P9q.out.cell 1 rfl
        have p0 := PX.out.cell 0 rfl
        have p2 := PX.out.cell 1 rfl
        go_wp2_with (with_reducible refine wpList_store_fresh rfl 74 _ _ rfl _ rfl 74 _ [.string ⟨#[]⟩, .int .i64 0, .int .i64 0] rfl rfl rfl (by kernel_rfl) rfl ?_)
        refine (text_doc (HW.out.trans (BX.out.mono HW.out.size)) D9.out).mono ?_
        rintro e w21 ⟨s21, kt, x21, rfl, hkt, hx, hb, hp⟩
        obtain ⟨A21, c21, rfl, hq⟩ := hx
        have D21 := Lib.hid (show Prt w0 _ s21 from ⟨A21, c21, rfl, hq⟩)
        clear hq
        have P21 := Lib.hid (PX.out.on hb)
        have Z21 := Lib.hid (ZX.out.on hb)
        have Y21 := Lib.hid (YX.out.on hb)
        have C21 := Lib.hid (CX.out.on hb)
        have X21 := Lib.hid (XX.out.on hb)
        have I21 := Lib.hid (ownsRow_bel (g := 0) IX.out (Bel.of hb) (by omega))
        have B21 := Lib.hid (below_on BX.out hb)
        have G1 := Lib.hid hp
        have GK := Lib.hid hkt
        clear hb hp hkt
        clear PX ZX YX CX XX IX BX
        clear p0 p1 p2 q1 P9q
        have za0 := P21.out.cell 0 rfl
        have zb0 := P21.out.soft 0
        have za1 := P21.out.cell 1 rfl
        have zb1 := P21.out.soft 1
        have za2 := X21.out.cell 0 rfl
        have zb2 := X21.out.soft 0
        have P21a := Lib.hid (show Hold ((w21).setCell ⟨w.heap.size, 0, none⟩ (.slice A21 s21.xs.length c21)) w.heap.size 98 [.slice A21 s21.xs.length c21, .int .i64 (s9.er : Int)] from P21.out.put 0 (.slice A21 s21.xs.length c21))
        have Z21a := Lib.hid (Z21.out.bel (Bel.store (w21) w.heap.size 0 (.slice A21 s21.xs.length c21)) (by omega))
        have Y21a := Lib.hid (Y21.out.bel (Bel.store (w21) w.heap.size 0 (.slice A21 s21.xs.length c21)) (by omega))
        have C21a := Lib.hid (C21.out.bel (Bel.store (w21) w.heap.size 0 (.slice A21 s21.xs.length c21)) (by omega))
        have X21a := Lib.hid (X21.out.bel (Bel.store (w21) w.heap.size 0 (.slice A21 s21.xs.length c21)) (by omega))
        have I21a := Lib.hid (ownsRow_put I21.out w.heap.size 0 (.slice A21 s21.xs.length c21) (fun q e => by have := KI.out q e; omega))
        have B21a := Lib.hid (B21.out.setCell (p := ⟨w.heap.size, 0, none⟩) (by show w.heap.size ≤ w.heap.size; omega) (.slice A21 s21.xs.length c21))
        clear P21 Z21 Y21 C21 X21 I21 B21
        have P21b := Lib.hid (show Hold (((w21).setCell ⟨w.heap.size, 0, none⟩ (.slice A21 s21.xs.length c21)).setCell ⟨w.heap.size, 1, none⟩ (.int .i64 (s21.er : Int))) w.heap.size 98 [.slice A21 s21.xs.length c21, .int .i64 (s21.er : Int)] from P21a.out.put 1 (.int .i64 (s21.er : Int)))
        have Z21b := Lib.hid (Z21a.out.bel (Bel.store ((w21).setCell ⟨w.heap.size, 0, none⟩ (.slice A21 s21.xs.length c21)) w.heap.size 1 (.int .i64 (s21.er : Int))) (by omega))
        have Y21b := Lib.hid (Y21a.out.bel (Bel.store ((w21).setCell ⟨w.heap.size, 0, none⟩ (.slice A21 s21.xs.length c21)) w.heap.size 1 (.int .i64 (s21.er : Int))) (by omega))
        have C21b := Lib.hid (C21a.out.bel (Bel.store ((w21).setCell ⟨w.heap.size, 0, none⟩ (.slice A21 s21.xs.length c21)) w.heap.size 1 (.int .i64 (s21.er : Int))) (by omega))
        have X21b := Lib.hid (X21a.out.bel (Bel.store ((w21).setCell ⟨w.heap.size, 0, none⟩ (.slice A21 s21.xs.length c21)) w.heap.size 1 (.int .i64 (s21.er : Int))) (by omega))
        have I21b := Lib.hid (ownsRow_put I21a.out w.heap.size 1 (.int .i64 (s21.er : Int)) (fun q e => by have := KI.out q e; omega))
        have B21b := Lib.hid (B21a.out.setCell (p := ⟨w.heap.size, 1, none⟩) (by show w.heap.size ≤ w.heap.size; omega) (.int .i64 (s21.er : Int)))
        clear P21a Z21a Y21a C21a X21a I21a B21a
        have P21c := Lib.hid (P21b.out.bel (Bel.store (((w21).setCell ⟨w.heap.size, 0, none⟩ (.slice A21 s21.xs.length c21)).setCell ⟨w.heap.size, 1, none⟩ (.int .i64 (s21.er : Int))) wr.heap.size 0 (encT kt)) (by omega))
        have Z21c := Lib.hid (Z21b.out.bel (Bel.store (((w21).setCell ⟨w.heap.size, 0, none⟩ (.slice A21 s21.xs.length c21)).setCell ⟨w.heap.size, 1, none⟩ (.int .i64 (s21.er : Int))) wr.heap.size 0 (encT kt)) (by omega))
        have Y21c := Lib.hid (Y21b.out.bel (Bel.store (((w21).setCell ⟨w.heap.size, 0, none⟩ (.slice A21 s21.xs.length c21)).setCell ⟨w.heap.size, 1, none⟩ (.int .i64 (s21.er : Int))) wr.heap.size 0 (encT kt)) (by omega))
        have C21c := Lib.hid (C21b.out.bel (Bel.store (((w21).setCell ⟨w.heap.size, 0, none⟩ (.slice A21 s21.xs.length c21)).setCell ⟨w.heap.size, 1, none⟩ (.int .i64 (s21.er : Int))) wr.heap.size 0 (encT kt)) (by omega))
        have X21c := Lib.hid (show Hold ((((w21).setCell ⟨w.heap.size, 0, none⟩ (.slice A21 s21.xs.length c21)).setCell ⟨w.heap.size, 1, none⟩ (.int .i64 (s21.er : Int))).setCell ⟨wr.heap.size, 0, none⟩ (encT kt)) wr.heap.size 74 [encT kt, .int .i64 0, .int .i64 0] from X21b.out.put 0 (encT kt))
        have I21c := Lib.hid (ownsRow_put I21b.out wr.heap.size 0 (encT kt) (fun q e => by have := KI.out q e; omega))
        have B21c := Lib.hid (B21b.out.setCell (p := ⟨wr.heap.size, 0, none⟩) (by show w.heap.size ≤ wr.heap.size; omega) (encT kt))
        clear P21b Z21b Y21b C21b X21b I21b B21b
        go_wp2_with (fail)
        refine (number_doc (HW.out.trans (B21c.out.mono HW.out.size)) D21.out).mono ?_
        rintro e w22 ⟨s22, gt, x22, rfl, -, hx, hb, hp⟩
        obtain ⟨A22, c22, rfl, hq⟩ := hx
        have D22 := Lib.hid (show Prt w0 _ s22 from ⟨A22, c22, rfl, hq⟩)
        clear hq
        have P22 := Lib.hid (P21c.out.on hb)
        have Z22 := Lib.hid (Z21c.out.on hb)
        have Y22 := Lib.hid (Y21c.out.on hb)
        have C22 := Lib.hid (C21c.out.on hb)
        have X22 := Lib.hid (X21c.out.on hb)
        have I22 := Lib.hid (ownsRow_bel (g := 0) I21c.out (Bel.of hb) (by omega))
        have B22 := Lib.hid (below_on B21c.out hb)
        have Hgt := Lib.hid hp
        clear hb hp
        clear P21c Z21c Y21c C21c X21c I21c B21c
        clear za0 zb0 za1 zb1 za2 zb2
        have za0 := P22.out.cell 0 rfl
        have zb0 := P22.out.soft 0
        have za1 := P22.out.cell 1 rfl
        have zb1 := P22.out.soft 1
        have za2 := X22.out.cell 1 rfl
        have zb2 := X22.out.soft 1
        have P22a := Lib.hid (show Hold ((w22).setCell ⟨w.heap.size, 0, none⟩ (.slice A22 s22.xs.length c22)) w.heap.size 98 [.slice A22 s22.xs.length c22, .int .i64 (s21.er : Int)] from P22.out.put 0 (.slice A22 s22.xs.length c22))
        have Z22a := Lib.hid (Z22.out.bel (Bel.store (w22) w.heap.size 0 (.slice A22 s22.xs.length c22)) (by omega))
        have Y22a := Lib.hid (Y22.out.bel (Bel.store (w22) w.heap.size 0 (.slice A22 s22.xs.length c22)) (by omega))
        have C22a := Lib.hid (C22.out.bel (Bel.store (w22) w.heap.size 0 (.slice A22 s22.xs.length c22)) (by omega))
        have X22a := Lib.hid (X22.out.bel (Bel.store (w22) w.heap.size 0 (.slice A22 s22.xs.length c22)) (by omega))
        have I22a := Lib.hid (ownsRow_put I22.out w.heap.size 0 (.slice A22 s22.xs.length c22) (fun q e => by have := KI.out q e; omega))
        have B22a := Lib.hid (B22.out.setCell (p := ⟨w.heap.size, 0, none⟩) (by show w.heap.size ≤ w.heap.size; omega) (.slice A22 s22.xs.length c22))
        clear P22 Z22 Y22 C22 X22 I22 B22
        have P22b := Lib.hid (show Hold (((w22).setCell ⟨w.heap.size, 0, none⟩ (.slice A22 s22.xs.length c22)).setCell ⟨w.heap.size, 1, none⟩ (.int .i64 (s22.er : Int))) w.heap.size 98 [.slice A22 s22.xs.length c22, .int .i64 (s22.er : Int)] from P22a.out.put 1 (.int .i64 (s22.er : Int)))
        have Z22b := Lib.hid (Z22a.out.bel (Bel.store ((w22).setCell ⟨w.heap.size, 0, none⟩ (.slice A22 s22.xs.length c22)) w.heap.size 1 (.int .i64 (s22.er : Int))) (by omega))
        have Y22b := Lib.hid (Y22a.out.bel (Bel.store ((w22).setCell ⟨w.heap.size, 0, none⟩ (.slice A22 s22.xs.length c22)) w.heap.size 1 (.int .i64 (s22.er : Int))) (by omega))
        have C22b := Lib.hid (C22a.out.bel (Bel.store ((w22).setCell ⟨w.heap.size, 0, none⟩ (.slice A22 s22.xs.length c22)) w.heap.size 1 (.int .i64 (s22.er : Int))) (by omega))
        have X22b := Lib.hid (X22a.out.bel (Bel.store ((w22).setCell ⟨w.heap.size, 0, none⟩ (.slice A22 s22.xs.length c22)) w.heap.size 1 (.int .i64 (s22.er : Int))) (by omega))
        have I22b := Lib.hid (ownsRow_put I22a.out w.heap.size 1 (.int .i64 (s22.er : Int)) (fun q e => by have := KI.out q e; omega))
        have B22b := Lib.hid (B22a.out.setCell (p := ⟨w.heap.size, 1, none⟩) (by show w.heap.size ≤ w.heap.size; omega) (.int .i64 (s22.er : Int)))
        clear P22a Z22a Y22a C22a X22a I22a B22a
        have P22c := Lib.hid (P22b.out.bel (Bel.store (((w22).setCell ⟨w.heap.size, 0, none⟩ (.slice A22 s22.xs.length c22)).setCell ⟨w.heap.size, 1, none⟩ (.int .i64 (s22.er : Int))) wr.heap.size 1 (encN gt)) (by omega))
        have Z22c := Lib.hid (Z22b.out.bel (Bel.store (((w22).setCell ⟨w.heap.size, 0, none⟩ (.slice A22 s22.xs.length c22)).setCell ⟨w.heap.size, 1, none⟩ (.int .i64 (s22.er : Int))) wr.heap.size 1 (encN gt)) (by omega))
        have Y22c := Lib.hid (Y22b.out.bel (Bel.store (((w22).setCell ⟨w.heap.size, 0, none⟩ (.slice A22 s22.xs.length c22)).setCell ⟨w.heap.size, 1, none⟩ (.int .i64 (s22.er : Int))) wr.heap.size 1 (encN gt)) (by omega))
        have C22c := Lib.hid (C22b.out.bel (Bel.store (((w22).setCell ⟨w.heap.size, 0, none⟩ (.slice A22 s22.xs.length c22)).setCell ⟨w.heap.size, 1, none⟩ (.int .i64 (s22.er : Int))) wr.heap.size 1 (encN gt)) (by omega))
        have X22c := Lib.hid (show Hold ((((w22).setCell ⟨w.heap.size, 0, none⟩ (.slice A22 s22.xs.length c22)).setCell ⟨w.heap.size, 1, none⟩ (.int .i64 (s22.er : Int))).setCell ⟨wr.heap.size, 1, none⟩ (encN gt)) wr.heap.size 74 [encT kt, encN gt, .int .i64 0] from X22b.out.put 1 (encN gt))
        have I22c := Lib.hid (ownsRow_put I22b.out wr.heap.size 1 (encN gt) (fun q e => by have := KI.out q e; omega))
        have B22c := Lib.hid (B22b.out.setCell (p := ⟨wr.heap.size, 1, none⟩) (by show w.heap.size ≤ wr.heap.size; omega) (encN gt))
        clear P22b Z22b Y22b C22b X22b I22b B22b
        go_wp2_with (fail)
        refine (number_doc (HW.out.trans (B22c.out.mono HW.out.size)) D22.out).mono ?_
        rintro e w23 ⟨s23, gk, x23, rfl, -, hx, hb, hp⟩
        obtain ⟨A23, c23, rfl, hq⟩ := hx
        have D23 := Lib.hid (show Prt w0 _ s23 from ⟨A23, c23, rfl, hq⟩)
        clear hq
        have P23 := Lib.hid (P22c.out.on hb)
        have Z23 := Lib.hid (Z22c.out.on hb)
        have Y23 := Lib.hid (Y22c.out.on hb)
        have C23 := Lib.hid (C22c.out.on hb)
        have X23 := Lib.hid (X22c.out.on hb)
        have I23 := Lib.hid (ownsRow_bel (g := 0) I22c.out (Bel.of hb) (by omega))
        have B23 := Lib.hid (below_on B22c.out hb)
        have Hgk := Lib.hid hp
        clear hb hp
        clear P22c Z22c Y22c C22c X22c I22c B22c
        clear za0 zb0 za1 zb1 za2 zb2
        have za0 := P23.out.cell 0 rfl
        have zb0 := P23.out.soft 0
        have za1 := P23.out.cell 1 rfl
        have zb1 := P23.out.soft 1
        have za2 := X23.out.cell 2 rfl
        have zb2 := X23.out.soft 2
        have P23a := Lib.hid (show Hold ((w23).setCell ⟨w.heap.size, 0, none⟩ (.slice A23 s23.xs.length c23)) w.heap.size 98 [.slice A23 s23.xs.length c23, .int .i64 (s22.er : Int)] from P23.out.put 0 (.slice A23 s23.xs.length c23))
        have Z23a := Lib.hid (Z23.out.bel (Bel.store (w23) w.heap.size 0 (.slice A23 s23.xs.length c23)) (by omega))
        have Y23a := Lib.hid (Y23.out.bel (Bel.store (w23) w.heap.size 0 (.slice A23 s23.xs.length c23)) (by omega))
        have C23a := Lib.hid (C23.out.bel (Bel.store (w23) w.heap.size 0 (.slice A23 s23.xs.length c23)) (by omega))
        have X23a := Lib.hid (X23.out.bel (Bel.store (w23) w.heap.size 0 (.slice A23 s23.xs.length c23)) (by omega))
        have I23a := Lib.hid (ownsRow_put I23.out w.heap.size 0 (.slice A23 s23.xs.length c23) (fun q e => by have := KI.out q e; omega))
        have B23a := Lib.hid (B23.out.setCell (p := ⟨w.heap.size, 0, none⟩) (by show w.heap.size ≤ w.heap.size; omega) (.slice A23 s23.xs.length c23))
        clear P23 Z23 Y23 C23 X23 I23 B23
        have P23b := Lib.hid (show Hold (((w23).setCell ⟨w.heap.size, 0, none⟩ (.slice A23 s23.xs.length c23)).setCell ⟨w.heap.size, 1, none⟩ (.int .i64 (s23.er : Int))) w.heap.size 98 [.slice A23 s23.xs.length c23, .int .i64 (s23.er : Int)] from P23a.out.put 1 (.int .i64 (s23.er : Int)))
        have Z23b := Lib.hid (Z23a.out.bel (Bel.store ((w23).setCell ⟨w.heap.size, 0, none⟩ (.slice A23 s23.xs.length c23)) w.heap.size 1 (.int .i64 (s23.er : Int))) (by omega))
        have Y23b := Lib.hid (Y23a.out.bel (Bel.store ((w23).setCell ⟨w.heap.size, 0, none⟩ (.slice A23 s23.xs.length c23)) w.heap.size 1 (.int .i64 (s23.er : Int))) (by omega))
        have C23b := Lib.hid (C23a.out.bel (Bel.store ((w23).setCell ⟨w.heap.size, 0, none⟩ (.slice A23 s23.xs.length c23)) w.heap.size 1 (.int .i64 (s23.er : Int))) (by omega))
        have X23b := Lib.hid (X23a.out.bel (Bel.store ((w23).setCell ⟨w.heap.size, 0, none⟩ (.slice A23 s23.xs.length c23)) w.heap.size 1 (.int .i64 (s23.er : Int))) (by omega))
        have I23b := Lib.hid (ownsRow_put I23a.out w.heap.size 1 (.int .i64 (s23.er : Int)) (fun q e => by have := KI.out q e; omega))
        have B23b := Lib.hid (B23a.out.setCell (p := ⟨w.heap.size, 1, none⟩) (by show w.heap.size ≤ w.heap.size; omega) (.int .i64 (s23.er : Int)))
        clear P23a Z23a Y23a C23a X23a I23a B23a
        have P23c := Lib.hid (P23b.out.bel (Bel.store (((w23).setCell ⟨w.heap.size, 0, none⟩ (.slice A23 s23.xs.length c23)).setCell ⟨w.heap.size, 1, none⟩ (.int .i64 (s23.er : Int))) wr.heap.size 2 (encN gk)) (by omega))
        have Z23c := Lib.hid (Z23b.out.bel (Bel.store (((w23).setCell ⟨w.heap.size, 0, none⟩ (.slice A23 s23.xs.length c23)).setCell ⟨w.heap.size, 1, none⟩ (.int .i64 (s23.er : Int))) wr.heap.size 2 (encN gk)) (by omega))
        have Y23c := Lib.hid (Y23b.out.bel (Bel.store (((w23).setCell ⟨w.heap.size, 0, none⟩ (.slice A23 s23.xs.length c23)).setCell ⟨w.heap.size, 1, none⟩ (.int .i64 (s23.er : Int))) wr.heap.size 2 (encN gk)) (by omega))
        have C23c := Lib.hid (C23b.out.bel (Bel.store (((w23).setCell ⟨w.heap.size, 0, none⟩ (.slice A23 s23.xs.length c23)).setCell ⟨w.heap.size, 1, none⟩ (.int .i64 (s23.er : Int))) wr.heap.size 2 (encN gk)) (by omega))
        have X23c := Lib.hid (show Hold ((((w23).setCell ⟨w.heap.size, 0, none⟩ (.slice A23 s23.xs.length c23)).setCell ⟨w.heap.size, 1, none⟩ (.int .i64 (s23.er : Int))).setCell ⟨wr.heap.size, 2, none⟩ (encN gk)) wr.heap.size 74 [encT kt, encN gt, encN gk] from X23b.out.put 2 (encN gk))
        have I23c := Lib.hid (ownsRow_put I23b.out wr.heap.size 2 (encN gk) (fun q e => by have := KI.out q e; omega))
        have B23c := Lib.hid (B23b.out.setCell (p := ⟨wr.heap.size, 2, none⟩) (by show w.heap.size ≤ wr.heap.size; omega) (encN gk))
        clear P23b Z23b Y23b C23b X23b I23b B23b
        have cq6 := C23c.out.cell 6 rfl
        have xx0 := X23c.out.cell 0 rfl
        have xx1 := X23c.out.cell 1 rfl
        have xx2 := X23c.out.cell 2 rfl
        have hsz : ((((w23).setCell ⟨w.heap.size, 0, none⟩ (.slice A23 s23.xs.length c23)).setCell ⟨w.heap.size, 1, none⟩ (.int .i64 (s23.er : Int))).setCell ⟨wr.heap.size, 2, none⟩ (encN gk)).heap.size = w23.heap.size := by simp
        obtain ⟨v', w', hrun, hown, hgrow⟩ := app_rd I23c.out (kt, (gt : Int), (gk : Int)) (by have := HL.out; have := N1.out; omega) (by have := C23c.out.lt; omega)
        rw [hsz] at hrun
        have hge : ∀ q, va.ownBlock = some q → w.heap.size + 4 ≤ q := fun q e => (KI.out q e).1
        have PG := Lib.hid (Hold.grow (P23c.out.alloc (.cells (rdC (kt, (gt : Int), (gk : Int))).toArray 74)) hgrow (fun q e => by have := hge q e; omega))
        have ZG := Lib.hid (Hold.grow (Z23c.out.alloc (.cells (rdC (kt, (gt : Int), (gk : Int))).toArray 74)) hgrow (fun q e => by have := hge q e; omega))
        have YG := Lib.hid (Hold.grow (Y23c.out.alloc (.cells (rdC (kt, (gt : Int), (gk : Int))).toArray 74)) hgrow (fun q e => by have := hge q e; omega))
        have CG := Lib.hid (Hold.grow (C23c.out.alloc (.cells (rdC (kt, (gt : Int), (gk : Int))).toArray 74)) hgrow (fun q e => by have := hge q e; omega))
        have BG := Lib.hid ((below_new (o := .cells (rdC (kt, (gt : Int), (gk : Int))).toArray 74) B23c.out).grown hgrow (by have := B23c.out.size; simp at this ⊢; omega) (fun q e => by have := hge q e; omega))
        obtain ⟨A3, k3, hv3⟩ := ownsRow_slice hown
        rw [List.length_append, List.length_singleton] at hv3
        subst hv3
        have OG := Lib.hid hown
        clear hown hgrow
        have cg := CG.out.cell 6 rfl
        have fg := CG.out.soft 6
        have PE := Lib.hid (PG.out.bel (Bel.store w' (w.heap.size + 3) 6 (.slice A3 (rs.length + 1) k3)) (by omega))
        have ZE := Lib.hid (ZG.out.bel (Bel.store w' (w.heap.size + 3) 6 (.slice A3 (rs.length + 1) k3)) (by omega))
        have YE := Lib.hid (YG.out.bel (Bel.store w' (w.heap.size + 3) 6 (.slice A3 (rs.length + 1) k3)) (by omega))
        have CE := Lib.hid (show Hold (w'.setCell ⟨w.heap.size + 3, 6, none⟩ (.slice A3 (rs.length + 1) k3)) (w.heap.size + 3) 33 [encN a1, encN a2, encN a3, encN a4, encN a5, encN a6, .slice A3 (rs.length + 1) k3, .slice none 0 0, .bool false] from CG.out.put 6 (.slice A3 (rs.length + 1) k3))
        have OE := Lib.hid (ownsRow_bel OG.out (Bel.store w' (w.heap.size + 3) 6 (.slice A3 (rs.length + 1) k3)) (by omega))
        have BE := Lib.hid (BG.out.setCell (p := ⟨w.heap.size + 3, 6, none⟩) (by show w.heap.size ≤ w.heap.size + 3; omega) (.slice A3 (rs.length + 1) k3))
        have DE := Lib.hid D23.out
        clear P23c Z23c Y23c C23c X23c I23c B23c
        go_wp2_with (at_builtin; refine Lib.wpList_append_run _ rfl _ _ _ _ rfl _ _ rfl rfl _ _ hrun ?_)
        go_roundw
        case rel => exact ⟨k + 1, rs ++ [(kt, (gt : Int), (gk : Int))], .slice A3 (rs.length + 1) k3, s23, A23, c23, by omega, by go_num, by rw [List.length_append, HL.out]; rfl, PE.out, ZE.out, YE.out, CE.out, OE.out, BE.out, DE.out, P.Ran.snoc P.errs_rd HQ.out (P.Ran.bind P.errs_text G1.out (P.Ran.bind P.errs_num Hgt.out (P.Ran.bind P.errs_num Hgk.out (P.Ran.ret _ _)))), fun r hr => by
          rcases List.mem_append.1 hr with h | h
          · exact HTN.out r h
          · rw [List.mem_singleton.1 h]; exact GK.out⟩
        case measure => simp [intOf]; omega
      · by_cases hlt : k < n
        · have he : s9.er ≠ 0 := fun he => hgo ⟨hlt, he⟩
          have HE := Lib.hid he
          have hki : (k : Int) < (n : Int) := by omega
          have q1 : ((s9.er : Int) == 0) = false := by rw [beq_eq_false_iff_ne]; omega
          have HKN := Lib.hid (Nat.le_of_lt hlt)
          clear hgo he
          go_wp2
          go_meet
          case rel => exact ⟨rs, va, s9, A9, c9, P9.out, Z9.out, Y9.out, C9.out, I9.out, B9.out, D9.out, P.Ran.rep_early HKN.out HQ.out HE.out rs, by have := HL.out; have := N1.out; omega, HTN.out⟩
        · obtain rfl : k = n := by omega
          clear hgo
          go_wp2
          go_meet
          case rel => exact ⟨rs, va, s9, A9, c9, P9.out, Z9.out, Y9.out, C9.out, I9.out, B9.out, D9.out, HQ.out, by have := HL.out; have := N1.out; omega, HTN.out⟩
  case rest =>
    obtain ⟨rs, va, s8q, A8q, c8q, hp, hz, hy, hc, hr1, hb, hd, hq, hl, htn⟩ := hcut
    have PQ := Lib.hid hp
    have ZQ := Lib.hid hz
    have YQ := Lib.hid hy
    have CQ := Lib.hid hc
    have BQ := Lib.hid hb
    have DQ := Lib.hid hd
    have HRQ := Lib.hid hq
    have HMQ := Lib.hid hl
    have HTQ := Lib.hid htn
    have IQ := Lib.hid hr1
    clear hp hz hy hc hb hd hq hl htn hr1
    clear PL ZL YL CL BL
    have KQ := Lib.hid (fun q (e : va.ownBlock = some q) => World.ownsRow.lt IQ.out q e)
    have p0 := PQ.out.cell 0 rfl
    have p1 := PQ.out.cell 1 rfl
    go_wp2_with (fail)
    refine (few_doc (HW.out.trans (BQ.out.mono HW.out.size)) DQ.out).mono ?_
    rintro e w8 ⟨s8, m, x8, rfl, ⟨hn, -⟩, hx, hb, hp⟩
    obtain ⟨A8, c8, rfl, hq⟩ := hx
    have D8 := Lib.hid (show Prt w0 _ s8 from ⟨A8, c8, rfl, hq⟩)
    clear hq
    have P8 := Lib.hid (PQ.out.on hb)
    have Z8 := Lib.hid (ZQ.out.on hb)
    have Y8 := Lib.hid (YQ.out.on hb)
    have C8 := Lib.hid (CQ.out.on hb)
    have I8 := Lib.hid (ownsRow_bel (g := 0) IQ.out (Bel.of hb) (by omega))
    have B8 := Lib.hid (below_on BQ.out hb)
    have H8 := Lib.hid hp
    have N2 := Lib.hid hn
    clear hb hp hn
    clear PQ ZQ YQ CQ IQ BQ
    clear p0 p1
    have za0 := P8.out.cell 0 rfl
    have zb0 := P8.out.soft 0
    have za1 := P8.out.cell 1 rfl
    have zb1 := P8.out.soft 1
    have P8a := Lib.hid (show Hold ((w8).setCell ⟨w.heap.size, 0, none⟩ (.slice A8 s8.xs.length c8)) w.heap.size 98 [.slice A8 s8.xs.length c8, .int .i64 (s8q.er : Int)] from P8.out.put 0 (.slice A8 s8.xs.length c8))
    have Z8a := Lib.hid (Z8.out.bel (Bel.store (w8) w.heap.size 0 (.slice A8 s8.xs.length c8)) (by omega))
    have Y8a := Lib.hid (Y8.out.bel (Bel.store (w8) w.heap.size 0 (.slice A8 s8.xs.length c8)) (by omega))
    have C8a := Lib.hid (C8.out.bel (Bel.store (w8) w.heap.size 0 (.slice A8 s8.xs.length c8)) (by omega))
    have I8a := Lib.hid (ownsRow_put I8.out w.heap.size 0 (.slice A8 s8.xs.length c8) (fun q e => by have := KQ.out q e; omega))
    have B8a := Lib.hid (B8.out.setCell (p := ⟨w.heap.size, 0, none⟩) (by show w.heap.size ≤ w.heap.size; omega) (.slice A8 s8.xs.length c8))
    clear P8 Z8 Y8 C8 I8 B8
    have P8b := Lib.hid (show Hold (((w8).setCell ⟨w.heap.size, 0, none⟩ (.slice A8 s8.xs.length c8)).setCell ⟨w.heap.size, 1, none⟩ (.int .i64 (s8.er : Int))) w.heap.size 98 [.slice A8 s8.xs.length c8, .int .i64 (s8.er : Int)] from P8a.out.put 1 (.int .i64 (s8.er : Int)))
    have Z8b := Lib.hid (Z8a.out.bel (Bel.store ((w8).setCell ⟨w.heap.size, 0, none⟩ (.slice A8 s8.xs.length c8)) w.heap.size 1 (.int .i64 (s8.er : Int))) (by omega))
    have Y8b := Lib.hid (Y8a.out.bel (Bel.store ((w8).setCell ⟨w.heap.size, 0, none⟩ (.slice A8 s8.xs.length c8)) w.heap.size 1 (.int .i64 (s8.er : Int))) (by omega))
    have C8b := Lib.hid (C8a.out.bel (Bel.store ((w8).setCell ⟨w.heap.size, 0, none⟩ (.slice A8 s8.xs.length c8)) w.heap.size 1 (.int .i64 (s8.er : Int))) (by omega))
    have I8b := Lib.hid (ownsRow_put I8a.out w.heap.size 1 (.int .i64 (s8.er : Int)) (fun q e => by have := KQ.out q e; omega))
    have B8b := Lib.hid (B8a.out.setCell (p := ⟨w.heap.size, 1, none⟩) (by show w.heap.size ≤ w.heap.size; omega) (.int .i64 (s8.er : Int)))
    clear P8a Z8a Y8a C8a I8a B8a
    obtain ⟨wl, el⟩ : ∃ wl, wl = ((w8).setCell ⟨w.heap.size, 0, none⟩ (.slice A8 s8.xs.length c8)).setCell ⟨w.heap.size, 1, none⟩ (.int .i64 (s8.er : Int)) := ⟨_, rfl⟩
    have PL := Lib.hid (el ▸ P8b.out)
    have ZL := Lib.hid (el ▸ Z8b.out)
    have YL := Lib.hid (el ▸ Y8b.out)
    have CL := Lib.hid (el ▸ C8b.out)
    have IL := Lib.hid (el ▸ I8b.out)
    have BL := Lib.hid (el ▸ B8b.out)
    clear P8b Z8b Y8b C8b I8b B8b
    go_upto_block 2 with (fail)
    rw [← el]
    clear el za0 zb0 za1 zb1
    go_cut [] from 98 to 126 (fun wc => ∃ (ws : List (List UInt8 × List UInt8)) (vb : Value) (s9 : P.Sr) (A9 : Option Addr) (c9 : Nat), Hold wc w.heap.size 98 [.slice A9 s9.xs.length c9, .int .i64 (s9.er : Int)] ∧ Hold wc (w.heap.size + 1) 98 [.slice none 0 0, .int .i64 0] ∧ Hold wc (w.heap.size + 2) 33 [.int .i64 0, .int .i64 0, .int .i64 0, .int .i64 0, .int .i64 0, .int .i64 0, .slice none 0 0, .slice none 0 0, .bool false] ∧ Hold wc (w.heap.size + 3) 33 [encN a1, encN a2, encN a3, encN a4, encN a5, encN a6, va, vb, .bool false] ∧ wc.ownsRow (w.heap.size + 4) 74 3 va rs.length (rdsC rs) ∧ wc.ownsRow (w.heap.size + 4) 76 2 vb ws.length (wrsC ws) ∧ Below w.heap.size w wc ∧ Prt w0 (.agg #[.slice A9 s9.xs.length c9, .int .i64 (s9.er : Int)]) s9 ∧ P.Ran (P.rep P.wr m) s8 s9 ws ∧ ws.length ≤ 8 ∧ (∀ r ∈ ws, r.1.length ≤ 8 ∧ r.2.length ≤ 8))
    case first =>
      go_wp2
      go_loopw [8] (fun i wr => ∃ (k : Nat) (ws : List (List UInt8 × List UInt8)) (vb : Value) (s9 : P.Sr) (A9 : Option Addr) (c9 : Nat), k ≤ m ∧ i = .int .i64 k ∧ ws.length = k ∧ Hold wr w.heap.size 98 [.slice A9 s9.xs.length c9, .int .i64 (s9.er : Int)] ∧ Hold wr (w.heap.size + 1) 98 [.slice none 0 0, .int .i64 0] ∧ Hold wr (w.heap.size + 2) 33 [.int .i64 0, .int .i64 0, .int .i64 0, .int .i64 0, .int .i64 0, .int .i64 0, .slice none 0 0, .slice none 0 0, .bool false] ∧ Hold wr (w.heap.size + 3) 33 [encN a1, encN a2, encN a3, encN a4, encN a5, encN a6, va, vb, .bool false] ∧ wr.ownsRow (w.heap.size + 4) 74 3 va rs.length (rdsC rs) ∧ wr.ownsRow (w.heap.size + 4) 76 2 vb ws.length (wrsC ws) ∧ Below w.heap.size w wr ∧ Prt w0 (.agg #[.slice A9 s9.xs.length c9, .int .i64 (s9.er : Int)]) s9 ∧ P.Ran (P.rep P.wr k) s8 s9 ws ∧ (∀ r ∈ ws, r.1.length ≤ 8 ∧ r.2.length ≤ 8)) (fun i _ => m - (intOf i).toNat)
      case atStart => exact ⟨0, [], .slice none 0 0, s8, A8, c8, Nat.zero_le _, rfl, rfl, PL.out, ZL.out, YL.out, CL.out, IL.out, World.ownsRow_nil _ _ _ _, BL.out, D8.out, P.Ran.ret _ _, fun r h => by cases h⟩
      case round =>
        obtain ⟨k, ws, vb, s9, A9, c9, hk, rfl, hlen, hp, hz, hy, hc, hr1, hr2, hb, hd, hq, htn⟩ := hrel
        have P9 := Lib.hid hp
        have Z9 := Lib.hid hz
        have Y9 := Lib.hid hy
        have C9 := Lib.hid hc
        have B9 := Lib.hid hb
        have D9 := Lib.hid hd
        have HQ := Lib.hid hq
        have HL := Lib.hid hlen
        have HTN := Lib.hid htn
        have I9 := Lib.hid hr1
        have J9 := Lib.hid hr2
        have hwr : w.heap.size + 4 ≤ wr.heap.size := by have := C9.out.lt; omega
        have KI := Lib.hid (fun q (e : va.ownBlock = some q) => World.ownsRow.lt I9.out q e)
        have KJ := Lib.hid (fun q (e : vb.ownBlock = some q) => World.ownsRow.lt J9.out q e)
        clear hp hz hy hc hb hd hq hlen htn hr1 hr2 IL PL ZL YL CL BL
        have p1 := P9.out.cell 1 rfl
        have p0 := P9.out.cell 0 rfl
        by_cases hgo : k < m ∧ s9.er = 0
        · obtain ⟨hlt, he⟩ := hgo
          have q1 : ((s9.er : Int) == 0) = true := by rw [beq_iff_eq]; omega
          have hk9 : k < 9 := by have := N2.out; omega
          have hki : (k : Int) < (m : Int) := by omega
          have PX := Lib.hid (P9.out.alloc (.cells #[.string ⟨#[]⟩, .string ⟨#[]⟩] 76))
          have ZX := Lib.hid (Z9.out.alloc (.cells #[.string ⟨#[]⟩, .string ⟨#[]⟩] 76))
          have YX := Lib.hid (Y9.out.alloc (.cells #[.string ⟨#[]⟩, .string ⟨#[]⟩] 76))
          have CX := Lib.hid (C9.out.alloc (.cells #[.string ⟨#[]⟩, .string ⟨#[]⟩] 76))
          have IX := Lib.hid (World.ownsRow.alloc I9.out (.cells #[.string ⟨#[]⟩, .string ⟨#[]⟩] 76))
          have JX := Lib.hid (World.ownsRow.alloc J9.out (.cells #[.string ⟨#[]⟩, .string ⟨#[]⟩] 76))
          have XX := Lib.hid (Hold.new wr [.string ⟨#[]⟩, .string ⟨#[]⟩] 76)
          have BX := Lib.hid (below_new (o := .cells #[.string ⟨#[]⟩, .string ⟨#[]⟩] 76) B9.out)
          have P9q := Lib.hid P9.out
          clear P9 Z9 Y9 C9 I9 J9 B9
          clear he p0 p1
          have p1 := P9q.out.cell 1 rfl
          have p0 := PX.out.cell 0 rfl
          have p2 := PX.out.cell 1 rfl
          go_wp2_with (with_reducible refine wpList_store_fresh rfl 76 _ _ rfl _ rfl 76 _ [.string ⟨#[]⟩, .string ⟨#[]⟩] rfl rfl rfl (by kernel_rfl) rfl ?_)
          refine (text_doc (HW.out.trans (BX.out.mono HW.out.size)) D9.out).mono ?_
          rintro e w21 ⟨s21, kt, x21, rfl, hkt, hx, hb, hp⟩
          obtain ⟨A21, c21, rfl, hq⟩ := hx
          have D21 := Lib.hid (show Prt w0 _ s21 from ⟨A21, c21, rfl, hq⟩)
          clear hq
          have P21 := Lib.hid (PX.out.on hb)
          have Z21 := Lib.hid (ZX.out.on hb)
          have Y21 := Lib.hid (YX.out.on hb)
          have C21 := Lib.hid (CX.out.on hb)
          have X21 := Lib.hid (XX.out.on hb)
          have I21 := Lib.hid (ownsRow_bel (g := 0) IX.out (Bel.of hb) (by omega))
          have J21 := Lib.hid (ownsRow_bel (g := 0) JX.out (Bel.of hb) (by omega))
          have B21 := Lib.hid (below_on BX.out hb)
          have G1 := Lib.hid hp
          have GK := Lib.hid hkt
          clear hb hp hkt
          clear PX ZX YX CX XX IX JX BX
          clear p0 p1 p2 q1 P9q
          have za0 := P21.out.cell 0 rfl
          have zb0 := P21.out.soft 0
          have za1 := P21.out.cell 1 rfl
          have zb1 := P21.out.soft 1
          have za2 := X21.out.cell 0 rfl
          have zb2 := X21.out.soft 0
          have P21a := Lib.hid (show Hold ((w21).setCell ⟨w.heap.size, 0, none⟩ (.slice A21 s21.xs.length c21)) w.heap.size 98 [.slice A21 s21.xs.length c21, .int .i64 (s9.er : Int)] from P21.out.put 0 (.slice A21 s21.xs.length c21))
          have Z21a := Lib.hid (Z21.out.bel (Bel.store (w21) w.heap.size 0 (.slice A21 s21.xs.length c21)) (by omega))
          have Y21a := Lib.hid (Y21.out.bel (Bel.store (w21) w.heap.size 0 (.slice A21 s21.xs.length c21)) (by omega))
          have C21a := Lib.hid (C21.out.bel (Bel.store (w21) w.heap.size 0 (.slice A21 s21.xs.length c21)) (by omega))
          have X21a := Lib.hid (X21.out.bel (Bel.store (w21) w.heap.size 0 (.slice A21 s21.xs.length c21)) (by omega))
          have I21a := Lib.hid (ownsRow_put I21.out w.heap.size 0 (.slice A21 s21.xs.length c21) (fun q e => by have := KI.out q e; omega))
          have J21a := Lib.hid (ownsRow_put J21.out w.heap.size 0 (.slice A21 s21.xs.length c21) (fun q e => by have := KJ.out q e; omega))
          have B21a := Lib.hid (B21.out.setCell (p := ⟨w.heap.size, 0, none⟩) (by show w.heap.size ≤ w.heap.size; omega) (.slice A21 s21.xs.length c21))
          clear P21 Z21 Y21 C21 X21 I21 J21 B21
          have P21b := Lib.hid (show Hold (((w21).setCell ⟨w.heap.size, 0, none⟩ (.slice A21 s21.xs.length c21)).setCell ⟨w.heap.size, 1, none⟩ (.int .i64 (s21.er : Int))) w.heap.size 98 [.slice A21 s21.xs.length c21, .int .i64 (s21.er : Int)] from P21a.out.put 1 (.int .i64 (s21.er : Int)))
          have Z21b := Lib.hid (Z21a.out.bel (Bel.store ((w21).setCell ⟨w.heap.size, 0, none⟩ (.slice A21 s21.xs.length c21)) w.heap.size 1 (.int .i64 (s21.er : Int))) (by omega))
          have Y21b := Lib.hid (Y21a.out.bel (Bel.store ((w21).setCell ⟨w.heap.size, 0, none⟩ (.slice A21 s21.xs.length c21)) w.heap.size 1 (.int .i64 (s21.er : Int))) (by omega))
          have C21b := Lib.hid (C21a.out.bel (Bel.store ((w21).setCell ⟨w.heap.size, 0, none⟩ (.slice A21 s21.xs.length c21)) w.heap.size 1 (.int .i64 (s21.er : Int))) (by omega))
          have X21b := Lib.hid (X21a.out.bel (Bel.store ((w21).setCell ⟨w.heap.size, 0, none⟩ (.slice A21 s21.xs.length c21)) w.heap.size 1 (.int .i64 (s21.er : Int))) (by omega))
          have I21b := Lib.hid (ownsRow_put I21a.out w.heap.size 1 (.int .i64 (s21.er : Int)) (fun q e => by have := KI.out q e; omega))
          have J21b := Lib.hid (ownsRow_put J21a.out w.heap.size 1 (.int .i64 (s21.er : Int)) (fun q e => by have := KJ.out q e; omega))
          have B21b := Lib.hid (B21a.out.setCell (p := ⟨w.heap.size, 1, none⟩) (by show w.heap.size ≤ w.heap.size; omega) (.int .i64 (s21.er : Int)))
          clear P21a Z21a Y21a C21a X21a I21a J21a B21a
          have P21c := Lib.hid (P21b.out.bel (Bel.store (((w21).setCell ⟨w.heap.size, 0, none⟩ (.slice A21 s21.xs.length c21)).setCell ⟨w.heap.size, 1, none⟩ (.int .i64 (s21.er : Int))) wr.heap.size 0 (encT kt)) (by omega))
          have Z21c := Lib.hid (Z21b.out.bel (Bel.store (((w21).setCell ⟨w.heap.size, 0, none⟩ (.slice A21 s21.xs.length c21)).setCell ⟨w.heap.size, 1, none⟩ (.int .i64 (s21.er : Int))) wr.heap.size 0 (encT kt)) (by omega))
          have Y21c := Lib.hid (Y21b.out.bel (Bel.store (((w21).setCell ⟨w.heap.size, 0, none⟩ (.slice A21 s21.xs.length c21)).setCell ⟨w.heap.size, 1, none⟩ (.int .i64 (s21.er : Int))) wr.heap.size 0 (encT kt)) (by omega))
          have C21c := Lib.hid (C21b.out.bel (Bel.store (((w21).setCell ⟨w.heap.size, 0, none⟩ (.slice A21 s21.xs.length c21)).setCell ⟨w.heap.size, 1, none⟩ (.int .i64 (s21.er : Int))) wr.heap.size 0 (encT kt)) (by omega))
          have X21c := Lib.hid (show Hold ((((w21).setCell ⟨w.heap.size, 0, none⟩ (.slice A21 s21.xs.length c21)).setCell ⟨w.heap.size, 1, none⟩ (.int .i64 (s21.er : Int))).setCell ⟨wr.heap.size, 0, none⟩ (encT kt)) wr.heap.size 76 [encT kt, .string ⟨#[]⟩] from X21b.out.put 0 (encT kt))
          have I21c := Lib.hid (ownsRow_put I21b.out wr.heap.size 0 (encT kt) (fun q e => by have := KI.out q e; omega))
          have J21c := Lib.hid (ownsRow_put J21b.out wr.heap.size 0 (encT kt) (fun q e => by have := KJ.out q e; omega))
          have B21c := Lib.hid (B21b.out.setCell (p := ⟨wr.heap.size, 0, none⟩) (by show w.heap.size ≤ wr.heap.size; omega) (encT kt))
          clear P21b Z21b Y21b C21b X21b I21b J21b B21b
          go_wp2_with (fail)
          refine (text_doc (HW.out.trans (B21c.out.mono HW.out.size)) D21.out).mono ?_
          rintro e w22 ⟨s22, vt, x22, rfl, hvt, hx, hb, hp⟩
          obtain ⟨A22, c22, rfl, hq⟩ := hx
          have D22 := Lib.hid (show Prt w0 _ s22 from ⟨A22, c22, rfl, hq⟩)
          clear hq
          have P22 := Lib.hid (P21c.out.on hb)
          have Z22 := Lib.hid (Z21c.out.on hb)
          have Y22 := Lib.hid (Y21c.out.on hb)
          have C22 := Lib.hid (C21c.out.on hb)
          have X22 := Lib.hid (X21c.out.on hb)
          have I22 := Lib.hid (ownsRow_bel (g := 0) I21c.out (Bel.of hb) (by omega))
          have J22 := Lib.hid (ownsRow_bel (g := 0) J21c.out (Bel.of hb) (by omega))
          have B22 := Lib.hid (below_on B21c.out hb)
          have G2 := Lib.hid hp
          have GV := Lib.hid hvt
          clear hb hp hvt
          clear P21c Z21c Y21c C21c X21c I21c J21c B21c
          clear za0 zb0 za1 zb1 za2 zb2
          have za0 := P22.out.cell 0 rfl
          have zb0 := P22.out.soft 0
          have za1 := P22.out.cell 1 rfl
          have zb1 := P22.out.soft 1
          have za2 := X22.out.cell 1 rfl
          have zb2 := X22.out.soft 1
          have P22a := Lib.hid (show Hold ((w22).setCell ⟨w.heap.size, 0, none⟩ (.slice A22 s22.xs.length c22)) w.heap.size 98 [.slice A22 s22.xs.length c22, .int .i64 (s21.er : Int)] from P22.out.put 0 (.slice A22 s22.xs.length c22))
          have Z22a := Lib.hid (Z22.out.bel (Bel.store (w22) w.heap.size 0 (.slice A22 s22.xs.length c22)) (by omega))
          have Y22a := Lib.hid (Y22.out.bel (Bel.store (w22) w.heap.size 0 (.slice A22 s22.xs.length c22)) (by omega))
          have C22a := Lib.hid (C22.out.bel (Bel.store (w22) w.heap.size 0 (.slice A22 s22.xs.length c22)) (by omega))
          have X22a := Lib.hid (X22.out.bel (Bel.store (w22) w.heap.size 0 (.slice A22 s22.xs.length c22)) (by omega))
          have I22a := Lib.hid (ownsRow_put I22.out w.heap.size 0 (.slice A22 s22.xs.length c22) (fun q e => by have := KI.out q e; omega))
          have J22a := Lib.hid (ownsRow_put J22.out w.heap.size 0 (.slice A22 s22.xs.length c22) (fun q e => by have := KJ.out q e; omega))
          have B22a := Lib.hid (B22.out.setCell (p := ⟨w.heap.size, 0, none⟩) (by show w.heap.size ≤ w.heap.size; omega) (.slice A22 s22.xs.length c22))
          clear P22 Z22 Y22 C22 X22 I22 J22 B22
          have P22b := Lib.hid (show Hold (((w22).setCell ⟨w.heap.size, 0, none⟩ (.slice A22 s22.xs.length c22)).setCell ⟨w.heap.size, 1, none⟩ (.int .i64 (s22.er : Int))) w.heap.size 98 [.slice A22 s22.xs.length c22, .int .i64 (s22.er : Int)] from P22a.out.put 1 (.int .i64 (s22.er : Int)))
          have Z22b := Lib.hid (Z22a.out.bel (Bel.store ((w22).setCell ⟨w.heap.size, 0, none⟩ (.slice A22 s22.xs.length c22)) w.heap.size 1 (.int .i64 (s22.er : Int))) (by omega))
          have Y22b := Lib.hid (Y22a.out.bel (Bel.store ((w22).setCell ⟨w.heap.size, 0, none⟩ (.slice A22 s22.xs.length c22)) w.heap.size 1 (.int .i64 (s22.er : Int))) (by omega))
          have C22b := Lib.hid (C22a.out.bel (Bel.store ((w22).setCell ⟨w.heap.size, 0, none⟩ (.slice A22 s22.xs.length c22)) w.heap.size 1 (.int .i64 (s22.er : Int))) (by omega))
          have X22b := Lib.hid (X22a.out.bel (Bel.store ((w22).setCell ⟨w.heap.size, 0, none⟩ (.slice A22 s22.xs.length c22)) w.heap.size 1 (.int .i64 (s22.er : Int))) (by omega))
          have I22b := Lib.hid (ownsRow_put I22a.out w.heap.size 1 (.int .i64 (s22.er : Int)) (fun q e => by have := KI.out q e; omega))
          have J22b := Lib.hid (ownsRow_put J22a.out w.heap.size 1 (.int .i64 (s22.er : Int)) (fun q e => by have := KJ.out q e; omega))
          have B22b := Lib.hid (B22a.out.setCell (p := ⟨w.heap.size, 1, none⟩) (by show w.heap.size ≤ w.heap.size; omega) (.int .i64 (s22.er : Int)))
          clear P22a Z22a Y22a C22a X22a I22a J22a B22a
          have P22c := Lib.hid (P22b.out.bel (Bel.store (((w22).setCell ⟨w.heap.size, 0, none⟩ (.slice A22 s22.xs.length c22)).setCell ⟨w.heap.size, 1, none⟩ (.int .i64 (s22.er : Int))) wr.heap.size 1 (encT vt)) (by omega))
          have Z22c := Lib.hid (Z22b.out.bel (Bel.store (((w22).setCell ⟨w.heap.size, 0, none⟩ (.slice A22 s22.xs.length c22)).setCell ⟨w.heap.size, 1, none⟩ (.int .i64 (s22.er : Int))) wr.heap.size 1 (encT vt)) (by omega))
          have Y22c := Lib.hid (Y22b.out.bel (Bel.store (((w22).setCell ⟨w.heap.size, 0, none⟩ (.slice A22 s22.xs.length c22)).setCell ⟨w.heap.size, 1, none⟩ (.int .i64 (s22.er : Int))) wr.heap.size 1 (encT vt)) (by omega))
          have C22c := Lib.hid (C22b.out.bel (Bel.store (((w22).setCell ⟨w.heap.size, 0, none⟩ (.slice A22 s22.xs.length c22)).setCell ⟨w.heap.size, 1, none⟩ (.int .i64 (s22.er : Int))) wr.heap.size 1 (encT vt)) (by omega))
          have X22c := Lib.hid (show Hold ((((w22).setCell ⟨w.heap.size, 0, none⟩ (.slice A22 s22.xs.length c22)).setCell ⟨w.heap.size, 1, none⟩ (.int .i64 (s22.er : Int))).setCell ⟨wr.heap.size, 1, none⟩ (encT vt)) wr.heap.size 76 [encT kt, encT vt] from X22b.out.put 1 (encT vt))
          have I22c := Lib.hid (ownsRow_put I22b.out wr.heap.size 1 (encT vt) (fun q e => by have := KI.out q e; omega))
          have J22c := Lib.hid (ownsRow_put J22b.out wr.heap.size 1 (encT vt) (fun q e => by have := KJ.out q e; omega))
          have B22c := Lib.hid (B22b.out.setCell (p := ⟨wr.heap.size, 1, none⟩) (by show w.heap.size ≤ wr.heap.size; omega) (encT vt))
          clear P22b Z22b Y22b C22b X22b I22b J22b B22b
          have cq6 := C22c.out.cell 7 rfl
          have xx0 := X22c.out.cell 0 rfl
          have xx1 := X22c.out.cell 1 rfl
          have hsz : ((((w22).setCell ⟨w.heap.size, 0, none⟩ (.slice A22 s22.xs.length c22)).setCell ⟨w.heap.size, 1, none⟩ (.int .i64 (s22.er : Int))).setCell ⟨wr.heap.size, 1, none⟩ (encT vt)).heap.size = w22.heap.size := by simp
          obtain ⟨v', w', hrun, hown, hgrow⟩ := app_wr J22c.out (kt, vt) (by have := HL.out; have := N2.out; omega) (by have := C22c.out.lt; omega)
          rw [hsz] at hrun
          have hge : ∀ q, vb.ownBlock = some q → w.heap.size + 4 ≤ q := fun q e => (KJ.out q e).1
          have PG := Lib.hid (Hold.grow (P22c.out.alloc (.cells (wrC (kt, vt)).toArray 76)) hgrow (fun q e => by have := hge q e; omega))
          have ZG := Lib.hid (Hold.grow (Z22c.out.alloc (.cells (wrC (kt, vt)).toArray 76)) hgrow (fun q e => by have := hge q e; omega))
          have YG := Lib.hid (Hold.grow (Y22c.out.alloc (.cells (wrC (kt, vt)).toArray 76)) hgrow (fun q e => by have := hge q e; omega))
          have CG := Lib.hid (Hold.grow (C22c.out.alloc (.cells (wrC (kt, vt)).toArray 76)) hgrow (fun q e => by have := hge q e; omega))
          have IG := Lib.hid (ownsRow_grown (World.ownsRow.alloc I22c.out (.cells (wrC (kt, vt)).toArray 76)) hgrow (ownsRow_type (World.ownsRow.alloc J22c.out (.cells (wrC (kt, vt)).toArray 76)) (by decide)))
          have BG := Lib.hid ((below_new (o := .cells (wrC (kt, vt)).toArray 76) B22c.out).grown hgrow (by have := B22c.out.size; simp at this ⊢; omega) (fun q e => by have := hge q e; omega))
          obtain ⟨A3, k3, hv3⟩ := ownsRow_slice hown
          rw [List.length_append, List.length_singleton] at hv3
          subst hv3
          have OG := Lib.hid hown
          clear hown hgrow
          have cg := CG.out.cell 7 rfl
          have fg := CG.out.soft 7
          have PE := Lib.hid (PG.out.bel (Bel.store w' (w.heap.size + 3) 7 (.slice A3 (ws.length + 1) k3)) (by omega))
          have ZE := Lib.hid (ZG.out.bel (Bel.store w' (w.heap.size + 3) 7 (.slice A3 (ws.length + 1) k3)) (by omega))
          have YE := Lib.hid (YG.out.bel (Bel.store w' (w.heap.size + 3) 7 (.slice A3 (ws.length + 1) k3)) (by omega))
          have CE := Lib.hid (show Hold (w'.setCell ⟨w.heap.size + 3, 7, none⟩ (.slice A3 (ws.length + 1) k3)) (w.heap.size + 3) 33 [encN a1, encN a2, encN a3, encN a4, encN a5, encN a6, va, .slice A3 (ws.length + 1) k3, .bool false] from CG.out.put 7 (.slice A3 (ws.length + 1) k3))
          have OE := Lib.hid (ownsRow_bel OG.out (Bel.store w' (w.heap.size + 3) 7 (.slice A3 (ws.length + 1) k3)) (by omega))
          have IE := Lib.hid (ownsRow_bel IG.out (Bel.store w' (w.heap.size + 3) 7 (.slice A3 (ws.length + 1) k3)) (by omega))
          have BE := Lib.hid (BG.out.setCell (p := ⟨w.heap.size + 3, 7, none⟩) (by show w.heap.size ≤ w.heap.size + 3; omega) (.slice A3 (ws.length + 1) k3))
          have DE := Lib.hid D22.out
          clear P22c Z22c Y22c C22c X22c I22c J22c B22c
          go_wp2_with (at_builtin; refine Lib.wpList_append_run _ rfl _ _ _ _ rfl _ _ rfl rfl _ _ hrun ?_)
          go_roundw
          case rel => exact ⟨k + 1, ws ++ [(kt, vt)], .slice A3 (ws.length + 1) k3, s22, A22, c22, by omega, by go_num, by rw [List.length_append, HL.out]; rfl, PE.out, ZE.out, YE.out, CE.out, IE.out, OE.out, BE.out, DE.out, P.Ran.snoc P.errs_wr HQ.out (P.Ran.bind P.errs_text G1.out (P.Ran.bind P.errs_text G2.out (P.Ran.ret _ _))), fun r hr => by
            rcases List.mem_append.1 hr with h | h
            · exact HTN.out r h
            · rw [List.mem_singleton.1 h]; exact ⟨GK.out, GV.out⟩⟩
          case measure => simp [intOf]; omega
        · by_cases hlt : k < m
          · have he : s9.er ≠ 0 := fun he => hgo ⟨hlt, he⟩
            have HE := Lib.hid he
            have hki : (k : Int) < (m : Int) := by omega
            have q1 : ((s9.er : Int) == 0) = false := by rw [beq_eq_false_iff_ne]; omega
            have HKN := Lib.hid (Nat.le_of_lt hlt)
            clear hgo he
            go_wp2
            go_meet
            case rel => exact ⟨ws, vb, s9, A9, c9, P9.out, Z9.out, Y9.out, C9.out, I9.out, J9.out, B9.out, D9.out, P.Ran.rep_early HKN.out HQ.out HE.out ws, by have := HL.out; have := N2.out; omega, HTN.out⟩
          · obtain rfl : k = m := by omega
            clear hgo
            go_wp2
            go_meet
            case rel => exact ⟨ws, vb, s9, A9, c9, P9.out, Z9.out, Y9.out, C9.out, I9.out, J9.out, B9.out, D9.out, HQ.out, by have := HL.out; have := N2.out; omega, HTN.out⟩
    case rest =>
      obtain ⟨ws, vb, s9q, A9q, c9q, hp, hz, hy, hc, hr1, hr2, hb, hd, hq, hl, htn⟩ := hcut
      have PV := Lib.hid hp
      have ZV := Lib.hid hz
      have YV := Lib.hid hy
      have CV := Lib.hid hc
      have BV := Lib.hid hb
      have DV := Lib.hid hd
      have HRV := Lib.hid hq
      have HMV := Lib.hid hl
      have HTV := Lib.hid htn
      have IV := Lib.hid hr1
      have JV := Lib.hid hr2
      clear hp hz hy hc hb hd hq hl htn hr1 hr2
      clear PL ZL YL CL IL BL
      have KV := Lib.hid (fun q (e : va.ownBlock = some q) => World.ownsRow.lt IV.out q e)
      have KW := Lib.hid (fun q (e : vb.ownBlock = some q) => World.ownsRow.lt JV.out q e)
      have p0 := PV.out.cell 0 rfl
      have p1 := PV.out.cell 1 rfl
      go_wp2_with (fail)
      refine (one_doc (HW.out.trans (BV.out.mono HW.out.size)) DV.out).mono ?_
      rintro e w10 ⟨s10, b, x10, rfl, -, hx, hb, hp⟩
      obtain ⟨A10, c10, rfl, hq⟩ := hx
      have D10 := Lib.hid (show Prt w0 _ s10 from ⟨A10, c10, rfl, hq⟩)
      clear hq
      have P10 := Lib.hid (PV.out.on hb)
      have Z10 := Lib.hid (ZV.out.on hb)
      have Y10 := Lib.hid (YV.out.on hb)
      have C10 := Lib.hid (CV.out.on hb)
      have I10 := Lib.hid (ownsRow_bel (g := 0) IV.out (Bel.of hb) (by omega))
      have J10 := Lib.hid (ownsRow_bel (g := 0) JV.out (Bel.of hb) (by omega))
      have B10 := Lib.hid (below_on BV.out hb)
      have H10 := Lib.hid hp
      clear hb hp
      clear PV ZV YV CV IV JV BV
      clear p0 p1
      have za0 := P10.out.cell 0 rfl
      have zb0 := P10.out.soft 0
      have za1 := P10.out.cell 1 rfl
      have zb1 := P10.out.soft 1
      have P10a := Lib.hid (show Hold ((w10).setCell ⟨w.heap.size, 0, none⟩ (.slice A10 s10.xs.length c10)) w.heap.size 98 [.slice A10 s10.xs.length c10, .int .i64 (s9q.er : Int)] from P10.out.put 0 (.slice A10 s10.xs.length c10))
      have Z10a := Lib.hid (Z10.out.bel (Bel.store (w10) w.heap.size 0 (.slice A10 s10.xs.length c10)) (by omega))
      have Y10a := Lib.hid (Y10.out.bel (Bel.store (w10) w.heap.size 0 (.slice A10 s10.xs.length c10)) (by omega))
      have C10a := Lib.hid (C10.out.bel (Bel.store (w10) w.heap.size 0 (.slice A10 s10.xs.length c10)) (by omega))
      have I10a := Lib.hid (ownsRow_put I10.out w.heap.size 0 (.slice A10 s10.xs.length c10) (fun q e => by have := KV.out q e; omega))
      have J10a := Lib.hid (ownsRow_put J10.out w.heap.size 0 (.slice A10 s10.xs.length c10) (fun q e => by have := KW.out q e; omega))
      have B10a := Lib.hid (B10.out.setCell (p := ⟨w.heap.size, 0, none⟩) (by show w.heap.size ≤ w.heap.size; omega) (.slice A10 s10.xs.length c10))
      clear P10 Z10 Y10 C10 I10 J10 B10
      have P10b := Lib.hid (show Hold (((w10).setCell ⟨w.heap.size, 0, none⟩ (.slice A10 s10.xs.length c10)).setCell ⟨w.heap.size, 1, none⟩ (.int .i64 (s10.er : Int))) w.heap.size 98 [.slice A10 s10.xs.length c10, .int .i64 (s10.er : Int)] from P10a.out.put 1 (.int .i64 (s10.er : Int)))
      have Z10b := Lib.hid (Z10a.out.bel (Bel.store ((w10).setCell ⟨w.heap.size, 0, none⟩ (.slice A10 s10.xs.length c10)) w.heap.size 1 (.int .i64 (s10.er : Int))) (by omega))
      have Y10b := Lib.hid (Y10a.out.bel (Bel.store ((w10).setCell ⟨w.heap.size, 0, none⟩ (.slice A10 s10.xs.length c10)) w.heap.size 1 (.int .i64 (s10.er : Int))) (by omega))
      have C10b := Lib.hid (C10a.out.bel (Bel.store ((w10).setCell ⟨w.heap.size, 0, none⟩ (.slice A10 s10.xs.length c10)) w.heap.size 1 (.int .i64 (s10.er : Int))) (by omega))
      have I10b := Lib.hid (ownsRow_put I10a.out w.heap.size 1 (.int .i64 (s10.er : Int)) (fun q e => by have := KV.out q e; omega))
      have J10b := Lib.hid (ownsRow_put J10a.out w.heap.size 1 (.int .i64 (s10.er : Int)) (fun q e => by have := KW.out q e; omega))
      have B10b := Lib.hid (B10a.out.setCell (p := ⟨w.heap.size, 1, none⟩) (by show w.heap.size ≤ w.heap.size; omega) (.int .i64 (s10.er : Int)))
      clear P10a Z10a Y10a C10a I10a J10a B10a
      by_cases hb1 : 1 < b
      · have HB1 := Lib.hid hb1
        have qb : ((b : Int) == 1) = false := by rw [beq_eq_false_iff_ne]; omega
        go_wp2_with (fail)
        refine (fail_doc 4 rfl D10.out).mono ?_
        rintro e w11 ⟨x11, rfl, hx, hb⟩
        obtain ⟨A11, c11, rfl, hq⟩ := hx
        have D11 := Lib.hid (show Prt w0 _ (P.fail 4 s10) from ⟨A11, c11, rfl, hq⟩)
        clear hq
        have P11 := Lib.hid (P10b.out.on hb)
        have Z11 := Lib.hid (Z10b.out.on hb)
        have Y11 := Lib.hid (Y10b.out.on hb)
        have C11 := Lib.hid (C10b.out.on hb)
        have I11 := Lib.hid (ownsRow_bel (g := 0) I10b.out (Bel.of hb) (by omega))
        have J11 := Lib.hid (ownsRow_bel (g := 0) J10b.out (Bel.of hb) (by omega))
        have B11 := Lib.hid (below_on B10b.out hb)
        clear hb 
        clear P10b Z10b Y10b C10b I10b J10b B10b
        clear za0 zb0 za1 zb1
        obtain ⟨s11, hs⟩ : ∃ s11, s11 = P.fail 4 s10 := ⟨_, rfl⟩
        rw [← hs] at D11 ⊢
        have HS := Lib.hid hs
        clear hs
        have za0 := P11.out.cell 0 rfl
        have zb0 := P11.out.soft 0
        have za1 := P11.out.cell 1 rfl
        have zb1 := P11.out.soft 1
        have P11a := Lib.hid (show Hold ((w11).setCell ⟨w.heap.size, 0, none⟩ (.slice A11 s11.xs.length c11)) w.heap.size 98 [.slice A11 s11.xs.length c11, .int .i64 (s10.er : Int)] from P11.out.put 0 (.slice A11 s11.xs.length c11))
        have Z11a := Lib.hid (Z11.out.bel (Bel.store (w11) w.heap.size 0 (.slice A11 s11.xs.length c11)) (by omega))
        have Y11a := Lib.hid (Y11.out.bel (Bel.store (w11) w.heap.size 0 (.slice A11 s11.xs.length c11)) (by omega))
        have C11a := Lib.hid (C11.out.bel (Bel.store (w11) w.heap.size 0 (.slice A11 s11.xs.length c11)) (by omega))
        have I11a := Lib.hid (ownsRow_put I11.out w.heap.size 0 (.slice A11 s11.xs.length c11) (fun q e => by have := KV.out q e; omega))
        have J11a := Lib.hid (ownsRow_put J11.out w.heap.size 0 (.slice A11 s11.xs.length c11) (fun q e => by have := KW.out q e; omega))
        have B11a := Lib.hid (B11.out.setCell (p := ⟨w.heap.size, 0, none⟩) (by show w.heap.size ≤ w.heap.size; omega) (.slice A11 s11.xs.length c11))
        clear P11 Z11 Y11 C11 I11 J11 B11
        have P11b := Lib.hid (show Hold (((w11).setCell ⟨w.heap.size, 0, none⟩ (.slice A11 s11.xs.length c11)).setCell ⟨w.heap.size, 1, none⟩ (.int .i64 (s11.er : Int))) w.heap.size 98 [.slice A11 s11.xs.length c11, .int .i64 (s11.er : Int)] from P11a.out.put 1 (.int .i64 (s11.er : Int)))
        have Z11b := Lib.hid (Z11a.out.bel (Bel.store ((w11).setCell ⟨w.heap.size, 0, none⟩ (.slice A11 s11.xs.length c11)) w.heap.size 1 (.int .i64 (s11.er : Int))) (by omega))
        have Y11b := Lib.hid (Y11a.out.bel (Bel.store ((w11).setCell ⟨w.heap.size, 0, none⟩ (.slice A11 s11.xs.length c11)) w.heap.size 1 (.int .i64 (s11.er : Int))) (by omega))
        have C11b := Lib.hid (C11a.out.bel (Bel.store ((w11).setCell ⟨w.heap.size, 0, none⟩ (.slice A11 s11.xs.length c11)) w.heap.size 1 (.int .i64 (s11.er : Int))) (by omega))
        have I11b := Lib.hid (ownsRow_put I11a.out w.heap.size 1 (.int .i64 (s11.er : Int)) (fun q e => by have := KV.out q e; omega))
        have J11b := Lib.hid (ownsRow_put J11a.out w.heap.size 1 (.int .i64 (s11.er : Int)) (fun q e => by have := KW.out q e; omega))
        have B11b := Lib.hid (B11a.out.setCell (p := ⟨w.heap.size, 1, none⟩) (by show w.heap.size ≤ w.heap.size; omega) (.int .i64 (s11.er : Int)))
        clear P11a Z11a Y11a C11a I11a J11a B11a
        have cc := C11b.out.cell 8 rfl
        have cf := C11b.out.soft 8
        have P11ba := Lib.hid (P11b.out.bel (Bel.store (((w11).setCell ⟨w.heap.size, 0, none⟩ (.slice A11 s11.xs.length c11)).setCell ⟨w.heap.size, 1, none⟩ (.int .i64 (s11.er : Int))) (w.heap.size + 3) 8 (.bool false)) (by omega))
        have Z11ba := Lib.hid (Z11b.out.bel (Bel.store (((w11).setCell ⟨w.heap.size, 0, none⟩ (.slice A11 s11.xs.length c11)).setCell ⟨w.heap.size, 1, none⟩ (.int .i64 (s11.er : Int))) (w.heap.size + 3) 8 (.bool false)) (by omega))
        have Y11ba := Lib.hid (Y11b.out.bel (Bel.store (((w11).setCell ⟨w.heap.size, 0, none⟩ (.slice A11 s11.xs.length c11)).setCell ⟨w.heap.size, 1, none⟩ (.int .i64 (s11.er : Int))) (w.heap.size + 3) 8 (.bool false)) (by omega))
        have C11ba := Lib.hid (show Hold ((((w11).setCell ⟨w.heap.size, 0, none⟩ (.slice A11 s11.xs.length c11)).setCell ⟨w.heap.size, 1, none⟩ (.int .i64 (s11.er : Int))).setCell ⟨(w.heap.size + 3), 8, none⟩ (.bool false)) (w.heap.size + 3) 33 [encN a1, encN a2, encN a3, encN a4, encN a5, encN a6, va, vb, .bool false] from C11b.out.put 8 (.bool false))
        have I11ba := Lib.hid (ownsRow_put I11b.out (w.heap.size + 3) 8 (.bool false) (fun q e => by have := KV.out q e; omega))
        have J11ba := Lib.hid (ownsRow_put J11b.out (w.heap.size + 3) 8 (.bool false) (fun q e => by have := KW.out q e; omega))
        have B11ba := Lib.hid (B11b.out.setCell (p := ⟨(w.heap.size + 3), 8, none⟩) (by show w.heap.size ≤ (w.heap.size + 3); omega) (.bool false))
        clear P11b Z11b Y11b C11b I11b J11b B11b
        obtain ⟨wf, ef⟩ : ∃ wf, wf = (((w11).setCell ⟨w.heap.size, 0, none⟩ (.slice A11 s11.xs.length c11)).setCell ⟨w.heap.size, 1, none⟩ (.int .i64 (s11.er : Int))).setCell ⟨(w.heap.size + 3), 8, none⟩ (.bool false) := ⟨_, rfl⟩
        have PF := Lib.hid (ef ▸ P11ba.out)
        have ZF := Lib.hid (ef ▸ Z11ba.out)
        have YF := Lib.hid (ef ▸ Y11ba.out)
        have CF := Lib.hid (ef ▸ C11ba.out)
        have IF := Lib.hid (ef ▸ I11ba.out)
        have JF := Lib.hid (ef ▸ J11ba.out)
        have BF := Lib.hid (ef ▸ B11ba.out)
        clear P11ba Z11ba Y11ba C11ba I11ba J11ba B11ba
        go_wp2
        rw [← ef]
        clear ef cc cf za0 zb0 za1 zb1
        obtain ⟨A1, k1, rfl⟩ := ownsRow_slice IF.out
        obtain ⟨A2, k2, rfl⟩ := ownsRow_slice JF.out
        have TZ := Lib.hid (show wf.drew.there (w.heap.size + 1) 0 ([.slice A11 s11.xs.length c11, .int .i64 (s11.er : Int)] : List Value).length from ZF.out.there (Nat.le_refl 2))
        have SZ := bel_setCells wf.drew (w.heap.size + 1) [.slice A11 s11.xs.length c11, .int .i64 (s11.er : Int)] 0
        have CZ := Lib.hid (show Hold (wf.drew.setCells (w.heap.size + 1) 0 [.slice A11 s11.xs.length c11, .int .i64 (s11.er : Int)]) (w.heap.size + 3) 33 [encN a1, encN a2, encN a3, encN a4, encN a5, encN a6, .slice A1 rs.length k1, .slice A2 ws.length k2, .bool false] from (show Hold wf.drew _ _ _ from CF.out).bel SZ (by omega))
        have YZ := Lib.hid ((show Hold wf.drew (w.heap.size + 2) 33 [.int .i64 0, .int .i64 0, .int .i64 0, .int .i64 0, .int .i64 0, .int .i64 0, .slice none 0 0, .slice none 0 0, .bool false] from YF.out).bel SZ (by omega))
        have FZ := Hold.set [.slice A11 s11.xs.length c11, .int .i64 (s11.er : Int)] [] [.slice none 0 0, .int .i64 0] [] rfl _ (show Hold wf.drew (w.heap.size + 1) 98 ([] ++ [.slice none 0 0, .int .i64 0] ++ []) from ZF.out)
        have TY := Lib.hid (show (wf.drew.setCells (w.heap.size + 1) 0 [.slice A11 s11.xs.length c11, .int .i64 (s11.er : Int)]).there (w.heap.size + 2) 0 ([encN a1, encN a2, encN a3, encN a4, encN a5, encN a6, .slice A1 rs.length k1, .slice A2 ws.length k2, .bool false] : List Value).length from YZ.out.there (Nat.le_refl 9))
        have SY := bel_setCells (wf.drew.setCells (w.heap.size + 1) 0 [.slice A11 s11.xs.length c11, .int .i64 (s11.er : Int)]) (w.heap.size + 2) [encN a1, encN a2, encN a3, encN a4, encN a5, encN a6, .slice A1 rs.length k1, .slice A2 ws.length k2, .bool false] 0
        have FY := Hold.set [encN a1, encN a2, encN a3, encN a4, encN a5, encN a6, .slice A1 rs.length k1, .slice A2 ws.length k2, .bool false] [] [.int .i64 0, .int .i64 0, .int .i64 0, .int .i64 0, .int .i64 0, .int .i64 0, .slice none 0 0, .slice none 0 0, .bool false] [] rfl _ (show Hold (wf.drew.setCells (w.heap.size + 1) 0 [.slice A11 s11.xs.length c11, .int .i64 (s11.er : Int)]) (w.heap.size + 2) 33 ([] ++ [.int .i64 0, .int .i64 0, .int .i64 0, .int .i64 0, .int .i64 0, .int .i64 0, .slice none 0 0, .slice none 0 0, .bool false] ++ []) from YZ.out)
        have ZE := Lib.hid ((show Hold (wf.drew.setCells (w.heap.size + 1) 0 [.slice A11 s11.xs.length c11, .int .i64 (s11.er : Int)]) (w.heap.size + 1) 98 [.slice A11 s11.xs.length c11, .int .i64 (s11.er : Int)] from FZ).bel SY (by omega))
        have YE := Lib.hid (show Hold ((wf.drew.setCells (w.heap.size + 1) 0 [.slice A11 s11.xs.length c11, .int .i64 (s11.er : Int)]).setCells (w.heap.size + 2) 0 [encN a1, encN a2, encN a3, encN a4, encN a5, encN a6, .slice A1 rs.length k1, .slice A2 ws.length k2, .bool false]) (w.heap.size + 2) 33 [encN a1, encN a2, encN a3, encN a4, encN a5, encN a6, .slice A1 rs.length k1, .slice A2 ws.length k2, .bool false] from FY)
        have IE := Lib.hid (ownsRow_bel (ownsRow_bel (ownsRow_bel (g := 0) IF.out (Bel.of (Below.refl _ _).drew) (by omega)) SZ (by omega)) SY (by omega))
        have JE := Lib.hid (ownsRow_bel (ownsRow_bel (ownsRow_bel (g := 0) JF.out (Bel.of (Below.refl _ _).drew) (by omega)) SZ (by omega)) SY (by omega))
        have BE := Lib.hid (below_setCells (by omega : w.heap.size ≤ w.heap.size + 2) [encN a1, encN a2, encN a3, encN a4, encN a5, encN a6, .slice A1 rs.length k1, .slice A2 ws.length k2, .bool false] 0 _ _ (below_setCells (by omega : w.heap.size ≤ w.heap.size + 1) [.slice A11 s11.xs.length c11, .int .i64 (s11.er : Int)] 0 _ _ BF.out.drew))
        clear SZ SY FZ FY
        have MOD := Lib.hid (show M.Mod ⟨a1, a2, a3, a4, a5, a6, rs, ws, false⟩ from ⟨by have := HMQ.out; show rs.length ≤ 20; omega, by have := HMV.out; show ws.length ≤ 20; omega, fun r hr => by have := HTQ.out r hr; omega, fun r hr => by have := (HTV.out r hr).1; omega, fun r hr => by have := (HTV.out r hr).2; omega⟩)
        have RAN := Lib.hid (show P.Ran P.cmd s s11 ⟨a1, a2, a3, a4, a5, a6, rs, ws, false⟩ from P.Ran.bind P.errs_num Ha1.out (P.Ran.bind P.errs_num Ha2.out (P.Ran.bind P.errs_num Ha3.out (P.Ran.bind P.errs_num Ha4.out (P.Ran.bind P.errs_num Ha5.out (P.Ran.bind P.errs_num Ha6.out (P.Ran.bind P.errs_few H7.out (P.Ran.bind (P.errs_rep P.errs_rd _) HRQ.out (P.Ran.bind P.errs_few H8.out (P.Ran.bind (P.errs_rep P.errs_wr _) HRV.out (P.Ran.bind P.errs_boolean (P.Ran.bind P.errs_one H10.out (by rw [if_pos HB1.out, HS.out]; exact P.Ran.err _ _)) (P.Ran.ret _ _))))))))))))
        refine wp_region_any (by kernel_rfl) ?_
        try (change wpAny _ _ _ _ _ _ _ (World.drew _))
        refine wpAny_ready (rs := [0, 1]) (by kernel_rfl) (by simp) ?_
        refine AllReady.cons rfl (fun K hK => ?_) (AllReady.cons rfl (fun K hK => ?_) AllReady.nil)
        · refine step_ld (by rfl) 98 _ rfl w.heap.size 0 rfl [.slice A11 s11.xs.length c11, .int .i64 (s11.er : Int)] _ ((show wf.drew.rangeAt w.heap.size 0 _ from PF.out.cel.whole)) Try.underlying98 rfl (by kernel_rfl) ?_
          try go_simp
          refine hK _ _ ?_
          clear hK K
          refine wpAny_ready (rs := [1, 2]) (by kernel_rfl) (by simp) ?_
          refine AllReady.cons rfl (fun K hK => ?_) (AllReady.cons rfl (fun K hK => ?_) AllReady.nil)
          · refine step_ld (by rfl) 33 _ rfl (w.heap.size + 3) 0 rfl [encN a1, encN a2, encN a3, encN a4, encN a5, encN a6, .slice A1 rs.length k1, .slice A2 ws.length k2, .bool false] _ ((show wf.drew.rangeAt (w.heap.size + 3) 0 _ from CF.out.cel.whole)) Try.underlying33 rfl (by kernel_rfl) ?_
            try go_simp
            refine hK _ _ ?_
            clear hK K
            refine wpAny_ready (rs := [2]) (by kernel_rfl) (by simp) ?_
            refine AllReady.cons rfl (fun K hK => ?_) AllReady.nil
            refine step_st (by rfl) 98 _ _ rfl (w.heap.size + 1) 0 [.slice A11 s11.xs.length c11, .int .i64 (s11.er : Int)] rfl rfl TZ.out (by kernel_rfl) (by kernel_rfl) ?_
            try go_simp
            refine hK _ _ ?_
            clear hK K
            refine wpAny_ready (rs := [3]) (by kernel_rfl) (by simp) ?_
            refine AllReady.cons rfl (fun K hK => ?_) AllReady.nil
            refine step_st (by rfl) 33 _ _ rfl (w.heap.size + 2) 0 [encN a1, encN a2, encN a3, encN a4, encN a5, encN a6, .slice A1 rs.length k1, .slice A2 ws.length k2, .bool false] rfl rfl TY.out (by kernel_rfl) (by kernel_rfl) ?_
            try go_simp
            refine hK _ _ ?_
            clear hK K
            refine wpAny_done (by kernel_rfl) ?_ _
            go_wp2
            refine bodyPost_ret (results_cc rfl rfl rfl ZE.out.cel.whole YE.out.cel.whole _ _ Try.underlying98 Try.underlying33 rfl rfl (by kernel_rfl) (by kernel_rfl)) rfl ?_
            exact ⟨s11, ⟨a1, a2, a3, a4, a5, a6, rs, ws, false⟩, _, _, _, rfl, D11.out, ownsRow_baseN IE.out (by omega), ownsRow_baseN JE.out (by omega), BE.out, RAN.out, MOD.out⟩
          · refine step_st (by rfl) 98 _ _ rfl (w.heap.size + 1) 0 [.slice A11 s11.xs.length c11, .int .i64 (s11.er : Int)] rfl rfl TZ.out (by kernel_rfl) (by kernel_rfl) ?_
            try go_simp
            refine hK _ _ ?_
            clear hK K
            refine wpAny_ready (rs := [1]) (by kernel_rfl) (by simp) ?_
            refine AllReady.cons rfl (fun K hK => ?_) AllReady.nil
            refine step_ld (by rfl) 33 _ rfl (w.heap.size + 3) 0 rfl [encN a1, encN a2, encN a3, encN a4, encN a5, encN a6, .slice A1 rs.length k1, .slice A2 ws.length k2, .bool false] _ (CZ.out.cel.whole) Try.underlying33 rfl (by kernel_rfl) ?_
            try go_simp
            refine hK _ _ ?_
            clear hK K
            refine wpAny_ready (rs := [3]) (by kernel_rfl) (by simp) ?_
            refine AllReady.cons rfl (fun K hK => ?_) AllReady.nil
            refine step_st (by rfl) 33 _ _ rfl (w.heap.size + 2) 0 [encN a1, encN a2, encN a3, encN a4, encN a5, encN a6, .slice A1 rs.length k1, .slice A2 ws.length k2, .bool false] rfl rfl TY.out (by kernel_rfl) (by kernel_rfl) ?_
            try go_simp
            refine hK _ _ ?_
            clear hK K
            refine wpAny_done (by kernel_rfl) ?_ _
            go_wp2
            refine bodyPost_ret (results_cc rfl rfl rfl ZE.out.cel.whole YE.out.cel.whole _ _ Try.underlying98 Try.underlying33 rfl rfl (by kernel_rfl) (by kernel_rfl)) rfl ?_
            exact ⟨s11, ⟨a1, a2, a3, a4, a5, a6, rs, ws, false⟩, _, _, _, rfl, D11.out, ownsRow_baseN IE.out (by omega), ownsRow_baseN JE.out (by omega), BE.out, RAN.out, MOD.out⟩
        · refine step_ld (by rfl) 33 _ rfl (w.heap.size + 3) 0 rfl [encN a1, encN a2, encN a3, encN a4, encN a5, encN a6, .slice A1 rs.length k1, .slice A2 ws.length k2, .bool false] _ ((show wf.drew.rangeAt (w.heap.size + 3) 0 _ from CF.out.cel.whole)) Try.underlying33 rfl (by kernel_rfl) ?_
          try go_simp
          refine hK _ _ ?_
          clear hK K
          refine wpAny_ready (rs := [0]) (by kernel_rfl) (by simp) ?_
          refine AllReady.cons rfl (fun K hK => ?_) AllReady.nil
          refine step_ld (by rfl) 98 _ rfl w.heap.size 0 rfl [.slice A11 s11.xs.length c11, .int .i64 (s11.er : Int)] _ ((show wf.drew.rangeAt w.heap.size 0 _ from PF.out.cel.whole)) Try.underlying98 rfl (by kernel_rfl) ?_
          try go_simp
          refine hK _ _ ?_
          clear hK K
          refine wpAny_ready (rs := [2]) (by kernel_rfl) (by simp) ?_
          refine AllReady.cons rfl (fun K hK => ?_) AllReady.nil
          refine step_st (by rfl) 98 _ _ rfl (w.heap.size + 1) 0 [.slice A11 s11.xs.length c11, .int .i64 (s11.er : Int)] rfl rfl TZ.out (by kernel_rfl) (by kernel_rfl) ?_
          try go_simp
          refine hK _ _ ?_
          clear hK K
          refine wpAny_ready (rs := [3]) (by kernel_rfl) (by simp) ?_
          refine AllReady.cons rfl (fun K hK => ?_) AllReady.nil
          refine step_st (by rfl) 33 _ _ rfl (w.heap.size + 2) 0 [encN a1, encN a2, encN a3, encN a4, encN a5, encN a6, .slice A1 rs.length k1, .slice A2 ws.length k2, .bool false] rfl rfl TY.out (by kernel_rfl) (by kernel_rfl) ?_
          try go_simp
          refine hK _ _ ?_
          clear hK K
          refine wpAny_done (by kernel_rfl) ?_ _
          go_wp2
          refine bodyPost_ret (results_cc rfl rfl rfl ZE.out.cel.whole YE.out.cel.whole _ _ Try.underlying98 Try.underlying33 rfl rfl (by kernel_rfl) (by kernel_rfl)) rfl ?_
          exact ⟨s11, ⟨a1, a2, a3, a4, a5, a6, rs, ws, false⟩, _, _, _, rfl, D11.out, ownsRow_baseN IE.out (by omega), ownsRow_baseN JE.out (by omega), BE.out, RAN.out, MOD.out⟩
      · have HB1 := Lib.hid hb1
        obtain ⟨qv, hqv⟩ : ∃ qv, qv = decide (b = 1) := ⟨_, rfl⟩
        have qb : ((b : Int) == 1) = qv := by
          rw [hqv]
          by_cases h : b = 1
          · subst h; rfl
          · rw [decide_eq_false h, beq_eq_false_iff_ne]; omega
        have HQV := Lib.hid hqv
        clear hqv
        have cc := C10b.out.cell 8 rfl
        have cf := C10b.out.soft 8
        have P10ba := Lib.hid (P10b.out.bel (Bel.store (((w10).setCell ⟨w.heap.size, 0, none⟩ (.slice A10 s10.xs.length c10)).setCell ⟨w.heap.size, 1, none⟩ (.int .i64 (s10.er : Int))) (w.heap.size + 3) 8 (.bool qv)) (by omega))
        have Z10ba := Lib.hid (Z10b.out.bel (Bel.store (((w10).setCell ⟨w.heap.size, 0, none⟩ (.slice A10 s10.xs.length c10)).setCell ⟨w.heap.size, 1, none⟩ (.int .i64 (s10.er : Int))) (w.heap.size + 3) 8 (.bool qv)) (by omega))
        have Y10ba := Lib.hid (Y10b.out.bel (Bel.store (((w10).setCell ⟨w.heap.size, 0, none⟩ (.slice A10 s10.xs.length c10)).setCell ⟨w.heap.size, 1, none⟩ (.int .i64 (s10.er : Int))) (w.heap.size + 3) 8 (.bool qv)) (by omega))
        have C10ba := Lib.hid (show Hold ((((w10).setCell ⟨w.heap.size, 0, none⟩ (.slice A10 s10.xs.length c10)).setCell ⟨w.heap.size, 1, none⟩ (.int .i64 (s10.er : Int))).setCell ⟨(w.heap.size + 3), 8, none⟩ (.bool qv)) (w.heap.size + 3) 33 [encN a1, encN a2, encN a3, encN a4, encN a5, encN a6, va, vb, .bool qv] from C10b.out.put 8 (.bool qv))
        have I10ba := Lib.hid (ownsRow_put I10b.out (w.heap.size + 3) 8 (.bool qv) (fun q e => by have := KV.out q e; omega))
        have J10ba := Lib.hid (ownsRow_put J10b.out (w.heap.size + 3) 8 (.bool qv) (fun q e => by have := KW.out q e; omega))
        have B10ba := Lib.hid (B10b.out.setCell (p := ⟨(w.heap.size + 3), 8, none⟩) (by show w.heap.size ≤ (w.heap.size + 3); omega) (.bool qv))
        clear P10b Z10b Y10b C10b I10b J10b B10b
        obtain ⟨wf, ef⟩ : ∃ wf, wf = (((w10).setCell ⟨w.heap.size, 0, none⟩ (.slice A10 s10.xs.length c10)).setCell ⟨w.heap.size, 1, none⟩ (.int .i64 (s10.er : Int))).setCell ⟨(w.heap.size + 3), 8, none⟩ (.bool qv) := ⟨_, rfl⟩
        have PF := Lib.hid (ef ▸ P10ba.out)
        have ZF := Lib.hid (ef ▸ Z10ba.out)
        have YF := Lib.hid (ef ▸ Y10ba.out)
        have CF := Lib.hid (ef ▸ C10ba.out)
        have IF := Lib.hid (ef ▸ I10ba.out)
        have JF := Lib.hid (ef ▸ J10ba.out)
        have BF := Lib.hid (ef ▸ B10ba.out)
        clear P10ba Z10ba Y10ba C10ba I10ba J10ba B10ba
        go_wp2
        rw [← ef]
        clear ef cc cf za0 zb0 za1 zb1
        obtain ⟨A1, k1, rfl⟩ := ownsRow_slice IF.out
        obtain ⟨A2, k2, rfl⟩ := ownsRow_slice JF.out
        have TZ := Lib.hid (show wf.drew.there (w.heap.size + 1) 0 ([.slice A10 s10.xs.length c10, .int .i64 (s10.er : Int)] : List Value).length from ZF.out.there (Nat.le_refl 2))
        have SZ := bel_setCells wf.drew (w.heap.size + 1) [.slice A10 s10.xs.length c10, .int .i64 (s10.er : Int)] 0
        have CZ := Lib.hid (show Hold (wf.drew.setCells (w.heap.size + 1) 0 [.slice A10 s10.xs.length c10, .int .i64 (s10.er : Int)]) (w.heap.size + 3) 33 [encN a1, encN a2, encN a3, encN a4, encN a5, encN a6, .slice A1 rs.length k1, .slice A2 ws.length k2, .bool qv] from (show Hold wf.drew _ _ _ from CF.out).bel SZ (by omega))
        have YZ := Lib.hid ((show Hold wf.drew (w.heap.size + 2) 33 [.int .i64 0, .int .i64 0, .int .i64 0, .int .i64 0, .int .i64 0, .int .i64 0, .slice none 0 0, .slice none 0 0, .bool false] from YF.out).bel SZ (by omega))
        have FZ := Hold.set [.slice A10 s10.xs.length c10, .int .i64 (s10.er : Int)] [] [.slice none 0 0, .int .i64 0] [] rfl _ (show Hold wf.drew (w.heap.size + 1) 98 ([] ++ [.slice none 0 0, .int .i64 0] ++ []) from ZF.out)
        have TY := Lib.hid (show (wf.drew.setCells (w.heap.size + 1) 0 [.slice A10 s10.xs.length c10, .int .i64 (s10.er : Int)]).there (w.heap.size + 2) 0 ([encN a1, encN a2, encN a3, encN a4, encN a5, encN a6, .slice A1 rs.length k1, .slice A2 ws.length k2, .bool qv] : List Value).length from YZ.out.there (Nat.le_refl 9))
        have SY := bel_setCells (wf.drew.setCells (w.heap.size + 1) 0 [.slice A10 s10.xs.length c10, .int .i64 (s10.er : Int)]) (w.heap.size + 2) [encN a1, encN a2, encN a3, encN a4, encN a5, encN a6, .slice A1 rs.length k1, .slice A2 ws.length k2, .bool qv] 0
        have FY := Hold.set [encN a1, encN a2, encN a3, encN a4, encN a5, encN a6, .slice A1 rs.length k1, .slice A2 ws.length k2, .bool qv] [] [.int .i64 0, .int .i64 0, .int .i64 0, .int .i64 0, .int .i64 0, .int .i64 0, .slice none 0 0, .slice none 0 0, .bool false] [] rfl _ (show Hold (wf.drew.setCells (w.heap.size + 1) 0 [.slice A10 s10.xs.length c10, .int .i64 (s10.er : Int)]) (w.heap.size + 2) 33 ([] ++ [.int .i64 0, .int .i64 0, .int .i64 0, .int .i64 0, .int .i64 0, .int .i64 0, .slice none 0 0, .slice none 0 0, .bool false] ++ []) from YZ.out)
        have ZE := Lib.hid ((show Hold (wf.drew.setCells (w.heap.size + 1) 0 [.slice A10 s10.xs.length c10, .int .i64 (s10.er : Int)]) (w.heap.size + 1) 98 [.slice A10 s10.xs.length c10, .int .i64 (s10.er : Int)] from FZ).bel SY (by omega))
        have YE := Lib.hid (show Hold ((wf.drew.setCells (w.heap.size + 1) 0 [.slice A10 s10.xs.length c10, .int .i64 (s10.er : Int)]).setCells (w.heap.size + 2) 0 [encN a1, encN a2, encN a3, encN a4, encN a5, encN a6, .slice A1 rs.length k1, .slice A2 ws.length k2, .bool qv]) (w.heap.size + 2) 33 [encN a1, encN a2, encN a3, encN a4, encN a5, encN a6, .slice A1 rs.length k1, .slice A2 ws.length k2, .bool qv] from FY)
        have IE := Lib.hid (ownsRow_bel (ownsRow_bel (ownsRow_bel (g := 0) IF.out (Bel.of (Below.refl _ _).drew) (by omega)) SZ (by omega)) SY (by omega))
        have JE := Lib.hid (ownsRow_bel (ownsRow_bel (ownsRow_bel (g := 0) JF.out (Bel.of (Below.refl _ _).drew) (by omega)) SZ (by omega)) SY (by omega))
        have BE := Lib.hid (below_setCells (by omega : w.heap.size ≤ w.heap.size + 2) [encN a1, encN a2, encN a3, encN a4, encN a5, encN a6, .slice A1 rs.length k1, .slice A2 ws.length k2, .bool qv] 0 _ _ (below_setCells (by omega : w.heap.size ≤ w.heap.size + 1) [.slice A10 s10.xs.length c10, .int .i64 (s10.er : Int)] 0 _ _ BF.out.drew))
        clear SZ SY FZ FY
        have MOD := Lib.hid (show M.Mod ⟨a1, a2, a3, a4, a5, a6, rs, ws, qv⟩ from ⟨by have := HMQ.out; show rs.length ≤ 20; omega, by have := HMV.out; show ws.length ≤ 20; omega, fun r hr => by have := HTQ.out r hr; omega, fun r hr => by have := (HTV.out r hr).1; omega, fun r hr => by have := (HTV.out r hr).2; omega⟩)
        have RAN := Lib.hid (show P.Ran P.cmd s s10 ⟨a1, a2, a3, a4, a5, a6, rs, ws, qv⟩ from P.Ran.bind P.errs_num Ha1.out (P.Ran.bind P.errs_num Ha2.out (P.Ran.bind P.errs_num Ha3.out (P.Ran.bind P.errs_num Ha4.out (P.Ran.bind P.errs_num Ha5.out (P.Ran.bind P.errs_num Ha6.out (P.Ran.bind P.errs_few H7.out (P.Ran.bind (P.errs_rep P.errs_rd _) HRQ.out (P.Ran.bind P.errs_few H8.out (P.Ran.bind (P.errs_rep P.errs_wr _) HRV.out (P.Ran.bind P.errs_boolean (P.Ran.bind P.errs_one H10.out (by rw [if_neg HB1.out, HQV.out]; exact P.Ran.ret _ _)) (P.Ran.ret _ _))))))))))))
        refine wp_region_any (by kernel_rfl) ?_
        try (change wpAny _ _ _ _ _ _ _ (World.drew _))
        refine wpAny_ready (rs := [0, 1]) (by kernel_rfl) (by simp) ?_
        refine AllReady.cons rfl (fun K hK => ?_) (AllReady.cons rfl (fun K hK => ?_) AllReady.nil)
        · refine step_ld (by rfl) 98 _ rfl w.heap.size 0 rfl [.slice A10 s10.xs.length c10, .int .i64 (s10.er : Int)] _ ((show wf.drew.rangeAt w.heap.size 0 _ from PF.out.cel.whole)) Try.underlying98 rfl (by kernel_rfl) ?_
          try go_simp
          refine hK _ _ ?_
          clear hK K
          refine wpAny_ready (rs := [1, 2]) (by kernel_rfl) (by simp) ?_
          refine AllReady.cons rfl (fun K hK => ?_) (AllReady.cons rfl (fun K hK => ?_) AllReady.nil)
          · refine step_ld (by rfl) 33 _ rfl (w.heap.size + 3) 0 rfl [encN a1, encN a2, encN a3, encN a4, encN a5, encN a6, .slice A1 rs.length k1, .slice A2 ws.length k2, .bool qv] _ ((show wf.drew.rangeAt (w.heap.size + 3) 0 _ from CF.out.cel.whole)) Try.underlying33 rfl (by kernel_rfl) ?_
            try go_simp
            refine hK _ _ ?_
            clear hK K
            refine wpAny_ready (rs := [2]) (by kernel_rfl) (by simp) ?_
            refine AllReady.cons rfl (fun K hK => ?_) AllReady.nil
            refine step_st (by rfl) 98 _ _ rfl (w.heap.size + 1) 0 [.slice A10 s10.xs.length c10, .int .i64 (s10.er : Int)] rfl rfl TZ.out (by kernel_rfl) (by kernel_rfl) ?_
            try go_simp
            refine hK _ _ ?_
            clear hK K
            refine wpAny_ready (rs := [3]) (by kernel_rfl) (by simp) ?_
            refine AllReady.cons rfl (fun K hK => ?_) AllReady.nil
            refine step_st (by rfl) 33 _ _ rfl (w.heap.size + 2) 0 [encN a1, encN a2, encN a3, encN a4, encN a5, encN a6, .slice A1 rs.length k1, .slice A2 ws.length k2, .bool qv] rfl rfl TY.out (by kernel_rfl) (by kernel_rfl) ?_
            try go_simp
            refine hK _ _ ?_
            clear hK K
            refine wpAny_done (by kernel_rfl) ?_ _
            go_wp2
            refine bodyPost_ret (results_cc rfl rfl rfl ZE.out.cel.whole YE.out.cel.whole _ _ Try.underlying98 Try.underlying33 rfl rfl (by kernel_rfl) (by kernel_rfl)) rfl ?_
            exact ⟨s10, ⟨a1, a2, a3, a4, a5, a6, rs, ws, qv⟩, _, _, _, rfl, D10.out, ownsRow_baseN IE.out (by omega), ownsRow_baseN JE.out (by omega), BE.out, RAN.out, MOD.out⟩
          · refine step_st (by rfl) 98 _ _ rfl (w.heap.size + 1) 0 [.slice A10 s10.xs.length c10, .int .i64 (s10.er : Int)] rfl rfl TZ.out (by kernel_rfl) (by kernel_rfl) ?_
            try go_simp
            refine hK _ _ ?_
            clear hK K
            refine wpAny_ready (rs := [1]) (by kernel_rfl) (by simp) ?_
            refine AllReady.cons rfl (fun K hK => ?_) AllReady.nil
            refine step_ld (by rfl) 33 _ rfl (w.heap.size + 3) 0 rfl [encN a1, encN a2, encN a3, encN a4, encN a5, encN a6, .slice A1 rs.length k1, .slice A2 ws.length k2, .bool qv] _ (CZ.out.cel.whole) Try.underlying33 rfl (by kernel_rfl) ?_
            try go_simp
            refine hK _ _ ?_
            clear hK K
            refine wpAny_ready (rs := [3]) (by kernel_rfl) (by simp) ?_
            refine AllReady.cons rfl (fun K hK => ?_) AllReady.nil
            refine step_st (by rfl) 33 _ _ rfl (w.heap.size + 2) 0 [encN a1, encN a2, encN a3, encN a4, encN a5, encN a6, .slice A1 rs.length k1, .slice A2 ws.length k2, .bool qv] rfl rfl TY.out (by kernel_rfl) (by kernel_rfl) ?_
            try go_simp
            refine hK _ _ ?_
            clear hK K
            refine wpAny_done (by kernel_rfl) ?_ _
            go_wp2
            refine bodyPost_ret (results_cc rfl rfl rfl ZE.out.cel.whole YE.out.cel.whole _ _ Try.underlying98 Try.underlying33 rfl rfl (by kernel_rfl) (by kernel_rfl)) rfl ?_
            exact ⟨s10, ⟨a1, a2, a3, a4, a5, a6, rs, ws, qv⟩, _, _, _, rfl, D10.out, ownsRow_baseN IE.out (by omega), ownsRow_baseN JE.out (by omega), BE.out, RAN.out, MOD.out⟩
        · refine step_ld (by rfl) 33 _ rfl (w.heap.size + 3) 0 rfl [encN a1, encN a2, encN a3, encN a4, encN a5, encN a6, .slice A1 rs.length k1, .slice A2 ws.length k2, .bool qv] _ ((show wf.drew.rangeAt (w.heap.size + 3) 0 _ from CF.out.cel.whole)) Try.underlying33 rfl (by kernel_rfl) ?_
          try go_simp
          refine hK _ _ ?_
          clear hK K
          refine wpAny_ready (rs := [0]) (by kernel_rfl) (by simp) ?_
          refine AllReady.cons rfl (fun K hK => ?_) AllReady.nil
          refine step_ld (by rfl) 98 _ rfl w.heap.size 0 rfl [.slice A10 s10.xs.length c10, .int .i64 (s10.er : Int)] _ ((show wf.drew.rangeAt w.heap.size 0 _ from PF.out.cel.whole)) Try.underlying98 rfl (by kernel_rfl) ?_
          try go_simp
          refine hK _ _ ?_
          clear hK K
          refine wpAny_ready (rs := [2]) (by kernel_rfl) (by simp) ?_
          refine AllReady.cons rfl (fun K hK => ?_) AllReady.nil
          refine step_st (by rfl) 98 _ _ rfl (w.heap.size + 1) 0 [.slice A10 s10.xs.length c10, .int .i64 (s10.er : Int)] rfl rfl TZ.out (by kernel_rfl) (by kernel_rfl) ?_
          try go_simp
          refine hK _ _ ?_
          clear hK K
          refine wpAny_ready (rs := [3]) (by kernel_rfl) (by simp) ?_
          refine AllReady.cons rfl (fun K hK => ?_) AllReady.nil
          refine step_st (by rfl) 33 _ _ rfl (w.heap.size + 2) 0 [encN a1, encN a2, encN a3, encN a4, encN a5, encN a6, .slice A1 rs.length k1, .slice A2 ws.length k2, .bool qv] rfl rfl TY.out (by kernel_rfl) (by kernel_rfl) ?_
          try go_simp
          refine hK _ _ ?_
          clear hK K
          refine wpAny_done (by kernel_rfl) ?_ _
          go_wp2
          refine bodyPost_ret (results_cc rfl rfl rfl ZE.out.cel.whole YE.out.cel.whole _ _ Try.underlying98 Try.underlying33 rfl rfl (by kernel_rfl) (by kernel_rfl)) rfl ?_
          exact ⟨s10, ⟨a1, a2, a3, a4, a5, a6, rs, ws, qv⟩, _, _, _, rfl, D10.out, ownsRow_baseN IE.out (by omega), ownsRow_baseN JE.out (by omega), BE.out, RAN.out, MOD.out⟩
end Go.Proofs.Ytagngbdlpdilnaa
