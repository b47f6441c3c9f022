/- Contract of the document's Record; no conditions but those that it names. -/
import Derived.Test.YtagngbdlpdilnaaRefC
namespace Go.Proofs.Ytagngbdlpdilnaa
open Go.RowKit

def i64s (zs : List Int) : List Value := zs.map fun z => .int .i64 z
theorem one_i64 (zs : List Int) : ∀ u ∈ i64s zs, u.oneCell' = true := by
  intro u hu
  unfold i64s at hu
  rw [List.mem_map] at hu
  obtain ⟨x, _, rfl⟩ := hu
  rfl
/-- A row of numbers of one's own, read. -/
theorem ints_row {w : World} {base : Nat} {v : Value} {zs : List Int} (h : w.ownsRow base 3 1 v zs.length (i64s zs)) (h0 : 0 < zs.length) (hz : ∀ z ∈ zs, 0 ≤ z ∧ z ≤ 1099511627776) : ∃ g, Ints w v g (zs.map Int.toNat) := by
  rcases h.2 with ⟨_, e⟩ | ⟨g, cap, cur, rfl, hb, hg, hn, _⟩
  · omega
  · refine ⟨g, 0, cap, by simp, by simpa using hn, (Array.getElem?_eq_some_iff.1 hg).1, fun k hk => ?_⟩
    rw [List.length_map] at hk
    have e : (zs.map Int.toNat).getD k 0 = (zs[k]).toNat := by
      rw [List.getD, List.getElem?_map, List.getElem?_eq_getElem hk]; rfl
    have h1 := hz _ (List.getElem_mem hk)
    rw [e, Int.toNat_of_nonneg h1.1, Nat.zero_add, h.cellAt k (by omega)]
    unfold i64s
    rw [List.getElem?_map, List.getElem?_eq_getElem hk]; rfl
theorem refNumsR {w : World} {base : Nat} {v : Value} {zs : List Int} (h : w.ownsRow base 3 1 v zs.length (i64s zs)) (h0 : 0 < zs.length) (hz : ∀ z ∈ zs, 0 ≤ z ∧ z ≤ 1099511627776) (hl : zs.length ≤ 1000) : Calls Try.prog 50 #[v] w (Made8 (M.numsZ zs) w) := by
  obtain ⟨g, hi⟩ := ints_row h h0 hz
  rw [← M.numsZ_map]
  refine refNumbers_any hi ?_ (by simpa using hl)
  intro n hn
  rw [List.mem_map] at hn
  obtain ⟨z, hz', rfl⟩ := hn
  have := hz z hz'
  omega
theorem ownsRow_on' {w w' : World} {base : Nat} {t : TypeId} {k : Nat} {v : Value} {n : Nat} {xs : List Value} (h : w.ownsRow base t k v n xs) (hb : Below w.heap.size w w') : w'.ownsRow base t k v n xs := by
  refine ⟨h.1, ?_⟩
  rcases h.2 with h0 | ⟨g, cap, cur, hv, hg, hblk, r⟩
  · exact .inl h0
  · exact .inr ⟨g, cap, cur, hv, hg, (hb.block g (Array.getElem?_eq_some_iff.1 hblk).1).trans hblk, r⟩
theorem take_snocI (l : List Int) (k : Nat) (h : k < l.length) : l.take (k + 1) = l.take k ++ [l.getD k 0] := by
  rw [List.take_add_one, List.getD, List.getElem?_eq_getElem h]; rfl
theorem row_merge {w : World} {base : Nat} {v : Value} {l m : List Int} (h : w.ownsRow base 3 1 v (8 + 7) (i64s (l ++ m.take 7))) (hl : l.length = 8) (hm : m.length = 7) : w.ownsRow base 3 1 v (l ++ m).length (i64s (l ++ m)) := by
  rw [show (l ++ m).length = 8 + 7 by rw [List.length_append, hl, hm]]
  rw [List.take_of_length_le (by omega)] at h
  exact h
theorem dep_cell {w : World} {b : Nat} {r : M.Rec} {va vb : Value} (X : Cel w b [.int .i64 r.ir, .int .i64 r.is, .int .i64 r.st, .int .i64 r.pn, .int .i64 r.pr, .int .i64 r.bn, .int .i64 r.br, .int .i64 r.c.k, .int .i64 r.c.tc, .int .i64 r.c.tn, .int .i64 r.c.tt, .int .i64 r.c.tk, .int .i64 r.c.sh, va, vb, .bool r.c.cm, .int .i64 r.sq, .int .i64 r.d0, .int .i64 r.d1, .int .i64 r.d2, .int .i64 r.d3, .int .i64 r.d4, .int .i64 r.d5, .int .i64 r.d6, .bool r.kp]) (k : Nat) (hk : k < 7) : w.cell? ⟨b, 17 + k, none⟩ = some (.int .i64 ([r.d0, r.d1, r.d2, r.d3, r.d4, r.d5, r.d6].getD k 0)) := by
  match k, hk with
  | 0, _ => exact X.get 17 _ rfl
  | 1, _ => exact X.get 18 _ rfl
  | 2, _ => exact X.get 19 _ rfl
  | 3, _ => exact X.get 20 _ rfl
  | 4, _ => exact X.get 21 _ rfl
  | 5, _ => exact X.get 22 _ rfl
  | 6, _ => exact X.get 23 _ rfl
theorem lit8 (w : World) (zs : List Int) (h : zs.length ≤ 1000) : (w.alloc (.cells (i64s zs).toArray 3)).ownsRow w.heap.size 3 1 (.slice (some ⟨w.heap.size, 0, none⟩) zs.length zs.length) zs.length (i64s zs) :=
  ⟨by simp [i64s], .inr ⟨w.heap.size, zs.length, _, rfl, Nat.le_refl _, heap_alloc_new w _, Nat.le_refl _, by unfold maxLen; omega, by simp [i64s], by rw [Nat.mul_one, List.take_of_length_le (by simp [i64s])]⟩⟩

set_option maxHeartbeats 8000000 in
set_option maxRecDepth 100000 in
theorem refRecord_any {w : World} (r : M.Rec) {va vb : Value} (h : Rds w va r.c.rs) (h' : Wrs w vb r.c.ws) (F : M.FitsR r) : Calls Try.prog 22 #[.agg #[.int .i64 r.ir, .int .i64 r.is, .int .i64 r.st, .int .i64 r.pn, .int .i64 r.pr, .int .i64 r.bn, .int .i64 r.br, .int .i64 r.c.k, .int .i64 r.c.tc, .int .i64 r.c.tn, .int .i64 r.c.tt, .int .i64 r.c.tk, .int .i64 r.c.sh, va, vb, .bool r.c.cm, .int .i64 r.sq, .int .i64 r.d0, .int .i64 r.d1, .int .i64 r.d2, .int .i64 r.d3, .int .i64 r.d4, .int .i64 r.d5, .int .i64 r.d6, .bool r.kp]] w (Made8 (M.encR r) w) := by
  obtain ⟨i3, hi, hz0, hz1, hz2⟩ := info_parts info3
  obtain ⟨i0, gi, gz0, gz1, gz2⟩ := info_parts info5
  have RR := Lib.hid (h.push (.cells #[.int .i64 r.ir, .int .i64 r.is, .int .i64 r.st, .int .i64 r.pn, .int .i64 r.pr, .int .i64 r.bn, .int .i64 r.br, .int .i64 r.c.k, .int .i64 r.c.tc, .int .i64 r.c.tn, .int .i64 r.c.tt, .int .i64 r.c.tk, .int .i64 r.c.sh, va, vb, .bool r.c.cm, .int .i64 r.sq, .int .i64 r.d0, .int .i64 r.d1, .int .i64 r.d2, .int .i64 r.d3, .int .i64 r.d4, .int .i64 r.d5, .int .i64 r.d6, .bool r.kp] 37))
  have WW := Lib.hid (h'.push (.cells #[.int .i64 r.ir, .int .i64 r.is, .int .i64 r.st, .int .i64 r.pn, .int .i64 r.pr, .int .i64 r.bn, .int .i64 r.br, .int .i64 r.c.k, .int .i64 r.c.tc, .int .i64 r.c.tn, .int .i64 r.c.tt, .int .i64 r.c.tk, .int .i64 r.c.sh, va, vb, .bool r.c.cm, .int .i64 r.sq, .int .i64 r.d0, .int .i64 r.d1, .int .i64 r.d2, .int .i64 r.d3, .int .i64 r.d4, .int .i64 r.d5, .int .i64 r.d6, .bool r.kp] 37))
  have X0 := Lib.hid (Cel.new w [.int .i64 r.ir, .int .i64 r.is, .int .i64 r.st, .int .i64 r.pn, .int .i64 r.pr, .int .i64 r.bn, .int .i64 r.br, .int .i64 r.c.k, .int .i64 r.c.tc, .int .i64 r.c.tn, .int .i64 r.c.tt, .int .i64 r.c.tk, .int .i64 r.c.sh, va, vb, .bool r.c.cm, .int .i64 r.sq, .int .i64 r.d0, .int .i64 r.d1, .int .i64 r.d2, .int .i64 r.d3, .int .i64 r.d4, .int .i64 r.d5, .int .i64 r.d6, .bool r.kp] 37)
  have EB := Lib.hid (below_new (o := .cells #[.int .i64 r.ir, .int .i64 r.is, .int .i64 r.st, .int .i64 r.pn, .int .i64 r.pr, .int .i64 r.bn, .int .i64 r.br, .int .i64 r.c.k, .int .i64 r.c.tc, .int .i64 r.c.tn, .int .i64 r.c.tt, .int .i64 r.c.tk, .int .i64 r.c.sh, va, vb, .bool r.c.cm, .int .i64 r.sq, .int .i64 r.d0, .int .i64 r.d1, .int .i64 r.d2, .int .i64 r.d3, .int .i64 r.d4, .int .i64 r.d5, .int .i64 r.d6, .bool r.kp] 37) (Below.refl w.heap.size w))
  have O1 := Lib.hid (show ((w.alloc (.cells #[.int .i64 r.ir, .int .i64 r.is, .int .i64 r.st, .int .i64 r.pn, .int .i64 r.pr, .int .i64 r.bn, .int .i64 r.br, .int .i64 r.c.k, .int .i64 r.c.tc, .int .i64 r.c.tn, .int .i64 r.c.tt, .int .i64 r.c.tk, .int .i64 r.c.sh, va, vb, .bool r.c.cm, .int .i64 r.sq, .int .i64 r.d0, .int .i64 r.d1, .int .i64 r.d2, .int .i64 r.d3, .int .i64 r.d4, .int .i64 r.d5, .int .i64 r.d6, .bool r.kp] 37)).alloc (.cells #[.int .i64 r.ir, .int .i64 r.is, .int .i64 r.st, .int .i64 r.pn, .int .i64 r.pr, .int .i64 r.bn, .int .i64 r.br, .int .i64 r.sq] 3)).ownsRow (w.alloc (.cells #[.int .i64 r.ir, .int .i64 r.is, .int .i64 r.st, .int .i64 r.pn, .int .i64 r.pr, .int .i64 r.bn, .int .i64 r.br, .int .i64 r.c.k, .int .i64 r.c.tc, .int .i64 r.c.tn, .int .i64 r.c.tt, .int .i64 r.c.tk, .int .i64 r.c.sh, va, vb, .bool r.c.cm, .int .i64 r.sq, .int .i64 r.d0, .int .i64 r.d1, .int .i64 r.d2, .int .i64 r.d3, .int .i64 r.d4, .int .i64 r.d5, .int .i64 r.d6, .bool r.kp] 37)).heap.size 3 1 (.slice (some ⟨w.heap.size + 1, 0, none⟩) 8 8) 8 (i64s [r.ir, r.is, r.st, r.pn, r.pr, r.bn, r.br, r.sq]) from by
    have := lit8 (w.alloc (.cells #[.int .i64 r.ir, .int .i64 r.is, .int .i64 r.st, .int .i64 r.pn, .int .i64 r.pr, .int .i64 r.bn, .int .i64 r.br, .int .i64 r.c.k, .int .i64 r.c.tc, .int .i64 r.c.tn, .int .i64 r.c.tt, .int .i64 r.c.tk, .int .i64 r.c.sh, va, vb, .bool r.c.cm, .int .i64 r.sq, .int .i64 r.d0, .int .i64 r.d1, .int .i64 r.d2, .int .i64 r.d3, .int .i64 r.d4, .int .i64 r.d5, .int .i64 r.d6, .bool r.kp] 37)) [r.ir, r.is, r.st, r.pn, r.pr, r.bn, r.br, r.sq] (by simp)
    simpa [i64s] using this)
  have B1 := Lib.hid (below_new (o := .cells #[.int .i64 r.ir, .int .i64 r.is, .int .i64 r.st, .int .i64 r.pn, .int .i64 r.pr, .int .i64 r.bn, .int .i64 r.br, .int .i64 r.sq] 3) (Below.refl (w.alloc (.cells #[.int .i64 r.ir, .int .i64 r.is, .int .i64 r.st, .int .i64 r.pn, .int .i64 r.pr, .int .i64 r.bn, .int .i64 r.br, .int .i64 r.c.k, .int .i64 r.c.tc, .int .i64 r.c.tn, .int .i64 r.c.tt, .int .i64 r.c.tk, .int .i64 r.c.sh, va, vb, .bool r.c.cm, .int .i64 r.sq, .int .i64 r.d0, .int .i64 r.d1, .int .i64 r.d2, .int .i64 r.d3, .int .i64 r.d4, .int .i64 r.d5, .int .i64 r.d6, .bool r.kp] 37)).heap.size (w.alloc (.cells #[.int .i64 r.ir, .int .i64 r.is, .int .i64 r.st, .int .i64 r.pn, .int .i64 r.pr, .int .i64 r.bn, .int .i64 r.br, .int .i64 r.c.k, .int .i64 r.c.tc, .int .i64 r.c.tn, .int .i64 r.c.tt, .int .i64 r.c.tk, .int .i64 r.c.sh, va, vb, .bool r.c.cm, .int .i64 r.sq, .int .i64 r.d0, .int .i64 r.d1, .int .i64 r.d2, .int .i64 r.d3, .int .i64 r.d4, .int .i64 r.d5, .int .i64 r.d6, .bool r.kp] 37))))
  have HZ := Lib.hid (show ∀ z ∈ [r.ir, r.is, r.st, r.pn, r.pr, r.bn, r.br, r.sq] ++ [r.d0, r.d1, r.d2, r.d3, r.d4, r.d5, r.d6], 0 ≤ z ∧ z ≤ 1099511627776 from by
    intro z hz
    simp only [List.mem_append, List.mem_cons, List.not_mem_nil, or_false] at hz
    rcases hz with (rfl | rfl | rfl | rfl | rfl | rfl | rfl | rfl) | (rfl | rfl | rfl | rfl | rfl | rfl | rfl)
    · exact F.ir
    · exact F.is
    · exact F.st
    · exact F.pn
    · exact F.pr
    · exact F.bn
    · exact F.br
    · exact F.sq
    · exact F.d0
    · exact F.d1
    · exact F.d2
    · exact F.d3
    · exact F.d4
    · exact F.d5
    · exact F.d6)
  clear h h'
  go_enter Try.func22, Try.ntmps22
  go_wp2
  generalize (w.alloc (.cells #[.int .i64 r.ir, .int .i64 r.is, .int .i64 r.st, .int .i64 r.pn, .int .i64 r.pr, .int .i64 r.bn, .int .i64 r.br, .int .i64 r.c.k, .int .i64 r.c.tc, .int .i64 r.c.tn, .int .i64 r.c.tt, .int .i64 r.c.tk, .int .i64 r.c.sh, va, vb, .bool r.c.cm, .int .i64 r.sq, .int .i64 r.d0, .int .i64 r.d1, .int .i64 r.d2, .int .i64 r.d3, .int .i64 r.d4, .int .i64 r.d5, .int .i64 r.d6, .bool r.kp] 37)) = wB at *
  obtain ⟨L8, hL8⟩ : ∃ L8, L8 = [r.ir, r.is, r.st, r.pn, r.pr, r.bn, r.br, r.sq] := ⟨_, rfl⟩
  obtain ⟨D7, hD7⟩ : ∃ D7, D7 = [r.d0, r.d1, r.d2, r.d3, r.d4, r.d5, r.d6] := ⟨_, rfl⟩
  have hd7 : D7.length = 7 := by rw [hD7]; rfl
  have hl8 : L8.length = 8 := by rw [hL8]; rfl
  rw [← hL8] at O1 HZ
  rw [← hD7] at HZ
  have HC := Lib.hid (show ∀ w' k, Below wB.heap.size wB w' → k < 7 → w'.cell? ⟨w.heap.size, 17 + k, none⟩ = some (.int .i64 (D7.getD k 0)) from fun w' k hb hk => by rw [hD7]; exact dep_cell (X0.out.on hb) k hk)
  have H8 := Lib.hid hL8
  have HD := Lib.hid hD7
  have HN7 := Lib.hid hd7
  have HN8 := Lib.hid hl8
  clear hL8 hD7 hd7 hl8
  go_loopw [3, 4] (fun y i wr => ∃ k : Nat, k ≤ 7 ∧ i = .int .i64 k ∧ wr.ownsRow wB.heap.size 3 1 y (8 + k) (i64s (L8 ++ D7.take k)) ∧ Below wB.heap.size wB wr) (fun _ i _ => 7 - (intOf i).toNat)
  case atStart => exact ⟨0, Nat.zero_le _, rfl, by simpa using O1.out, B1.out⟩
  case round =>
    obtain ⟨k, hk, rfl, hrow, hbw⟩ := hrel
    obtain ⟨wr, hwr, hrow, hbw⟩ : ∃ wr' : World, wr' = _ ∧ wr'.ownsRow wB.heap.size 3 1 _ (8 + k) _ ∧ Below wB.heap.size wB wr' := ⟨_, rfl, hrow, hbw⟩
    subst hwr
    have HR := Lib.hid hrow
    have HB := Lib.hid hbw
    by_cases hlt : k < 7
    · have hc1 := HC.out wr k hbw hlt
      have HT := Lib.hid (take_snocI D7 k (by rw [HN7.out]; exact hlt))
      have hsz := hbw.size
      clear hrow hbw
      generalize D7.getD k 0 = d at *
      have hi1 : (k : Int) < 7 := by omega
      go_wp2_with
        (at_builtin
         refine wpList_append_own_at _ rfl _ _ 91 rfl wB.heap.size 3 i3 (.int .i64 0) 1 8 Try.underlying91 hi hz0 hz1 hz2 rfl (by decide) _ _ _ rfl (HR.out.alloc _) ⟨wr.heap.size, 0, none⟩ 1 1 [.int .i64 d] rfl rfl (cell_one_new _ _ _) (by simp [Value.oneCell']) (by unfold maxLen; omega) (by omega) (by simp; omega) ?_
         intro v' w3 hown3 hgrow3 hnil3 hat3
         have O3 := Lib.hid hown3
         have B3 := Lib.hid ((Ext.made hgrow3 hat3).below (below_new HB.out) (by simp; omega) (fun k e => (World.ownsRow.lt HR.out k e).1))
         clear hown3 hgrow3 hnil3 hat3)
      go_roundw
      case rel => exact ⟨k + 1, by omega, by go_num, by rw [HT.out]; have := O3.out; simpa [i64s, Nat.add_assoc] using this, B3.out⟩
      case measure => simp [intOf]; omega
    · obtain rfl : k = 7 := by omega
      have hz := HZ.out
      have hrow2 := row_merge hrow HN8.out HN7.out
      have hlen : (L8 ++ D7).length = 15 := by rw [List.length_append, HN8.out, HN7.out]
      have HR2 := Lib.hid hrow2
      have HLN := Lib.hid hlen
      have HOne := Lib.hid (Own.one wr 2 (by omega))
      have hn := M.numsZ_len (L8 ++ D7)
      rw [hlen] at hn
      clear hrow2 hlen hrow HR hz
      have hsz := hbw.size
      go_wp2_with (fail)
      refine (refNumsR (HR2.out.alloc _) (by rw [HLN.out]; omega) HZ.out (by rw [HLN.out]; omega)).mono ?_
      rintro e w4 ⟨v4, rfl, ho2, hb2⟩
      obtain ⟨v5, w5, hr, ho3, hb3⟩ := put_new (w := wB) (HOne.out.base hsz) (below_new HB.out) ho2 hb2 (by simp; omega)
      have O5 := Lib.hid ho3
      have B5 := Lib.hid hb3
      have X5 := X0.out.on hb3
      have p24 := X5.get 24 _ rfl
      have L5 : ([UInt8.ofNat 2] ++ M.numsZ (L8 ++ D7)).length ≤ 200 := by simp; omega
      have HCL := Lib.hid (show (M.encC r.c).length ≤ 7000 from by
        have h1 := M.numsZ_len [r.c.k, r.c.tc, r.c.tn]
        have h2 := M.numsZ_len [r.c.tt, r.c.tk, r.c.sh]
        have h3 := M.numsZ_len [(r.c.rs.length : Int)]
        have h4 := M.numsZ_len [(r.c.ws.length : Int)]
        have h5 := M.rds_len r.c.rs (fun x hx => (F.c.rs x hx).1)
        have h6 := M.wrs_len r.c.ws F.c.ws
        have h7 := M.flag_len r.c.cm
        have h8 := F.c.rl
        have h9 := F.c.wl
        simp only [M.encC, List.length_append, List.length_cons, List.length_nil] at *
        omega)
      have HE := Lib.hid (show [UInt8.ofNat 2] ++ M.numsZ (L8 ++ D7) ++ M.flag r.kp ++ M.encC r.c = M.encR r by
        rw [H8.out, HD.out]
        simp only [M.encR, M.numsZ_cons, M.numsZ_nil, List.append_assoc, List.append_nil, List.cons_append, List.nil_append]
        rfl)
      clear ho2 hb2 ho3 hb3 X5 HR2 HB HOne HC hn
      generalize hy : [UInt8.ofNat 2] ++ M.numsZ (L8 ++ D7) = y5 at O5 L5
      rw [hy] at HE
      clear hy
      rcases two r.kp with e0 | e0
      · have HG := Lib.hid (show M.flag r.kp = [UInt8.ofNat 1] by rw [e0]; rfl)
        go_wp2_with
          (first
           | (at_builtin; refine Lib.wpList_append_run _ rfl _ _ _ _ rfl _ _ rfl rfl _ _ hr9 ?_)
           | (at_builtin; refine Lib.wpList_append_run _ rfl _ _ _ _ rfl _ _ rfl rfl _ _ hr ?_)
           | (at_builtin
              refine wpList_append_own_at _ rfl _ _ 46 rfl wB.heap.size 5 i0 (.int .u8 0) 1 1 Try.underlying46 gi gz0 gz1 gz2 rfl (by decide) _ _ _ rfl (O5.out.alloc _) ⟨w5.heap.size, 0, none⟩ 1 1 [.int .u8 1] rfl rfl (cell_one_new _ _ _) (by simp [Value.oneCell']) (by unfold maxLen; omega) (by omega) (by have := B5.out.size; simp; omega) ?_
              intro v6 w6 hown3 hgrow3 hnil3 hat3
              have O6 := Lib.hid (Own.snoc (n := 1) (by omega) hown3)
              have B6 := Lib.hid ((Ext.made hgrow3 hat3).below (below_new B5.out) (by have := B5.out.size; simp; omega) (fun k e => (O5.out.lt e).1))
              clear hown3 hgrow3 hnil3 hat3
              have X6 := X0.out.on B6.out
              have p7 := X6.get 7 _ rfl
              have p8 := X6.get 8 _ rfl
              have p9 := X6.get 9 _ rfl
              have p10 := X6.get 10 _ rfl
              have p11 := X6.get 11 _ rfl
              have p12 := X6.get 12 _ rfl
              have p13 := X6.get 13 _ rfl
              have p14 := X6.get 14 _ rfl
              have p15 := X6.get 15 _ rfl
              clear X6)
           | (go_at_call 21
              refine (refCommand_any r.c (RR.out.below B6.out) (WW.out.below B6.out) F.c).mono ?_
              rintro e w8 ⟨v8, rfl, ho2, hb2⟩
              obtain ⟨v9, w9, hr9, ho3, hb3⟩ := put_new O6.out B6.out ho2 hb2 (by have := HCL.out; simp; omega)
              have O9 := Lib.hid ho3
              have B9 := Lib.hid hb3
              clear ho2 hb2 ho3 hb3))
        go_ret
        exact ⟨_, rfl, by have := O9.out; rw [← HG.out, HE.out] at this; exact this.base EB.out.size, below_on EB.out B9.out⟩
      · have HG := Lib.hid (show M.flag r.kp = [UInt8.ofNat 0] by rw [e0]; rfl)
        go_wp2_with
          (first
           | (at_builtin; refine Lib.wpList_append_run _ rfl _ _ _ _ rfl _ _ rfl rfl _ _ hr9 ?_)
           | (at_builtin; refine Lib.wpList_append_run _ rfl _ _ _ _ rfl _ _ rfl rfl _ _ hr ?_)
           | (at_builtin
              refine wpList_append_own_at _ rfl _ _ 46 rfl wB.heap.size 5 i0 (.int .u8 0) 1 1 Try.underlying46 gi gz0 gz1 gz2 rfl (by decide) _ _ _ rfl (O5.out.alloc _) ⟨w5.heap.size, 0, none⟩ 1 1 [.int .u8 0] rfl rfl (cell_one_new _ _ _) (by simp [Value.oneCell']) (by unfold maxLen; omega) (by omega) (by have := B5.out.size; simp; omega) ?_
              intro v6 w6 hown3 hgrow3 hnil3 hat3
              have O6 := Lib.hid (Own.snoc (n := 0) (by omega) hown3)
              have B6 := Lib.hid ((Ext.made hgrow3 hat3).below (below_new B5.out) (by have := B5.out.size; simp; omega) (fun k e => (O5.out.lt e).1))
              clear hown3 hgrow3 hnil3 hat3
              have X6 := X0.out.on B6.out
              have p7 := X6.get 7 _ rfl
              have p8 := X6.get 8 _ rfl
              have p9 := X6.get 9 _ rfl
              have p10 := X6.get 10 _ rfl
              have p11 := X6.get 11 _ rfl
              have p12 := X6.get 12 _ rfl
              have p13 := X6.get 13 _ rfl
              have p14 := X6.get 14 _ rfl
              have p15 := X6.get 15 _ rfl
              clear X6)
           | (go_at_call 21
              refine (refCommand_any r.c (RR.out.below B6.out) (WW.out.below B6.out) F.c).mono ?_
              rintro e w8 ⟨v8, rfl, ho2, hb2⟩
              obtain ⟨v9, w9, hr9, ho3, hb3⟩ := put_new O6.out B6.out ho2 hb2 (by have := HCL.out; simp; omega)
              have O9 := Lib.hid ho3
              have B9 := Lib.hid hb3
              clear ho2 hb2 ho3 hb3))
        go_ret
        exact ⟨_, rfl, by have := O9.out; rw [← HG.out, HE.out] at this; exact this.base EB.out.size, below_on EB.out B9.out⟩
end Go.Proofs.Ytagngbdlpdilnaa
