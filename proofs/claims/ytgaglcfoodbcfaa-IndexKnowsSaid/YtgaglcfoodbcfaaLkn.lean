/- The walk of IndexKnows; no conditions. -/
import Derived.Test.YtgaglcfoodbcfaaApw
import Derived.Test.YtgaglcfoodbcfaaSme
import Derived.Test.YtgaglcfoodbcfaaDkn
import Derived.Test.YtgaglcfoodbcfaaLat
import Derived.Test.YtgaglcfoodbcfaaSlo
import Derived.Test.YtgaglcfoodbcfaaReg
import Derived.Test.YtgaglcfoodbcfaaArg
import Derived.BigQuiet
import Derived.Deep.QuietTactic
namespace Go.Proofs.Ytgaglcfoodbcfaa
open Go.ChangeShapes Go.WideShapes Go.ChangeAt Go.RowKit

theorem hold_put {w : World} {b : Nat} {t : TypeId} {L : List Value} (h : Hold w b t L) (o : Nat) (v : Value) : Hold (w.setCell ⟨b, o, none⟩ v) b t (L.set o v) := by
  unfold Hold at h ⊢
  rw [heap_setCell_same w b o _ t _ h]
  simp
theorem hold_soft {w : World} {b : Nat} {t : TypeId} {L : List Value} (h : Hold w b t L) (o : Nat) : w.frozen? ⟨b, o, none⟩ = false := frozen_of_row w b o _ t h
/-- A block of writes whose first cells are texts that are short enough. -/
def Str (w : World) (g n L : Nat) : Prop := ∃ C, Hold w g 46 C ∧ ∀ j, j < n → ∃ s : ByteArray, C[j]? = some (.string s) ∧ s.size ≤ L
theorem Str.le {w : World} {g n L L' : Nat} (h : Str w g n L) (hl : L ≤ L') : Str w g n L' := by
  obtain ⟨C, h1, h2⟩ := h
  exact ⟨C, h1, fun j hj => by obtain ⟨s, e, l⟩ := h2 j hj; exact ⟨s, e, by omega⟩⟩
theorem Str.on {w w' : World} {g n L : Nat} (h : Str w g n L) (k : Below w.heap.size w w') : Str w' g n L := by
  obtain ⟨C, h1, h2⟩ := h
  exact ⟨C, h1.on k, h2⟩
theorem Str.set {w : World} {g n L q p : Nat} {s' : ByteArray} (h : Str w g n L) (hs : s'.size ≤ L + 1) : Str (w.setCell ⟨q, p, none⟩ (.string s')) g n (L + 1) := by
  obtain ⟨C, h1, h2⟩ := h
  by_cases e : q = g
  · subst e
    refine ⟨C.set p (.string s'), hold_put h1 p _, fun j hj => ?_⟩
    obtain ⟨s, e, l⟩ := h2 j hj
    by_cases hp : p = j
    · subst hp
      exact ⟨s', by rw [List.getElem?_set_self (List.getElem?_eq_some_iff.1 e).1], hs⟩
    · exact ⟨s, by rw [List.getElem?_set_ne hp]; exact e, by omega⟩
  · refine ⟨C, (Below.heap_setCell _ _ _ _ (fun e' => e e'.symm)).trans h1, fun j hj => ?_⟩
    obtain ⟨s, e, l⟩ := h2 j hj
    exact ⟨s, e, by omega⟩
/-- The writes of a record may be written over. -/
def WOk (B : Nat) (w : World) (z : Rv) (L : Nat) : Prop := (∃ A c, z.va = .slice A z.r.c.rs.length c) ∧ ((z.r.c.ws.length = 0 ∧ ∃ A c, z.vb = .slice A z.r.c.ws.length c) ∨ ∃ g cap, z.vb = .slice (some ⟨g, 0, none⟩) z.r.c.ws.length cap ∧ B ≤ g ∧ Str w g (2 * z.r.c.ws.length) L)
theorem WOk.le {B L L' : Nat} {w : World} {z : Rv} (h : WOk B w z L) (hl : L ≤ L') : WOk B w z L' := ⟨h.1, h.2.imp id fun ⟨g, cap, e, hb, s⟩ => ⟨g, cap, e, hb, s.le hl⟩⟩
theorem WOk.on {B L : Nat} {w w' : World} {z : Rv} (h : WOk B w z L) (k : Below w.heap.size w w') : WOk B w' z L := ⟨h.1, h.2.imp id fun ⟨g, cap, e, hb, s⟩ => ⟨g, cap, e, hb, s.on k⟩⟩
theorem WOk.set {B L q p : Nat} {w : World} {z : Rv} {s' : ByteArray} (h : WOk B w z L) (hs : s'.size ≤ L + 1) : WOk B (w.setCell ⟨q, p, none⟩ (.string s')) z (L + 1) := ⟨h.1, h.2.imp id fun ⟨g, cap, e, hb, s⟩ => ⟨g, cap, e, hb, s.set hs⟩⟩
theorem wrsC_str {l : List (List UInt8 × List UInt8)} {n : Nat} (h : ∀ x ∈ l, x.1.length ≤ n ∧ x.2.length ≤ n) {j : Nat} (hj : j < l.length * 2) : ∃ s : ByteArray, (wrsC l)[j]? = some (.string s) ∧ s.size ≤ n := by
  have hi : j / 2 < l.length := by omega
  have e : j = j / 2 * 2 + j % 2 := by omega
  have hm : l.getD (j / 2) wr0 ∈ l := by
    rw [List.getD, List.getElem?_eq_getElem hi]; exact List.getElem_mem hi
  have hx := h _ hm
  have h2 : j % 2 = 0 ∨ j % 2 = 1 := by omega
  have hat := wrsC_at l (j / 2) (j % 2) hi (by omega)
  rw [← e] at hat
  rw [hat]
  rcases h2 with h2 | h2
  · rw [h2]; exact ⟨⟨(l.getD (j / 2) wr0).1.toArray⟩, rfl, by rw [size_mk]; exact hx.1⟩
  · rw [h2]; exact ⟨⟨(l.getD (j / 2) wr0).2.toArray⟩, rfl, by rw [size_mk]; exact hx.2⟩
theorem wok_of {B : Nat} {w : World} {z : Rv} (hr : OwnR B w z.va z.r.c.rs) (hw : OwnW B w z.vb z.r.c.ws) (m : M.Mod z.r.c) : WOk B w z 100 := by
  obtain ⟨B1, _, o1⟩ := hr
  obtain ⟨B2, hB2, o2⟩ := hw
  obtain ⟨A1, c1, e1⟩ := ownsRow_slice o1
  refine ⟨⟨A1, c1, e1⟩, ?_⟩
  by_cases h0 : z.r.c.ws.length = 0
  · obtain ⟨A2, c2, e2⟩ := ownsRow_slice o2
    exact .inl ⟨h0, A2, c2, e2⟩
  · right
    rcases o2.2 with ⟨e, hz⟩ | ⟨g, cap, cur, e, hb, hg, hn, hm, hs, ht⟩
    · omega
    · refine ⟨g, cap, e, by omega, cur.toList, by unfold Hold; rw [Array.toArray_toList]; exact hg, fun j hj => ?_⟩
      obtain ⟨s, e1, l1⟩ := wrsC_str (n := 100) (fun x hx => ⟨m.wk x hx, m.wv x hx⟩) (show j < z.r.c.ws.length * 2 by omega)
      refine ⟨s, ?_, l1⟩
      rw [← ht] at e1
      have := (List.getElem?_eq_some_iff.1 e1).1
      rwa [List.getElem?_take_of_lt (by omega)] at e1
set_option maxHeartbeats 16000000 in
set_option maxRecDepth 100000 in
theorem knows_law (i1 i2 : Int) (c : M.Cmd) (w : World) {v ua ub : Value} {X : List Rv} (h : Rows w v X) (_hq : Sqs X) (g : Rds w ua c.rs) (g' : Wrs w ub c.ws) :
    Calls Try.prog 3 #[v, .agg #[.int .i64 i1, .int .i64 i2], .agg #[.int .i64 c.k, .int .i64 c.tc, .int .i64 c.tn, .int .i64 c.tt, .int .i64 c.tk, .int .i64 c.sh, ua, ub, .bool c.cm]] w fun e w' => e = .returned (.bool true) ∧ Below w.heap.size w w' := by
  obtain ⟨A, cc, rfl⟩ := rowN_sliceOf h.row
  obtain ⟨A5, c5, ec⟩ := rowN_sliceOf g
  obtain ⟨A6, c6, ed⟩ := rowN_sliceOf g'
  subst ec ed
  have hb0 : Below w.heap.size w ((w.alloc (.cells #[.int .i64 i1, .int .i64 i2] 24)).alloc (.cells #[.int .i64 c.k, .int .i64 c.tc, .int .i64 c.tn, .int .i64 c.tt, .int .i64 c.tk, .int .i64 c.sh, (.slice A5 c.rs.length c5), (.slice A6 c.ws.length c6), .bool c.cm] 32)) := below_new (below_new (Below.refl _ _))
  have h1 : Hold ((w.alloc (.cells #[.int .i64 i1, .int .i64 i2] 24)).alloc (.cells #[.int .i64 c.k, .int .i64 c.tc, .int .i64 c.tn, .int .i64 c.tt, .int .i64 c.tk, .int .i64 c.sh, (.slice A5 c.rs.length c5), (.slice A6 c.ws.length c6), .bool c.cm] 32)) w.heap.size 24 [.int .i64 i1, .int .i64 i2] := (Hold.new w [.int .i64 i1, .int .i64 i2] 24).on (below_new (Below.refl _ _))
  have h2 : Hold ((w.alloc (.cells #[.int .i64 i1, .int .i64 i2] 24)).alloc (.cells #[.int .i64 c.k, .int .i64 c.tc, .int .i64 c.tn, .int .i64 c.tt, .int .i64 c.tk, .int .i64 c.sh, (.slice A5 c.rs.length c5), (.slice A6 c.ws.length c6), .bool c.cm] 32)) (w.heap.size + 1) 32 [.int .i64 c.k, .int .i64 c.tc, .int .i64 c.tn, .int .i64 c.tt, .int .i64 c.tk, .int .i64 c.sh, (.slice A5 c.rs.length c5), (.slice A6 c.ws.length c6), .bool c.cm] := by
    have := Hold.new (w.alloc (.cells #[.int .i64 i1, .int .i64 i2] 24)) [.int .i64 c.k, .int .i64 c.tc, .int .i64 c.tn, .int .i64 c.tt, .int .i64 c.tk, .int .i64 c.sh, (.slice A5 c.rs.length c5), (.slice A6 c.ws.length c6), .bool c.cm] 32
    simpa using this
  have HX := Lib.hid (h.below hb0)
  have HG := Lib.hid (g.below hb0)
  have HG' := Lib.hid (g'.below hb0)
  have HB := Lib.hid hb0
  have H1 := Lib.hid h1
  have H2 := Lib.hid h2
  clear h g g' hb0 h1 h2 _hq
  go_enter Try.func3, Try.ntmps3
  go_wp2_with (fail)
  generalize ((w.alloc (.cells #[.int .i64 i1, .int .i64 i2] 24)).alloc (.cells #[.int .i64 c.k, .int .i64 c.tc, .int .i64 c.tn, .int .i64 c.tt, .int .i64 c.tk, .int .i64 c.sh, (.slice A5 c.rs.length c5), (.slice A6 c.ws.length c6), .bool c.cm] 32)) = w0 at *
  refine (few_rows HX.out).mono ?_
  rintro e w1 ⟨rfl, hb1⟩
  have HB1 := Lib.hid (below_on HB.out hb1)
  rcases hf : fewX X with _ | _
  · clear hb1
    go_wp2_with (fail)
    refine (awake_any w1).mono ?_
    rintro e w2 ⟨rfl, hb2⟩
    have HB2 := Lib.hid (below_on HB1.out hb2)
    clear hb2
    go_wp2
    go_ret
    exact ⟨rfl, HB2.out⟩
  have hl := fewX_len hf
  have hm := fewX_mod hf
  have HX1 := Lib.hid (HX.out.below hb1)
  have HG1 := Lib.hid (HG.out.below hb1)
  have HG1' := Lib.hid (HG'.out.below hb1)
  have H11 := Lib.hid (H1.out.on hb1)
  have H21 := Lib.hid (H2.out.on hb1)
  have HC := Lib.hid (hold9 H21.out)
  have hb2 : Below w1.heap.size w1 (w1.alloc (.cells #[.int .i64 c.k, .int .i64 c.tc, .int .i64 c.tn, .int .i64 c.tt, .int .i64 c.tk, .int .i64 c.sh, (.slice A5 c.rs.length c5), (.slice A6 c.ws.length c6), .bool c.cm] 32)) := below_new (Below.refl _ _)
  have HF := Lib.hid (few_one (w := w1) (b := w1.heap.size) rfl c HG1.out HG1'.out)
  have HB2 := Lib.hid hb2
  clear hb1 HX HG HG' H1 H2 HB hb2
  go_wp2_with (first
    | (with_reducible refine wpList_load_mid_g ?_ 32 _ rfl (w.heap.size + 1) 0 rfl [.int .i64 c.k, .int .i64 c.tc, .int .i64 c.tn, .int .i64 c.tt, .int .i64 c.tk, .int .i64 c.sh, (.slice A5 c.rs.length c5), (.slice A6 c.ws.length c6), .bool c.cm] _ HC.out Try.underlying32 rfl (by kernel_rfl) ?_; kernel_rfl)
    | fail)
  refine HF.out.mono ?_
  rintro e w2 ⟨rfl, hb2⟩
  have hb12 := below_on HB2.out hb2
  have HB3 := Lib.hid (below_on HB1.out hb12)
  rcases hfc : M.modB c with _ | _
  · clear hb2 hb12
    go_wp2_with (fail)
    refine (awake_any w2).mono ?_
    rintro e w3 ⟨rfl, hb3⟩
    have HB4 := Lib.hid (below_on HB3.out hb3)
    clear hb3
    go_wp2
    go_ret
    exact ⟨rfl, HB4.out⟩
  have G := M.modB_iff.1 hfc
  have HX2 := Lib.hid (HX1.out.below hb12)
  have HG2 := Lib.hid (HG1.out.below hb12)
  have HG2' := Lib.hid (HG1'.out.below hb12)
  have H12 := Lib.hid (H11.out.on hb12)
  have H22 := Lib.hid (H21.out.on hb12)
  have HMO := Lib.hid hm
  have HOW := Lib.hid (own_any HX2.out (by omega) hm)
  clear hb2 hb12 HX1 HG1 HG1' H11 H21 HC HF HB2 HB1 hf hfc hm
  go_wp2_with (fail)
  refine HOW.out.mono ?_
  rintro e w3 ⟨u0, Y, rfl, hy, ho, hb3⟩
  obtain ⟨A0, k0, rfl⟩ := ownsRow_slice ho.row
  have HB4 := Lib.hid (below_on HB3.out hb3)
  have HX3 := Lib.hid (HX2.out.below hb3)
  have HY3 := Lib.hid ho.rows
  have HG3 := Lib.hid (HG2.out.below hb3)
  have HG3' := Lib.hid (HG2'.out.below hb3)
  have H13 := Lib.hid (H12.out.on hb3)
  have H23 := Lib.hid (H22.out.on hb3)
  have HYL := Lib.hid (len_rcs hy.out)
  have HMY := Lib.hid (mod_rcs hy.out HMO.out)
  clear ho hb3 HX2 HG2 HG2' H12 H22 HB3 HOW
  obtain ⟨W3, hW3⟩ : ∃ W, W = w3.drew := ⟨_, rfl⟩
  have hbd : Below w3.heap.size w3 W3 := by rw [hW3]; exact (Below.refl _ _).drew
  have HS3 := Lib.hid (show W3.heap.size = w3.heap.size by rw [hW3]; rfl)
  have HWE := Lib.hid hW3
  have HBD := Lib.hid hbd
  have g1 := hold2 (H13.out.on hbd)
  have g2 := hold9 (H23.out.on hbd)
  have HK0 := Lib.hid (known_any (HY3.out.below hbd) (by have := HYL.out; omega) HMY.out)
  clear hbd hW3
  go_wp2
  refine wp_region_held_drew (S := fun w' => w'.rangeAt w.heap.size 0 [.int .i64 i1, .int .i64 i2] ∧ w'.rangeAt (w.heap.size + 1) 0 [.int .i64 c.k, .int .i64 c.tc, .int .i64 c.tn, .int .i64 c.tt, .int .i64 c.tk, .int .i64 c.sh, (.slice A5 c.rs.length c5), (.slice A6 c.ws.length c6), .bool c.cm]) (by kernel_rfl) (by rw [← HWE.out]; exact ⟨g1, g2⟩) (fun hHeld => ?_)
  rw [← HWE.out] at hHeld ⊢
  have hi24 : (Try.prog.info? 24).map (·.size) = some ([.int .i64 i1, .int .i64 i2] : List Value).length := by kernel_rfl
  have hi32 : (Try.prog.info? 32).map (·.size) = some ([.int .i64 c.k, .int .i64 c.tc, .int .i64 c.tn, .int .i64 c.tt, .int .i64 c.tk, .int .i64 c.sh, (.slice A5 c.rs.length c5), (.slice A6 c.ws.length c6), .bool c.cm] : List Value).length := by kernel_rfl
  refine wpAnyH_take (i := 0) (oi := ⟨some 25, .move (.tmp 7), _, _, _, none⟩) (v := ?_) rfl (by kernel_rfl) (by kernel_rfl) (by kernel_rfl) (fun _ _ _ h => h) (Or.inl ⟨by rfl, ?_⟩) (by assumption) ?_
  rotate_left
  · (intro w hSw; (try dsimp only at hSw); go_split_ands; go_simp; (try with_reducible rfl))
  (try simp only [Act.put]); (try simp only [List.setIfInBounds_toArray]); (try simp only [List.set_cons_succ]); (try simp only [List.set_cons_zero])
  refine wpAnyH_take (i := 2) (oi := ⟨some 27, .move (.tmp 7), _, _, _, none⟩) (v := ?_) rfl (by kernel_rfl) (by kernel_rfl) (by kernel_rfl) (fun _ _ _ h => h) (Or.inl ⟨by rfl, ?_⟩) (by assumption) ?_
  rotate_left
  · (intro w hSw; (try dsimp only at hSw); go_split_ands; go_simp; (try with_reducible rfl))
  (try simp only [Act.put]); (try simp only [List.setIfInBounds_toArray]); (try simp only [List.set_cons_succ]); (try simp only [List.set_cons_zero])
  refine wpAnyH_take (i := 3) (oi := ⟨some 28, .load 24 (.tmp 4), _, _, _, none⟩) (v := .agg ([.int .i64 i1, .int .i64 i2] : List Value).toArray) rfl (by kernel_rfl) (by kernel_rfl) (by kernel_rfl) (fun _ _ _ h => h) (yieldsIf_load_mid (by rfl) 24 _ rfl w.heap.size 0 rfl [.int .i64 i1, .int .i64 i2] _ (fun w hSw => hSw.1) Try.underlying24 rfl hi24) (by assumption) ?_
  (try simp only [Act.put]); (try simp only [List.setIfInBounds_toArray]); (try simp only [List.set_cons_succ]); (try simp only [List.set_cons_zero])
  refine wpAnyH_take (i := 4) (oi := ⟨some 29, .load 32 (.tmp 5), _, _, _, none⟩) (v := .agg ([.int .i64 c.k, .int .i64 c.tc, .int .i64 c.tn, .int .i64 c.tt, .int .i64 c.tk, .int .i64 c.sh, (.slice A5 c.rs.length c5), (.slice A6 c.ws.length c6), .bool c.cm] : List Value).toArray) rfl (by kernel_rfl) (by kernel_rfl) (by kernel_rfl) (fun _ _ _ h => h) (yieldsIf_load_mid (by rfl) 32 _ rfl (w.heap.size + 1) 0 rfl [.int .i64 c.k, .int .i64 c.tc, .int .i64 c.tn, .int .i64 c.tt, .int .i64 c.tk, .int .i64 c.sh, (.slice A5 c.rs.length c5), (.slice A6 c.ws.length c6), .bool c.cm] _ (fun w hSw => hSw.2) Try.underlying32 rfl hi32) (by assumption) ?_
  (try simp only [Act.put]); (try simp only [List.setIfInBounds_toArray]); (try simp only [List.set_cons_succ]); (try simp only [List.set_cons_zero])
  refine wpAnyH_ready (rs := [1]) (by kernel_rfl) (by simp) ?_
  refine AllReadyH.cons (o := ⟨some 26, .call { callee := .value (.func 14), args := #[.tmp 25], argTypes := #[22] }, _, _, _, none⟩) rfl (fun K hK => ?_) AllReadyH.nil
  go_simp
  refine HK0.out.mono ?_
  rintro e w4 ⟨u1, Kn, rfl, hkn, hko, hb4⟩
  have HKO := Lib.hid hko
  have HB45 := Lib.hid hb4
  have r1 := range_on (hold_lt (H13.out.on HBD.out)) g1 hb4
  have r2 := range_on (hold_lt (H23.out.on HBD.out)) g2 hb4
  have hbw4 : Below w3.heap.size w3 w4 := below_on HBD.out hb4
  have HAG := Lib.hid (against_any (HY3.out.below hbw4) (by have := HYL.out; omega) HMY.out i1 i2 c (HG3.out.below hbw4) (HG3'.out.below hbw4) G)
  have HW4 := Lib.hid hbw4
  clear hko hb4 hbw4
  try go_simp
  refine hK.out _ _ (by exact ⟨r1, r2⟩) (fun hHeld => ?_)
  clear hK K
  (try simp only [Act.put]); (try simp only [List.setIfInBounds_toArray]); (try simp only [List.set_cons_succ]); (try simp only [List.set_cons_zero])
  refine wpAnyH_ready (rs := [5]) (by kernel_rfl) (by simp) ?_
  refine AllReadyH.cons (o := ⟨some 30, .call { callee := .value (.func 15), args := #[.tmp 27, .tmp 28, .tmp 29], argTypes := #[22, 24, 32] }, _, _, _, none⟩) rfl (fun K hK => ?_) AllReadyH.nil
  go_simp
  refine HAG.out.mono ?_
  rintro e w5 ⟨u2, Ag, rfl, hag, hao, hb5⟩
  have r3 := range_on (hold_lt (H13.out.on HW4.out)) r1 hb5
  have r4 := range_on (hold_lt (H23.out.on HW4.out)) r2 hb5
  obtain ⟨A9, k9, rfl⟩ := ownsRow_slice HKO.out.row
  obtain ⟨A10, k10, rfl⟩ := ownsRow_slice hao.row
  have HK5 := Lib.hid (HKO.out.below hb5)
  have HA5 := Lib.hid hao
  have HW5 := Lib.hid (below_on HW4.out hb5)
  have HSZ4 := Lib.hid (show w3.heap.size ≤ w4.heap.size from HW4.out.size)
  clear hao hb5
  try go_simp
  refine hK.out _ _ (by exact ⟨r3, r4⟩) (fun hHeld => ?_)
  clear hK K
  (try simp only [Act.put]); (try simp only [List.setIfInBounds_toArray]); (try simp only [List.set_cons_succ]); (try simp only [List.set_cons_zero])
  refine wpAnyH_take (i := 6) (oi := ⟨some 8, .assign (.tmp 26), _, _, _, none⟩) (v := ?_) rfl (by kernel_rfl) (by kernel_rfl) (by kernel_rfl) (fun _ _ _ h => h) (Or.inl ⟨by rfl, ?_⟩) (by assumption) ?_
  rotate_left
  · (intro w hSw; (try dsimp only at hSw); go_split_ands; go_simp; (try with_reducible rfl))
  (try simp only [Act.put]); (try simp only [List.setIfInBounds_toArray]); (try simp only [List.set_cons_succ]); (try simp only [List.set_cons_zero])
  refine wpAnyH_take (i := 7) (oi := ⟨some 9, .assign (.tmp 30), _, _, _, none⟩) (v := ?_) rfl (by kernel_rfl) (by kernel_rfl) (by kernel_rfl) (fun _ _ _ h => h) (Or.inl ⟨by rfl, ?_⟩) (by assumption) ?_
  rotate_left
  · (intro w hSw; (try dsimp only at hSw); go_split_ands; go_simp; (try with_reducible rfl))
  (try simp only [Act.put]); (try simp only [List.setIfInBounds_toArray]); (try simp only [List.set_cons_succ]); (try simp only [List.set_cons_zero])
  refine wpAnyH_done (by kernel_rfl) ?_ _
  have HX5 := Lib.hid (HX3.out.below HW5.out)
  have hmkn : ∀ z ∈ Kn, M.Mod z.r.c := mod_rcs hkn.out (fun x hx => HMY.out x (known_mem hx))
  have hmag : ∀ z ∈ Ag, M.Mod z.r.c := mod_rcs hag.out (fun x hx => HMY.out x (confs_mem hx))
  have hlkn : Kn.length ≤ 20 := by have := len_rcs hkn.out; have := known_len Y; have := HYL.out; omega
  have hlag : Ag.length ≤ 20 := by have := len_rcs hag.out; have := confs_len Y (i1, i2) c; have := HYL.out; omega
  have HMKN := Lib.hid hmkn
  have HMAG := Lib.hid hmag
  have HDK := Lib.hid (dknown_any HX5.out (by omega))
  clear hHeld r1 r2 r3 r4 g1 g2 HKO HB45 HAG HK0 HWE HBD hmkn hmag hi24 hi32
  go_wp2_with (fail)
  refine HDK.out.mono ?_
  rintro e w6 ⟨u3, rfl, o3, hb6⟩
  have HS1 := Lib.hid (rows_any ((HK5.out.below hb6).rows) (rows_of_owns o3 (fun x hx => (HX5.out.below hb6).tx x (known_mem hx))) (hkn.out.trans (known_rcs hy.out)) (by omega) (fun z hz => by have := (HMKN.out z hz).r; have := (HMKN.out z hz).w; omega))
  have HW6 := Lib.hid (below_on HW5.out hb6)
  have HK6 := Lib.hid (HK5.out.below hb6)
  have HA6 := Lib.hid (HA5.out.below hb6)
  clear o3 hb6 HDK HK5 HA5 HX5 HW5
  go_wp2_with (fail)
  refine HS1.out.mono ?_
  rintro e w7 ⟨rfl, hb7⟩
  have HW7 := Lib.hid (below_on HW6.out hb7)
  have HK7 := Lib.hid (HK6.out.below hb7)
  have HA7 := Lib.hid (HA6.out.below hb7)
  have I1 := Lib.hid (hold2 (H13.out.on HW7.out))
  have I2 := Lib.hid (hold9 (H23.out.on HW7.out))
  have HDA := Lib.hid (dagainst_any (HX3.out.below HW7.out) (by omega) HMO.out i1 i2 c (HG3.out.below HW7.out) (HG3'.out.below HW7.out) G)
  clear hb7 HS1 HK6 HA6 HW6
  go_wp2_with (first
    | (with_reducible refine wpList_load_mid_g ?_ 24 _ rfl w.heap.size 0 rfl [.int .i64 i1, .int .i64 i2] _ I1.out Try.underlying24 rfl (by kernel_rfl) ?_; kernel_rfl)
    | (with_reducible refine wpList_load_mid_g ?_ 32 _ rfl (w.heap.size + 1) 0 rfl [.int .i64 c.k, .int .i64 c.tc, .int .i64 c.tn, .int .i64 c.tt, .int .i64 c.tk, .int .i64 c.sh, (.slice A5 c.rs.length c5), (.slice A6 c.ws.length c6), .bool c.cm] _ I2.out Try.underlying32 rfl (by kernel_rfl) ?_; kernel_rfl)
    | fail)
  refine HDA.out.mono ?_
  rintro e w8 ⟨u4, rfl, o4, hb8⟩
  have HS2 := Lib.hid (rows_any ((HA7.out.below hb8).rows) (rows_of_owns o4 (fun x hx => ((HX3.out.below HW7.out).below hb8).tx x (confs_mem hx))) (hag.out.trans (confs_rcs (i1, i2) c hy.out)) (by omega) (fun z hz => by have := (HMAG.out z hz).r; have := (HMAG.out z hz).w; omega))
  have HW8 := Lib.hid (below_on HW7.out hb8)
  have HK8 := Lib.hid (HK7.out.below hb8)
  have HA8 := Lib.hid (HA7.out.below hb8)
  clear o4 hb8 HDA HK7 HA7 HW7 I1 I2
  go_wp2_with (fail)
  refine HS2.out.mono ?_
  rintro e w9 ⟨rfl, hb9⟩
  have HW9 := Lib.hid (below_on HW8.out hb9)
  have HK9 := HK8.out.below hb9
  have HA9 := HA8.out.below hb9
  have hb3w : w3.heap.size ≤ W3.heap.size := by have := HS3.out; omega
  obtain ⟨v', w10, hrun, orow, hgr⟩ := append_recs (X := Ag) HK9.row (RowN.of_owns HA9.row) (fun y hy => by
    obtain ⟨B1, _, q1⟩ := HA9.rs y hy
    obtain ⟨B2, _, q2⟩ := HA9.ws y hy
    obtain ⟨a1, b1, e1⟩ := ownsRow_slice q1
    obtain ⟨a2, b2, e2⟩ := ownsRow_slice q2
    rw [e1, e2]; exact ⟨rfl, rfl⟩) (by omega) (by have := HW9.out.size; have := HS3.out; omega)
  obtain ⟨kk1, kk2⟩ := HK9.kept hgr
  have HWK := Lib.hid (show ∀ z ∈ Kn ++ Ag, WOk w3.heap.size w10 z 100 from fun z hz => by
    rcases List.mem_append.1 hz with hz | hz
    · have a1 := kk1 z hz
      have a2 := kk2 z hz
      obtain ⟨B1, hB1, q1⟩ := a1
      obtain ⟨B2, hB2, q2⟩ := a2
      exact wok_of ⟨B1, by omega, q1⟩ ⟨B2, by omega, q2⟩ (HMKN.out z hz)
    · obtain ⟨B1, hB1, q1⟩ := HA9.rs z hz
      obtain ⟨B2, hB2, q2⟩ := HA9.ws z hz
      have := HSZ4.out
      exact wok_of ⟨B1, by omega, q1.kept hgr (apartT (by decide) q1 HK9.row)⟩ ⟨B2, by omega, q2.kept hgr (apartT (by decide) q2 HK9.row)⟩ (HMAG.out z hz))
  have HW10 := Lib.hid (show Below w3.heap.size w3 w10 from HW9.out.grown hgr HW9.out.size (fun i hi => by have := (HK9.row.lt i hi).1; omega))
  have HRW := Lib.hid (show w10.ownsRow w3.heap.size 44 25 v' (Kn ++ Ag).length ((Kn ++ Ag).flatMap Rv.cells) by
    rw [List.flatMap_append, List.length_append]; exact ownsRow_baseN orow hb3w)
  have hlv : (Kn ++ Ag).length ≤ 40 := by rw [List.length_append]; omega
  have HMV := Lib.hid (show ∀ z ∈ Kn ++ Ag, z.r.c.ws.length ≤ 20 from fun z hz => by
    rcases List.mem_append.1 hz with hz | hz
    · exact (HMKN.out z hz).w
    · exact (HMAG.out z hz).w)
  have hvn : Kn.length + Ag.length = (Kn ++ Ag).length := by rw [List.length_append]
  obtain ⟨A11, k11, rfl⟩ := ownsRow_slice HRW.out
  generalize Kn ++ Ag = V at *
  have HRUN := Lib.hid hrun
  clear hb9 HS2 HK8 HA8 HW8 HK9 HA9 hgr orow kk1 kk2 hrun hb3w hvn HMKN HMAG hlkn hlag hkn hag HSZ4 HS3 HW9
  go_wp2_with (first
    | (at_builtin; refine Lib.wpList_append_run _ rfl (.tmp 45) (.tmp 46) 22 22 rfl _ _ rfl rfl _ _ HRUN.out ?_)
    | fail)
  clear HRUN
  go_loopw [49] (fun i wr => ∃ k : Nat, k ≤ V.length ∧ i = .int .i64 k ∧ Hid (Below w3.heap.size w3 wr) ∧ Hid (wr.ownsRow w3.heap.size 44 25 (.slice A11 V.length k11) V.length (V.flatMap Rv.cells)) ∧ Hid (∀ z ∈ V, WOk w3.heap.size wr z (100 + 20 * k))) (fun i _ => V.length - (intOf i).toNat)
  case atStart => exact ⟨0, Nat.zero_le _, rfl, HW10, HRW, Lib.hid (by simpa using HWK.out)⟩
  case round =>
    clear HW10 HRW HWK
    obtain ⟨k, hk, rfl, HB, HR, HZ⟩ := hrel
    by_cases hlt : k < V.length
    · obtain ⟨x, hx⟩ : ∃ x, V[k]? = some x := ⟨_, List.getElem?_eq_getElem hlt⟩
      have hxm : x ∈ V := List.mem_of_getElem? hx
      obtain ⟨b, o, rfl, hbl, hrr⟩ := rowN_range (RowN.of_owns HR.out) hx
      have HX := Lib.hid (HZ.out x hxm)
      have hm20 := HMV.out x hxm
      obtain ⟨r, va, vb⟩ := x
      obtain ⟨⟨A3, c3, ea⟩, hd⟩ := HX.out
      obtain ⟨A4, c4, eb⟩ : ∃ A c, vb = .slice A r.c.ws.length c := by
        rcases hd with ⟨_, A, c, e⟩ | ⟨g, cap, e, _⟩
        · exact ⟨A, c, e⟩
        · exact ⟨_, cap, e⟩
      dsimp only at ea
      subst ea eb
      have HRR := Lib.hid (show wr.rangeAt b (o + k * 25) [.int .i64 r.ir, .int .i64 r.is, .int .i64 r.st, .int .i64 r.pn, .int .i64 r.pr, .int .i64 r.bn, .int .i64 r.br, .int .i64 r.c.k, .int .i64 r.c.tc, .int .i64 r.c.tn, .int .i64 r.c.tt, .int .i64 r.c.tk, .int .i64 r.c.sh, (.slice A3 r.c.rs.length c3), (.slice A4 r.c.ws.length c4), .bool r.c.cm, .int .i64 r.sq, .int .i64 r.d0, .int .i64 r.d1, .int .i64 r.d2, .int .i64 r.d3, .int .i64 r.d4, .int .i64 r.d5, .int .i64 r.d6, .bool r.kp] from hrr)
      have HXM := Lib.hid hxm
      have h1 := below_new (o := .cells #[.int .i64 r.ir, .int .i64 r.is, .int .i64 r.st, .int .i64 r.pn, .int .i64 r.pr, .int .i64 r.bn, .int .i64 r.br, .int .i64 r.c.k, .int .i64 r.c.tc, .int .i64 r.c.tn, .int .i64 r.c.tt, .int .i64 r.c.tk, .int .i64 r.c.sh, (.slice A3 r.c.rs.length c3), (.slice A4 r.c.ws.length c4), .bool r.c.cm, .int .i64 r.sq, .int .i64 r.d0, .int .i64 r.d1, .int .i64 r.d2, .int .i64 r.d3, .int .i64 r.d4, .int .i64 r.d5, .int .i64 r.d6, .bool r.kp] 44) (Below.refl wr.heap.size wr)
      have HB1 := Lib.hid (below_on HB.out h1)
      have HO1 := Lib.hid (HR.out.alloc (.cells #[.int .i64 r.ir, .int .i64 r.is, .int .i64 r.st, .int .i64 r.pn, .int .i64 r.pr, .int .i64 r.bn, .int .i64 r.br, .int .i64 r.c.k, .int .i64 r.c.tc, .int .i64 r.c.tn, .int .i64 r.c.tt, .int .i64 r.c.tk, .int .i64 r.c.sh, (.slice A3 r.c.rs.length c3), (.slice A4 r.c.ws.length c4), .bool r.c.cm, .int .i64 r.sq, .int .i64 r.d0, .int .i64 r.d1, .int .i64 r.d2, .int .i64 r.d3, .int .i64 r.d4, .int .i64 r.d5, .int .i64 r.d6, .bool r.kp] 44))
      have HZ1 := Lib.hid (show ∀ z ∈ V, WOk w3.heap.size (wr.alloc (.cells #[.int .i64 r.ir, .int .i64 r.is, .int .i64 r.st, .int .i64 r.pn, .int .i64 r.pr, .int .i64 r.bn, .int .i64 r.br, .int .i64 r.c.k, .int .i64 r.c.tc, .int .i64 r.c.tn, .int .i64 r.c.tt, .int .i64 r.c.tk, .int .i64 r.c.sh, (.slice A3 r.c.rs.length c3), (.slice A4 r.c.ws.length c4), .bool r.c.cm, .int .i64 r.sq, .int .i64 r.d0, .int .i64 r.d1, .int .i64 r.d2, .int .i64 r.d3, .int .i64 r.d4, .int .i64 r.d5, .int .i64 r.d6, .bool r.kp] 44)) z (100 + 20 * k) from fun z hz => (HZ.out z hz).on h1)
      have HH1 := Lib.hid (Hold.new wr [.int .i64 r.ir, .int .i64 r.is, .int .i64 r.st, .int .i64 r.pn, .int .i64 r.pr, .int .i64 r.bn, .int .i64 r.br, .int .i64 r.c.k, .int .i64 r.c.tc, .int .i64 r.c.tn, .int .i64 r.c.tt, .int .i64 r.c.tk, .int .i64 r.c.sh, (.slice A3 r.c.rs.length c3), (.slice A4 r.c.ws.length c4), .bool r.c.cm, .int .i64 r.sq, .int .i64 r.d0, .int .i64 r.d1, .int .i64 r.d2, .int .i64 r.d3, .int .i64 r.d4, .int .i64 r.d5, .int .i64 r.d6, .bool r.kp] 44)
      have hk1 : (k : Int) < (V.length : Int) := by omega
      dsimp only at hm20
      clear hx hxm hbl hrr HX HZ HB HR hd h1
      go_wp2_with (first
        | (with_reducible refine wpList_load_mid rfl 44 _ rfl b (o + k * 25) rfl [.int .i64 r.ir, .int .i64 r.is, .int .i64 r.st, .int .i64 r.pn, .int .i64 r.pr, .int .i64 r.bn, .int .i64 r.br, .int .i64 r.c.k, .int .i64 r.c.tc, .int .i64 r.c.tn, .int .i64 r.c.tt, .int .i64 r.c.tk, .int .i64 r.c.sh, (.slice A3 r.c.rs.length c3), (.slice A4 r.c.ws.length c4), .bool r.c.cm, .int .i64 r.sq, .int .i64 r.d0, .int .i64 r.d1, .int .i64 r.d2, .int .i64 r.d3, .int .i64 r.d4, .int .i64 r.d5, .int .i64 r.d6, .bool r.kp] _ HRR.out Try.underlying44 rfl (by kernel_rfl) ?_)
        | (with_reducible refine wpList_store_fresh rfl 44 _ _ rfl wr.heap.size rfl 44 _ [.int .i64 r.ir, .int .i64 r.is, .int .i64 r.st, .int .i64 r.pn, .int .i64 r.pr, .int .i64 r.bn, .int .i64 r.br, .int .i64 r.c.k, .int .i64 r.c.tc, .int .i64 r.c.tn, .int .i64 r.c.tt, .int .i64 r.c.tk, .int .i64 r.c.sh, (.slice A3 r.c.rs.length c3), (.slice A4 r.c.ws.length c4), .bool r.c.cm, .int .i64 r.sq, .int .i64 r.d0, .int .i64 r.d1, .int .i64 r.d2, .int .i64 r.d3, .int .i64 r.d4, .int .i64 r.d5, .int .i64 r.d6, .bool r.kp] rfl rfl rfl (by kernel_rfl) rfl ?_)
        | fail)
      clear HRR
      generalize wr.alloc (.cells #[.int .i64 r.ir, .int .i64 r.is, .int .i64 r.st, .int .i64 r.pn, .int .i64 r.pr, .int .i64 r.bn, .int .i64 r.br, .int .i64 r.c.k, .int .i64 r.c.tc, .int .i64 r.c.tn, .int .i64 r.c.tt, .int .i64 r.c.tk, .int .i64 r.c.sh, (.slice A3 r.c.rs.length c3), (.slice A4 r.c.ws.length c4), .bool r.c.cm, .int .i64 r.sq, .int .i64 r.d0, .int .i64 r.d1, .int .i64 r.d2, .int .i64 r.d3, .int .i64 r.d4, .int .i64 r.d5, .int .i64 r.d6, .bool r.kp] 44) = w11 at *
      generalize wr.heap.size = bb at *
      go_loopw [57] (fun i wr => ∃ j : Nat, j ≤ r.c.ws.length ∧ i = .int .i64 j ∧ Hid (Below w3.heap.size w3 wr) ∧ Hid (wr.ownsRow w3.heap.size 44 25 (.slice (some ⟨b, o, none⟩) V.length k11) V.length (V.flatMap Rv.cells)) ∧ Hid (∀ z ∈ V, WOk w3.heap.size wr z (100 + 20 * k + j)) ∧ Hid (Hold wr bb 44 [.int .i64 r.ir, .int .i64 r.is, .int .i64 r.st, .int .i64 r.pn, .int .i64 r.pr, .int .i64 r.bn, .int .i64 r.br, .int .i64 r.c.k, .int .i64 r.c.tc, .int .i64 r.c.tn, .int .i64 r.c.tt, .int .i64 r.c.tk, .int .i64 r.c.sh, (.slice A3 r.c.rs.length c3), (.slice A4 r.c.ws.length c4), .bool r.c.cm, .int .i64 r.sq, .int .i64 r.d0, .int .i64 r.d1, .int .i64 r.d2, .int .i64 r.d3, .int .i64 r.d4, .int .i64 r.d5, .int .i64 r.d6, .bool r.kp])) (fun i _ => r.c.ws.length - (intOf i).toNat)
      case atStart => exact ⟨0, Nat.zero_le _, rfl, HB1, HO1, HZ1, HH1⟩
      case round =>
        clear HB1 HO1 HZ1 HH1
        obtain ⟨j, hj, rfl, JB, JR, JZ, JH⟩ := hrel
        by_cases hjt : j < r.c.ws.length
        · obtain ⟨_, hd⟩ := JZ.out _ HXM.out
          obtain ⟨g, hA, hg, C, hc, hs⟩ : ∃ g, A4 = some ⟨g, 0, none⟩ ∧ w3.heap.size ≤ g ∧ Str wr g (2 * r.c.ws.length) (100 + 20 * k + j) := by
            rcases hd with ⟨e, _⟩ | ⟨g, cap, e, h1, h2⟩
            · exact absurd e (by dsimp only; omega)
            · injection e with e1 e2 e3
              exact ⟨g, e1, h1, h2⟩
          subst hA
          obtain ⟨s, es, ls⟩ := hs (2 * j) (by omega)
          have hcell : wr.cell? ⟨g, j * 2, none⟩ = some (.string s) := by rw [Nat.mul_comm]; exact hold_cell hc (2 * j) es
          have hfr : wr.frozen? ⟨g, j * 2, none⟩ = false := hold_soft hc _
          have Y14 : wr.cell? ⟨bb, 14, none⟩ = some (.slice (some ⟨g, 0, none⟩) r.c.ws.length c4) := hold_cell JH.out 14 rfl
          have hadd : ∀ W : World, (binOp .add 9 (.string s) (.string ⟨#[120]⟩)).run Try.prog W = .ok (.string (s ++ ⟨#[120]⟩)) W := fun W => by
            rw [binOp_string_add]; exact run_string_add_sum W s ⟨#[120]⟩ (by have : (⟨#[120]⟩ : ByteArray).size = 1 := rfl; omega)
          have hne : bb ≠ g := fun e => by
            have a := JH.out
            have b := hc
            unfold Hold at a b
            rw [e, b] at a
            injection a with a
            injection a with _ a
            exact absurd a (by decide)
          have hj1 : (j : Int) < (r.c.ws.length : Int) := by omega
          have NB := Lib.hid (JB.out.setCell (p := ⟨g, j * 2, none⟩) hg (.string (s ++ ⟨#[120]⟩)))
          have NR := Lib.hid (show (wr.setCell ⟨g, j * 2, none⟩ (.string (s ++ ⟨#[120]⟩))).ownsRow w3.heap.size 44 25 (.slice (some ⟨b, o, none⟩) V.length k11) V.length (V.flatMap Rv.cells) from owns_puts JR.out (fun e => hold_own_ne hc JR.out (by decide) e.symm) [.string (s ++ ⟨#[120]⟩)] (j * 2))
          have NZ := Lib.hid (show ∀ z ∈ V, WOk w3.heap.size (wr.setCell ⟨g, j * 2, none⟩ (.string (s ++ ⟨#[120]⟩))) z (100 + 20 * k + (j + 1)) from fun z hz => (JZ.out z hz).set (by rw [ByteArray.size_append]; have : (⟨#[120]⟩ : ByteArray).size = 1 := rfl; omega))
          have NH := Lib.hid (show Hold (wr.setCell ⟨g, j * 2, none⟩ (.string (s ++ ⟨#[120]⟩))) bb 44 [.int .i64 r.ir, .int .i64 r.is, .int .i64 r.st, .int .i64 r.pn, .int .i64 r.pr, .int .i64 r.bn, .int .i64 r.br, .int .i64 r.c.k, .int .i64 r.c.tc, .int .i64 r.c.tn, .int .i64 r.c.tt, .int .i64 r.c.tk, .int .i64 r.c.sh, (.slice A3 r.c.rs.length c3), (.slice (some ⟨g, 0, none⟩) r.c.ws.length c4), .bool r.c.cm, .int .i64 r.sq, .int .i64 r.d0, .int .i64 r.d1, .int .i64 r.d2, .int .i64 r.d3, .int .i64 r.d4, .int .i64 r.d5, .int .i64 r.d6, .bool r.kp] from (Below.heap_setCell _ _ _ _ hne).trans JH.out)
          have hns : ¬ (9223372036854775807 < s.size + 1) := by omega
          clear hd hc hs es JB JR JZ JH hne hg
          go_wp2
          go_roundw
          case rel => exact ⟨j + 1, hjt, by go_num, NB, NR, NZ, NH⟩
          case measure => simp [intOf]; omega
        · obtain rfl : j = r.c.ws.length := by omega
          have NZ := Lib.hid (show ∀ z ∈ V, WOk w3.heap.size wr z (100 + 20 * (k + 1)) from fun z hz => (JZ.out z hz).le (by omega))
          clear JZ JH
          go_wp2
          go_roundw
          case rel => exact ⟨k + 1, hlt, by go_num, JB, JR, NZ⟩
          case measure => simp [intOf]; omega
    · obtain rfl : k = V.length := by omega
      have HYE := Lib.hid (HY3.out.below HB.out)
      have HXE := Lib.hid (HX3.out.below HB.out)
      have HIE := H13.out.on HB.out
      have h0 := hold_cell HIE 0 rfl
      have hwl := hold_lt HIE
      have HE := Lib.hid (below_on HB4.out HB.out)
      have HRS : Hid (∀ x : After wr, Calls Try.prog 16 #[.slice A0 Y.length k0, .slice A X.length cc] x.out fun e w' => e = .returned (.bool true) ∧ Below x.out.heap.size x.out w') := Lib.hid fun x => rows_any (HYE.out.below x.below) (HXE.out.below x.below) hy.out (by have := HYL.out; omega) (fun z hz => by have := (HMY.out z hz).r; have := (HMY.out z hz).w; omega)
      obtain ⟨nn, hn⟩ : ∃ nn, nn = nextSlot i1 (rcs X) := ⟨_, rfl⟩
      have HN : Hid (∀ x : After wr, Calls Try.prog 19 #[.slice A0 Y.length k0, .int .i64 i1] x.out fun e w' => e = .returned (.int .i64 nn) ∧ Below x.out.heap.size x.out w') := Lib.hid fun x => by
        rw [hn, ← hy.out]; exact slot_any i1 (HYE.out.below x.below) (by have := HYL.out; omega)
      have HD : Hid (∀ x : After wr, Calls Try.prog 20 #[.slice A X.length cc, .int .i64 i1] x.out fun e w' => e = .returned (.int .i64 nn) ∧ Below x.out.heap.size x.out w') := Lib.hid fun x => by
        rw [hn]; exact dslot_any i1 (HXE.out.below x.below) (by omega)
      have HAW : Hid (∀ x : After wr, Calls Try.prog 12 #[] x.out fun e w' => e = .returned (.bool true) ∧ Below x.out.heap.size x.out w') := Lib.hid fun x => awake_any x.out
      clear HB HR HZ HIE hn
      go_wp2
      refine wp_region_after (by kernel_rfl) (by kernel_rfl) ?_
      have hx := @After.cell wr
      repeat (first
        | (go_big_quiet_step (first | (go_at_call 16; exact Calls.after_of (HRS.out _)) | (go_at_call 19; exact Calls.after_of (HN.out _)) | (go_at_call 20; exact Calls.after_of (HD.out _)) | (go_at_call 12; exact Calls.after_of (HAW.out _)))))
      refine wpQuiet_nil ?_
      rintro _ ⟨x, rfl⟩
      have HW2 := Lib.hid (below_on HE.out x.below)
      go_wp2
      go_ret
      exact ⟨rfl, HW2.out⟩
end Go.Proofs.Ytgaglcfoodbcfaa
