/- The walk of NetOrder; no conditions. -/
import Derived.Test.YtnahboflpipfpaaLw
import Derived.Test.YtnahboflpipfpaaOkn
import Derived.Maps.AppendAt
namespace Go.Proofs.Ytnahboflpipfpaa
open Go.ChangeShapes Go.WideShapes Go.ChangeAt Go.RowKit

/-- What stands while messages are sent: the net, those that it took in a row of their own. -/
def Ordg (w : World) (n : Int) (k : Nat) (v : Value) (wr : World) (X : List Mv) (s : St) : Prop :=
  wr.ownsRow w.heap.size 49 30 v X.length (X.flatMap Mv.cells) ∧ Nt wr w.heap.size (fun b => v.ownBlock = some b) s ∧ s.ms = X.map Mv.m ∧ s.OkN k ∧ s.room = n ∧ Below w.heap.size w wr ∧ X.length ≤ k ∧ ∀ x ∈ X, (Rds w x.va x.m.r.c.rs ∧ Wrs w x.vb x.m.r.c.ws) ∧ M.Mod x.m.r.c
/-- What stands while they come. -/
def Ordt (w : World) (N : Nat) (j : Nat) (v : Value) (wr : World) (X : List Mv) (s : St) : Prop :=
  wr.ownsRow w.heap.size 49 30 v X.length (X.flatMap Mv.cells) ∧ Nt wr w.heap.size (fun b => v.ownBlock = some b) s ∧ s.ms = (X.drop j).map Mv.m ∧ s.OkN ((N + j : Nat) : Int) ∧ Below w.heap.size w wr
def Yesr (w : World) (e : Ending) (w' : World) : Prop := e = .returned (.bool true) ∧ Below w.heap.size w w'
theorem mv_len (x : Mv) : x.cells.length = 30 := rfl
theorem mv_new (w : World) (x : Mv) : ∀ (j : Nat) (u : Value), x.cells[j]? = some u → (w.alloc (.cells x.cells.toArray 49)).cell? ((⟨w.heap.size, 0, none⟩ : Addr).add j) = some u := fun j u hj => by
  rw [add_plain0, Nat.zero_add]
  exact (Cel.new w x.cells 49).get j u hj
theorem all_mem_one {L : List Value} (h : L.all (·.oneCell') = true) : ∀ u ∈ L, u.oneCell' = true := fun u hu => List.all_eq_true.1 h u hu
theorem below_grown' {B : Nat} {a w w' : World} {row : Option Nat} (h : Below B a w) (hB : B ≤ w.heap.size) (g : w.grownBy w' row) (hr : ∀ k, row = some k → B ≤ k) : Below B a w' := h.grown g hB hr

set_option maxHeartbeats 16000000 in
set_option maxRecDepth 100000 in
theorem order_law (n : Int) {v : Value} {L : List Mv} (w : World) (h : RowN 30 w v L.length (L.flatMap Mv.cells)) (ht : ∀ x ∈ L, Rds w x.va x.m.r.c.rs ∧ Wrs w x.vb x.m.r.c.ws) (hbig : L.length ≤ maxLen) : Calls Try.prog 6 #[.int .i64 n, v] w (Yesr w) := by
  unfold maxLen at hbig
  obtain ⟨A, c, rfl, hc⟩ := rowN_sliceOf h
  have HH := Lib.hid h
  have HT := Lib.hid ht
  clear h ht hc
  rcases hr : roomB n with _ | _
  · have HR := Lib.hid hr
    clear hr
    go_enter Try.func6, Try.ntmps6
    go_wp2_with
      (first
       | (go_at_call 11; refine (new_bad n _ HR.out).mono ?_; rintro e w1 ⟨rfl, rfl⟩)
       | (go_at_call 10; refine (awake_any _).mono ?_; rintro e w2 ⟨rfl, hb⟩; have HB := Lib.hid hb; clear hb))
    go_ret
    exact ⟨rfl, HB.out⟩
  · have HR := Lib.hid hr
    clear hr
    have B0 := below_new (o := .cells #[.int .i64 0, .int .i64 0, .int .i64 0, .int .i64 n, .slice none 0 0] 74) (Below.refl w.heap.size w)
    have HB0 := Lib.hid B0
    have HN0 := Lib.hid (Nt.new (F := fun _ => False) n w (fun _ e => e.elim))
    by_cases h40 : L.length ≤ 40
    · have q40 : decide ((40 : Int) < (L.length : Int)) = false := by simp; omega
      have H40 := Lib.hid h40
      clear B0 h40
      go_enter Try.func6, Try.ntmps6
      go_wp2_with
        (first
         | (go_at_call 11; refine (new_ok n _ HR.out).mono ?_; rintro e w1 ⟨rfl, rfl⟩; unfold ptrV)
         | fail)
      have HI : Hid (Ordg w n 0 (.slice none 0 0) (w.alloc (.cells #[.int .i64 0, .int .i64 0, .int .i64 0, .int .i64 n, .slice none 0 0] 74)) [] (St.new n)) := Lib.hid
        ⟨World.ownsRow_nil _ _ _ _, HN0.out.sub (fun b e => by cases e), rfl, St.OkN.new (roomB_iff.1 HR.out).1, rfl, HB0.out, Nat.zero_le _, fun _ h => (List.not_mem_nil h).elim⟩
      clear HN0 HB0
      go_loopw [6, 27] (fun sv i wr => ∃ (k : Nat) (X : List Mv) (s : St), i = .int .i64 k ∧ k ≤ L.length ∧ Hid (Ordg w n k sv wr X s)) (fun _ i _ => L.length - (intOf i).toNat)
      case atStart => exact ⟨0, [], St.new n, rfl, Nat.zero_le _, HI⟩
      case round =>
        clear HI
        obtain ⟨k, X, s, rfl, hk, HG⟩ := hrel
        obtain ⟨hrow, hn, hms, hok, hroom, hbel, hxk, hxs⟩ := HG.out
        obtain ⟨As, ks, rfl⟩ := ownsRow_slice hrow
        have hsz := hbel.size
        by_cases hlt : k < L.length
        · obtain ⟨x, hx⟩ : ∃ x, L[k]? = some x := ⟨_, List.getElem?_eq_getElem hlt⟩
          have hxm : x ∈ L := List.mem_of_getElem? hx
          obtain ⟨b, o, rfl, hbl, hrr⟩ := rowG_range mv_len (RowN.below HH.out hbel) hx
          have htx := HT.out x hxm
          have t0 : Txt (only w.heap.size) wr x := (Txt.of (F := only w.heap.size) htx.1 htx.2 (fun y e => by unfold only at e; omega)).below hbel
          have b1 := below_new (o := .cells x.cells.toArray 49) (Below.refl wr.heap.size wr)
          have HF := Lib.hid (few_one (w := wr.alloc (.cells x.cells.toArray 49)) (b := wr.heap.size + 1) (by simp) x.m.r.c (t0.below b1).rs (t0.below b1).ws)
          have b2 := below_new (o := .cells #[.int .i64 x.m.r.c.k, .int .i64 x.m.r.c.tc, .int .i64 x.m.r.c.tn, .int .i64 x.m.r.c.tt, .int .i64 x.m.r.c.tk, .int .i64 x.m.r.c.sh, x.va, x.vb, .bool x.m.r.c.cm] 43) b1
          have HRR := Lib.hid hrr
          have HONE := Lib.hid t0.one
          have HCW := Lib.hid (cmd_range (hold_range (Hold.new wr x.cells 49)))
          have HX2 := Lib.hid ((Hold.new wr x.cells 49).on (below_new (o := .cells #[.int .i64 x.m.r.c.k, .int .i64 x.m.r.c.tc, .int .i64 x.m.r.c.tn, .int .i64 x.m.r.c.tt, .int .i64 x.m.r.c.tk, .int .i64 x.m.r.c.sh, x.va, x.vb, .bool x.m.r.c.cm] 43) (Below.refl _ _)))
          have HB2 := Lib.hid (below_on hbel b2)
          have HT2 := Lib.hid (t0.below b2)
          have HN2 := Lib.hid (hn.below b2)
          have HO2 := Lib.hid (ownsRow_on hrow b2)
          have HP := Lib.hid htx
          have hg : w.heap.size < wr.heap.size := hn.lt
          have hk1 : (k : Int) < (L.length : Int) := by omega
          obtain ⟨A1, c1, A2, c2, ea, eb⟩ := mv_slices t0
          have HXM := Lib.hid hxm
          clear hx hxm hrr htx t0 b1 b2 hrow hn hbel hbl
          obtain ⟨m, va, vb⟩ := x
          dsimp only at ea eb
          subst ea eb
          rcases hq : M.modB m.r.c with _ | _
          · have HQ := Lib.hid hq
            clear hq
            go_wp2_with (first
              | (with_reducible refine wpList_load_mid rfl 49 _ rfl b (o + k * 30) rfl _ _ HRR.out Try.underlying49 rfl (mv_size _) ?_)
              | (with_reducible refine wpList_store_fresh rfl 49 _ _ rfl wr.heap.size rfl 49 _ (Mv.cells ⟨m, .slice A1 m.r.c.rs.length c1, .slice A2 m.r.c.ws.length c2⟩) rfl rfl rfl (mv_size _) HONE.out ?_)
              | (with_reducible refine wpList_load_mid rfl 43 _ rfl wr.heap.size 12 rfl _ _ HCW.out Try.underlying43 rfl (by kernel_rfl) ?_)
              | (go_at_call 18; refine HF.out.mono ?_; rintro e w1 ⟨rfl, hb⟩; rw [HQ.out]; have HB3 := Lib.hid (below_on HB2.out hb); clear hb)
              | (go_at_call 10; refine (awake_any _).mono ?_; rintro e w2 ⟨rfl, hb⟩; have HB4 := Lib.hid (below_on HB3.out hb); clear hb))
            go_ret
            exact ⟨rfl, HB4.out⟩
          · have HQ := Lib.hid hq
            have K := M.modB_iff.1 hq
            have hok1 : s.Ok := hok.ok (by have := H40.out; omega)
            have hoks := Lib.hid (hok.send K)
            have HMS := Lib.hid hms
            have HXS := Lib.hid hxs
            have HRM := Lib.hid hroom
            clear hq hok hms hxs hroom
            go_wp2_with (first
              | (with_reducible refine wpList_load_mid rfl 49 _ rfl b (o + k * 30) rfl _ _ HRR.out Try.underlying49 rfl (mv_size _) ?_)
              | (with_reducible refine wpList_store_fresh rfl 49 _ _ rfl wr.heap.size rfl 49 _ (Mv.cells ⟨m, .slice A1 m.r.c.rs.length c1, .slice A2 m.r.c.ws.length c2⟩) rfl rfl rfl (mv_size _) HONE.out ?_)
              | (with_reducible refine wpList_load_mid rfl 43 _ rfl wr.heap.size 12 rfl _ _ HCW.out Try.underlying43 rfl (by kernel_rfl) ?_)
              | (go_at_call 18
                 refine HF.out.mono ?_
                 rintro e w1 ⟨rfl, hb⟩
                 rw [HQ.out]
                 have HB3 := Lib.hid (below_on HB2.out hb)
                 have HX3 := Lib.hid (HX2.out.on hb)
                 have HW3 := Lib.hid HX3.out.cel.whole
                 have HT3 := Lib.hid (HT2.out.below hb)
                 have HN3 := Lib.hid (HN2.out.below hb)
                 have HO3 := Lib.hid (ownsRow_on HO2.out hb)
                 clear hb)
              | (with_reducible refine wpList_load_mid rfl 49 _ rfl wr.heap.size 0 rfl _ _ HW3.out Try.underlying49 rfl (mv_size _) ?_)
              | fail)
            refine (send_any HN3.out hok1 HT3.out K).mono ?_
            rintro e w4 ⟨rfl, hn, hk4⟩
            have HB4 := Lib.hid (below_only (Nat.le_refl _) HB3.out hk4)
            have HX4 := Lib.hid (hold_keeps HX3.out hk4 (fun e => by unfold only at e; omega))
            have HW4 := Lib.hid HX4.out.cel.whole
            have HT4 := Lib.hid (HT3.out.step hk4 (fun _ e => e) (fun _ e => .inl e))
            have HN4 := Lib.hid hn
            have ngs : ∀ b', (Value.slice As X.length ks).ownBlock = some b' → ¬ only w.heap.size b' := fun b' e f => by
              obtain ⟨v0, Y0, q⟩ := HN4.out
              unfold only at f
              subst f
              exact q.ng e
            have HO4 := Lib.hid (owns_keeps HO3.out hk4 ngs)
            clear hn hk4 ngs
            have hz4 : wr.heap.size < w4.heap.size := hold_lt HX4.out
            by_cases hs0 : s.sendR m = 0
            · have HME := Lib.hid (St.send_ok hs0)
              rw [show s.sendR (Mv.m ⟨m, .slice A1 m.r.c.rs.length c1, .slice A2 m.r.c.ws.length c2⟩) = 0 from hs0]
              clear hs0
              obtain ⟨i0, hi, hz0, hz1, hz2⟩ := info_parts info49
              have b5 := below_new (o := .cells (Mv.cells ⟨m, .slice A1 m.r.c.rs.length c1, .slice A2 m.r.c.ws.length c2⟩).toArray 49) (Below.refl w4.heap.size w4)
              have HO5 := Lib.hid (ownsRow_on HO4.out b5)
              have HN5 := Lib.hid (HN4.out.below b5)
              have HB5 := Lib.hid (below_on HB4.out b5)
              have hx40 : X.length ≤ 40 := by have := H40.out; omega
              have HSZ := Lib.hid (show w.heap.size ≤ w4.heap.size by omega)
              clear b5
              go_wp2_with (first
                | (with_reducible refine wpList_load_mid rfl 49 _ rfl wr.heap.size 0 rfl _ _ HW4.out Try.underlying49 rfl (mv_size _) ?_)
                | (with_reducible refine wpList_build49 rfl (.tmp 43) rfl ⟨m, .slice A1 m.r.c.rs.length c1, .slice A2 m.r.c.ws.length c2⟩ rfl ?_)
                | (at_builtin; refine wpList_append_own_at _ rfl _ _ 27 rfl w.heap.size 49 i0 Mv.zero.val 30 272 Try.underlying27 hi hz0 hz1 hz2 rfl (by decide) _ _ _ rfl HO5.out ⟨w4.heap.size, 0, none⟩ 1 1 (Mv.cells ⟨m, .slice A1 m.r.c.rs.length c1, .slice A2 m.r.c.ws.length c2⟩) rfl rfl (mv_new w4 _) (all_mem_one HONE.out) (by unfold maxLen; omega) (by omega) (by simp; have := HSZ.out; omega) ?_; intro v' w5 hown' hgrow hnil hat))
              have HG2 : Hid (Ordg w n (k + 1) v' w5 (X ++ [⟨m, .slice A1 m.r.c.rs.length c1, .slice A2 m.r.c.ws.length c2⟩]) (s.send m)) := by
                refine Lib.hid ⟨?_, ?_, ?_, ?_, ?_, ?_, ?_, ?_⟩
                · rw [List.length_append, List.flatMap_append, List.flatMap_singleton]; exact hown'
                · refine HN5.out.step (K := fun y => (Value.slice As X.length ks).ownBlock = some y) (Keeps.of_grown hgrow (fun y e => e)) (fun _ e => e) (fun y e => ?_) (fun y e => ?_)
                  · rcases hat with q | q
                    · rw [q] at e; exact .inl e
                    · rw [q] at e; cases e; exact .inr (Nat.le_refl _)
                  · obtain ⟨cur, q⟩ := owns_lt hown' y e
                    exact (Array.getElem?_eq_some_iff.1 q).1
                · rw [HME.out, HMS.out, List.map_append]; rfl
                · rw [Int.natCast_add]; exact hoks.out
                · rw [St.send_room]; exact HRM.out
                · exact HB5.out.grown hgrow (by simp; have := HSZ.out; omega) (fun y e => (HO5.out.lt y e).1)
                · rw [List.length_append]; simp; omega
                · intro y hy
                  rcases List.mem_append.1 hy with hy | hy
                  · exact HXS.out y hy
                  · rw [List.mem_singleton.1 hy]; exact ⟨HP.out, K⟩
              clear hown' hgrow hnil hat
              go_roundw
              case rel => exact ⟨k + 1, _, _, by go_num, hlt, HG2⟩
              case measure => simp [intOf]; omega
            · have HME := Lib.hid (St.send_no hs0)
              have hs1 : (s.sendR m == 0) = false := by simpa using hs0
              have hs2 : decide (s.sendR m = 0) = false := by simpa using hs0
              have HG2 : Hid (Ordg w n (k + 1) (.slice As X.length ks) w4 X (s.send m)) := Lib.hid
                ⟨HO4.out, HN4.out, by rw [HME.out, HMS.out], by rw [Int.natCast_add]; exact hoks.out, by rw [St.send_room]; exact HRM.out, HB4.out, by omega, HXS.out⟩
              clear HME
              generalize hgz : s.sendR (Mv.m ⟨m, .slice A1 m.r.c.rs.length c1, .slice A2 m.r.c.ws.length c2⟩) = z at *
              clear hgz
              go_wp2
              go_roundw
              case rel => exact ⟨k + 1, _, _, by go_num, hlt, HG2⟩
              case measure => simp [intOf]; omega
        · obtain rfl : k = L.length := by omega
          have HXS := Lib.hid hxs
          have HI2 : Hid (Ordt w L.length 0 (.slice As X.length ks) wr X s) := Lib.hid ⟨hrow, hn, by rw [List.drop_zero]; exact hms, hok, hbel⟩
          have hx40 : X.length ≤ 40 := by have := H40.out; omega
          have hl40 : L.length ≤ 40 := H40.out
          clear hrow hn hms hok hroom hbel hxs hxk HG
          go_wp2
          go_loopw [49] (fun i wr => ∃ (j : Nat) (s2 : St), i = .int .i64 j ∧ j ≤ X.length ∧ Hid (Ordt w L.length j (.slice As X.length ks) wr X s2)) (fun i _ => X.length - (intOf i).toNat)
          case atStart => exact ⟨0, s, rfl, Nat.zero_le _, HI2⟩
          case round =>
            clear HI2 hsz
            obtain ⟨j, s2, rfl, hj, HG⟩ := hrel
            obtain ⟨hrow, hn, hms, hok, hbel⟩ := HG.out
            have hok1 : s2.Ok := hok.ok (by omega)
            have hg : w.heap.size < wr.heap.size := hn.lt
            by_cases hlt2 : j < X.length
            · obtain ⟨x, hx⟩ : ∃ x, X[j]? = some x := ⟨_, List.getElem?_eq_getElem hlt2⟩
              have hxm : x ∈ X := List.mem_of_getElem? hx
              obtain ⟨b, o, rfl, hbl, hrr⟩ := rowG_range mv_len (RowN.of_owns hrow) hx
              obtain ⟨htx, K⟩ := HXS.out x hxm
              have hms2 : s2.ms = x.m :: (X.drop (j + 1)).map Mv.m := by
                rw [hms, List.drop_eq_getElem_cons hlt2, List.map_cons]
                rw [List.getElem?_eq_getElem hlt2] at hx
                rw [Option.some.inj hx]
              obtain ⟨e1, e2, e3⟩ := St.take_first hms2
              have E1 := Lib.hid e1
              have E2 := Lib.hid e2
              have E3 := Lib.hid e3
              have t0 : Txt (only w.heap.size) wr x := (Txt.of (F := only w.heap.size) htx.1 htx.2 (fun y e => by unfold only at e; omega)).below hbel
              have b1 := below_new (o := .cells x.cells.toArray 49) (Below.refl wr.heap.size wr)
              have HRR := Lib.hid hrr
              have HONE := Lib.hid t0.one
              have HX1 := Lib.hid (Hold.new wr x.cells 49)
              have HT1 := Lib.hid (t0.below b1)
              have HN1 := Lib.hid (hn.below b1)
              have HB1 := Lib.hid (below_on hbel b1)
              have HO1 := Lib.hid (ownsRow_on hrow b1)
              have HK := Lib.hid (hok.take 0)
              have hj1 : (j : Int) < (X.length : Int) := by omega
              clear hx hxm hrr htx hms hms2 e1 e2 e3 t0 b1 hrow hn hok hbel hbl
              go_wp2_with (first
                | (with_reducible refine wpList_load_mid rfl 49 _ rfl b (o + j * 30) rfl _ _ HRR.out Try.underlying49 rfl (mv_size _) ?_)
                | (with_reducible refine wpList_store_fresh rfl 49 _ _ rfl wr.heap.size rfl 49 _ x.cells rfl rfl rfl (mv_size _) HONE.out ?_)
                | fail)
              refine (take_any HN1.out hok1 0).mono ?_
              rintro e w3 ⟨y, rfl, hy, ho, hn, hk⟩
              rw [E3.out]
              have HY := Lib.hid (hy.trans E2.out)
              have HO := Lib.hid ho
              have b4 := below_new (o := .cells y.cells.toArray 49) (Below.refl w3.heap.size w3)
              have HX4 := Lib.hid ((hold_keeps HX1.out hk (fun e => by unfold only at e; omega)).on b4)
              have HH4 := Lib.hid (Hold.new w3 y.cells 49)
              have LX := Lib.hid HX4.out.cel.whole
              have LY := Lib.hid HH4.out.cel.whole
              have HT4 := Lib.hid ((HT1.out.step hk (fun _ e => e) (fun _ e => .inl e)).below b4)
              have HU4 := Lib.hid ((ho.txt (F := only w.heap.size) (fun z e => by unfold only at e; rw [e]; simp; omega)).below b4)
              have HB4 := Lib.hid (below_on (below_only (Nat.le_refl _) HB1.out hk) b4)
              have HN4 := Lib.hid (hn.below b4)
              have ngs : ∀ b', (Value.slice (some ⟨b, o, none⟩) X.length ks).ownBlock = some b' → ¬ only w.heap.size b' := fun b' e f => by
                obtain ⟨v0, Y0, q⟩ := HN4.out
                unfold only at f
                subst f
                exact q.ng e
              have HO4 := Lib.hid (ownsRow_on (owns_keeps HO1.out hk ngs) b4)
              have HKY := Lib.hid (show M.Mod y.m.r.c by rw [HY.out]; exact K)
              clear hy ho hn hk b4 ngs HX1 HN1 HT1 HB1
              go_wp2_with (first
                | (with_reducible refine wpList_store_fresh rfl 49 _ _ rfl _ rfl 49 _ y.cells rfl rfl rfl (mv_size _) HO.out.one ?_)
                | (refine wpList_load_mid_g ?_ 49 (.tmp 11) rfl w3.heap.size 0 rfl _ _ LY.out Try.underlying49 rfl (mv_size _) ?_; rfl)
                | (refine wpList_load_mid_g ?_ 49 (.tmp 10) rfl wr.heap.size 0 rfl _ _ LX.out Try.underlying49 rfl (mv_size _) ?_; rfl)
                | (go_at_call 21
                   refine (dsame_mv (x := y) (y := x) HU4.out.rs HU4.out.ws HT4.out.rs HT4.out.ws HKY.out HY.out).mono ?_
                   rintro e w5 ⟨rfl, hb⟩
                   have HG5 : Hid (Ordt w L.length (j + 1) (.slice (some ⟨b, o, none⟩) X.length ks) w5 X (s2.take 0)) := Lib.hid
                     ⟨ownsRow_on HO4.out hb, HN4.out.below hb, by rw [E1.out], by have := HK.out; rw [show ((L.length + (j + 1) : Nat) : Int) = ((L.length + j : Nat) : Int) + 1 by omega]; exact this, below_on HB4.out hb⟩
                   clear hb))
              go_roundw
              case rel => exact ⟨j + 1, _, by go_num, hlt2, HG5⟩
              case measure => simp [intOf]; omega
            · obtain rfl : j = X.length := by omega
              have hms2 : s2.ms = [] := by rw [hms, List.drop_length]; rfl
              have E3 := Lib.hid (St.take_none hms2)
              have EN := Lib.hid (take_bad (St.take_none hms2))
              have EM := Lib.hid hms2
              have HN1 := Lib.hid hn
              have HB1 := Lib.hid hbel
              clear hms hms2 hrow hn hok hbel
              go_wp2_with (fail)
              refine (take_any HN1.out hok1 0).mono ?_
              rintro e w3 ⟨y, rfl, hy, ho, hn, hk⟩
              rw [E3.out]
              rw [EN.out] at hn
              have HO := Lib.hid ho
              have b4 := below_new (o := .cells y.cells.toArray 49) (Below.refl w3.heap.size w3)
              have HN4 := Lib.hid (hn.below b4)
              have HB4 := Lib.hid (below_on (below_only (Nat.le_refl _) HB1.out hk) b4)
              have EL := Lib.hid (show ((s2.ms.length : Nat) : Int) = 0 by rw [EM.out]; rfl)
              clear hy ho hn hk b4
              go_wp2_with (first
                | (with_reducible refine wpList_store_fresh rfl 49 _ _ rfl _ rfl 49 _ y.cells rfl rfl rfl (mv_size _) HO.out.one ?_)
                | (go_at_call 16; refine (len_any HN4.out).mono ?_; rintro e w4 ⟨rfl, rfl⟩; rw [EL.out])
                | (go_at_call 10; refine (awake_any _).mono ?_; rintro e w5 ⟨rfl, hb⟩; have HB5 := Lib.hid (below_on HB4.out hb); clear hb))
              go_ret
              exact ⟨rfl, HB5.out⟩
    · have q40 : decide ((40 : Int) < (L.length : Int)) = true := by simp; omega
      clear h40 B0
      go_enter Try.func6, Try.ntmps6
      go_wp2_with
        (first
         | (go_at_call 11; refine (new_ok n _ HR.out).mono ?_; rintro e w1 ⟨rfl, rfl⟩; unfold ptrV)
         | (go_at_call 10; refine (awake_any _).mono ?_; rintro e w2 ⟨rfl, hb⟩; have HB := Lib.hid (below_on HB0.out hb); clear hb))
      go_ret
      exact ⟨rfl, HB.out⟩
end Go.Proofs.Ytnahboflpipfpaa
