/- The walk of apart; what Known and Against answer; no conditions but those that they name. -/
import Derived.Test.YtgaglcfoodbcfaaApt
import Derived.Test.YtgaglcfoodbcfaaCfl
import Derived.Test.YtgaglcfoodbcfaaFew
namespace Go.Proofs.Ytgaglcfoodbcfaa
open Go.ChangeShapes Go.WideShapes Go.ChangeAt Go.RowKit

theorem own_there {w : World} {base t k g n c o m : Nat} {xs : List Value} (h : w.ownsRow base t k (.slice (some ⟨g, 0, none⟩) n c) n xs) (ho : o + m ≤ n * k) : w.there g o m := by
  rcases h.2 with ⟨e, _⟩ | ⟨g', cap, cur, e, hb, hg, hn, hm, hs, ht⟩
  · cases e
  · simp only [Value.slice.injEq, Option.some.injEq, Addr.mk.injEq, and_true, true_and] at e
    obtain ⟨rfl, rfl⟩ := e
    have hH : Hold w g t cur.toList := by unfold Hold; rw [Array.toArray_toList]; exact hg
    refine hH.there ?_
    rw [Array.length_toList, hs]
    exact Nat.le_trans ho (Nat.mul_le_mul_right k hn)
theorem own_some {w : World} {base t k n c : Nat} {A : Option Addr} {xs : List Value} (h : w.ownsRow base t k (.slice A n c) n xs) (h0 : 0 < n) : ∃ g, A = some ⟨g, 0, none⟩ ∧ base ≤ g ∧ g < w.heap.size := by
  rcases h.2 with ⟨e, hz⟩ | ⟨g', cap, cur, e, hb, hg, _⟩
  · omega
  · simp only [Value.slice.injEq] at e
    exact ⟨g', e.1, hb, (Array.getElem?_eq_some_iff.1 hg).1⟩
/-- What apart leaves. -/
def Apd (w0 : World) (u : Value) (Y : List Rv) (e : Ending) (w' : World) : Prop := ∃ Z, e = .returned u ∧ Hid (rcs Z = rcs Y) ∧ OwnRows w' w0.heap.size u Z ∧ Below w0.heap.size w0 w'
set_option maxHeartbeats 8000000 in
set_option maxRecDepth 100000 in
theorem apart_any {w0 w : World} {u : Value} {Y : List Rv} (h : w.ownsRow w0.heap.size 44 25 u Y.length (Y.flatMap Rv.cells)) (hb : Below w0.heap.size w0 w) (t : ∀ y ∈ Y, Txt w0 y) (m : ∀ y ∈ Y, M.Mod y.r.c) (hl : Y.length ≤ 1000) : Calls Try.prog 31 #[u] w (Apd w0 u Y) := by
  obtain ⟨A, c, rfl⟩ := ownsRow_slice h
  have HH := Lib.hid h
  have HB := Lib.hid hb
  have HT := Lib.hid t
  have HM := Lib.hid m
  clear h hb t m
  go_enter Try.func31, Try.ntmps31
  go_wp2
  go_loopw [6] (fun i wr => ∃ (k : Nat) (Z : List Rv), i = .int .i64 k ∧ k ≤ Y.length ∧ Z.length = Y.length ∧ Hid (rcs Z = rcs Y) ∧ Hid (wr.ownsRow w0.heap.size 44 25 (.slice A Y.length c) Y.length (Z.flatMap Rv.cells)) ∧ Hid (∀ (j : Nat) (z : Rv), j < k → Z[j]? = some z → OwnR w0.heap.size wr z.va z.r.c.rs ∧ OwnW w0.heap.size wr z.vb z.r.c.ws) ∧ Hid (∀ j, k ≤ j → Z[j]? = Y[j]?) ∧ Hid (Below w0.heap.size w0 wr)) (fun i _ => Y.length - (intOf i).toNat)
  case atStart => exact ⟨0, Y, rfl, Nat.zero_le _, rfl, Lib.hid rfl, HH, Lib.hid (fun j z hj _ => absurd hj (by omega)), Lib.hid (fun _ _ => rfl), HB⟩
  case round =>
    clear HH HB
    obtain ⟨k, Z, rfl, hk, hzl, HR, HO, HD, HS, HW⟩ := hrel
    by_cases hlt : k < Y.length
    · obtain ⟨x, hx⟩ : ∃ x, Y[k]? = some x := ⟨_, List.getElem?_eq_getElem hlt⟩
      have hxm : x ∈ Y := List.mem_of_getElem? hx
      have hzx : Z[k]? = some x := by rw [HS.out k (Nat.le_refl k)]; exact hx
      obtain ⟨g, rfl, hg0, hg1⟩ := own_some HO.out (by omega)
      have hrr := owns_range (cap := c) (by rw [hzl]; exact HO.out) hzx
      have HX := Lib.hid ((HT.out x hxm).below HW.out)
      have hmx := HM.out x hxm
      have HZX := Lib.hid hzx
      obtain ⟨r, va, vb⟩ := x
      obtain ⟨A3, c3, ea⟩ := rowN_sliceOf HX.out.rs
      obtain ⟨A4, c4, eb⟩ := rowN_sliceOf HX.out.ws
      dsimp only at ea eb hmx
      subst ea eb
      have HC := Lib.hid (rowRange_cmd (show wr.rangeAt g (k * 25) [.int .i64 r.ir, .int .i64 r.is, .int .i64 r.st, .int .i64 r.pn, .int .i64 r.pr, .int .i64 r.bn, .int .i64 r.br, .int .i64 r.c.k, .int .i64 r.c.tc, .int .i64 r.c.tn, .int .i64 r.c.tt, .int .i64 r.c.tk, .int .i64 r.c.sh, (.slice A3 r.c.rs.length c3), (.slice A4 r.c.ws.length c4), .bool r.c.cm, .int .i64 r.sq, .int .i64 r.d0, .int .i64 r.d1, .int .i64 r.d2, .int .i64 r.d3, .int .i64 r.d4, .int .i64 r.d5, .int .i64 r.d6, .bool r.kp] from hrr))
      have hk1 : (k : Int) < (Y.length : Int) := by omega
      have HCL := Lib.hid (clone_any (w := wr) r.c HX.out.rs HX.out.ws (by have := hmx.r; omega) (by have := hmx.w; omega))
      clear hx hxm hzx hrr HX hmx
      go_wp2_with (first
        | (with_reducible refine wpList_load_mid rfl 32 _ rfl g (k * 25 + 7) rfl [.int .i64 r.c.k, .int .i64 r.c.tc, .int .i64 r.c.tn, .int .i64 r.c.tt, .int .i64 r.c.tk, .int .i64 r.c.sh, (.slice A3 r.c.rs.length c3), (.slice A4 r.c.ws.length c4), .bool r.c.cm] _ HC.out Try.underlying32 rfl (by kernel_rfl) ?_)
        | fail)
      refine HCL.out.mono ?_
      rintro e w5 ⟨va', vb', rfl, o1, o2, hb5⟩
      obtain ⟨A1, j1, rfl⟩ := ownsRow_slice o1
      obtain ⟨A2, j2, rfl⟩ := ownsRow_slice o2
      have hrow := ownsRow_on HO.out hb5
      have HT5 := Lib.hid (show w5.there g (k * 25 + 7) ([.int .i64 r.c.k, .int .i64 r.c.tc, .int .i64 r.c.tn, .int .i64 r.c.tt, .int .i64 r.c.tk, .int .i64 r.c.sh, (.slice A1 r.c.rs.length j1), (.slice A2 r.c.ws.length j2), .bool r.c.cm] : List Value).length from own_there hrow (show k * 25 + 7 + 9 ≤ Y.length * 25 by omega))
      have hi32 : (Try.prog.info? 32).map (·.size) = some ([.int .i64 r.c.k, .int .i64 r.c.tc, .int .i64 r.c.tn, .int .i64 r.c.tt, .int .i64 r.c.tk, .int .i64 r.c.sh, (.slice A1 r.c.rs.length j1), (.slice A2 r.c.ws.length j2), .bool r.c.cm] : List Value).length := by kernel_rfl
      have h1c : ([.int .i64 r.c.k, .int .i64 r.c.tc, .int .i64 r.c.tn, .int .i64 r.c.tt, .int .i64 r.c.tk, .int .i64 r.c.sh, (.slice A1 r.c.rs.length j1), (.slice A2 r.c.ws.length j2), .bool r.c.cm] : List Value).all (·.oneCell') = true := rfl
      have hkz : k < Z.length := by omega
      have hpl : ((Z.take k).flatMap Rv.cells ++ ([.int .i64 r.ir, .int .i64 r.is, .int .i64 r.st, .int .i64 r.pn, .int .i64 r.pr, .int .i64 r.bn, .int .i64 r.br] : List Value)).length = k * 25 + 7 := by
        rw [List.length_append, flat_take_len Z k (by omega)]; rfl
      have HO6 := Lib.hid (show (w5.setCells g (k * 25 + 7) [.int .i64 r.c.k, .int .i64 r.c.tc, .int .i64 r.c.tn, .int .i64 r.c.tt, .int .i64 r.c.tk, .int .i64 r.c.sh, (.slice A1 r.c.rs.length j1), (.slice A2 r.c.ws.length j2), .bool r.c.cm]).ownsRow w0.heap.size 44 25 (.slice (some ⟨g, 0, none⟩) Y.length c) Y.length ((Z.set k ⟨r, .slice A1 r.c.rs.length j1, .slice A2 r.c.ws.length j2⟩).flatMap Rv.cells) by
        have hq := own_puts_mid (P := (Z.take k).flatMap Rv.cells ++ ([.int .i64 r.ir, .int .i64 r.is, .int .i64 r.st, .int .i64 r.pn, .int .i64 r.pr, .int .i64 r.bn, .int .i64 r.br] : List Value)) (Z := [.int .i64 r.c.k, .int .i64 r.c.tc, .int .i64 r.c.tn, .int .i64 r.c.tt, .int .i64 r.c.tk, .int .i64 r.c.sh, (.slice A3 r.c.rs.length c3), (.slice A4 r.c.ws.length c4), .bool r.c.cm]) (L := [.int .i64 r.c.k, .int .i64 r.c.tc, .int .i64 r.c.tn, .int .i64 r.c.tt, .int .i64 r.c.tk, .int .i64 r.c.sh, (.slice A1 r.c.rs.length j1), (.slice A2 r.c.ws.length j2), .bool r.c.cm]) (S := ([.int .i64 r.sq, .int .i64 r.d0, .int .i64 r.d1, .int .i64 r.d2, .int .i64 r.d3, .int .i64 r.d4, .int .i64 r.d5, .int .i64 r.d6, .bool r.kp] : List Value) ++ (Z.drop (k + 1)).flatMap Rv.cells) (by rw [flat_split HZX.out] at hrow; simpa [Rv.cells] using hrow) rfl
        rw [hpl] at hq
        rw [flat_set hkz]
        simpa [Rv.cells] using hq)
      have key : ∀ {tt kk B : Nat} {v : Value} {n : Nat} {xs : List Value}, tt ≠ 44 → w5.ownsRow B tt kk v n xs → (w5.setCells g (k * 25 + 7) [.int .i64 r.c.k, .int .i64 r.c.tc, .int .i64 r.c.tn, .int .i64 r.c.tt, .int .i64 r.c.tk, .int .i64 r.c.sh, (.slice A1 r.c.rs.length j1), (.slice A2 r.c.ws.length j2), .bool r.c.cm]).ownsRow B tt kk v n xs := fun hne q => owns_puts q (fun e => by
        rcases apartT hne q hrow with h0 | h0
        · rw [h0] at e; cases e
        · exact h0 e) _ _
      have hsz : w0.heap.size ≤ wr.heap.size := HW.out.size
      have HD6 := Lib.hid (show ∀ (j : Nat) (z : Rv), j < k + 1 → (Z.set k ⟨r, .slice A1 r.c.rs.length j1, .slice A2 r.c.ws.length j2⟩)[j]? = some z → OwnR w0.heap.size (w5.setCells g (k * 25 + 7) [.int .i64 r.c.k, .int .i64 r.c.tc, .int .i64 r.c.tn, .int .i64 r.c.tt, .int .i64 r.c.tk, .int .i64 r.c.sh, (.slice A1 r.c.rs.length j1), (.slice A2 r.c.ws.length j2), .bool r.c.cm]) z.va z.r.c.rs ∧ OwnW w0.heap.size (w5.setCells g (k * 25 + 7) [.int .i64 r.c.k, .int .i64 r.c.tc, .int .i64 r.c.tn, .int .i64 r.c.tt, .int .i64 r.c.tk, .int .i64 r.c.sh, (.slice A1 r.c.rs.length j1), (.slice A2 r.c.ws.length j2), .bool r.c.cm]) z.vb z.r.c.ws from fun j z hj hz => by
        by_cases e : j = k
        · subst e
          rw [List.getElem?_set_self hkz] at hz
          have hz := Option.some.inj hz
          subst hz
          exact ⟨⟨_, hsz, key (by decide) o1⟩, ⟨_, hsz, key (by decide) o2⟩⟩
        · rw [List.getElem?_set_ne (fun e' => e e'.symm)] at hz
          obtain ⟨⟨B1, hB1, q1⟩, ⟨B2, hB2, q2⟩⟩ := HD.out j z (by omega) hz
          exact ⟨⟨B1, hB1, key (by decide) (ownsRow_on q1 hb5)⟩, ⟨B2, hB2, key (by decide) (ownsRow_on q2 hb5)⟩⟩)
      have HS6 := Lib.hid (show ∀ j, k + 1 ≤ j → (Z.set k ⟨r, .slice A1 r.c.rs.length j1, .slice A2 r.c.ws.length j2⟩)[j]? = Y[j]? from fun j hj => by
        rw [List.getElem?_set_ne (by omega)]; exact HS.out j (by omega))
      have HR6 := Lib.hid (show rcs (Z.set k ⟨r, .slice A1 r.c.rs.length j1, .slice A2 r.c.ws.length j2⟩) = rcs Y from (rcs_set (z := ⟨r, .slice A1 r.c.rs.length j1, .slice A2 r.c.ws.length j2⟩) HZX.out rfl).trans HR.out)
      have HW6 := Lib.hid (below_setCells (B := w0.heap.size) (b := g) hg0 [.int .i64 r.c.k, .int .i64 r.c.tc, .int .i64 r.c.tn, .int .i64 r.c.tt, .int .i64 r.c.tk, .int .i64 r.c.sh, (.slice A1 r.c.rs.length j1), (.slice A2 r.c.ws.length j2), .bool r.c.cm] (k * 25 + 7) _ _ (HW.out.trans (hb5.mono hsz)))
      have hzl6 : (Z.set k ⟨r, .slice A1 r.c.rs.length j1, .slice A2 r.c.ws.length j2⟩).length = Y.length := by rw [List.length_set]; exact hzl
      clear key o1 o2 hb5 hrow HC HCL HO HD HS HR HW hpl
      go_wp2_with (first
        | (with_reducible refine store_list rfl 32 (.tmp 18) (.tmp 16) rfl g (k * 25 + 7) [.int .i64 r.c.k, .int .i64 r.c.tc, .int .i64 r.c.tn, .int .i64 r.c.tt, .int .i64 r.c.tk, .int .i64 r.c.sh, (.slice A1 r.c.rs.length j1), (.slice A2 r.c.ws.length j2), .bool r.c.cm] rfl rfl HT5.out hi32 h1c ?_)
        | fail)
      go_roundw
      case rel => exact ⟨k + 1, _, by go_num, hlt, hzl6, HR6, HO6, HD6, HS6, HW6⟩
      case measure => simp [intOf]; omega
    · obtain rfl : k = Y.length := by omega
      go_wp2
      go_ret
      refine ⟨Z, rfl, HR, ⟨by rw [hzl]; exact HO.out, fun y hy => ?_, fun y hy => ?_⟩, HW.out⟩
      · obtain ⟨j, hj⟩ := List.getElem?_of_mem hy
        exact (HD.out j y (by have := (List.getElem?_eq_some_iff.1 hj).1; omega) hj).1
      · obtain ⟨j, hj⟩ := List.getElem?_of_mem hy
        exact (HD.out j y (by have := (List.getElem?_eq_some_iff.1 hj).1; omega) hj).2
/-- What Known answers. -/
theorem known_any {w : World} {v : Value} {X : List Rv} (h : Rows w v X) (hl : X.length ≤ 1000) (hm : ∀ x ∈ X, M.Mod x.r.c) : Calls Try.prog 14 #[v] w fun e w' => ∃ u Z, e = .returned u ∧ Hid (rcs Z = rcs (known X)) ∧ OwnRows w' w.heap.size u Z ∧ Below w.heap.size w w' := by
  have HC := Lib.hid (counting_any h hl)
  have HT := Lib.hid (fun x hx => h.tx x (known_mem hx))
  have HM := Lib.hid (fun x hx => hm x (known_mem (X := X) hx))
  have HL := Lib.hid (known_len X)
  clear h hm
  go_enter Try.func14, Try.ntmps14
  go_wp2_with (fail)
  refine HC.out.mono ?_
  rintro e w1 ⟨u, rfl, o1, hb1⟩
  have HA := Lib.hid (apart_any o1 hb1 HT.out HM.out (by have := HL.out; omega))
  clear o1 hb1 HC
  go_wp2_with (fail)
  refine HA.out.mono ?_
  rintro e w2 ⟨Z, rfl, hz, ho, hb⟩
  have H1 := Lib.hid ho
  have H2 := Lib.hid hb
  clear ho hb
  go_wp2
  go_ret
  exact ⟨_, Z, rfl, hz, H1.out, H2.out⟩
/-- What Against answers. -/
theorem against_any {w : World} {v : Value} {X : List Rv} (h : Rows w v X) (hl : X.length ≤ 1000) (hm : ∀ x ∈ X, M.Mod x.r.c) (i1 i2 : Int) (c : M.Cmd) {ua ub : Value} (g : Rds w ua c.rs) (g' : Wrs w ub c.ws) (G : M.Mod c) :
    Calls Try.prog 15 #[v, .agg #[.int .i64 i1, .int .i64 i2], .agg #[.int .i64 c.k, .int .i64 c.tc, .int .i64 c.tn, .int .i64 c.tt, .int .i64 c.tk, .int .i64 c.sh, ua, ub, .bool c.cm]] w fun e w' => ∃ u Z, e = .returned u ∧ Hid (rcs Z = rcs (confs X (i1, i2) c)) ∧ OwnRows w' w.heap.size u Z ∧ Below w.heap.size w w' := by
  obtain ⟨A5, c5, ec⟩ := rowN_sliceOf g
  obtain ⟨A6, c6, ed⟩ := rowN_sliceOf g'
  subst ec ed
  have hb0 : Below w.heap.size w ((w.alloc (.cells #[.int .i64 i1, .int .i64 i2] 24)).alloc (.cells #[.int .i64 c.k, .int .i64 c.tc, .int .i64 c.tn, .int .i64 c.tt, .int .i64 c.tk, .int .i64 c.sh, (.slice A5 c.rs.length c5), (.slice A6 c.ws.length c6), .bool c.cm] 32)) := below_new (below_new (Below.refl _ _))
  have h1 : Hold ((w.alloc (.cells #[.int .i64 i1, .int .i64 i2] 24)).alloc (.cells #[.int .i64 c.k, .int .i64 c.tc, .int .i64 c.tn, .int .i64 c.tt, .int .i64 c.tk, .int .i64 c.sh, (.slice A5 c.rs.length c5), (.slice A6 c.ws.length c6), .bool c.cm] 32)) w.heap.size 24 [.int .i64 i1, .int .i64 i2] := (Hold.new w [.int .i64 i1, .int .i64 i2] 24).on (below_new (Below.refl _ _))
  have h2 : Hold ((w.alloc (.cells #[.int .i64 i1, .int .i64 i2] 24)).alloc (.cells #[.int .i64 c.k, .int .i64 c.tc, .int .i64 c.tn, .int .i64 c.tt, .int .i64 c.tk, .int .i64 c.sh, (.slice A5 c.rs.length c5), (.slice A6 c.ws.length c6), .bool c.cm] 32)) (w.heap.size + 1) 32 [.int .i64 c.k, .int .i64 c.tc, .int .i64 c.tn, .int .i64 c.tt, .int .i64 c.tk, .int .i64 c.sh, (.slice A5 c.rs.length c5), (.slice A6 c.ws.length c6), .bool c.cm] := by
    have := Hold.new (w.alloc (.cells #[.int .i64 i1, .int .i64 i2] 24)) [.int .i64 c.k, .int .i64 c.tc, .int .i64 c.tn, .int .i64 c.tt, .int .i64 c.tk, .int .i64 c.sh, (.slice A5 c.rs.length c5), (.slice A6 c.ws.length c6), .bool c.cm] 32
    simpa using this
  have HC := Lib.hid (conflicts_any (h.below hb0) hl hm i1 i2 c (g.below hb0) (g'.below hb0) G)
  have HT := Lib.hid (fun x hx => (h.below hb0).tx x (confs_mem (i := (i1, i2)) (c := c) hx))
  have HM := Lib.hid (fun x hx => hm x (confs_mem (X := X) (i := (i1, i2)) (c := c) hx))
  have HL := Lib.hid (confs_len X (i1, i2) c)
  have I1 := Lib.hid (hold_range h1 0 [.int .i64 i1, .int .i64 i2] (fun j v hj => by rw [Nat.zero_add]; exact hj))
  have I2 := Lib.hid (hold_range h2 0 [.int .i64 c.k, .int .i64 c.tc, .int .i64 c.tn, .int .i64 c.tt, .int .i64 c.tk, .int .i64 c.sh, (.slice A5 c.rs.length c5), (.slice A6 c.ws.length c6), .bool c.cm] (fun j v hj => by rw [Nat.zero_add]; exact hj))
  have HB := Lib.hid hb0
  clear h hm g g' hb0 h1 h2
  go_enter Try.func15, Try.ntmps15
  go_wp2_with (first
    | (with_reducible refine wpList_load_mid rfl 24 _ rfl w.heap.size 0 rfl [.int .i64 i1, .int .i64 i2] _ I1.out Try.underlying24 rfl (by kernel_rfl) ?_)
    | (with_reducible refine wpList_load_mid rfl 32 _ rfl (w.heap.size + 1) 0 rfl [.int .i64 c.k, .int .i64 c.tc, .int .i64 c.tn, .int .i64 c.tt, .int .i64 c.tk, .int .i64 c.sh, (.slice A5 c.rs.length c5), (.slice A6 c.ws.length c6), .bool c.cm] _ I2.out Try.underlying32 rfl (by kernel_rfl) ?_)
    | fail)
  generalize ((w.alloc (.cells #[.int .i64 i1, .int .i64 i2] 24)).alloc (.cells #[.int .i64 c.k, .int .i64 c.tc, .int .i64 c.tn, .int .i64 c.tt, .int .i64 c.tk, .int .i64 c.sh, (.slice A5 c.rs.length c5), (.slice A6 c.ws.length c6), .bool c.cm] 32)) = w0 at *
  refine HC.out.mono ?_
  rintro e w1 ⟨u, rfl, o1, hb1⟩
  have HA := Lib.hid (apart_any o1 hb1 HT.out HM.out (by have := HL.out; omega))
  clear o1 hb1 HC I1 I2
  go_wp2_with (fail)
  refine HA.out.mono ?_
  rintro e w2 ⟨Z, rfl, hz, ho, hb⟩
  have hsz := HB.out.size
  have H1 := Lib.hid (show OwnRows w2 w.heap.size u Z from ⟨ownsRow_baseN ho.row hsz, fun y hy => by obtain ⟨C, hC, q⟩ := ho.rs y hy; exact ⟨C, by omega, q⟩, fun y hy => by obtain ⟨C, hC, q⟩ := ho.ws y hy; exact ⟨C, by omega, q⟩⟩)
  have H2 := Lib.hid (below_on HB.out hb)
  clear ho hb
  go_wp2
  go_ret
  exact ⟨_, Z, rfl, hz, H1.out, H2.out⟩
end Go.Proofs.Ytgaglcfoodbcfaa
