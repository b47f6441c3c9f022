/- The walk of KeysLists; no conditions. -/
import Derived.Test.YthjahiaomllneaaLawsD
import Derived.Test.YthjahiaomllneaaWalksO
namespace Go.Proofs.Ythjahiaomllneaa
open Go.ChangeShapes Go.WideShapes Go.ChangeAt Go.RowKit

namespace M
/-- Is one of the first ones among the others? -/
def wantB (l ts : List (List UInt8)) : Bool := l.any (inB ts)
theorem want_take {ss ts : List (List UInt8)} {k : Nat} {x : List UInt8} (hk : k < ss.length) (hx : x = ss.getD k []) : wantB (ss.take (k + 1)) ts = (wantB (ss.take k) ts || inB ts x) := by
  unfold wantB; rw [take_succ hk, List.any_append, ← hx]; simp
theorem want_all (ss ts : List (List UInt8)) : wantB ss ts = meetB ss ts := by
  rw [Bool.eq_iff_iff, meetB_iff]
  unfold wantB
  rw [List.any_eq_true]
  constructor
  · rintro ⟨x, h1, h2⟩; exact ⟨x, inB_iff.1 h2, h1⟩
  · rintro ⟨x, h1, h2⟩; exact ⟨x, h2, inB_iff.2 h1⟩
theorem sameB_djoin (ss ts : List (List UInt8)) : sameB (join ss ts) (djoin ss ts) = true := by rw [djoin_eq]; exact sameB_refl _
end M

/-- Texts that may be written over, from a place on. -/
def Soft (w : World) (g i n : Nat) : Prop := ∀ k, i ≤ k → k < n → ∃ s : ByteArray, w.cell? ⟨g, k, none⟩ = some (.string s) ∧ s.size ≤ 1000 ∧ w.frozen? ⟨g, k, none⟩ = false
theorem Soft.step {w : World} {g i n : Nat} (h : Soft w g i n) (v : Value) : Soft (w.setCell ⟨g, i, none⟩ v) g (i + 1) n := fun k hk hn => by
  obtain ⟨s, h1, h2, h3⟩ := h k (by omega) hn
  refine ⟨s, ?_, h2, ?_⟩
  · rw [World.cell?_setCell_other _ _ _ _ (fun e => by injection e; omega)]; exact h1
  · rw [World.frozen?_setCell]; exact h3
theorem Soft.of_own {w : World} {base g c : Nat} {l : List (List UInt8)} (h : w.ownsRow base 9 1 (.slice (some ⟨g, 0, none⟩) l.length c) l.length (l.map encStr)) (hl : ∀ x ∈ l, x.length ≤ 1000) : Soft w g 0 l.length := fun k _ hk => by
  refine ⟨⟨(l.getD k []).toArray⟩, ?_, ?_, h.frozenAt k⟩
  · rw [h.cellAt k (by omega), List.getElem?_map, List.getD, List.getElem?_eq_getElem hk]; rfl
  · rw [size_mk]; exact hl _ (M.getD_mem hk)
theorem Soft.below {w w' : World} {g i n : Nat} (h : Soft w g i n) (hg : g < w.heap.size) (hb : Below w.heap.size w w') : Soft w' g i n := fun k hk hn => by
  obtain ⟨s, h1, h2, h3⟩ := h k hk hn
  exact ⟨s, (hb.cell (p := ⟨g, k, none⟩) hg).trans h1, h2, (hb.frozen (p := ⟨g, k, none⟩) hg).trans h3⟩

set_option maxHeartbeats 4000000 in
set_option maxRecDepth 100000 in
theorem lists_go (v : Value) (ss : List (List UInt8)) (u : Value) (ts : List (List UInt8)) (w : World) (h : Words w v ss) (h' : Words w u ts) (f : M.fewB ss = true) (f' : M.fewB ts = true) : Calls Try.prog 5 #[v, u] w (Yes w) := by
  have F := M.fewB_iff.1 f
  have F' := M.fewB_iff.1 f'
  have hl : ss.length ≤ 40 := F.1
  have hl' : ts.length ≤ 40 := F'.1
  have hx := Lib.hid (show ∀ x ∈ ss, x.length ≤ 1000 from fun x hx => by have := F.2 x hx; omega)
  have hx' := Lib.hid (show ∀ x ∈ ts, x.length ≤ 1000 from fun x hx => by have := F'.2 x hx; omega)
  have b0 : Below w.heap.size w (w.alloc (.cells #[] 9)) := (Below.refl _ w).alloc (Nat.le_refl _) _
  have o0 := own_empty w (Nat.le_refl w.heap.size)
  obtain ⟨v1, w1, r1, o1, g1⟩ := append_row o0 (h.below b0) (one_str ss) (by rw [List.length_map]; omega) (by simp)
  have b1 := b0.grown g1 (by simp) (fun k hk => (o0.lt k hk).1)
  rw [List.nil_append] at o1
  have hW1 : Words w1 v1 ss := Row.of_owns o1
  have b0' : Below w1.heap.size w1 (w1.alloc (.cells #[] 9)) := (Below.refl _ w1).alloc (Nat.le_refl _) _
  have o0' := own_empty w1 (Nat.le_refl w1.heap.size)
  obtain ⟨v2, w2, r2, o2, g2⟩ := append_row o0' ((h'.below b1).below b0') (one_str ts) (by rw [List.length_map]; omega) (by simp)
  have b2 := b0'.grown g2 (by simp) (fun k hk => (o0'.lt k hk).1)
  rw [List.nil_append] at o2
  have B2 := Lib.hid (below_on b1 b2)
  have X2 := Lib.hid (hW1.below b2)
  have Y2 := Lib.hid (show Words w2 v2 ts from Row.of_owns o2)
  have V2 := Lib.hid (h.below B2.out)
  have U2 := Lib.hid (h'.below B2.out)
  have V0 := Lib.hid h
  have U0 := Lib.hid h'
  have hjl : (M.join ss ts).length ≤ 80 := by have := M.join_len ss ts; omega
  have HJ := Lib.hid (M.join_le hx.out hx'.out)
  clear h h' F F' b0 o0 o1 g1 b1 hW1 b0' o0' o2 g2 b2
  obtain ⟨A, c, rfl, hc, hxx⟩ := V2.out.opened
  have HX := Lib.hid hxx
  clear hxx
  go_enter Try.func5, Try.ntmps5
  go_wp2_with (first
    | (go_at_call 18; ((with_reducible refine (few_any V0.out).mono ?_); rintro e w' ⟨rfl, rfl⟩))
    | (go_at_call 18; ((with_reducible refine (few_any U0.out).mono ?_); rintro e w' ⟨rfl, rfl⟩))
    | (at_builtin; refine Lib.wpList_append_run _ rfl (.tmp 21) (.tmp 22) _ _ rfl _ _ rfl rfl _ _ r1 ?_)
    | (at_builtin; refine Lib.wpList_append_run _ rfl (.tmp 24) (.tmp 25) _ _ rfl _ _ rfl rfl _ _ r2 ?_))
  clear r1 r2 V0 U0
  refine (join_any X2.out Y2.out (by omega) (by omega) hx.out hx'.out).mono ?_
  rintro e w3 ⟨vj, rfl, hown, hb⟩
  obtain ⟨Aj, cj, rfl, hj2⟩ := own_opened hown
  have J3 := Lib.hid (Made.words hown)
  have O3 := Lib.hid hown
  have P3 := Lib.hid hj2
  have B3 := Lib.hid (below_on B2.out hb)
  have X3 := Lib.hid (X2.out.below hb)
  have Y3 := Lib.hid (Y2.out.below hb)
  have V3 := Lib.hid (V2.out.below hb)
  have U3 := Lib.hid (U2.out.below hb)
  have C3 := Lib.hid hb
  clear hown hb hj2
  go_wp2
  go_loop [8, 32] (fun wv i => ∃ k : Nat, k ≤ ss.length ∧ i = .int .i64 k ∧ wv = .bool (M.wantB (ss.take k) ts)) (fun _ i => ss.length - (intOf i).toNat)
  case atStart => exact ⟨0, Nat.zero_le _, rfl, rfl⟩
  case round =>
    obtain ⟨k, hk, rfl, rfl⟩ := hrel
    by_cases hlt : k < ss.length
    · obtain ⟨b, o, rfl, hb, hy⟩ := HX.out (by omega)
      have hcell := (C3.out.cell (p := ⟨b, o + k, none⟩) hb).trans (hy k hlt)
      obtain ⟨x, hxk⟩ : ∃ x, x = ss.getD k [] := ⟨_, rfl⟩
      rw [← hxk] at hcell
      have HT := Lib.hid (M.want_take (ts := ts) hlt hxk)
      clear hy hxk
      rcases two (M.wantB (ss.take k) ts) with e | e
      · have E := Lib.hid e
        go_wp2
        go_round
        case rel => exact ⟨k + 1, by omega, by go_num, by rw [HT.out, E.out]; rfl⟩
        case measure => simp [intOf]; omega
      · have E := Lib.hid e
        go_wp2_with (go_at_call 20; refine (in_any _ U3.out (by omega)).mono ?_; rintro e w' ⟨rfl, rfl⟩)
        go_round
        case rel => exact ⟨k + 1, by omega, by go_num, by rw [HT.out, E.out]; rfl⟩
        case measure => simp [intOf]; omega
    · obtain rfl : k = ss.length := by omega
      rw [List.take_length, M.want_all]
      have hsj := M.sameB_djoin ss ts
      have hdl : (M.djoin ss ts).length ≤ 80 := by rw [M.djoin_eq]; exact hjl
      go_wp2_with (fail)
      refine (djoin_any V3.out U3.out (by omega) (by omega) hx.out hx'.out).mono ?_
      rintro e w4 ⟨vd, rfl, hown, hb⟩
      have D4 := Lib.hid (Made.words hown)
      have J4 := Lib.hid (J3.out.below hb)
      have B4 := Lib.hid (below_on B3.out hb)
      have X4 := Lib.hid (X3.out.below hb)
      have Y4 := Lib.hid (Y3.out.below hb)
      have V4 := Lib.hid (V3.out.below hb)
      have U4 := Lib.hid (U3.out.below hb)
      have C4 := Lib.hid (C3.out.trans (hb.mono C3.out.size))
      have Q4 := Lib.hid hb
      clear hown hb J3 B3 X3 Y3 V3 U3
      go_wp2_with (fail)
      refine (same_any J4.out D4.out (by omega)).mono ?_
      rintro e w5 ⟨rfl, hb⟩
      have B5 := Lib.hid (below_on B4.out hb)
      have X5 := Lib.hid (X4.out.below hb)
      have Y5 := Lib.hid (Y4.out.below hb)
      have V5 := Lib.hid (V4.out.below hb)
      have U5 := Lib.hid (U4.out.below hb)
      have C5 := Lib.hid (C4.out.trans (hb.mono C4.out.size))
      have Q5 := Lib.hid (below_on Q4.out hb)
      clear hb J4 D4 B4 X4 Y4 V4 U4 C4 Q4
      go_wp2_with (fail)
      refine (meet_any X5.out Y5.out (by omega) (by omega) hx.out hx'.out).mono ?_
      rintro e w6 ⟨rfl, hb⟩
      have B6 := Lib.hid (below_on B5.out hb)
      have X6 := Lib.hid (X5.out.below hb)
      have Y6 := Lib.hid (Y5.out.below hb)
      have V6 := Lib.hid (V5.out.below hb)
      have U6 := Lib.hid (U5.out.below hb)
      have C6 := Lib.hid (C5.out.trans (hb.mono C5.out.size))
      have Q6 := Lib.hid (below_on Q5.out hb)
      clear hb B5 X5 Y5 V5 U5 C5 Q5
      go_wp2_with (go_at_call 24; refine (rights_any X6.out).mono ?_; rintro e w' ⟨rfl, rfl⟩)
      refine (drights_any V6.out (by omega) hx.out).mono ?_
      rintro e w7 ⟨rfl, hb⟩
      have B7 := Lib.hid (below_on B6.out hb)
      have X7 := Lib.hid (X6.out.below hb)
      have Y7 := Lib.hid (Y6.out.below hb)
      have V7 := Lib.hid (V6.out.below hb)
      have U7 := Lib.hid (U6.out.below hb)
      have C7 := Lib.hid (C6.out.trans (hb.mono C6.out.size))
      have Q7 := Lib.hid (below_on Q6.out hb)
      clear hb B6 X6 Y6 V6 U6 C6 Q6
      have hz2 : w2.heap.size ≤ w7.heap.size := C7.out.size
      have hz0 : w.heap.size ≤ w2.heap.size := B2.out.size
      have SO := Lib.hid (show 0 < (M.join ss ts).length → ∃ g, Aj = some ⟨g, 0, none⟩ ∧ w2.heap.size ≤ g ∧ Soft w7 g 0 (M.join ss ts).length from fun h0 => by
        obtain ⟨g, e1, e2, e3, _⟩ := P3.out h0
        subst e1
        exact ⟨g, rfl, e2, (Soft.of_own O3.out HJ.out).below e3 Q7.out⟩)
      clear Q7 O3 P3 C3 HX hsj hdl
      generalize M.join ss ts = J at *
      go_wp2
      go_loopw [65] (fun i wr => ∃ k : Nat, k ≤ J.length ∧ i = .int .i64 k ∧ (0 < J.length → ∃ g, Aj = some ⟨g, 0, none⟩ ∧ w2.heap.size ≤ g ∧ Soft wr g k J.length) ∧ Below w2.heap.size w2 wr ∧ Below w.heap.size w wr) (fun i _ => J.length - (intOf i).toNat)
      case atStart => exact ⟨0, Nat.zero_le _, rfl, SO.out, C7.out, B7.out⟩
      case round =>
        clear SO C7 B7 X7 Y7 V7 U7
        obtain ⟨k, hk, rfl, hso, hcw, hbw⟩ := hrel
        by_cases hlt : k < J.length
        · obtain ⟨g, rfl, hg, hsf⟩ := hso (by omega)
          obtain ⟨s, hcell, hsz, hfr⟩ := hsf k (Nat.le_refl _) hlt
          have S1 := Lib.hid hsf
          have C1 := Lib.hid hcw
          have B1 := Lib.hid hbw
          have hadd : ∀ W : World, (binOp .add 9 (.string s) (.string ⟨#[120]⟩)).run Try.prog W = .ok (.string (s ++ ⟨#[120]⟩)) W := fun W => by
            rw [binOp_string_add]; exact run_string_add_sum W s ⟨#[120]⟩ (by have : (⟨#[120]⟩ : ByteArray).size = 1 := rfl; omega)
          clear hso hsf hcw hbw
          go_wp2
          go_roundw
          case rel => exact ⟨k + 1, by omega, by go_num, fun _ => ⟨g, rfl, hg, S1.out.step _⟩, C1.out.setCell hg _, B1.out.setCell (by show w.heap.size ≤ g; omega) _⟩
          case measure => simp [intOf]; omega
        · have X8 := Lib.hid (X2.out.below hcw)
          have Y8 := Lib.hid (Y2.out.below hcw)
          have V8 := Lib.hid (V2.out.below hcw)
          have U8 := Lib.hid (U2.out.below hcw)
          have B8 := Lib.hid hbw
          have q1 := M.sameB_refl ss
          have q2 := M.sameB_refl ts
          clear hso hcw hbw X2 Y2 V2 U2
          go_wp2_with (fail)
          refine (same_any X8.out V8.out (by omega)).mono ?_
          rintro e w9 ⟨rfl, hb⟩
          have Y9 := Lib.hid (Y8.out.below hb)
          have U9 := Lib.hid (U8.out.below hb)
          have B9 := Lib.hid (below_on B8.out hb)
          clear hb X8 V8 Y8 U8 B8
          go_wp2_with (fail)
          refine (same_any Y9.out U9.out (by omega)).mono ?_
          rintro e w10 ⟨rfl, hb⟩
          have B10 := Lib.hid (below_on B9.out hb)
          clear hb Y9 U9 B9
          go_wp2_with (fail)
          refine (awake_any _).mono ?_
          rintro e w11 ⟨rfl, hb⟩
          have B11 := Lib.hid (below_on B10.out hb)
          clear hb
          go_wp2
          go_ret
          exact ⟨rfl, B11.out⟩

set_option maxHeartbeats 1000000 in
theorem lists_law (v : Value) (ss : List (List UInt8)) (u : Value) (ts : List (List UInt8)) (w : World) (h : Words w v ss) (_ : ∀ x ∈ ss, x.length ≤ maxLen) (h' : Words w u ts) (_ : ∀ x ∈ ts, x.length ≤ maxLen) : Calls Try.prog 5 #[v, u] w (Yes w) := by
  have HV := Lib.hid h
  have HU := Lib.hid h'
  rcases two (M.fewB ss) with f | f
  · rcases two (M.fewB ts) with f' | f'
    · exact lists_go v ss u ts w h h' f f'
    · clear h h'
      go_enter Try.func5, Try.ntmps5
      go_wp2_with (first
        | (go_at_call 18; ((with_reducible refine (few_any HV.out).mono ?_); rintro e w' ⟨rfl, rfl⟩))
        | (go_at_call 18; ((with_reducible refine (few_any HU.out).mono ?_); rintro e w' ⟨rfl, rfl⟩))
        | (go_at_call 9; refine (awake_any _).mono ?_; rintro e w1 ⟨rfl, hb1⟩))
      go_ret
      exact ⟨rfl, hb1⟩
  · clear h h'
    go_enter Try.func5, Try.ntmps5
    go_wp2_with (first
      | (go_at_call 18; ((with_reducible refine (few_any HV.out).mono ?_); rintro e w' ⟨rfl, rfl⟩))
      | (go_at_call 9; refine (awake_any _).mono ?_; rintro e w1 ⟨rfl, hb1⟩))
    go_ret
    exact ⟨rfl, hb1⟩
end Go.Proofs.Ythjahiaomllneaa
