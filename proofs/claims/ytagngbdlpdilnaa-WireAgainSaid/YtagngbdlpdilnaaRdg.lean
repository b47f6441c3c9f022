/- Contract of each; no conditions but those that it names. -/
import Derived.Test.YtagngbdlpdilnaaRdf
namespace Go.Proofs.Ytagngbdlpdilnaa
open Go.ChangeShapes Go.WideShapes Go.ChangeAt Go.RowKit

theorem Bel.next {g B : Nat} {a w w' : World} (h : Bel g B a w) (k : Bel g B w w') : Bel g B a w' := ⟨k.os.trans h.os, k.tape.trans h.tape, k.output.trans h.output, Nat.le_trans h.size k.size, fun i hi hg => (k.block i hi hg).trans (h.block i hi hg)⟩

set_option maxHeartbeats 8000000 in
set_option maxRecDepth 100000 in
theorem each_rd {w : World} {g q cb base : Nat} {L : List Value} {va vb : Value} {cm : Bool} {rs : List (List UInt8 × Int × Int)} {ws : List (List UInt8 × List UInt8)} {s : P.Sr} (h : Rdr w g s) (C : Cst w g q cb base L va vb cm rs ws) (e0 : rs = []) :
    Calls Try.prog 98 #[.pointer (some ⟨g, 0, none⟩), .func (.func 99) #[] #[.pointer (some ⟨q, 0, none⟩), .pointer (some ⟨cb, 0, none⟩)]] w
      fun e w' => e = .returned (.tuple #[]) ∧ ∃ s1 s2 n l v, P.Ran P.few s s1 n ∧ Rdr w' g s2 ∧ Cst w' g q cb base L v vb cm l ws ∧ Bel g q w w' ∧ P.Ran (P.rep P.rd n) s1 s2 l ∧ n ≤ 8 ∧ l.length = n := by
  subst e0
  have R0 := Lib.hid h
  have C0 := Lib.hid C
  have hqw := C.box.lt
  have HQ := Lib.hid hqw
  clear h C hqw
  go_enter Try.func98, Try.ntmps98
  go_wp2_with (fail)
  refine (count_any R0.out).mono ?_
  rintro e w1 ⟨s1, n, rfl, hn, hr, hb, hp⟩
  have R1 := Lib.hid hr
  have B1 := Lib.hid hb
  have P1 := Lib.hid hp
  have C1 := Lib.hid (C0.out.bel hb)
  clear hr hb hp
  go_wp2
  go_loopw [6] (fun i wr => ∃ (k : Nat) (s2 : P.Sr) (l : List (List UInt8 × Int × Int)) (v : Value), k ≤ n ∧ i = .int .i64 k ∧ Rdr wr g s2 ∧ Cst wr g q cb base L v vb cm l ws ∧ Bel g q w wr ∧ P.Ran (P.rep P.rd k) s1 s2 l ∧ l.length = k) (fun i _ => n - (intOf i).toNat)
  case atStart => exact ⟨0, s1, [], _, Nat.zero_le _, rfl, R1.out, C1.out, (B1.out.mono (Nat.le_of_lt HQ.out)), P.Ran.ret _ _, rfl⟩
  case round =>
    obtain ⟨k, s2, l, v, hk, rfl, hr, hc, hb, hp, hlen⟩ := hrel
    have R2 := Lib.hid hr
    have C2 := Lib.hid hc
    have B2 := Lib.hid hb
    have P2 := Lib.hid hp
    have HL := Lib.hid hlen
    have HK := Lib.hid hk
    have HN := Lib.hid hn
    clear hr hc hb hp hlen
    by_cases hlt : k < n
    · go_wp2_with (fail)
      refine (item_rd R2.out C2.out (by have := HL.out; have := HN.out; omega)).mono ?_
      rintro e w3 ⟨rfl, s3, x, hr, ⟨v3, hc⟩, hb, hp⟩
      have R3 := Lib.hid hr
      have C3 := Lib.hid hc
      have B3 := Lib.hid (B2.out.next hb)
      have P3 := Lib.hid hp
      clear hr hc hb hp
      go_wp2
      go_roundw
      case rel => exact ⟨k + 1, s3, l ++ [x], v3, by omega, by go_num, R3.out, C3.out, B3.out, P.Ran.snoc P.errs_rd P2.out P3.out, by have := HL.out; simp; omega⟩
      case measure => simp [intOf]; omega
    · obtain rfl : k = n := by omega
      go_wp2
      refine bodyPost_end (v := .tuple #[]) (by simp [results, Try.results98]) rfl ?_
      exact ⟨rfl, s1, s2, k, l, v, P1.out, R2.out, C2.out, B2.out, P2.out, HN.out, HL.out⟩

set_option maxHeartbeats 8000000 in
set_option maxRecDepth 100000 in
theorem each_wr {w : World} {g q cb base : Nat} {L : List Value} {va vb : Value} {cm : Bool} {rs : List (List UInt8 × Int × Int)} {ws : List (List UInt8 × List UInt8)} {s : P.Sr} (h : Rdr w g s) (C : Cst w g q cb base L va vb cm rs ws) (e0 : ws = []) :
    Calls Try.prog 98 #[.pointer (some ⟨g, 0, none⟩), .func (.func 101) #[] #[.pointer (some ⟨q, 0, none⟩), .pointer (some ⟨cb, 0, none⟩)]] w
      fun e w' => e = .returned (.tuple #[]) ∧ ∃ s1 s2 n l v, P.Ran P.few s s1 n ∧ Rdr w' g s2 ∧ Cst w' g q cb base L va v cm rs l ∧ Bel g q w w' ∧ P.Ran (P.rep P.wr n) s1 s2 l ∧ n ≤ 8 ∧ l.length = n := by
  subst e0
  have R0 := Lib.hid h
  have C0 := Lib.hid C
  have hqw := C.box.lt
  have HQ := Lib.hid hqw
  clear h C hqw
  go_enter Try.func98, Try.ntmps98
  go_wp2_with (fail)
  refine (count_any R0.out).mono ?_
  rintro e w1 ⟨s1, n, rfl, hn, hr, hb, hp⟩
  have R1 := Lib.hid hr
  have B1 := Lib.hid hb
  have P1 := Lib.hid hp
  have C1 := Lib.hid (C0.out.bel hb)
  clear hr hb hp
  go_wp2
  go_loopw [6] (fun i wr => ∃ (k : Nat) (s2 : P.Sr) (l : List (List UInt8 × List UInt8)) (v : Value), k ≤ n ∧ i = .int .i64 k ∧ Rdr wr g s2 ∧ Cst wr g q cb base L va v cm rs l ∧ Bel g q w wr ∧ P.Ran (P.rep P.wr k) s1 s2 l ∧ l.length = k) (fun i _ => n - (intOf i).toNat)
  case atStart => exact ⟨0, s1, [], _, Nat.zero_le _, rfl, R1.out, C1.out, (B1.out.mono (Nat.le_of_lt HQ.out)), P.Ran.ret _ _, rfl⟩
  case round =>
    obtain ⟨k, s2, l, v, hk, rfl, hr, hc, hb, hp, hlen⟩ := hrel
    have R2 := Lib.hid hr
    have C2 := Lib.hid hc
    have B2 := Lib.hid hb
    have P2 := Lib.hid hp
    have HL := Lib.hid hlen
    have HK := Lib.hid hk
    have HN := Lib.hid hn
    clear hr hc hb hp hlen
    by_cases hlt : k < n
    · go_wp2_with (fail)
      refine (item_wr R2.out C2.out (by have := HL.out; have := HN.out; omega)).mono ?_
      rintro e w3 ⟨rfl, s3, x, hr, ⟨v3, hc⟩, hb, hp⟩
      have R3 := Lib.hid hr
      have C3 := Lib.hid hc
      have B3 := Lib.hid (B2.out.next hb)
      have P3 := Lib.hid hp
      clear hr hc hb hp
      go_wp2
      go_roundw
      case rel => exact ⟨k + 1, s3, l ++ [x], v3, by omega, by go_num, R3.out, C3.out, B3.out, P.Ran.snoc P.errs_wr P2.out P3.out, by have := HL.out; simp; omega⟩
      case measure => simp [intOf]; omega
    · obtain rfl : k = n := by omega
      go_wp2
      refine bodyPost_end (v := .tuple #[]) (by simp [results, Try.results98]) rfl ?_
      exact ⟨rfl, s1, s2, k, l, v, P1.out, R2.out, C2.out, B2.out, P2.out, HN.out, HL.out⟩
end Go.Proofs.Ytagngbdlpdilnaa
