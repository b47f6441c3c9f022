/- Contracts of the closures of Part, and of slices.IndexFunc at them; no conditions but the lengths that they name. -/
import Derived.Test.YtacieiddhkkahaaCmdsH
namespace Go.Proofs.Ytacieiddhkkahaa
open Go.ChangeShapes Go.WideShapes Go.ChangeAt Go.RowKit

namespace M
/-- Does a key belong to another shard? -/
def elseB (k n : Int) (x : List UInt8) : Bool := sh ⟨x.toArray⟩ n != k
def elR (k n : Int) (l : List (List UInt8 × Int × Int)) (i : Nat) : Bool := elseB k n (l.getD i rd0).1
def elW (k n : Int) (l : List (List UInt8 × List UInt8)) (i : Nat) : Bool := elseB k n (l.getD i wr0).1
end M
/-- What the closures have captured: the number of shards, the shard, and the closure of both. -/
structure Cap (w : World) (b1 b2 b3 : Nat) (n k : Int) : Prop where
  l1 : b1 < w.heap.size
  l2 : b2 < w.heap.size
  l3 : b3 < w.heap.size
  n1 : w.cell? ⟨b1, 0, none⟩ = some (.int .i64 n)
  k2 : w.cell? ⟨b2, 0, none⟩ = some (.int .i64 k)
  f3 : w.cell? ⟨b3, 0, none⟩ = some (.func (.func 26) #[] #[.pointer (some ⟨b1, 0, none⟩), .pointer (some ⟨b2, 0, none⟩)])
theorem Cap.on {w w' : World} {b1 b2 b3 : Nat} {n k : Int} (h : Cap w b1 b2 b3 n k) (hb : Below w.heap.size w w') : Cap w' b1 b2 b3 n k :=
  ⟨Nat.lt_of_lt_of_le h.l1 hb.size, Nat.lt_of_lt_of_le h.l2 hb.size, Nat.lt_of_lt_of_le h.l3 hb.size, (hb.cell (p := ⟨b1, 0, none⟩) h.l1).trans h.n1, (hb.cell (p := ⟨b2, 0, none⟩) h.l2).trans h.k2, (hb.cell (p := ⟨b3, 0, none⟩) h.l3).trans h.f3⟩
theorem Cap.push {w : World} {b1 b2 b3 : Nat} {n k : Int} (h : Cap w b1 b2 b3 n k) (o : Obj) : Cap (w.alloc o) b1 b2 b3 n k := h.on (below_new (Below.refl _ _))
theorem Cap.far {w w' : World} {b1 b2 b3 g : Nat} {n k : Int} (h : Cap w b1 b2 b3 n k) (hg : w.grownBy w' (some g)) (h1 : b1 ≠ g) (h2 : b2 ≠ g) (h3 : b3 ≠ g) : Cap w' b1 b2 b3 n k :=
  ⟨Nat.lt_of_lt_of_le h.l1 hg.size, Nat.lt_of_lt_of_le h.l2 hg.size, Nat.lt_of_lt_of_le h.l3 hg.size, hg.cell h.n1 (fun e => h1 (Option.some.inj e)), hg.cell h.k2 (fun e => h2 (Option.some.inj e)), hg.cell h.f3 (fun e => h3 (Option.some.inj e))⟩

set_option maxHeartbeats 1000000 in
theorem else_any (x : List UInt8) {n k : Int} {b1 b2 b3 : Nat} {w : World} (h : Cap w b1 b2 b3 n k) : Calls Try.prog 26 #[.string ⟨x.toArray⟩, .pointer (some ⟨b1, 0, none⟩), .pointer (some ⟨b2, 0, none⟩)] w fun e w' => e = .returned (.bool (M.elseB k n x)) ∧ Below w.heap.size w w' := by
  have HC := Lib.hid h
  obtain ⟨l1, l2, l3, n1, k2, f3⟩ := h
  clear f3
  go_enter Try.func26, Try.ntmps26
  go_wp2_with (fail)
  refine (shard_any _ _ _).mono ?_
  rintro e w1 ⟨rfl, hb⟩
  have k2' := (HC.out.on hb).k2
  have B1 := Lib.hid hb
  clear hb n1 k2
  go_wp2
  go_ret
  exact ⟨ret_bool rfl, B1.out⟩

set_option maxHeartbeats 1000000 in
theorem cloR_any (x : List UInt8) (t c : Int) {n k : Int} {b1 b2 b3 : Nat} {w : World} (h : Cap w b1 b2 b3 n k) : Calls Try.prog 29 #[.agg #[.string ⟨x.toArray⟩, .int .i64 t, .int .i64 c], .pointer (some ⟨b3, 0, none⟩)] w fun e w' => e = .returned (.bool (M.elseB k n x)) ∧ Below w.heap.size w w' := by
  have HC := Lib.hid (h.push (.cells #[.string ⟨x.toArray⟩, .int .i64 t, .int .i64 c] 40))
  obtain ⟨l1, l2, l3, n1, k2, f3⟩ := h
  clear n1 k2
  go_enter Try.func29, Try.ntmps29
  go_wp2_with (fail)
  refine (else_any x HC.out).mono ?_
  rintro e w1 ⟨rfl, hb⟩
  have B1 := Lib.hid (below_on (below_new (Below.refl _ _)) hb)
  clear hb
  go_wp2
  go_ret
  exact ⟨rfl, B1.out⟩

set_option maxHeartbeats 1000000 in
theorem cloW_any (x t : List UInt8) {n k : Int} {b1 b2 b3 : Nat} {w : World} (h : Cap w b1 b2 b3 n k) : Calls Try.prog 31 #[.agg #[.string ⟨x.toArray⟩, .string ⟨t.toArray⟩], .pointer (some ⟨b3, 0, none⟩)] w fun e w' => e = .returned (.bool (M.elseB k n x)) ∧ Below w.heap.size w w' := by
  have HC := Lib.hid (h.push (.cells #[.string ⟨x.toArray⟩, .string ⟨t.toArray⟩] 42))
  obtain ⟨l1, l2, l3, n1, k2, f3⟩ := h
  clear n1 k2
  go_enter Try.func31, Try.ntmps31
  go_wp2_with (fail)
  refine (else_any x HC.out).mono ?_
  rintro e w1 ⟨rfl, hb⟩
  have B1 := Lib.hid (below_on (below_new (Below.refl _ _)) hb)
  clear hb
  go_wp2
  go_ret
  exact ⟨rfl, B1.out⟩

/-- The first that is elsewhere, or none. -/
def Idx (p : Nat → Bool) (len : Nat) (w : World) (e : Ending) (w' : World) : Prop := ((∃ i : Nat, i < len ∧ e = .returned (.int .i64 i) ∧ p i = true ∧ ∀ j, j < i → p j = false) ∨ (e = .returned (.int .i64 (-1)) ∧ ∀ j, j < len → p j = false)) ∧ Below w.heap.size w w'

set_option maxHeartbeats 2000000 in
set_option maxRecDepth 100000 in
theorem indexR_any {w : World} {v : Value} {l : List (List UInt8 × Int × Int)} {n k : Int} {b1 b2 b3 : Nat} (h : Rds w v l) (hl : l.length ≤ 1000) (hc : Cap w b1 b2 b3 n k) : Calls Try.prog 51 #[v, .func (.func 29) #[] #[.pointer (some ⟨b3, 0, none⟩)]] w (Idx (M.elR k n l) l.length w) := by
  obtain ⟨A, c, rfl, hc1, hx⟩ := h.opened
  have HX := Lib.hid hx
  have HC := Lib.hid hc
  clear hx h hc
  go_enter Try.func51, Try.ntmps51
  go_wp2
  go_loopw [8] (fun i wr => ∃ j : Nat, j ≤ l.length ∧ i = .int .i64 j ∧ Below w.heap.size w wr ∧ ∀ q, q < j → M.elR k n l q = false) (fun i _ => l.length - (intOf i).toNat)
  case atStart => exact ⟨0, Nat.zero_le _, rfl, Below.refl _ _, fun q hq => absurd hq (by omega)⟩
  case round =>
    obtain ⟨i, hi, rfl, hbw, hall⟩ := hrel
    have HA := Lib.hid hall
    have BW := Lib.hid hbw
    clear hall hbw
    by_cases hlt : i < l.length
    · obtain ⟨b, o, rfl, hb, hy⟩ := HX.out (by omega)
      obtain ⟨z1, z2, z3⟩ := (hy i hlt).below BW.out hb
      clear hy
      obtain ⟨q0, hq0⟩ : ∃ q0, q0 = M.elR k n l i := ⟨_, rfl⟩
      have HQ := Lib.hid (show q0 = M.elseB k n (l.getD i rd0).1 from hq0)
      have HP := Lib.hid (show q0 = true → M.elR k n l i = true from fun e => hq0 ▸ e)
      have HN := Lib.hid (show q0 = false → ∀ q, q < i + 1 → M.elR k n l q = false from fun e q hq => by
        by_cases e1 : q = i
        · rw [e1]; exact hq0 ▸ e
        · exact HA.out q (by omega))
      clear hq0
      generalize (l.getD i rd0).1 = x at *
      generalize (l.getD i rd0).2.1 = t at *
      generalize (l.getD i rd0).2.2 = u at *
      have CC := Lib.hid (cloR_any x t u (HC.out.on BW.out))
      have CD := CC.out
      rw [← HQ.out] at CD
      have CE := Lib.hid CD
      clear CC CD HQ
      have hi1 : (i : Int) < (l.length : Int) := by omega
      cases q0
      · go_wp2_with (fail)
        refine CE.out.mono ?_
        rintro e w1 ⟨rfl, hb1⟩
        have B1 := Lib.hid (below_on BW.out hb1)
        clear hb1
        go_wp2
        go_roundw
        case rel => exact ⟨i + 1, by omega, by go_num, B1.out, HN.out (by first | rfl | trivial)⟩
        case measure => simp [intOf]; omega
      · go_wp2_with (fail)
        refine CE.out.mono ?_
        rintro e w1 ⟨rfl, hb1⟩
        have B1 := Lib.hid (below_on BW.out hb1)
        clear hb1
        go_wp2
        go_ret
        exact ⟨.inl ⟨i, hlt, rfl, HP.out (by first | rfl | trivial), HA.out⟩, B1.out⟩
    · go_wp2
      go_ret
      exact ⟨.inr ⟨rfl, fun j hj => HA.out j (by omega)⟩, BW.out⟩

set_option maxHeartbeats 2000000 in
set_option maxRecDepth 100000 in
theorem indexW_any {w : World} {v : Value} {l : List (List UInt8 × List UInt8)} {n k : Int} {b1 b2 b3 : Nat} (h : Wrs w v l) (hl : l.length ≤ 1000) (hc : Cap w b1 b2 b3 n k) : Calls Try.prog 52 #[v, .func (.func 31) #[] #[.pointer (some ⟨b3, 0, none⟩)]] w (Idx (M.elW k n l) l.length w) := by
  obtain ⟨A, c, rfl, hc1, hx⟩ := h.opened
  have HX := Lib.hid hx
  have HC := Lib.hid hc
  clear hx h hc
  go_enter Try.func52, Try.ntmps52
  go_wp2
  go_loopw [8] (fun i wr => ∃ j : Nat, j ≤ l.length ∧ i = .int .i64 j ∧ Below w.heap.size w wr ∧ ∀ q, q < j → M.elW k n l q = false) (fun i _ => l.length - (intOf i).toNat)
  case atStart => exact ⟨0, Nat.zero_le _, rfl, Below.refl _ _, fun q hq => absurd hq (by omega)⟩
  case round =>
    obtain ⟨i, hi, rfl, hbw, hall⟩ := hrel
    have HA := Lib.hid hall
    have BW := Lib.hid hbw
    clear hall hbw
    by_cases hlt : i < l.length
    · obtain ⟨b, o, rfl, hb, hy⟩ := HX.out (by omega)
      obtain ⟨z1, z2⟩ := (hy i hlt).below BW.out hb
      clear hy
      obtain ⟨q0, hq0⟩ : ∃ q0, q0 = M.elW k n l i := ⟨_, rfl⟩
      have HQ := Lib.hid (show q0 = M.elseB k n (l.getD i wr0).1 from hq0)
      have HP := Lib.hid (show q0 = true → M.elW k n l i = true from fun e => hq0 ▸ e)
      have HN := Lib.hid (show q0 = false → ∀ q, q < i + 1 → M.elW k n l q = false from fun e q hq => by
        by_cases e1 : q = i
        · rw [e1]; exact hq0 ▸ e
        · exact HA.out q (by omega))
      clear hq0
      generalize (l.getD i wr0).1 = x at *
      generalize (l.getD i wr0).2 = t at *
      have CC := Lib.hid (cloW_any x t (HC.out.on BW.out))
      have CD := CC.out
      rw [← HQ.out] at CD
      have CE := Lib.hid CD
      clear CC CD HQ
      have hi1 : (i : Int) < (l.length : Int) := by omega
      cases q0
      · go_wp2_with (fail)
        refine CE.out.mono ?_
        rintro e w1 ⟨rfl, hb1⟩
        have B1 := Lib.hid (below_on BW.out hb1)
        clear hb1
        go_wp2
        go_roundw
        case rel => exact ⟨i + 1, by omega, by go_num, B1.out, HN.out (by first | rfl | trivial)⟩
        case measure => simp [intOf]; omega
      · go_wp2_with (fail)
        refine CE.out.mono ?_
        rintro e w1 ⟨rfl, hb1⟩
        have B1 := Lib.hid (below_on BW.out hb1)
        clear hb1
        go_wp2
        go_ret
        exact ⟨.inl ⟨i, hlt, rfl, HP.out (by first | rfl | trivial), HA.out⟩, B1.out⟩
    · go_wp2
      go_ret
      exact ⟨.inr ⟨rfl, fun j hj => HA.out j (by omega)⟩, BW.out⟩

end Go.Proofs.Ytacieiddhkkahaa
