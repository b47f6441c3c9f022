/- Commands: plain facts, contracts of the program's functions; no conditions but those that they name. -/
import Derived.Test.YtpknkhgkejkpkaaGreatWiA
import Derived.Deep.RegionWith

namespace Go.Proofs.YtpknkhgkejkpkaaGreat
open Go.ChangeShapes Go.WideShapes Go.ChangeAt Go.RowKit

/-- A slice of n elements of k cells that reads as a list of cells. -/
def RowN (k : Nat) (w : World) (v : Value) (n : Nat) (xs : List Value) : Prop := xs.length = n * k ∧ ∃ (A : Option Addr) (c : Nat), v = .slice A n c ∧ n ≤ c ∧ (0 < n → ∃ b o, A = some ⟨b, o, none⟩ ∧ b < w.heap.size ∧ ∀ j x, xs[j]? = some x → w.cell? ⟨b, o + j, none⟩ = some x)
theorem RowN.below {k : Nat} {w w' : World} {v : Value} {n : Nat} {xs : List Value} (h : RowN k w v n xs) (hb : Below w.heap.size w w') : RowN k w' v n xs := by
  obtain ⟨hl, A, c, e, hn, hc⟩ := h
  refine ⟨hl, A, c, e, hn, fun h0 => ?_⟩
  obtain ⟨b, o, e1, hlt, hx⟩ := hc h0
  exact ⟨b, o, e1, Nat.lt_of_lt_of_le hlt hb.size, fun j x hj => (hb.cell hlt).trans (hx j x hj)⟩
theorem RowN.of_owns {k : Nat} {w : World} {base : Nat} {t : TypeId} {v : Value} {n : Nat} {xs : List Value} (h : w.ownsRow base t k v n xs) : RowN k w v n xs := by
  obtain ⟨hl, h2⟩ := h
  refine ⟨hl, ?_⟩
  rcases h2 with ⟨rfl, rfl⟩ | ⟨g, cap, cur, rfl, hb, hg, hn, hm, hs, ht⟩
  · exact ⟨none, 0, rfl, Nat.le_refl _, fun h => absurd h (by omega)⟩
  · refine ⟨some ⟨g, 0, none⟩, cap, rfl, hn, fun _ => ⟨g, 0, rfl, (Array.getElem?_eq_some_iff.1 hg).1, fun j x hx => ?_⟩⟩
    have hj : j < xs.length := (List.getElem?_eq_some_iff.1 hx).1
    have h1 : (cur.toList.take (n * k))[j]? = some x := by rw [ht]; exact hx
    rw [List.getElem?_take_of_lt (by omega), Array.getElem?_toList] at h1
    simp only [World.cell?, hg, Nat.zero_add, Option.isSome_none, Bool.false_eq_true, if_false]
    exact h1

/-- A read's cells, a write's. -/
def rdC (r : (List UInt8 × Int × Int)) : List Value := [.string ⟨r.1.toArray⟩, .int .i64 r.2.1, .int .i64 r.2.2]
def wrC (r : (List UInt8 × List UInt8)) : List Value := [.string ⟨r.1.toArray⟩, .string ⟨r.2.toArray⟩]
def rdsC (l : List (List UInt8 × Int × Int)) : List Value := l.flatMap rdC
def wrsC (l : List (List UInt8 × List UInt8)) : List Value := l.flatMap wrC
theorem rdsC_len (l : List (List UInt8 × Int × Int)) : (rdsC l).length = l.length * 3 := by
  induction l with
  | nil => rfl
  | cons r l ih => simp only [rdsC, List.flatMap_cons, List.length_append, List.length_cons] at *; rw [ih]; simp [rdC]; omega
theorem wrsC_len (l : List (List UInt8 × List UInt8)) : (wrsC l).length = l.length * 2 := by
  induction l with
  | nil => rfl
  | cons r l ih => simp only [wrsC, List.flatMap_cons, List.length_append, List.length_cons] at *; rw [ih]; simp [wrC]; omega
def rd0 : (List UInt8 × Int × Int) := ([], 0, 0)
def wr0 : (List UInt8 × List UInt8) := ([], [])
theorem rdsC_at (l : List (List UInt8 × Int × Int)) (i j : Nat) (hi : i < l.length) (hj : j < 3) : (rdsC l)[i * 3 + j]? = (rdC (l.getD i rd0))[j]? := by
  induction l generalizing i with
  | nil => simp at hi
  | cons r l ih =>
    have e : rdsC (r :: l) = rdC r ++ rdsC l := rfl
    cases i with
    | zero => rw [e, List.getElem?_append_left (by simp [rdC]; omega)]; simp
    | succ i =>
      rw [e, List.getElem?_append_right (by simp [rdC]; omega)]
      have := ih i (by simpa using hi)
      rw [show (i + 1) * 3 + j - (rdC r).length = i * 3 + j by simp [rdC]; omega, this]
      simp
theorem wrsC_at (l : List (List UInt8 × List UInt8)) (i j : Nat) (hi : i < l.length) (hj : j < 2) : (wrsC l)[i * 2 + j]? = (wrC (l.getD i wr0))[j]? := by
  induction l generalizing i with
  | nil => simp at hi
  | cons r l ih =>
    have e : wrsC (r :: l) = wrC r ++ wrsC l := rfl
    cases i with
    | zero => rw [e, List.getElem?_append_left (by simp [wrC]; omega)]; simp
    | succ i =>
      rw [e, List.getElem?_append_right (by simp [wrC]; omega)]
      have := ih i (by simpa using hi)
      rw [show (i + 1) * 2 + j - (wrC r).length = i * 2 + j by simp [wrC]; omega, this]
      simp

/-- A slice of reads, of writes. -/
def Rds (w : World) (v : Value) (l : List (List UInt8 × Int × Int)) : Prop := RowN 3 w v l.length (rdsC l)
def Wrs (w : World) (v : Value) (l : List (List UInt8 × List UInt8)) : Prop := RowN 2 w v l.length (wrsC l)
theorem Rds.below {w w' : World} {v : Value} {l : List (List UInt8 × Int × Int)} (h : Rds w v l) (hb : Below w.heap.size w w') : Rds w' v l := RowN.below h hb
theorem Wrs.below {w w' : World} {v : Value} {l : List (List UInt8 × List UInt8)} (h : Wrs w v l) (hb : Below w.heap.size w w') : Wrs w' v l := RowN.below h hb
theorem Rds.nil (w : World) : Rds w (.slice none 0 0) [] := ⟨rfl, none, 0, rfl, Nat.le_refl _, fun h => absurd h (by simp)⟩
theorem Wrs.nil (w : World) : Wrs w (.slice none 0 0) [] := ⟨rfl, none, 0, rfl, Nat.le_refl _, fun h => absurd h (by simp)⟩
/-- What stands at a place. -/
structure RdAt (w : World) (b p : Nat) (k : List UInt8) (t c : Int) : Prop where
  key : w.cell? ⟨b, p, none⟩ = some (.string ⟨k.toArray⟩)
  time : w.cell? ⟨b, p + 1, none⟩ = some (.int .i64 t)
  client : w.cell? ⟨b, p + 2, none⟩ = some (.int .i64 c)
structure WrAt (w : World) (b p : Nat) (k x : List UInt8) : Prop where
  key : w.cell? ⟨b, p, none⟩ = some (.string ⟨k.toArray⟩)
  val : w.cell? ⟨b, p + 1, none⟩ = some (.string ⟨x.toArray⟩)
theorem Rds.opened {w : World} {v : Value} {l : List (List UInt8 × Int × Int)} (h : Rds w v l) : ∃ (A : Option Addr) (c : Nat), v = .slice A l.length c ∧ l.length ≤ c ∧ (0 < l.length → ∃ b o, A = some ⟨b, o, none⟩ ∧ b < w.heap.size ∧ ∀ i, i < l.length → RdAt w b (o + i * 3) (l.getD i rd0).1 (l.getD i rd0).2.1 (l.getD i rd0).2.2) := by
  obtain ⟨hl, A, c, e, hn, hx⟩ := h
  refine ⟨A, c, e, hn, fun h0 => ?_⟩
  obtain ⟨b, o, e1, hb, hy⟩ := hx h0
  refine ⟨b, o, e1, hb, fun i hi => ⟨?_, ?_, ?_⟩⟩
  · exact hy (i * 3) _ (rdsC_at l i 0 hi (by omega))
  · rw [show o + i * 3 + 1 = o + (i * 3 + 1) by omega]; exact hy (i * 3 + 1) _ (rdsC_at l i 1 hi (by omega))
  · rw [show o + i * 3 + 2 = o + (i * 3 + 2) by omega]; exact hy (i * 3 + 2) _ (rdsC_at l i 2 hi (by omega))
theorem Wrs.opened {w : World} {v : Value} {l : List (List UInt8 × List UInt8)} (h : Wrs w v l) : ∃ (A : Option Addr) (c : Nat), v = .slice A l.length c ∧ l.length ≤ c ∧ (0 < l.length → ∃ b o, A = some ⟨b, o, none⟩ ∧ b < w.heap.size ∧ ∀ i, i < l.length → WrAt w b (o + i * 2) (l.getD i wr0).1 (l.getD i wr0).2) := by
  obtain ⟨hl, A, c, e, hn, hx⟩ := h
  refine ⟨A, c, e, hn, fun h0 => ?_⟩
  obtain ⟨b, o, e1, hb, hy⟩ := hx h0
  refine ⟨b, o, e1, hb, fun i hi => ⟨?_, ?_⟩⟩
  · exact hy (i * 2) _ (wrsC_at l i 0 hi (by omega))
  · rw [show o + i * 2 + 1 = o + (i * 2 + 1) by omega]; exact hy (i * 2 + 1) _ (wrsC_at l i 1 hi (by omega))
theorem RdAt.below {w w' : World} {b p : Nat} {k : List UInt8} {t c : Int} (h : RdAt w b p k t c) (hb : Below w.heap.size w w') (hlt : b < w.heap.size) : RdAt w' b p k t c :=
  ⟨(hb.cell (p := ⟨b, p, none⟩) hlt).trans h.key, (hb.cell (p := ⟨b, p + 1, none⟩) hlt).trans h.time, (hb.cell (p := ⟨b, p + 2, none⟩) hlt).trans h.client⟩
theorem WrAt.below {w w' : World} {b p : Nat} {k x : List UInt8} (h : WrAt w b p k x) (hb : Below w.heap.size w w') (hlt : b < w.heap.size) : WrAt w' b p k x :=
  ⟨(hb.cell (p := ⟨b, p, none⟩) hlt).trans h.key, (hb.cell (p := ⟨b, p + 1, none⟩) hlt).trans h.val⟩
end Go.Proofs.YtpknkhgkejkpkaaGreat

namespace Go.Proofs.YtpknkhgkejkpkaaGreat
open Go.ChangeShapes Go.WideShapes Go.ChangeAt Go.RowKit

namespace M
def rk (l : List (List UInt8 × Int × Int)) : List (List UInt8) := l.map (·.1)
def wk (l : List (List UInt8 × List UInt8)) : List (List UInt8) := l.map (·.1)
theorem rk_take {l : List (List UInt8 × Int × Int)} {k : Nat} (h : k < l.length) : rk (l.take (k + 1)) = rk (l.take k) ++ [(l.getD k rd0).1] := by
  unfold rk; rw [List.take_add_one, List.map_append, List.getD, List.getElem?_eq_getElem h]; rfl
theorem wk_take {l : List (List UInt8 × List UInt8)} {k : Nat} (h : k < l.length) : wk (l.take (k + 1)) = wk (l.take k) ++ [(l.getD k wr0).1] := by
  unfold wk; rw [List.take_add_one, List.map_append, List.getD, List.getElem?_eq_getElem h]; rfl
theorem rk_len (l : List (List UInt8 × Int × Int)) : (rk l).length = l.length := by simp [rk]
theorem wk_len (l : List (List UInt8 × List UInt8)) : (wk l).length = l.length := by simp [wk]
end M

theorem cell_two_new (w : World) (o : Obj) (v : Value) (t : TypeId) : ∀ j u, [v][j]? = some u → ((w.alloc o).alloc (.cells #[v] t)).cell? ((⟨w.heap.size + 1, 0, none⟩ : Addr).add j) = some u := by
  have := cell_one_new (w.alloc o) v t
  simpa using this

set_option maxHeartbeats 2000000 in
set_option maxRecDepth 100000 in
theorem readKeys_any {w : World} {v : Value} {l : List (List UInt8 × Int × Int)} (h : Rds w v l) (hl : l.length ≤ 1000) : Calls Tryz.prog 96 #[v] w (Made (M.rk l) w) := by
  obtain ⟨i0, hi, hz0, hz1, hz2⟩ := info_parts info9
  obtain ⟨A, c, rfl, hc, hx⟩ := h.opened
  have HX := Lib.hid hx
  clear hx h
  go_enter Tryz.func96, Tryz.ntmps96
  go_wp2
  go_loopw [3, 8] (fun x i wr => ∃ k : Nat, k ≤ l.length ∧ i = .int .i64 k ∧ wr.ownsRow w.heap.size 9 1 x k ((M.rk (l.take k)).map encStr) ∧ Below w.heap.size w wr) (fun _ i _ => l.length - (intOf i).toNat)
  case atStart => exact ⟨0, Nat.zero_le _, rfl, World.ownsRow_nil _ _ _ _, Below.refl _ _⟩
  case round =>
    obtain ⟨k, hk, rfl, hrow, hbw⟩ := hrel
    have hbz := hbw.size
    by_cases hlt : k < l.length
    · obtain ⟨b, o, rfl, hb, hy⟩ := HX.out (by omega)
      obtain ⟨z1, z2, z3⟩ := (hy k hlt).below hbw hb
      have HN := Lib.hid (M.rk_take hlt)
      clear hy
      generalize (l.getD k rd0).1 = x at *
      generalize (l.getD k rd0).2.1 = t at *
      generalize (l.getD k rd0).2.2 = u at *
      have HO := Lib.hid hrow
      have HB := Lib.hid hbw
      clear hrow hbw
      go_wp2_with (at_builtin; refine wpList_append_own _ rfl _ _ 86 rfl w.heap.size 9 i0 (.string ⟨#[]⟩) 1 16 Tryz.underlying86 hi hz0 hz1 hz2 rfl (by decide) _ _ _ rfl ((HO.out.alloc _).alloc _) ⟨wr.heap.size + 1, 0, none⟩ 1 1 [.string ⟨x.toArray⟩] rfl rfl (cell_two_new _ _ _ _) (one_str [x]) (by unfold maxLen; omega) (by omega) (by simp; omega) ?_; intro v' w3 hown3 hgrow3 hnil3)
      have O3 := Lib.hid hown3
      have B3 := Lib.hid (((HB.out.alloc (by omega) _).alloc (by simp; omega) _).grown hgrow3 (by simp; omega) (fun i hi => (HO.out.lt i hi).1))
      clear hown3 hgrow3 hnil3
      go_wp2
      go_roundw
      case rel => exact ⟨k + 1, by omega, by go_num, by rw [HN.out]; simpa using O3.out, B3.out⟩
      case measure => simp [intOf]; omega
    · obtain rfl : k = l.length := by omega
      rw [List.take_length] at hrow
      have HO := Lib.hid hrow
      have HB := Lib.hid hbw
      have HE := Lib.hid (M.rk_len l)
      clear hrow hbw
      go_wp2
      go_ret
      exact ⟨_, rfl, by rw [HE.out]; exact HO.out, HB.out⟩

set_option maxHeartbeats 2000000 in
set_option maxRecDepth 100000 in
theorem writeKeys_any {w : World} {v : Value} {l : List (List UInt8 × List UInt8)} (h : Wrs w v l) (hl : l.length ≤ 1000) : Calls Tryz.prog 97 #[v] w (Made (M.wk l) w) := by
  obtain ⟨i0, hi, hz0, hz1, hz2⟩ := info_parts info9
  obtain ⟨A, c, rfl, hc, hx⟩ := h.opened
  have HX := Lib.hid hx
  clear hx h
  go_enter Tryz.func97, Tryz.ntmps97
  go_wp2
  go_loopw [3, 8] (fun x i wr => ∃ k : Nat, k ≤ l.length ∧ i = .int .i64 k ∧ wr.ownsRow w.heap.size 9 1 x k ((M.wk (l.take k)).map encStr) ∧ Below w.heap.size w wr) (fun _ i _ => l.length - (intOf i).toNat)
  case atStart => exact ⟨0, Nat.zero_le _, rfl, World.ownsRow_nil _ _ _ _, Below.refl _ _⟩
  case round =>
    obtain ⟨k, hk, rfl, hrow, hbw⟩ := hrel
    have hbz := hbw.size
    by_cases hlt : k < l.length
    · obtain ⟨b, o, rfl, hb, hy⟩ := HX.out (by omega)
      obtain ⟨z1, z2⟩ := (hy k hlt).below hbw hb
      have HN := Lib.hid (M.wk_take hlt)
      clear hy
      generalize (l.getD k wr0).1 = x at *
      generalize (l.getD k wr0).2 = t at *
      have HO := Lib.hid hrow
      have HB := Lib.hid hbw
      clear hrow hbw
      go_wp2_with (at_builtin; refine wpList_append_own _ rfl _ _ 86 rfl w.heap.size 9 i0 (.string ⟨#[]⟩) 1 16 Tryz.underlying86 hi hz0 hz1 hz2 rfl (by decide) _ _ _ rfl ((HO.out.alloc _).alloc _) ⟨wr.heap.size + 1, 0, none⟩ 1 1 [.string ⟨x.toArray⟩] rfl rfl (cell_two_new _ _ _ _) (one_str [x]) (by unfold maxLen; omega) (by omega) (by simp; omega) ?_; intro v' w3 hown3 hgrow3 hnil3)
      have O3 := Lib.hid hown3
      have B3 := Lib.hid (((HB.out.alloc (by omega) _).alloc (by simp; omega) _).grown hgrow3 (by simp; omega) (fun i hi => (HO.out.lt i hi).1))
      clear hown3 hgrow3 hnil3
      go_wp2
      go_roundw
      case rel => exact ⟨k + 1, by omega, by go_num, by rw [HN.out]; simpa using O3.out, B3.out⟩
      case measure => simp [intOf]; omega
    · obtain rfl : k = l.length := by omega
      rw [List.take_length] at hrow
      have HO := Lib.hid hrow
      have HB := Lib.hid hbw
      have HE := Lib.hid (M.wk_len l)
      clear hrow hbw
      go_wp2
      go_ret
      exact ⟨_, rfl, by rw [HE.out]; exact HO.out, HB.out⟩
end Go.Proofs.YtpknkhgkejkpkaaGreat

namespace Go.Proofs.YtpknkhgkejkpkaaGreat
open Go.ChangeShapes Go.WideShapes Go.ChangeAt Go.RowKit

namespace M
/-- A time that may be, ahead of another. -/
def oldB (t c a d : Int) : Bool := pairB t c 0 1099511627776 0 3 && decide (ord t c a d < 0)
theorem old_no {t c a d : Int} (h : pairB t c 0 1099511627776 0 3 = false) : oldB t c a d = false := by simp [oldB, h]
theorem old_yes {t c a d : Int} (h : pairB t c 0 1099511627776 0 3 = true) : oldB t c a d = decide (ord t c a d < 0) := by simp [oldB, h]
def oldAt (a d : Int) (r : (List UInt8 × Int × Int)) : Bool := oldB r.2.1 r.2.2 a d
def areR (l : List (List UInt8 × Int × Int)) (a d : Int) : Bool := l.all (oldAt a d) && rightsB (rk l)
def shortAt (r : (List UInt8 × List UInt8)) : Bool := decide (r.2.length ≤ 8)
def areW (l : List (List UInt8 × List UInt8)) : Bool := l.all shortAt && rightsB (wk l)
theorem all_step {α : Type} {l : List α} {p : α → Bool} {k : Nat} {z : α} (hk : k < l.length) (h : (l.take k).all p = true) (hp : p (l.getD k z) = true) : (l.take (k + 1)).all p = true := by
  rw [List.take_add_one, List.getElem?_eq_getElem hk, List.all_append, h]
  rw [List.getD, List.getElem?_eq_getElem hk] at hp
  simpa using hp
theorem all_no {α : Type} {l : List α} {p : α → Bool} {k : Nat} {z : α} (hk : k < l.length) (hp : p (l.getD k z) = false) : l.all p = false := by
  rw [List.getD, List.getElem?_eq_getElem hk] at hp
  cases e : l.all p
  · rfl
  · rw [List.all_eq_true] at e
    have := e _ (List.getElem_mem hk)
    simp at hp
    rw [hp] at this; cases this
theorem areR_no {l : List (List UInt8 × Int × Int)} {a d : Int} {k : Nat} (hk : k < l.length) (h : oldAt a d (l.getD k rd0) = false) : false = areR l a d := by
  unfold areR; rw [all_no hk h]; rfl
theorem areR_end {l : List (List UInt8 × Int × Int)} {a d : Int} {k : Nat} (hk : ¬ k < l.length) (h : (l.take k).all (oldAt a d) = true) : rightsB (rk l) = areR l a d := by
  rw [List.take_of_length_le (by omega)] at h; unfold areR; rw [h]; simp
theorem areW_no {l : List (List UInt8 × List UInt8)} {k : Nat} (hk : k < l.length) (h : shortAt (l.getD k wr0) = false) : false = areW l := by
  unfold areW; rw [all_no hk h]; rfl
theorem areW_end {l : List (List UInt8 × List UInt8)} {k : Nat} (hk : ¬ k < l.length) (h : (l.take k).all shortAt = true) : rightsB (wk l) = areW l := by
  rw [List.take_of_length_le (by omega)] at h; unfold areW; rw [h]; simp
end M

theorem hmf (fn : Fn) (first cap : Array Value) (w : World) : (Instr.makeFunc fn first cap).run Tryz.prog w = .ok (.func fn first cap) w := rfl

set_option maxHeartbeats 1000000 in
theorem old_any (t c a d : Int) (b : Nat) (w : World) (h : At w b (.int .i64 a) (.int .i64 d)) : Calls Tryz.prog 93 #[.agg #[.int .i64 t, .int .i64 c], .pointer (some ⟨b, 0, none⟩)] w fun e w' => e = .returned (.bool (M.oldB t c a d)) ∧ Below w.heap.size w w' := by
  have H0 := Lib.hid (At.new w (.int .i64 t) (.int .i64 c) 26)
  have H1 := Lib.hid (h.push (.cells #[.int .i64 t, .int .i64 c] 26))
  clear h
  cases e1 : M.pairB t c 0 1099511627776 0 3
  · have HE := Lib.hid (M.old_no (a := a) (d := d) e1)
    go_enter Tryz.func93, Tryz.ntmps93
    go_wp2_with (fail)
    refine (rightStamp_any _ _ _).mono ?_
    rintro e w1 ⟨rfl, hb⟩
    have HB := Lib.hid (below_on (below_new (Below.refl _ _)) hb)
    clear hb
    go_wp2
    go_ret
    exact ⟨ret_bool HE.out.symm, HB.out⟩
  · have HE := Lib.hid (M.old_yes (a := a) (d := d) e1)
    go_enter Tryz.func93, Tryz.ntmps93
    go_wp2_with (fail)
    refine (rightStamp_any _ _ _).mono ?_
    rintro e w1 ⟨rfl, hb⟩
    have HB := Lib.hid (below_on (below_new (Below.refl _ _)) hb)
    obtain ⟨l0, c0, c1⟩ := H0.out.on hb
    obtain ⟨l2, c2, c3⟩ := H1.out.on hb
    clear hb
    go_wp2_with (fail)
    refine (compareStamps_any _ _ _ _ _).mono ?_
    rintro e w2 ⟨rfl, hb⟩
    have HB2 := Lib.hid (below_on HB.out hb)
    clear hb
    go_wp2
    go_ret
    exact ⟨ret_bool HE.out.symm, HB2.out⟩

set_option maxHeartbeats 2000000 in
set_option maxRecDepth 100000 in
theorem areReads_any {w : World} {v : Value} {l : List (List UInt8 × Int × Int)} (a d : Int) (h : Rds w v l) (hl : l.length ≤ 1000) : Calls Tryz.prog 81 #[v, .agg #[.int .i64 a, .int .i64 d]] w fun e w' => e = .returned (.bool (M.areR l a d)) ∧ Below w.heap.size w w' := by
  have HV := Lib.hid h
  obtain ⟨A, c, rfl, hc, hx⟩ := h.opened
  have HX := Lib.hid hx
  clear hx h
  have hmf := hmf
  go_enter Tryz.func81, Tryz.ntmps81
  go_wp2
  go_loopw [11] (fun i wr => ∃ k : Nat, k ≤ l.length ∧ i = .int .i64 k ∧ Below w.heap.size w wr ∧ At wr w.heap.size (.int .i64 a) (.int .i64 d) ∧ (l.take k).all (M.oldAt a d) = true) (fun i _ => l.length - (intOf i).toNat)
  case atStart => exact ⟨0, Nat.zero_le _, rfl, (Below.refl _ _).alloc (Nat.le_refl _) _, At.new _ _ _ _, rfl⟩
  case round =>
    obtain ⟨k, hk, rfl, hbw, hat, hall⟩ := hrel
    have hbz := hbw.size
    have HA := Lib.hid hall
    have HB := Lib.hid hbw
    have HT := Lib.hid hat
    clear hall hbw hat
    by_cases hlt : k < l.length
    · obtain ⟨b, o, rfl, hb, hy⟩ := HX.out (by omega)
      obtain ⟨z1, z2, z3⟩ := (hy k hlt).below HB.out hb
      have HQ := Lib.hid (show M.oldAt a d (l.getD k rd0) = M.oldB (l.getD k rd0).2.1 (l.getD k rd0).2.2 a d from rfl)
      clear hy
      generalize (l.getD k rd0).1 = x at *
      generalize (l.getD k rd0).2.1 = t at *
      generalize (l.getD k rd0).2.2 = u at *
      cases e1 : M.oldB t u a d
      · go_wp2_with (fail)
        refine (old_any _ _ _ _ _ _ (HT.out.push _)).mono ?_
        rintro e w1 ⟨rfl, hb1⟩
        have B1 := Lib.hid (below_on (below_new HB.out) hb1)
        clear hb1
        go_wp2
        go_ret
        exact ⟨ret_bool (M.areR_no hlt (HQ.out.trans e1)), B1.out⟩
      · go_wp2_with (fail)
        refine (old_any _ _ _ _ _ _ (HT.out.push _)).mono ?_
        rintro e w1 ⟨rfl, hb1⟩
        have B1 := Lib.hid (below_on (below_new HB.out) hb1)
        have T1 := Lib.hid ((HT.out.push _).on hb1)
        clear hb1
        go_wp2
        go_roundw
        case rel => exact ⟨k + 1, by omega, by go_num, B1.out, T1.out, M.all_step hlt HA.out (HQ.out.trans e1)⟩
        case measure => simp [intOf]; omega
    · go_wp2_with (fail)
      refine (readKeys_any (HV.out.below HB.out) hl).mono ?_
      rintro e w1 ⟨v1, rfl, hown, hb1⟩
      have W1 := Lib.hid (Made.words hown)
      have B1 := Lib.hid (below_on HB.out hb1)
      clear hown hb1
      go_wp2_with (go_at_call 95; refine (rights_any W1.out).mono ?_; rintro e w' ⟨rfl, rfl⟩)
      go_ret
      exact ⟨ret_bool (M.areR_end hlt HA.out), B1.out⟩

set_option maxHeartbeats 2000000 in
set_option maxRecDepth 100000 in
theorem areWrites_any {w : World} {v : Value} {l : List (List UInt8 × List UInt8)} (h : Wrs w v l) (hl : l.length ≤ 1000) : Calls Tryz.prog 82 #[v] w fun e w' => e = .returned (.bool (M.areW l)) ∧ Below w.heap.size w w' := by
  have HV := Lib.hid h
  obtain ⟨A, c, rfl, hc, hx⟩ := h.opened
  have HX := Lib.hid hx
  clear hx h
  go_enter Tryz.func82, Tryz.ntmps82
  go_wp2
  go_loopw [7] (fun i wr => ∃ k : Nat, k ≤ l.length ∧ i = .int .i64 k ∧ Below w.heap.size w wr ∧ (l.take k).all M.shortAt = true) (fun i _ => l.length - (intOf i).toNat)
  case atStart => exact ⟨0, Nat.zero_le _, rfl, Below.refl _ _, rfl⟩
  case round =>
    obtain ⟨k, hk, rfl, hbw, hall⟩ := hrel
    have hbz := hbw.size
    have HA := Lib.hid hall
    have HB := Lib.hid hbw
    clear hall hbw
    by_cases hlt : k < l.length
    · obtain ⟨b, o, rfl, hb, hy⟩ := HX.out (by omega)
      obtain ⟨z1, z2⟩ := (hy k hlt).below HB.out hb
      have HQ := Lib.hid (show M.shortAt (l.getD k wr0) = decide ((l.getD k wr0).2.length ≤ 8) from rfl)
      clear hy
      generalize (l.getD k wr0).1 = x at *
      generalize (l.getD k wr0).2 = t at *
      obtain ⟨s, hs⟩ : ∃ s : ByteArray, s = ⟨t.toArray⟩ := ⟨_, rfl⟩
      rw [← hs] at z2
      have HZ := Lib.hid (show s.size = t.length by rw [hs, size_mk])
      clear hs
      by_cases hbig : 8 < s.size
      · go_wp2
        go_ret
        exact ⟨ret_bool (M.areW_no hlt (HQ.out.trans (by have := HZ.out; simp; omega))), below_new HB.out⟩
      · go_wp2
        go_roundw
        case rel => exact ⟨k + 1, by omega, by go_num, below_new HB.out, M.all_step hlt HA.out (HQ.out.trans (by have := HZ.out; simp; omega))⟩
        case measure => simp [intOf]; omega
    · go_wp2_with (fail)
      refine (writeKeys_any (HV.out.below HB.out) hl).mono ?_
      rintro e w1 ⟨v1, rfl, hown, hb1⟩
      have W1 := Lib.hid (Made.words hown)
      have B1 := Lib.hid (below_on HB.out hb1)
      clear hown hb1
      go_wp2_with (go_at_call 95; refine (rights_any W1.out).mono ?_; rintro e w' ⟨rfl, rfl⟩)
      go_ret
      exact ⟨ret_bool (M.areW_end hlt HA.out), B1.out⟩
end Go.Proofs.YtpknkhgkejkpkaaGreat

namespace Go.Proofs.YtpknkhgkejkpkaaGreat
open Go.ChangeShapes Go.WideShapes Go.ChangeAt Go.RowKit
namespace M
def eqRd (x : List UInt8) (t c : Int) (y : List UInt8) (a d : Int) : Bool := decide (x = y ∧ t = a ∧ c = d)
def eq2 (t c a d : Int) : Bool := decide (t = a ∧ c = d)
def eqWr (x t y a : List UInt8) : Bool := decide (x = y ∧ t = a)
end M
theorem run_same_rd (w : World) (x y : List UInt8) (t c a d : Int) : (Op.equalIn 10000 66 (.agg #[.string ⟨x.toArray⟩, .int .i64 t, .int .i64 c]) (.agg #[.string ⟨y.toArray⟩, .int .i64 a, .int .i64 d])).run Tryz.prog w = .ok (M.eqRd x t c y a d) w := by
  unfold M.eqRd
  by_cases h1 : x = y <;> by_cases h2 : t = a <;> by_cases h3 : c = d <;> go_simp
theorem run_same_wr (w : World) (x y t a : List UInt8) : (Op.equalIn 10000 68 (.agg #[.string ⟨x.toArray⟩, .string ⟨t.toArray⟩]) (.agg #[.string ⟨y.toArray⟩, .string ⟨a.toArray⟩])).run Tryz.prog w = .ok (M.eqWr x t y a) w := by
  unfold M.eqWr
  by_cases h1 : x = y <;> by_cases h2 : t = a <;> go_simp
theorem run_same_txn (w : World) (t c a d : Int) : (Op.equalIn 10000 24 (.agg #[.int .i64 t, .int .i64 c]) (.agg #[.int .i64 a, .int .i64 d])).run Tryz.prog w = .ok (M.eq2 t c a d) w := by
  unfold M.eq2
  by_cases h2 : t = a <;> by_cases h3 : c = d <;> go_simp
theorem run_same_stamp (w : World) (t c a d : Int) : (Op.equalIn 10000 26 (.agg #[.int .i64 t, .int .i64 c]) (.agg #[.int .i64 a, .int .i64 d])).run Tryz.prog w = .ok (M.eq2 t c a d) w := by
  unfold M.eq2
  by_cases h2 : t = a <;> by_cases h3 : c = d <;> go_simp
attribute [local go_sem ↓] run_same_rd run_same_wr run_same_txn run_same_stamp
namespace M
theorem take_at {α : Type} {l : List α} {k : Nat} (z : α) (h : k < l.length) : l.take (k + 1) = l.take k ++ [l.getD k z] := by
  rw [List.take_add_one, List.getD, List.getElem?_eq_getElem h]; rfl
theorem eqRd_iff {p q : (List UInt8 × Int × Int)} : eqRd p.1 p.2.1 p.2.2 q.1 q.2.1 q.2.2 = true ↔ p = q := by
  obtain ⟨x, t, c⟩ := p
  obtain ⟨y, a, d⟩ := q
  simp [eqRd]
theorem eqWr_iff {p q : (List UInt8 × List UInt8)} : eqWr p.1 p.2 q.1 q.2 = true ↔ p = q := by
  obtain ⟨x, t⟩ := p
  obtain ⟨y, a⟩ := q
  simp [eqWr]
/-- Are two lists the same? -/
def sameR (l m : List (List UInt8 × Int × Int)) : Bool := decide (l = m)
def sameW (l m : List (List UInt8 × List UInt8)) : Bool := decide (l = m)
theorem eq_take {α : Type} {l m : List α} {k : Nat} (z : α) (hk : k < l.length) (hl : l.length = m.length) (h : l.take k = m.take k) (e : l.getD k z = m.getD k z) : l.take (k + 1) = m.take (k + 1) := by
  rw [take_at z hk, take_at z (by omega), h, e]
theorem eq_end {α : Type} {l m : List α} {k : Nat} (hk : ¬ k < l.length) (hl : l.length = m.length) (h : l.take k = m.take k) : l = m := by
  rw [List.take_of_length_le (by omega), List.take_of_length_le (by omega)] at h; exact h
theorem eq_not {α : Type} {l m : List α} {k : Nat} (z : α) (e : ¬ l.getD k z = m.getD k z) : ¬ l = m := by rintro rfl; exact e rfl
theorem eq_len {α : Type} {l m : List α} (e : ¬ l.length = m.length) : ¬ l = m := by rintro rfl; exact e rfl
end M

set_option maxHeartbeats 2000000 in
set_option maxRecDepth 100000 in
theorem equalR_any {w : World} {v u : Value} {l m : List (List UInt8 × Int × Int)} (h : Rds w v l) (h' : Rds w u m) (hl : l.length ≤ 1000) : Calls Tryz.prog 76 #[v, u] w fun e w' => e = .returned (.bool (M.sameR l m)) ∧ Below w.heap.size w w' := by
  obtain ⟨A, c, rfl, hc, hx⟩ := h.opened
  obtain ⟨A', c', rfl, hc', hx'⟩ := h'.opened
  have HX := Lib.hid hx
  have HX' := Lib.hid hx'
  clear hx hx' h h'
  by_cases hn : l.length = m.length
  · rw [← hn] at HX' hc' ⊢
    have HN := Lib.hid hn
    clear hn
    go_enter Tryz.func76, Tryz.ntmps76
    go_wp2
    go_loopw [13] (fun i wr => ∃ k n : Nat, k ≤ l.length ∧ i = .int .i64 k ∧ wr = w.drewN n ∧ l.take k = m.take k) (fun i _ => l.length - (intOf i).toNat)
    case atStart => exact ⟨0, 0, Nat.zero_le _, rfl, rfl, rfl⟩
    case round =>
      obtain ⟨k, n, hk, rfl, rfl, htk⟩ := hrel
      have HS := Lib.hid htk
      clear htk
      by_cases hlt : k < l.length
      · obtain ⟨b, o, rfl, hb, hy⟩ := HX.out (by omega)
        obtain ⟨b', o', rfl, hb', hy'⟩ := HX'.out (by omega)
        obtain ⟨z1, z2, z3⟩ := hy k hlt
        obtain ⟨y1, y2, y3⟩ := hy' k hlt
        have HE := Lib.hid (M.eqRd_iff (p := l.getD k rd0) (q := m.getD k rd0))
        clear hy hy'
        generalize (l.getD k rd0).1 = p0 at *
        generalize (l.getD k rd0).2.1 = p1 at *
        generalize (l.getD k rd0).2.2 = p2 at *
        generalize (m.getD k rd0).1 = q0 at *
        generalize (m.getD k rd0).2.1 = q1 at *
        generalize (m.getD k rd0).2.2 = q2 at *
        have hi1 : (k : Int) < (l.length : Int) := by omega
        rcases two (M.eqRd p0 p1 p2 q0 q1 q2) with e | e
        · go_wp2
          go_quiet (fail)
          go_wp2
          go_roundw
          case rel => exact ⟨k + 1, _, by omega, by go_num, rfl, M.eq_take rd0 hlt HN.out HS.out (HE.out.1 e)⟩
          case measure => simp [intOf]; omega
        · go_wp2
          go_quiet (fail)
          go_wp2
          go_ret
          exact ⟨ret_bool (decide_eq_false (M.eq_not rd0 (fun q => by rw [HE.out.2 q] at e; cases e))).symm, below_drewN (below_drewN (Below.refl _ _) _) _⟩
      · go_wp2
        go_ret
        exact ⟨ret_bool (decide_eq_true (M.eq_end hlt HN.out HS.out)).symm, below_drewN (Below.refl _ _) _⟩
  · have q1 : ((l.length : Int) == (m.length : Int)) = false := by rw [beq_eq_false_iff_ne]; omega
    have q2 : ((l.length : Int) != (m.length : Int)) = true := by rw [bne, q1]; rfl
    have q3 : (l.length == m.length) = false := by rw [beq_eq_false_iff_ne]; exact hn
    have q4 : (l.length != m.length) = true := by rw [bne, q3]; rfl
    go_enter Tryz.func76, Tryz.ntmps76
    go_wp2
    go_ret
    exact ⟨ret_bool (decide_eq_false (M.eq_len hn)).symm, Below.refl _ _⟩

set_option maxHeartbeats 2000000 in
set_option maxRecDepth 100000 in
theorem equalW_any {w : World} {v u : Value} {l m : List (List UInt8 × List UInt8)} (h : Wrs w v l) (h' : Wrs w u m) (hl : l.length ≤ 1000) : Calls Tryz.prog 77 #[v, u] w fun e w' => e = .returned (.bool (M.sameW l m)) ∧ Below w.heap.size w w' := by
  obtain ⟨A, c, rfl, hc, hx⟩ := h.opened
  obtain ⟨A', c', rfl, hc', hx'⟩ := h'.opened
  have HX := Lib.hid hx
  have HX' := Lib.hid hx'
  clear hx hx' h h'
  by_cases hn : l.length = m.length
  · rw [← hn] at HX' hc' ⊢
    have HN := Lib.hid hn
    clear hn
    go_enter Tryz.func77, Tryz.ntmps77
    go_wp2
    go_loopw [13] (fun i wr => ∃ k n : Nat, k ≤ l.length ∧ i = .int .i64 k ∧ wr = w.drewN n ∧ l.take k = m.take k) (fun i _ => l.length - (intOf i).toNat)
    case atStart => exact ⟨0, 0, Nat.zero_le _, rfl, rfl, rfl⟩
    case round =>
      obtain ⟨k, n, hk, rfl, rfl, htk⟩ := hrel
      have HS := Lib.hid htk
      clear htk
      by_cases hlt : k < l.length
      · obtain ⟨b, o, rfl, hb, hy⟩ := HX.out (by omega)
        obtain ⟨b', o', rfl, hb', hy'⟩ := HX'.out (by omega)
        obtain ⟨z1, z2⟩ := hy k hlt
        obtain ⟨y1, y2⟩ := hy' k hlt
        have HE := Lib.hid (M.eqWr_iff (p := l.getD k wr0) (q := m.getD k wr0))
        clear hy hy'
        generalize (l.getD k wr0).1 = p0 at *
        generalize (l.getD k wr0).2 = p1 at *
        generalize (m.getD k wr0).1 = q0 at *
        generalize (m.getD k wr0).2 = q1 at *
        have hi1 : (k : Int) < (l.length : Int) := by omega
        rcases two (M.eqWr p0 p1 q0 q1) with e | e
        · go_wp2
          go_quiet (fail)
          go_wp2
          go_roundw
          case rel => exact ⟨k + 1, _, by omega, by go_num, rfl, M.eq_take wr0 hlt HN.out HS.out (HE.out.1 e)⟩
          case measure => simp [intOf]; omega
        · go_wp2
          go_quiet (fail)
          go_wp2
          go_ret
          exact ⟨ret_bool (decide_eq_false (M.eq_not wr0 (fun q => by rw [HE.out.2 q] at e; cases e))).symm, below_drewN (below_drewN (Below.refl _ _) _) _⟩
      · go_wp2
        go_ret
        exact ⟨ret_bool (decide_eq_true (M.eq_end hlt HN.out HS.out)).symm, below_drewN (Below.refl _ _) _⟩
  · have q1 : ((l.length : Int) == (m.length : Int)) = false := by rw [beq_eq_false_iff_ne]; omega
    have q2 : ((l.length : Int) != (m.length : Int)) = true := by rw [bne, q1]; rfl
    have q3 : (l.length == m.length) = false := by rw [beq_eq_false_iff_ne]; exact hn
    have q4 : (l.length != m.length) = true := by rw [bne, q3]; rfl
    go_enter Tryz.func77, Tryz.ntmps77
    go_wp2
    go_ret
    exact ⟨ret_bool (decide_eq_false (M.eq_len hn)).symm, Below.refl _ _⟩
end Go.Proofs.YtpknkhgkejkpkaaGreat

namespace Go.Proofs.YtpknkhgkejkpkaaGreat
open Go.ChangeShapes Go.WideShapes Go.ChangeAt Go.RowKit
attribute [local go_sem ↓] run_same_rd run_same_wr run_same_txn run_same_stamp
namespace M
/-- A command. -/
structure Cmd where
  k : Int
  tc : Int
  tn : Int
  tt : Int
  tk : Int
  sh : Int
  rs : List (List UInt8 × Int × Int)
  ws : List (List UInt8 × List UInt8)
  cm : Bool
def emptyB (n m : Nat) : Bool := decide (n = 0) && decide (m = 0)
def transB (c : Cmd) : Bool := pairB c.tc c.tn 0 3 1 1099511627776 && (pairB c.tt c.tk 0 1099511627776 0 3 && (decide (1 ≤ c.tt) && (decide (c.tk = c.tc) && (decide (1 ≤ c.sh) && (decide (c.sh ≤ 15) && (!emptyB c.rs.length c.ws.length && (areR c.rs c.tt c.tk && areW c.ws)))))))
def sameC (a b : Cmd) : Bool := decide (a.k = b.k) && (eq2 a.tc a.tn b.tc b.tn && (eq2 a.tt a.tk b.tt b.tk && (decide (a.sh = b.sh) && ((a.cm == b.cm) && (sameR a.rs b.rs && sameW a.ws b.ws)))))
end M

/-- A block of a command. -/
structure Box (w : World) (b : Nat) (c : M.Cmd) (va vb : Value) : Prop where
  lt : b < w.heap.size
  c0 : w.cell? ⟨b, 0, none⟩ = some (.int .i64 c.k)
  c1 : w.cell? ⟨b, 1, none⟩ = some (.int .i64 c.tc)
  c2 : w.cell? ⟨b, 2, none⟩ = some (.int .i64 c.tn)
  c3 : w.cell? ⟨b, 3, none⟩ = some (.int .i64 c.tt)
  c4 : w.cell? ⟨b, 4, none⟩ = some (.int .i64 c.tk)
  c5 : w.cell? ⟨b, 5, none⟩ = some (.int .i64 c.sh)
  c6 : w.cell? ⟨b, 6, none⟩ = some va
  c7 : w.cell? ⟨b, 7, none⟩ = some vb
  c8 : w.cell? ⟨b, 8, none⟩ = some (.bool c.cm)
theorem Box.new (w : World) (c : M.Cmd) (va vb : Value) : Box (w.alloc (.cells #[.int .i64 c.k, .int .i64 c.tc, .int .i64 c.tn, .int .i64 c.tt, .int .i64 c.tk, .int .i64 c.sh, va, vb, .bool c.cm] 30)) w.heap.size c va vb :=
  ⟨by simp, by simp, by simp, by simp, by simp, by simp, by simp, by simp, by simp, by simp⟩
theorem Box.push {w : World} {b : Nat} {c : M.Cmd} {va vb : Value} (h : Box w b c va vb) (o : Obj) : Box (w.alloc o) b c va vb :=
  ⟨by have := h.lt; simp; omega, (World.cell?_alloc_lt w o _ h.lt).trans h.c0, (World.cell?_alloc_lt w o _ h.lt).trans h.c1, (World.cell?_alloc_lt w o _ h.lt).trans h.c2, (World.cell?_alloc_lt w o _ h.lt).trans h.c3, (World.cell?_alloc_lt w o _ h.lt).trans h.c4, (World.cell?_alloc_lt w o _ h.lt).trans h.c5, (World.cell?_alloc_lt w o _ h.lt).trans h.c6, (World.cell?_alloc_lt w o _ h.lt).trans h.c7, (World.cell?_alloc_lt w o _ h.lt).trans h.c8⟩
theorem Box.on {w w' : World} {b : Nat} {c : M.Cmd} {va vb : Value} (h : Box w b c va vb) (k : Below w.heap.size w w') : Box w' b c va vb :=
  ⟨Nat.lt_of_lt_of_le h.lt k.size, (k.cell (p := ⟨b, 0, none⟩) h.lt).trans h.c0, (k.cell (p := ⟨b, 1, none⟩) h.lt).trans h.c1, (k.cell (p := ⟨b, 2, none⟩) h.lt).trans h.c2, (k.cell (p := ⟨b, 3, none⟩) h.lt).trans h.c3, (k.cell (p := ⟨b, 4, none⟩) h.lt).trans h.c4, (k.cell (p := ⟨b, 5, none⟩) h.lt).trans h.c5, (k.cell (p := ⟨b, 6, none⟩) h.lt).trans h.c6, (k.cell (p := ⟨b, 7, none⟩) h.lt).trans h.c7, (k.cell (p := ⟨b, 8, none⟩) h.lt).trans h.c8⟩
theorem Box.new1 (w : World) (o : Obj) (c : M.Cmd) (va vb : Value) : Box ((w.alloc o).alloc (.cells #[.int .i64 c.k, .int .i64 c.tc, .int .i64 c.tn, .int .i64 c.tt, .int .i64 c.tk, .int .i64 c.sh, va, vb, .bool c.cm] 30)) (w.heap.size + 1) c va vb := by
  simpa using Box.new (w.alloc o) c va vb
theorem Rds.push {w : World} {v : Value} {l : List (List UInt8 × Int × Int)} (h : Rds w v l) (o : Obj) : Rds (w.alloc o) v l := h.below (below_new (Below.refl _ _))
theorem Wrs.push {w : World} {v : Value} {l : List (List UInt8 × List UInt8)} (h : Wrs w v l) (o : Obj) : Wrs (w.alloc o) v l := h.below (below_new (Below.refl _ _))

theorem nz {n : Nat} (h : ¬ n = 0) : ((n : Int) == 0) = false ∧ (n == 0) = false := by
  constructor
  · rw [beq_eq_false_iff_ne]; omega
  · rw [beq_eq_false_iff_ne]; exact h
theorem zz {n : Nat} (h : n = 0) : ((n : Int) == 0) = true ∧ (n == 0) = true := by subst h; exact ⟨rfl, rfl⟩
theorem eqI {a b : Int} (h : a = b) : (a == b) = true ∧ (a != b) = false := by subst h; simp
theorem neI {a b : Int} (h : ¬ a = b) : (a == b) = false ∧ (a != b) = true := by
  have : (a == b) = false := by rw [beq_eq_false_iff_ne]; exact h
  exact ⟨this, by rw [bne, this]; rfl⟩

set_option maxHeartbeats 1000000 in
theorem isEmpty_any {w : World} (c : M.Cmd) {va vb : Value} (h : Rds w va c.rs) (h' : Wrs w vb c.ws) : Calls Tryz.prog 80 #[.agg #[.int .i64 c.k, .int .i64 c.tc, .int .i64 c.tn, .int .i64 c.tt, .int .i64 c.tk, .int .i64 c.sh, va, vb, .bool c.cm]] w fun e w' => e = .returned (.bool (M.emptyB c.rs.length c.ws.length)) ∧ Below w.heap.size w w' := by
  obtain ⟨A, c1, rfl, hc, -⟩ := h.opened
  obtain ⟨A', c2, rfl, hc', -⟩ := h'.opened
  clear h h'
  generalize c.rs.length = n at *
  generalize c.ws.length = m at *
  by_cases hn : n = 0
  · obtain ⟨q1, q2⟩ := zz hn
    by_cases hm : m = 0
    · obtain ⟨q3, q4⟩ := zz hm
      have HE := Lib.hid (show M.emptyB n m = true by simp [M.emptyB, hn, hm])
      clear hn hm
      go_enter Tryz.func80, Tryz.ntmps80
      go_wp2
      go_ret
      exact ⟨ret_bool HE.out.symm, below_new (Below.refl _ _)⟩
    · obtain ⟨q3, q4⟩ := nz hm
      have HE := Lib.hid (show M.emptyB n m = false by simp [M.emptyB, hm])
      clear hn hm
      go_enter Tryz.func80, Tryz.ntmps80
      go_wp2
      go_ret
      exact ⟨ret_bool HE.out.symm, below_new (Below.refl _ _)⟩
  · obtain ⟨q1, q2⟩ := nz hn
    have HE := Lib.hid (show M.emptyB n m = false by simp [M.emptyB, hn])
    clear hn
    go_enter Tryz.func80, Tryz.ntmps80
    go_wp2
    go_ret
    exact ⟨ret_bool HE.out.symm, below_new (Below.refl _ _)⟩


set_option maxHeartbeats 4000000 in
set_option maxRecDepth 100000 in
theorem isTransaction_any {w : World} (c : M.Cmd) {va vb : Value} (h : Rds w va c.rs) (h' : Wrs w vb c.ws) (hl : c.rs.length ≤ 1000) (hl' : c.ws.length ≤ 1000) : Calls Tryz.prog 53 #[.agg #[.int .i64 c.k, .int .i64 c.tc, .int .i64 c.tn, .int .i64 c.tt, .int .i64 c.tk, .int .i64 c.sh, va, vb, .bool c.cm]] w fun e w' => e = .returned (.bool (M.transB c)) ∧ Below w.heap.size w w' := by
  have X0 := Lib.hid (Box.new w c va vb)
  have R0 := Lib.hid (h.push (.cells #[.int .i64 c.k, .int .i64 c.tc, .int .i64 c.tn, .int .i64 c.tt, .int .i64 c.tk, .int .i64 c.sh, va, vb, .bool c.cm] 30))
  have W0 := Lib.hid (h'.push (.cells #[.int .i64 c.k, .int .i64 c.tc, .int .i64 c.tn, .int .i64 c.tt, .int .i64 c.tk, .int .i64 c.sh, va, vb, .bool c.cm] 30))
  have B0 := Lib.hid (below_new (o := .cells #[.int .i64 c.k, .int .i64 c.tc, .int .i64 c.tn, .int .i64 c.tt, .int .i64 c.tk, .int .i64 c.sh, va, vb, .bool c.cm] 30) (Below.refl w.heap.size w))
  clear h h'
  rcases two (M.pairB c.tc c.tn 0 3 1 1099511627776) with e0 | e0
  · rcases two (M.pairB c.tt c.tk 0 1099511627776 0 3) with e1 | e1
    · by_cases e2 : 1 ≤ c.tt
      · by_cases e3 : c.tk = c.tc
        · obtain ⟨q3a, q3b⟩ := eqI e3
          by_cases e4 : 1 ≤ c.sh
          · by_cases e5 : c.sh ≤ 15
            · rcases two (M.emptyB c.rs.length c.ws.length) with e6 | e6
              · have HE := Lib.hid (show M.transB c = false by unfold M.transB; rw [e0, e1, decide_eq_true e2, decide_eq_true e3, decide_eq_true e4, decide_eq_true e5, e6]; rfl)
                clear e3
                go_enter Tryz.func53, Tryz.ntmps53
                go_wp2_with (fail)
                refine (rightTxn_any _ _ _).mono ?_
                rintro e w1 ⟨rfl, hb⟩
                have B1 := Lib.hid (below_on B0.out hb)
                have X1 := Lib.hid (X0.out.on hb)
                have R1 := Lib.hid (R0.out.below hb)
                have W1 := Lib.hid (W0.out.below hb)
                clear hb B0 X0 R0 W0
                obtain ⟨l1, p10, p11, p12, p13, p14, p15, p16, p17, p18⟩ := X1.out
                go_wp2_with (fail)
                refine (rightStamp_any _ _ _).mono ?_
                rintro e w2 ⟨rfl, hb⟩
                have B2 := Lib.hid (below_on B1.out hb)
                have X2 := Lib.hid (X1.out.on hb)
                have R2 := Lib.hid (R1.out.below hb)
                have W2 := Lib.hid (W1.out.below hb)
                clear hb B1 X1 R1 W1
                clear l1 p10 p11 p12 p13 p14 p15 p16 p17 p18
                obtain ⟨l2, p20, p21, p22, p23, p24, p25, p26, p27, p28⟩ := X2.out
                go_wp2_with (fail)
                refine (isEmpty_any c R2.out W2.out).mono ?_
                rintro e w3 ⟨rfl, hb⟩
                have B3 := Lib.hid (below_on B2.out hb)
                have X3 := Lib.hid (X2.out.on hb)
                have R3 := Lib.hid (R2.out.below hb)
                have W3 := Lib.hid (W2.out.below hb)
                clear hb B2 X2 R2 W2
                clear l2 p20 p21 p22 p23 p24 p25 p26 p27 p28
                obtain ⟨l3, p30, p31, p32, p33, p34, p35, p36, p37, p38⟩ := X3.out
                go_wp2
                go_ret
                exact ⟨ret_bool HE.out.symm, B3.out⟩
              · rcases two (M.areR c.rs c.tt c.tk) with e7 | e7
                · have HE := Lib.hid (show M.transB c = M.areW c.ws by unfold M.transB; rw [e0, e1, decide_eq_true e2, decide_eq_true e3, decide_eq_true e4, decide_eq_true e5, e6, e7]; rfl)
                  clear e3
                  go_enter Tryz.func53, Tryz.ntmps53
                  go_wp2_with (fail)
                  refine (rightTxn_any _ _ _).mono ?_
                  rintro e w1 ⟨rfl, hb⟩
                  have B1 := Lib.hid (below_on B0.out hb)
                  have X1 := Lib.hid (X0.out.on hb)
                  have R1 := Lib.hid (R0.out.below hb)
                  have W1 := Lib.hid (W0.out.below hb)
                  clear hb B0 X0 R0 W0
                  obtain ⟨l1, p10, p11, p12, p13, p14, p15, p16, p17, p18⟩ := X1.out
                  go_wp2_with (fail)
                  refine (rightStamp_any _ _ _).mono ?_
                  rintro e w2 ⟨rfl, hb⟩
                  have B2 := Lib.hid (below_on B1.out hb)
                  have X2 := Lib.hid (X1.out.on hb)
                  have R2 := Lib.hid (R1.out.below hb)
                  have W2 := Lib.hid (W1.out.below hb)
                  clear hb B1 X1 R1 W1
                  clear l1 p10 p11 p12 p13 p14 p15 p16 p17 p18
                  obtain ⟨l2, p20, p21, p22, p23, p24, p25, p26, p27, p28⟩ := X2.out
                  go_wp2_with (fail)
                  refine (isEmpty_any c R2.out W2.out).mono ?_
                  rintro e w3 ⟨rfl, hb⟩
                  have B3 := Lib.hid (below_on B2.out hb)
                  have X3 := Lib.hid (X2.out.on hb)
                  have R3 := Lib.hid (R2.out.below hb)
                  have W3 := Lib.hid (W2.out.below hb)
                  clear hb B2 X2 R2 W2
                  clear l2 p20 p21 p22 p23 p24 p25 p26 p27 p28
                  obtain ⟨l3, p30, p31, p32, p33, p34, p35, p36, p37, p38⟩ := X3.out
                  go_wp2_with (fail)
                  refine (areReads_any _ _ R3.out hl).mono ?_
                  rintro e w4 ⟨rfl, hb⟩
                  have B4 := Lib.hid (below_on B3.out hb)
                  have X4 := Lib.hid (X3.out.on hb)
                  have R4 := Lib.hid (R3.out.below hb)
                  have W4 := Lib.hid (W3.out.below hb)
                  clear hb B3 X3 R3 W3
                  clear l3 p30 p31 p32 p33 p34 p35 p36 p37 p38
                  obtain ⟨l4, p40, p41, p42, p43, p44, p45, p46, p47, p48⟩ := X4.out
                  go_wp2_with (fail)
                  refine (areWrites_any W4.out hl').mono ?_
                  rintro e w5 ⟨rfl, hb⟩
                  have B5 := Lib.hid (below_on B4.out hb)
                  have X5 := Lib.hid (X4.out.on hb)
                  have R5 := Lib.hid (R4.out.below hb)
                  have W5 := Lib.hid (W4.out.below hb)
                  clear hb B4 X4 R4 W4
                  clear l4 p40 p41 p42 p43 p44 p45 p46 p47 p48
                  obtain ⟨l5, p50, p51, p52, p53, p54, p55, p56, p57, p58⟩ := X5.out
                  go_wp2
                  go_ret
                  exact ⟨ret_bool HE.out.symm, B5.out⟩
                · have HE := Lib.hid (show M.transB c = false by unfold M.transB; rw [e0, e1, decide_eq_true e2, decide_eq_true e3, decide_eq_true e4, decide_eq_true e5, e6, e7]; rfl)
                  clear e3
                  go_enter Tryz.func53, Tryz.ntmps53
                  go_wp2_with (fail)
                  refine (rightTxn_any _ _ _).mono ?_
                  rintro e w1 ⟨rfl, hb⟩
                  have B1 := Lib.hid (below_on B0.out hb)
                  have X1 := Lib.hid (X0.out.on hb)
                  have R1 := Lib.hid (R0.out.below hb)
                  have W1 := Lib.hid (W0.out.below hb)
                  clear hb B0 X0 R0 W0
                  obtain ⟨l1, p10, p11, p12, p13, p14, p15, p16, p17, p18⟩ := X1.out
                  go_wp2_with (fail)
                  refine (rightStamp_any _ _ _).mono ?_
                  rintro e w2 ⟨rfl, hb⟩
                  have B2 := Lib.hid (below_on B1.out hb)
                  have X2 := Lib.hid (X1.out.on hb)
                  have R2 := Lib.hid (R1.out.below hb)
                  have W2 := Lib.hid (W1.out.below hb)
                  clear hb B1 X1 R1 W1
                  clear l1 p10 p11 p12 p13 p14 p15 p16 p17 p18
                  obtain ⟨l2, p20, p21, p22, p23, p24, p25, p26, p27, p28⟩ := X2.out
                  go_wp2_with (fail)
                  refine (isEmpty_any c R2.out W2.out).mono ?_
                  rintro e w3 ⟨rfl, hb⟩
                  have B3 := Lib.hid (below_on B2.out hb)
                  have X3 := Lib.hid (X2.out.on hb)
                  have R3 := Lib.hid (R2.out.below hb)
                  have W3 := Lib.hid (W2.out.below hb)
                  clear hb B2 X2 R2 W2
                  clear l2 p20 p21 p22 p23 p24 p25 p26 p27 p28
                  obtain ⟨l3, p30, p31, p32, p33, p34, p35, p36, p37, p38⟩ := X3.out
                  go_wp2_with (fail)
                  refine (areReads_any _ _ R3.out hl).mono ?_
                  rintro e w4 ⟨rfl, hb⟩
                  have B4 := Lib.hid (below_on B3.out hb)
                  have X4 := Lib.hid (X3.out.on hb)
                  have R4 := Lib.hid (R3.out.below hb)
                  have W4 := Lib.hid (W3.out.below hb)
                  clear hb B3 X3 R3 W3
                  clear l3 p30 p31 p32 p33 p34 p35 p36 p37 p38
                  obtain ⟨l4, p40, p41, p42, p43, p44, p45, p46, p47, p48⟩ := X4.out
                  go_wp2
                  go_ret
                  exact ⟨ret_bool HE.out.symm, B4.out⟩
            · have HE := Lib.hid (show M.transB c = false by unfold M.transB; rw [e0, e1, decide_eq_true e2, decide_eq_true e3, decide_eq_true e4, decide_eq_false e5]; rfl)
              clear e3
              go_enter Tryz.func53, Tryz.ntmps53
              go_wp2_with (fail)
              refine (rightTxn_any _ _ _).mono ?_
              rintro e w1 ⟨rfl, hb⟩
              have B1 := Lib.hid (below_on B0.out hb)
              have X1 := Lib.hid (X0.out.on hb)
              have R1 := Lib.hid (R0.out.below hb)
              have W1 := Lib.hid (W0.out.below hb)
              clear hb B0 X0 R0 W0
              obtain ⟨l1, p10, p11, p12, p13, p14, p15, p16, p17, p18⟩ := X1.out
              go_wp2_with (fail)
              refine (rightStamp_any _ _ _).mono ?_
              rintro e w2 ⟨rfl, hb⟩
              have B2 := Lib.hid (below_on B1.out hb)
              have X2 := Lib.hid (X1.out.on hb)
              have R2 := Lib.hid (R1.out.below hb)
              have W2 := Lib.hid (W1.out.below hb)
              clear hb B1 X1 R1 W1
              clear l1 p10 p11 p12 p13 p14 p15 p16 p17 p18
              obtain ⟨l2, p20, p21, p22, p23, p24, p25, p26, p27, p28⟩ := X2.out
              go_wp2
              go_ret
              exact ⟨ret_bool HE.out.symm, B2.out⟩
          · have HE := Lib.hid (show M.transB c = false by unfold M.transB; rw [e0, e1, decide_eq_true e2, decide_eq_true e3, decide_eq_false e4]; rfl)
            clear e3
            go_enter Tryz.func53, Tryz.ntmps53
            go_wp2_with (fail)
            refine (rightTxn_any _ _ _).mono ?_
            rintro e w1 ⟨rfl, hb⟩
            have B1 := Lib.hid (below_on B0.out hb)
            have X1 := Lib.hid (X0.out.on hb)
            have R1 := Lib.hid (R0.out.below hb)
            have W1 := Lib.hid (W0.out.below hb)
            clear hb B0 X0 R0 W0
            obtain ⟨l1, p10, p11, p12, p13, p14, p15, p16, p17, p18⟩ := X1.out
            go_wp2_with (fail)
            refine (rightStamp_any _ _ _).mono ?_
            rintro e w2 ⟨rfl, hb⟩
            have B2 := Lib.hid (below_on B1.out hb)
            have X2 := Lib.hid (X1.out.on hb)
            have R2 := Lib.hid (R1.out.below hb)
            have W2 := Lib.hid (W1.out.below hb)
            clear hb B1 X1 R1 W1
            clear l1 p10 p11 p12 p13 p14 p15 p16 p17 p18
            obtain ⟨l2, p20, p21, p22, p23, p24, p25, p26, p27, p28⟩ := X2.out
            go_wp2
            go_ret
            exact ⟨ret_bool HE.out.symm, B2.out⟩
        · obtain ⟨q3a, q3b⟩ := neI e3
          have HE := Lib.hid (show M.transB c = false by unfold M.transB; rw [e0, e1, decide_eq_true e2, decide_eq_false e3]; rfl)
          clear e3
          go_enter Tryz.func53, Tryz.ntmps53
          go_wp2_with (fail)
          refine (rightTxn_any _ _ _).mono ?_
          rintro e w1 ⟨rfl, hb⟩
          have B1 := Lib.hid (below_on B0.out hb)
          have X1 := Lib.hid (X0.out.on hb)
          have R1 := Lib.hid (R0.out.below hb)
          have W1 := Lib.hid (W0.out.below hb)
          clear hb B0 X0 R0 W0
          obtain ⟨l1, p10, p11, p12, p13, p14, p15, p16, p17, p18⟩ := X1.out
          go_wp2_with (fail)
          refine (rightStamp_any _ _ _).mono ?_
          rintro e w2 ⟨rfl, hb⟩
          have B2 := Lib.hid (below_on B1.out hb)
          have X2 := Lib.hid (X1.out.on hb)
          have R2 := Lib.hid (R1.out.below hb)
          have W2 := Lib.hid (W1.out.below hb)
          clear hb B1 X1 R1 W1
          clear l1 p10 p11 p12 p13 p14 p15 p16 p17 p18
          obtain ⟨l2, p20, p21, p22, p23, p24, p25, p26, p27, p28⟩ := X2.out
          go_wp2
          go_ret
          exact ⟨ret_bool HE.out.symm, B2.out⟩
      · have HE := Lib.hid (show M.transB c = false by unfold M.transB; rw [e0, e1, decide_eq_false e2]; rfl)
        go_enter Tryz.func53, Tryz.ntmps53
        go_wp2_with (fail)
        refine (rightTxn_any _ _ _).mono ?_
        rintro e w1 ⟨rfl, hb⟩
        have B1 := Lib.hid (below_on B0.out hb)
        have X1 := Lib.hid (X0.out.on hb)
        have R1 := Lib.hid (R0.out.below hb)
        have W1 := Lib.hid (W0.out.below hb)
        clear hb B0 X0 R0 W0
        obtain ⟨l1, p10, p11, p12, p13, p14, p15, p16, p17, p18⟩ := X1.out
        go_wp2_with (fail)
        refine (rightStamp_any _ _ _).mono ?_
        rintro e w2 ⟨rfl, hb⟩
        have B2 := Lib.hid (below_on B1.out hb)
        have X2 := Lib.hid (X1.out.on hb)
        have R2 := Lib.hid (R1.out.below hb)
        have W2 := Lib.hid (W1.out.below hb)
        clear hb B1 X1 R1 W1
        clear l1 p10 p11 p12 p13 p14 p15 p16 p17 p18
        obtain ⟨l2, p20, p21, p22, p23, p24, p25, p26, p27, p28⟩ := X2.out
        go_wp2
        go_ret
        exact ⟨ret_bool HE.out.symm, B2.out⟩
    · have HE := Lib.hid (show M.transB c = false by unfold M.transB; rw [e0, e1]; rfl)
      go_enter Tryz.func53, Tryz.ntmps53
      go_wp2_with (fail)
      refine (rightTxn_any _ _ _).mono ?_
      rintro e w1 ⟨rfl, hb⟩
      have B1 := Lib.hid (below_on B0.out hb)
      have X1 := Lib.hid (X0.out.on hb)
      have R1 := Lib.hid (R0.out.below hb)
      have W1 := Lib.hid (W0.out.below hb)
      clear hb B0 X0 R0 W0
      obtain ⟨l1, p10, p11, p12, p13, p14, p15, p16, p17, p18⟩ := X1.out
      go_wp2_with (fail)
      refine (rightStamp_any _ _ _).mono ?_
      rintro e w2 ⟨rfl, hb⟩
      have B2 := Lib.hid (below_on B1.out hb)
      have X2 := Lib.hid (X1.out.on hb)
      have R2 := Lib.hid (R1.out.below hb)
      have W2 := Lib.hid (W1.out.below hb)
      clear hb B1 X1 R1 W1
      clear l1 p10 p11 p12 p13 p14 p15 p16 p17 p18
      obtain ⟨l2, p20, p21, p22, p23, p24, p25, p26, p27, p28⟩ := X2.out
      go_wp2
      go_ret
      exact ⟨ret_bool HE.out.symm, B2.out⟩
  · have HE := Lib.hid (show M.transB c = false by unfold M.transB; rw [e0]; rfl)
    go_enter Tryz.func53, Tryz.ntmps53
    go_wp2_with (fail)
    refine (rightTxn_any _ _ _).mono ?_
    rintro e w1 ⟨rfl, hb⟩
    have B1 := Lib.hid (below_on B0.out hb)
    have X1 := Lib.hid (X0.out.on hb)
    have R1 := Lib.hid (R0.out.below hb)
    have W1 := Lib.hid (W0.out.below hb)
    clear hb B0 X0 R0 W0
    obtain ⟨l1, p10, p11, p12, p13, p14, p15, p16, p17, p18⟩ := X1.out
    go_wp2
    go_ret
    exact ⟨ret_bool HE.out.symm, B1.out⟩
end Go.Proofs.YtpknkhgkejkpkaaGreat

namespace Go.Proofs.YtpknkhgkejkpkaaGreat
open Go.ChangeShapes Go.WideShapes Go.ChangeAt Go.RowKit
attribute [local go_sem ↓] run_same_rd run_same_wr run_same_txn run_same_stamp
namespace M
def zero : Cmd := ⟨0, 0, 0, 0, 0, 0, [], [], false⟩
def rightC (c : Cmd) : Bool := if c.k = 0 then sameC c zero else if c.k = 1 then transB c && !c.cm else if c.k = 2 then transB c else false
end M

set_option maxHeartbeats 4000000 in
set_option maxRecDepth 100000 in
theorem same_cmd {w : World} (a b : M.Cmd) {va vb ua ub : Value} (h : Rds w va a.rs) (h' : Wrs w vb a.ws) (g : Rds w ua b.rs) (g' : Wrs w ub b.ws) (hl : a.rs.length ≤ 1000) (hl' : a.ws.length ≤ 1000) : Calls Tryz.prog 52 #[.agg #[.int .i64 a.k, .int .i64 a.tc, .int .i64 a.tn, .int .i64 a.tt, .int .i64 a.tk, .int .i64 a.sh, va, vb, .bool a.cm], .agg #[.int .i64 b.k, .int .i64 b.tc, .int .i64 b.tn, .int .i64 b.tt, .int .i64 b.tk, .int .i64 b.sh, ua, ub, .bool b.cm]] w fun e w' => e = .returned (.bool (M.sameC a b)) ∧ Below w.heap.size w w' := by
  have X0 := Lib.hid ((Box.new w a va vb).push (.cells #[.int .i64 b.k, .int .i64 b.tc, .int .i64 b.tn, .int .i64 b.tt, .int .i64 b.tk, .int .i64 b.sh, ua, ub, .bool b.cm] 30))
  have Y0 := Lib.hid (Box.new1 w (.cells #[.int .i64 a.k, .int .i64 a.tc, .int .i64 a.tn, .int .i64 a.tt, .int .i64 a.tk, .int .i64 a.sh, va, vb, .bool a.cm] 30) b ua ub)
  have R0 := Lib.hid ((h.push (.cells #[.int .i64 a.k, .int .i64 a.tc, .int .i64 a.tn, .int .i64 a.tt, .int .i64 a.tk, .int .i64 a.sh, va, vb, .bool a.cm] 30)).push (.cells #[.int .i64 b.k, .int .i64 b.tc, .int .i64 b.tn, .int .i64 b.tt, .int .i64 b.tk, .int .i64 b.sh, ua, ub, .bool b.cm] 30))
  have W0 := Lib.hid ((h'.push (.cells #[.int .i64 a.k, .int .i64 a.tc, .int .i64 a.tn, .int .i64 a.tt, .int .i64 a.tk, .int .i64 a.sh, va, vb, .bool a.cm] 30)).push (.cells #[.int .i64 b.k, .int .i64 b.tc, .int .i64 b.tn, .int .i64 b.tt, .int .i64 b.tk, .int .i64 b.sh, ua, ub, .bool b.cm] 30))
  have S0 := Lib.hid ((g.push (.cells #[.int .i64 a.k, .int .i64 a.tc, .int .i64 a.tn, .int .i64 a.tt, .int .i64 a.tk, .int .i64 a.sh, va, vb, .bool a.cm] 30)).push (.cells #[.int .i64 b.k, .int .i64 b.tc, .int .i64 b.tn, .int .i64 b.tt, .int .i64 b.tk, .int .i64 b.sh, ua, ub, .bool b.cm] 30))
  have V0 := Lib.hid ((g'.push (.cells #[.int .i64 a.k, .int .i64 a.tc, .int .i64 a.tn, .int .i64 a.tt, .int .i64 a.tk, .int .i64 a.sh, va, vb, .bool a.cm] 30)).push (.cells #[.int .i64 b.k, .int .i64 b.tc, .int .i64 b.tn, .int .i64 b.tt, .int .i64 b.tk, .int .i64 b.sh, ua, ub, .bool b.cm] 30))
  have B0 := Lib.hid (below_new (o := .cells #[.int .i64 b.k, .int .i64 b.tc, .int .i64 b.tn, .int .i64 b.tt, .int .i64 b.tk, .int .i64 b.sh, ua, ub, .bool b.cm] 30) (below_new (o := .cells #[.int .i64 a.k, .int .i64 a.tc, .int .i64 a.tn, .int .i64 a.tt, .int .i64 a.tk, .int .i64 a.sh, va, vb, .bool a.cm] 30) (Below.refl w.heap.size w)))
  clear h h' g g'
  by_cases e0 : a.k = b.k
  · obtain ⟨q0a, q0b⟩ := eqI e0
    rcases two (M.eq2 a.tc a.tn b.tc b.tn) with e1 | e1
    · rcases two (M.eq2 a.tt a.tk b.tt b.tk) with e2 | e2
      · by_cases e3 : a.sh = b.sh
        · obtain ⟨q3a, q3b⟩ := eqI e3
          rcases two (a.cm == b.cm) with e4 | e4
          · rcases two (M.sameR a.rs b.rs) with e5 | e5
            · have HE := Lib.hid (show M.sameC a b = M.sameW a.ws b.ws by unfold M.sameC; rw [decide_eq_true e0, e1, e2, decide_eq_true e3, e4, e5]; rfl)
              clear e0 e3
              go_enter Tryz.func52, Tryz.ntmps52
              go_wp2_with (fail)
              refine (equalR_any R0.out S0.out hl).mono ?_
              rintro e w1 ⟨rfl, hb⟩
              have B1 := Lib.hid (below_on B0.out hb)
              have X1 := Lib.hid (X0.out.on hb)
              have Y1 := Lib.hid (Y0.out.on hb)
              have W1 := Lib.hid (W0.out.below hb)
              have V1 := Lib.hid (V0.out.below hb)
              clear hb B0 X0 Y0 R0 S0 W0 V0
              obtain ⟨l1, p0, p1, p2, p3, p4, p5, p6, p7, p8⟩ := X1.out
              obtain ⟨l2, r0, r1, r2, r3, r4, r5, r6, r7, r8⟩ := Y1.out
              go_wp2_with (fail)
              refine (equalW_any W1.out V1.out hl').mono ?_
              rintro e w2 ⟨rfl, hb⟩
              have B2 := Lib.hid (below_on B1.out hb)
              clear hb
              go_wp2
              go_ret
              exact ⟨ret_bool HE.out.symm, B2.out⟩
            · have HE := Lib.hid (show M.sameC a b = false by unfold M.sameC; rw [decide_eq_true e0, e1, e2, decide_eq_true e3, e4, e5]; rfl)
              clear e0 e3
              go_enter Tryz.func52, Tryz.ntmps52
              go_wp2_with (fail)
              refine (equalR_any R0.out S0.out hl).mono ?_
              rintro e w1 ⟨rfl, hb⟩
              have B1 := Lib.hid (below_on B0.out hb)
              have X1 := Lib.hid (X0.out.on hb)
              have Y1 := Lib.hid (Y0.out.on hb)
              have W1 := Lib.hid (W0.out.below hb)
              have V1 := Lib.hid (V0.out.below hb)
              clear hb B0 X0 Y0 R0 S0 W0 V0
              obtain ⟨l1, p0, p1, p2, p3, p4, p5, p6, p7, p8⟩ := X1.out
              obtain ⟨l2, r0, r1, r2, r3, r4, r5, r6, r7, r8⟩ := Y1.out
              go_wp2
              go_ret
              exact ⟨ret_bool HE.out.symm, B1.out⟩
          · have HE := Lib.hid (show M.sameC a b = false by unfold M.sameC; rw [decide_eq_true e0, e1, e2, decide_eq_true e3, e4]; rfl)
            clear e0 e3
            go_enter Tryz.func52, Tryz.ntmps52
            go_wp2
            go_ret
            exact ⟨ret_bool HE.out.symm, B0.out⟩
        · obtain ⟨q3a, q3b⟩ := neI e3
          have HE := Lib.hid (show M.sameC a b = false by unfold M.sameC; rw [decide_eq_true e0, e1, e2, decide_eq_false e3]; rfl)
          clear e0 e3
          go_enter Tryz.func52, Tryz.ntmps52
          go_wp2
          go_ret
          exact ⟨ret_bool HE.out.symm, B0.out⟩
      · have HE := Lib.hid (show M.sameC a b = false by unfold M.sameC; rw [decide_eq_true e0, e1, e2]; rfl)
        clear e0
        go_enter Tryz.func52, Tryz.ntmps52
        go_wp2
        go_ret
        exact ⟨ret_bool HE.out.symm, B0.out⟩
    · have HE := Lib.hid (show M.sameC a b = false by unfold M.sameC; rw [decide_eq_true e0, e1]; rfl)
      clear e0
      go_enter Tryz.func52, Tryz.ntmps52
      go_wp2
      go_ret
      exact ⟨ret_bool HE.out.symm, B0.out⟩
  · obtain ⟨q0a, q0b⟩ := neI e0
    have HE := Lib.hid (show M.sameC a b = false by unfold M.sameC; rw [decide_eq_false e0]; rfl)
    clear e0
    go_enter Tryz.func52, Tryz.ntmps52
    go_wp2
    go_ret
    exact ⟨ret_bool HE.out.symm, B0.out⟩

set_option maxHeartbeats 4000000 in
set_option maxRecDepth 100000 in
theorem right_cmd {w : World} (c : M.Cmd) {va vb : Value} (h : Rds w va c.rs) (h' : Wrs w vb c.ws) (hl : c.rs.length ≤ 1000) (hl' : c.ws.length ≤ 1000) : Calls Tryz.prog 26 #[.agg #[.int .i64 c.k, .int .i64 c.tc, .int .i64 c.tn, .int .i64 c.tt, .int .i64 c.tk, .int .i64 c.sh, va, vb, .bool c.cm]] w fun e w' => e = .returned (.bool (M.rightC c)) ∧ Below w.heap.size w w' := by
  have X0 := Lib.hid (Box.new w c va vb)
  have R0 := Lib.hid (h.push (.cells #[.int .i64 c.k, .int .i64 c.tc, .int .i64 c.tn, .int .i64 c.tt, .int .i64 c.tk, .int .i64 c.sh, va, vb, .bool c.cm] 30))
  have W0 := Lib.hid (h'.push (.cells #[.int .i64 c.k, .int .i64 c.tc, .int .i64 c.tn, .int .i64 c.tt, .int .i64 c.tk, .int .i64 c.sh, va, vb, .bool c.cm] 30))
  have B0 := Lib.hid (below_new (o := .cells #[.int .i64 c.k, .int .i64 c.tc, .int .i64 c.tn, .int .i64 c.tt, .int .i64 c.tk, .int .i64 c.sh, va, vb, .bool c.cm] 30) (Below.refl w.heap.size w))
  clear h h'
  by_cases e0 : c.k = 0
  · have HE := Lib.hid (show M.rightC c = M.sameC c M.zero by unfold M.rightC; rw [if_pos e0])
    obtain ⟨q1, q2⟩ := eqI e0
    clear e0
    go_enter Tryz.func26, Tryz.ntmps26
    go_wp2_with (fail)
    refine (same_cmd c M.zero R0.out W0.out (Rds.nil _) (Wrs.nil _) hl hl').mono ?_
    rintro e w1 ⟨rfl, hb⟩
    have B1 := Lib.hid (below_on B0.out hb)
    clear hb
    go_wp2
    go_ret
    exact ⟨ret_bool HE.out.symm, B1.out⟩
  · by_cases e1 : c.k = 1
    · have HE := Lib.hid (show M.rightC c = (M.transB c && !c.cm) by unfold M.rightC; rw [if_neg e0, if_pos e1])
      obtain ⟨q1, q2⟩ := neI e0
      obtain ⟨q3, q4⟩ := eqI e1
      clear e0 e1
      rcases two (M.transB c) with e | e
      · go_enter Tryz.func26, Tryz.ntmps26
        go_wp2_with (fail)
        refine (isTransaction_any c R0.out W0.out hl hl').mono ?_
        rintro e w1 ⟨rfl, hb⟩
        have B1 := Lib.hid (below_on B0.out hb)
        obtain ⟨l1, p0, p1, p2, p3, p4, p5, p6, p7, p8⟩ := X0.out.on hb
        clear hb
        go_wp2
        go_ret
        exact ⟨ret_bool (by rw [HE.out]; simp_all), B1.out⟩
      · go_enter Tryz.func26, Tryz.ntmps26
        go_wp2_with (fail)
        refine (isTransaction_any c R0.out W0.out hl hl').mono ?_
        rintro e w1 ⟨rfl, hb⟩
        have B1 := Lib.hid (below_on B0.out hb)
        clear hb
        go_wp2
        go_ret
        exact ⟨ret_bool (by rw [HE.out]; simp_all), B1.out⟩
    · by_cases e2 : c.k = 2
      · have HE := Lib.hid (show M.rightC c = M.transB c by unfold M.rightC; rw [if_neg e0, if_neg e1, if_pos e2])
        obtain ⟨q1, q2⟩ := neI e0
        obtain ⟨q3, q4⟩ := neI e1
        obtain ⟨q5, q6⟩ := eqI e2
        clear e0 e1 e2
        go_enter Tryz.func26, Tryz.ntmps26
        go_wp2_with (fail)
        refine (isTransaction_any c R0.out W0.out hl hl').mono ?_
        rintro e w1 ⟨rfl, hb⟩
        have B1 := Lib.hid (below_on B0.out hb)
        clear hb
        go_wp2
        go_ret
        exact ⟨ret_bool HE.out.symm, B1.out⟩
      · have HE := Lib.hid (show M.rightC c = false by unfold M.rightC; rw [if_neg e0, if_neg e1, if_neg e2])
        obtain ⟨q1, q2⟩ := neI e0
        obtain ⟨q3, q4⟩ := neI e1
        obtain ⟨q5, q6⟩ := neI e2
        clear e0 e1 e2
        go_enter Tryz.func26, Tryz.ntmps26
        go_wp2
        go_ret
        exact ⟨ret_bool HE.out.symm, B0.out⟩
end Go.Proofs.YtpknkhgkejkpkaaGreat

namespace Go.Proofs.YtpknkhgkejkpkaaGreat
open Go.ChangeShapes Go.WideShapes Go.ChangeAt Go.RowKit

theorem info40 : (Tryz.prog.info? 66).map (fun i => (i.zero, i.size, i.bytes)) = some (some (.agg #[.string ⟨#[]⟩, .int .i64 0, .int .i64 0]), 3, 32) := by kernel_rfl
theorem info42 : (Tryz.prog.info? 68).map (fun i => (i.zero, i.size, i.bytes)) = some (some (.agg #[.string ⟨#[]⟩, .string ⟨#[]⟩]), 2, 32) := by kernel_rfl
theorem one_rds (l : List (List UInt8 × Int × Int)) : ∀ u ∈ rdsC l, u.oneCell' = true := by
  intro u hu
  unfold rdsC at hu
  rw [List.mem_flatMap] at hu
  obtain ⟨r, _, hr⟩ := hu
  simp [rdC] at hr
  rcases hr with rfl | rfl | rfl <;> rfl
theorem one_wrs (l : List (List UInt8 × List UInt8)) : ∀ u ∈ wrsC l, u.oneCell' = true := by
  intro u hu
  unfold wrsC at hu
  rw [List.mem_flatMap] at hu
  obtain ⟨r, _, hr⟩ := hu
  simp [wrC] at hr
  rcases hr with rfl | rfl <;> rfl

theorem append_nilN {w : World} {base : Nat} {t e : TypeId} {k : Nat} {i0 : TypeInfo} (ht : Tryz.prog.underlying t = some (.slice e)) (hi : Tryz.prog.info? e = some i0) {v : Value} {n : Nat} {xs : List Value} (c : Nat) (hown : w.ownsRow base e k v n xs) : (Builtin.append_ #[t, t] t #[v, .slice none 0 c]).run Tryz.prog w = .ok v w := by
  rcases hown.2 with ⟨rfl, rfl⟩ | ⟨g, cap, cur, rfl, _, _, hnc, _⟩
  · simp [Builtin.append_, run_underlying ht, sizeOf, typeInfo, hi, Builtin.lenOf, Builtin.firstCells]
  · simp [Builtin.append_, run_underlying ht, sizeOf, typeInfo, hi, Builtin.lenOf, Builtin.firstCells, hnc, storeCells]

/-- append(own, others...). -/
theorem append_rowN {w : World} {base : Nat} {t e : TypeId} {k bytes : Nat} {i0 : TypeInfo} {z : Value} (ht : Tryz.prog.underlying t = some (.slice e)) (hi : Tryz.prog.info? e = some i0) (hz0 : i0.zero = some z) (hz1 : i0.size = k) (hz2 : i0.bytes = bytes) (hzc : z.cells.size = k) (hk : 0 < k) (hby : bytes ≤ 1000)
    {v u : Value} {n m : Nat} {xs news : List Value} (hown : w.ownsRow base e k v n xs) (hrow : RowN k w u m news) (h1 : ∀ x ∈ news, x.oneCell' = true) (hl : n + m ≤ 1000000) (hbase : base ≤ w.heap.size) :
    ∃ v' w', (Builtin.append_ #[t, t] t #[v, u]).run Tryz.prog w = .ok v' w' ∧ w'.ownsRow base e k v' (n + m) (xs ++ news) ∧ w.grownBy w' v.ownBlock := by
  obtain ⟨hlen, A, c, rfl, hc, hx⟩ := hrow
  have hb2 : (n + m) * bytes ≤ 140737488355328 := by
    have := Nat.mul_le_mul hl hby
    omega
  by_cases hm : m = 0
  · subst hm
    have hnil : news = [] := List.length_eq_zero_iff.1 (by omega)
    subst hnil
    cases A with
    | none => exact ⟨v, w, append_nilN ht hi c hown, by simpa using hown, World.grownBy.refl _ _⟩
    | some a =>
      obtain ⟨v', w', h1, h2, h3, _⟩ := run_append_own w base t t e i0 z k bytes ht hi hz0 hz1 hz2 hzc hk v n xs hown a 0 c [] hlen (by simp) (by simp) (by unfold maxLen; omega) hb2 hbase
      exact ⟨v', w', h1, h2, h3⟩
  · obtain ⟨b, o, rfl, hb, hy⟩ := hx (by omega)
    obtain ⟨v', w', h1, h2, h3, _⟩ := run_append_own w base t t e i0 z k bytes ht hi hz0 hz1 hz2 hzc hk v n xs hown ⟨b, o, none⟩ m c news hlen (fun j y hj => by rw [add_plain]; exact hy j y hj) h1 (by unfold maxLen; omega) hb2 hbase
    exact ⟨v', w', h1, h2, h3⟩

theorem append_rds {w : World} {base : Nat} {v u : Value} {n : Nat} {xs : List Value} {l : List (List UInt8 × Int × Int)} (hown : w.ownsRow base 66 3 v n xs) (hrow : Rds w u l) (hl : n + l.length ≤ 1000000) (hbase : base ≤ w.heap.size) :
    ∃ v' w', (Builtin.append_ #[27, 27] 27 #[v, u]).run Tryz.prog w = .ok v' w' ∧ w'.ownsRow base 66 3 v' (n + l.length) (xs ++ rdsC l) ∧ w.grownBy w' v.ownBlock := by
  obtain ⟨i0, hi, hz0, hz1, hz2⟩ := info_parts info40
  exact append_rowN Tryz.underlying27 hi hz0 hz1 hz2 rfl (by omega) (by omega) hown hrow (one_rds l) hl hbase
theorem append_wrs {w : World} {base : Nat} {v u : Value} {n : Nat} {xs : List Value} {l : List (List UInt8 × List UInt8)} (hown : w.ownsRow base 68 2 v n xs) (hrow : Wrs w u l) (hl : n + l.length ≤ 1000000) (hbase : base ≤ w.heap.size) :
    ∃ v' w', (Builtin.append_ #[28, 28] 28 #[v, u]).run Tryz.prog w = .ok v' w' ∧ w'.ownsRow base 68 2 v' (n + l.length) (xs ++ wrsC l) ∧ w.grownBy w' v.ownBlock := by
  obtain ⟨i0, hi, hz0, hz1, hz2⟩ := info_parts info42
  exact append_rowN Tryz.underlying28 hi hz0 hz1 hz2 rfl (by omega) (by omega) hown hrow (one_wrs l) hl hbase

/-- A new row of reads, of writes. -/
def MadeR (l : List (List UInt8 × Int × Int)) (w : World) (e : Ending) (w' : World) : Prop := ∃ v, e = .returned v ∧ w'.ownsRow w.heap.size 66 3 v l.length (rdsC l) ∧ Below w.heap.size w w'
def MadeW (l : List (List UInt8 × List UInt8)) (w : World) (e : Ending) (w' : World) : Prop := ∃ v, e = .returned v ∧ w'.ownsRow w.heap.size 68 2 v l.length (wrsC l) ∧ Below w.heap.size w w'

set_option maxHeartbeats 1000000 in
theorem copiedR_any {w : World} {v : Value} {l : List (List UInt8 × Int × Int)} (h : Rds w v l) (hl : l.length ≤ 1000) : Calls Tryz.prog 54 #[v] w (MadeR l w) := by
  obtain ⟨v', w', hr, hown, hg⟩ := append_rds (World.ownsRow_nil w w.heap.size 66 3) h (by omega) (Nat.le_refl _)
  rw [Nat.zero_add, List.nil_append] at hown
  have HO := Lib.hid hown
  have HB := Lib.hid ((Below.refl w.heap.size w).grown hg (Nat.le_refl _) (fun k hk => by cases hk))
  clear hown hg
  obtain ⟨A, c, rfl, hc, -⟩ := h.opened
  clear h
  go_enter Tryz.func54, Tryz.ntmps54
  go_wp2_with (at_builtin; refine Lib.wpList_append_run _ rfl _ _ _ _ rfl _ _ rfl rfl _ _ hr ?_)
  go_ret
  exact ⟨_, rfl, HO.out, HB.out⟩
set_option maxHeartbeats 1000000 in
theorem copiedW_any {w : World} {v : Value} {l : List (List UInt8 × List UInt8)} (h : Wrs w v l) (hl : l.length ≤ 1000) : Calls Tryz.prog 55 #[v] w (MadeW l w) := by
  obtain ⟨v', w', hr, hown, hg⟩ := append_wrs (World.ownsRow_nil w w.heap.size 68 2) h (by omega) (Nat.le_refl _)
  rw [Nat.zero_add, List.nil_append] at hown
  have HO := Lib.hid hown
  have HB := Lib.hid ((Below.refl w.heap.size w).grown hg (Nat.le_refl _) (fun k hk => by cases hk))
  clear hown hg
  obtain ⟨A, c, rfl, hc, -⟩ := h.opened
  clear h
  go_enter Tryz.func55, Tryz.ntmps55
  go_wp2_with (at_builtin; refine Lib.wpList_append_run _ rfl _ _ _ _ rfl _ _ rfl rfl _ _ hr ?_)
  go_ret
  exact ⟨_, rfl, HO.out, HB.out⟩
end Go.Proofs.YtpknkhgkejkpkaaGreat

namespace Go.Proofs.YtpknkhgkejkpkaaGreat
open Go.ChangeShapes Go.WideShapes Go.ChangeAt Go.RowKit

theorem ownsRow_baseN {w : World} {base base' : Nat} {t : TypeId} {k : Nat} {v : Value} {n : Nat} {xs : List Value} (h : w.ownsRow base t k v n xs) (hb : base' ≤ base) : w.ownsRow base' t k v n xs := by
  refine ⟨h.1, ?_⟩
  rcases h.2 with h0 | ⟨g, cap, cur, hv, hg, r⟩
  · exact .inl h0
  · exact .inr ⟨g, cap, cur, hv, Nat.le_trans hb hg, r⟩
theorem ownsRow_on {w w' : World} {base : Nat} {t : TypeId} {k : Nat} {v : Value} {n : Nat} {xs : List Value} (h : w.ownsRow base t k v n xs) (hb : Below w.heap.size w w') : w'.ownsRow base t k v n xs := by
  refine ⟨h.1, ?_⟩
  rcases h.2 with h0 | ⟨g, cap, cur, hv, hg, hblk, r⟩
  · exact .inl h0
  · exact .inr ⟨g, cap, cur, hv, hg, (hb.block g (Array.getElem?_eq_some_iff.1 hblk).1).trans hblk, r⟩
theorem ownsRow_slice {w : World} {base : Nat} {t : TypeId} {k : Nat} {v : Value} {n : Nat} {xs : List Value} (h : w.ownsRow base t k v n xs) : ∃ A c, v = .slice A n c := by
  rcases h.2 with ⟨rfl, rfl⟩ | ⟨g, cap, cur, hv, r⟩
  · exact ⟨none, 0, rfl⟩
  · exact ⟨_, _, hv⟩
theorem ownsRow_set {w : World} {base : Nat} {t : TypeId} {k : Nat} {v : Value} {n : Nat} {xs : List Value} (h : w.ownsRow base t k v n xs) {p : Addr} (hp : p.block < base) (u : Value) : (w.setCell p u).ownsRow base t k v n xs := by
  refine ⟨h.1, ?_⟩
  rcases h.2 with h0 | ⟨g, cap, cur, hv, hg, hblk, r⟩
  · exact .inl h0
  · exact .inr ⟨g, cap, cur, hv, hg, (Below.heap_setCell _ _ _ _ (by omega)).trans hblk, r⟩
/-- A command of its own memory. -/
def Cloned (c : M.Cmd) (w : World) (e : Ending) (w' : World) : Prop := ∃ va vb, e = .returned (.agg #[.int .i64 c.k, .int .i64 c.tc, .int .i64 c.tn, .int .i64 c.tt, .int .i64 c.tk, .int .i64 c.sh, va, vb, .bool c.cm]) ∧ w'.ownsRow w.heap.size 66 3 va c.rs.length (rdsC c.rs) ∧ w'.ownsRow w.heap.size 68 2 vb c.ws.length (wrsC c.ws) ∧ Below w.heap.size w w'
/-- Blocks that may be written. -/
def Soft9 (w : World) (b : Nat) : Prop := ∀ o, w.frozen? ⟨b, o, none⟩ = false
theorem Soft9.on {w w' : World} {b : Nat} (h : Soft9 w b) (hl : b < w.heap.size) (hb : Below w.heap.size w w') : Soft9 w' b := fun o => (hb.frozen (p := ⟨b, o, none⟩) hl).trans (h o)

theorem soft_new (w : World) (cs : Array Value) (t : TypeId) : Soft9 (w.alloc (.cells cs t)) w.heap.size := fun o => by simp [go_sem]
theorem soft_push {w : World} {b : Nat} (h : Soft9 w b) (hl : b < w.heap.size) (o : Obj) : Soft9 (w.alloc o) b := h.on hl (below_new (Below.refl _ _))
theorem soft_new1 (w : World) (o : Obj) (cs : Array Value) (t : TypeId) : Soft9 ((w.alloc o).alloc (.cells cs t)) (w.heap.size + 1) := by
  simpa using soft_new (w.alloc o) cs t

set_option maxHeartbeats 4000000 in
set_option maxRecDepth 100000 in
theorem clone_any {w : World} (c : M.Cmd) {va vb : Value} (h : Rds w va c.rs) (h' : Wrs w vb c.ws) (hl : c.rs.length ≤ 1000) (hl' : c.ws.length ≤ 1000) : Calls Tryz.prog 28 #[.agg #[.int .i64 c.k, .int .i64 c.tc, .int .i64 c.tn, .int .i64 c.tt, .int .i64 c.tk, .int .i64 c.sh, va, vb, .bool c.cm]] w (Cloned c w) := by
  have X0 := Lib.hid ((Box.new w c va vb).push (.cells #[.int .i64 0, .int .i64 0, .int .i64 0, .int .i64 0, .int .i64 0, .int .i64 0, .slice none 0 0, .slice none 0 0, .bool false] 30))
  have Y0 := Lib.hid (show Box ((w.alloc (.cells #[.int .i64 c.k, .int .i64 c.tc, .int .i64 c.tn, .int .i64 c.tt, .int .i64 c.tk, .int .i64 c.sh, va, vb, .bool c.cm] 30)).alloc (.cells #[.int .i64 0, .int .i64 0, .int .i64 0, .int .i64 0, .int .i64 0, .int .i64 0, .slice none 0 0, .slice none 0 0, .bool false] 30)) (w.heap.size + 1) M.zero (.slice none 0 0) (.slice none 0 0) from Box.new1 w _ M.zero (.slice none 0 0) (.slice none 0 0))
  have R0 := Lib.hid ((h.push (.cells #[.int .i64 c.k, .int .i64 c.tc, .int .i64 c.tn, .int .i64 c.tt, .int .i64 c.tk, .int .i64 c.sh, va, vb, .bool c.cm] 30)).push (.cells #[.int .i64 0, .int .i64 0, .int .i64 0, .int .i64 0, .int .i64 0, .int .i64 0, .slice none 0 0, .slice none 0 0, .bool false] 30))
  have W0 := Lib.hid ((h'.push (.cells #[.int .i64 c.k, .int .i64 c.tc, .int .i64 c.tn, .int .i64 c.tt, .int .i64 c.tk, .int .i64 c.sh, va, vb, .bool c.cm] 30)).push (.cells #[.int .i64 0, .int .i64 0, .int .i64 0, .int .i64 0, .int .i64 0, .int .i64 0, .slice none 0 0, .slice none 0 0, .bool false] 30))
  have B0 := Lib.hid (below_new (o := .cells #[.int .i64 0, .int .i64 0, .int .i64 0, .int .i64 0, .int .i64 0, .int .i64 0, .slice none 0 0, .slice none 0 0, .bool false] 30) (below_new (o := .cells #[.int .i64 c.k, .int .i64 c.tc, .int .i64 c.tn, .int .i64 c.tt, .int .i64 c.tk, .int .i64 c.sh, va, vb, .bool c.cm] 30) (Below.refl w.heap.size w)))
  have S0 := Lib.hid (soft_push (soft_new w #[.int .i64 c.k, .int .i64 c.tc, .int .i64 c.tn, .int .i64 c.tt, .int .i64 c.tk, .int .i64 c.sh, va, vb, .bool c.cm] 30) (by simp) (.cells #[.int .i64 0, .int .i64 0, .int .i64 0, .int .i64 0, .int .i64 0, .int .i64 0, .slice none 0 0, .slice none 0 0, .bool false] 30))
  have T0 := Lib.hid (soft_new1 w (.cells #[.int .i64 c.k, .int .i64 c.tc, .int .i64 c.tn, .int .i64 c.tt, .int .i64 c.tk, .int .i64 c.sh, va, vb, .bool c.cm] 30) #[.int .i64 0, .int .i64 0, .int .i64 0, .int .i64 0, .int .i64 0, .int .i64 0, .slice none 0 0, .slice none 0 0, .bool false] 30)
  clear h h'
  go_enter Tryz.func28, Tryz.ntmps28
  go_wp2
  generalize ((w.alloc (.cells #[.int .i64 c.k, .int .i64 c.tc, .int .i64 c.tn, .int .i64 c.tt, .int .i64 c.tk, .int .i64 c.sh, va, vb, .bool c.cm] 30)).alloc (.cells #[.int .i64 0, .int .i64 0, .int .i64 0, .int .i64 0, .int .i64 0, .int .i64 0, .slice none 0 0, .slice none 0 0, .bool false] 30)) = w0 at *
  obtain ⟨l0, p0, p1, p2, p3, p4, p5, p6, p7, p8⟩ := X0.out
  have hs0 : w.heap.size ≤ w0.heap.size := B0.out.size
  go_region_with (first
    | (go_at_call 54; refine (copiedR_any (w := w0.drew) (R0.out.below (Below.refl _ _).drew) hl).mono ?_; rintro e w1 ⟨v1, rfl, o1, hb1⟩
       have hb1 := (Below.refl _ w0).drew.trans hb1
       obtain ⟨A1, k1, rfl⟩ := ownsRow_slice o1
       have O1 := Lib.hid o1
       have D1 := Lib.hid hb1
       clear o1 hb1
       have q7 := (D1.out.cell (p := ⟨w.heap.size, 7, none⟩) l0).trans p7)
    | (go_at_call 55; refine (copiedW_any (w := w1) (W0.out.below D1.out) hl').mono ?_; rintro e w2 ⟨v2, rfl, o2, hb2⟩
       obtain ⟨A2, k2, rfl⟩ := ownsRow_slice o2
       have O2 := Lib.hid o2
       have D2 := Lib.hid hb2
       clear o2 hb2
       have z6 := (S0.out.on l0 D1.out).on (Nat.lt_of_lt_of_le l0 D1.out.size) D2.out 6
       have z7 := (S0.out.on l0 D1.out).on (Nat.lt_of_lt_of_le l0 D1.out.size) D2.out 7
       have y6 := ((X0.out.on D1.out).on D2.out).c6
       have y7 := ((X0.out.on D1.out).on D2.out).c7))
  all_goals
    clear y6 y7 z6 z7 q7 p0 p1 p2 p3 p4 p5 p6 p7 p8
    have DD := Lib.hid (D1.out.trans (D2.out.mono D1.out.size))
    obtain ⟨m0, x0, x1, x2, x3, x4, x5, x6, x7, x8⟩ := X0.out.on DD.out
    obtain ⟨m1, y0, y1, y2, y3, y4, y5, y6, y7, y8⟩ := Y0.out.on DD.out
    have hz : ∀ o, w2.frozen? ⟨w.heap.size + 1, o, none⟩ = false := T0.out.on Y0.out.lt DD.out
    have O1' := Lib.hid (ownsRow_on O1.out D2.out)
    have j0 : w.heap.size < w0.drew.heap.size := l0
    have j1 : w.heap.size + 1 < w0.drew.heap.size := Y0.out.lt
    have j2 : w0.drew.heap.size ≤ w1.heap.size := D1.out.size
    go_wp2
    refine bodyPost_ret (v := .agg #[.int .i64 c.k, .int .i64 c.tc, .int .i64 c.tn, .int .i64 c.tt, .int .i64 c.tk, .int .i64 c.sh, (.slice A1 c.rs.length k1), (.slice A2 c.ws.length k2), .bool c.cm]) (by simp [results, Tryz.results28, go_sem, y0, y1, y2, y3, y4, y5, y6, y7, y8]) rfl ⟨_, _, rfl, ownsRow_baseN (base := w0.drew.heap.size) ?_ (by omega), ownsRow_baseN (base := w1.heap.size) ?_ (by omega), ?_⟩
    · iterate 11 (refine ownsRow_set ?_ (by dsimp only; omega) _)
      exact O1'.out
    · iterate 11 (refine ownsRow_set ?_ (by dsimp only; omega) _)
      exact O2.out
    · iterate 11 (refine Below.setCell ?_ (by dsimp only; omega) _)
      exact B0.out.trans (DD.out.mono (by omega))
end Go.Proofs.YtpknkhgkejkpkaaGreat

namespace Go.Proofs.YtpknkhgkejkpkaaGreat
open Go.ChangeShapes Go.WideShapes Go.ChangeAt Go.RowKit

namespace M
/-- Few reads and writes, and short. -/
structure Mod (c : Cmd) : Prop where
  r : c.rs.length ≤ 20
  w : c.ws.length ≤ 20
  rk : ∀ r ∈ c.rs, r.1.length ≤ 100
  wk : ∀ r ∈ c.ws, r.1.length ≤ 100
  wv : ∀ r ∈ c.ws, r.2.length ≤ 100
theorem Mod.l {c : Cmd} (h : Mod c) : c.rs.length ≤ 1000 := by have := h.r; omega
theorem Mod.l' {c : Cmd} (h : Mod c) : c.ws.length ≤ 1000 := by have := h.w; omega
theorem Mod.rks {c : Cmd} (h : Mod c) : ∀ x ∈ M.rk c.rs, x.length ≤ 1000 := fun x hx => by
  unfold M.rk at hx
  rw [List.mem_map] at hx
  obtain ⟨r, hr, rfl⟩ := hx
  have := h.rk r hr; omega
theorem Mod.wks {c : Cmd} (h : Mod c) : ∀ x ∈ M.wk c.ws, x.length ≤ 1000 := fun x hx => by
  unfold M.wk at hx
  rw [List.mem_map] at hx
  obtain ⟨r, hr, rfl⟩ := hx
  have := h.wk r hr; omega
def keysL (c : Cmd) : List (List UInt8) := join (M.rk c.rs) (M.wk c.ws)
theorem keysL_len {c : Cmd} (h : Mod c) : (keysL c).length ≤ 74 := by
  have := join_len (M.rk c.rs) (M.wk c.ws)
  rw [rk_len, wk_len] at this
  have := h.r; have := h.w
  unfold keysL; omega
theorem keysL_short {c : Cmd} (h : Mod c) : ∀ x ∈ keysL c, x.length ≤ 1000 := fun x hx => by
  rcases (join_mem _ _ x).1 hx with hx | hx
  · exact h.rks x hx
  · exact h.wks x hx
end M

end Go.Proofs.YtpknkhgkejkpkaaGreat
