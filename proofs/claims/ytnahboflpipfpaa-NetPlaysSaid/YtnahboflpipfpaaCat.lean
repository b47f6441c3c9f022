/- Rows of pointers: appended to, put behind one another by the library's Concat; no conditions but the lengths that they name. -/
import Derived.Test.YtnahboflpipfpaaMet
import Derived.Lib.AppendZerosOnto
namespace Go.Proofs.Ytnahboflpipfpaa
open Go.ChangeShapes Go.WideShapes Go.ChangeAt Go.RowKit

theorem info83 : (Try.prog.info? 83).map (fun i => (i.zero, i.size, i.bytes)) = some (some (.pointer none), 1, 8) := by kernel_rfl
theorem add_plain0 (b o k : Nat) : (⟨b, o, none⟩ : Addr).add k = ⟨b, o + k, none⟩ := Addr.add_lit ..
def Ptrs (w : World) (v : Value) (ps : List Nat) : Prop := RowN 1 w v ps.length (ps.map ptrV)
theorem ptrs_one (ps : List Nat) : ∀ u ∈ ps.map ptrV, u.oneCell' = true := by
  intro u hu
  rw [List.mem_map] at hu
  obtain ⟨x, _, rfl⟩ := hu
  rfl
theorem Ptrs.opened {w : World} {v : Value} {ps : List Nat} (h : Ptrs w v ps) : ∃ (A : Option Addr) (c : Nat), v = .slice A ps.length c ∧ ps.length ≤ c ∧ (0 < ps.length → ∃ b o, A = some ⟨b, o, none⟩ ∧ b < w.heap.size ∧ ∀ j x, (ps.map ptrV)[j]? = some x → w.cell? ⟨b, o + j, none⟩ = some x) := h.2
theorem append_nil72 {w : World} {base : Nat} {v : Value} {n : Nat} {xs : List Value} (c : Nat) (hown : w.ownsRow base 83 1 v n xs) : (Builtin.append_ #[72, 72] 72 #[v, .slice none 0 c]).run Try.prog w = .ok v w := by
  obtain ⟨i0, hi, hz0, hz1, hz2⟩ := info_parts info83
  have ht : Try.prog.underlying 72 = some (.slice 83) := Try.underlying72
  rcases hown.2 with ⟨rfl, rfl⟩ | ⟨g, cap, cur, rfl, _, _, hnc, _⟩
  · simp [Builtin.append_, run_underlying ht, sizeOf, typeInfo, hi, Builtin.lenOf, Builtin.firstCells]
  · simp [Builtin.append_, run_underlying ht, sizeOf, typeInfo, hi, Builtin.lenOf, Builtin.firstCells, hnc, storeCells]

/-- append(own, others...). -/
theorem append_row72 {w : World} {base : Nat} {v u : Value} {n : Nat} {xs : List Value} {ps : List Nat} (hown : w.ownsRow base 83 1 v n xs) (hrow : Ptrs w u ps) (hl : n + ps.length ≤ 1000000) (hbase : base ≤ w.heap.size) :
    ∃ v' w', (Builtin.append_ #[72, 72] 72 #[v, u]).run Try.prog w = .ok v' w' ∧ w'.ownsRow base 83 1 v' (n + ps.length) (xs ++ ps.map ptrV) ∧ w.grownBy w' v.ownBlock := by
  obtain ⟨i0, hi, hz0, hz1, hz2⟩ := info_parts info83
  obtain ⟨A, c, rfl, hc, hx⟩ := hrow.opened
  cases ps with
  | nil =>
    cases A with
    | none => exact ⟨v, w, append_nil72 c hown, by simpa using hown, World.grownBy.refl _ _⟩
    | some a =>
      obtain ⟨v', w', h1, h2, h3, _⟩ := run_append_own w base 72 72 83 i0 (.pointer none) 1 8 Try.underlying72 hi hz0 hz1 hz2 rfl (by decide) v n xs hown a 0 c [] rfl (by simp) (by simp) (by simp at hl; unfold maxLen; omega) (by simp at hl; omega) hbase
      exact ⟨v', w', h1, h2, h3⟩
  | cons x ps =>
    obtain ⟨b, o, rfl, hb, hy⟩ := hx (by simp)
    obtain ⟨v', w', h1, h2, h3, _⟩ := run_append_own w base 72 72 83 i0 (.pointer none) 1 8 Try.underlying72 hi hz0 hz1 hz2 rfl (by decide) v n xs hown ⟨b, o, none⟩ (x :: ps).length c ((x :: ps).map ptrV) (by simp) (fun j y hj => by rw [add_plain0]; exact hy j y hj) (ptrs_one _) (by unfold maxLen; omega) (by omega) hbase
    exact ⟨v', w', h1, by simpa using h2, h3⟩

/-- append(row[:n:n], p): always a new row. -/
theorem append_full {w : World} {A : Option Addr} {n : Nat} {xs : List Value} (p : Value) (hp : p.oneCell' = true) (h : RowN 1 w (.slice A n n) n xs) (h1 : ∀ u ∈ xs, u.oneCell' = true) (hl : n ≤ 1000000) :
    ∃ v' w', (Builtin.append_ #[72, 72] 72 #[.slice A n n, .slice (some ⟨w.heap.size, 0, none⟩) 1 1]).run Try.prog (w.alloc (.cells #[p] 83)) = .ok v' w' ∧ w'.ownsRow w.heap.size 83 1 v' (n + 1) (xs ++ [p]) ∧ Below w.heap.size w w' := by
  obtain ⟨i0, hi, hz0, hz1, hz2⟩ := info_parts info83
  obtain ⟨hlx, A', c, ev, hc, hx⟩ := h
  simp only [Value.slice.injEq] at ev
  obtain ⟨rfl, -, rfl⟩ := ev
  rw [Nat.mul_one] at hlx
  have hnew : ∀ (j : Nat) (x : Value), [p][j]? = some x → (w.alloc (.cells #[p] 83)).cell? ((⟨w.heap.size, 0, none⟩ : Addr).add j) = some x := fun j x hj => by
    rw [add_plain0, Nat.zero_add]
    exact (Cel.new w [p] 83).get j x hj
  have b0 : Below w.heap.size w (w.alloc (.cells #[p] 83)) := below_new (Below.refl _ _)
  cases A with
  | none =>
    have h0 : n = 0 := by
      rcases Nat.eq_zero_or_pos n with h0 | h0
      · exact h0
      · obtain ⟨b, o, e, _⟩ := hx h0; cases e
    subst h0
    obtain rfl : xs = [] := List.eq_nil_of_length_eq_zero hlx
    obtain ⟨v', w', h1, h2, h3, _⟩ := run_append_own (w.alloc (.cells #[p] 83)) w.heap.size 72 72 83 i0 (.pointer none) 1 8 Try.underlying72 hi hz0 hz1 hz2 rfl (by decide) (.slice none 0 0) 0 [] (World.ownsRow_nil _ _ _ _) ⟨w.heap.size, 0, none⟩ 1 1 [p] (by simp) hnew (by simpa using hp) (by unfold maxLen; omega) (by omega) (by simp)
    exact ⟨v', w', h1, h2, b0.grown h3 (by simp) (fun k hk => by simp [Value.ownBlock] at hk)⟩
  | some a =>
    obtain ⟨ab, ao, an⟩ := a
    have holds : ∀ (j : Nat) (x : Value), xs[j]? = some x → (w.alloc (.cells #[p] 83)).cell? ((⟨ab, ao, an⟩ : Addr).add j) = some x := fun j x hj => by
      have hk : j < xs.length := (List.getElem?_eq_some_iff.1 hj).1
      obtain ⟨b, o, e, hb, hy⟩ := hx (by omega)
      cases e
      rw [add_plain0]
      exact (b0.cell (p := ⟨_, _ + j, none⟩) hb).trans (hy j x hj)
    have hr := run_append_grow (P := Try.prog) (w.alloc (.cells #[p] 83)) 72 72 83 i0 (.pointer none) Try.underlying72 hi hz0 ⟨ab, ao, an⟩ n n xs (by rw [hz1]; omega) holds ⟨w.heap.size, 0, none⟩ 1 1 [p] (by rw [hz1]; simp) hnew (by omega) (by omega) (growslice_fits (by omega) (by rw [hz2]; omega))
    have hge := grownCap_ge (w.alloc (.cells #[p] 83)) (n + 1) n 83
    have hG := grownCap_le_maxLen (w.alloc (.cells #[p] 83)) (n + 1) n 83 (by unfold maxLen; omega)
    refine ⟨_, _, hr, ?_, below_new (b0.drew)⟩
    refine ⟨by simp; omega, .inr ⟨(w.alloc (.cells #[p] 83)).heap.size, _, _, rfl, by simp, heap_alloc_new _ _, hge, hG, ?_, ?_⟩⟩
    · simp [size_zeroCells, Value.cells]; omega
    · simp only [Array.toList_append, List.append_assoc]
      rw [← List.append_assoc, show (n + 1) * 1 = (xs ++ [p]).length by simp; omega]
      exact List.take_left

/-- A new row of pointers. -/
def MadeP (l : List Nat) (w : World) (e : Ending) (w' : World) : Prop := ∃ v, e = .returned v ∧ w'.ownsRow w.heap.size 83 1 v l.length (l.map ptrV) ∧ Below w.heap.size w w'

set_option maxHeartbeats 2000000 in
set_option maxRecDepth 100000 in
theorem grow_nil72 (n : Nat) (w : World) (hn : n ≤ 1000000) : Calls Try.prog 62 #[.slice none 0 0, .int .i64 n] w (MadeP [] w) := by
  obtain ⟨i0, hi, hz0, hz1, hz2⟩ := info_parts info83
  by_cases h0 : n = 0
  · subst h0
    go_enter Try.func62, Try.ntmps62
    go_wp2
    go_ret
    exact ⟨_, rfl, World.ownsRow_nil _ _ _ _, Below.refl _ _⟩
  · obtain ⟨v', w', hr, hown, hb⟩ : ∃ G w', (Builtin.append_ #[72, 3] 72 #[.slice none 0 0, .int .i64 n]).run Try.prog w = .ok (.slice (some ⟨w.heap.size, 0, none⟩) n G) w' ∧ w'.ownsRow w.heap.size 83 1 (.slice (some ⟨w.heap.size, 0, none⟩) 0 G) 0 [] ∧ Below w.heap.size w w' := by
      have h := Lib.run_append_grow_zeros w 72 3 72 83 i0 (.pointer none) .i64 .i64 Try.underlying72 Try.underlying3 hi hz0 none 0 0 [] (run_firstCells_none w.drew i0.size 0 0 0) n (by omega) (by omega) (by omega) (by omega)
        (by rw [hz2]; omega) (growslice_fits (by omega) (by rw [hz2]; omega))
      rw [Nat.zero_add] at h
      have hG := grownCap_le_maxLen w n 0 83 (by unfold maxLen; omega)
      have hG2 := grownCap_ge w n 0 83
      refine ⟨_, _, h, ?_, ((Below.refl _ w).drew).alloc (Nat.le_refl _) _⟩
      refine World.ownsRow_made w.drew _ _ (Nat.le_refl _) hG ?_
      simp [size_zeroCells, Value.cells]
      omega
    have HO := Lib.hid hown
    have HB := Lib.hid hb
    clear hown hb
    have hn0 : 0 < n := by omega
    go_enter Try.func62, Try.ntmps62
    go_wp2_with (at_builtin; refine Lib.wpList_append_run _ rfl _ _ _ _ rfl _ _ rfl rfl _ _ hr ?_)
    go_ret
    exact ⟨_, rfl, HO.out, HB.out⟩

set_option maxHeartbeats 2000000 in
set_option maxRecDepth 100000 in
theorem concat72 {w : World} {v u : Value} {ss ts : List Nat} {b : Nat} (h : Ptrs w v ss) (h' : Ptrs w u ts) (hl : ss.length ≤ 1000) (hl' : ts.length ≤ 1000) (hb : b < w.heap.size) (c0 : w.cell? ⟨b, 0, none⟩ = some v) (c1 : w.cell? ⟨b, 1, none⟩ = some u) :
    Calls Try.prog 48 #[.slice (some ⟨b, 0, none⟩) 2 2] w (MadeP (ss ++ ts) w) := by
  have HV := Lib.hid h
  have HU := Lib.hid h'
  obtain ⟨A, c, rfl, hc, hx⟩ := h.opened
  obtain ⟨A', c', rfl, hc', hx'⟩ := h'.opened
  clear hx hx' h h'
  have hg := grow_nil72 (ss.length + ts.length) w (by omega)
  rw [Int.natCast_add] at hg
  have HG := Lib.hid hg
  clear hg
  go_enter Try.func48, Try.ntmps48
  go_wp2
  go_loop [3, 11] (fun n i => At3 i (n = .int .i64 0) (n = .int .i64 ss.length) (n = .int .i64 (ss.length + ts.length))) (fun _ i => 2 - (intOf i).toNat)
  case atStart => exact .inl ⟨rfl, rfl⟩
  case round =>
    rcases hrel with ⟨rfl, rfl⟩ | ⟨rfl, rfl⟩ | ⟨rfl, rfl⟩
    · go_wp2
      go_round
      case rel => exact .inr (.inl ⟨rfl, by simp⟩)
      case measure => simp [intOf]
    · go_wp2
      go_round
      case rel => exact .inr (.inr ⟨rfl, rfl⟩)
      case measure => simp [intOf]
    · go_wp2_with (fail)
      refine HG.out.mono ?_
      rintro e w1 ⟨v1, rfl, hown, hbel⟩
      have HO := Lib.hid hown
      have HB := Lib.hid hbel
      clear hown hbel
      have C0 := Lib.hid c0
      have C1 := Lib.hid c1
      clear c0 c1 HG
      go_wp2
      go_loopw [6, 27] (fun x i wr => At3 i (wr.ownsRow w.heap.size 83 1 x 0 []) (wr.ownsRow w.heap.size 83 1 x ss.length (ss.map ptrV)) (wr.ownsRow w.heap.size 83 1 x (ss.length + ts.length) (ss.map ptrV ++ ts.map ptrV)) ∧ Below w.heap.size w wr) (fun _ i _ => 2 - (intOf i).toNat)
      case atStart => exact ⟨.inl ⟨rfl, HO.out⟩, HB.out⟩
      case round =>
        clear HO HB
        obtain ⟨h3, hbw⟩ := hrel
        have hsz := hbw.size
        have c0 := (hbw.cell (p := ⟨b, 0, none⟩) hb).trans C0.out
        have c1 := (hbw.cell (p := ⟨b, 1, none⟩) hb).trans C1.out
        have HB := Lib.hid hbw
        clear hbw
        rcases h3 with ⟨rfl, hown⟩ | ⟨rfl, hown⟩ | ⟨rfl, hown⟩
        · obtain ⟨v', w', hr, hown', hgr⟩ := append_row72 hown (RowN.below HV.out HB.out) (by omega) hsz
          rw [Nat.zero_add, List.nil_append] at hown'
          have HO := Lib.hid hown'
          have HB2 := Lib.hid (HB.out.grown hgr hsz (fun k hk => (hown.lt k hk).1))
          clear hown' hgr c1
          go_wp2_with (at_builtin; refine Lib.wpList_append_run _ rfl _ _ _ _ rfl _ _ rfl rfl _ _ hr ?_)
          go_roundw
          case rel => exact ⟨.inr (.inl ⟨rfl, HO.out⟩), HB2.out⟩
          case measure => simp [intOf]
        · obtain ⟨v', w', hr, hown', hgr⟩ := append_row72 hown (RowN.below HU.out HB.out) (by omega) hsz
          have HO := Lib.hid hown'
          have HB2 := Lib.hid (HB.out.grown hgr hsz (fun k hk => (hown.lt k hk).1))
          clear hown' hgr c0
          go_wp2_with (at_builtin; refine Lib.wpList_append_run _ rfl _ _ _ _ rfl _ _ rfl rfl _ _ hr ?_)
          go_roundw
          case rel => exact ⟨.inr (.inr ⟨rfl, HO.out⟩), HB2.out⟩
          case measure => simp [intOf]
        · have HO := Lib.hid hown
          clear hown c0 c1
          go_wp2
          go_ret
          exact ⟨_, rfl, by rw [List.length_append, List.map_append]; exact HO.out, HB.out⟩
end Go.Proofs.Ytnahboflpipfpaa
