/- Steps in memory; contracts of few and awake; no conditions. -/
import Derived.Test.YtpdknamdladgnaaDkE
namespace Go.Proofs.Ytpdknamdladgnaa
open Go.RowKit

/-- A step in memory. -/
structure DoAt (w : World) (b o : Nat) (d : M.Do) (sv : Value) : Prop where
  c0 : w.cell? ⟨b, o, none⟩ = some (.int .i64 d.verb)
  c1 : w.cell? ⟨b, o + 1, none⟩ = some (.int .i64 d.n)
  c2 : w.cell? ⟨b, o + 2, none⟩ = some (.int .i64 d.pos)
  c3 : w.cell? ⟨b, o + 3, none⟩ = some (.int .u8 (d.mask.toNat : Int))
  c4 : w.cell? ⟨b, o + 4, none⟩ = some sv
  bts : Bts w sv d.b
theorem DoAt.below {w w' : World} {b o : Nat} {d : M.Do} {sv : Value} (h : DoAt w b o d sv) (hl : b < w.heap.size) (hb : Below w.heap.size w w') : DoAt w' b o d sv :=
  ⟨(hb.cell (p := ⟨b, o, none⟩) hl).trans h.c0, (hb.cell (p := ⟨b, o + 1, none⟩) hl).trans h.c1, (hb.cell (p := ⟨b, o + 2, none⟩) hl).trans h.c2, (hb.cell (p := ⟨b, o + 3, none⟩) hl).trans h.c3, (hb.cell (p := ⟨b, o + 4, none⟩) hl).trans h.c4, h.bts.below hb⟩
def do0 : M.Do := ⟨0, 0, 0, 0, []⟩
/-- A slice of steps. -/
def Dos (w : World) (v : Value) (l : List M.Do) : Prop := ∃ (A : Option Addr) (c : Nat), v = .slice A l.length c ∧ l.length ≤ c ∧ c ≤ maxLen ∧ (0 < l.length → ∃ b o, A = some ⟨b, o, none⟩ ∧ b < w.heap.size ∧ ∀ i, i < l.length → ∃ sv, DoAt w b (o + i * 5) (l.getD i do0) sv)
theorem Dos.below {w w' : World} {v : Value} {l : List M.Do} (h : Dos w v l) (hb : Below w.heap.size w w') : Dos w' v l := by
  obtain ⟨A, c, e, hc, hm, hx⟩ := h
  refine ⟨A, c, e, hc, hm, fun h0 => ?_⟩
  obtain ⟨b, o, e1, hl, hy⟩ := hx h0
  refine ⟨b, o, e1, Nat.lt_of_lt_of_le hl hb.size, fun i hi => ?_⟩
  obtain ⟨sv, h1⟩ := hy i hi
  exact ⟨sv, h1.below hl hb⟩

namespace M
def few (l : List Do) : Bool := decide (∀ d ∈ l, d.b.length ≤ 100) && decide (l.length ≤ 100)
theorem few_iff {l : List Do} : few l = true ↔ (∀ d ∈ l, d.b.length ≤ 100) ∧ l.length ≤ 100 := by simp [few]
theorem few_not {l : List Do} {i : Nat} (hi : i < l.length) (h : 100 < (l.getD i do0).b.length) : false = few l := by
  symm
  rw [Bool.eq_false_iff]
  intro e
  have := (few_iff.1 e).1 (l.getD i do0) (by rw [List.getD, List.getElem?_eq_getElem hi]; exact List.getElem_mem hi)
  omega
theorem few_all {l : List Do} (h : ∀ j, j < l.length → (l.getD j do0).b.length ≤ 100) : few l = decide (l.length ≤ 100) := by
  have : (∀ d ∈ l, d.b.length ≤ 100) := fun d hd => by
    obtain ⟨i, hi, rfl⟩ := List.mem_iff_getElem.1 hd
    have := h i hi
    rwa [List.getD, List.getElem?_eq_getElem hi] at this
  unfold few
  rw [decide_eq_true this, Bool.true_and]
end M

set_option maxHeartbeats 1000000 in
theorem few_any {w : World} {v : Value} {l : List M.Do} (h : Dos w v l) : Calls Try.prog 10 #[v] w fun e w' => e = .returned (.bool (M.few l)) ∧ Below w.heap.size w w' := by
  obtain ⟨A, c, rfl, hc, hm, hx⟩ := h
  unfold maxLen at hm
  have HX := Lib.hid hx
  clear hx
  go_enter Try.func10, Try.ntmps10
  go_wp2
  go_loopw [7] (fun i wr => ∃ k : Nat, k ≤ l.length ∧ i = .int .i64 k ∧ Below w.heap.size w wr ∧ Hid (∀ j, j < k → (l.getD j do0).b.length ≤ 100)) (fun i _ => l.length - (intOf i).toNat)
  case atStart => exact ⟨0, Nat.zero_le _, rfl, Below.refl _ _, fun j hj => absurd hj (by omega)⟩
  case round =>
    obtain ⟨k, hk, rfl, hbw, HA⟩ := hrel
    by_cases hlt : k < l.length
    · obtain ⟨b, o, rfl, hb, hy⟩ := HX.out (by omega)
      obtain ⟨sv, hd⟩ := hy k hlt
      obtain ⟨c0, c1, c2, c3, c4, hbt⟩ := hd.below hb hbw
      obtain ⟨A2, n2, rfl, hc2, -⟩ := hbt.opened
      have hl2 := Nat.lt_of_lt_of_le hb hbw.size
      have HBW := Lib.hid hbw
      have HK := Lib.hid (show 100 < (l.getD k do0).b.length → false = M.few l from fun h => M.few_not hlt h)
      have HN := Lib.hid (show (l.getD k do0).b.length ≤ 100 → ∀ j, j < k + 1 → (l.getD j do0).b.length ≤ 100 from fun h j hj => by
        by_cases e : j = k
        · subst e; exact h
        · exact HA.out j (by omega))
      clear hy hd hbt hbw
      generalize l.getD k do0 = d at *
      have hi1 : (k : Int) < (l.length : Int) := by omega
      by_cases hm : d.b.length ≤ 100
      · have hm1 : (d.b.length : Int) ≤ 100 := by omega
        go_wp2
        go_roundw
        case rel => exact ⟨k + 1, by omega, by go_num, below_new HBW.out, HN.out hm⟩
        case measure => simp [intOf]; omega
      · have hm1 : 100 < (d.b.length : Int) := by omega
        go_wp2
        go_ret
        exact ⟨ret_bool (HK.out (by omega)), below_new HBW.out⟩
    · obtain rfl : k = l.length := by omega
      have HF := Lib.hid (M.few_all HA.out)
      go_wp2
      go_ret
      exact ⟨ret_bool (by rw [HF.out]; rw [Bool.eq_iff_iff]; simp; omega), hbw⟩
end Go.Proofs.Ytpdknamdladgnaa
