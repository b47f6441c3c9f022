/- Contract of Few at commands in a row; no conditions. -/
import Derived.Test.YtagngbdlpdilnaaCmdsJ
namespace Go.Proofs.Ytagngbdlpdilnaa
open Go.ChangeShapes Go.WideShapes Go.ChangeAt Go.RowKit

namespace M
def keyB (r : (List UInt8 × Int × Int)) : Bool := decide (r.1.length ≤ 100)
def bothB (r : (List UInt8 × List UInt8)) : Bool := decide (r.1.length ≤ 100) && decide (r.2.length ≤ 100)
def modB (c : Cmd) : Bool := decide (c.rs.length ≤ 20) && (decide (c.ws.length ≤ 20) && (c.rs.all keyB && c.ws.all bothB))
theorem modB_iff {c : Cmd} : modB c = true ↔ Mod c := by
  unfold modB
  rw [Bool.and_eq_true, Bool.and_eq_true, Bool.and_eq_true, decide_eq_true_eq, decide_eq_true_eq, List.all_eq_true, List.all_eq_true]
  constructor
  · rintro ⟨h1, h2, h3, h4⟩
    refine ⟨h1, h2, fun r hr => by have := h3 r hr; simpa [keyB] using this, fun r hr => ?_, fun r hr => ?_⟩
    · have := h4 r hr
      simp [bothB] at this
      exact this.1
    · have := h4 r hr
      simp [bothB] at this
      exact this.2
  · rintro ⟨h1, h2, h3, h4, h5⟩
    exact ⟨h1, h2, fun r hr => by have := h3 r hr; simpa [keyB] using this, fun r hr => by simp [bothB, h4 r hr, h5 r hr]⟩
theorem mod_key {c : Cmd} {k : Nat} (hk : k < c.rs.length) (h : 100 < (c.rs.getD k rd0).1.length) : modB c = false := by
  have : c.rs.all keyB = false := all_no (z := rd0) hk (by simp [keyB]; exact h)
  unfold modB; rw [this]; simp
theorem mod_both {c : Cmd} {k : Nat} (hk : k < c.ws.length) (h : bothB (c.ws.getD k wr0) = false) : modB c = false := by
  have : c.ws.all bothB = false := all_no (z := wr0) hk h
  unfold modB; rw [this]; simp
theorem mod_long {c : Cmd} (h : ¬ c.rs.length ≤ 20) : modB c = false := by unfold modB; simp [h]
theorem mod_long' {c : Cmd} (h : ¬ c.ws.length ≤ 20) : modB c = false := by unfold modB; simp [h]
theorem mod_yes {c : Cmd} {i j : Nat} (h1 : c.rs.length ≤ 20) (h2 : c.ws.length ≤ 20) (h3 : (c.rs.take i).all keyB = true) (hi : ¬ (i < c.rs.length ∧ i ≤ 20)) (h4 : (c.ws.take j).all bothB = true) (hj : ¬ (j < c.ws.length ∧ j ≤ 20)) : modB c = true := by
  rw [List.take_of_length_le (by omega)] at h3 h4
  unfold modB; rw [h3, h4]; simp [h1, h2]
end M

/-- A command among others. -/
structure BoxAt (w : World) (b p : Nat) (c : M.Cmd) (va vb : Value) : Prop where
  lt : b < w.heap.size
  c0 : w.cell? ⟨b, p, none⟩ = some (.int .i64 c.k)
  c1 : w.cell? ⟨b, p + 1, none⟩ = some (.int .i64 c.tc)
  c2 : w.cell? ⟨b, p + 2, none⟩ = some (.int .i64 c.tn)
  c3 : w.cell? ⟨b, p + 3, none⟩ = some (.int .i64 c.tt)
  c4 : w.cell? ⟨b, p + 4, none⟩ = some (.int .i64 c.tk)
  c5 : w.cell? ⟨b, p + 5, none⟩ = some (.int .i64 c.sh)
  c6 : w.cell? ⟨b, p + 6, none⟩ = some va
  c7 : w.cell? ⟨b, p + 7, none⟩ = some vb
  c8 : w.cell? ⟨b, p + 8, none⟩ = some (.bool c.cm)
theorem BoxAt.on {w w' : World} {b p : Nat} {c : M.Cmd} {va vb : Value} (h : BoxAt w b p c va vb) (k : Below w.heap.size w w') : BoxAt w' b p c va vb :=
  ⟨Nat.lt_of_lt_of_le h.lt k.size, (k.cell (p := ⟨b, p, none⟩) h.lt).trans h.c0, (k.cell (p := ⟨b, p + 1, none⟩) h.lt).trans h.c1, (k.cell (p := ⟨b, p + 2, none⟩) h.lt).trans h.c2, (k.cell (p := ⟨b, p + 3, none⟩) h.lt).trans h.c3, (k.cell (p := ⟨b, p + 4, none⟩) h.lt).trans h.c4, (k.cell (p := ⟨b, p + 5, none⟩) h.lt).trans h.c5, (k.cell (p := ⟨b, p + 6, none⟩) h.lt).trans h.c6, (k.cell (p := ⟨b, p + 7, none⟩) h.lt).trans h.c7, (k.cell (p := ⟨b, p + 8, none⟩) h.lt).trans h.c8⟩

set_option maxHeartbeats 8000000 in
set_option maxRecDepth 100000 in
theorem few_any {w : World} {b o n : Nat} (cF : Nat → M.Cmd) (vF uF : Nat → Value) (hn : n ≤ 10) (hbox : ∀ j, j < n → BoxAt w b (o + j * 9) (cF j) (vF j) (uF j)) (hr : ∀ j, j < n → Rds w (vF j) (cF j).rs) (hw : ∀ j, j < n → Wrs w (uF j) (cF j).ws) :
    Calls Try.prog 10 #[.slice (some ⟨b, o, none⟩) n n] w fun e w' => e = .returned (.bool ((List.range n).all fun j => M.modB (cF j))) ∧ Below w.heap.size w w' := by
  have HB := Lib.hid hbox
  have HR := Lib.hid hr
  have HW := Lib.hid hw
  clear hbox hr hw
  go_enter Try.func10, Try.ntmps10
  go_wp2
  go_loopw [9] (fun i wr => ∃ k : Nat, k ≤ n ∧ i = .int .i64 k ∧ Below w.heap.size w wr ∧ ∀ j, j < k → M.modB (cF j) = true) (fun i _ => n - (intOf i).toNat)
  case atStart => exact ⟨0, Nat.zero_le _, rfl, Below.refl _ _, fun j hj => absurd hj (by omega)⟩
  case round =>
    obtain ⟨k, hk, rfl, hbw, hall⟩ := hrel
    have HA := Lib.hid hall
    have BW := Lib.hid hbw
    clear hall hbw
    by_cases hlt : k < n
    · obtain ⟨j1, f0, f1, f2, f3, f4, f5, f6, f7, f8⟩ := (HB.out k hlt).on BW.out
      have RR := Lib.hid ((HR.out k hlt).below BW.out)
      have WW := Lib.hid ((HW.out k hlt).below BW.out)
      have NO := Lib.hid (show M.modB (cF k) = false → false = (List.range n).all fun j => M.modB (cF j) from fun h => by
        cases e : (List.range n).all fun j => M.modB (cF j)
        · rfl
        · rw [List.all_eq_true] at e
          have := e k (List.mem_range.2 hlt)
          simp only [h] at this; cases this)
      have YES := Lib.hid (show M.modB (cF k) = true → ∀ j, j < k + 1 → M.modB (cF j) = true from fun h j hj => by
        by_cases e : j = k
        · rw [e]; exact h
        · exact HA.out j (by omega))
      have BN := Lib.hid (below_new (o := .cells #[.int .i64 (cF k).k, .int .i64 (cF k).tc, .int .i64 (cF k).tn, .int .i64 (cF k).tt, .int .i64 (cF k).tk, .int .i64 (cF k).sh, vF k, uF k, .bool (cF k).cm] 33) BW.out)
      have R1 := Lib.hid (RR.out.push (.cells #[.int .i64 (cF k).k, .int .i64 (cF k).tc, .int .i64 (cF k).tn, .int .i64 (cF k).tt, .int .i64 (cF k).tk, .int .i64 (cF k).sh, vF k, uF k, .bool (cF k).cm] 33))
      have W1 := Lib.hid (WW.out.push (.cells #[.int .i64 (cF k).k, .int .i64 (cF k).tc, .int .i64 (cF k).tn, .int .i64 (cF k).tt, .int .i64 (cF k).tk, .int .i64 (cF k).sh, vF k, uF k, .bool (cF k).cm] 33))
      have X1 := Lib.hid (Box.new wr (cF k) (vF k) (uF k))
      clear HA BW RR WW
      generalize cF k = c at *
      obtain ⟨A, c1, hv, hc, hx⟩ := R1.out.opened
      obtain ⟨A', c2, hu, hc', hx'⟩ := W1.out.opened
      generalize vF k = va at *
      generalize uF k = vb at *
      subst hv
      subst hu
      have HX := Lib.hid hx
      have HX' := Lib.hid hx'
      clear hx hx' R1 W1
      have hi1 : (k : Int) < (n : Int) := by omega
      go_wp2
      clear f0 f1 f2 f3 f4 f5 f6 f7 f8
      generalize (wr.alloc (.cells #[.int .i64 c.k, .int .i64 c.tc, .int .i64 c.tn, .int .i64 c.tt, .int .i64 c.tk, .int .i64 c.sh, .slice A c.rs.length c1, .slice A' c.ws.length c2, .bool c.cm] 33)) = w1 at *
      obtain ⟨l0, p0, p1, p2, p3, p4, p5, p6, p7, p8⟩ := X1.out
      go_loop [5] (fun i => ∃ p : Nat, p ≤ c.rs.length ∧ i = .int .i64 p ∧ p ≤ 21 ∧ (c.rs.take p).all M.keyB = true) (fun i => 21 - (intOf i).toNat)
      case atStart => exact ⟨0, Nat.zero_le _, rfl, by omega, rfl⟩
      case round =>
        obtain ⟨p, hp, rfl, hp21, hsh⟩ := hrel
        have HS := Lib.hid hsh
        clear hsh
        by_cases hin : p < c.rs.length ∧ p ≤ 20
        · obtain ⟨hpl, hp20⟩ := hin
          obtain ⟨b', o', rfl, hb', hy⟩ := HX.out (by omega)
          obtain ⟨z1, z2, z3⟩ := hy p hpl
          obtain ⟨s, hs⟩ : ∃ s : ByteArray, s = ⟨(c.rs.getD p rd0).1.toArray⟩ := ⟨_, rfl⟩
          rw [← hs] at z1
          have HZ := Lib.hid (show s.size = (c.rs.getD p rd0).1.length by rw [hs, size_mk])
          clear hy hs z2 z3
          by_cases hbig : 100 < s.size
          · go_wp2
            go_ret
            exact ⟨ret_bool (NO.out (M.mod_key hpl (by have := HZ.out; omega))), BN.out⟩
          · go_wp2
            go_round
            case rel => exact ⟨p + 1, by omega, by go_num, by omega, M.all_step (z := rd0) hpl HS.out (decide_eq_true (by have := HZ.out; omega))⟩
            case measure => simp [intOf]; omega
        · have hd : (p < c.rs.length ∧ ¬ p ≤ 20) ∨ ¬ p < c.rs.length := by omega
          have HIN := Lib.hid hin
          clear hin
          rcases hd with ⟨hpl, hp20⟩ | hpl
          all_goals
            go_wp2
            go_loop [6] (fun i => ∃ q : Nat, q ≤ c.ws.length ∧ i = .int .i64 q ∧ q ≤ 21 ∧ (c.ws.take q).all M.bothB = true) (fun i => 21 - (intOf i).toNat)
            case atStart => exact ⟨0, Nat.zero_le _, rfl, by omega, rfl⟩
            case round =>
              obtain ⟨q, hq, rfl, hq21, hsh⟩ := hrel
              have HT := Lib.hid hsh
              clear hsh
              by_cases hin : q < c.ws.length ∧ q ≤ 20
              · obtain ⟨hql, hq20⟩ := hin
                obtain ⟨b', o', rfl, hb', hy⟩ := HX'.out (by omega)
                obtain ⟨z1, z2⟩ := hy q hql
                have HQ := Lib.hid (show M.bothB (c.ws.getD q wr0) = (decide ((c.ws.getD q wr0).1.length ≤ 100) && decide ((c.ws.getD q wr0).2.length ≤ 100)) from rfl)
                obtain ⟨s, hs⟩ : ∃ s : ByteArray, s = ⟨(c.ws.getD q wr0).1.toArray⟩ := ⟨_, rfl⟩
                obtain ⟨t, ht⟩ : ∃ t : ByteArray, t = ⟨(c.ws.getD q wr0).2.toArray⟩ := ⟨_, rfl⟩
                rw [← hs] at z1
                rw [← ht] at z2
                have HZ := Lib.hid (show s.size = (c.ws.getD q wr0).1.length by rw [hs, size_mk])
                have HU := Lib.hid (show t.size = (c.ws.getD q wr0).2.length by rw [ht, size_mk])
                clear hy hs ht
                by_cases hbig : 100 < s.size
                · go_wp2
                  go_ret
                  exact ⟨ret_bool (NO.out (M.mod_both hql (HQ.out.trans (by rw [decide_eq_false (by have := HZ.out; omega)]; rfl)))), BN.out⟩
                · by_cases hbig2 : 100 < t.size
                  · go_wp2
                    go_ret
                    exact ⟨ret_bool (NO.out (M.mod_both hql (HQ.out.trans (by rw [decide_eq_false (show ¬ (c.ws.getD q wr0).2.length ≤ 100 by have := HU.out; omega), Bool.and_false])))), BN.out⟩
                  · go_wp2
                    go_round
                    case rel => exact ⟨q + 1, by omega, by go_num, by omega, M.all_step (z := wr0) hql HT.out (HQ.out.trans (by rw [decide_eq_true (by have := HZ.out; omega), decide_eq_true (by have := HU.out; omega)]; rfl))⟩
                    case measure => simp [intOf]; omega
              · have hd2 : (q < c.ws.length ∧ ¬ q ≤ 20) ∨ ¬ q < c.ws.length := by omega
                have HIN2 := Lib.hid hin
                clear hin
                rcases hd2 with ⟨hql, hq20⟩ | hql
                all_goals
                  by_cases g1 : c.rs.length ≤ 20
                  · by_cases g2 : c.ws.length ≤ 20
                    · first
                        | (exfalso; omega)
                        | (go_wp2
                           go_roundw
                           case rel => exact ⟨k + 1, by omega, by go_num, BN.out, YES.out (M.mod_yes g1 g2 HS.out HIN.out HT.out HIN2.out)⟩
                           case measure => simp [intOf]; omega)
                    · first
                        | (exfalso; omega)
                        | (go_wp2
                           go_ret
                           exact ⟨ret_bool (NO.out (M.mod_long' g2)), BN.out⟩)
                  · go_wp2
                    go_ret
                    exact ⟨ret_bool (NO.out (M.mod_long g1)), BN.out⟩
    · go_wp2
      go_ret
      refine ⟨ret_bool (Eq.symm ?_), BW.out⟩
      rw [List.all_eq_true]
      exact fun j hj => HA.out j (by have := List.mem_range.1 hj; omega)
end Go.Proofs.Ytagngbdlpdilnaa
