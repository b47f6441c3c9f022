/- Records: which are the same: contracts; no conditions but those that they name. -/
import Derived.Test.YtpknkhgkejkpkaaGreatWiC

namespace Go.Proofs.YtpknkhgkejkpkaaGreat
open Go.ChangeShapes Go.WideShapes Go.ChangeAt Go.RowKit

namespace M
def keyB (r : (List UInt8 × Int × Int)) : Bool := decide (r.1.length ≤ 100)
def bothB (r : (List UInt8 × List UInt8)) : Bool := decide (r.1.length ≤ 100) && decide (r.2.length ≤ 100)
def modB (c : Cmd) : Bool := decide (c.rs.length ≤ 20) && (decide (c.ws.length ≤ 20) && (c.rs.all keyB && c.ws.all bothB))
theorem modB_iff {c : Cmd} : modB c = true ↔ Mod c := by
  unfold modB
  rw [Bool.and_eq_true, Bool.and_eq_true, Bool.and_eq_true, decide_eq_true_eq, decide_eq_true_eq, List.all_eq_true, List.all_eq_true]
  constructor
  · rintro ⟨h1, h2, h3, h4⟩
    refine ⟨h1, h2, fun r hr => by have := h3 r hr; simpa [keyB] using this, fun r hr => ?_, fun r hr => ?_⟩
    · have := h4 r hr
      simp [bothB] at this
      exact this.1
    · have := h4 r hr
      simp [bothB] at this
      exact this.2
  · rintro ⟨h1, h2, h3, h4, h5⟩
    exact ⟨h1, h2, fun r hr => by have := h3 r hr; simpa [keyB] using this, fun r hr => by simp [bothB, h4 r hr, h5 r hr]⟩
theorem mod_key {c : Cmd} {k : Nat} (hk : k < c.rs.length) (h : 100 < (c.rs.getD k rd0).1.length) : modB c = false := by
  have : c.rs.all keyB = false := all_no (z := rd0) hk (by simp [keyB]; exact h)
  unfold modB; rw [this]; simp
theorem mod_both {c : Cmd} {k : Nat} (hk : k < c.ws.length) (h : bothB (c.ws.getD k wr0) = false) : modB c = false := by
  have : c.ws.all bothB = false := all_no (z := wr0) hk h
  unfold modB; rw [this]; simp
theorem mod_long {c : Cmd} (h : ¬ c.rs.length ≤ 20) : modB c = false := by unfold modB; simp [h]
theorem mod_long' {c : Cmd} (h : ¬ c.ws.length ≤ 20) : modB c = false := by unfold modB; simp [h]
theorem mod_yes {c : Cmd} {i j : Nat} (h1 : c.rs.length ≤ 20) (h2 : c.ws.length ≤ 20) (h3 : (c.rs.take i).all keyB = true) (hi : ¬ (i < c.rs.length ∧ i ≤ 20)) (h4 : (c.ws.take j).all bothB = true) (hj : ¬ (j < c.ws.length ∧ j ≤ 20)) : modB c = true := by
  rw [List.take_of_length_le (by omega)] at h3 h4
  unfold modB; rw [h3, h4]; simp [h1, h2]
end M

/-- A command among others. -/
structure BoxAt (w : World) (b p : Nat) (c : M.Cmd) (va vb : Value) : Prop where
  lt : b < w.heap.size
  c0 : w.cell? ⟨b, p, none⟩ = some (.int .i64 c.k)
  c1 : w.cell? ⟨b, p + 1, none⟩ = some (.int .i64 c.tc)
  c2 : w.cell? ⟨b, p + 2, none⟩ = some (.int .i64 c.tn)
  c3 : w.cell? ⟨b, p + 3, none⟩ = some (.int .i64 c.tt)
  c4 : w.cell? ⟨b, p + 4, none⟩ = some (.int .i64 c.tk)
  c5 : w.cell? ⟨b, p + 5, none⟩ = some (.int .i64 c.sh)
  c6 : w.cell? ⟨b, p + 6, none⟩ = some va
  c7 : w.cell? ⟨b, p + 7, none⟩ = some vb
  c8 : w.cell? ⟨b, p + 8, none⟩ = some (.bool c.cm)
theorem BoxAt.on {w w' : World} {b p : Nat} {c : M.Cmd} {va vb : Value} (h : BoxAt w b p c va vb) (k : Below w.heap.size w w') : BoxAt w' b p c va vb :=
  ⟨Nat.lt_of_lt_of_le h.lt k.size, (k.cell (p := ⟨b, p, none⟩) h.lt).trans h.c0, (k.cell (p := ⟨b, p + 1, none⟩) h.lt).trans h.c1, (k.cell (p := ⟨b, p + 2, none⟩) h.lt).trans h.c2, (k.cell (p := ⟨b, p + 3, none⟩) h.lt).trans h.c3, (k.cell (p := ⟨b, p + 4, none⟩) h.lt).trans h.c4, (k.cell (p := ⟨b, p + 5, none⟩) h.lt).trans h.c5, (k.cell (p := ⟨b, p + 6, none⟩) h.lt).trans h.c6, (k.cell (p := ⟨b, p + 7, none⟩) h.lt).trans h.c7, (k.cell (p := ⟨b, p + 8, none⟩) h.lt).trans h.c8⟩

set_option maxHeartbeats 8000000 in
set_option maxRecDepth 100000 in
theorem few_any {w : World} {b o n : Nat} (cF : Nat → M.Cmd) (vF uF : Nat → Value) (hn : n ≤ 10) (hbox : ∀ j, j < n → BoxAt w b (o + j * 9) (cF j) (vF j) (uF j)) (hr : ∀ j, j < n → Rds w (vF j) (cF j).rs) (hw : ∀ j, j < n → Wrs w (uF j) (cF j).ws) :
    Calls Tryz.prog 9 #[.slice (some ⟨b, o, none⟩) n n] w fun e w' => e = .returned (.bool ((List.range n).all fun j => M.modB (cF j))) ∧ Below w.heap.size w w' := by
  have HB := Lib.hid hbox
  have HR := Lib.hid hr
  have HW := Lib.hid hw
  clear hbox hr hw
  go_enter Tryz.func9, Tryz.ntmps9
  go_wp2
  go_loopw [9] (fun i wr => ∃ k : Nat, k ≤ n ∧ i = .int .i64 k ∧ Below w.heap.size w wr ∧ ∀ j, j < k → M.modB (cF j) = true) (fun i _ => n - (intOf i).toNat)
  case atStart => exact ⟨0, Nat.zero_le _, rfl, Below.refl _ _, fun j hj => absurd hj (by omega)⟩
  case round =>
    obtain ⟨k, hk, rfl, hbw, hall⟩ := hrel
    have HA := Lib.hid hall
    have BW := Lib.hid hbw
    clear hall hbw
    by_cases hlt : k < n
    · obtain ⟨j1, f0, f1, f2, f3, f4, f5, f6, f7, f8⟩ := (HB.out k hlt).on BW.out
      have RR := Lib.hid ((HR.out k hlt).below BW.out)
      have WW := Lib.hid ((HW.out k hlt).below BW.out)
      have NO := Lib.hid (show M.modB (cF k) = false → false = (List.range n).all fun j => M.modB (cF j) from fun h => by
        cases e : (List.range n).all fun j => M.modB (cF j)
        · rfl
        · rw [List.all_eq_true] at e
          have := e k (List.mem_range.2 hlt)
          simp only [h] at this; cases this)
      have YES := Lib.hid (show M.modB (cF k) = true → ∀ j, j < k + 1 → M.modB (cF j) = true from fun h j hj => by
        by_cases e : j = k
        · rw [e]; exact h
        · exact HA.out j (by omega))
      have BN := Lib.hid (below_new (o := .cells #[.int .i64 (cF k).k, .int .i64 (cF k).tc, .int .i64 (cF k).tn, .int .i64 (cF k).tt, .int .i64 (cF k).tk, .int .i64 (cF k).sh, vF k, uF k, .bool (cF k).cm] 30) BW.out)
      have R1 := Lib.hid (RR.out.push (.cells #[.int .i64 (cF k).k, .int .i64 (cF k).tc, .int .i64 (cF k).tn, .int .i64 (cF k).tt, .int .i64 (cF k).tk, .int .i64 (cF k).sh, vF k, uF k, .bool (cF k).cm] 30))
      have W1 := Lib.hid (WW.out.push (.cells #[.int .i64 (cF k).k, .int .i64 (cF k).tc, .int .i64 (cF k).tn, .int .i64 (cF k).tt, .int .i64 (cF k).tk, .int .i64 (cF k).sh, vF k, uF k, .bool (cF k).cm] 30))
      have X1 := Lib.hid (Box.new wr (cF k) (vF k) (uF k))
      clear HA BW RR WW
      generalize cF k = c at *
      obtain ⟨A, c1, hv, hc, hx⟩ := R1.out.opened
      obtain ⟨A', c2, hu, hc', hx'⟩ := W1.out.opened
      generalize vF k = va at *
      generalize uF k = vb at *
      subst hv
      subst hu
      have HX := Lib.hid hx
      have HX' := Lib.hid hx'
      clear hx hx' R1 W1
      have hi1 : (k : Int) < (n : Int) := by omega
      go_wp2
      clear f0 f1 f2 f3 f4 f5 f6 f7 f8
      generalize (wr.alloc (.cells #[.int .i64 c.k, .int .i64 c.tc, .int .i64 c.tn, .int .i64 c.tt, .int .i64 c.tk, .int .i64 c.sh, .slice A c.rs.length c1, .slice A' c.ws.length c2, .bool c.cm] 30)) = w1 at *
      obtain ⟨l0, p0, p1, p2, p3, p4, p5, p6, p7, p8⟩ := X1.out
      go_loop [5] (fun i => ∃ p : Nat, p ≤ c.rs.length ∧ i = .int .i64 p ∧ p ≤ 21 ∧ (c.rs.take p).all M.keyB = true) (fun i => 21 - (intOf i).toNat)
      case atStart => exact ⟨0, Nat.zero_le _, rfl, by omega, rfl⟩
      case round =>
        obtain ⟨p, hp, rfl, hp21, hsh⟩ := hrel
        have HS := Lib.hid hsh
        clear hsh
        by_cases hin : p < c.rs.length ∧ p ≤ 20
        · obtain ⟨hpl, hp20⟩ := hin
          obtain ⟨b', o', rfl, hb', hy⟩ := HX.out (by omega)
          obtain ⟨z1, z2, z3⟩ := hy p hpl
          obtain ⟨s, hs⟩ : ∃ s : ByteArray, s = ⟨(c.rs.getD p rd0).1.toArray⟩ := ⟨_, rfl⟩
          rw [← hs] at z1
          have HZ := Lib.hid (show s.size = (c.rs.getD p rd0).1.length by rw [hs, size_mk])
          clear hy hs z2 z3
          by_cases hbig : 100 < s.size
          · go_wp2
            go_ret
            exact ⟨ret_bool (NO.out (M.mod_key hpl (by have := HZ.out; omega))), BN.out⟩
          · go_wp2
            go_round
            case rel => exact ⟨p + 1, by omega, by go_num, by omega, M.all_step (z := rd0) hpl HS.out (decide_eq_true (by have := HZ.out; omega))⟩
            case measure => simp [intOf]; omega
        · have hd : (p < c.rs.length ∧ ¬ p ≤ 20) ∨ ¬ p < c.rs.length := by omega
          have HIN := Lib.hid hin
          clear hin
          rcases hd with ⟨hpl, hp20⟩ | hpl
          all_goals
            go_wp2
            go_loop [6] (fun i => ∃ q : Nat, q ≤ c.ws.length ∧ i = .int .i64 q ∧ q ≤ 21 ∧ (c.ws.take q).all M.bothB = true) (fun i => 21 - (intOf i).toNat)
            case atStart => exact ⟨0, Nat.zero_le _, rfl, by omega, rfl⟩
            case round =>
              obtain ⟨q, hq, rfl, hq21, hsh⟩ := hrel
              have HT := Lib.hid hsh
              clear hsh
              by_cases hin : q < c.ws.length ∧ q ≤ 20
              · obtain ⟨hql, hq20⟩ := hin
                obtain ⟨b', o', rfl, hb', hy⟩ := HX'.out (by omega)
                obtain ⟨z1, z2⟩ := hy q hql
                have HQ := Lib.hid (show M.bothB (c.ws.getD q wr0) = (decide ((c.ws.getD q wr0).1.length ≤ 100) && decide ((c.ws.getD q wr0).2.length ≤ 100)) from rfl)
                obtain ⟨s, hs⟩ : ∃ s : ByteArray, s = ⟨(c.ws.getD q wr0).1.toArray⟩ := ⟨_, rfl⟩
                obtain ⟨t, ht⟩ : ∃ t : ByteArray, t = ⟨(c.ws.getD q wr0).2.toArray⟩ := ⟨_, rfl⟩
                rw [← hs] at z1
                rw [← ht] at z2
                have HZ := Lib.hid (show s.size = (c.ws.getD q wr0).1.length by rw [hs, size_mk])
                have HU := Lib.hid (show t.size = (c.ws.getD q wr0).2.length by rw [ht, size_mk])
                clear hy hs ht
                by_cases hbig : 100 < s.size
                · go_wp2
                  go_ret
                  exact ⟨ret_bool (NO.out (M.mod_both hql (HQ.out.trans (by rw [decide_eq_false (by have := HZ.out; omega)]; rfl)))), BN.out⟩
                · by_cases hbig2 : 100 < t.size
                  · go_wp2
                    go_ret
                    exact ⟨ret_bool (NO.out (M.mod_both hql (HQ.out.trans (by rw [decide_eq_false (show ¬ (c.ws.getD q wr0).2.length ≤ 100 by have := HU.out; omega), Bool.and_false])))), BN.out⟩
                  · go_wp2
                    go_round
                    case rel => exact ⟨q + 1, by omega, by go_num, by omega, M.all_step (z := wr0) hql HT.out (HQ.out.trans (by rw [decide_eq_true (by have := HZ.out; omega), decide_eq_true (by have := HU.out; omega)]; rfl))⟩
                    case measure => simp [intOf]; omega
              · have hd2 : (q < c.ws.length ∧ ¬ q ≤ 20) ∨ ¬ q < c.ws.length := by omega
                have HIN2 := Lib.hid hin
                clear hin
                rcases hd2 with ⟨hql, hq20⟩ | hql
                all_goals
                  by_cases g1 : c.rs.length ≤ 20
                  · by_cases g2 : c.ws.length ≤ 20
                    · first
                        | (exfalso; omega)
                        | (go_wp2
                           go_roundw
                           case rel => exact ⟨k + 1, by omega, by go_num, BN.out, YES.out (M.mod_yes g1 g2 HS.out HIN.out HT.out HIN2.out)⟩
                           case measure => simp [intOf]; omega)
                    · first
                        | (exfalso; omega)
                        | (go_wp2
                           go_ret
                           exact ⟨ret_bool (NO.out (M.mod_long' g2)), BN.out⟩)
                  · go_wp2
                    go_ret
                    exact ⟨ret_bool (NO.out (M.mod_long g1)), BN.out⟩
    · go_wp2
      go_ret
      refine ⟨ret_bool (Eq.symm ?_), BW.out⟩
      rw [List.all_eq_true]
      exact fun j hj => HA.out j (by have := List.mem_range.1 hj; omega)
end Go.Proofs.YtpknkhgkejkpkaaGreat

namespace Go.Proofs.YtpknkhgkejkpkaaGreat
open Go.ChangeShapes Go.WideShapes Go.ChangeAt Go.RowKit
attribute [local go_sem ↓] run_same_rd run_same_wr run_same_txn run_same_stamp
theorem eqN {n m : Nat} (h : n = m) : ((n : Int) == (m : Int)) = true ∧ ((n : Int) != (m : Int)) = false ∧ (n == m) = true ∧ (n != m) = false := by subst h; simp
theorem neN {n m : Nat} (h : ¬ n = m) : ((n : Int) == (m : Int)) = false ∧ ((n : Int) != (m : Int)) = true ∧ (n == m) = false ∧ (n != m) = true := by
  have q1 : ((n : Int) == (m : Int)) = false := by rw [beq_eq_false_iff_ne]; omega
  have q3 : (n == m) = false := by rw [beq_eq_false_iff_ne]; exact h
  exact ⟨q1, by rw [bne, q1]; rfl, q3, by rw [bne, q3]; rfl⟩
theorem eqB {x y : Bool} (h : (x == y) = true) : (x != y) = false := by rw [bne, h]; rfl
theorem neB {x y : Bool} (h : (x == y) = false) : (x != y) = true := by rw [bne, h]; rfl
namespace M
theorem sameR_len {l m : List (List UInt8 × Int × Int)} (h : ¬ l.length = m.length) : sameR l m = false := decide_eq_false (eq_len h)
theorem sameW_len {l m : List (List UInt8 × List UInt8)} (h : ¬ l.length = m.length) : sameW l m = false := decide_eq_false (eq_len h)
end M

set_option maxHeartbeats 8000000 in
set_option maxRecDepth 100000 in
theorem dsame_cmd {w : World} (a b : M.Cmd) {va vb ua ub : Value} (h : Rds w va a.rs) (h' : Wrs w vb a.ws) (g : Rds w ua b.rs) (g' : Wrs w ub b.ws) (hl : a.rs.length ≤ 1000) (hl' : a.ws.length ≤ 1000) : Calls Tryz.prog 33 #[.agg #[.int .i64 a.k, .int .i64 a.tc, .int .i64 a.tn, .int .i64 a.tt, .int .i64 a.tk, .int .i64 a.sh, va, vb, .bool a.cm], .agg #[.int .i64 b.k, .int .i64 b.tc, .int .i64 b.tn, .int .i64 b.tt, .int .i64 b.tk, .int .i64 b.sh, ua, ub, .bool b.cm]] w fun e w' => e = .returned (.bool (M.sameC a b)) ∧ Below w.heap.size w w' := by
  have X0 := Lib.hid ((Box.new w a va vb).push (.cells #[.int .i64 b.k, .int .i64 b.tc, .int .i64 b.tn, .int .i64 b.tt, .int .i64 b.tk, .int .i64 b.sh, ua, ub, .bool b.cm] 30))
  have Y0 := Lib.hid (Box.new1 w (.cells #[.int .i64 a.k, .int .i64 a.tc, .int .i64 a.tn, .int .i64 a.tt, .int .i64 a.tk, .int .i64 a.sh, va, vb, .bool a.cm] 30) b ua ub)
  have R0 := Lib.hid ((h.push (.cells #[.int .i64 a.k, .int .i64 a.tc, .int .i64 a.tn, .int .i64 a.tt, .int .i64 a.tk, .int .i64 a.sh, va, vb, .bool a.cm] 30)).push (.cells #[.int .i64 b.k, .int .i64 b.tc, .int .i64 b.tn, .int .i64 b.tt, .int .i64 b.tk, .int .i64 b.sh, ua, ub, .bool b.cm] 30))
  have W0 := Lib.hid ((h'.push (.cells #[.int .i64 a.k, .int .i64 a.tc, .int .i64 a.tn, .int .i64 a.tt, .int .i64 a.tk, .int .i64 a.sh, va, vb, .bool a.cm] 30)).push (.cells #[.int .i64 b.k, .int .i64 b.tc, .int .i64 b.tn, .int .i64 b.tt, .int .i64 b.tk, .int .i64 b.sh, ua, ub, .bool b.cm] 30))
  have S0 := Lib.hid ((g.push (.cells #[.int .i64 a.k, .int .i64 a.tc, .int .i64 a.tn, .int .i64 a.tt, .int .i64 a.tk, .int .i64 a.sh, va, vb, .bool a.cm] 30)).push (.cells #[.int .i64 b.k, .int .i64 b.tc, .int .i64 b.tn, .int .i64 b.tt, .int .i64 b.tk, .int .i64 b.sh, ua, ub, .bool b.cm] 30))
  have V0 := Lib.hid ((g'.push (.cells #[.int .i64 a.k, .int .i64 a.tc, .int .i64 a.tn, .int .i64 a.tt, .int .i64 a.tk, .int .i64 a.sh, va, vb, .bool a.cm] 30)).push (.cells #[.int .i64 b.k, .int .i64 b.tc, .int .i64 b.tn, .int .i64 b.tt, .int .i64 b.tk, .int .i64 b.sh, ua, ub, .bool b.cm] 30))
  have B0 := Lib.hid (below_new (o := .cells #[.int .i64 b.k, .int .i64 b.tc, .int .i64 b.tn, .int .i64 b.tt, .int .i64 b.tk, .int .i64 b.sh, ua, ub, .bool b.cm] 30) (below_new (o := .cells #[.int .i64 a.k, .int .i64 a.tc, .int .i64 a.tn, .int .i64 a.tt, .int .i64 a.tk, .int .i64 a.sh, va, vb, .bool a.cm] 30) (Below.refl w.heap.size w)))
  obtain ⟨A1, c1, rfl, g1, -⟩ := h.opened
  obtain ⟨A2, c2, rfl, g2, -⟩ := h'.opened
  obtain ⟨A3, c3, rfl, g3, -⟩ := g.opened
  obtain ⟨A4, c4, rfl, g4, -⟩ := g'.opened
  clear h h' g g'
  by_cases e0 : a.k = b.k
  · obtain ⟨q0a, q0b⟩ := eqI e0
    rcases two (M.eq2 a.tc a.tn b.tc b.tn) with e1 | e1
    · rcases two (M.eq2 a.tt a.tk b.tt b.tk) with e2 | e2
      · by_cases e3 : a.sh = b.sh
        · obtain ⟨q3a, q3b⟩ := eqI e3
          rcases two (a.cm == b.cm) with e4 | e4
          · have q4 := eqB e4
            by_cases e5 : a.rs.length = b.rs.length
            · obtain ⟨q5a, q5b, q5c, q5d⟩ := eqN e5
              by_cases e6 : a.ws.length = b.ws.length
              · obtain ⟨q6a, q6b, q6c, q6d⟩ := eqN e6
                have HE := Lib.hid (show M.sameC a b = (M.sameR a.rs b.rs && M.sameW a.ws b.ws) by unfold M.sameC; rw [decide_eq_true e0, e1, e2, decide_eq_true e3, e4]; rfl)
                have N1 := Lib.hid e5
                have N2 := Lib.hid e6
                clear e0 e3 e5 e6
                go_enter Tryz.func33, Tryz.ntmps33
                go_wp2
                generalize ((w.alloc (.cells #[.int .i64 a.k, .int .i64 a.tc, .int .i64 a.tn, .int .i64 a.tt, .int .i64 a.tk, .int .i64 a.sh, .slice A1 a.rs.length c1, .slice A2 a.ws.length c2, .bool a.cm] 30)).alloc (.cells #[.int .i64 b.k, .int .i64 b.tc, .int .i64 b.tn, .int .i64 b.tt, .int .i64 b.tk, .int .i64 b.sh, .slice A3 b.rs.length c3, .slice A4 b.ws.length c4, .bool b.cm] 30)) = w0 at *
                obtain ⟨l0, p0, p1, p2, p3, p4, p5, p6, p7, p8⟩ := X0.out
                obtain ⟨l1, r0, r1, r2, r3, r4, r5, r6, r7, r8⟩ := Y0.out
                go_loopw [5] (fun i wr => ∃ k n : Nat, k ≤ a.rs.length ∧ i = .int .i64 k ∧ wr = w0.drewN n ∧ a.rs.take k = b.rs.take k) (fun i _ => a.rs.length - (intOf i).toNat)
                case atStart => exact ⟨0, 0, Nat.zero_le _, rfl, rfl, rfl⟩
                case round =>
                  obtain ⟨k, n, hk, rfl, rfl, htk⟩ := hrel
                  have HS := Lib.hid htk
                  clear htk
                  by_cases hlt : k < a.rs.length
                  · obtain ⟨A1x, c1x, ea, -, hx⟩ := R0.out.opened
                    obtain ⟨A3x, c3x, eb, -, hx2⟩ := S0.out.opened
                    simp only [Value.slice.injEq, true_and] at ea eb
                    obtain ⟨rfl, rfl⟩ := ea
                    obtain ⟨rfl, rfl⟩ := eb
                    have hlt2 : k < b.rs.length := by have := N1.out; omega
                    obtain ⟨bx, o, rfl, hb, hy⟩ := hx (by omega)
                    obtain ⟨by2, o2, rfl, hb2, hy2⟩ := hx2 (by omega)
                    obtain ⟨z1, z2, z3⟩ := hy k hlt
                    obtain ⟨y1, y2, y3⟩ := hy2 k hlt2
                    have HQ := Lib.hid (M.eqRd_iff (p := a.rs.getD k rd0) (q := b.rs.getD k rd0))
                    clear hy hy2 hx hx2
                    generalize (a.rs.getD k rd0).1 = p_0 at *
                    generalize (a.rs.getD k rd0).2.1 = p_1 at *
                    generalize (a.rs.getD k rd0).2.2 = p_2 at *
                    generalize (b.rs.getD k rd0).1 = q_0 at *
                    generalize (b.rs.getD k rd0).2.1 = q_1 at *
                    generalize (b.rs.getD k rd0).2.2 = q_2 at *
                    have hi1 : (k : Int) < (a.rs.length : Int) := by omega
                    have hi2 : (k : Int) < (b.rs.length : Int) := by omega
                    rcases two (M.eqRd p_0 p_1 p_2 q_0 q_1 q_2) with e | e
                    · go_wp2
                      go_quiet (fail)
                      go_wp2
                      go_roundw
                      case rel => exact ⟨k + 1, _, by omega, by go_num, rfl, M.eq_take rd0 hlt N1.out HS.out (HQ.out.1 e)⟩
                      case measure => simp [intOf]; omega
                    · have HF := Lib.hid (show false = M.sameC a b by rw [HE.out, show M.sameR a.rs b.rs = false from decide_eq_false (M.eq_not rd0 (fun q => by rw [HQ.out.2 q] at e; cases e))]; rfl)
                      go_wp2
                      go_quiet (fail)
                      go_wp2
                      go_ret
                      exact ⟨ret_bool HF.out, below_drewN (below_drewN B0.out _) _⟩
                  · have HR := Lib.hid (M.eq_end hlt N1.out HS.out)
                    go_wp2
                    go_loopw [6] (fun i wr => ∃ k n : Nat, k ≤ a.ws.length ∧ i = .int .i64 k ∧ wr = w0.drewN n ∧ a.ws.take k = b.ws.take k) (fun i _ => a.ws.length - (intOf i).toNat)
                    case atStart => exact ⟨0, n, Nat.zero_le _, rfl, rfl, rfl⟩
                    case round =>
                      obtain ⟨j, n2, hj, rfl, rfl, htj⟩ := hrel
                      have HT := Lib.hid htj
                      clear htj
                      by_cases hlt3 : j < a.ws.length
                      · obtain ⟨A1x, c1x, ea, -, hx⟩ := W0.out.opened
                        obtain ⟨A3x, c3x, eb, -, hx2⟩ := V0.out.opened
                        simp only [Value.slice.injEq, true_and] at ea eb
                        obtain ⟨rfl, rfl⟩ := ea
                        obtain ⟨rfl, rfl⟩ := eb
                        have hlt2 : j < b.ws.length := by have := N2.out; omega
                        obtain ⟨bx, o, rfl, hb, hy⟩ := hx (by omega)
                        obtain ⟨by2, o2, rfl, hb2, hy2⟩ := hx2 (by omega)
                        obtain ⟨z1, z2⟩ := hy j hlt3
                        obtain ⟨y1, y2⟩ := hy2 j hlt2
                        have HQ := Lib.hid (M.eqWr_iff (p := a.ws.getD j wr0) (q := b.ws.getD j wr0))
                        clear hy hy2 hx hx2
                        generalize (a.ws.getD j wr0).1 = p_0 at *
                        generalize (a.ws.getD j wr0).2 = p_1 at *
                        generalize (b.ws.getD j wr0).1 = q_0 at *
                        generalize (b.ws.getD j wr0).2 = q_1 at *
                        have hi1 : (j : Int) < (a.ws.length : Int) := by omega
                        have hi2 : (j : Int) < (b.ws.length : Int) := by omega
                        rcases two (M.eqWr p_0 p_1 q_0 q_1) with e | e
                        · go_wp2
                          go_quiet (fail)
                          go_wp2
                          go_roundw
                          case rel => exact ⟨j + 1, _, by omega, by go_num, rfl, M.eq_take wr0 hlt3 N2.out HT.out (HQ.out.1 e)⟩
                          case measure => simp [intOf]; omega
                        · have HF := Lib.hid (show false = M.sameC a b by rw [HE.out, show M.sameW a.ws b.ws = false from decide_eq_false (M.eq_not wr0 (fun q => by rw [HQ.out.2 q] at e; cases e)), Bool.and_false])
                          go_wp2
                          go_quiet (fail)
                          go_wp2
                          go_ret
                          exact ⟨ret_bool HF.out, below_drewN (below_drewN B0.out _) _⟩
                      · have HF := Lib.hid (show true = M.sameC a b by rw [HE.out, show M.sameR a.rs b.rs = true from decide_eq_true HR.out, show M.sameW a.ws b.ws = true from decide_eq_true (M.eq_end hlt3 N2.out HT.out)]; rfl)
                        go_wp2
                        go_ret
                        exact ⟨ret_bool HF.out, below_drewN B0.out _⟩
              · obtain ⟨q6a, q6b, q6c, q6d⟩ := neN e6
                have HE := Lib.hid (show M.sameC a b = false by unfold M.sameC; rw [M.sameW_len e6]; simp)
                clear e0 e3 e5 e6
                go_enter Tryz.func33, Tryz.ntmps33
                go_wp2
                go_ret
                exact ⟨ret_bool HE.out.symm, B0.out⟩
            · obtain ⟨q5a, q5b, q5c, q5d⟩ := neN e5
              have HE := Lib.hid (show M.sameC a b = false by unfold M.sameC; rw [M.sameR_len e5]; simp)
              clear e0 e3 e5
              go_enter Tryz.func33, Tryz.ntmps33
              go_wp2
              go_ret
              exact ⟨ret_bool HE.out.symm, B0.out⟩
          · have q4 := neB e4
            have HE := Lib.hid (show M.sameC a b = false by unfold M.sameC; rw [decide_eq_true e0, e1, e2, decide_eq_true e3, e4]; rfl)
            clear e0 e3
            go_enter Tryz.func33, Tryz.ntmps33
            go_wp2
            go_ret
            exact ⟨ret_bool HE.out.symm, B0.out⟩
        · obtain ⟨q3a, q3b⟩ := neI e3
          have HE := Lib.hid (show M.sameC a b = false by unfold M.sameC; rw [decide_eq_true e0, e1, e2, decide_eq_false e3]; rfl)
          clear e0 e3
          go_enter Tryz.func33, Tryz.ntmps33
          go_wp2
          go_ret
          exact ⟨ret_bool HE.out.symm, B0.out⟩
      · have HE := Lib.hid (show M.sameC a b = false by unfold M.sameC; rw [decide_eq_true e0, e1, e2]; rfl)
        clear e0
        go_enter Tryz.func33, Tryz.ntmps33
        go_wp2
        go_ret
        exact ⟨ret_bool HE.out.symm, B0.out⟩
    · have HE := Lib.hid (show M.sameC a b = false by unfold M.sameC; rw [decide_eq_true e0, e1]; rfl)
      clear e0
      go_enter Tryz.func33, Tryz.ntmps33
      go_wp2
      go_ret
      exact ⟨ret_bool HE.out.symm, B0.out⟩
  · obtain ⟨q0a, q0b⟩ := neI e0
    have HE := Lib.hid (show M.sameC a b = false by unfold M.sameC; rw [decide_eq_false e0]; rfl)
    clear e0
    go_enter Tryz.func33, Tryz.ntmps33
    go_wp2
    go_ret
    exact ⟨ret_bool HE.out.symm, B0.out⟩
end Go.Proofs.YtpknkhgkejkpkaaGreat

namespace Go.Proofs.YtpknkhgkejkpkaaGreat
open Go.ChangeShapes Go.WideShapes Go.ChangeAt Go.RowKit
attribute [local go_sem ↓] run_same_rd run_same_wr run_same_txn run_same_stamp
set_option maxHeartbeats 1000000 in
theorem dbefore_any (a b c d : Int) (w : World) : Calls Tryz.prog 61 #[.agg #[.int .i64 a, .int .i64 b], .agg #[.int .i64 c, .int .i64 d]] w fun e w' => e = .returned (.bool (decide (M.ord a b c d < 0))) ∧ Below w.heap.size w w' := by
  go_enter Tryz.func61, Tryz.ntmps61
  go_wp2_with (go_at_call 42; refine (order_any _ _ _ _ _).mono ?_; rintro e w' ⟨rfl, rfl⟩)
  go_ret
  exact ⟨rfl, below_new (below_new (Below.refl _ _))⟩

set_option maxHeartbeats 4000000 in
set_option maxRecDepth 100000 in
theorem dright_noop {w : World} (c : M.Cmd) {va vb : Value} (h : Rds w va c.rs) (h' : Wrs w vb c.ws) (hk : c.k = 0) : Calls Tryz.prog 30 #[.agg #[.int .i64 c.k, .int .i64 c.tc, .int .i64 c.tn, .int .i64 c.tt, .int .i64 c.tk, .int .i64 c.sh, va, vb, .bool c.cm]] w fun e w' => e = .returned (.bool (M.rightC c)) ∧ Below w.heap.size w w' := by
  have B0 := Lib.hid (below_new (o := .cells #[.int .i64 c.k, .int .i64 c.tc, .int .i64 c.tn, .int .i64 c.tt, .int .i64 c.tk, .int .i64 c.sh, va, vb, .bool c.cm] 30) (Below.refl w.heap.size w))
  obtain ⟨A1, c1, rfl, g1, -⟩ := h.opened
  obtain ⟨A2, c2, rfl, g2, -⟩ := h'.opened
  clear h h'
  have HR := Lib.hid (show M.rightC c = M.sameC c M.zero by unfold M.rightC; rw [if_pos hk])
  obtain ⟨q0, q0'⟩ := eqI hk
  have HS := Lib.hid (show M.sameC c M.zero = (M.eq2 c.tc c.tn 0 0 && (M.eq2 c.tt c.tk 0 0 && (decide (c.sh = 0) && ((c.cm == false) && (M.sameR c.rs [] && M.sameW c.ws []))))) by unfold M.sameC; rw [show decide (c.k = M.zero.k) = true from decide_eq_true hk]; rfl)
  clear hk
  rcases two (M.eq2 c.tc c.tn 0 0) with e0 | e0
  · rcases two (M.eq2 c.tt c.tk 0 0) with e1 | e1
    · by_cases e2 : c.sh = 0
      · obtain ⟨q2a, q2b⟩ := eqI e2
        by_cases e3 : c.rs.length = 0
        · obtain ⟨q3a, q3b⟩ := zz e3
          have s3 : M.sameR c.rs [] = true := decide_eq_true (List.length_eq_zero_iff.1 e3)
          by_cases e4 : c.ws.length = 0
          · obtain ⟨q4a, q4b⟩ := zz e4
            have s4 : M.sameW c.ws [] = true := decide_eq_true (List.length_eq_zero_iff.1 e4)
            have HE := Lib.hid (show M.rightC c = !c.cm by rw [HR.out, HS.out, e0, e1, decide_eq_true e2, s3, s4]; cases c.cm <;> rfl)
            clear e2 e3 e4 s3 s4
            go_enter Tryz.func30, Tryz.ntmps30
            go_wp2
            go_ret
            exact ⟨ret_bool HE.out.symm, B0.out⟩
          · obtain ⟨q4a, q4b⟩ := nz e4
            have s4 : M.sameW c.ws [] = false := decide_eq_false (fun e => e4 (by rw [e]; rfl))
            have HE := Lib.hid (show M.rightC c = false by rw [HR.out, HS.out, e0, e1, decide_eq_true e2, s3, s4]; simp)
            clear e2 e3 s3 e4 s4
            go_enter Tryz.func30, Tryz.ntmps30
            go_wp2
            go_ret
            exact ⟨ret_bool HE.out.symm, B0.out⟩
        · obtain ⟨q3a, q3b⟩ := nz e3
          have s3 : M.sameR c.rs [] = false := decide_eq_false (fun e => e3 (by rw [e]; rfl))
          have HE := Lib.hid (show M.rightC c = false by rw [HR.out, HS.out, e0, e1, decide_eq_true e2, s3]; simp)
          clear e2 e3 s3
          go_enter Tryz.func30, Tryz.ntmps30
          go_wp2
          go_ret
          exact ⟨ret_bool HE.out.symm, B0.out⟩
      · obtain ⟨q2a, q2b⟩ := neI e2
        have HE := Lib.hid (show M.rightC c = false by rw [HR.out, HS.out, e0, e1, decide_eq_false e2]; simp)
        clear e2
        go_enter Tryz.func30, Tryz.ntmps30
        go_wp2
        go_ret
        exact ⟨ret_bool HE.out.symm, B0.out⟩
    · have HE := Lib.hid (show M.rightC c = false by rw [HR.out, HS.out, e0, e1]; simp)
      go_enter Tryz.func30, Tryz.ntmps30
      go_wp2
      go_ret
      exact ⟨ret_bool HE.out.symm, B0.out⟩
  · have HE := Lib.hid (show M.rightC c = false by rw [HR.out, HS.out, e0]; simp)
    go_enter Tryz.func30, Tryz.ntmps30
    go_wp2
    go_ret
    exact ⟨ret_bool HE.out.symm, B0.out⟩
end Go.Proofs.YtpknkhgkejkpkaaGreat

namespace Go.Proofs.YtpknkhgkejkpkaaGreat
open Go.ChangeShapes Go.WideShapes Go.ChangeAt Go.RowKit

theorem run_same_inst (w : World) (t c a d : Int) : (Op.equalIn 10000 32 (.agg #[.int .i64 t, .int .i64 c]) (.agg #[.int .i64 a, .int .i64 d])).run Tryz.prog w = .ok (M.eq2 t c a d) w := by
  unfold M.eq2
  by_cases h2 : t = a <;> by_cases h3 : c = d <;> go_simp
theorem run_same_ballot (w : World) (t c a d : Int) : (Op.equalIn 10000 37 (.agg #[.int .i64 t, .int .i64 c]) (.agg #[.int .i64 a, .int .i64 d])).run Tryz.prog w = .ok (M.eq2 t c a d) w := by
  unfold M.eq2
  by_cases h2 : t = a <;> by_cases h3 : c = d <;> go_simp
attribute [local go_sem ↓] run_same7 run_same_inst run_same_ballot
namespace M
def sameRec (a b : Rec) : Bool := eq2 a.ir a.is b.ir b.is && (decide (a.st = b.st) && (eq2 a.pn a.pr b.pn b.pr && (eq2 a.bn a.br b.bn b.br && (sameC a.c b.c && (decide (a.sq = b.sq) && (V7.same7 a.d0 a.d1 a.d2 a.d3 a.d4 a.d5 a.d6 b.d0 b.d1 b.d2 b.d3 b.d4 b.d5 b.d6 && (a.kp == b.kp)))))))
def sameMsg (a b : Msg) : Bool := decide (a.k = b.k) && (decide (a.fr = b.fr) && (decide (a.to = b.to) && (eq2 a.bn a.br b.bn b.br && sameRec a.r b.r)))
end M

set_option maxHeartbeats 4000000 in
set_option maxRecDepth 100000 in
theorem same_rec {w : World} (a b : M.Rec) {va vb ua ub : Value} (h : Rds w va a.c.rs) (h' : Wrs w vb a.c.ws) (g : Rds w ua b.c.rs) (g' : Wrs w ub b.c.ws) (hl : a.c.rs.length ≤ 1000) (hl' : a.c.ws.length ≤ 1000) :
    Calls Tryz.prog 75 #[.agg #[.int .i64 a.ir, .int .i64 a.is, .int .i64 a.st, .int .i64 a.pn, .int .i64 a.pr, .int .i64 a.bn, .int .i64 a.br, .int .i64 a.c.k, .int .i64 a.c.tc, .int .i64 a.c.tn, .int .i64 a.c.tt, .int .i64 a.c.tk, .int .i64 a.c.sh, va, vb, .bool a.c.cm, .int .i64 a.sq, .int .i64 a.d0, .int .i64 a.d1, .int .i64 a.d2, .int .i64 a.d3, .int .i64 a.d4, .int .i64 a.d5, .int .i64 a.d6, .bool a.kp], .agg #[.int .i64 b.ir, .int .i64 b.is, .int .i64 b.st, .int .i64 b.pn, .int .i64 b.pr, .int .i64 b.bn, .int .i64 b.br, .int .i64 b.c.k, .int .i64 b.c.tc, .int .i64 b.c.tn, .int .i64 b.c.tt, .int .i64 b.c.tk, .int .i64 b.c.sh, ua, ub, .bool b.c.cm, .int .i64 b.sq, .int .i64 b.d0, .int .i64 b.d1, .int .i64 b.d2, .int .i64 b.d3, .int .i64 b.d4, .int .i64 b.d5, .int .i64 b.d6, .bool b.kp]] w fun e w' => e = .returned (.bool (M.sameRec a b)) ∧ Below w.heap.size w w' := by
  have X0 := Lib.hid ((Cel.new w [.int .i64 a.ir, .int .i64 a.is, .int .i64 a.st, .int .i64 a.pn, .int .i64 a.pr, .int .i64 a.bn, .int .i64 a.br, .int .i64 a.c.k, .int .i64 a.c.tc, .int .i64 a.c.tn, .int .i64 a.c.tt, .int .i64 a.c.tk, .int .i64 a.c.sh, va, vb, .bool a.c.cm, .int .i64 a.sq, .int .i64 a.d0, .int .i64 a.d1, .int .i64 a.d2, .int .i64 a.d3, .int .i64 a.d4, .int .i64 a.d5, .int .i64 a.d6, .bool a.kp] 41).push (.cells #[.int .i64 b.ir, .int .i64 b.is, .int .i64 b.st, .int .i64 b.pn, .int .i64 b.pr, .int .i64 b.bn, .int .i64 b.br, .int .i64 b.c.k, .int .i64 b.c.tc, .int .i64 b.c.tn, .int .i64 b.c.tt, .int .i64 b.c.tk, .int .i64 b.c.sh, ua, ub, .bool b.c.cm, .int .i64 b.sq, .int .i64 b.d0, .int .i64 b.d1, .int .i64 b.d2, .int .i64 b.d3, .int .i64 b.d4, .int .i64 b.d5, .int .i64 b.d6, .bool b.kp] 41))
  have Y0 := Lib.hid (Cel.new1 w (.cells #[.int .i64 a.ir, .int .i64 a.is, .int .i64 a.st, .int .i64 a.pn, .int .i64 a.pr, .int .i64 a.bn, .int .i64 a.br, .int .i64 a.c.k, .int .i64 a.c.tc, .int .i64 a.c.tn, .int .i64 a.c.tt, .int .i64 a.c.tk, .int .i64 a.c.sh, va, vb, .bool a.c.cm, .int .i64 a.sq, .int .i64 a.d0, .int .i64 a.d1, .int .i64 a.d2, .int .i64 a.d3, .int .i64 a.d4, .int .i64 a.d5, .int .i64 a.d6, .bool a.kp] 41) [.int .i64 b.ir, .int .i64 b.is, .int .i64 b.st, .int .i64 b.pn, .int .i64 b.pr, .int .i64 b.bn, .int .i64 b.br, .int .i64 b.c.k, .int .i64 b.c.tc, .int .i64 b.c.tn, .int .i64 b.c.tt, .int .i64 b.c.tk, .int .i64 b.c.sh, ua, ub, .bool b.c.cm, .int .i64 b.sq, .int .i64 b.d0, .int .i64 b.d1, .int .i64 b.d2, .int .i64 b.d3, .int .i64 b.d4, .int .i64 b.d5, .int .i64 b.d6, .bool b.kp] 41)
  have R0 := Lib.hid ((h.push (.cells #[.int .i64 a.ir, .int .i64 a.is, .int .i64 a.st, .int .i64 a.pn, .int .i64 a.pr, .int .i64 a.bn, .int .i64 a.br, .int .i64 a.c.k, .int .i64 a.c.tc, .int .i64 a.c.tn, .int .i64 a.c.tt, .int .i64 a.c.tk, .int .i64 a.c.sh, va, vb, .bool a.c.cm, .int .i64 a.sq, .int .i64 a.d0, .int .i64 a.d1, .int .i64 a.d2, .int .i64 a.d3, .int .i64 a.d4, .int .i64 a.d5, .int .i64 a.d6, .bool a.kp] 41)).push (.cells #[.int .i64 b.ir, .int .i64 b.is, .int .i64 b.st, .int .i64 b.pn, .int .i64 b.pr, .int .i64 b.bn, .int .i64 b.br, .int .i64 b.c.k, .int .i64 b.c.tc, .int .i64 b.c.tn, .int .i64 b.c.tt, .int .i64 b.c.tk, .int .i64 b.c.sh, ua, ub, .bool b.c.cm, .int .i64 b.sq, .int .i64 b.d0, .int .i64 b.d1, .int .i64 b.d2, .int .i64 b.d3, .int .i64 b.d4, .int .i64 b.d5, .int .i64 b.d6, .bool b.kp] 41))
  have W0 := Lib.hid ((h'.push (.cells #[.int .i64 a.ir, .int .i64 a.is, .int .i64 a.st, .int .i64 a.pn, .int .i64 a.pr, .int .i64 a.bn, .int .i64 a.br, .int .i64 a.c.k, .int .i64 a.c.tc, .int .i64 a.c.tn, .int .i64 a.c.tt, .int .i64 a.c.tk, .int .i64 a.c.sh, va, vb, .bool a.c.cm, .int .i64 a.sq, .int .i64 a.d0, .int .i64 a.d1, .int .i64 a.d2, .int .i64 a.d3, .int .i64 a.d4, .int .i64 a.d5, .int .i64 a.d6, .bool a.kp] 41)).push (.cells #[.int .i64 b.ir, .int .i64 b.is, .int .i64 b.st, .int .i64 b.pn, .int .i64 b.pr, .int .i64 b.bn, .int .i64 b.br, .int .i64 b.c.k, .int .i64 b.c.tc, .int .i64 b.c.tn, .int .i64 b.c.tt, .int .i64 b.c.tk, .int .i64 b.c.sh, ua, ub, .bool b.c.cm, .int .i64 b.sq, .int .i64 b.d0, .int .i64 b.d1, .int .i64 b.d2, .int .i64 b.d3, .int .i64 b.d4, .int .i64 b.d5, .int .i64 b.d6, .bool b.kp] 41))
  have S0 := Lib.hid ((g.push (.cells #[.int .i64 a.ir, .int .i64 a.is, .int .i64 a.st, .int .i64 a.pn, .int .i64 a.pr, .int .i64 a.bn, .int .i64 a.br, .int .i64 a.c.k, .int .i64 a.c.tc, .int .i64 a.c.tn, .int .i64 a.c.tt, .int .i64 a.c.tk, .int .i64 a.c.sh, va, vb, .bool a.c.cm, .int .i64 a.sq, .int .i64 a.d0, .int .i64 a.d1, .int .i64 a.d2, .int .i64 a.d3, .int .i64 a.d4, .int .i64 a.d5, .int .i64 a.d6, .bool a.kp] 41)).push (.cells #[.int .i64 b.ir, .int .i64 b.is, .int .i64 b.st, .int .i64 b.pn, .int .i64 b.pr, .int .i64 b.bn, .int .i64 b.br, .int .i64 b.c.k, .int .i64 b.c.tc, .int .i64 b.c.tn, .int .i64 b.c.tt, .int .i64 b.c.tk, .int .i64 b.c.sh, ua, ub, .bool b.c.cm, .int .i64 b.sq, .int .i64 b.d0, .int .i64 b.d1, .int .i64 b.d2, .int .i64 b.d3, .int .i64 b.d4, .int .i64 b.d5, .int .i64 b.d6, .bool b.kp] 41))
  have V0 := Lib.hid ((g'.push (.cells #[.int .i64 a.ir, .int .i64 a.is, .int .i64 a.st, .int .i64 a.pn, .int .i64 a.pr, .int .i64 a.bn, .int .i64 a.br, .int .i64 a.c.k, .int .i64 a.c.tc, .int .i64 a.c.tn, .int .i64 a.c.tt, .int .i64 a.c.tk, .int .i64 a.c.sh, va, vb, .bool a.c.cm, .int .i64 a.sq, .int .i64 a.d0, .int .i64 a.d1, .int .i64 a.d2, .int .i64 a.d3, .int .i64 a.d4, .int .i64 a.d5, .int .i64 a.d6, .bool a.kp] 41)).push (.cells #[.int .i64 b.ir, .int .i64 b.is, .int .i64 b.st, .int .i64 b.pn, .int .i64 b.pr, .int .i64 b.bn, .int .i64 b.br, .int .i64 b.c.k, .int .i64 b.c.tc, .int .i64 b.c.tn, .int .i64 b.c.tt, .int .i64 b.c.tk, .int .i64 b.c.sh, ua, ub, .bool b.c.cm, .int .i64 b.sq, .int .i64 b.d0, .int .i64 b.d1, .int .i64 b.d2, .int .i64 b.d3, .int .i64 b.d4, .int .i64 b.d5, .int .i64 b.d6, .bool b.kp] 41))
  have B0 := Lib.hid (below_new (o := .cells #[.int .i64 b.ir, .int .i64 b.is, .int .i64 b.st, .int .i64 b.pn, .int .i64 b.pr, .int .i64 b.bn, .int .i64 b.br, .int .i64 b.c.k, .int .i64 b.c.tc, .int .i64 b.c.tn, .int .i64 b.c.tt, .int .i64 b.c.tk, .int .i64 b.c.sh, ua, ub, .bool b.c.cm, .int .i64 b.sq, .int .i64 b.d0, .int .i64 b.d1, .int .i64 b.d2, .int .i64 b.d3, .int .i64 b.d4, .int .i64 b.d5, .int .i64 b.d6, .bool b.kp] 41) (below_new (o := .cells #[.int .i64 a.ir, .int .i64 a.is, .int .i64 a.st, .int .i64 a.pn, .int .i64 a.pr, .int .i64 a.bn, .int .i64 a.br, .int .i64 a.c.k, .int .i64 a.c.tc, .int .i64 a.c.tn, .int .i64 a.c.tt, .int .i64 a.c.tk, .int .i64 a.c.sh, va, vb, .bool a.c.cm, .int .i64 a.sq, .int .i64 a.d0, .int .i64 a.d1, .int .i64 a.d2, .int .i64 a.d3, .int .i64 a.d4, .int .i64 a.d5, .int .i64 a.d6, .bool a.kp] 41) (Below.refl w.heap.size w)))
  clear h h' g g'
  rcases two (M.eq2 a.ir a.is b.ir b.is) with e0 | e0
  · skip
    by_cases e1 : a.st = b.st
    · obtain ⟨q1a, q1b⟩ := eqI e1
      rcases two (M.eq2 a.pn a.pr b.pn b.pr) with e2 | e2
      · skip
        rcases two (M.eq2 a.bn a.br b.bn b.br) with e3 | e3
        · skip
          rcases two (M.sameC a.c b.c) with e4 | e4
          · skip
            by_cases e5 : a.sq = b.sq
            · obtain ⟨q5a, q5b⟩ := eqI e5
              rcases two (V7.same7 a.d0 a.d1 a.d2 a.d3 a.d4 a.d5 a.d6 b.d0 b.d1 b.d2 b.d3 b.d4 b.d5 b.d6) with e6 | e6
              · skip
                have HE := Lib.hid (show M.sameRec a b = (a.kp == b.kp) by simp [M.sameRec, e0, e1, e2, e3, e4, e5, e6])
                clear e1 e5
                go_enter Tryz.func75, Tryz.ntmps75
                go_wp2_with (fail)
                refine (same_cmd a.c b.c R0.out W0.out S0.out V0.out hl hl').mono ?_
                rintro e w1 ⟨rfl, hb⟩
                have B1 := Lib.hid (below_on B0.out hb)
                have X1 := Lib.hid (X0.out.on hb)
                have Y1 := Lib.hid (Y0.out.on hb)
                have R1 := Lib.hid (R0.out.below hb)
                have W1 := Lib.hid (W0.out.below hb)
                have S1 := Lib.hid (S0.out.below hb)
                have V1 := Lib.hid (V0.out.below hb)
                clear hb
                have fX16 := X1.out.get 16 _ rfl
                have fX17 := X1.out.get 17 _ rfl
                have fX18 := X1.out.get 18 _ rfl
                have fX19 := X1.out.get 19 _ rfl
                have fX20 := X1.out.get 20 _ rfl
                have fX21 := X1.out.get 21 _ rfl
                have fX22 := X1.out.get 22 _ rfl
                have fX23 := X1.out.get 23 _ rfl
                have fX24 := X1.out.get 24 _ rfl
                have fY16 := Y1.out.get 16 _ rfl
                have fY17 := Y1.out.get 17 _ rfl
                have fY18 := Y1.out.get 18 _ rfl
                have fY19 := Y1.out.get 19 _ rfl
                have fY20 := Y1.out.get 20 _ rfl
                have fY21 := Y1.out.get 21 _ rfl
                have fY22 := Y1.out.get 22 _ rfl
                have fY23 := Y1.out.get 23 _ rfl
                have fY24 := Y1.out.get 24 _ rfl
                go_wp2
                go_ret
                exact ⟨ret_bool HE.out.symm, B1.out⟩
              · skip
                have HE := Lib.hid (show M.sameRec a b = false by simp [M.sameRec, e0, e1, e2, e3, e4, e5, e6])
                clear e1 e5
                go_enter Tryz.func75, Tryz.ntmps75
                go_wp2_with (fail)
                refine (same_cmd a.c b.c R0.out W0.out S0.out V0.out hl hl').mono ?_
                rintro e w1 ⟨rfl, hb⟩
                have B1 := Lib.hid (below_on B0.out hb)
                have X1 := Lib.hid (X0.out.on hb)
                have Y1 := Lib.hid (Y0.out.on hb)
                have R1 := Lib.hid (R0.out.below hb)
                have W1 := Lib.hid (W0.out.below hb)
                have S1 := Lib.hid (S0.out.below hb)
                have V1 := Lib.hid (V0.out.below hb)
                clear hb
                have fX16 := X1.out.get 16 _ rfl
                have fX17 := X1.out.get 17 _ rfl
                have fX18 := X1.out.get 18 _ rfl
                have fX19 := X1.out.get 19 _ rfl
                have fX20 := X1.out.get 20 _ rfl
                have fX21 := X1.out.get 21 _ rfl
                have fX22 := X1.out.get 22 _ rfl
                have fX23 := X1.out.get 23 _ rfl
                have fY16 := Y1.out.get 16 _ rfl
                have fY17 := Y1.out.get 17 _ rfl
                have fY18 := Y1.out.get 18 _ rfl
                have fY19 := Y1.out.get 19 _ rfl
                have fY20 := Y1.out.get 20 _ rfl
                have fY21 := Y1.out.get 21 _ rfl
                have fY22 := Y1.out.get 22 _ rfl
                have fY23 := Y1.out.get 23 _ rfl
                go_wp2
                go_ret
                exact ⟨ret_bool HE.out.symm, B1.out⟩
            · obtain ⟨q5a, q5b⟩ := neI e5
              have HE := Lib.hid (show M.sameRec a b = false by simp [M.sameRec, e0, e1, e2, e3, e4, e5])
              clear e1 e5
              go_enter Tryz.func75, Tryz.ntmps75
              go_wp2_with (fail)
              refine (same_cmd a.c b.c R0.out W0.out S0.out V0.out hl hl').mono ?_
              rintro e w1 ⟨rfl, hb⟩
              have B1 := Lib.hid (below_on B0.out hb)
              have X1 := Lib.hid (X0.out.on hb)
              have Y1 := Lib.hid (Y0.out.on hb)
              have R1 := Lib.hid (R0.out.below hb)
              have W1 := Lib.hid (W0.out.below hb)
              have S1 := Lib.hid (S0.out.below hb)
              have V1 := Lib.hid (V0.out.below hb)
              clear hb
              have fX16 := X1.out.get 16 _ rfl
              have fY16 := Y1.out.get 16 _ rfl
              go_wp2
              go_ret
              exact ⟨ret_bool HE.out.symm, B1.out⟩
          · skip
            have HE := Lib.hid (show M.sameRec a b = false by simp [M.sameRec, e0, e1, e2, e3, e4])
            clear e1
            go_enter Tryz.func75, Tryz.ntmps75
            go_wp2_with (fail)
            refine (same_cmd a.c b.c R0.out W0.out S0.out V0.out hl hl').mono ?_
            rintro e w1 ⟨rfl, hb⟩
            have B1 := Lib.hid (below_on B0.out hb)
            have X1 := Lib.hid (X0.out.on hb)
            have Y1 := Lib.hid (Y0.out.on hb)
            have R1 := Lib.hid (R0.out.below hb)
            have W1 := Lib.hid (W0.out.below hb)
            have S1 := Lib.hid (S0.out.below hb)
            have V1 := Lib.hid (V0.out.below hb)
            clear hb
            go_wp2
            go_ret
            exact ⟨ret_bool HE.out.symm, B1.out⟩
        · skip
          have HE := Lib.hid (show M.sameRec a b = false by simp [M.sameRec, e0, e1, e2, e3])
          clear e1
          go_enter Tryz.func75, Tryz.ntmps75
          go_wp2
          go_ret
          exact ⟨ret_bool HE.out.symm, B0.out⟩
      · skip
        have HE := Lib.hid (show M.sameRec a b = false by simp [M.sameRec, e0, e1, e2])
        clear e1
        go_enter Tryz.func75, Tryz.ntmps75
        go_wp2
        go_ret
        exact ⟨ret_bool HE.out.symm, B0.out⟩
    · obtain ⟨q1a, q1b⟩ := neI e1
      have HE := Lib.hid (show M.sameRec a b = false by simp [M.sameRec, e0, e1])
      clear e1
      go_enter Tryz.func75, Tryz.ntmps75
      go_wp2
      go_ret
      exact ⟨ret_bool HE.out.symm, B0.out⟩
  · skip
    have HE := Lib.hid (show M.sameRec a b = false by simp [M.sameRec, e0])
    go_enter Tryz.func75, Tryz.ntmps75
    go_wp2
    go_ret
    exact ⟨ret_bool HE.out.symm, B0.out⟩

set_option maxHeartbeats 4000000 in
set_option maxRecDepth 100000 in
theorem dsame_rec {w : World} (a b : M.Rec) {va vb ua ub : Value} (h : Rds w va a.c.rs) (h' : Wrs w vb a.c.ws) (g : Rds w ua b.c.rs) (g' : Wrs w ub b.c.ws) (hl : a.c.rs.length ≤ 1000) (hl' : a.c.ws.length ≤ 1000) :
    Calls Tryz.prog 13 #[.agg #[.int .i64 a.ir, .int .i64 a.is, .int .i64 a.st, .int .i64 a.pn, .int .i64 a.pr, .int .i64 a.bn, .int .i64 a.br, .int .i64 a.c.k, .int .i64 a.c.tc, .int .i64 a.c.tn, .int .i64 a.c.tt, .int .i64 a.c.tk, .int .i64 a.c.sh, va, vb, .bool a.c.cm, .int .i64 a.sq, .int .i64 a.d0, .int .i64 a.d1, .int .i64 a.d2, .int .i64 a.d3, .int .i64 a.d4, .int .i64 a.d5, .int .i64 a.d6, .bool a.kp], .agg #[.int .i64 b.ir, .int .i64 b.is, .int .i64 b.st, .int .i64 b.pn, .int .i64 b.pr, .int .i64 b.bn, .int .i64 b.br, .int .i64 b.c.k, .int .i64 b.c.tc, .int .i64 b.c.tn, .int .i64 b.c.tt, .int .i64 b.c.tk, .int .i64 b.c.sh, ua, ub, .bool b.c.cm, .int .i64 b.sq, .int .i64 b.d0, .int .i64 b.d1, .int .i64 b.d2, .int .i64 b.d3, .int .i64 b.d4, .int .i64 b.d5, .int .i64 b.d6, .bool b.kp]] w fun e w' => e = .returned (.bool (M.sameRec a b)) ∧ Below w.heap.size w w' := by
  have X0 := Lib.hid ((Cel.new w [.int .i64 a.ir, .int .i64 a.is, .int .i64 a.st, .int .i64 a.pn, .int .i64 a.pr, .int .i64 a.bn, .int .i64 a.br, .int .i64 a.c.k, .int .i64 a.c.tc, .int .i64 a.c.tn, .int .i64 a.c.tt, .int .i64 a.c.tk, .int .i64 a.c.sh, va, vb, .bool a.c.cm, .int .i64 a.sq, .int .i64 a.d0, .int .i64 a.d1, .int .i64 a.d2, .int .i64 a.d3, .int .i64 a.d4, .int .i64 a.d5, .int .i64 a.d6, .bool a.kp] 41).push (.cells #[.int .i64 b.ir, .int .i64 b.is, .int .i64 b.st, .int .i64 b.pn, .int .i64 b.pr, .int .i64 b.bn, .int .i64 b.br, .int .i64 b.c.k, .int .i64 b.c.tc, .int .i64 b.c.tn, .int .i64 b.c.tt, .int .i64 b.c.tk, .int .i64 b.c.sh, ua, ub, .bool b.c.cm, .int .i64 b.sq, .int .i64 b.d0, .int .i64 b.d1, .int .i64 b.d2, .int .i64 b.d3, .int .i64 b.d4, .int .i64 b.d5, .int .i64 b.d6, .bool b.kp] 41))
  have Y0 := Lib.hid (Cel.new1 w (.cells #[.int .i64 a.ir, .int .i64 a.is, .int .i64 a.st, .int .i64 a.pn, .int .i64 a.pr, .int .i64 a.bn, .int .i64 a.br, .int .i64 a.c.k, .int .i64 a.c.tc, .int .i64 a.c.tn, .int .i64 a.c.tt, .int .i64 a.c.tk, .int .i64 a.c.sh, va, vb, .bool a.c.cm, .int .i64 a.sq, .int .i64 a.d0, .int .i64 a.d1, .int .i64 a.d2, .int .i64 a.d3, .int .i64 a.d4, .int .i64 a.d5, .int .i64 a.d6, .bool a.kp] 41) [.int .i64 b.ir, .int .i64 b.is, .int .i64 b.st, .int .i64 b.pn, .int .i64 b.pr, .int .i64 b.bn, .int .i64 b.br, .int .i64 b.c.k, .int .i64 b.c.tc, .int .i64 b.c.tn, .int .i64 b.c.tt, .int .i64 b.c.tk, .int .i64 b.c.sh, ua, ub, .bool b.c.cm, .int .i64 b.sq, .int .i64 b.d0, .int .i64 b.d1, .int .i64 b.d2, .int .i64 b.d3, .int .i64 b.d4, .int .i64 b.d5, .int .i64 b.d6, .bool b.kp] 41)
  have R0 := Lib.hid ((h.push (.cells #[.int .i64 a.ir, .int .i64 a.is, .int .i64 a.st, .int .i64 a.pn, .int .i64 a.pr, .int .i64 a.bn, .int .i64 a.br, .int .i64 a.c.k, .int .i64 a.c.tc, .int .i64 a.c.tn, .int .i64 a.c.tt, .int .i64 a.c.tk, .int .i64 a.c.sh, va, vb, .bool a.c.cm, .int .i64 a.sq, .int .i64 a.d0, .int .i64 a.d1, .int .i64 a.d2, .int .i64 a.d3, .int .i64 a.d4, .int .i64 a.d5, .int .i64 a.d6, .bool a.kp] 41)).push (.cells #[.int .i64 b.ir, .int .i64 b.is, .int .i64 b.st, .int .i64 b.pn, .int .i64 b.pr, .int .i64 b.bn, .int .i64 b.br, .int .i64 b.c.k, .int .i64 b.c.tc, .int .i64 b.c.tn, .int .i64 b.c.tt, .int .i64 b.c.tk, .int .i64 b.c.sh, ua, ub, .bool b.c.cm, .int .i64 b.sq, .int .i64 b.d0, .int .i64 b.d1, .int .i64 b.d2, .int .i64 b.d3, .int .i64 b.d4, .int .i64 b.d5, .int .i64 b.d6, .bool b.kp] 41))
  have W0 := Lib.hid ((h'.push (.cells #[.int .i64 a.ir, .int .i64 a.is, .int .i64 a.st, .int .i64 a.pn, .int .i64 a.pr, .int .i64 a.bn, .int .i64 a.br, .int .i64 a.c.k, .int .i64 a.c.tc, .int .i64 a.c.tn, .int .i64 a.c.tt, .int .i64 a.c.tk, .int .i64 a.c.sh, va, vb, .bool a.c.cm, .int .i64 a.sq, .int .i64 a.d0, .int .i64 a.d1, .int .i64 a.d2, .int .i64 a.d3, .int .i64 a.d4, .int .i64 a.d5, .int .i64 a.d6, .bool a.kp] 41)).push (.cells #[.int .i64 b.ir, .int .i64 b.is, .int .i64 b.st, .int .i64 b.pn, .int .i64 b.pr, .int .i64 b.bn, .int .i64 b.br, .int .i64 b.c.k, .int .i64 b.c.tc, .int .i64 b.c.tn, .int .i64 b.c.tt, .int .i64 b.c.tk, .int .i64 b.c.sh, ua, ub, .bool b.c.cm, .int .i64 b.sq, .int .i64 b.d0, .int .i64 b.d1, .int .i64 b.d2, .int .i64 b.d3, .int .i64 b.d4, .int .i64 b.d5, .int .i64 b.d6, .bool b.kp] 41))
  have S0 := Lib.hid ((g.push (.cells #[.int .i64 a.ir, .int .i64 a.is, .int .i64 a.st, .int .i64 a.pn, .int .i64 a.pr, .int .i64 a.bn, .int .i64 a.br, .int .i64 a.c.k, .int .i64 a.c.tc, .int .i64 a.c.tn, .int .i64 a.c.tt, .int .i64 a.c.tk, .int .i64 a.c.sh, va, vb, .bool a.c.cm, .int .i64 a.sq, .int .i64 a.d0, .int .i64 a.d1, .int .i64 a.d2, .int .i64 a.d3, .int .i64 a.d4, .int .i64 a.d5, .int .i64 a.d6, .bool a.kp] 41)).push (.cells #[.int .i64 b.ir, .int .i64 b.is, .int .i64 b.st, .int .i64 b.pn, .int .i64 b.pr, .int .i64 b.bn, .int .i64 b.br, .int .i64 b.c.k, .int .i64 b.c.tc, .int .i64 b.c.tn, .int .i64 b.c.tt, .int .i64 b.c.tk, .int .i64 b.c.sh, ua, ub, .bool b.c.cm, .int .i64 b.sq, .int .i64 b.d0, .int .i64 b.d1, .int .i64 b.d2, .int .i64 b.d3, .int .i64 b.d4, .int .i64 b.d5, .int .i64 b.d6, .bool b.kp] 41))
  have V0 := Lib.hid ((g'.push (.cells #[.int .i64 a.ir, .int .i64 a.is, .int .i64 a.st, .int .i64 a.pn, .int .i64 a.pr, .int .i64 a.bn, .int .i64 a.br, .int .i64 a.c.k, .int .i64 a.c.tc, .int .i64 a.c.tn, .int .i64 a.c.tt, .int .i64 a.c.tk, .int .i64 a.c.sh, va, vb, .bool a.c.cm, .int .i64 a.sq, .int .i64 a.d0, .int .i64 a.d1, .int .i64 a.d2, .int .i64 a.d3, .int .i64 a.d4, .int .i64 a.d5, .int .i64 a.d6, .bool a.kp] 41)).push (.cells #[.int .i64 b.ir, .int .i64 b.is, .int .i64 b.st, .int .i64 b.pn, .int .i64 b.pr, .int .i64 b.bn, .int .i64 b.br, .int .i64 b.c.k, .int .i64 b.c.tc, .int .i64 b.c.tn, .int .i64 b.c.tt, .int .i64 b.c.tk, .int .i64 b.c.sh, ua, ub, .bool b.c.cm, .int .i64 b.sq, .int .i64 b.d0, .int .i64 b.d1, .int .i64 b.d2, .int .i64 b.d3, .int .i64 b.d4, .int .i64 b.d5, .int .i64 b.d6, .bool b.kp] 41))
  have B0 := Lib.hid (below_new (o := .cells #[.int .i64 b.ir, .int .i64 b.is, .int .i64 b.st, .int .i64 b.pn, .int .i64 b.pr, .int .i64 b.bn, .int .i64 b.br, .int .i64 b.c.k, .int .i64 b.c.tc, .int .i64 b.c.tn, .int .i64 b.c.tt, .int .i64 b.c.tk, .int .i64 b.c.sh, ua, ub, .bool b.c.cm, .int .i64 b.sq, .int .i64 b.d0, .int .i64 b.d1, .int .i64 b.d2, .int .i64 b.d3, .int .i64 b.d4, .int .i64 b.d5, .int .i64 b.d6, .bool b.kp] 41) (below_new (o := .cells #[.int .i64 a.ir, .int .i64 a.is, .int .i64 a.st, .int .i64 a.pn, .int .i64 a.pr, .int .i64 a.bn, .int .i64 a.br, .int .i64 a.c.k, .int .i64 a.c.tc, .int .i64 a.c.tn, .int .i64 a.c.tt, .int .i64 a.c.tk, .int .i64 a.c.sh, va, vb, .bool a.c.cm, .int .i64 a.sq, .int .i64 a.d0, .int .i64 a.d1, .int .i64 a.d2, .int .i64 a.d3, .int .i64 a.d4, .int .i64 a.d5, .int .i64 a.d6, .bool a.kp] 41) (Below.refl w.heap.size w)))
  clear h h' g g'
  rcases two (M.eq2 a.ir a.is b.ir b.is) with e0 | e0
  · skip
    by_cases e1 : a.st = b.st
    · obtain ⟨q1a, q1b⟩ := eqI e1
      rcases two (M.eq2 a.pn a.pr b.pn b.pr) with e2 | e2
      · skip
        rcases two (M.eq2 a.bn a.br b.bn b.br) with e3 | e3
        · skip
          by_cases e4 : a.sq = b.sq
          · obtain ⟨q4a, q4b⟩ := eqI e4
            rcases two (V7.same7 a.d0 a.d1 a.d2 a.d3 a.d4 a.d5 a.d6 b.d0 b.d1 b.d2 b.d3 b.d4 b.d5 b.d6) with e5 | e5
            · skip
              rcases two (a.kp == b.kp) with e6 | e6
              · skip
                have HE := Lib.hid (show M.sameRec a b = M.sameC a.c b.c by simp [M.sameRec, e0, e1, e2, e3, e4, e5, e6])
                clear e1 e4
                go_enter Tryz.func13, Tryz.ntmps13
                go_wp2_with (fail)
                refine (dsame_cmd a.c b.c R0.out W0.out S0.out V0.out hl hl').mono ?_
                rintro e w1 ⟨rfl, hb⟩
                have B1 := Lib.hid (below_on B0.out hb)
                have X1 := Lib.hid (X0.out.on hb)
                have Y1 := Lib.hid (Y0.out.on hb)
                have R1 := Lib.hid (R0.out.below hb)
                have W1 := Lib.hid (W0.out.below hb)
                have S1 := Lib.hid (S0.out.below hb)
                have V1 := Lib.hid (V0.out.below hb)
                clear hb
                go_wp2
                go_ret
                exact ⟨ret_bool HE.out.symm, B1.out⟩
              · skip
                have HE := Lib.hid (show M.sameRec a b = false by simp [M.sameRec, e0, e1, e2, e3, e4, e5, e6])
                clear e1 e4
                go_enter Tryz.func13, Tryz.ntmps13
                go_wp2
                go_ret
                exact ⟨ret_bool HE.out.symm, B0.out⟩
            · skip
              have HE := Lib.hid (show M.sameRec a b = false by simp [M.sameRec, e0, e1, e2, e3, e4, e5])
              clear e1 e4
              go_enter Tryz.func13, Tryz.ntmps13
              go_wp2
              go_ret
              exact ⟨ret_bool HE.out.symm, B0.out⟩
          · obtain ⟨q4a, q4b⟩ := neI e4
            have HE := Lib.hid (show M.sameRec a b = false by simp [M.sameRec, e0, e1, e2, e3, e4])
            clear e1 e4
            go_enter Tryz.func13, Tryz.ntmps13
            go_wp2
            go_ret
            exact ⟨ret_bool HE.out.symm, B0.out⟩
        · skip
          have HE := Lib.hid (show M.sameRec a b = false by simp [M.sameRec, e0, e1, e2, e3])
          clear e1
          go_enter Tryz.func13, Tryz.ntmps13
          go_wp2
          go_ret
          exact ⟨ret_bool HE.out.symm, B0.out⟩
      · skip
        have HE := Lib.hid (show M.sameRec a b = false by simp [M.sameRec, e0, e1, e2])
        clear e1
        go_enter Tryz.func13, Tryz.ntmps13
        go_wp2
        go_ret
        exact ⟨ret_bool HE.out.symm, B0.out⟩
    · obtain ⟨q1a, q1b⟩ := neI e1
      have HE := Lib.hid (show M.sameRec a b = false by simp [M.sameRec, e0, e1])
      clear e1
      go_enter Tryz.func13, Tryz.ntmps13
      go_wp2
      go_ret
      exact ⟨ret_bool HE.out.symm, B0.out⟩
  · skip
    have HE := Lib.hid (show M.sameRec a b = false by simp [M.sameRec, e0])
    go_enter Tryz.func13, Tryz.ntmps13
    go_wp2
    go_ret
    exact ⟨ret_bool HE.out.symm, B0.out⟩

end Go.Proofs.YtpknkhgkejkpkaaGreat

namespace Go.Proofs.YtpknkhgkejkpkaaGreat
open Go.ChangeShapes Go.WideShapes Go.ChangeAt Go.RowKit
attribute [local go_sem ↓] run_same7 run_same_inst run_same_ballot
/-- A load of a whole value behind a guard. -/
theorem wpList_load_mid_g {P : Program} {ops : Array Oper} {rest : List Oper} {op : Oper} {a : Act} {w : World} {Q : Exit → Act → World → Prop} (hw : Region.wanted op (yielded ops a.tmps) = true) (ty : TypeId) (x : Operand) (ho : op.op = .load ty x)
    (b o : Nat) (hx : a.eval x = .pointer (some ⟨b, o, none⟩)) (cs : List Value) (d : TypeDesc) (hc : w.rangeAt b o cs)
    (hu : P.underlying ty = some d) (hd : d.isRow = true) (hi : (P.info? ty).map (·.size) = some cs.length)
    (h : wpList P ops Q rest (a.put op.dst (.agg cs.toArray)) w) : wpList P ops Q (op :: rest) a w :=
  wpList_step fun _ hK => by
    rw [if_pos hw]
    exact wp_load_mid ty x ho b o hx cs d hc hu hd hi (hK _ _ h)

namespace M
def zeroRec (r : Rec) : Rec := ⟨r.ir, r.is, 0, r.pn, r.pr, 0, 0, zero, 0, 0, 0, 0, 0, 0, 0, 0, false⟩
def seqB (r : Rec) : Bool := decide (1 ≤ r.sq) && decide (r.sq ≤ 1099511627776)
def fitsS (r : Rec) : Bool := if r.st = 0 then sameRec r (zeroRec r) else if r.st = 1 then seqB r else if r.st = 2 ∨ r.st = 3 then seqB r && !r.kp else false
def dep (r : Rec) : Nat → Int
  | 0 => r.d0
  | 1 => r.d1
  | 2 => r.d2
  | 3 => r.d3
  | 4 => r.d4
  | 5 => r.d5
  | _ => r.d6
def rightR (r : Rec) : Bool := pairB r.ir r.is 0 6 1 1048576 && (pairB r.pn r.pr 0 1099511627776 0 6 && (pairB r.bn r.br 0 1099511627776 0 6 && (decide (ord r.bn r.br r.pn r.pr ≤ 0) && (rightC r.c && (V7.right (dep r) && fitsS r)))))
end M
theorem deps7_any (r : M.Rec) (w : World) : Calls Tryz.prog 50 #[.agg #[.int .i64 r.d0, .int .i64 r.d1, .int .i64 r.d2, .int .i64 r.d3, .int .i64 r.d4, .int .i64 r.d5, .int .i64 r.d6]] w fun e w' => e = .returned (.bool (V7.right (M.dep r))) ∧ Below w.heap.size w w' := depsR_any (M.dep r) w

set_option maxHeartbeats 4000000 in
set_option maxRecDepth 100000 in
theorem fits_any {w : World} (r : M.Rec) {va vb : Value} (h : Rds w va r.c.rs) (h' : Wrs w vb r.c.ws) (hl : r.c.rs.length ≤ 1000) (hl' : r.c.ws.length ≤ 1000) :
    Calls Tryz.prog 51 #[.agg #[.int .i64 r.ir, .int .i64 r.is, .int .i64 r.st, .int .i64 r.pn, .int .i64 r.pr, .int .i64 r.bn, .int .i64 r.br, .int .i64 r.c.k, .int .i64 r.c.tc, .int .i64 r.c.tn, .int .i64 r.c.tt, .int .i64 r.c.tk, .int .i64 r.c.sh, va, vb, .bool r.c.cm, .int .i64 r.sq, .int .i64 r.d0, .int .i64 r.d1, .int .i64 r.d2, .int .i64 r.d3, .int .i64 r.d4, .int .i64 r.d5, .int .i64 r.d6, .bool r.kp]] w fun e w' => e = .returned (.bool (M.fitsS r)) ∧ Below w.heap.size w w' := by
  have X0 := Lib.hid (Cel.new w [.int .i64 r.ir, .int .i64 r.is, .int .i64 r.st, .int .i64 r.pn, .int .i64 r.pr, .int .i64 r.bn, .int .i64 r.br, .int .i64 r.c.k, .int .i64 r.c.tc, .int .i64 r.c.tn, .int .i64 r.c.tt, .int .i64 r.c.tk, .int .i64 r.c.sh, va, vb, .bool r.c.cm, .int .i64 r.sq, .int .i64 r.d0, .int .i64 r.d1, .int .i64 r.d2, .int .i64 r.d3, .int .i64 r.d4, .int .i64 r.d5, .int .i64 r.d6, .bool r.kp] 41)
  have R0 := Lib.hid (h.push (.cells #[.int .i64 r.ir, .int .i64 r.is, .int .i64 r.st, .int .i64 r.pn, .int .i64 r.pr, .int .i64 r.bn, .int .i64 r.br, .int .i64 r.c.k, .int .i64 r.c.tc, .int .i64 r.c.tn, .int .i64 r.c.tt, .int .i64 r.c.tk, .int .i64 r.c.sh, va, vb, .bool r.c.cm, .int .i64 r.sq, .int .i64 r.d0, .int .i64 r.d1, .int .i64 r.d2, .int .i64 r.d3, .int .i64 r.d4, .int .i64 r.d5, .int .i64 r.d6, .bool r.kp] 41))
  have W0 := Lib.hid (h'.push (.cells #[.int .i64 r.ir, .int .i64 r.is, .int .i64 r.st, .int .i64 r.pn, .int .i64 r.pr, .int .i64 r.bn, .int .i64 r.br, .int .i64 r.c.k, .int .i64 r.c.tc, .int .i64 r.c.tn, .int .i64 r.c.tt, .int .i64 r.c.tk, .int .i64 r.c.sh, va, vb, .bool r.c.cm, .int .i64 r.sq, .int .i64 r.d0, .int .i64 r.d1, .int .i64 r.d2, .int .i64 r.d3, .int .i64 r.d4, .int .i64 r.d5, .int .i64 r.d6, .bool r.kp] 41))
  have B0 := Lib.hid (below_new (o := .cells #[.int .i64 r.ir, .int .i64 r.is, .int .i64 r.st, .int .i64 r.pn, .int .i64 r.pr, .int .i64 r.bn, .int .i64 r.br, .int .i64 r.c.k, .int .i64 r.c.tc, .int .i64 r.c.tn, .int .i64 r.c.tt, .int .i64 r.c.tk, .int .i64 r.c.sh, va, vb, .bool r.c.cm, .int .i64 r.sq, .int .i64 r.d0, .int .i64 r.d1, .int .i64 r.d2, .int .i64 r.d3, .int .i64 r.d4, .int .i64 r.d5, .int .i64 r.d6, .bool r.kp] 41) (Below.refl w.heap.size w))
  clear h h'
  by_cases e0 : 1 ≤ r.sq
  · skip
    by_cases e1 : r.sq ≤ 1099511627776
    · skip
      by_cases e2 : r.st = 0
      · obtain ⟨q2a, q2b⟩ := eqI e2
        have HE := Lib.hid (show M.fitsS r = M.sameRec r (M.zeroRec r) by unfold M.fitsS M.seqB; simp [*])
        clear e2
        go_enter Tryz.func51, Tryz.ntmps51
        go_wp2_with (with_reducible refine wpList_load_mid rfl 41 _ rfl w.heap.size 0 rfl _ _ X0.out.whole Tryz.underlying41 rfl (by kernel_rfl) ?_)
        refine (same_rec r (M.zeroRec r) R0.out W0.out (Rds.nil _) (Wrs.nil _) hl hl').mono ?_
        rintro e w1 ⟨rfl, hb⟩
        have B1 := Lib.hid (below_on B0.out hb)
        have X1 := Lib.hid (X0.out.on hb)
        have R1 := Lib.hid (R0.out.below hb)
        have W1 := Lib.hid (W0.out.below hb)
        clear hb
        go_wp2
        go_ret
        exact ⟨ret_bool HE.out.symm, B1.out⟩
      · obtain ⟨q2a, q2b⟩ := neI e2
        by_cases e3 : r.st = 1
        · obtain ⟨q3a, q3b⟩ := eqI e3
          have HE := Lib.hid (show M.fitsS r = true by unfold M.fitsS M.seqB; simp [*])
          clear e2 e3
          go_enter Tryz.func51, Tryz.ntmps51
          go_wp2
          go_ret
          exact ⟨ret_bool HE.out.symm, B0.out⟩
        · obtain ⟨q3a, q3b⟩ := neI e3
          by_cases e4 : r.st = 2
          · obtain ⟨q4a, q4b⟩ := eqI e4
            have HE := Lib.hid (show M.fitsS r = (!r.kp) by unfold M.fitsS M.seqB; simp [*])
            clear e2 e3 e4
            go_enter Tryz.func51, Tryz.ntmps51
            go_wp2
            go_ret
            exact ⟨ret_bool HE.out.symm, B0.out⟩
          · obtain ⟨q4a, q4b⟩ := neI e4
            by_cases e5 : r.st = 3
            · obtain ⟨q5a, q5b⟩ := eqI e5
              have HE := Lib.hid (show M.fitsS r = (!r.kp) by unfold M.fitsS M.seqB; simp [*])
              clear e2 e3 e4 e5
              go_enter Tryz.func51, Tryz.ntmps51
              go_wp2
              go_ret
              exact ⟨ret_bool HE.out.symm, B0.out⟩
            · obtain ⟨q5a, q5b⟩ := neI e5
              have HE := Lib.hid (show M.fitsS r = false by unfold M.fitsS M.seqB; simp [*])
              clear e2 e3 e4 e5
              go_enter Tryz.func51, Tryz.ntmps51
              go_wp2
              go_ret
              exact ⟨ret_bool HE.out.symm, B0.out⟩
    · skip
      by_cases e2 : r.st = 0
      · obtain ⟨q2a, q2b⟩ := eqI e2
        have HE := Lib.hid (show M.fitsS r = M.sameRec r (M.zeroRec r) by unfold M.fitsS M.seqB; simp [*])
        clear e2
        go_enter Tryz.func51, Tryz.ntmps51
        go_wp2_with (with_reducible refine wpList_load_mid rfl 41 _ rfl w.heap.size 0 rfl _ _ X0.out.whole Tryz.underlying41 rfl (by kernel_rfl) ?_)
        refine (same_rec r (M.zeroRec r) R0.out W0.out (Rds.nil _) (Wrs.nil _) hl hl').mono ?_
        rintro e w1 ⟨rfl, hb⟩
        have B1 := Lib.hid (below_on B0.out hb)
        have X1 := Lib.hid (X0.out.on hb)
        have R1 := Lib.hid (R0.out.below hb)
        have W1 := Lib.hid (W0.out.below hb)
        clear hb
        go_wp2
        go_ret
        exact ⟨ret_bool HE.out.symm, B1.out⟩
      · obtain ⟨q2a, q2b⟩ := neI e2
        by_cases e3 : r.st = 1
        · obtain ⟨q3a, q3b⟩ := eqI e3
          have HE := Lib.hid (show M.fitsS r = false by unfold M.fitsS M.seqB; simp [*])
          clear e2 e3
          go_enter Tryz.func51, Tryz.ntmps51
          go_wp2
          go_ret
          exact ⟨ret_bool HE.out.symm, B0.out⟩
        · obtain ⟨q3a, q3b⟩ := neI e3
          by_cases e4 : r.st = 2
          · obtain ⟨q4a, q4b⟩ := eqI e4
            have HE := Lib.hid (show M.fitsS r = false by unfold M.fitsS M.seqB; simp [*])
            clear e2 e3 e4
            go_enter Tryz.func51, Tryz.ntmps51
            go_wp2
            go_ret
            exact ⟨ret_bool HE.out.symm, B0.out⟩
          · obtain ⟨q4a, q4b⟩ := neI e4
            by_cases e5 : r.st = 3
            · obtain ⟨q5a, q5b⟩ := eqI e5
              have HE := Lib.hid (show M.fitsS r = false by unfold M.fitsS M.seqB; simp [*])
              clear e2 e3 e4 e5
              go_enter Tryz.func51, Tryz.ntmps51
              go_wp2
              go_ret
              exact ⟨ret_bool HE.out.symm, B0.out⟩
            · obtain ⟨q5a, q5b⟩ := neI e5
              have HE := Lib.hid (show M.fitsS r = false by unfold M.fitsS M.seqB; simp [*])
              clear e2 e3 e4 e5
              go_enter Tryz.func51, Tryz.ntmps51
              go_wp2
              go_ret
              exact ⟨ret_bool HE.out.symm, B0.out⟩
  · skip
    by_cases e1 : r.st = 0
    · obtain ⟨q1a, q1b⟩ := eqI e1
      have HE := Lib.hid (show M.fitsS r = M.sameRec r (M.zeroRec r) by unfold M.fitsS M.seqB; simp [*])
      clear e1
      go_enter Tryz.func51, Tryz.ntmps51
      go_wp2_with (with_reducible refine wpList_load_mid rfl 41 _ rfl w.heap.size 0 rfl _ _ X0.out.whole Tryz.underlying41 rfl (by kernel_rfl) ?_)
      refine (same_rec r (M.zeroRec r) R0.out W0.out (Rds.nil _) (Wrs.nil _) hl hl').mono ?_
      rintro e w1 ⟨rfl, hb⟩
      have B1 := Lib.hid (below_on B0.out hb)
      have X1 := Lib.hid (X0.out.on hb)
      have R1 := Lib.hid (R0.out.below hb)
      have W1 := Lib.hid (W0.out.below hb)
      clear hb
      go_wp2
      go_ret
      exact ⟨ret_bool HE.out.symm, B1.out⟩
    · obtain ⟨q1a, q1b⟩ := neI e1
      by_cases e2 : r.st = 1
      · obtain ⟨q2a, q2b⟩ := eqI e2
        have HE := Lib.hid (show M.fitsS r = false by unfold M.fitsS M.seqB; simp [*])
        clear e1 e2
        go_enter Tryz.func51, Tryz.ntmps51
        go_wp2
        go_ret
        exact ⟨ret_bool HE.out.symm, B0.out⟩
      · obtain ⟨q2a, q2b⟩ := neI e2
        by_cases e3 : r.st = 2
        · obtain ⟨q3a, q3b⟩ := eqI e3
          have HE := Lib.hid (show M.fitsS r = false by unfold M.fitsS M.seqB; simp [*])
          clear e1 e2 e3
          go_enter Tryz.func51, Tryz.ntmps51
          go_wp2
          go_ret
          exact ⟨ret_bool HE.out.symm, B0.out⟩
        · obtain ⟨q3a, q3b⟩ := neI e3
          by_cases e4 : r.st = 3
          · obtain ⟨q4a, q4b⟩ := eqI e4
            have HE := Lib.hid (show M.fitsS r = false by unfold M.fitsS M.seqB; simp [*])
            clear e1 e2 e3 e4
            go_enter Tryz.func51, Tryz.ntmps51
            go_wp2
            go_ret
            exact ⟨ret_bool HE.out.symm, B0.out⟩
          · obtain ⟨q4a, q4b⟩ := neI e4
            have HE := Lib.hid (show M.fitsS r = false by unfold M.fitsS M.seqB; simp [*])
            clear e1 e2 e3 e4
            go_enter Tryz.func51, Tryz.ntmps51
            go_wp2
            go_ret
            exact ⟨ret_bool HE.out.symm, B0.out⟩

set_option maxHeartbeats 4000000 in
set_option maxRecDepth 100000 in
theorem right_rec {w : World} (r : M.Rec) {va vb : Value} (h : Rds w va r.c.rs) (h' : Wrs w vb r.c.ws) (hl : r.c.rs.length ≤ 1000) (hl' : r.c.ws.length ≤ 1000) :
    Calls Tryz.prog 25 #[.agg #[.int .i64 r.ir, .int .i64 r.is, .int .i64 r.st, .int .i64 r.pn, .int .i64 r.pr, .int .i64 r.bn, .int .i64 r.br, .int .i64 r.c.k, .int .i64 r.c.tc, .int .i64 r.c.tn, .int .i64 r.c.tt, .int .i64 r.c.tk, .int .i64 r.c.sh, va, vb, .bool r.c.cm, .int .i64 r.sq, .int .i64 r.d0, .int .i64 r.d1, .int .i64 r.d2, .int .i64 r.d3, .int .i64 r.d4, .int .i64 r.d5, .int .i64 r.d6, .bool r.kp]] w fun e w' => e = .returned (.bool (M.rightR r)) ∧ Below w.heap.size w w' := by
  have X0 := Lib.hid (Cel.new w [.int .i64 r.ir, .int .i64 r.is, .int .i64 r.st, .int .i64 r.pn, .int .i64 r.pr, .int .i64 r.bn, .int .i64 r.br, .int .i64 r.c.k, .int .i64 r.c.tc, .int .i64 r.c.tn, .int .i64 r.c.tt, .int .i64 r.c.tk, .int .i64 r.c.sh, va, vb, .bool r.c.cm, .int .i64 r.sq, .int .i64 r.d0, .int .i64 r.d1, .int .i64 r.d2, .int .i64 r.d3, .int .i64 r.d4, .int .i64 r.d5, .int .i64 r.d6, .bool r.kp] 41)
  have R0 := Lib.hid (h.push (.cells #[.int .i64 r.ir, .int .i64 r.is, .int .i64 r.st, .int .i64 r.pn, .int .i64 r.pr, .int .i64 r.bn, .int .i64 r.br, .int .i64 r.c.k, .int .i64 r.c.tc, .int .i64 r.c.tn, .int .i64 r.c.tt, .int .i64 r.c.tk, .int .i64 r.c.sh, va, vb, .bool r.c.cm, .int .i64 r.sq, .int .i64 r.d0, .int .i64 r.d1, .int .i64 r.d2, .int .i64 r.d3, .int .i64 r.d4, .int .i64 r.d5, .int .i64 r.d6, .bool r.kp] 41))
  have W0 := Lib.hid (h'.push (.cells #[.int .i64 r.ir, .int .i64 r.is, .int .i64 r.st, .int .i64 r.pn, .int .i64 r.pr, .int .i64 r.bn, .int .i64 r.br, .int .i64 r.c.k, .int .i64 r.c.tc, .int .i64 r.c.tn, .int .i64 r.c.tt, .int .i64 r.c.tk, .int .i64 r.c.sh, va, vb, .bool r.c.cm, .int .i64 r.sq, .int .i64 r.d0, .int .i64 r.d1, .int .i64 r.d2, .int .i64 r.d3, .int .i64 r.d4, .int .i64 r.d5, .int .i64 r.d6, .bool r.kp] 41))
  have B0 := Lib.hid (below_new (o := .cells #[.int .i64 r.ir, .int .i64 r.is, .int .i64 r.st, .int .i64 r.pn, .int .i64 r.pr, .int .i64 r.bn, .int .i64 r.br, .int .i64 r.c.k, .int .i64 r.c.tc, .int .i64 r.c.tn, .int .i64 r.c.tt, .int .i64 r.c.tk, .int .i64 r.c.sh, va, vb, .bool r.c.cm, .int .i64 r.sq, .int .i64 r.d0, .int .i64 r.d1, .int .i64 r.d2, .int .i64 r.d3, .int .i64 r.d4, .int .i64 r.d5, .int .i64 r.d6, .bool r.kp] 41) (Below.refl w.heap.size w))
  clear h h'
  rcases two (M.pairB r.ir r.is 0 6 1 1048576) with e0 | e0
  · skip
    rcases two (M.pairB r.pn r.pr 0 1099511627776 0 6) with e1 | e1
    · skip
      rcases two (M.pairB r.bn r.br 0 1099511627776 0 6) with e2 | e2
      · skip
        rcases two (decide (M.ord r.bn r.br r.pn r.pr ≤ 0)) with e3 | e3
        · skip
          rcases two (M.rightC r.c) with e4 | e4
          · skip
            rcases two (V7.right (M.dep r)) with e5 | e5
            · skip
              have HE := Lib.hid (show M.rightR r = M.fitsS r by simp [M.rightR, e0, e1, e2, e3, e4, e5])
              go_enter Tryz.func25, Tryz.ntmps25
              go_wp2_with (fail)
              refine (rightInst_any _ _ _).mono ?_
              rintro e w1 ⟨rfl, hb⟩
              have B1 := Lib.hid (below_on B0.out hb)
              have X1 := Lib.hid (X0.out.on hb)
              have R1 := Lib.hid (R0.out.below hb)
              have W1 := Lib.hid (W0.out.below hb)
              clear hb
              have fX3 := X1.out.get 3 _ rfl
              have fX4 := X1.out.get 4 _ rfl
              go_wp2_with (fail)
              refine (rightBallot_any _ _ _).mono ?_
              rintro e w2 ⟨rfl, hb⟩
              have B2 := Lib.hid (below_on B1.out hb)
              have X2 := Lib.hid (X1.out.on hb)
              have R2 := Lib.hid (R1.out.below hb)
              have W2 := Lib.hid (W1.out.below hb)
              clear hb fX3 fX4
              have fX5 := X2.out.get 5 _ rfl
              have fX6 := X2.out.get 6 _ rfl
              go_wp2_with (fail)
              refine (rightBallot_any _ _ _).mono ?_
              rintro e w3 ⟨rfl, hb⟩
              have B3 := Lib.hid (below_on B2.out hb)
              have X3 := Lib.hid (X2.out.on hb)
              have R3 := Lib.hid (R2.out.below hb)
              have W3 := Lib.hid (W2.out.below hb)
              clear hb fX5 fX6
              have fX3 := X3.out.get 3 _ rfl
              have fX4 := X3.out.get 4 _ rfl
              have fX5 := X3.out.get 5 _ rfl
              have fX6 := X3.out.get 6 _ rfl
              go_wp2_with (fail)
              refine (compareBallots_any _ _ _ _ _).mono ?_
              rintro e w4 ⟨rfl, hb⟩
              have B4 := Lib.hid (below_on B3.out hb)
              have X4 := Lib.hid (X3.out.on hb)
              have R4 := Lib.hid (R3.out.below hb)
              have W4 := Lib.hid (W3.out.below hb)
              clear hb fX3 fX4 fX5 fX6
              have fX7 := X4.out.get 7 _ rfl
              have fX8 := X4.out.get 8 _ rfl
              have fX9 := X4.out.get 9 _ rfl
              have fX10 := X4.out.get 10 _ rfl
              have fX11 := X4.out.get 11 _ rfl
              have fX12 := X4.out.get 12 _ rfl
              have fX13 := X4.out.get 13 _ rfl
              have fX14 := X4.out.get 14 _ rfl
              have fX15 := X4.out.get 15 _ rfl
              go_wp2_with (fail)
              refine (right_cmd r.c R4.out W4.out hl hl').mono ?_
              rintro e w5 ⟨rfl, hb⟩
              have B5 := Lib.hid (below_on B4.out hb)
              have X5 := Lib.hid (X4.out.on hb)
              have R5 := Lib.hid (R4.out.below hb)
              have W5 := Lib.hid (W4.out.below hb)
              clear hb fX7 fX8 fX9 fX10 fX11 fX12 fX13 fX14 fX15
              have fX17 := X5.out.get 17 _ rfl
              have fX18 := X5.out.get 18 _ rfl
              have fX19 := X5.out.get 19 _ rfl
              have fX20 := X5.out.get 20 _ rfl
              have fX21 := X5.out.get 21 _ rfl
              have fX22 := X5.out.get 22 _ rfl
              have fX23 := X5.out.get 23 _ rfl
              go_wp2_with (fail)
              refine (deps7_any r _).mono ?_
              rintro e w6 ⟨rfl, hb⟩
              have B6 := Lib.hid (below_on B5.out hb)
              have X6 := Lib.hid (X5.out.on hb)
              have R6 := Lib.hid (R5.out.below hb)
              have W6 := Lib.hid (W5.out.below hb)
              clear hb fX17 fX18 fX19 fX20 fX21 fX22 fX23
              go_wp2_with ((with_reducible refine wpList_load_mid_g ?_ 41 _ rfl w.heap.size 0 rfl _ _ X6.out.whole Tryz.underlying41 rfl (by kernel_rfl) ?_); rfl)
              refine (fits_any r R6.out W6.out hl hl').mono ?_
              rintro e w7 ⟨rfl, hb⟩
              have B7 := Lib.hid (below_on B6.out hb)
              have X7 := Lib.hid (X6.out.on hb)
              have R7 := Lib.hid (R6.out.below hb)
              have W7 := Lib.hid (W6.out.below hb)
              clear hb
              go_wp2
              go_ret
              exact ⟨ret_bool HE.out.symm, B7.out⟩
            · skip
              have HE := Lib.hid (show M.rightR r = false by simp [M.rightR, e0, e1, e2, e3, e4, e5])
              go_enter Tryz.func25, Tryz.ntmps25
              go_wp2_with (fail)
              refine (rightInst_any _ _ _).mono ?_
              rintro e w1 ⟨rfl, hb⟩
              have B1 := Lib.hid (below_on B0.out hb)
              have X1 := Lib.hid (X0.out.on hb)
              have R1 := Lib.hid (R0.out.below hb)
              have W1 := Lib.hid (W0.out.below hb)
              clear hb
              have fX3 := X1.out.get 3 _ rfl
              have fX4 := X1.out.get 4 _ rfl
              go_wp2_with (fail)
              refine (rightBallot_any _ _ _).mono ?_
              rintro e w2 ⟨rfl, hb⟩
              have B2 := Lib.hid (below_on B1.out hb)
              have X2 := Lib.hid (X1.out.on hb)
              have R2 := Lib.hid (R1.out.below hb)
              have W2 := Lib.hid (W1.out.below hb)
              clear hb fX3 fX4
              have fX5 := X2.out.get 5 _ rfl
              have fX6 := X2.out.get 6 _ rfl
              go_wp2_with (fail)
              refine (rightBallot_any _ _ _).mono ?_
              rintro e w3 ⟨rfl, hb⟩
              have B3 := Lib.hid (below_on B2.out hb)
              have X3 := Lib.hid (X2.out.on hb)
              have R3 := Lib.hid (R2.out.below hb)
              have W3 := Lib.hid (W2.out.below hb)
              clear hb fX5 fX6
              have fX3 := X3.out.get 3 _ rfl
              have fX4 := X3.out.get 4 _ rfl
              have fX5 := X3.out.get 5 _ rfl
              have fX6 := X3.out.get 6 _ rfl
              go_wp2_with (fail)
              refine (compareBallots_any _ _ _ _ _).mono ?_
              rintro e w4 ⟨rfl, hb⟩
              have B4 := Lib.hid (below_on B3.out hb)
              have X4 := Lib.hid (X3.out.on hb)
              have R4 := Lib.hid (R3.out.below hb)
              have W4 := Lib.hid (W3.out.below hb)
              clear hb fX3 fX4 fX5 fX6
              have fX7 := X4.out.get 7 _ rfl
              have fX8 := X4.out.get 8 _ rfl
              have fX9 := X4.out.get 9 _ rfl
              have fX10 := X4.out.get 10 _ rfl
              have fX11 := X4.out.get 11 _ rfl
              have fX12 := X4.out.get 12 _ rfl
              have fX13 := X4.out.get 13 _ rfl
              have fX14 := X4.out.get 14 _ rfl
              have fX15 := X4.out.get 15 _ rfl
              go_wp2_with (fail)
              refine (right_cmd r.c R4.out W4.out hl hl').mono ?_
              rintro e w5 ⟨rfl, hb⟩
              have B5 := Lib.hid (below_on B4.out hb)
              have X5 := Lib.hid (X4.out.on hb)
              have R5 := Lib.hid (R4.out.below hb)
              have W5 := Lib.hid (W4.out.below hb)
              clear hb fX7 fX8 fX9 fX10 fX11 fX12 fX13 fX14 fX15
              have fX17 := X5.out.get 17 _ rfl
              have fX18 := X5.out.get 18 _ rfl
              have fX19 := X5.out.get 19 _ rfl
              have fX20 := X5.out.get 20 _ rfl
              have fX21 := X5.out.get 21 _ rfl
              have fX22 := X5.out.get 22 _ rfl
              have fX23 := X5.out.get 23 _ rfl
              go_wp2_with (fail)
              refine (deps7_any r _).mono ?_
              rintro e w6 ⟨rfl, hb⟩
              have B6 := Lib.hid (below_on B5.out hb)
              have X6 := Lib.hid (X5.out.on hb)
              have R6 := Lib.hid (R5.out.below hb)
              have W6 := Lib.hid (W5.out.below hb)
              clear hb fX17 fX18 fX19 fX20 fX21 fX22 fX23
              go_wp2
              go_ret
              exact ⟨ret_bool HE.out.symm, B6.out⟩
          · skip
            have HE := Lib.hid (show M.rightR r = false by simp [M.rightR, e0, e1, e2, e3, e4])
            go_enter Tryz.func25, Tryz.ntmps25
            go_wp2_with (fail)
            refine (rightInst_any _ _ _).mono ?_
            rintro e w1 ⟨rfl, hb⟩
            have B1 := Lib.hid (below_on B0.out hb)
            have X1 := Lib.hid (X0.out.on hb)
            have R1 := Lib.hid (R0.out.below hb)
            have W1 := Lib.hid (W0.out.below hb)
            clear hb
            have fX3 := X1.out.get 3 _ rfl
            have fX4 := X1.out.get 4 _ rfl
            go_wp2_with (fail)
            refine (rightBallot_any _ _ _).mono ?_
            rintro e w2 ⟨rfl, hb⟩
            have B2 := Lib.hid (below_on B1.out hb)
            have X2 := Lib.hid (X1.out.on hb)
            have R2 := Lib.hid (R1.out.below hb)
            have W2 := Lib.hid (W1.out.below hb)
            clear hb fX3 fX4
            have fX5 := X2.out.get 5 _ rfl
            have fX6 := X2.out.get 6 _ rfl
            go_wp2_with (fail)
            refine (rightBallot_any _ _ _).mono ?_
            rintro e w3 ⟨rfl, hb⟩
            have B3 := Lib.hid (below_on B2.out hb)
            have X3 := Lib.hid (X2.out.on hb)
            have R3 := Lib.hid (R2.out.below hb)
            have W3 := Lib.hid (W2.out.below hb)
            clear hb fX5 fX6
            have fX3 := X3.out.get 3 _ rfl
            have fX4 := X3.out.get 4 _ rfl
            have fX5 := X3.out.get 5 _ rfl
            have fX6 := X3.out.get 6 _ rfl
            go_wp2_with (fail)
            refine (compareBallots_any _ _ _ _ _).mono ?_
            rintro e w4 ⟨rfl, hb⟩
            have B4 := Lib.hid (below_on B3.out hb)
            have X4 := Lib.hid (X3.out.on hb)
            have R4 := Lib.hid (R3.out.below hb)
            have W4 := Lib.hid (W3.out.below hb)
            clear hb fX3 fX4 fX5 fX6
            have fX7 := X4.out.get 7 _ rfl
            have fX8 := X4.out.get 8 _ rfl
            have fX9 := X4.out.get 9 _ rfl
            have fX10 := X4.out.get 10 _ rfl
            have fX11 := X4.out.get 11 _ rfl
            have fX12 := X4.out.get 12 _ rfl
            have fX13 := X4.out.get 13 _ rfl
            have fX14 := X4.out.get 14 _ rfl
            have fX15 := X4.out.get 15 _ rfl
            go_wp2_with (fail)
            refine (right_cmd r.c R4.out W4.out hl hl').mono ?_
            rintro e w5 ⟨rfl, hb⟩
            have B5 := Lib.hid (below_on B4.out hb)
            have X5 := Lib.hid (X4.out.on hb)
            have R5 := Lib.hid (R4.out.below hb)
            have W5 := Lib.hid (W4.out.below hb)
            clear hb fX7 fX8 fX9 fX10 fX11 fX12 fX13 fX14 fX15
            go_wp2
            go_ret
            exact ⟨ret_bool HE.out.symm, B5.out⟩
        · skip
          have HE := Lib.hid (show M.rightR r = false by simp [M.rightR, e0, e1, e2, e3])
          go_enter Tryz.func25, Tryz.ntmps25
          go_wp2_with (fail)
          refine (rightInst_any _ _ _).mono ?_
          rintro e w1 ⟨rfl, hb⟩
          have B1 := Lib.hid (below_on B0.out hb)
          have X1 := Lib.hid (X0.out.on hb)
          have R1 := Lib.hid (R0.out.below hb)
          have W1 := Lib.hid (W0.out.below hb)
          clear hb
          have fX3 := X1.out.get 3 _ rfl
          have fX4 := X1.out.get 4 _ rfl
          go_wp2_with (fail)
          refine (rightBallot_any _ _ _).mono ?_
          rintro e w2 ⟨rfl, hb⟩
          have B2 := Lib.hid (below_on B1.out hb)
          have X2 := Lib.hid (X1.out.on hb)
          have R2 := Lib.hid (R1.out.below hb)
          have W2 := Lib.hid (W1.out.below hb)
          clear hb fX3 fX4
          have fX5 := X2.out.get 5 _ rfl
          have fX6 := X2.out.get 6 _ rfl
          go_wp2_with (fail)
          refine (rightBallot_any _ _ _).mono ?_
          rintro e w3 ⟨rfl, hb⟩
          have B3 := Lib.hid (below_on B2.out hb)
          have X3 := Lib.hid (X2.out.on hb)
          have R3 := Lib.hid (R2.out.below hb)
          have W3 := Lib.hid (W2.out.below hb)
          clear hb fX5 fX6
          have fX3 := X3.out.get 3 _ rfl
          have fX4 := X3.out.get 4 _ rfl
          have fX5 := X3.out.get 5 _ rfl
          have fX6 := X3.out.get 6 _ rfl
          go_wp2_with (fail)
          refine (compareBallots_any _ _ _ _ _).mono ?_
          rintro e w4 ⟨rfl, hb⟩
          have B4 := Lib.hid (below_on B3.out hb)
          have X4 := Lib.hid (X3.out.on hb)
          have R4 := Lib.hid (R3.out.below hb)
          have W4 := Lib.hid (W3.out.below hb)
          clear hb fX3 fX4 fX5 fX6
          go_wp2
          go_ret
          exact ⟨ret_bool HE.out.symm, B4.out⟩
      · skip
        have HE := Lib.hid (show M.rightR r = false by simp [M.rightR, e0, e1, e2])
        go_enter Tryz.func25, Tryz.ntmps25
        go_wp2_with (fail)
        refine (rightInst_any _ _ _).mono ?_
        rintro e w1 ⟨rfl, hb⟩
        have B1 := Lib.hid (below_on B0.out hb)
        have X1 := Lib.hid (X0.out.on hb)
        have R1 := Lib.hid (R0.out.below hb)
        have W1 := Lib.hid (W0.out.below hb)
        clear hb
        have fX3 := X1.out.get 3 _ rfl
        have fX4 := X1.out.get 4 _ rfl
        go_wp2_with (fail)
        refine (rightBallot_any _ _ _).mono ?_
        rintro e w2 ⟨rfl, hb⟩
        have B2 := Lib.hid (below_on B1.out hb)
        have X2 := Lib.hid (X1.out.on hb)
        have R2 := Lib.hid (R1.out.below hb)
        have W2 := Lib.hid (W1.out.below hb)
        clear hb fX3 fX4
        have fX5 := X2.out.get 5 _ rfl
        have fX6 := X2.out.get 6 _ rfl
        go_wp2_with (fail)
        refine (rightBallot_any _ _ _).mono ?_
        rintro e w3 ⟨rfl, hb⟩
        have B3 := Lib.hid (below_on B2.out hb)
        have X3 := Lib.hid (X2.out.on hb)
        have R3 := Lib.hid (R2.out.below hb)
        have W3 := Lib.hid (W2.out.below hb)
        clear hb fX5 fX6
        go_wp2
        go_ret
        exact ⟨ret_bool HE.out.symm, B3.out⟩
    · skip
      have HE := Lib.hid (show M.rightR r = false by simp [M.rightR, e0, e1])
      go_enter Tryz.func25, Tryz.ntmps25
      go_wp2_with (fail)
      refine (rightInst_any _ _ _).mono ?_
      rintro e w1 ⟨rfl, hb⟩
      have B1 := Lib.hid (below_on B0.out hb)
      have X1 := Lib.hid (X0.out.on hb)
      have R1 := Lib.hid (R0.out.below hb)
      have W1 := Lib.hid (W0.out.below hb)
      clear hb
      have fX3 := X1.out.get 3 _ rfl
      have fX4 := X1.out.get 4 _ rfl
      go_wp2_with (fail)
      refine (rightBallot_any _ _ _).mono ?_
      rintro e w2 ⟨rfl, hb⟩
      have B2 := Lib.hid (below_on B1.out hb)
      have X2 := Lib.hid (X1.out.on hb)
      have R2 := Lib.hid (R1.out.below hb)
      have W2 := Lib.hid (W1.out.below hb)
      clear hb fX3 fX4
      go_wp2
      go_ret
      exact ⟨ret_bool HE.out.symm, B2.out⟩
  · skip
    have HE := Lib.hid (show M.rightR r = false by simp [M.rightR, e0])
    go_enter Tryz.func25, Tryz.ntmps25
    go_wp2_with (fail)
    refine (rightInst_any _ _ _).mono ?_
    rintro e w1 ⟨rfl, hb⟩
    have B1 := Lib.hid (below_on B0.out hb)
    have X1 := Lib.hid (X0.out.on hb)
    have R1 := Lib.hid (R0.out.below hb)
    have W1 := Lib.hid (W0.out.below hb)
    clear hb
    go_wp2
    go_ret
    exact ⟨ret_bool HE.out.symm, B1.out⟩

end Go.Proofs.YtpknkhgkejkpkaaGreat
