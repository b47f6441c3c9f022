/- Contracts of isRequest and of its closure; no conditions but those that they name. -/
import Derived.Test.YtpknkhgkejkpkaaGreatAcc
namespace Go.Proofs.YtpknkhgkejkpkaaGreat
open Go.ChangeShapes Go.WideShapes Go.ChangeAt Go.RowKit

attribute [local go_sem ↓] run_same_ballot
set_option maxHeartbeats 8000000 in
set_option maxRecDepth 100000 in
theorem brings_any {w : World} {g : Nat} (m : M.Msg) {va vb : Value} (H : Hold w g 49 [.int .i64 m.k, .int .i64 m.fr, .int .i64 m.to, .int .i64 m.bn, .int .i64 m.br, .int .i64 m.r.ir, .int .i64 m.r.is, .int .i64 m.r.st, .int .i64 m.r.pn, .int .i64 m.r.pr, .int .i64 m.r.bn, .int .i64 m.r.br, .int .i64 m.r.c.k, .int .i64 m.r.c.tc, .int .i64 m.r.c.tn, .int .i64 m.r.c.tt, .int .i64 m.r.c.tk, .int .i64 m.r.c.sh, va, vb, .bool m.r.c.cm, .int .i64 m.r.sq, .int .i64 m.r.d0, .int .i64 m.r.d1, .int .i64 m.r.d2, .int .i64 m.r.d3, .int .i64 m.r.d4, .int .i64 m.r.d5, .int .i64 m.r.d6, .bool m.r.kp]) (a b : Int) :
    Calls Tryz.prog 66 #[.int .i64 a, .int .i64 b, .pointer (some ⟨g, 0, none⟩)] w fun e w' => e = .returned (.bool (M.brings m a b)) ∧ w = w' := by
  have c0 : w.cell? ⟨g, 0, none⟩ = some (.int .i64 m.k) := hold_cell H 0 rfl
  have c3 : w.cell? ⟨g, 3, none⟩ = some (.int .i64 m.bn) := hold_cell H 3 rfl
  have c4 : w.cell? ⟨g, 4, none⟩ = some (.int .i64 m.br) := hold_cell H 4 rfl
  have c6 : w.cell? ⟨g, 7, none⟩ = some (.int .i64 m.r.st) := hold_cell H 7 rfl
  have c10 : w.cell? ⟨g, 10, none⟩ = some (.int .i64 m.r.bn) := hold_cell H 10 rfl
  have c11 : w.cell? ⟨g, 11, none⟩ = some (.int .i64 m.r.br) := hold_cell H 11 rfl
  clear H
  by_cases h1 : m.k = a
  · obtain ⟨p1, p2⟩ := eqI h1
    by_cases h2 : m.r.st = b
    · obtain ⟨q1, q2⟩ := eqI h2
      by_cases h3 : a = 5
      · obtain ⟨r1, r2⟩ := eqI h3
        have HE := Lib.hid (show M.brings m a b = true by unfold M.brings; rw [decide_eq_true h1, decide_eq_true h2, decide_eq_true h3]; rfl)
        rw [HE.out]
        clear h1 h2 h3
        go_enter Tryz.func66, Tryz.ntmps66
        go_wp2
        go_ret
        exact ⟨rfl, rfl⟩
      · obtain ⟨r1, r2⟩ := neI h3
        have HE := Lib.hid (show M.brings m a b = M.eq2 m.r.bn m.r.br m.bn m.br by unfold M.brings; rw [decide_eq_true h1, decide_eq_true h2, decide_eq_false h3]; rfl)
        rw [HE.out]
        clear h1 h2 h3
        rcases hq : M.eq2 m.r.bn m.r.br m.bn m.br with _ | _
        all_goals
          go_enter Tryz.func66, Tryz.ntmps66
          go_wp2
          go_ret
          exact ⟨rfl, rfl⟩
    · obtain ⟨q1, q2⟩ := neI h2
      have HE := Lib.hid (show M.brings m a b = false by unfold M.brings; rw [decide_eq_true h1, decide_eq_false h2]; rfl)
      rw [HE.out]
      clear h1 h2
      go_enter Tryz.func66, Tryz.ntmps66
      go_wp2
      go_ret
      exact ⟨rfl, rfl⟩
  · obtain ⟨p1, p2⟩ := neI h1
    have HE := Lib.hid (show M.brings m a b = false by unfold M.brings; rw [decide_eq_false h1]; rfl)
    rw [HE.out]
    clear h1
    go_enter Tryz.func66, Tryz.ntmps66
    go_wp2
    go_ret
    exact ⟨rfl, rfl⟩
set_option maxHeartbeats 8000000 in
set_option maxRecDepth 100000 in
theorem isReq_any {w : World} (m : M.Msg) {va vb : Value} (hm : Txt w ⟨m.r, va, vb⟩) (F : M.Mod m.r.c) (self : Int) :
    Calls Tryz.prog 35 #[.agg #[.int .i64 m.k, .int .i64 m.fr, .int .i64 m.to, .int .i64 m.bn, .int .i64 m.br, .int .i64 m.r.ir, .int .i64 m.r.is, .int .i64 m.r.st, .int .i64 m.r.pn, .int .i64 m.r.pr, .int .i64 m.r.bn, .int .i64 m.r.br, .int .i64 m.r.c.k, .int .i64 m.r.c.tc, .int .i64 m.r.c.tn, .int .i64 m.r.c.tt, .int .i64 m.r.c.tk, .int .i64 m.r.c.sh, va, vb, .bool m.r.c.cm, .int .i64 m.r.sq, .int .i64 m.r.d0, .int .i64 m.r.d1, .int .i64 m.r.d2, .int .i64 m.r.d3, .int .i64 m.r.d4, .int .i64 m.r.d5, .int .i64 m.r.d6, .bool m.r.kp], .int .i64 self] w fun e w' => e = .returned (.bool (M.reqB m self)) ∧ Below w.heap.size w w' := by
  have hmf := hmf
  have H0 := Lib.hid (show Hold (w.alloc (.cells #[.int .i64 m.k, .int .i64 m.fr, .int .i64 m.to, .int .i64 m.bn, .int .i64 m.br, .int .i64 m.r.ir, .int .i64 m.r.is, .int .i64 m.r.st, .int .i64 m.r.pn, .int .i64 m.r.pr, .int .i64 m.r.bn, .int .i64 m.r.br, .int .i64 m.r.c.k, .int .i64 m.r.c.tc, .int .i64 m.r.c.tn, .int .i64 m.r.c.tt, .int .i64 m.r.c.tk, .int .i64 m.r.c.sh, va, vb, .bool m.r.c.cm, .int .i64 m.r.sq, .int .i64 m.r.d0, .int .i64 m.r.d1, .int .i64 m.r.d2, .int .i64 m.r.d3, .int .i64 m.r.d4, .int .i64 m.r.d5, .int .i64 m.r.d6, .bool m.r.kp] 49)) w.heap.size 49 [.int .i64 m.k, .int .i64 m.fr, .int .i64 m.to, .int .i64 m.bn, .int .i64 m.br, .int .i64 m.r.ir, .int .i64 m.r.is, .int .i64 m.r.st, .int .i64 m.r.pn, .int .i64 m.r.pr, .int .i64 m.r.bn, .int .i64 m.r.br, .int .i64 m.r.c.k, .int .i64 m.r.c.tc, .int .i64 m.r.c.tn, .int .i64 m.r.c.tt, .int .i64 m.r.c.tk, .int .i64 m.r.c.sh, va, vb, .bool m.r.c.cm, .int .i64 m.r.sq, .int .i64 m.r.d0, .int .i64 m.r.d1, .int .i64 m.r.d2, .int .i64 m.r.d3, .int .i64 m.r.d4, .int .i64 m.r.d5, .int .i64 m.r.d6, .bool m.r.kp] from Hold.new w [.int .i64 m.k, .int .i64 m.fr, .int .i64 m.to, .int .i64 m.bn, .int .i64 m.br, .int .i64 m.r.ir, .int .i64 m.r.is, .int .i64 m.r.st, .int .i64 m.r.pn, .int .i64 m.r.pr, .int .i64 m.r.bn, .int .i64 m.r.br, .int .i64 m.r.c.k, .int .i64 m.r.c.tc, .int .i64 m.r.c.tn, .int .i64 m.r.c.tt, .int .i64 m.r.c.tk, .int .i64 m.r.c.sh, va, vb, .bool m.r.c.cm, .int .i64 m.r.sq, .int .i64 m.r.d0, .int .i64 m.r.d1, .int .i64 m.r.d2, .int .i64 m.r.d3, .int .i64 m.r.d4, .int .i64 m.r.d5, .int .i64 m.r.d6, .bool m.r.kp] 49)
  have HB := Lib.hid (show Below w.heap.size w (w.alloc (.cells #[.int .i64 m.k, .int .i64 m.fr, .int .i64 m.to, .int .i64 m.bn, .int .i64 m.br, .int .i64 m.r.ir, .int .i64 m.r.is, .int .i64 m.r.st, .int .i64 m.r.pn, .int .i64 m.r.pr, .int .i64 m.r.bn, .int .i64 m.r.br, .int .i64 m.r.c.k, .int .i64 m.r.c.tc, .int .i64 m.r.c.tn, .int .i64 m.r.c.tt, .int .i64 m.r.c.tk, .int .i64 m.r.c.sh, va, vb, .bool m.r.c.cm, .int .i64 m.r.sq, .int .i64 m.r.d0, .int .i64 m.r.d1, .int .i64 m.r.d2, .int .i64 m.r.d3, .int .i64 m.r.d4, .int .i64 m.r.d5, .int .i64 m.r.d6, .bool m.r.kp] 49)) from below_new (Below.refl _ _))
  have HR := Lib.hid (right_msg m (hm.below HB.out).rs (hm.below HB.out).ws F.l F.l')
  have c2 : (w.alloc (.cells #[.int .i64 m.k, .int .i64 m.fr, .int .i64 m.to, .int .i64 m.bn, .int .i64 m.br, .int .i64 m.r.ir, .int .i64 m.r.is, .int .i64 m.r.st, .int .i64 m.r.pn, .int .i64 m.r.pr, .int .i64 m.r.bn, .int .i64 m.r.br, .int .i64 m.r.c.k, .int .i64 m.r.c.tc, .int .i64 m.r.c.tn, .int .i64 m.r.c.tt, .int .i64 m.r.c.tk, .int .i64 m.r.c.sh, va, vb, .bool m.r.c.cm, .int .i64 m.r.sq, .int .i64 m.r.d0, .int .i64 m.r.d1, .int .i64 m.r.d2, .int .i64 m.r.d3, .int .i64 m.r.d4, .int .i64 m.r.d5, .int .i64 m.r.d6, .bool m.r.kp] 49)).cell? ⟨w.heap.size, 2, none⟩ = some (.int .i64 m.to) := hold_cell H0.out 2 rfl
  clear hm
  by_cases h1 : m.to = self
  · obtain ⟨p1, p2⟩ := eqI h1
    have d1 : decide (m.to = self) = true := decide_eq_true h1
    clear h1
    rcases h2 : M.rightM m with _ | _
    · rw [h2] at HR
      have HE := Lib.hid (show M.reqB m self = false by unfold M.reqB; rw [d1, h2]; rfl)
      rw [HE.out]
      go_enter Tryz.func35, Tryz.ntmps35
      go_wp2_with (first
      | (with_reducible refine wpList_load_mid_g ?_ 49 _ rfl w.heap.size 0 rfl [.int .i64 m.k, .int .i64 m.fr, .int .i64 m.to, .int .i64 m.bn, .int .i64 m.br, .int .i64 m.r.ir, .int .i64 m.r.is, .int .i64 m.r.st, .int .i64 m.r.pn, .int .i64 m.r.pr, .int .i64 m.r.bn, .int .i64 m.r.br, .int .i64 m.r.c.k, .int .i64 m.r.c.tc, .int .i64 m.r.c.tn, .int .i64 m.r.c.tt, .int .i64 m.r.c.tk, .int .i64 m.r.c.sh, va, vb, .bool m.r.c.cm, .int .i64 m.r.sq, .int .i64 m.r.d0, .int .i64 m.r.d1, .int .i64 m.r.d2, .int .i64 m.r.d3, .int .i64 m.r.d4, .int .i64 m.r.d5, .int .i64 m.r.d6, .bool m.r.kp] _ H0.out.cel.whole Tryz.underlying49 rfl (by kernel_rfl) ?_; kernel_rfl)
      | (go_at_call 67
         refine HR.out.mono ?_
         rintro e w1 ⟨rfl, hb⟩
         have HB1 := Lib.hid (below_on HB.out hb)
         have H1 := H0.out.on hb
         have HH1 := Lib.hid H1
         have c0 : w1.cell? ⟨w.heap.size, 0, none⟩ = some (.int .i64 m.k) := hold_cell H1 0 rfl
         clear hb H1)
      | (go_at_call 66
         with_reducible refine (brings_any m HH1.out _ _).mono ?_
         rintro e w2 ⟨rfl, rfl⟩)
      | fail)
      go_ret
      exact ⟨rfl, HB1.out⟩
    · rw [h2] at HR
      by_cases h6 : m.k = 6
      · obtain ⟨q1, q2⟩ := eqI h6
        have HE := Lib.hid (show M.reqB m self = true by unfold M.reqB; rw [d1, h2, decide_eq_true h6]; rfl)
        rw [HE.out]
        clear h6
        go_enter Tryz.func35, Tryz.ntmps35
        go_wp2_with (first
        | (with_reducible refine wpList_load_mid_g ?_ 49 _ rfl w.heap.size 0 rfl [.int .i64 m.k, .int .i64 m.fr, .int .i64 m.to, .int .i64 m.bn, .int .i64 m.br, .int .i64 m.r.ir, .int .i64 m.r.is, .int .i64 m.r.st, .int .i64 m.r.pn, .int .i64 m.r.pr, .int .i64 m.r.bn, .int .i64 m.r.br, .int .i64 m.r.c.k, .int .i64 m.r.c.tc, .int .i64 m.r.c.tn, .int .i64 m.r.c.tt, .int .i64 m.r.c.tk, .int .i64 m.r.c.sh, va, vb, .bool m.r.c.cm, .int .i64 m.r.sq, .int .i64 m.r.d0, .int .i64 m.r.d1, .int .i64 m.r.d2, .int .i64 m.r.d3, .int .i64 m.r.d4, .int .i64 m.r.d5, .int .i64 m.r.d6, .bool m.r.kp] _ H0.out.cel.whole Tryz.underlying49 rfl (by kernel_rfl) ?_; kernel_rfl)
        | (go_at_call 67
           refine HR.out.mono ?_
           rintro e w1 ⟨rfl, hb⟩
           have HB1 := Lib.hid (below_on HB.out hb)
           have H1 := H0.out.on hb
           have HH1 := Lib.hid H1
           have c0 : w1.cell? ⟨w.heap.size, 0, none⟩ = some (.int .i64 m.k) := hold_cell H1 0 rfl
           clear hb H1)
        | (go_at_call 66
           with_reducible refine (brings_any m HH1.out _ _).mono ?_
           rintro e w2 ⟨rfl, rfl⟩)
        | fail)
        go_ret
        exact ⟨rfl, HB1.out⟩
      · obtain ⟨q1, q2⟩ := neI h6
        have d6 : decide (m.k = 6) = false := decide_eq_false h6
        clear h6
        rcases h3 : M.brings m 1 1 with _ | _
        · rcases h4 : M.brings m 3 2 with _ | _
          · rcases h5 : M.brings m 5 3 with _ | _
            · skip
              have HE := Lib.hid (show M.reqB m self = false by unfold M.reqB; rw [d1, h2, d6, h3, h4, h5]; rfl)
              rw [HE.out]
              go_enter Tryz.func35, Tryz.ntmps35
              go_wp2_with (first
              | (with_reducible refine wpList_load_mid_g ?_ 49 _ rfl w.heap.size 0 rfl [.int .i64 m.k, .int .i64 m.fr, .int .i64 m.to, .int .i64 m.bn, .int .i64 m.br, .int .i64 m.r.ir, .int .i64 m.r.is, .int .i64 m.r.st, .int .i64 m.r.pn, .int .i64 m.r.pr, .int .i64 m.r.bn, .int .i64 m.r.br, .int .i64 m.r.c.k, .int .i64 m.r.c.tc, .int .i64 m.r.c.tn, .int .i64 m.r.c.tt, .int .i64 m.r.c.tk, .int .i64 m.r.c.sh, va, vb, .bool m.r.c.cm, .int .i64 m.r.sq, .int .i64 m.r.d0, .int .i64 m.r.d1, .int .i64 m.r.d2, .int .i64 m.r.d3, .int .i64 m.r.d4, .int .i64 m.r.d5, .int .i64 m.r.d6, .bool m.r.kp] _ H0.out.cel.whole Tryz.underlying49 rfl (by kernel_rfl) ?_; kernel_rfl)
              | (go_at_call 67
                 refine HR.out.mono ?_
                 rintro e w1 ⟨rfl, hb⟩
                 have HB1 := Lib.hid (below_on HB.out hb)
                 have H1 := H0.out.on hb
                 have HH1 := Lib.hid H1
                 have c0 : w1.cell? ⟨w.heap.size, 0, none⟩ = some (.int .i64 m.k) := hold_cell H1 0 rfl
                 clear hb H1)
              | (go_at_call 66
                 with_reducible refine (brings_any m HH1.out _ _).mono ?_
                 rintro e w2 ⟨rfl, rfl⟩)
              | fail)
              go_ret
              exact ⟨rfl, HB1.out⟩
            · skip
              have HE := Lib.hid (show M.reqB m self = true by unfold M.reqB; rw [d1, h2, d6, h3, h4, h5]; rfl)
              rw [HE.out]
              go_enter Tryz.func35, Tryz.ntmps35
              go_wp2_with (first
              | (with_reducible refine wpList_load_mid_g ?_ 49 _ rfl w.heap.size 0 rfl [.int .i64 m.k, .int .i64 m.fr, .int .i64 m.to, .int .i64 m.bn, .int .i64 m.br, .int .i64 m.r.ir, .int .i64 m.r.is, .int .i64 m.r.st, .int .i64 m.r.pn, .int .i64 m.r.pr, .int .i64 m.r.bn, .int .i64 m.r.br, .int .i64 m.r.c.k, .int .i64 m.r.c.tc, .int .i64 m.r.c.tn, .int .i64 m.r.c.tt, .int .i64 m.r.c.tk, .int .i64 m.r.c.sh, va, vb, .bool m.r.c.cm, .int .i64 m.r.sq, .int .i64 m.r.d0, .int .i64 m.r.d1, .int .i64 m.r.d2, .int .i64 m.r.d3, .int .i64 m.r.d4, .int .i64 m.r.d5, .int .i64 m.r.d6, .bool m.r.kp] _ H0.out.cel.whole Tryz.underlying49 rfl (by kernel_rfl) ?_; kernel_rfl)
              | (go_at_call 67
                 refine HR.out.mono ?_
                 rintro e w1 ⟨rfl, hb⟩
                 have HB1 := Lib.hid (below_on HB.out hb)
                 have H1 := H0.out.on hb
                 have HH1 := Lib.hid H1
                 have c0 : w1.cell? ⟨w.heap.size, 0, none⟩ = some (.int .i64 m.k) := hold_cell H1 0 rfl
                 clear hb H1)
              | (go_at_call 66
                 with_reducible refine (brings_any m HH1.out _ _).mono ?_
                 rintro e w2 ⟨rfl, rfl⟩)
              | fail)
              go_ret
              exact ⟨rfl, HB1.out⟩
          · skip
            have HE := Lib.hid (show M.reqB m self = true by unfold M.reqB; rw [d1, h2, d6, h3, h4]; rfl)
            rw [HE.out]
            go_enter Tryz.func35, Tryz.ntmps35
            go_wp2_with (first
            | (with_reducible refine wpList_load_mid_g ?_ 49 _ rfl w.heap.size 0 rfl [.int .i64 m.k, .int .i64 m.fr, .int .i64 m.to, .int .i64 m.bn, .int .i64 m.br, .int .i64 m.r.ir, .int .i64 m.r.is, .int .i64 m.r.st, .int .i64 m.r.pn, .int .i64 m.r.pr, .int .i64 m.r.bn, .int .i64 m.r.br, .int .i64 m.r.c.k, .int .i64 m.r.c.tc, .int .i64 m.r.c.tn, .int .i64 m.r.c.tt, .int .i64 m.r.c.tk, .int .i64 m.r.c.sh, va, vb, .bool m.r.c.cm, .int .i64 m.r.sq, .int .i64 m.r.d0, .int .i64 m.r.d1, .int .i64 m.r.d2, .int .i64 m.r.d3, .int .i64 m.r.d4, .int .i64 m.r.d5, .int .i64 m.r.d6, .bool m.r.kp] _ H0.out.cel.whole Tryz.underlying49 rfl (by kernel_rfl) ?_; kernel_rfl)
            | (go_at_call 67
               refine HR.out.mono ?_
               rintro e w1 ⟨rfl, hb⟩
               have HB1 := Lib.hid (below_on HB.out hb)
               have H1 := H0.out.on hb
               have HH1 := Lib.hid H1
               have c0 : w1.cell? ⟨w.heap.size, 0, none⟩ = some (.int .i64 m.k) := hold_cell H1 0 rfl
               clear hb H1)
            | (go_at_call 66
               with_reducible refine (brings_any m HH1.out _ _).mono ?_
               rintro e w2 ⟨rfl, rfl⟩)
            | fail)
            go_ret
            exact ⟨rfl, HB1.out⟩
        · skip
          have HE := Lib.hid (show M.reqB m self = true by unfold M.reqB; rw [d1, h2, d6, h3]; rfl)
          rw [HE.out]
          go_enter Tryz.func35, Tryz.ntmps35
          go_wp2_with (first
          | (with_reducible refine wpList_load_mid_g ?_ 49 _ rfl w.heap.size 0 rfl [.int .i64 m.k, .int .i64 m.fr, .int .i64 m.to, .int .i64 m.bn, .int .i64 m.br, .int .i64 m.r.ir, .int .i64 m.r.is, .int .i64 m.r.st, .int .i64 m.r.pn, .int .i64 m.r.pr, .int .i64 m.r.bn, .int .i64 m.r.br, .int .i64 m.r.c.k, .int .i64 m.r.c.tc, .int .i64 m.r.c.tn, .int .i64 m.r.c.tt, .int .i64 m.r.c.tk, .int .i64 m.r.c.sh, va, vb, .bool m.r.c.cm, .int .i64 m.r.sq, .int .i64 m.r.d0, .int .i64 m.r.d1, .int .i64 m.r.d2, .int .i64 m.r.d3, .int .i64 m.r.d4, .int .i64 m.r.d5, .int .i64 m.r.d6, .bool m.r.kp] _ H0.out.cel.whole Tryz.underlying49 rfl (by kernel_rfl) ?_; kernel_rfl)
          | (go_at_call 67
             refine HR.out.mono ?_
             rintro e w1 ⟨rfl, hb⟩
             have HB1 := Lib.hid (below_on HB.out hb)
             have H1 := H0.out.on hb
             have HH1 := Lib.hid H1
             have c0 : w1.cell? ⟨w.heap.size, 0, none⟩ = some (.int .i64 m.k) := hold_cell H1 0 rfl
             clear hb H1)
          | (go_at_call 66
             with_reducible refine (brings_any m HH1.out _ _).mono ?_
             rintro e w2 ⟨rfl, rfl⟩)
          | fail)
          go_ret
          exact ⟨rfl, HB1.out⟩
  · obtain ⟨p1, p2⟩ := neI h1
    have HE := Lib.hid (show M.reqB m self = false by unfold M.reqB; rw [decide_eq_false h1]; rfl)
    rw [HE.out]
    clear h1
    go_enter Tryz.func35, Tryz.ntmps35
    go_wp2
    go_ret
    exact ⟨rfl, HB.out⟩
end Go.Proofs.YtpknkhgkejkpkaaGreat
