/- Contracts of value and Decode; no conditions but those that they name. -/
import Derived.Test.YtagngbdlpdilnaaRdj
import Derived.Test.YtagngbdlpdilnaaPur
namespace Go.Proofs.Ytagngbdlpdilnaa
open Go.ChangeShapes Go.WideShapes Go.ChangeAt Go.RowKit

/-- A value in rows of its own. -/
def OwnV (w : World) (base : Nat) : P.Val → Value → Prop
  | .inl c, x => ∃ va vb, x = .iface 33 (.agg #[.int .i64 c.k, .int .i64 c.tc, .int .i64 c.tn, .int .i64 c.tt, .int .i64 c.tk, .int .i64 c.sh, va, vb, .bool c.cm]) ∧ w.ownsRow base 74 3 va c.rs.length (rdsC c.rs) ∧ w.ownsRow base 76 2 vb c.ws.length (wrsC c.ws) ∧ c.rs.length ≤ 8 ∧ c.ws.length ≤ 8
  | .inr (.inl r), x => ∃ va vb, x = .iface 37 (.agg #[.int .i64 r.ir, .int .i64 r.is, .int .i64 r.st, .int .i64 r.pn, .int .i64 r.pr, .int .i64 r.bn, .int .i64 r.br, .int .i64 r.c.k, .int .i64 r.c.tc, .int .i64 r.c.tn, .int .i64 r.c.tt, .int .i64 r.c.tk, .int .i64 r.c.sh, va, vb, .bool r.c.cm, .int .i64 r.sq, .int .i64 r.d0, .int .i64 r.d1, .int .i64 r.d2, .int .i64 r.d3, .int .i64 r.d4, .int .i64 r.d5, .int .i64 r.d6, .bool r.kp]) ∧ w.ownsRow base 74 3 va r.c.rs.length (rdsC r.c.rs) ∧ w.ownsRow base 76 2 vb r.c.ws.length (wrsC r.c.ws) ∧ r.c.rs.length ≤ 8 ∧ r.c.ws.length ≤ 8
  | .inr (.inr m), x => ∃ va vb, x = .iface 39 (.agg #[.int .i64 m.k, .int .i64 m.fr, .int .i64 m.to, .int .i64 m.bn, .int .i64 m.br, .int .i64 m.r.ir, .int .i64 m.r.is, .int .i64 m.r.st, .int .i64 m.r.pn, .int .i64 m.r.pr, .int .i64 m.r.bn, .int .i64 m.r.br, .int .i64 m.r.c.k, .int .i64 m.r.c.tc, .int .i64 m.r.c.tn, .int .i64 m.r.c.tt, .int .i64 m.r.c.tk, .int .i64 m.r.c.sh, va, vb, .bool m.r.c.cm, .int .i64 m.r.sq, .int .i64 m.r.d0, .int .i64 m.r.d1, .int .i64 m.r.d2, .int .i64 m.r.d3, .int .i64 m.r.d4, .int .i64 m.r.d5, .int .i64 m.r.d6, .bool m.r.kp]) ∧ w.ownsRow base 74 3 va m.r.c.rs.length (rdsC m.r.c.rs) ∧ w.ownsRow base 76 2 vb m.r.c.ws.length (wrsC m.r.c.ws) ∧ m.r.c.rs.length ≤ 8 ∧ m.r.c.ws.length ≤ 8
/-- What value answers. -/
def RdV (g : Nat) (s : P.Sr) (w : World) (e : Ending) (w' : World) : Prop := ∃ (s1 : P.Sr) (x : Value), e = .returned x ∧ Rdr w' g s1 ∧ Bel g w.heap.size w w' ∧ ((s1.er ≠ 0 ∧ ∀ v, P.Ran P.val s s1 v) ∨ ∃ v, OwnV w' w.heap.size v x ∧ P.Ran P.val s s1 v)
theorem ownV_base {w : World} {base base' : Nat} {v : P.Val} {x : Value} (h : OwnV w base v x) (hb : base' ≤ base) : OwnV w base' v x := by
  rcases v with c | r | m
  · obtain ⟨va, vb, e, h1, h2, h3⟩ := h
    exact ⟨va, vb, e, ownsRow_baseN h1 hb, ownsRow_baseN h2 hb, h3⟩
  · obtain ⟨va, vb, e, h1, h2, h3⟩ := h
    exact ⟨va, vb, e, ownsRow_baseN h1 hb, ownsRow_baseN h2 hb, h3⟩
  · obtain ⟨va, vb, e, h1, h2, h3⟩ := h
    exact ⟨va, vb, e, ownsRow_baseN h1 hb, ownsRow_baseN h2 hb, h3⟩

set_option maxHeartbeats 8000000 in
set_option maxRecDepth 100000 in
theorem value_any {w : World} {g : Nat} {s : P.Sr} (h : Rdr w g s) : Calls Try.prog 53 #[.pointer (some ⟨g, 0, none⟩)] w (RdV g s w) := by
  have R0 := Lib.hid h
  clear h
  go_enter Try.func53, Try.ntmps53
  go_wp2_with (fail)
  refine (one_any R0.out).mono ?_
  rintro e w1 ⟨s1, x, rfl, hx, hr, hb, hp⟩
  have R1 := Lib.hid hr
  have B1 := Lib.hid hb
  have P1 := Lib.hid hp
  clear hr hb hp hx
  by_cases h1 : x = 1
  · subst h1
    go_wp2_with (fail)
    refine (command_any R1.out).mono ?_
    rintro e w2 ⟨s2, c, va, vb, rfl, ha, hb1, hr, hb, hp, hl1, hl2⟩
    have R2 := Lib.hid hr
    have B2 := Lib.hid (B1.out.trans hb B1.out.size)
    have P2 := Lib.hid hp
    have K1 := Lib.hid (ownsRow_baseN ha B1.out.size)
    have K2 := Lib.hid (ownsRow_baseN hb1 B1.out.size)
    have N := Lib.hid (And.intro hl1 hl2)
    clear hr hb hp ha hb1 hl1 hl2
    go_wp2
    go_ret
    refine ⟨s2, _, rfl, R2.out, B2.out, .inr ⟨.inl c, ⟨va, vb, rfl, K1.out, K2.out, N.out⟩, ?_⟩⟩
    refine P.Ran.bind P.errs_one P1.out ?_
    rw [if_pos rfl]
    exact P.Ran.bind P.errs_cmd P2.out (P.Ran.ret _ _)
  · have q1 : ((x : Int) == 1) = false := by rw [beq_eq_false_iff_ne]; omega
    by_cases h2 : x = 2
    · subst h2
      clear h1
      go_wp2_with (fail)
      refine (record_any R1.out).mono ?_
      rintro e w2 ⟨s2, c, va, vb, rfl, ha, hb1, hr, hb, hp, hl1, hl2⟩
      have R2 := Lib.hid hr
      have B2 := Lib.hid (B1.out.trans hb B1.out.size)
      have P2 := Lib.hid hp
      have K1 := Lib.hid (ownsRow_baseN ha B1.out.size)
      have K2 := Lib.hid (ownsRow_baseN hb1 B1.out.size)
      have N := Lib.hid (And.intro hl1 hl2)
      clear hr hb hp ha hb1 hl1 hl2
      go_wp2
      go_ret
      refine ⟨s2, _, rfl, R2.out, B2.out, .inr ⟨.inr (.inl c), ⟨va, vb, rfl, K1.out, K2.out, N.out⟩, ?_⟩⟩
      refine P.Ran.bind P.errs_one P1.out ?_
      rw [if_neg (by omega), if_pos rfl]
      exact P.Ran.bind P.errs_rcd P2.out (P.Ran.ret _ _)
    · have q2 : ((x : Int) == 2) = false := by rw [beq_eq_false_iff_ne]; omega
      by_cases h3 : x = 3
      · subst h3
        clear h1 h2
        go_wp2_with (fail)
        refine (message_any R1.out).mono ?_
        rintro e w2 ⟨s2, c, va, vb, rfl, ha, hb1, hr, hb, hp, hl1, hl2⟩
        have R2 := Lib.hid hr
        have B2 := Lib.hid (B1.out.trans hb B1.out.size)
        have P2 := Lib.hid hp
        have K1 := Lib.hid (ownsRow_baseN ha B1.out.size)
        have K2 := Lib.hid (ownsRow_baseN hb1 B1.out.size)
        have N := Lib.hid (And.intro hl1 hl2)
        clear hr hb hp ha hb1 hl1 hl2
        go_wp2
        go_ret
        refine ⟨s2, _, rfl, R2.out, B2.out, .inr ⟨.inr (.inr c), ⟨va, vb, rfl, K1.out, K2.out, N.out⟩, ?_⟩⟩
        refine P.Ran.bind P.errs_one P1.out ?_
        rw [if_neg (by omega), if_neg (by omega), if_pos rfl]
        exact P.Ran.bind P.errs_msg P2.out (P.Ran.ret _ _)
      · have q3 : ((x : Int) == 3) = false := by rw [beq_eq_false_iff_ne]; omega
        have H := Lib.hid (And.intro h1 (And.intro h2 h3))
        clear h1 h2 h3
        go_wp2_with (fail)
        refine (fail_any 4 rfl R1.out).mono ?_
        rintro e w2 ⟨rfl, hr, hb⟩
        have R2 := Lib.hid hr
        have B2 := Lib.hid (B1.out.trans hb B1.out.size)
        clear hr hb
        go_wp2
        go_ret
        refine ⟨_, _, rfl, R2.out, B2.out, .inl ⟨P.fail_er (by omega), fun v => ?_⟩⟩
        refine P.Ran.bind P.errs_one P1.out ?_
        rw [if_neg H.out.1, if_neg H.out.2.1, if_neg H.out.2.2]
        exact P.Ran.err _ _
end Go.Proofs.Ytagngbdlpdilnaa
