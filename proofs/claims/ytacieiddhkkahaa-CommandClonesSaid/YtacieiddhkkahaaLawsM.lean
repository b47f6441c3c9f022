/- Few at one command and at two; the walk of CommandMeets; no conditions. -/
import Derived.Test.YtacieiddhkkahaaCmdsI
import Derived.Test.YtacieiddhkkahaaCmdsM
namespace Go.Proofs.Ytacieiddhkkahaa
open Go.ChangeShapes Go.WideShapes Go.ChangeAt Go.RowKit
attribute [local go_sem ↓] run_same_rd run_same_wr run_same_txn run_same_stamp

/-- True, and all that was there is as it was. -/
def Yes (w : World) (e : Ending) (w' : World) : Prop := e = .returned (.bool true) ∧ Below w.heap.size w w'

theorem few_one {w : World} {b : Nat} (hb : b = w.heap.size) (a : M.Cmd) {va vb : Value} (h : Rds w va a.rs) (h' : Wrs w vb a.ws) : Calls Try.prog 8 #[.slice (some ⟨b, 0, none⟩) 1 1] (w.alloc (.cells #[.int .i64 a.k, .int .i64 a.tc, .int .i64 a.tn, .int .i64 a.tt, .int .i64 a.tk, .int .i64 a.sh, va, vb, .bool a.cm] 29)) fun e w' => e = .returned (.bool (M.modB a)) ∧ Below (w.alloc (.cells #[.int .i64 a.k, .int .i64 a.tc, .int .i64 a.tn, .int .i64 a.tt, .int .i64 a.tk, .int .i64 a.sh, va, vb, .bool a.cm] 29)).heap.size (w.alloc (.cells #[.int .i64 a.k, .int .i64 a.tc, .int .i64 a.tn, .int .i64 a.tt, .int .i64 a.tk, .int .i64 a.sh, va, vb, .bool a.cm] 29)) w' := by
  subst hb
  have := few_any (w := w.alloc (.cells #[.int .i64 a.k, .int .i64 a.tc, .int .i64 a.tn, .int .i64 a.tt, .int .i64 a.tk, .int .i64 a.sh, va, vb, .bool a.cm] 29)) (b := w.heap.size) (o := 0) (n := 1) (fun _ => a) (fun _ => va) (fun _ => vb) (by omega) (fun j hj => by
    obtain rfl : j = 0 := by omega
    exact ⟨by simp, by simp, by simp, by simp, by simp, by simp, by simp, by simp, by simp, by simp⟩) (fun j _ => h.push _) (fun j _ => h'.push _)
  refine this.mono fun e w' hh => ⟨?_, hh.2⟩
  rw [hh.1]; simp
theorem few_two {w : World} {x : Nat} (hx : x = w.heap.size) (a b : M.Cmd) {va vb ua ub : Value} (h : Rds w va a.rs) (h' : Wrs w vb a.ws) (g : Rds w ua b.rs) (g' : Wrs w ub b.ws) : Calls Try.prog 8 #[.slice (some ⟨x, 0, none⟩) 2 2] (w.alloc (.cells #[.int .i64 a.k, .int .i64 a.tc, .int .i64 a.tn, .int .i64 a.tt, .int .i64 a.tk, .int .i64 a.sh, va, vb, .bool a.cm, .int .i64 b.k, .int .i64 b.tc, .int .i64 b.tn, .int .i64 b.tt, .int .i64 b.tk, .int .i64 b.sh, ua, ub, .bool b.cm] 29)) fun e w' => e = .returned (.bool (M.modB a && M.modB b)) ∧ Below (w.alloc (.cells #[.int .i64 a.k, .int .i64 a.tc, .int .i64 a.tn, .int .i64 a.tt, .int .i64 a.tk, .int .i64 a.sh, va, vb, .bool a.cm, .int .i64 b.k, .int .i64 b.tc, .int .i64 b.tn, .int .i64 b.tt, .int .i64 b.tk, .int .i64 b.sh, ua, ub, .bool b.cm] 29)).heap.size (w.alloc (.cells #[.int .i64 a.k, .int .i64 a.tc, .int .i64 a.tn, .int .i64 a.tt, .int .i64 a.tk, .int .i64 a.sh, va, vb, .bool a.cm, .int .i64 b.k, .int .i64 b.tc, .int .i64 b.tn, .int .i64 b.tt, .int .i64 b.tk, .int .i64 b.sh, ua, ub, .bool b.cm] 29)) w' := by
  subst hx
  have := few_any (w := w.alloc (.cells #[.int .i64 a.k, .int .i64 a.tc, .int .i64 a.tn, .int .i64 a.tt, .int .i64 a.tk, .int .i64 a.sh, va, vb, .bool a.cm, .int .i64 b.k, .int .i64 b.tc, .int .i64 b.tn, .int .i64 b.tt, .int .i64 b.tk, .int .i64 b.sh, ua, ub, .bool b.cm] 29)) (b := w.heap.size) (o := 0) (n := 2) (fun j => if j = 0 then a else b) (fun j => if j = 0 then va else ua) (fun j => if j = 0 then vb else ub) (by omega) (fun j hj => by
    have h2 : j = 0 ∨ j = 1 := by omega
    rcases h2 with rfl | rfl
    · exact ⟨by simp, by simp, by simp, by simp, by simp, by simp, by simp, by simp, by simp, by simp⟩
    · exact ⟨by simp, by simp, by simp, by simp, by simp, by simp, by simp, by simp, by simp, by simp⟩) (fun j hj => by
    have h2 : j = 0 ∨ j = 1 := by omega
    rcases h2 with rfl | rfl
    · exact h.push _
    · exact g.push _) (fun j hj => by
    have h2 : j = 0 ∨ j = 1 := by omega
    rcases h2 with rfl | rfl
    · exact h'.push _
    · exact g'.push _)
  refine this.mono fun e w' hh => ⟨?_, hh.2⟩
  rw [hh.1]; simp [List.range_succ]

namespace M
theorem eq2_comm (a b c d : Int) : eq2 a b c d = eq2 c d a b := by
  unfold eq2
  exact decide_eq_decide.2 ⟨fun h => ⟨h.1.symm, h.2.symm⟩, fun h => ⟨h.1.symm, h.2.symm⟩⟩
theorem eq2_refl (a b : Int) : eq2 a b a b = true := by simp [eq2]
theorem meet_comm (l m : List (List UInt8)) : meetB l m = meetB m l := by
  rw [Bool.eq_iff_iff, meetB_iff, meetB_iff]
  exact ⟨fun ⟨x, h1, h2⟩ => ⟨x, h2, h1⟩, fun ⟨x, h1, h2⟩ => ⟨x, h2, h1⟩⟩
theorem inter_comm (a b : Cmd) : interB a b = interB b a := by
  unfold interB
  by_cases h1 : a.k = 0
  · by_cases h2 : b.k = 0
    · simp [h1, h2]
    · simp [h1, h2]
  · by_cases h2 : b.k = 0
    · simp [h1, h2]
    · simp only [h1, h2, if_false]; rw [eq2_comm, meet_comm]
theorem inter_self (a : Cmd) : (interB a a == (a.k != 0)) = true := by
  unfold interB
  by_cases h1 : a.k = 0
  · simp [h1]
  · simp [h1, eq2_refl]
theorem inter_zero (a : Cmd) : interB a zero = false := by unfold interB; simp [zero]
theorem right_zero : rightC zero = true := by kernel_rfl
def dec (c : Cmd) (cm : Bool) : Cmd := ⟨2, c.tc, c.tn, c.tt, c.tk, c.sh, c.rs, c.ws, cm⟩
theorem dec_inter {c : Cmd} (cm : Bool) (h : decB c = true) : interB c (dec c cm) = true := by
  unfold decB at h
  rw [Bool.and_eq_true, decide_eq_true_eq] at h
  unfold interB dec
  simp [h.2, eq2_refl]
theorem dec_right {c : Cmd} (cm : Bool) (h : decB c = true) : rightC (dec c cm) = true := by
  unfold decB at h
  rw [Bool.and_eq_true, decide_eq_true_eq] at h
  have h1 := h.1
  unfold rightC at h1
  rw [if_neg (by omega), if_pos h.2, Bool.and_eq_true] at h1
  have e : transB (dec c cm) = transB c := rfl
  unfold rightC
  have k2 : (dec c cm).k = 2 := rfl
  rw [k2, if_neg (by omega), if_neg (by omega), if_pos rfl, e]
  exact h1.1
theorem dec_mod {c : Cmd} (cm : Bool) (h : Mod c) : Mod (dec c cm) := ⟨h.r, h.w, h.rk, h.wk, h.wv⟩
theorem zero_mod : Mod zero := ⟨by decide, by decide, by decide, by decide, by decide⟩
end M

set_option maxHeartbeats 8000000 in
set_option maxRecDepth 100000 in
theorem meets_law (a b : M.Cmd) (cm : Bool) {va vb ua ub : Value} (w : World) (h : Rds w va a.rs) (h' : Wrs w vb a.ws) (g : Rds w ua b.rs) (g' : Wrs w ub b.ws) : Calls Try.prog 6 #[.agg #[.int .i64 a.k, .int .i64 a.tc, .int .i64 a.tn, .int .i64 a.tt, .int .i64 a.tk, .int .i64 a.sh, va, vb, .bool a.cm], .agg #[.int .i64 b.k, .int .i64 b.tc, .int .i64 b.tn, .int .i64 b.tt, .int .i64 b.tk, .int .i64 b.sh, ua, ub, .bool b.cm], .bool cm] w (Yes w) := by
  have X0 := Lib.hid (((Box.new w a va vb).push (.cells #[.int .i64 b.k, .int .i64 b.tc, .int .i64 b.tn, .int .i64 b.tt, .int .i64 b.tk, .int .i64 b.sh, ua, ub, .bool b.cm] 29)).push (.cells #[.int .i64 a.k, .int .i64 a.tc, .int .i64 a.tn, .int .i64 a.tt, .int .i64 a.tk, .int .i64 a.sh, va, vb, .bool a.cm, .int .i64 b.k, .int .i64 b.tc, .int .i64 b.tn, .int .i64 b.tt, .int .i64 b.tk, .int .i64 b.sh, ua, ub, .bool b.cm] 29))
  have Y0 := Lib.hid ((Box.new1 w (.cells #[.int .i64 a.k, .int .i64 a.tc, .int .i64 a.tn, .int .i64 a.tt, .int .i64 a.tk, .int .i64 a.sh, va, vb, .bool a.cm] 29) b ua ub).push (.cells #[.int .i64 a.k, .int .i64 a.tc, .int .i64 a.tn, .int .i64 a.tt, .int .i64 a.tk, .int .i64 a.sh, va, vb, .bool a.cm, .int .i64 b.k, .int .i64 b.tc, .int .i64 b.tn, .int .i64 b.tt, .int .i64 b.tk, .int .i64 b.sh, ua, ub, .bool b.cm] 29))
  have R0 := Lib.hid ((h.push (.cells #[.int .i64 a.k, .int .i64 a.tc, .int .i64 a.tn, .int .i64 a.tt, .int .i64 a.tk, .int .i64 a.sh, va, vb, .bool a.cm] 29)).push (.cells #[.int .i64 b.k, .int .i64 b.tc, .int .i64 b.tn, .int .i64 b.tt, .int .i64 b.tk, .int .i64 b.sh, ua, ub, .bool b.cm] 29))
  have W0 := Lib.hid ((h'.push (.cells #[.int .i64 a.k, .int .i64 a.tc, .int .i64 a.tn, .int .i64 a.tt, .int .i64 a.tk, .int .i64 a.sh, va, vb, .bool a.cm] 29)).push (.cells #[.int .i64 b.k, .int .i64 b.tc, .int .i64 b.tn, .int .i64 b.tt, .int .i64 b.tk, .int .i64 b.sh, ua, ub, .bool b.cm] 29))
  have S0 := Lib.hid ((g.push (.cells #[.int .i64 a.k, .int .i64 a.tc, .int .i64 a.tn, .int .i64 a.tt, .int .i64 a.tk, .int .i64 a.sh, va, vb, .bool a.cm] 29)).push (.cells #[.int .i64 b.k, .int .i64 b.tc, .int .i64 b.tn, .int .i64 b.tt, .int .i64 b.tk, .int .i64 b.sh, ua, ub, .bool b.cm] 29))
  have V0 := Lib.hid ((g'.push (.cells #[.int .i64 a.k, .int .i64 a.tc, .int .i64 a.tn, .int .i64 a.tt, .int .i64 a.tk, .int .i64 a.sh, va, vb, .bool a.cm] 29)).push (.cells #[.int .i64 b.k, .int .i64 b.tc, .int .i64 b.tn, .int .i64 b.tt, .int .i64 b.tk, .int .i64 b.sh, ua, ub, .bool b.cm] 29))
  have B0 := Lib.hid (below_new (o := .cells #[.int .i64 a.k, .int .i64 a.tc, .int .i64 a.tn, .int .i64 a.tt, .int .i64 a.tk, .int .i64 a.sh, va, vb, .bool a.cm, .int .i64 b.k, .int .i64 b.tc, .int .i64 b.tn, .int .i64 b.tt, .int .i64 b.tk, .int .i64 b.sh, ua, ub, .bool b.cm] 29) (below_new (o := .cells #[.int .i64 b.k, .int .i64 b.tc, .int .i64 b.tn, .int .i64 b.tt, .int .i64 b.tk, .int .i64 b.sh, ua, ub, .bool b.cm] 29) (below_new (o := .cells #[.int .i64 a.k, .int .i64 a.tc, .int .i64 a.tn, .int .i64 a.tt, .int .i64 a.tk, .int .i64 a.sh, va, vb, .bool a.cm] 29) (Below.refl w.heap.size w))))
  clear h h' g g'
  rcases two (M.modB a && M.modB b) with f | f
  · have F := M.modB_iff.1 (Bool.and_eq_true_iff.1 f).1
    have G := M.modB_iff.1 (Bool.and_eq_true_iff.1 f).2
    rcases two (M.decB a) with d | d
    · have i1 := M.dec_inter cm d
      have i2 := M.dec_right cm d
      go_enter Try.func6, Try.ntmps6
      go_wp2_with (fail)
      refine (few_two (by simp) a b R0.out W0.out S0.out V0.out).mono ?_
      rintro e w1 ⟨rfl, hb⟩
      have X1 := Lib.hid (X0.out.on hb)
      have Y1 := Lib.hid (Y0.out.on hb)
      have R1 := Lib.hid ((R0.out.push _).below hb)
      have W1 := Lib.hid ((W0.out.push _).below hb)
      have S1 := Lib.hid ((S0.out.push _).below hb)
      have V1 := Lib.hid ((V0.out.push _).below hb)
      have B1 := Lib.hid (below_on B0.out hb)
      clear hb X0 Y0 R0 W0 S0 V0 B0
      obtain ⟨l0, p0, p1, p2, p3, p4, p5, p6, p7, p8⟩ := X1.out
      obtain ⟨l1, r0, r1, r2, r3, r4, r5, r6, r7, r8⟩ := Y1.out
      go_wp2_with (fail)
      refine (decided_yes a cm R1.out W1.out F.l F.l' d).mono ?_
      rintro e w2 ⟨va2, vb2, rfl, o1, o2, hb⟩
      have Q2 := Lib.hid (show Rds w2 va2 a.rs from RowN.of_owns o1)
      have N2 := Lib.hid (show Wrs w2 vb2 a.ws from RowN.of_owns o2)
      have X2 := Lib.hid (X1.out.on hb)
      have Y2 := Lib.hid (Y1.out.on hb)
      have R2 := Lib.hid (R1.out.below hb)
      have W2 := Lib.hid (W1.out.below hb)
      have S2 := Lib.hid (S1.out.below hb)
      have V2 := Lib.hid (V1.out.below hb)
      have B2 := Lib.hid (below_on B1.out hb)
      obtain ⟨A1, k1, rfl⟩ := ownsRow_slice o1
      obtain ⟨A2, k2, rfl⟩ := ownsRow_slice o2
      clear hb o1 o2 X1 Y1 R1 W1 S1 V1 B1 l0 l1 p0 p1 p2 p3 p4 p5 p6 p7 p8 r0 r1 r2 r3 r4 r5 r6 r7 r8
      have D2 := Lib.hid (show Box (w2.alloc (.cells #[.int .i64 2, .int .i64 a.tc, .int .i64 a.tn, .int .i64 a.tt, .int .i64 a.tk, .int .i64 a.sh, .slice A1 a.rs.length k1, .slice A2 a.ws.length k2, .bool cm] 29)) w2.heap.size (M.dec a cm) (.slice A1 a.rs.length k1) (.slice A2 a.ws.length k2) from Box.new w2 (M.dec a cm) _ _)
      obtain ⟨l0, p0, p1, p2, p3, p4, p5, p6, p7, p8⟩ := X2.out
      go_wp2_with (fail)
      refine (inter_any a (M.dec a cm) (R2.out.push _) (W2.out.push _) (Q2.out.push _) (N2.out.push _) F (M.dec_mod cm F)).mono ?_
      rintro e w3 ⟨rfl, hb⟩
      have X3 := Lib.hid ((X2.out.push _).on hb)
      have Y3 := Lib.hid ((Y2.out.push _).on hb)
      have D3 := Lib.hid (D2.out.on hb)
      have R3 := Lib.hid ((R2.out.push _).below hb)
      have W3 := Lib.hid ((W2.out.push _).below hb)
      have S3 := Lib.hid ((S2.out.push _).below hb)
      have V3 := Lib.hid ((V2.out.push _).below hb)
      have Q3 := Lib.hid ((Q2.out.push _).below hb)
      have N3 := Lib.hid ((N2.out.push _).below hb)
      have B3 := Lib.hid (below_on (below_new B2.out) hb)
      clear hb X2 Y2 D2 R2 W2 S2 V2 Q2 N2 B2 l0 p0 p1 p2 p3 p4 p5 p6 p7 p8
      obtain ⟨l2, s0, s1, s2, s3, s4, s5, s6, s7, s8⟩ := D3.out
      go_wp2_with (fail)
      refine (right_cmd (M.dec a cm) Q3.out N3.out F.l F.l').mono ?_
      rintro e w4 ⟨rfl, hb⟩
      have X4 := Lib.hid (X3.out.on hb)
      have Y4 := Lib.hid (Y3.out.on hb)
      have R4 := Lib.hid (R3.out.below hb)
      have W4 := Lib.hid (W3.out.below hb)
      have S4 := Lib.hid (S3.out.below hb)
      have V4 := Lib.hid (V3.out.below hb)
      have B4 := Lib.hid (below_on B3.out hb)
      clear hb X3 Y3 D3 R3 W3 S3 V3 Q3 N3 B3 l2 s0 s1 s2 s3 s4 s5 s6 s7 s8
      obtain ⟨l0, p0, p1, p2, p3, p4, p5, p6, p7, p8⟩ := X4.out
      obtain ⟨l1, r0, r1, r2, r3, r4, r5, r6, r7, r8⟩ := Y4.out
      go_wp2
      have e1 : (M.interB a b == M.interB b a) = true := by rw [M.inter_comm a b]; simp
      have e2 := M.inter_self a
      have e3 := M.inter_zero a
      have e4 := M.right_zero
      refine wp_region_after (by kernel_rfl) (by kernel_rfl) ?_
      have hx := @After.cell w4
      repeat (first
        | (go_big_quiet_step (first
            | (go_at_call 21; with_reducible exact Calls.after_of ((inter_any a b (R4.out.below (After.below _)) (W4.out.below (After.below _)) (S4.out.below (After.below _)) (V4.out.below (After.below _)) F G)))
            | (go_at_call 21; with_reducible exact Calls.after_of ((inter_any b a (S4.out.below (After.below _)) (V4.out.below (After.below _)) (R4.out.below (After.below _)) (W4.out.below (After.below _)) G F)))
            | (go_at_call 21; with_reducible exact Calls.after_of ((inter_any a a (R4.out.below (After.below _)) (W4.out.below (After.below _)) (R4.out.below (After.below _)) (W4.out.below (After.below _)) F F)))
            | (go_at_call 21; exact Calls.after_of ((inter_any a M.zero (R4.out.below (After.below _)) (W4.out.below (After.below _)) (Rds.nil _) (Wrs.nil _) F M.zero_mod)))
            | (go_at_call 22; exact Calls.after_of (right_cmd M.zero (Rds.nil _) (Wrs.nil _) (by decide) (by decide)))
            | (go_at_call 9; exact Calls.after_of (awake_any _))))
        | rw [e1] | rw [e2] | rw [e3] | rw [e4])
      refine wpQuiet_nil ?_
      rintro w9 ⟨⟨_, hb⟩, rfl⟩
      have B9 := Lib.hid (below_on B4.out hb)
      clear hb
      go_wp2
      go_ret
      exact ⟨rfl, B9.out⟩
    · go_enter Try.func6, Try.ntmps6
      go_wp2_with (fail)
      refine (few_two (by simp) a b R0.out W0.out S0.out V0.out).mono ?_
      rintro e w1 ⟨rfl, hb⟩
      have X1 := Lib.hid (X0.out.on hb)
      have Y1 := Lib.hid (Y0.out.on hb)
      have R1 := Lib.hid ((R0.out.push _).below hb)
      have W1 := Lib.hid ((W0.out.push _).below hb)
      have S1 := Lib.hid ((S0.out.push _).below hb)
      have V1 := Lib.hid ((V0.out.push _).below hb)
      have B1 := Lib.hid (below_on B0.out hb)
      clear hb X0 Y0 R0 W0 S0 V0 B0
      obtain ⟨l0, p0, p1, p2, p3, p4, p5, p6, p7, p8⟩ := X1.out
      obtain ⟨l1, r0, r1, r2, r3, r4, r5, r6, r7, r8⟩ := Y1.out
      go_wp2_with (fail)
      refine (decided_no a cm R1.out W1.out F.l F.l' d).mono ?_
      rintro e w2 ⟨rfl, hb⟩
      have X2 := Lib.hid (X1.out.on hb)
      have Y2 := Lib.hid (Y1.out.on hb)
      have R2 := Lib.hid (R1.out.below hb)
      have W2 := Lib.hid (W1.out.below hb)
      have S2 := Lib.hid (S1.out.below hb)
      have V2 := Lib.hid (V1.out.below hb)
      have B2 := Lib.hid (below_on B1.out hb)
      clear hb X1 Y1 R1 W1 S1 V1 B1 l0 l1 p0 p1 p2 p3 p4 p5 p6 p7 p8 r0 r1 r2 r3 r4 r5 r6 r7 r8
      have X4 := Lib.hid (X2.out.push (.cells #[.int .i64 0, .int .i64 0, .int .i64 0, .int .i64 0, .int .i64 0, .int .i64 0, .slice none 0 0, .slice none 0 0, .bool false] 29))
      have Y4 := Lib.hid (Y2.out.push (.cells #[.int .i64 0, .int .i64 0, .int .i64 0, .int .i64 0, .int .i64 0, .int .i64 0, .slice none 0 0, .slice none 0 0, .bool false] 29))
      have R4 := Lib.hid (R2.out.push (.cells #[.int .i64 0, .int .i64 0, .int .i64 0, .int .i64 0, .int .i64 0, .int .i64 0, .slice none 0 0, .slice none 0 0, .bool false] 29))
      have W4 := Lib.hid (W2.out.push (.cells #[.int .i64 0, .int .i64 0, .int .i64 0, .int .i64 0, .int .i64 0, .int .i64 0, .slice none 0 0, .slice none 0 0, .bool false] 29))
      have S4 := Lib.hid (S2.out.push (.cells #[.int .i64 0, .int .i64 0, .int .i64 0, .int .i64 0, .int .i64 0, .int .i64 0, .slice none 0 0, .slice none 0 0, .bool false] 29))
      have V4 := Lib.hid (V2.out.push (.cells #[.int .i64 0, .int .i64 0, .int .i64 0, .int .i64 0, .int .i64 0, .int .i64 0, .slice none 0 0, .slice none 0 0, .bool false] 29))
      have B4 := Lib.hid (below_new (o := .cells #[.int .i64 0, .int .i64 0, .int .i64 0, .int .i64 0, .int .i64 0, .int .i64 0, .slice none 0 0, .slice none 0 0, .bool false] 29) B2.out)
      clear X2 Y2 R2 W2 S2 V2 B2
      go_wp2
      generalize (w2.alloc (.cells #[.int .i64 0, .int .i64 0, .int .i64 0, .int .i64 0, .int .i64 0, .int .i64 0, .slice none 0 0, .slice none 0 0, .bool false] 29)) = w4 at *
      obtain ⟨l0, p0, p1, p2, p3, p4, p5, p6, p7, p8⟩ := X4.out
      obtain ⟨l1, r0, r1, r2, r3, r4, r5, r6, r7, r8⟩ := Y4.out
      have e1 : (M.interB a b == M.interB b a) = true := by rw [M.inter_comm a b]; simp
      have e2 := M.inter_self a
      have e3 := M.inter_zero a
      have e4 := M.right_zero
      refine wp_region_after (by kernel_rfl) (by kernel_rfl) ?_
      have hx := @After.cell w4
      repeat (first
        | (go_big_quiet_step (first
            | (go_at_call 21; with_reducible exact Calls.after_of ((inter_any a b (R4.out.below (After.below _)) (W4.out.below (After.below _)) (S4.out.below (After.below _)) (V4.out.below (After.below _)) F G)))
            | (go_at_call 21; with_reducible exact Calls.after_of ((inter_any b a (S4.out.below (After.below _)) (V4.out.below (After.below _)) (R4.out.below (After.below _)) (W4.out.below (After.below _)) G F)))
            | (go_at_call 21; with_reducible exact Calls.after_of ((inter_any a a (R4.out.below (After.below _)) (W4.out.below (After.below _)) (R4.out.below (After.below _)) (W4.out.below (After.below _)) F F)))
            | (go_at_call 21; exact Calls.after_of ((inter_any a M.zero (R4.out.below (After.below _)) (W4.out.below (After.below _)) (Rds.nil _) (Wrs.nil _) F M.zero_mod)))
            | (go_at_call 22; exact Calls.after_of (right_cmd M.zero (Rds.nil _) (Wrs.nil _) (by decide) (by decide)))
            | (go_at_call 9; exact Calls.after_of (awake_any _))))
        | rw [e1] | rw [e2] | rw [e3] | rw [e4])
      refine wpQuiet_nil ?_
      rintro w9 ⟨⟨_, hb⟩, rfl⟩
      have B9 := Lib.hid (below_on B4.out hb)
      clear hb
      go_wp2
      go_ret
      exact ⟨rfl, B9.out⟩
  · go_enter Try.func6, Try.ntmps6
    go_wp2_with (fail)
    refine (few_two (by simp) a b R0.out W0.out S0.out V0.out).mono ?_
    rintro e w1 ⟨rfl, hb⟩
    have X1 := Lib.hid (X0.out.on hb)
    have Y1 := Lib.hid (Y0.out.on hb)
    have R1 := Lib.hid ((R0.out.push _).below hb)
    have W1 := Lib.hid ((W0.out.push _).below hb)
    have S1 := Lib.hid ((S0.out.push _).below hb)
    have V1 := Lib.hid ((V0.out.push _).below hb)
    have B1 := Lib.hid (below_on B0.out hb)
    clear hb X0 Y0 R0 W0 S0 V0 B0
    obtain ⟨l0, p0, p1, p2, p3, p4, p5, p6, p7, p8⟩ := X1.out
    obtain ⟨l1, r0, r1, r2, r3, r4, r5, r6, r7, r8⟩ := Y1.out
    go_wp2_with (fail)
    refine (awake_any _).mono ?_
    rintro e w2 ⟨rfl, hb⟩
    have B2 := Lib.hid (below_on B1.out hb)
    clear hb
    go_wp2
    go_ret
    exact ⟨rfl, B2.out⟩
end Go.Proofs.Ytacieiddhkkahaa
