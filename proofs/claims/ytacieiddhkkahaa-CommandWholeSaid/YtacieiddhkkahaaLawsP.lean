/- The walk of CommandPart; no conditions. -/
import Derived.Test.YtacieiddhkkahaaCmdsT
import Derived.Test.YtacieiddhkkahaaCmdsO
import Derived.Test.YtacieiddhkkahaaLawsM
import Derived.Test.YtacieiddhkkahaaLawsD
namespace Go.Proofs.Ytacieiddhkkahaa
open Go.ChangeShapes Go.WideShapes Go.ChangeAt Go.RowKit
attribute [local go_sem ↓] run_same_rd run_same_wr run_same_txn run_same_stamp

namespace M
theorem partR_twice (k n : Int) (l : List (List UInt8 × Int × Int)) : partR k n (partR k n l) = partR k n l := by unfold partR; rw [List.filter_filter]; congr 1; funext r; simp
theorem partW_twice (k n : Int) (l : List (List UInt8 × List UInt8)) : partW k n (partW k n l) = partW k n l := by unfold partW; rw [List.filter_filter]; congr 1; funext r; simp
theorem rk_part (k n : Int) (l : List (List UInt8 × Int × Int)) : rk (partR k n l) = (rk l).filter (fun x => !elseB k n x) := by
  unfold rk partR inR; rw [List.filter_map]; rfl
theorem wk_part (k n : Int) (l : List (List UInt8 × List UInt8)) : wk (partW k n l) = (wk l).filter (fun x => !elseB k n x) := by
  unfold wk partW inW; rw [List.filter_map]; rfl
theorem rights_filter {l : List (List UInt8)} (p : List UInt8 → Bool) (h : rightsB l = true) : rightsB (l.filter p) = true := keys_iff.2 ((keys_iff.1 h).filter p)
theorem all_filter {α : Type} {l : List α} {p q : α → Bool} (h : l.all p = true) : (l.filter q).all p = true := by
  rw [List.all_eq_true] at *
  exact fun x hx => h x (List.mem_filter.1 hx).1
theorem areR_cut {l : List (List UInt8 × Int × Int)} {a d : Int} (k n : Int) (h : areR l a d = true) : areR (partR k n l) a d = true := by
  unfold areR at *
  rw [Bool.and_eq_true] at *
  exact ⟨all_filter h.1, by rw [rk_part]; exact rights_filter _ h.2⟩
theorem areW_cut {l : List (List UInt8 × List UInt8)} (k n : Int) (h : areW l = true) : areW (partW k n l) = true := by
  unfold areW at *
  rw [Bool.and_eq_true] at *
  exact ⟨all_filter h.1, by rw [wk_part]; exact rights_filter _ h.2⟩
theorem trans_cut {c : Cmd} (k n : Int) (h : transB c = true) (hv : voidB c k n = false) : transB (cut c k n) = true := by
  unfold transB at *
  simp only [Bool.and_eq_true] at *
  obtain ⟨h1, h2, h3, h4, h5, h6, h7, h8, h9⟩ := h
  exact ⟨h1, h2, h3, h4, h5, h6, by show (!voidB c k n) = true; rw [hv]; rfl, areR_cut k n h8, areW_cut k n h9⟩
theorem right_cut {c : Cmd} (k n : Int) (h : rightC c = true) (hk : ¬ c.k = 0) (hv : voidB c k n = false) : rightC (cut c k n) = true := by
  unfold rightC at h ⊢
  have ek : (cut c k n).k = c.k := rfl
  have em : (cut c k n).cm = c.cm := rfl
  rw [if_neg hk] at h
  rw [ek, em, if_neg hk]
  by_cases h1 : c.k = 1
  · rw [if_pos h1] at h ⊢
    rw [Bool.and_eq_true] at *
    exact ⟨trans_cut k n h.1 hv, h.2⟩
  · rw [if_neg h1] at h ⊢
    by_cases h2 : c.k = 2
    · rw [if_pos h2] at h ⊢
      exact trans_cut k n h hv
    · rw [if_neg h2] at h; cases h
theorem pok_parts {c : Cmd} {n : Int} (h : pokB c n = true) : rightC c = true ∧ ¬ c.k = 0 ∧ 1 ≤ n ∧ n ≤ 4 := by
  unfold pokB at h
  simp only [Bool.and_eq_true, Bool.not_eq_true', decide_eq_false_iff_not, decide_eq_true_eq] at h
  exact h
theorem cut_cut (c : Cmd) (k n : Int) : cut (cut c k n) k n = cut c k n := by
  unfold cut; simp only [partR_twice, partW_twice]
theorem void_cut (c : Cmd) (k n : Int) : voidB (cut c k n) k n = voidB c k n := by
  unfold voidB; show emptyB (partR k n (partR k n c.rs)).length (partW k n (partW k n c.ws)).length = _; rw [partR_twice, partW_twice]
theorem pok_cut {c : Cmd} {k n : Int} (h : pokB c n = true) (hv : voidB c k n = false) : pokB (cut c k n) n = true := by
  obtain ⟨h1, h2, h3, h4⟩ := pok_parts h
  unfold pokB
  rw [right_cut k n h1 h2 hv, show (cut c k n).k = c.k from rfl, decide_eq_false h2, decide_eq_true h3, decide_eq_true h4]; rfl
theorem same_self (c : Cmd) : sameC c c = true := by simp [sameC, eq2, sameR, sameW]
theorem inter_cut {c : Cmd} (k n : Int) (hk : ¬ c.k = 0) : interB (cut c k n) c = true := by
  unfold interB
  rw [show (cut c k n).k = c.k from rfl, if_neg hk, if_neg hk, show (cut c k n).tc = c.tc from rfl, show (cut c k n).tn = c.tn from rfl, eq2_refl]; rfl
theorem mod_cut {c : Cmd} (k n : Int) (h : Mod c) : Mod (cut c k n) :=
  ⟨Nat.le_trans (List.length_filter_le _ _) h.r, Nat.le_trans (List.length_filter_le _ _) h.w, fun r hr => h.rk r (List.mem_filter.1 hr).1, fun r hr => h.wk r (List.mem_filter.1 hr).1, fun r hr => h.wv r (List.mem_filter.1 hr).1⟩
end M

set_option maxHeartbeats 8000000 in
set_option maxRecDepth 100000 in
theorem part_law (c : M.Cmd) (k n : Int) {va vb : Value} (w : World) (h : Rds w va c.rs) (h' : Wrs w vb c.ws) : Calls Try.prog 7 #[.agg #[.int .i64 c.k, .int .i64 c.tc, .int .i64 c.tn, .int .i64 c.tt, .int .i64 c.tk, .int .i64 c.sh, va, vb, .bool c.cm], .int .i64 k, .int .i64 n] w (Yes w) := by
  have X0 := Lib.hid ((Box.new w c va vb).push (.cells #[.int .i64 c.k, .int .i64 c.tc, .int .i64 c.tn, .int .i64 c.tt, .int .i64 c.tk, .int .i64 c.sh, va, vb, .bool c.cm] 29))
  have R0 := Lib.hid (h.push (.cells #[.int .i64 c.k, .int .i64 c.tc, .int .i64 c.tn, .int .i64 c.tt, .int .i64 c.tk, .int .i64 c.sh, va, vb, .bool c.cm] 29))
  have W0 := Lib.hid (h'.push (.cells #[.int .i64 c.k, .int .i64 c.tc, .int .i64 c.tn, .int .i64 c.tt, .int .i64 c.tk, .int .i64 c.sh, va, vb, .bool c.cm] 29))
  have B0 := Lib.hid (below_new (o := .cells #[.int .i64 c.k, .int .i64 c.tc, .int .i64 c.tn, .int .i64 c.tt, .int .i64 c.tk, .int .i64 c.sh, va, vb, .bool c.cm] 29) (below_new (o := .cells #[.int .i64 c.k, .int .i64 c.tc, .int .i64 c.tn, .int .i64 c.tt, .int .i64 c.tk, .int .i64 c.sh, va, vb, .bool c.cm] 29) (Below.refl w.heap.size w)))
  clear h h'
  rcases two (M.modB c) with f | f
  · have F := M.modB_iff.1 f
    rcases two (M.pokB c n) with d | d
    · rcases two (M.voidB c k n) with v | v
      · go_enter Try.func7, Try.ntmps7
        go_wp2_with (fail)
        refine (few_one (by simp) c R0.out W0.out).mono ?_
        rintro e w1 ⟨rfl, hb⟩
        have X1 := Lib.hid (X0.out.on hb)
        have R1 := Lib.hid ((R0.out.push _).below hb)
        have W1 := Lib.hid ((W0.out.push _).below hb)
        have B1 := Lib.hid (below_on B0.out hb)
        clear hb X0 R0 W0 B0
        obtain ⟨l0, p0, p1, p2, p3, p4, p5, p6, p7, p8⟩ := X1.out
        go_wp2_with (fail)
        refine (part_none c k n R1.out W1.out F.l F.l' d v).mono ?_
        rintro e w2 ⟨rfl, hb⟩
        have B2 := Lib.hid (below_on B1.out hb)
        clear hb
        go_wp2_with (fail)
        refine (awake_any _).mono ?_
        rintro e w3 ⟨rfl, hb⟩
        have B3 := Lib.hid (below_on (below_new B2.out) hb)
        clear hb
        go_wp2
        go_ret
        exact ⟨rfl, B3.out⟩
      · have i1 := M.same_self (M.cut c k n)
        have i2 := M.right_cut k n (M.pok_parts d).1 (M.pok_parts d).2.1 v
        have i3 := M.inter_cut k n (M.pok_parts d).2.1
        have i4 := M.eq2_refl c.tc c.tn
        have i5 := M.eq2_refl c.tt c.tk
        have PK := Lib.hid (M.pok_cut d v)
        have VD := Lib.hid ((M.void_cut c k n).trans v)
        have F2 := M.mod_cut k n F
        go_enter Try.func7, Try.ntmps7
        go_wp2_with (fail)
        refine (few_one (by simp) c R0.out W0.out).mono ?_
        rintro e w1 ⟨rfl, hb⟩
        have X1 := Lib.hid (X0.out.on hb)
        have R1 := Lib.hid ((R0.out.push _).below hb)
        have W1 := Lib.hid ((W0.out.push _).below hb)
        have B1 := Lib.hid (below_on B0.out hb)
        clear hb X0 R0 W0 B0
        obtain ⟨l0, p0, p1, p2, p3, p4, p5, p6, p7, p8⟩ := X1.out
        go_wp2_with (fail)
        refine (part_some c k n R1.out W1.out F.l F.l' d v).mono ?_
        rintro e w2 ⟨va2, vb2, rfl, r2, s2, hb⟩
        obtain ⟨A1, j1, rfl, -, -⟩ := r2.opened
        obtain ⟨A2, j2, rfl, -, -⟩ := s2.opened
        have X2 := Lib.hid ((X1.out.on hb).push (.cells #[.int .i64 c.k, .int .i64 c.tc, .int .i64 c.tn, .int .i64 c.tt, .int .i64 c.tk, .int .i64 c.sh, .slice A1 (M.partR k n c.rs).length j1, .slice A2 (M.partW k n c.ws).length j2, .bool c.cm] 29))
        have R2 := Lib.hid ((R1.out.below hb).push (.cells #[.int .i64 c.k, .int .i64 c.tc, .int .i64 c.tn, .int .i64 c.tt, .int .i64 c.tk, .int .i64 c.sh, .slice A1 (M.partR k n c.rs).length j1, .slice A2 (M.partW k n c.ws).length j2, .bool c.cm] 29))
        have W2 := Lib.hid ((W1.out.below hb).push (.cells #[.int .i64 c.k, .int .i64 c.tc, .int .i64 c.tn, .int .i64 c.tt, .int .i64 c.tk, .int .i64 c.sh, .slice A1 (M.partR k n c.rs).length j1, .slice A2 (M.partW k n c.ws).length j2, .bool c.cm] 29))
        have Y2 := Lib.hid (Box.new w2 c (.slice A1 (M.partR k n c.rs).length j1) (.slice A2 (M.partW k n c.ws).length j2))
        have S2 := Lib.hid (r2.push (.cells #[.int .i64 c.k, .int .i64 c.tc, .int .i64 c.tn, .int .i64 c.tt, .int .i64 c.tk, .int .i64 c.sh, .slice A1 (M.partR k n c.rs).length j1, .slice A2 (M.partW k n c.ws).length j2, .bool c.cm] 29))
        have V2 := Lib.hid (s2.push (.cells #[.int .i64 c.k, .int .i64 c.tc, .int .i64 c.tn, .int .i64 c.tt, .int .i64 c.tk, .int .i64 c.sh, .slice A1 (M.partR k n c.rs).length j1, .slice A2 (M.partW k n c.ws).length j2, .bool c.cm] 29))
        have B2 := Lib.hid (below_new (o := .cells #[.int .i64 c.k, .int .i64 c.tc, .int .i64 c.tn, .int .i64 c.tt, .int .i64 c.tk, .int .i64 c.sh, .slice A1 (M.partR k n c.rs).length j1, .slice A2 (M.partW k n c.ws).length j2, .bool c.cm] 29) (below_on B1.out hb))
        clear hb r2 s2 X1 R1 W1 B1 l0 p0 p1 p2 p3 p4 p5 p6 p7 p8
        go_wp2_with (fail)
        generalize (w2.alloc (.cells #[.int .i64 c.k, .int .i64 c.tc, .int .i64 c.tn, .int .i64 c.tt, .int .i64 c.tk, .int .i64 c.sh, .slice A1 (M.partR k n c.rs).length j1, .slice A2 (M.partW k n c.ws).length j2, .bool c.cm] 29)) = w3 at *
        refine (part_some (M.cut c k n) k n S2.out V2.out F2.l F2.l' PK.out VD.out).mono ?_
        rintro e w4 ⟨va4, vb4, rfl, r4, s4, hb⟩
        obtain ⟨A3, j3, rfl, -, -⟩ := r4.opened
        obtain ⟨A4, j4, rfl, -, -⟩ := s4.opened
        have E1 := Lib.hid (M.partR_twice k n c.rs)
        have E2 := Lib.hid (M.partW_twice k n c.ws)
        have X4 := Lib.hid ((X2.out.on hb).push (.cells #[.int .i64 (M.cut c k n).k, .int .i64 (M.cut c k n).tc, .int .i64 (M.cut c k n).tn, .int .i64 (M.cut c k n).tt, .int .i64 (M.cut c k n).tk, .int .i64 (M.cut c k n).sh, .slice A3 (M.partR k n (M.cut c k n).rs).length j3, .slice A4 (M.partW k n (M.cut c k n).ws).length j4, .bool (M.cut c k n).cm] 29))
        have R4 := Lib.hid ((R2.out.below hb).push (.cells #[.int .i64 (M.cut c k n).k, .int .i64 (M.cut c k n).tc, .int .i64 (M.cut c k n).tn, .int .i64 (M.cut c k n).tt, .int .i64 (M.cut c k n).tk, .int .i64 (M.cut c k n).sh, .slice A3 (M.partR k n (M.cut c k n).rs).length j3, .slice A4 (M.partW k n (M.cut c k n).ws).length j4, .bool (M.cut c k n).cm] 29))
        have W4 := Lib.hid ((W2.out.below hb).push (.cells #[.int .i64 (M.cut c k n).k, .int .i64 (M.cut c k n).tc, .int .i64 (M.cut c k n).tn, .int .i64 (M.cut c k n).tt, .int .i64 (M.cut c k n).tk, .int .i64 (M.cut c k n).sh, .slice A3 (M.partR k n (M.cut c k n).rs).length j3, .slice A4 (M.partW k n (M.cut c k n).ws).length j4, .bool (M.cut c k n).cm] 29))
        have Y4 := Lib.hid ((Y2.out.on hb).push (.cells #[.int .i64 (M.cut c k n).k, .int .i64 (M.cut c k n).tc, .int .i64 (M.cut c k n).tn, .int .i64 (M.cut c k n).tt, .int .i64 (M.cut c k n).tk, .int .i64 (M.cut c k n).sh, .slice A3 (M.partR k n (M.cut c k n).rs).length j3, .slice A4 (M.partW k n (M.cut c k n).ws).length j4, .bool (M.cut c k n).cm] 29))
        have S4 := Lib.hid ((S2.out.below hb).push (.cells #[.int .i64 (M.cut c k n).k, .int .i64 (M.cut c k n).tc, .int .i64 (M.cut c k n).tn, .int .i64 (M.cut c k n).tt, .int .i64 (M.cut c k n).tk, .int .i64 (M.cut c k n).sh, .slice A3 (M.partR k n (M.cut c k n).rs).length j3, .slice A4 (M.partW k n (M.cut c k n).ws).length j4, .bool (M.cut c k n).cm] 29))
        have V4 := Lib.hid ((V2.out.below hb).push (.cells #[.int .i64 (M.cut c k n).k, .int .i64 (M.cut c k n).tc, .int .i64 (M.cut c k n).tn, .int .i64 (M.cut c k n).tt, .int .i64 (M.cut c k n).tk, .int .i64 (M.cut c k n).sh, .slice A3 (M.partR k n (M.cut c k n).rs).length j3, .slice A4 (M.partW k n (M.cut c k n).ws).length j4, .bool (M.cut c k n).cm] 29))
        have Z4 := Lib.hid (Box.new w4 (M.cut c k n) (.slice A3 (M.partR k n (M.cut c k n).rs).length j3) (.slice A4 (M.partW k n (M.cut c k n).ws).length j4))
        have T4 := Lib.hid (Eq.mp (congrArg (fun l => Rds (w4.alloc (.cells #[.int .i64 (M.cut c k n).k, .int .i64 (M.cut c k n).tc, .int .i64 (M.cut c k n).tn, .int .i64 (M.cut c k n).tt, .int .i64 (M.cut c k n).tk, .int .i64 (M.cut c k n).sh, .slice A3 (M.partR k n (M.cut c k n).rs).length j3, .slice A4 (M.partW k n (M.cut c k n).ws).length j4, .bool (M.cut c k n).cm] 29)) (.slice A3 (M.partR k n (M.cut c k n).rs).length j3) l) (show M.partR k n (M.cut c k n).rs = (M.cut c k n).rs from E1.out)) (r4.push (.cells #[.int .i64 (M.cut c k n).k, .int .i64 (M.cut c k n).tc, .int .i64 (M.cut c k n).tn, .int .i64 (M.cut c k n).tt, .int .i64 (M.cut c k n).tk, .int .i64 (M.cut c k n).sh, .slice A3 (M.partR k n (M.cut c k n).rs).length j3, .slice A4 (M.partW k n (M.cut c k n).ws).length j4, .bool (M.cut c k n).cm] 29)))
        have U4 := Lib.hid (Eq.mp (congrArg (fun l => Wrs (w4.alloc (.cells #[.int .i64 (M.cut c k n).k, .int .i64 (M.cut c k n).tc, .int .i64 (M.cut c k n).tn, .int .i64 (M.cut c k n).tt, .int .i64 (M.cut c k n).tk, .int .i64 (M.cut c k n).sh, .slice A3 (M.partR k n (M.cut c k n).rs).length j3, .slice A4 (M.partW k n (M.cut c k n).ws).length j4, .bool (M.cut c k n).cm] 29)) (.slice A4 (M.partW k n (M.cut c k n).ws).length j4) l) (show M.partW k n (M.cut c k n).ws = (M.cut c k n).ws from E2.out)) (s4.push (.cells #[.int .i64 (M.cut c k n).k, .int .i64 (M.cut c k n).tc, .int .i64 (M.cut c k n).tn, .int .i64 (M.cut c k n).tt, .int .i64 (M.cut c k n).tk, .int .i64 (M.cut c k n).sh, .slice A3 (M.partR k n (M.cut c k n).rs).length j3, .slice A4 (M.partW k n (M.cut c k n).ws).length j4, .bool (M.cut c k n).cm] 29)))
        have B4 := Lib.hid (below_new (o := .cells #[.int .i64 (M.cut c k n).k, .int .i64 (M.cut c k n).tc, .int .i64 (M.cut c k n).tn, .int .i64 (M.cut c k n).tt, .int .i64 (M.cut c k n).tk, .int .i64 (M.cut c k n).sh, .slice A3 (M.partR k n (M.cut c k n).rs).length j3, .slice A4 (M.partW k n (M.cut c k n).ws).length j4, .bool (M.cut c k n).cm] 29) (below_on B2.out hb))
        clear hb r4 s4 X2 R2 W2 Y2 S2 V2 B2
        obtain ⟨lx, p0, p1, p2, p3, p4, p5, p6, p7, p8⟩ := Y4.out
        go_wp2_with (fail)
        generalize (w4.alloc (.cells #[.int .i64 (M.cut c k n).k, .int .i64 (M.cut c k n).tc, .int .i64 (M.cut c k n).tn, .int .i64 (M.cut c k n).tt, .int .i64 (M.cut c k n).tk, .int .i64 (M.cut c k n).sh, .slice A3 (M.partR k n (M.cut c k n).rs).length j3, .slice A4 (M.partW k n (M.cut c k n).ws).length j4, .bool (M.cut c k n).cm] 29)) = w5 at *
        refine (dsame_cmd (M.cut c k n) (M.cut c k n) S4.out V4.out T4.out U4.out F2.l F2.l').mono ?_
        rintro e w6 ⟨rfl, hb⟩
        have X6 := Lib.hid (X4.out.on hb)
        have Y6 := Lib.hid (Y4.out.on hb)
        have R6 := Lib.hid (R4.out.below hb)
        have W6 := Lib.hid (W4.out.below hb)
        have S6 := Lib.hid (S4.out.below hb)
        have V6 := Lib.hid (V4.out.below hb)
        have B6 := Lib.hid (below_on B4.out hb)
        clear hb X4 Y4 R4 W4 S4 V4 B4
        clear T4 U4 lx p0 p1 p2 p3 p4 p5 p6 p7 p8
        obtain ⟨lx, p0, p1, p2, p3, p4, p5, p6, p7, p8⟩ := Y6.out
        go_wp2_with (fail)
        refine (right_cmd (M.cut c k n) S6.out V6.out F2.l F2.l').mono ?_
        rintro e w7 ⟨rfl, hb⟩
        have X7 := Lib.hid (X6.out.on hb)
        have Y7 := Lib.hid (Y6.out.on hb)
        have R7 := Lib.hid (R6.out.below hb)
        have W7 := Lib.hid (W6.out.below hb)
        have S7 := Lib.hid (S6.out.below hb)
        have V7 := Lib.hid (V6.out.below hb)
        have B7 := Lib.hid (below_on B6.out hb)
        clear hb X6 Y6 R6 W6 S6 V6 B6
        clear lx p0 p1 p2 p3 p4 p5 p6 p7 p8
        obtain ⟨lx, p0, p1, p2, p3, p4, p5, p6, p7, p8⟩ := Y7.out
        obtain ⟨ly, r0, r1, r2, r3, r4, r5, r6, r7, r8⟩ := X7.out
        go_wp2_with (fail)
        refine (inter_any (M.cut c k n) c S7.out V7.out R7.out W7.out F2 F).mono ?_
        rintro e w8 ⟨rfl, hb⟩
        have X8 := Lib.hid (X7.out.on hb)
        have Y8 := Lib.hid (Y7.out.on hb)
        have R8 := Lib.hid (R7.out.below hb)
        have W8 := Lib.hid (W7.out.below hb)
        have S8 := Lib.hid (S7.out.below hb)
        have V8 := Lib.hid (V7.out.below hb)
        have B8 := Lib.hid (below_on B7.out hb)
        clear hb X7 Y7 R7 W7 S7 V7 B7
        clear lx ly p0 p1 p2 p3 p4 p5 p6 p7 p8 r0 r1 r2 r3 r4 r5 r6 r7 r8
        obtain ⟨lx, p0, p1, p2, p3, p4, p5, p6, p7, p8⟩ := Y8.out
        obtain ⟨ly, r0, r1, r2, r3, r4, r5, r6, r7, r8⟩ := X8.out
        go_wp2_with (fail)
        refine (awake_any _).mono ?_
        rintro e w9 ⟨rfl, hb⟩
        have B9 := Lib.hid (below_on B8.out hb)
        clear hb
        go_wp2
        go_ret
        exact ⟨rfl, B9.out⟩
    · go_enter Try.func7, Try.ntmps7
      go_wp2_with (fail)
      refine (few_one (by simp) c R0.out W0.out).mono ?_
      rintro e w1 ⟨rfl, hb⟩
      have X1 := Lib.hid (X0.out.on hb)
      have R1 := Lib.hid ((R0.out.push _).below hb)
      have W1 := Lib.hid ((W0.out.push _).below hb)
      have B1 := Lib.hid (below_on B0.out hb)
      clear hb X0 R0 W0 B0
      obtain ⟨l0, p0, p1, p2, p3, p4, p5, p6, p7, p8⟩ := X1.out
      go_wp2_with (fail)
      refine (part_bad c k n R1.out W1.out F.l F.l' d).mono ?_
      rintro e w2 ⟨rfl, hb⟩
      have B2 := Lib.hid (below_on B1.out hb)
      clear hb
      go_wp2_with (fail)
      refine (awake_any _).mono ?_
      rintro e w3 ⟨rfl, hb⟩
      have B3 := Lib.hid (below_on (below_new B2.out) hb)
      clear hb
      go_wp2
      go_ret
      exact ⟨rfl, B3.out⟩
  · go_enter Try.func7, Try.ntmps7
    go_wp2_with (fail)
    refine (few_one (by simp) c R0.out W0.out).mono ?_
    rintro e w1 ⟨rfl, hb⟩
    have X1 := Lib.hid (X0.out.on hb)
    have R1 := Lib.hid ((R0.out.push _).below hb)
    have W1 := Lib.hid ((W0.out.push _).below hb)
    have B1 := Lib.hid (below_on B0.out hb)
    clear hb X0 R0 W0 B0
    obtain ⟨l0, p0, p1, p2, p3, p4, p5, p6, p7, p8⟩ := X1.out
    go_wp2_with (fail)
    refine (awake_any _).mono ?_
    rintro e w2 ⟨rfl, hb⟩
    have B2 := Lib.hid (below_on B1.out hb)
    clear hb
    go_wp2
    go_ret
    exact ⟨rfl, B2.out⟩
end Go.Proofs.Ytacieiddhkkahaa
