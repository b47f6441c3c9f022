/- What a message is answered: a promise never falls, what is kept may be, and is answered again; plain facts; no dump. -/
import Derived.Test.YtpknkhgkejkpkaaGreatPa
namespace Go.Proofs.YtpknkhgkejkpkaaGreat
open Go.RowKit

namespace M
structure Kept (k : Rec) (m : Msg) (s : Stp) : Prop where
  new : s.new = true → s.r.ir = k.ir ∧ s.r.is = k.is ∧ k.st ≠ 3 ∧ ¬ ord s.r.pn s.r.pr k.pn k.pr < 0 ∧ rightR s.r = true
  has : s.has = true → rightM s.m = true ∧ s.m.fr = m.to ∧ s.m.to = m.fr ∧ s.m.r.ir = k.ir ∧ s.m.r.is = k.is
theorem tell_right {m : Msg} (N : RightN m) {k a b : Int} (hk : 1 ≤ k ∧ k ≤ 8) (hp : pairB a b 0 1099511627776 0 6 = true) {r : Rec} (hr : rightR r = true) : rightM ⟨k, m.to, m.fr, a, b, r⟩ = true :=
  rightM_iff.2 ⟨hk, N.to, N.fr, hp, hr⟩
theorem Kept.tell {k : Rec} {m : Msg} (N : RightN m) {q a b : Int} (hq : 1 ≤ q ∧ q ≤ 8) (hp : pairB a b 0 1099511627776 0 6 = true) {r : Rec} (hr : rightR r = true) (h1 : r.ir = k.ir) (h2 : r.is = k.is) : Kept k m (tellS m q a b r) :=
  ⟨fun h => (by cases h), fun _ => ⟨tell_right N hq hp hr, rfl, rfl, h1, h2⟩⟩
theorem Kept.keep {k : Rec} {m : Msg} (N : RightN m) {q : Int} (hq : 1 ≤ q ∧ q ≤ 8) {r : Rec} (hr : rightR r = true) (h1 : r.ir = k.ir) (h2 : r.is = k.is) (h3 : k.st ≠ 3) (h4 : ¬ ord m.bn m.br k.pn k.pr < 0) (h5 : ord r.bn r.br m.bn m.br ≤ 0) : Kept k m (keepS m q r) := by
  have hw := withP_right hr N.ball h5
  exact ⟨fun _ => ⟨h1, h2, h3, h4, hw⟩, fun _ => ⟨tell_right N hq N.ball hw, rfl, rfl, h1, h2⟩⟩
theorem fits_st1 {r : Rec} (h : r.st = 1) : fitsS r = seqB r := by
  unfold fitsS; rw [if_neg (by omega), if_pos h]
theorem preR_right {X : List Rv} {m : Msg} (R : Rights X) (hr : rightR m.r = true) (h1 : m.r.st = 1) : rightR (preR X m) = true := by
  have H := rightR_iff.1 hr
  have hs : 1 ≤ m.r.sq ∧ m.r.sq ≤ 1099511627776 := by
    have := H.fits
    rw [fits_st1 h1] at this
    simpa [seqB] using this
  have hs' := atS_range R (m.r.ir, m.r.is) m.r.c hs
  have hd' := atD_range R (m.r.ir, m.r.is) m.r.c (d := dep m.r) (fun k hk => V7.right_iff.1 H.deps k hk)
  refine rightR_iff.2 ⟨H.inst, H.prom, H.ball, H.le, H.cmd, right_of_deps (dep_withA _ _ _ _) hd', ?_⟩
  rw [fits_st1 (r := preR X m) h1]
  unfold seqB preR withA pS
  simpa using hs'
theorem brings_parts {m : Msg} {a b : Int} (h : brings m a b = true) (ha : a ≠ 5) : m.k = a ∧ m.r.st = b ∧ m.r.bn = m.bn ∧ m.r.br = m.br := by
  unfold brings at h
  simp only [Bool.and_eq_true, Bool.or_eq_true, decide_eq_true_eq] at h
  obtain ⟨h1, h2, h3⟩ := h
  rcases h3 with h3 | h3
  · exact absurd h3 ha
  · exact ⟨h1, h2, eq2_iff.1 h3⟩
theorem brings5 {m : Msg} (h : brings m 5 3 = true) : m.k = 5 ∧ m.r.st = 3 := by
  unfold brings at h
  simp only [Bool.and_eq_true, decide_eq_true_eq] at h
  exact ⟨h.1, h.2.1⟩
/-- A request: what it is. -/
structure Req (m : Msg) (me : Int) : Prop where
  to : m.to = me
  ok : RightN m
  kind : m.k = 6 ∨ (m.k = 5 ∧ m.r.st = 3) ∨ (m.k = 1 ∧ m.r.st = 1 ∧ m.r.bn = m.bn ∧ m.r.br = m.br) ∨ (m.k = 3 ∧ m.r.st = 2 ∧ m.r.bn = m.bn ∧ m.r.br = m.br)
theorem req_of {m : Msg} {self : Int} (h : reqB m self = true) : Req m self := by
  unfold reqB at h
  simp only [Bool.and_eq_true, Bool.or_eq_true, decide_eq_true_eq] at h
  obtain ⟨h1, h2, h3⟩ := h
  refine ⟨h1, rightM_iff.1 h2, ?_⟩
  rcases h3 with h | h | h | h
  · exact .inl h
  · exact .inr (.inr (.inl (brings_parts h (by decide))))
  · exact .inr (.inr (.inr (brings_parts h (by decide))))
  · exact .inr (.inl (brings5 h))
theorem ord_self (a b : Int) : ord a b a b ≤ 0 := ord_le_iff.2 (.inr ⟨rfl, Int.le_refl _⟩)
theorem comP_kept {k : Rec} {m : Msg} (K : rightR k = true) (M : rightR m.r = true) : (comP k m.r).ir = m.r.ir ∧ (comP k m.r).is = m.r.is ∧ (comP k m.r).st = m.r.st ∧ ¬ ord (comP k m.r).pn (comP k m.r).pr k.pn k.pr < 0 ∧ rightR (comP k m.r) = true := by
  have H := rightR_iff.1 K
  have N := rightR_iff.1 M
  unfold comP
  split
  · rename_i h
    refine ⟨rfl, rfl, rfl, ?_, withP_right M H.prom ?_⟩
    · show ¬ ord k.pn k.pr k.pn k.pr < 0
      rw [ord_lt_iff]; omega
    · rw [ord_gt_iff] at h
      rw [ord_le_iff]; omega
  · rename_i h
    refine ⟨rfl, rfl, rfl, ?_, withP_right M N.ball (ord_self _ _)⟩
    show ¬ ord m.r.bn m.r.br k.pn k.pr < 0
    rw [ord_gt_iff] at h
    rw [ord_lt_iff]; omega
theorem answer_kept {X : List Rv} {k : Rec} {m : Msg} {self : Int} (R : Rights X) (K : rightR k = true) (Q : Req m self) (h1 : k.ir = m.r.ir) (h2 : k.is = m.r.is) (he : (answer X k m).2 = 0) : Kept k m (answer X k m).1 := by
  have H := rightR_iff.1 K
  have N := Q.ok
  unfold answer at he ⊢
  by_cases e5 : m.k = 5
  · simp only [if_pos e5] at he ⊢
    unfold commitS
    split
    · exact ⟨fun h => (by cases h), fun h => (by cases h)⟩
    · rename_i hs
      obtain ⟨a, b, -, c, d⟩ := comP_kept K N.rcd
      exact ⟨fun _ => ⟨a.trans h1.symm, b.trans h2.symm, hs, c, d⟩, fun h => (by cases h)⟩
  simp only [if_neg e5] at he ⊢
  by_cases es : k.st = 3
  · simp only [if_pos es]
    exact .tell N (by omega) H.ball K rfl rfl
  simp only [if_neg es] at he ⊢
  by_cases el : ord m.bn m.br k.pn k.pr < 0
  · simp only [if_pos el]
    exact .tell N (by omega) H.prom (recI_right H.inst) rfl rfl
  simp only [if_neg el] at he ⊢
  by_cases e1 : m.k = 1
  · simp only [if_pos e1] at he ⊢
    unfold preS at he ⊢
    obtain ⟨q1, q2, q3⟩ : m.r.st = 1 ∧ m.r.bn = m.bn ∧ m.r.br = m.br := by
      rcases Q.kind with h | h | h | h
      · omega
      · omega
      · exact h.2
      · omega
    split
    · exact .tell N (by omega) N.ball K rfl rfl
    · split
      · rename_i h h'
        rw [if_neg h, if_pos h'] at he
        cases he
      · exact .keep N (by omega) (preR_right R N.rcd q1) h1.symm h2.symm es el (by show ord m.r.bn m.r.br _ _ ≤ 0; rw [q2, q3]; exact ord_self _ _)
  simp only [if_neg e1] at he ⊢
  by_cases e3 : m.k = 3
  · simp only [if_pos e3] at he ⊢
    obtain ⟨q1, q2, q3⟩ : m.r.st = 2 ∧ m.r.bn = m.bn ∧ m.r.br = m.br := by
      rcases Q.kind with h | h | h | h
      · omega
      · omega
      · omega
      · exact h.2
    unfold accS
    split
    · exact .tell N (by omega) N.ball K rfl rfl
    · exact .keep N (by omega) N.rcd h1.symm h2.symm es el (by rw [q2, q3]; exact ord_self _ _)
  simp only [if_neg e3] at he ⊢
  unfold proS
  split
  · exact .tell N (by omega) N.ball K rfl rfl
  · refine .keep N (by omega) K rfl rfl es el ?_
    have := H.le
    rw [ord_le_iff] at this ⊢
    rw [ord_lt_iff] at el
    omega
/-- Where there is an error, nothing is kept or told. -/
theorem answer_err {X : List Rv} {k : Rec} {m : Msg} (he : (answer X k m).2 ≠ 0) : (answer X k m).1 = stp0 := by
  unfold answer at he ⊢
  split <;> rename_i h0
  · rw [if_pos h0] at he; exact absurd rfl he
  rw [if_neg h0] at he
  split <;> rename_i h1
  · rw [if_pos h1] at he; exact absurd rfl he
  rw [if_neg h1] at he
  split <;> rename_i h2
  · rw [if_pos h2] at he; exact absurd rfl he
  rw [if_neg h2] at he
  split <;> rename_i h3
  · rw [if_pos h3] at he
    unfold preS at he ⊢
    split <;> rename_i h4
    · rw [if_pos h4] at he; exact absurd rfl he
    rw [if_neg h4] at he
    split <;> rename_i h5
    · rfl
    · rw [if_neg h5] at he; exact absurd rfl he
  rw [if_neg h3] at he
  split <;> rename_i h4
  · rw [if_pos h4] at he; exact absurd rfl he
  · rw [if_neg h4] at he; exact absurd rfl he
theorem handle_req {X : List Rv} {self : Int} {m : Msg} (he : (handle X self m).2 = 0) : reqB m self = true := by
  unfold handle at he
  split at he
  · assumption
  · cases he
theorem handle_err {X : List Rv} {self : Int} {m : Msg} (he : (handle X self m).2 ≠ 0) : (handle X self m).1 = stp0 := by
  unfold handle at he ⊢
  split
  · rename_i h; rw [if_pos h] at he; exact answer_err he
  · rfl
theorem handle_is {X : List Rv} {self : Int} {m : Msg} (h : reqB m self = true) : handle X self m = answer X (knowL (rcs X) m.r.ir m.r.is) m := by unfold handle; rw [if_pos h]
theorem handle_kept {X : List Rv} {self : Int} {m : Msg} (R : Rights X) (he : (handle X self m).2 = 0) : Kept (knowL (rcs X) m.r.ir m.r.is) m (handle X self m).1 := by
  have hq := handle_req he
  have Q := req_of hq
  have N := rightR_iff.1 Q.ok.rcd
  rw [handle_is hq] at he ⊢
  exact answer_kept R (know_right (rights_rcs R) N.inst) Q (know_inst _ _ _).1 (know_inst _ _ _).2 he
/-- What is kept is of the question's instance. -/
theorem answer_inst {X : List Rv} {k : Rec} {m : Msg} (h1 : k.ir = m.r.ir) (h2 : k.is = m.r.is) (hn : (answer X k m).1.new = true) : (answer X k m).1.r.ir = m.r.ir ∧ (answer X k m).1.r.is = m.r.is := by
  unfold answer at hn ⊢
  split <;> rename_i h0
  · rw [if_pos h0] at hn
    unfold commitS at hn ⊢
    split <;> rename_i h
    · rw [if_pos h] at hn; cases hn
    · unfold comP; split <;> exact ⟨rfl, rfl⟩
  rw [if_neg h0] at hn
  split <;> rename_i h4
  · rw [if_pos h4] at hn; cases hn
  rw [if_neg h4] at hn
  split <;> rename_i h5
  · rw [if_pos h5] at hn; cases hn
  rw [if_neg h5] at hn
  split <;> rename_i h6
  · rw [if_pos h6] at hn
    unfold preS at hn ⊢
    split <;> rename_i h7
    · rw [if_pos h7] at hn; cases hn
    rw [if_neg h7] at hn
    split <;> rename_i h8
    · rw [if_pos h8] at hn; cases hn
    · exact ⟨rfl, rfl⟩
  rw [if_neg h6] at hn
  split <;> rename_i h7
  · rw [if_pos h7] at hn
    unfold accS at hn ⊢
    split <;> rename_i h8
    · rw [if_pos h8] at hn; cases hn
    · exact ⟨rfl, rfl⟩
  · rw [if_neg h7] at hn
    unfold proS at hn ⊢
    split <;> rename_i h8
    · rw [if_pos h8] at hn; cases hn
    · exact ⟨h1, h2⟩
theorem handle_inst {X : List Rv} {self : Int} {m : Msg} (hn : (handle X self m).1.new = true) : (handle X self m).1.r.ir = m.r.ir ∧ (handle X self m).1.r.is = m.r.is := by
  unfold handle at hn ⊢
  split
  · rename_i h; rw [if_pos h] at hn
    exact answer_inst (know_inst _ _ _).1 (know_inst _ _ _).2 hn
  · rename_i h; rw [if_neg h] at hn; cases hn
/-- Asked again with what was kept: nothing more is kept, and the answer is the same. -/
theorem answer_again {X Y : List Rv} {k : Rec} {m : Msg} {self : Int} (Q : Req m self) (_he : (answer X k m).2 = 0) (hn : (answer X k m).1.new = true) :
    answer Y (answer X k m).1.r m = (⟨zrec, false, (answer X k m).1.m, (answer X k m).1.has⟩, 0) := by
  have kn := Q.kind
  have el0 : ¬ ord m.bn m.br m.bn m.br < 0 := by rw [ord_lt_iff]; omega
  have es2 := eq2_self m.bn m.br
  by_cases e5 : m.k = 5
  · have e3 : m.r.st = 3 := by omega
    have ha : answer X k m = (commitS k m, 0) := by unfold answer; rw [if_pos e5]
    rw [ha] at hn ⊢
    have hks : k.st ≠ 3 := by
      intro h; unfold commitS at hn; rw [if_pos h] at hn; cases hn
    have hc : commitS k m = ⟨comP k m.r, true, zmsg, false⟩ := by unfold commitS; rw [if_neg hks]
    rw [hc]
    have hst : (comP k m.r).st = 3 := by unfold comP; split <;> exact e3
    show answer Y (comP k m.r) m = _
    unfold answer
    rw [if_pos e5]
    unfold commitS
    rw [if_pos hst]
    rfl
  by_cases es : k.st = 3
  · have ha : (answer X k m).1.new = false := by unfold answer; rw [if_neg e5, if_pos es]; rfl
    rw [ha] at hn; cases hn
  by_cases el : ord m.bn m.br k.pn k.pr < 0
  · have ha : (answer X k m).1.new = false := by unfold answer; rw [if_neg e5, if_neg es, if_pos el]; rfl
    rw [ha] at hn; cases hn
  by_cases e1 : m.k = 1
  · obtain ⟨q1, q2, q3⟩ : m.r.st = 1 ∧ m.r.bn = m.bn ∧ m.r.br = m.br := by omega
    have ha : answer X k m = preS X k m := by unfold answer; rw [if_neg e5, if_neg es, if_neg el, if_pos e1]
    rw [ha] at hn ⊢
    have hp : preS X k m = (keepS m 2 (preR X m), 0) := by
      unfold preS at hn ⊢
      split <;> rename_i h
      · rw [if_pos h] at hn; cases hn
      rw [if_neg h] at hn
      split <;> rename_i h'
      · rw [if_pos h'] at hn; cases hn
      · rfl
    rw [hp]
    show answer Y (withP (preR X m) m.bn m.br) m = (tellS m 2 m.bn m.br (withP (preR X m) m.bn m.br), 0)
    unfold answer
    rw [if_neg e5, if_neg (show ¬ (withP (preR X m) m.bn m.br).st = 3 from fun h => by have : m.r.st = 3 := h; omega), if_neg (show ¬ ord m.bn m.br (withP (preR X m) m.bn m.br).pn (withP (preR X m) m.bn m.br).pr < 0 from el0), if_pos e1]
    unfold preS
    rw [if_pos]
    show (eq2 m.r.bn m.r.br m.bn m.br && decide (m.r.st = 1)) = true
    rw [q2, q3, es2, decide_eq_true q1]; rfl
  by_cases e3 : m.k = 3
  · obtain ⟨q1, q2, q3⟩ : m.r.st = 2 ∧ m.r.bn = m.bn ∧ m.r.br = m.br := by omega
    have ha : answer X k m = (accS k m, 0) := by unfold answer; rw [if_neg e5, if_neg es, if_neg el, if_neg e1, if_pos e3]
    rw [ha] at hn ⊢
    have hp : accS k m = keepS m 4 m.r := by
      unfold accS at hn ⊢
      dsimp only at hn
      split <;> rename_i h
      · rw [if_pos h] at hn; cases hn
      · rfl
    rw [hp]
    show answer Y (withP m.r m.bn m.br) m = (tellS m 4 m.bn m.br (withP m.r m.bn m.br), 0)
    unfold answer
    rw [if_neg e5, if_neg (show ¬ (withP m.r m.bn m.br).st = 3 from fun h => by have : m.r.st = 3 := h; omega), if_neg (show ¬ ord m.bn m.br (withP m.r m.bn m.br).pn (withP m.r m.bn m.br).pr < 0 from el0), if_neg e1, if_pos e3]
    unfold accS
    rw [if_pos]
    show (eq2 m.r.bn m.r.br m.bn m.br && decide (m.r.st = 2)) = true
    rw [q2, q3, es2, decide_eq_true q1]; rfl
  have ha : answer X k m = (proS k m, 0) := by unfold answer; rw [if_neg e5, if_neg es, if_neg el, if_neg e1, if_neg e3]
  rw [ha] at hn ⊢
  have hp : proS k m = keepS m 7 k := by
    unfold proS at hn ⊢
    dsimp only at hn
    split <;> rename_i h
    · rw [if_pos h] at hn; cases hn
    · rfl
  rw [hp]
  show answer Y (withP k m.bn m.br) m = (tellS m 7 m.bn m.br (withP k m.bn m.br), 0)
  unfold answer
  rw [if_neg e5, if_neg (show ¬ (withP k m.bn m.br).st = 3 from es), if_neg (show ¬ ord m.bn m.br (withP k m.bn m.br).pn (withP k m.bn m.br).pr < 0 from el0), if_neg e1, if_neg e3]
  unfold proS
  rw [if_pos (show eq2 (withP k m.bn m.br).pn (withP k m.bn m.br).pr m.bn m.br = true from es2)]
theorem handle_again {X Y : List Rv} {m : Msg} {self : Int} (he : (handle X self m).2 = 0) (hn : (handle X self m).1.new = true) (hy : rcs Y = rcs X ++ [(handle X self m).1.r]) :
    handle Y self m = (⟨zrec, false, (handle X self m).1.m, (handle X self m).1.has⟩, 0) := by
  have hq := handle_req he
  have Q := req_of hq
  have hi := handle_inst hn
  rw [handle_is hq, hy, know_snoc, if_pos (by rw [hi.1, hi.2]; exact eq2_self _ _)]
  rw [handle_is hq] at he hn ⊢
  exact answer_again Q he hn
/-- Where nothing was kept, the answer to what is asked again is the same. -/
theorem handle_stays {X Y : List Rv} {m : Msg} {self : Int} (hy : rcs Y = rcs X) (hn : (handle X self m).1.new = false) : (handle Y self m).1.new = false ∧ (handle Y self m).1.has = (handle X self m).1.has ∧ (handle Y self m).1.m = (handle X self m).1.m ∧ (handle Y self m).2 = (handle X self m).2 := by
  have key : handle Y self m = handle X self m := by
    have e : ∀ m : Msg, preR Y m = preR X m := fun m => by
      unfold preR pS pD atS atD
      rw [confs_rcs _ _ hy]
    unfold handle answer preS
    rw [hy, e]
  rw [key]
  exact ⟨hn, rfl, rfl, rfl⟩
/-- Behind a promise nothing of a lower ballot is kept. -/
theorem answer_behind {Y : List Rv} {k : Rec} {o : Msg} (h5 : o.k ≠ 5) (hs : k.st ≠ 3) (hl : ord o.bn o.br k.pn k.pr < 0) : answer Y k o = (tellS o 8 k.pn k.pr (recI k.ir k.is), 0) := by
  unfold answer
  rw [if_neg h5, if_neg hs, if_pos hl]
theorem handle_prepared {X : List Rv} {m : Msg} {self : Int} (h6 : m.k = 6) (he : (handle X self m).2 = 0) (h7 : (handle X self m).1.m.k = 7) (Y : List Rv) (hy : rcs Y = if (handle X self m).1.new = true then rcs X ++ [(handle X self m).1.r] else rcs X) :
    (knowL (rcs Y) m.r.ir m.r.is).pn = m.bn ∧ (knowL (rcs Y) m.r.ir m.r.is).pr = m.br ∧ (knowL (rcs Y) m.r.ir m.r.is).st ≠ 3 := by
  have hq := handle_req he
  have hi := @handle_inst X self m
  rw [handle_is hq] at h7 hy hi
  by_cases es : (knowL (rcs X) m.r.ir m.r.is).st = 3
  · exfalso
    unfold answer at h7
    rw [if_neg (by omega), if_pos es] at h7
    exact absurd (show (5 : Int) = 7 from h7) (by decide)
  by_cases el : ord m.bn m.br (knowL (rcs X) m.r.ir m.r.is).pn (knowL (rcs X) m.r.ir m.r.is).pr < 0
  · exfalso
    unfold answer at h7
    rw [if_neg (by omega), if_neg es, if_pos el] at h7
    exact absurd (show (8 : Int) = 7 from h7) (by decide)
  have ha : answer X (knowL (rcs X) m.r.ir m.r.is) m = (proS (knowL (rcs X) m.r.ir m.r.is) m, 0) := by
    unfold answer
    rw [if_neg (by omega), if_neg es, if_neg el, if_neg (by omega), if_neg (by omega)]
  rw [ha] at hy hi
  by_cases ep : eq2 (knowL (rcs X) m.r.ir m.r.is).pn (knowL (rcs X) m.r.ir m.r.is).pr m.bn m.br = true
  · have hp : proS (knowL (rcs X) m.r.ir m.r.is) m = tellS m 7 m.bn m.br (knowL (rcs X) m.r.ir m.r.is) := by unfold proS; rw [if_pos ep]
    rw [hp] at hy
    rw [show rcs Y = rcs X from hy]
    obtain ⟨a, b⟩ := eq2_iff.1 ep
    exact ⟨a, b, es⟩
  · have hp : proS (knowL (rcs X) m.r.ir m.r.is) m = keepS m 7 (knowL (rcs X) m.r.ir m.r.is) := by unfold proS; rw [if_neg ep]
    rw [hp] at hy hi
    have hh := hi rfl
    rw [show rcs Y = rcs X ++ [withP (knowL (rcs X) m.r.ir m.r.is) m.bn m.br] from hy, know_snoc, if_pos]
    · exact ⟨rfl, rfl, es⟩
    · obtain ⟨a, b⟩ := hh
      have a' : (withP (knowL (rcs X) m.r.ir m.r.is) m.bn m.br).ir = m.r.ir := a
      have b' : (withP (knowL (rcs X) m.r.ir m.r.is) m.bn m.br).is = m.r.is := b
      rw [a', b']; exact eq2_self _ _
theorem handle_after {X Y : List Rv} {m o : Msg} {self : Int} (h6 : m.k = 6) (he : (handle X self m).2 = 0) (h7 : (handle X self m).1.m.k = 7) (hy : rcs Y = if (handle X self m).1.new = true then rcs X ++ [(handle X self m).1.r] else rcs X)
    (hi : o.r.ir = m.r.ir ∧ o.r.is = m.r.is) (h5 : o.k ≠ 5) (hl : ord o.bn o.br m.bn m.br < 0) : (handle Y self o).1.new = false ∧ ((handle Y self o).2 = 0 → (handle Y self o).1.m.k = 8 ∧ (handle Y self o).1.m.bn = m.bn ∧ (handle Y self o).1.m.br = m.br) := by
  obtain ⟨a, b, c⟩ := handle_prepared h6 he h7 Y hy
  by_cases hq : reqB o self = true
  · rw [handle_is hq, hi.1, hi.2, answer_behind h5 c (by rw [a, b]; exact hl)]
    exact ⟨rfl, fun _ => ⟨rfl, a, b⟩⟩
  · have e : handle Y self o = (stp0, 1) := by unfold handle; rw [if_neg hq]
    rw [e]
    exact ⟨rfl, fun h => by cases h⟩
/-- What is pre-accepted. -/
theorem handle_pre {X : List Rv} {m : Msg} {self : Int} (h1 : m.k = 1) (hn : (handle X self m).1.new = true) : (handle X self m).1.r = withP (preR X m) m.bn m.br ∧ reqB m self = true := by
  unfold handle at hn ⊢
  split
  · rename_i hq
    rw [if_pos hq] at hn
    refine ⟨?_, hq⟩
    unfold answer at hn ⊢
    rw [if_neg (by omega)] at hn ⊢
    split <;> rename_i h4
    · rw [if_pos h4] at hn; cases hn
    rw [if_neg h4] at hn
    split <;> rename_i h5
    · rw [if_pos h5] at hn; cases hn
    rw [if_neg h5, if_pos h1] at hn
    try rw [if_pos h1]
    unfold preS at hn ⊢
    split <;> rename_i h7
    · rw [if_pos h7] at hn; cases hn
    rw [if_neg h7] at hn
    split <;> rename_i h8
    · rw [if_pos h8] at hn; cases hn
    · rfl
  · rename_i hq
    rw [if_neg hq] at hn; cases hn
end M
end Go.Proofs.YtpknkhgkejkpkaaGreat
