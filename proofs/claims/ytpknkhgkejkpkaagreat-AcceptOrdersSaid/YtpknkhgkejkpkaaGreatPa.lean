/- What is known of an instance, and what a message is answered: plain facts; no dump. -/
import Derived.Test.YtpknkhgkejkpkaaGreatPy
import Derived.Test.YtpknkhgkejkpkaaGreatPk
namespace Go.Proofs.YtpknkhgkejkpkaaGreat
open Go.RowKit

namespace M
/-- What is to be kept, and what is told. -/
structure Stp where
  r : Rec
  new : Bool
  m : Msg
  has : Bool
def stp0 : Stp := ⟨zrec, false, zmsg, false⟩
def withP (r : Rec) (a b : Int) : Rec := ⟨r.ir, r.is, r.st, a, b, r.bn, r.br, r.c, r.sq, r.d0, r.d1, r.d2, r.d3, r.d4, r.d5, r.d6, r.kp⟩
def withA (r : Rec) (n : Int) (d : Nat → Int) (kp : Bool) : Rec := ⟨r.ir, r.is, r.st, r.pn, r.pr, r.bn, r.br, r.c, n, d 0, d 1, d 2, d 3, d 4, d 5, d 6, kp⟩
def tellS (m : Msg) (k a b : Int) (r : Rec) : Stp := ⟨zrec, false, ⟨k, m.to, m.fr, a, b, r⟩, true⟩
def keepS (m : Msg) (k : Int) (r : Rec) : Stp := ⟨withP r m.bn m.br, true, ⟨k, m.to, m.fr, m.bn, m.br, withP r m.bn m.br⟩, true⟩
def comP (k r : Rec) : Rec := if 0 < ord k.pn k.pr r.bn r.br then withP r k.pn k.pr else withP r r.bn r.br
def commitS (k : Rec) (m : Msg) : Stp := if k.st = 3 then stp0 else ⟨comP k m.r, true, zmsg, false⟩
end M
def sameD (n : Int) (d : Nat → Int) (r : M.Rec) : Bool := decide (n = r.sq) && V7.same7 (d 0) (d 1) (d 2) (d 3) (d 4) (d 5) (d 6) r.d0 r.d1 r.d2 r.d3 r.d4 r.d5 r.d6
def pS (X : List Rv) (m : M.Msg) : Int := atS X (m.r.ir, m.r.is) m.r.c m.r.sq
def pD (X : List Rv) (m : M.Msg) : Nat → Int := atD X (m.r.ir, m.r.is) m.r.c (M.dep m.r)
def preR (X : List Rv) (m : M.Msg) : M.Rec := M.withA m.r (pS X m) (pD X m) (sameD (pS X m) (pD X m) m.r)
namespace M
def preS (X : List Rv) (k : Rec) (m : Msg) : Stp × Int :=
  if (eq2 k.bn k.br m.bn m.br && decide (k.st = 1)) = true then (tellS m 2 m.bn m.br k, 0) else if (eq2 k.bn k.br m.bn m.br && decide (k.st = 2)) = true then (stp0, 9) else (keepS m 2 (preR X m), 0)
def accS (k : Rec) (m : Msg) : Stp := if (eq2 k.bn k.br m.bn m.br && decide (k.st = 2)) = true then tellS m 4 m.bn m.br k else keepS m 4 m.r
def proS (k : Rec) (m : Msg) : Stp := if eq2 k.pn k.pr m.bn m.br = true then tellS m 7 m.bn m.br k else keepS m 7 k
def answer (X : List Rv) (k : Rec) (m : Msg) : Stp × Int :=
  if m.k = 5 then (commitS k m, 0) else if k.st = 3 then (tellS m 5 k.bn k.br k, 0) else if ord m.bn m.br k.pn k.pr < 0 then (tellS m 8 k.pn k.pr (recI k.ir k.is), 0)
  else if m.k = 1 then preS X k m else if m.k = 3 then (accS k m, 0) else (proS k m, 0)
def brings (m : Msg) (a b : Int) : Bool := decide (m.k = a) && (decide (m.r.st = b) && (decide (a = 5) || eq2 m.r.bn m.r.br m.bn m.br))
def reqB (m : Msg) (self : Int) : Bool := decide (m.to = self) && (rightM m && (decide (m.k = 6) || (brings m 1 1 || (brings m 3 2 || brings m 5 3))))
def handle (X : List Rv) (self : Int) (m : Msg) : Stp × Int := if reqB m self = true then answer X (knowL (rcs X) m.r.ir m.r.is) m else (stp0, 1)

structure RightP (r : Rec) : Prop where
  inst : pairB r.ir r.is 0 6 1 1048576 = true
  prom : pairB r.pn r.pr 0 1099511627776 0 6 = true
  ball : pairB r.bn r.br 0 1099511627776 0 6 = true
  le : ord r.bn r.br r.pn r.pr ≤ 0
  cmd : rightC r.c = true
  deps : V7.right (dep r) = true
  fits : fitsS r = true
theorem rightR_iff {r : Rec} : rightR r = true ↔ RightP r := by
  unfold rightR
  simp only [Bool.and_eq_true, decide_eq_true_eq]
  exact ⟨fun ⟨a, b, c, d, e, f, g⟩ => ⟨a, b, c, d, e, f, g⟩, fun ⟨a, b, c, d, e, f, g⟩ => ⟨a, b, c, d, e, f, g⟩⟩
structure RightN (m : Msg) : Prop where
  kind : 1 ≤ m.k ∧ m.k ≤ 8
  fr : within m.fr 0 6 = true
  to : within m.to 0 6 = true
  ball : pairB m.bn m.br 0 1099511627776 0 6 = true
  rcd : rightR m.r = true
theorem rightM_iff {m : Msg} : rightM m = true ↔ RightN m := by
  unfold rightM
  simp only [Bool.and_eq_true, decide_eq_true_eq]
  exact ⟨fun ⟨a, b, c, d, e, f⟩ => ⟨⟨a, b⟩, c, d, e, f⟩, fun ⟨⟨a, b⟩, c, d, e, f⟩ => ⟨a, b, c, d, e, f⟩⟩
theorem pairB_iff {x y lo a lo' b : Int} : pairB x y lo a lo' b = true ↔ (lo ≤ x ∧ x ≤ a) ∧ lo' ≤ y ∧ y ≤ b := by simp [pairB, within]
theorem dep_recI (a b : Int) : ∀ k, dep (recI a b) k = 0
  | 0 | 1 | 2 | 3 | 4 | 5 | 6 => rfl
  | _ + 7 => rfl
theorem fits_zero {r : Rec} (h : r.st = 0) : fitsS r = sameRec r (zeroRec r) := by unfold fitsS; rw [if_pos h]
theorem recI_right {a b : Int} (h : pairB a b 0 6 1 1048576 = true) : rightR (recI a b) = true := by
  refine rightR_iff.2 ⟨h, (show pairB 0 0 0 1099511627776 0 6 = true by decide), (show pairB 0 0 0 1099511627776 0 6 = true by decide), (show ord 0 0 0 0 ≤ 0 by decide), (show rightC zero = true by decide), ?_, ?_⟩
  · exact V7.right_iff.2 fun k _ => by rw [dep_recI]; omega
  · rw [fits_zero rfl]; simp [sameRec, zeroRec, recI, eq2, sameC, zero, sameR, sameW, V7.same7]
theorem withP_zero (r : Rec) (a b : Int) (h : r.st = 0) : fitsS (withP r a b) = fitsS r := by
  rw [fits_zero h, fits_zero (r := withP r a b) h]
  unfold sameRec zeroRec withP
  simp [eq2]
theorem withP_fits (r : Rec) (a b : Int) : fitsS (withP r a b) = fitsS r := by
  by_cases h : r.st = 0
  · exact withP_zero r a b h
  · unfold fitsS; rw [if_neg h, if_neg (show ¬ (withP r a b).st = 0 from h)]; rfl
theorem dep_withP (r : Rec) (a b : Int) : ∀ k, dep (withP r a b) k = dep r k
  | 0 | 1 | 2 | 3 | 4 | 5 | 6 => rfl
  | _ + 7 => rfl
theorem withP_right {r : Rec} (h : rightR r = true) {a b : Int} (hp : pairB a b 0 1099511627776 0 6 = true) (hl : ord r.bn r.br a b ≤ 0) : rightR (withP r a b) = true := by
  have H := rightR_iff.1 h
  refine rightR_iff.2 ⟨H.inst, hp, H.ball, hl, H.cmd, ?_, by rw [withP_fits]; exact H.fits⟩
  rw [show dep (withP r a b) = dep r from funext (dep_withP r a b)]; exact H.deps
theorem know_right {l : List Rec} (h : ∀ r ∈ l, rightR r = true) {a b : Int} (hi : pairB a b 0 6 1 1048576 = true) : rightR (knowL l a b) = true := by
  rcases know_or l a b with e | e
  · rw [e]; exact recI_right hi
  · exact h _ e
end M

/-- What one has to wait for may be. -/
theorem fol_range {n : Int} (h : 0 ≤ n) : 1 ≤ fol n ∧ fol n ≤ 1099511627776 := by
  unfold fol Dp.M.mn wrap64
  split <;> omega
theorem sq_of_right {r : M.Rec} (h : M.rightR r = true) : 0 ≤ r.sq := by
  have := (M.rightR_iff.1 h).fits
  unfold M.fitsS at this
  split at this
  · unfold M.sameRec at this
    simp only [Bool.and_eq_true, decide_eq_true_eq] at this
    have := this.2.2.2.2.2.1
    unfold M.zeroRec at this
    dsimp only at this
    omega
  · split at this
    · unfold M.seqB at this
      simp only [Bool.and_eq_true, decide_eq_true_eq] at this
      omega
    · split at this
      · unfold M.seqB at this
        simp only [Bool.and_eq_true, decide_eq_true_eq] at this
        omega
      · cases this
theorem seqs_range : ∀ (l : List M.Rec) (s : Int), (∀ r ∈ l, 0 ≤ r.sq) → 1 ≤ s ∧ s ≤ 1099511627776 → 1 ≤ seqs s l ∧ seqs s l ≤ 1099511627776
  | [], _, _, hs => hs
  | r :: l, s, h, hs => by
    refine seqs_range l (seq1 s r) (fun q hq => h q (List.mem_cons_of_mem _ hq)) ?_
    have := fol_range (h r List.mem_cons_self)
    unfold seq1 Dp.M.mx
    split <;> omega
theorem deps_range : ∀ (l : List M.Rec) (d : Nat → Int), (∀ r ∈ l, r.is ≤ 1048576) → (∀ k, k < 7 → 0 ≤ d k ∧ d k ≤ 1048576) → ∀ k, k < 7 → 0 ≤ depsL d l k ∧ depsL d l k ≤ 1048576
  | [], _, _, hd => hd
  | r :: l, d, h, hd => by
    refine deps_range l (dep1 d r) (fun q hq => h q (List.mem_cons_of_mem _ hq)) fun k hk => ?_
    have := h r List.mem_cons_self
    have := hd k hk
    unfold dep1 Dp.M.wit Dp.M.mx
    split
    · split <;> omega
    · omega
def Rights (X : List Rv) : Prop := ∀ x ∈ X, M.rightR x.r = true
theorem rights_rcs {X : List Rv} (h : Rights X) : ∀ r ∈ rcs X, M.rightR r = true := by
  intro r hr
  obtain ⟨x, hx, rfl⟩ := List.mem_map.1 hr
  exact h x hx
theorem confs_rights {X : List Rv} (h : Rights X) (i : Ky) (c : M.Cmd) : ∀ r ∈ rcs (confs X i c), M.rightR r = true := by
  intro r hr
  obtain ⟨x, hx, rfl⟩ := List.mem_map.1 hr
  exact h x (confs_mem hx)
theorem atS_range {X : List Rv} (h : Rights X) (i : Ky) (c : M.Cmd) {s : Int} (hs : 1 ≤ s ∧ s ≤ 1099511627776) : 1 ≤ atS X i c s ∧ atS X i c s ≤ 1099511627776 :=
  seqs_range _ s (fun r hr => sq_of_right (confs_rights h i c r hr)) hs
theorem atD_range {X : List Rv} (h : Rights X) (i : Ky) (c : M.Cmd) {d : Nat → Int} (hd : ∀ k, k < 7 → 0 ≤ d k ∧ d k ≤ 1048576) : ∀ k, k < 7 → 0 ≤ atD X i c d k ∧ atD X i c d k ≤ 1048576 :=
  deps_range _ d (fun r hr => (M.pairB_iff.1 (M.rightR_iff.1 (confs_rights h i c r hr)).inst).2.2) hd
theorem dep_withA (r : M.Rec) (n : Int) (d : Nat → Int) (kp : Bool) : ∀ k, k < 7 → M.dep (M.withA r n d kp) k = d k
  | 0, _ | 1, _ | 2, _ | 3, _ | 4, _ | 5, _ | 6, _ => rfl
  | _ + 7, h => by omega
theorem right_of_deps {r : M.Rec} {d : Nat → Int} (e : ∀ k, k < 7 → M.dep r k = d k) (hd : ∀ k, k < 7 → 0 ≤ d k ∧ d k ≤ 1048576) : V7.right (M.dep r) = true :=
  V7.right_iff.2 fun k hk => by rw [e k hk]; exact hd k hk
end Go.Proofs.YtpknkhgkejkpkaaGreat
