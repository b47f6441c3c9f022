/- A step in both disks, whatever it is; a disk and the document's side by side; no conditions but what may be. -/
import Derived.Test.YtpdknamdladgnaaDoesC
import Derived.Test.YtpdknamdladgnaaDoesD
import Derived.Test.YtpdknamdladgnaaAwake
namespace Go.Proofs.Ytpdknamdladgnaa
open Go.RowKit

theorem does_any {w : World} {g : Nat} {F R : Nat → Prop} {r sv : Value} {s t : M.St} (d : M.Do) (h : Disk w g F s) (h' : Doc w R r t) (hFR : ∀ x, F x → ¬ R x) (hB : Bts w sv d.b) (hl : d.b.length ≤ 1000000) :
    Calls Try.prog 14 #[.pointer (some ⟨g, 0, none⟩), r, .agg #[.int .i64 d.verb, .int .i64 d.n, .int .i64 d.pos, .int .u8 (d.mask.toNat : Int), sv]] w (Does w g F R s t d) := by
  obtain ⟨k, n, p, m, bs⟩ := d
  by_cases h0 : k = 0
  · subst h0; exact does_app n p m h h' hFR hB hl
  · by_cases h1 : k = 1
    · subst h1; exact does_sync n p m h h' hFR hB hl
    · by_cases h2 : k = 2
      · subst h2; exact does_cut n p m h h' hFR hB hl
      · by_cases h3 : k = 3
        · subst h3; exact does_rep n p m h h' hFR hB hl
        · by_cases h4 : k = 4
          · subst h4; exact does_crash n p m h h' hFR hB hl
          · exact does_none k h0 h1 h2 h3 h4 n p m h h' hFR hB hl

/-- A disk of one's own, and the document's. -/
structure Pair (w wk : World) (g : Nat) (F : Nat → Prop) (s : M.St) (R : Nat → Prop) (r : Value) (t : M.St) : Prop where
  live : Live w wk g F s
  doc : Doc wk R r t
  apart : ∀ x, F x → ¬ R x
  mine : ∀ x, R x → w.heap.size ≤ x
theorem Pair.on {w wk w' : World} {g : Nat} {F R : Nat → Prop} {r : Value} {s t : M.St} (h : Pair w wk g F s R r t) (hb : Below wk.heap.size wk w') : Pair w w' g F s R r t :=
  ⟨h.live.on hb, h.doc.below hb, h.apart, h.mine⟩
/-- Another block is written. -/
theorem Pair.fill {w wk : World} {g b : Nat} {F R : Nat → Prop} {r : Value} {s t : M.St} (h : Pair w wk g F s R r t) (hf : ¬ F b) (hr : ¬ R b) (hb : w.heap.size ≤ b) (x y u : Value) : Pair w (fill wk b x y u) g F s R r t := by
  have k := keeps_fill wk b x y u
  exact ⟨⟨h.live.disk.keeps k fun x e f => hf (f ▸ e), h.live.below.trans (k.below (B := w.heap.size) (fun x e => by omega) h.live.below.size), h.live.mine⟩, h.doc.keeps k fun x e f => hr (f ▸ e), h.apart, h.mine⟩
theorem Pair.does {w wk : World} {g : Nat} {F R : Nat → Prop} {r : Value} {s t : M.St} (h : Pair w wk g F s R r t) (d : M.Do) {e : Ending} {w' : World} (hd : Does wk g F R s t d e w') :
    ∃ q F' R', e = .returned (.tuple #[q, .bool (M.alike s t d)]) ∧ Pair w w' g F' (M.step s d) R' q (M.step t d) ∧ Keeps F wk w' ∧ (∀ x, F' x → F x ∨ wk.heap.size ≤ x) ∧ (∀ x, R' x → R x ∨ wk.heap.size ≤ x) := by
  obtain ⟨q, F', R', he, hk, hr, hkk, hg, hR, hF⟩ := hd
  have hs := h.live.below.size
  exact ⟨q, F', R', he, ⟨⟨hk, h.live.below.trans (hkk.below h.live.mine hs), fun x e => (hg.1 x e).elim (h.live.mine x) (fun e => by omega)⟩, hr, hF, fun x e => (hR x e).elim (h.mine x) (fun e => by omega)⟩, hkk, hg.1, hR⟩
end Go.Proofs.Ytpdknamdladgnaa
