/- How long what is encoded may be; no conditions but those that it names. -/
import Derived.Test.YtagngbdlpdilnaaEnc
namespace Go.Proofs.Ytagngbdlpdilnaa
namespace M
theorem rights_small {ss : List (List UInt8)} (h : rightsB ss = true) : ss.length ≤ 8 ∧ ∀ x ∈ ss, x.length ≤ 8 := by
  unfold rightsB at h
  rw [Bool.and_eq_true, decide_eq_true_eq, List.all_eq_true] at h
  refine ⟨h.1, fun x hx => ?_⟩
  obtain ⟨k, hk, e⟩ := List.getElem_of_mem hx
  have := h.2 k (List.mem_range.2 hk)
  unfold okAt at this
  rw [Bool.and_eq_true, rightB_iff, List.getD, List.getElem?_eq_getElem hk] at this
  have h2 := this.1.2
  simp only [Option.getD_some] at h2
  rw [e] at h2
  exact h2
/-- A command that may be has eight reads and writes at most, of eight bytes. -/
structure Tiny (c : Cmd) : Prop where
  rl : c.rs.length ≤ 8
  wl : c.ws.length ≤ 8
  rs : ∀ r ∈ c.rs, r.1.length ≤ 8
  ws : ∀ r ∈ c.ws, r.1.length ≤ 8 ∧ r.2.length ≤ 8
theorem trans_tiny {c : Cmd} (h : transB c = true) : Tiny c := by
  unfold transB areR areW at h
  rw [Bool.and_eq_true, Bool.and_eq_true, Bool.and_eq_true, Bool.and_eq_true, Bool.and_eq_true, Bool.and_eq_true, Bool.and_eq_true, Bool.and_eq_true, Bool.and_eq_true, Bool.and_eq_true] at h
  obtain ⟨_, _, _, _, _, _, _, ⟨_, h1⟩, h2, h3⟩ := h
  obtain ⟨a1, a2⟩ := rights_small h1
  obtain ⟨b1, b2⟩ := rights_small h3
  rw [List.all_eq_true] at h2
  refine ⟨by simpa [rk] using a1, by simpa [wk] using b1, fun r hr => a2 r.1 (List.mem_map_of_mem hr), fun r hr => ⟨b2 r.1 (List.mem_map_of_mem hr), ?_⟩⟩
  have := h2 r hr
  unfold shortAt at this
  exact of_decide_eq_true this
theorem right_tiny {c : Cmd} (h : rightC c = true) : Tiny c := by
  unfold rightC at h
  split at h
  · rw [sameC_zero h]
    exact ⟨by decide, by decide, (fun r h => by cases h), (fun r h => by cases h)⟩
  · split at h
    · rw [Bool.and_eq_true] at h; exact trans_tiny h.1
    · split at h
      · exact trans_tiny h
      · cases h
theorem tiny_mod {c : Cmd} (h : Tiny c) : Mod c :=
  ⟨by have := h.rl; omega, by have := h.wl; omega, fun r hr => by have := h.rs r hr; omega, fun r hr => by have := (h.ws r hr).1; omega, fun r hr => by have := (h.ws r hr).2; omega⟩
theorem rds8_len (l : List (List UInt8 × Int × Int)) (h : ∀ r ∈ l, r.1.length ≤ 8) : (l.flatMap encRd).length ≤ l.length * 29 := by
  induction l with
  | nil => simp
  | cons r l ih =>
    have h1 := txt_len r.1
    have h2 := numsZ_len [r.2.1, r.2.2]
    have h3 := h r (by simp)
    have h4 := ih (fun r hr => h r (by simp [hr]))
    simp only [List.flatMap_cons, List.length_append, List.length_cons, encRd] at *
    simp only [List.length_nil] at h2
    omega
theorem wrs8_len (l : List (List UInt8 × List UInt8)) (h : ∀ r ∈ l, r.1.length ≤ 8 ∧ r.2.length ≤ 8) : (l.flatMap encWr).length ≤ l.length * 30 := by
  induction l with
  | nil => simp
  | cons r l ih =>
    have h1 := txt_len r.1
    have h2 := txt_len r.2
    have h3 := h r (by simp)
    have h4 := ih (fun r hr => h r (by simp [hr]))
    simp only [List.flatMap_cons, List.length_append, List.length_cons, encWr] at *
    omega
theorem encC_len {c : Cmd} (h : Tiny c) : (encC c).length ≤ 600 := by
  have h1 := numsZ_len [c.k, c.tc, c.tn]
  have h2 := numsZ_len [c.tt, c.tk, c.sh]
  have h3 := numsZ_len [(c.rs.length : Int)]
  have h4 := numsZ_len [(c.ws.length : Int)]
  have h5 := rds8_len c.rs h.rs
  have h6 := wrs8_len c.ws h.ws
  have h7 := flag_len c.cm
  have h8 := h.rl
  have h9 := h.wl
  simp only [encC, List.length_append, List.length_cons, List.length_nil] at *
  omega
theorem encR_len {r : Rec} (h : Tiny r.c) : (encR r).length ≤ 800 := by
  have h1 := numsZ_len [r.ir, r.is, r.st]
  have h2 := numsZ_len [r.pn, r.pr]
  have h3 := numsZ_len [r.bn, r.br]
  have h4 := numsZ_len [r.sq]
  have h5 := numsZ_len [r.d0, r.d1, r.d2, r.d3, r.d4, r.d5, r.d6]
  have h6 := flag_len r.kp
  have h7 := encC_len h
  simp only [encR, List.length_append, List.length_cons, List.length_nil] at *
  omega
theorem encM_len {m : Msg} (h : Tiny m.r.c) : (encM m).length ≤ 1000 ∧ (encR m.r).length < (encM m).length := by
  have h1 := numsZ_len [m.k, m.fr, m.to]
  have h2 := numsZ_len [m.bn, m.br]
  have h3 := encR_len h
  simp only [encM, List.length_append, List.length_cons, List.length_nil] at *
  omega
theorem rightR_cmd {r : Rec} (h : rightR r = true) : rightC r.c = true := by
  unfold rightR at h
  rw [Bool.and_eq_true, Bool.and_eq_true, Bool.and_eq_true, Bool.and_eq_true, Bool.and_eq_true] at h
  exact h.2.2.2.2.1
theorem rightM_rec {m : Msg} (h : rightM m = true) : rightR m.r = true := by
  unfold rightM at h
  rw [Bool.and_eq_true, Bool.and_eq_true, Bool.and_eq_true, Bool.and_eq_true, Bool.and_eq_true] at h
  exact h.2.2.2.2.2
end M
end Go.Proofs.Ytagngbdlpdilnaa
