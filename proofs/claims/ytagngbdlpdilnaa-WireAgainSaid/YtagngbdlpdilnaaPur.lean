/- What was encoded is read, what is read was encoded: commands, records, messages; no conditions but those that they name. -/
import Derived.Test.YtagngbdlpdilnaaDecB
import Derived.Test.YtagngbdlpdilnaaEnc
namespace Go.Proofs.Ytagngbdlpdilnaa
namespace P
open M (Cmd Rec Msg Nb)

theorem num_fwdZ {z : Int} (h : Nb z) (r : List UInt8) : num (M.numZ z ++ r) = .ok (r, z.toNat) := num_fwd (by have := h.1; have := h.2; omega) r
theorem toZ {z : Int} (h : Nb z) : ((z.toNat : Nat) : Int) = z := Int.toNat_of_nonneg h.1
theorem nbN {n : Nat} (h : n ≤ 1099511627776) : Nb (n : Int) := ⟨by omega, by omega⟩
theorem numZ_nat (n : Nat) : M.numZ (n : Int) = M.num n := rfl
/-- A command small enough to be read. -/
structure Sml (c : Cmd) : Prop where
  fits : M.Fits c
  rl : c.rs.length ≤ 8
  wl : c.ws.length ≤ 8
  rs : ∀ r ∈ c.rs, r.1.length ≤ 8
  ws : ∀ r ∈ c.ws, r.1.length ≤ 8 ∧ r.2.length ≤ 8
theorem Sml.mod {c : Cmd} (h : Sml c) : M.Mod c := ⟨by have := h.rl; omega, by have := h.wl; omega, fun r hr => by have := h.rs r hr; omega, fun r hr => by have := (h.ws r hr).1; omega, fun r hr => by have := (h.ws r hr).2; omega⟩
def bodyC (c : Cmd) : List UInt8 := M.numZ c.k ++ (M.numZ c.tc ++ (M.numZ c.tn ++ (M.numZ c.tt ++ (M.numZ c.tk ++ (M.numZ c.sh ++ (M.num c.rs.length ++ (c.rs.flatMap M.encRd ++ (M.num c.ws.length ++ (c.ws.flatMap M.encWr ++ M.flag c.cm)))))))))
theorem encC_body (c : Cmd) : M.encC c = 1 :: bodyC c := by
  unfold M.encC bodyC
  simp only [M.numsZ_cons, M.numsZ_nil, List.append_assoc, List.nil_append, List.append_nil, List.cons_append, numZ_nat]
def bodyR (r : Rec) : List UInt8 := M.numZ r.ir ++ (M.numZ r.is ++ (M.numZ r.st ++ (M.numZ r.pn ++ (M.numZ r.pr ++ (M.numZ r.bn ++ (M.numZ r.br ++ (M.numZ r.sq ++ (M.numZ r.d0 ++ (M.numZ r.d1 ++ (M.numZ r.d2 ++ (M.numZ r.d3 ++ (M.numZ r.d4 ++ (M.numZ r.d5 ++ (M.numZ r.d6 ++ (M.flag r.kp ++ M.encC r.c)))))))))))))))
theorem encR_body (r : Rec) : M.encR r = 2 :: bodyR r := by
  unfold M.encR bodyR
  simp only [M.numsZ_cons, M.numsZ_nil, List.append_assoc, List.nil_append, List.append_nil, List.cons_append]
def bodyM (m : Msg) : List UInt8 := M.numZ m.k ++ (M.numZ m.fr ++ (M.numZ m.to ++ (M.numZ m.bn ++ (M.numZ m.br ++ M.encR m.r))))
theorem encM_body (m : Msg) : M.encM m = 3 :: bodyM m := by
  unfold M.encM bodyM
  simp only [M.numsZ_cons, M.numsZ_nil, List.append_assoc, List.nil_append, List.append_nil, List.cons_append]

theorem rd_fwd {x : List UInt8 × Int × Int} (h1 : x.1.length ≤ 8) (h2 : Nb x.2.1) (h3 : Nb x.2.2) (r : List UInt8) : rd (M.encRd x ++ r) = .ok (r, x) := by
  unfold rd M.encRd
  simp only [M.numsZ_cons, M.numsZ_nil, List.append_assoc, List.nil_append]
  rw [bind_to (text_fwd h1 _), bind_to (num_fwdZ h2 _), bind_to (num_fwdZ h3 _), toZ h2, toZ h3]
  rfl
theorem wr_fwd {x : List UInt8 × List UInt8} (h1 : x.1.length ≤ 8) (h2 : x.2.length ≤ 8) (r : List UInt8) : wr (M.encWr x ++ r) = .ok (r, x) := by
  unfold wr M.encWr
  rw [List.append_assoc, bind_to (text_fwd h1 _), bind_to (text_fwd h2 _)]
  rfl
theorem rd_inv {xs r : List UInt8} {x : List UInt8 × Int × Int} (h : rd xs = .ok (r, x)) : xs = M.encRd x ++ r ∧ (x.1.length ≤ 8 ∧ Nb x.2.1 ∧ Nb x.2.2) := by
  unfold rd at h
  obtain ⟨r1, k, h1, h⟩ := bind_ok h
  obtain ⟨r2, t, h2, h⟩ := bind_ok h
  obtain ⟨r3, c, h3, h⟩ := bind_ok h
  cases h
  obtain ⟨e1, l1⟩ := text_inv h1
  obtain ⟨e2, l2⟩ := num_inv h2
  obtain ⟨e3, l3⟩ := num_inv h3
  refine ⟨?_, l1, nbN l2, nbN l3⟩
  rw [e1, e2, e3]
  unfold M.encRd
  simp only [M.numsZ_cons, M.numsZ_nil, List.append_assoc, List.nil_append, numZ_nat]
theorem wr_inv {xs r : List UInt8} {x : List UInt8 × List UInt8} (h : wr xs = .ok (r, x)) : xs = M.encWr x ++ r ∧ (x.1.length ≤ 8 ∧ x.2.length ≤ 8) := by
  unfold wr at h
  obtain ⟨r1, k, h1, h⟩ := bind_ok h
  obtain ⟨r2, t, h2, h⟩ := bind_ok h
  cases h
  obtain ⟨e1, l1⟩ := text_inv h1
  obtain ⟨e2, l2⟩ := text_inv h2
  refine ⟨?_, l1, l2⟩
  rw [e1, e2]
  unfold M.encWr
  rw [List.append_assoc]

theorem cmd_fwd {c : Cmd} (h : Sml c) (r : List UInt8) : cmd (bodyC c ++ r) = .ok (r, c) := by
  have F := h.fits
  unfold cmd bodyC
  simp only [List.append_assoc]
  rw [bind_to (num_fwdZ F.k _), bind_to (num_fwdZ F.tc _), bind_to (num_fwdZ F.tn _), bind_to (num_fwdZ F.tt _), bind_to (num_fwdZ F.tk _), bind_to (num_fwdZ F.sh _), bind_to (few_fwd h.rl _)]
  rw [bind_to (rep_fwd c.rs.length c.rs _ rfl (fun x hx r => rd_fwd (h.rs x hx) (F.rs x hx).2.1 (F.rs x hx).2.2 r))]
  rw [bind_to (few_fwd h.wl _), bind_to (rep_fwd c.ws.length c.ws _ rfl (fun x hx r => wr_fwd (h.ws x hx).1 (h.ws x hx).2 r)), bind_to (boolean_fwd c.cm _)]
  rw [toZ F.k, toZ F.tc, toZ F.tn, toZ F.tt, toZ F.tk, toZ F.sh]
  rfl
theorem cmd_inv {xs r : List UInt8} {c : Cmd} (h : cmd xs = .ok (r, c)) : xs = bodyC c ++ r ∧ Sml c := by
  unfold cmd at h

  obtain ⟨r1, k, h1, h⟩ := bind_ok h
  obtain ⟨r2, tc, h2, h⟩ := bind_ok h
  obtain ⟨r3, tn, h3, h⟩ := bind_ok h
  obtain ⟨r4, tt, h4, h⟩ := bind_ok h
  obtain ⟨r5, tk, h5, h⟩ := bind_ok h
  obtain ⟨r6, sh, h6, h⟩ := bind_ok h
  obtain ⟨r7, n, h7, h⟩ := bind_ok h
  obtain ⟨r8, rs, h8, h⟩ := bind_ok h
  obtain ⟨r9, m, h9, h⟩ := bind_ok h
  obtain ⟨r10, ws, h10, h⟩ := bind_ok h
  obtain ⟨r11, cm, h11, h⟩ := bind_ok h
  cases h
  obtain ⟨e1, l1⟩ := num_inv h1
  obtain ⟨e2, l2⟩ := num_inv h2
  obtain ⟨e3, l3⟩ := num_inv h3
  obtain ⟨e4, l4⟩ := num_inv h4
  obtain ⟨e5, l5⟩ := num_inv h5
  obtain ⟨e6, l6⟩ := num_inv h6
  obtain ⟨e7, l7⟩ := few_inv h7
  obtain ⟨n8, e8, q8⟩ := rep_inv (enc := M.encRd) (fun _ _ _ h => rd_inv h) n _ _ _ h8
  obtain ⟨e9, l9⟩ := few_inv h9
  obtain ⟨n10, e10, q10⟩ := rep_inv (enc := M.encWr) (fun _ _ _ h => wr_inv h) m _ _ _ h10
  have e11 := boolean_inv h11
  subst n8 n10
  refine ⟨?_, ⟨⟨nbN l1, nbN l2, nbN l3, nbN l4, nbN l5, nbN l6, ?_, ?_, ?_, ?_⟩, l7, l9, fun x hx => (q8 x hx).1, fun x hx => q10 x hx⟩⟩
  · rw [e1, e2, e3, e4, e5, e6, e7, e8, e9, e10, e11]
    unfold bodyC
    simp only [List.append_assoc, numZ_nat]
  · show rs.length ≤ 20; omega
  · show ws.length ≤ 20; omega
  · intro x hx; exact ⟨by have := (q8 x hx).1; omega, (q8 x hx).2.1, (q8 x hx).2.2⟩
  · intro x hx; exact ⟨by have := (q10 x hx).1; omega, by have := (q10 x hx).2; omega⟩

theorem mark_fwd (c : Nat) (y : UInt8) (h : y.toNat = c) (r : List UInt8) : mark c (y :: r) = .ok (r, ()) := by
  unfold mark
  rw [bind_to (show one (y :: r) = .ok (r, y.toNat) from rfl), if_pos h]
  rfl
theorem byte_eq {y : UInt8} {z : UInt8} (h : y.toNat = z.toNat) : y = z := UInt8.toNat_inj.1 h

theorem rcd_fwd {r : Rec} (F : M.FitsR r) (h : Sml r.c) (t : List UInt8) : rcd (bodyR r ++ t) = .ok (t, r) := by
  unfold rcd bodyR
  rw [encC_body]
  simp only [List.append_assoc, List.cons_append]
  rw [bind_to (num_fwdZ F.ir _), bind_to (num_fwdZ F.is _), bind_to (num_fwdZ F.st _), bind_to (num_fwdZ F.pn _), bind_to (num_fwdZ F.pr _), bind_to (num_fwdZ F.bn _), bind_to (num_fwdZ F.br _), bind_to (num_fwdZ F.sq _), bind_to (num_fwdZ F.d0 _), bind_to (num_fwdZ F.d1 _), bind_to (num_fwdZ F.d2 _), bind_to (num_fwdZ F.d3 _), bind_to (num_fwdZ F.d4 _), bind_to (num_fwdZ F.d5 _), bind_to (num_fwdZ F.d6 _)]
  rw [bind_to (boolean_fwd r.kp _), bind_to (mark_fwd 1 1 rfl _), bind_to (cmd_fwd h _)]
  rw [toZ F.ir, toZ F.is, toZ F.st, toZ F.pn, toZ F.pr, toZ F.bn, toZ F.br, toZ F.sq, toZ F.d0, toZ F.d1, toZ F.d2, toZ F.d3, toZ F.d4, toZ F.d5, toZ F.d6]
  rfl
theorem rcd_inv {xs t : List UInt8} {r : Rec} (h : rcd xs = .ok (t, r)) : xs = bodyR r ++ t ∧ M.FitsR r ∧ Sml r.c := by
  unfold rcd at h
  obtain ⟨r1, ir, h1, h⟩ := bind_ok h
  obtain ⟨r2, is1, h2, h⟩ := bind_ok h
  obtain ⟨r3, st, h3, h⟩ := bind_ok h
  obtain ⟨r4, pn, h4, h⟩ := bind_ok h
  obtain ⟨r5, pr, h5, h⟩ := bind_ok h
  obtain ⟨r6, bn, h6, h⟩ := bind_ok h
  obtain ⟨r7, br, h7, h⟩ := bind_ok h
  obtain ⟨r8, sq, h8, h⟩ := bind_ok h
  obtain ⟨r9, d0, h9, h⟩ := bind_ok h
  obtain ⟨r10, d1, h10, h⟩ := bind_ok h
  obtain ⟨r11, d2, h11, h⟩ := bind_ok h
  obtain ⟨r12, d3, h12, h⟩ := bind_ok h
  obtain ⟨r13, d4, h13, h⟩ := bind_ok h
  obtain ⟨r14, d5, h14, h⟩ := bind_ok h
  obtain ⟨r15, d6, h15, h⟩ := bind_ok h
  obtain ⟨r16, kp, h16, h⟩ := bind_ok h
  obtain ⟨r17, u, h17, h⟩ := bind_ok h
  obtain ⟨r18, c, h18, h⟩ := bind_ok h
  cases h
  obtain ⟨e1, l1⟩ := num_inv h1
  obtain ⟨e2, l2⟩ := num_inv h2
  obtain ⟨e3, l3⟩ := num_inv h3
  obtain ⟨e4, l4⟩ := num_inv h4
  obtain ⟨e5, l5⟩ := num_inv h5
  obtain ⟨e6, l6⟩ := num_inv h6
  obtain ⟨e7, l7⟩ := num_inv h7
  obtain ⟨e8, l8⟩ := num_inv h8
  obtain ⟨e9, l9⟩ := num_inv h9
  obtain ⟨e10, l10⟩ := num_inv h10
  obtain ⟨e11, l11⟩ := num_inv h11
  obtain ⟨e12, l12⟩ := num_inv h12
  obtain ⟨e13, l13⟩ := num_inv h13
  obtain ⟨e14, l14⟩ := num_inv h14
  obtain ⟨e15, l15⟩ := num_inv h15
  have e16 := boolean_inv h16
  obtain ⟨y, hy, e17⟩ := mark_inv h17
  obtain rfl : y = 1 := byte_eq hy
  obtain ⟨e18, S⟩ := cmd_inv h18
  refine ⟨?_, ⟨nbN l1, nbN l2, nbN l3, nbN l4, nbN l5, nbN l6, nbN l7, S.fits, nbN l8, nbN l9, nbN l10, nbN l11, nbN l12, nbN l13, nbN l14, nbN l15⟩, S⟩
  rw [e1, e2, e3, e4, e5, e6, e7, e8, e9, e10, e11, e12, e13, e14, e15, e16, e17, e18]
  unfold bodyR
  simp only [encC_body, List.append_assoc, numZ_nat, List.cons_append]
theorem msg_fwd {m : Msg} (F : M.FitsM m) (h : Sml m.r.c) (t : List UInt8) : msg (bodyM m ++ t) = .ok (t, m) := by
  unfold msg bodyM
  rw [encR_body]
  simp only [List.append_assoc, List.cons_append]
  rw [bind_to (num_fwdZ F.k _), bind_to (num_fwdZ F.fr _), bind_to (num_fwdZ F.to _), bind_to (num_fwdZ F.bn _), bind_to (num_fwdZ F.br _), bind_to (mark_fwd 2 2 rfl _), bind_to (rcd_fwd F.r h _)]
  rw [toZ F.k, toZ F.fr, toZ F.to, toZ F.bn, toZ F.br]
  rfl
theorem msg_inv {xs t : List UInt8} {m : Msg} (h : msg xs = .ok (t, m)) : xs = bodyM m ++ t ∧ M.FitsM m ∧ Sml m.r.c := by
  unfold msg at h
  obtain ⟨r1, k, h1, h⟩ := bind_ok h
  obtain ⟨r2, fr, h2, h⟩ := bind_ok h
  obtain ⟨r3, to, h3, h⟩ := bind_ok h
  obtain ⟨r4, bn, h4, h⟩ := bind_ok h
  obtain ⟨r5, br, h5, h⟩ := bind_ok h
  obtain ⟨r6, u, h6, h⟩ := bind_ok h
  obtain ⟨r7, r, h7, h⟩ := bind_ok h
  cases h
  obtain ⟨e1, l1⟩ := num_inv h1
  obtain ⟨e2, l2⟩ := num_inv h2
  obtain ⟨e3, l3⟩ := num_inv h3
  obtain ⟨e4, l4⟩ := num_inv h4
  obtain ⟨e5, l5⟩ := num_inv h5
  obtain ⟨y, hy, e6⟩ := mark_inv h6
  obtain rfl : y = 2 := byte_eq hy
  obtain ⟨e7, FR, S⟩ := rcd_inv h7
  refine ⟨?_, ⟨nbN l1, nbN l2, nbN l3, nbN l4, nbN l5, FR⟩, S⟩
  rw [e1, e2, e3, e4, e5, e6, e7]
  unfold bodyM
  simp only [encR_body, List.append_assoc, numZ_nat, List.cons_append]

/-- A value's bytes; a value small enough; a value that may be. -/
def encV : Val → List UInt8
  | .inl c => M.encC c
  | .inr (.inl r) => M.encR r
  | .inr (.inr m) => M.encM m
def smlV : Val → Prop
  | .inl c => Sml c
  | .inr (.inl r) => M.FitsR r ∧ Sml r.c
  | .inr (.inr m) => M.FitsM m ∧ Sml m.r.c
def rightV : Val → Bool
  | .inl c => M.rightC c
  | .inr (.inl r) => M.rightR r
  | .inr (.inr m) => M.rightM m
theorem val_fwd {v : Val} (h : smlV v) (t : List UInt8) : val (encV v ++ t) = .ok (t, v) := by
  unfold val
  rcases v with c | r | m
  · show bind one _ (M.encC c ++ t) = _
    rw [encC_body, List.cons_append, bind_to (show one (1 :: (bodyC c ++ t)) = .ok (bodyC c ++ t, 1) from rfl), if_pos rfl, bind_to (cmd_fwd h t)]
    rfl
  · show bind one _ (M.encR r ++ t) = _
    rw [encR_body, List.cons_append, bind_to (show one (2 :: (bodyR r ++ t)) = .ok (bodyR r ++ t, 2) from rfl), if_neg (by omega), if_pos rfl, bind_to (rcd_fwd h.1 h.2 t)]
    rfl
  · show bind one _ (M.encM m ++ t) = _
    rw [encM_body, List.cons_append, bind_to (show one (3 :: (bodyM m ++ t)) = .ok (bodyM m ++ t, 3) from rfl), if_neg (by omega), if_neg (by omega), if_pos rfl, bind_to (msg_fwd h.1 h.2 t)]
    rfl
theorem val_inv {xs t : List UInt8} {v : Val} (h : val xs = .ok (t, v)) : xs = encV v ++ t ∧ smlV v := by
  unfold val at h
  obtain ⟨r1, x, h1, h0⟩ := bind_ok h
  clear h
  cases xs with
  | nil => cases h1
  | cons y ys =>
    cases h1
    split at h0
    · rename_i e
      obtain rfl : y = 1 := byte_eq e
      obtain ⟨r2, c, h2, h⟩ := bind_ok h0
      cases h
      obtain ⟨e2, S⟩ := cmd_inv h2
      exact ⟨by rw [e2]; show _ = M.encC c ++ t; rw [encC_body]; rfl, S⟩
    · split at h0
      · rename_i e
        obtain rfl : y = 2 := byte_eq e
        obtain ⟨r2, c, h2, h⟩ := bind_ok h0
        cases h
        obtain ⟨e2, S⟩ := rcd_inv h2
        exact ⟨by rw [e2]; show _ = M.encR c ++ t; rw [encR_body]; rfl, S⟩
      · split at h0
        · rename_i e
          obtain rfl : y = 3 := byte_eq e
          obtain ⟨r2, c, h2, h⟩ := bind_ok h0
          cases h
          obtain ⟨e2, S⟩ := msg_inv h2
          exact ⟨by rw [e2]; show _ = M.encM c ++ t; rw [encM_body]; rfl, S⟩
        · cases h0

/-- What bytes are of, or why they are of nothing. -/
def dec (xs : List UInt8) : Except Nat Val := match val xs with
  | .error e => .error e
  | .ok (r, v) => if 0 < r.length then .error 5 else if rightV v then .ok v else .error 1
theorem dec_ok {xs : List UInt8} {v : Val} (h : dec xs = .ok v) : val xs = .ok ([], v) ∧ xs = encV v ∧ smlV v ∧ rightV v = true := by
  unfold dec at h
  cases e : val xs with
  | error x => rw [e] at h; cases h
  | ok y =>
    obtain ⟨r, u⟩ := y
    rw [e] at h
    simp only at h
    split at h
    · cases h
    · rename_i h1
      split at h
      · rename_i h2
        cases h
        obtain rfl : r = [] := List.length_eq_zero_iff.1 (by omega)
        obtain ⟨e1, S⟩ := val_inv e
        exact ⟨rfl, by rw [e1, List.append_nil], S, h2⟩
      · cases h
theorem dec_back {v : Val} (h : smlV v) (hr : rightV v = true) : dec (encV v) = .ok v := by
  have := val_fwd h []
  rw [List.append_nil] at this
  unfold dec
  rw [this]
  simp only [List.length_nil, Nat.lt_irrefl, if_false, hr, if_true]
theorem dec_more {xs : List UInt8} {v : Val} (h : dec xs = .ok v) (y : UInt8) : dec (xs ++ [y]) = .error 5 := by
  obtain ⟨_, e, S, _⟩ := dec_ok h
  unfold dec
  rw [e, val_fwd S [y]]
  rfl
theorem dec_less {xs : List UInt8} {v : Val} (h : dec xs = .ok v) : dec xs.dropLast = .error 3 := by
  obtain ⟨e, _, _, _⟩ := dec_ok h
  have hne : xs ≠ [] := by intro e0; rw [e0] at e; cases e
  have e2 : xs = xs.dropLast ++ [xs.getLast hne] := (List.dropLast_concat_getLast hne).symm
  rw [e2] at e
  rcases good_val.cut _ _ _ _ e with ⟨a2, h2, _⟩ | ⟨_, h2⟩
  · have := congrArg List.length h2; simp at this
  · unfold dec; rw [h2]
/-- Errors are numbers from 1 on. -/
theorem dec_err {xs : List UInt8} {e : Nat} (h : dec xs = .error e) : e ≠ 0 := by
  unfold dec at h
  cases e1 : val xs with
  | error x => rw [e1] at h; cases h; exact errs_val xs e e1
  | ok y =>
    rw [e1] at h
    simp only at h
    split at h
    · cases h; omega
    · split at h
      · cases h
      · cases h; omega
end P
end Go.Proofs.Ytagngbdlpdilnaa
