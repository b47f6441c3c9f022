/- The walk of DiskCopies; no conditions. -/
import Derived.Test.YtpdknamdladgnaaLawP
import Derived.Test.YtpdknamdladgnaaLawO
import Derived.Deep.RegionWith
namespace Go.Proofs.Ytpdknamdladgnaa
open Go.RowKit

/-- A disk and the document's, and another disk and the document's, of which the first two may share memory with nobody but the documents' with one another. -/
structure Quad (w wk : World) (g : Nat) (F : Nat → Prop) (s : M.St) (R : Nat → Prop) (r : Value) (h : Nat) (H : Nat → Prop) (t : M.St) (Q : Nat → Prop) (q : Value) : Prop where
  one : Pair w wk g F s R r s
  two : Pair w wk h H t Q q t
  fh : ∀ x, F x → ¬ H x
  fq : ∀ x, F x → ¬ Q x
  hr : ∀ x, H x → ¬ R x
theorem Quad.swap {w wk : World} {g h : Nat} {F R H Q : Nat → Prop} {s t : M.St} {r q : Value} (T : Quad w wk g F s R r h H t Q q) : Quad w wk h H t Q q g F s R r := ⟨T.two, T.one, fun x e f => T.fh x f e, T.hr, T.fq⟩
theorem Quad.on {w wk w' : World} {g h : Nat} {F R H Q : Nat → Prop} {s t : M.St} {r q : Value} (T : Quad w wk g F s R r h H t Q q) (hb : Below wk.heap.size wk w') : Quad w w' g F s R r h H t Q q := ⟨T.one.on hb, T.two.on hb, T.fh, T.fq, T.hr⟩
theorem Quad.fill {w wk : World} {g h b : Nat} {F R H Q : Nat → Prop} {s t : M.St} {r q : Value} (T : Quad w wk g F s R r h H t Q q) (hb : w.heap.size ≤ b) (h1 : ¬ F b) (h2 : ¬ R b) (h3 : ¬ H b) (h4 : ¬ Q b) (x y u : Value) : Quad w (fill wk b x y u) g F s R r h H t Q q :=
  ⟨T.one.fill h1 h2 hb x y u, T.two.fill h3 h4 hb x y u, T.fh, T.fq, T.hr⟩
theorem Quad.left {w wk w' : World} {g h : Nat} {F R H Q : Nat → Prop} {s t : M.St} {r q : Value} (T : Quad w wk g F s R r h H t Q q) (d : M.Do) {e : Ending} (hd : Does wk g F R s s d e w') :
    ∃ r' F' R', e = .returned (.tuple #[r', .bool true]) ∧ Quad w w' g F' (M.step s d) R' r' h H t Q q ∧ Keeps F wk w' ∧ (∀ x, F' x → F x ∨ wk.heap.size ≤ x) ∧ (∀ x, R' x → R x ∨ wk.heap.size ≤ x) := by
  obtain ⟨r', F', R', he, hp, hk, hF, hR⟩ := T.one.does d hd
  rw [M.alike_refl] at he
  refine ⟨r', F', R', he, ⟨hp, ⟨⟨T.two.live.disk.keeps hk (fun x e f => T.fh x f e), hp.live.below, T.two.live.mine⟩, T.two.doc.keeps hk (fun x e f => T.fq x f e), T.two.apart, T.two.mine⟩, fun x e f => ?_, fun x e f => ?_, fun x e f => ?_⟩, hk, hF, hR⟩
  · rcases hF x e with e | e
    · exact T.fh x e f
    · have := T.two.live.disk.lt x f; omega
  · rcases hF x e with e | e
    · exact T.fq x e f
    · have := T.two.doc.lt x f; omega
  · rcases hR x f with f | f
    · exact T.hr x e f
    · have := T.two.live.disk.lt x e; omega

/-- Blocks that stand apart from all of it. -/
def NoB (F R H Q : Nat → Prop) (b : Nat) : Prop := ¬ F b ∧ ¬ R b ∧ ¬ H b ∧ ¬ Q b
/-- Both pairs, and the two variables that hold the document's. -/
def Reg (w wk : World) (g h rb qb : Nat) (r q : Value) : Prop := ∃ (F R : Nat → Prop) (s : M.St) (H : Nat → Prop) (t : M.St) (Q : Nat → Prop), Quad w wk g F s R r h H t Q q ∧ NoB F R H Q rb ∧ NoB F R H Q qb ∧ rb ≠ qb ∧ w.heap.size ≤ rb ∧ w.heap.size ≤ qb
theorem Reg.swap {w wk : World} {g h rb qb : Nat} {r q : Value} (T : Reg w wk g h rb qb r q) : Reg w wk h g qb rb q r := by
  obtain ⟨F, R, s, H, t, Q, T, N1, N2, hne, h1, h2⟩ := T
  exact ⟨H, Q, t, F, s, R, T.swap, ⟨N2.2.2.1, N2.2.2.2, N2.1, N2.2.1⟩, ⟨N1.2.2.1, N1.2.2.2, N1.1, N1.2.1⟩, fun e => hne e.symm, h2, h1⟩
theorem Reg.on {w wk w' : World} {g h rb qb : Nat} {r q : Value} (T : Reg w wk g h rb qb r q) (hb : Below wk.heap.size wk w') : Reg w w' g h rb qb r q := by
  obtain ⟨F, R, s, H, t, Q, T, N⟩ := T
  exact ⟨F, R, s, H, t, Q, T.on hb, N⟩
theorem Reg.below {w wk : World} {g h rb qb : Nat} {r q : Value} (T : Reg w wk g h rb qb r q) : Below w.heap.size w wk := by
  obtain ⟨F, R, s, H, t, Q, T, N⟩ := T
  exact T.one.live.below
theorem Reg.is {w wk : World} {g h rb qb : Nat} {r q : Value} (T : Reg w wk g h rb qb r q) : Calls Try.prog 15 #[.pointer (some ⟨g, 0, none⟩), r] wk fun e w' => e = .returned (.bool true) ∧ Below wk.heap.size wk w' := by
  obtain ⟨F, R, s, H, t, Q, T, N⟩ := T
  exact is_any T.one.live.disk T.one.doc
/-- What a step in the first pair tells. -/
def Stepped (w wk : World) (g h rb qb : Nat) (q : Value) (e : Ending) (w2 : World) : Prop :=
  ∃ (A6 : Option Addr) (n6 c6 : Nat) (A7 : Option Addr) (n7 c7 z5 : Nat), e = .returned (.tuple #[.agg #[.slice A6 n6 c6, .slice A7 n7 c7, .int .i64 z5], .bool true]) ∧ Reg w (fill w2 rb (.slice A6 n6 c6) (.slice A7 n7 c7) (.int .i64 z5)) g h rb qb (.agg #[.slice A6 n6 c6, .slice A7 n7 c7, .int .i64 z5]) q ∧
    (∀ v u z, Box wk rb v u z → Box w2 rb v u z) ∧ (∀ v u z, Box wk qb v u z → Box (fill w2 rb (.slice A6 n6 c6) (.slice A7 n7 c7) (.int .i64 z5)) qb v u z)
theorem Reg.does {w wk : World} {g h rb qb : Nat} {r q sv : Value} (T : Reg w wk g h rb qb r q) (hx : rb < wk.heap.size) (hy : qb < wk.heap.size) (d : M.Do) (hB : Bts wk sv d.b) (hl : d.b.length ≤ 1000000) :
    Calls Try.prog 14 #[.pointer (some ⟨g, 0, none⟩), r, .agg #[.int .i64 d.verb, .int .i64 d.n, .int .i64 d.pos, .int .u8 (d.mask.toNat : Int), sv]] wk (Stepped w wk g h rb qb q) := by
  obtain ⟨F, R, s, H, t, Q, T, N1, N2, hne, hw1, hw2⟩ := T
  refine (does_any d T.one.live.disk T.one.doc T.one.apart hB hl).mono fun e w2 hD => ?_
  obtain ⟨r', F', R', rfl, T', hk, hF, hR⟩ := T.left d hD
  obtain ⟨z5, a5, b5, A6, c6, A7, c7, -, rfl, -, -, -, -, -, -, -, -, -⟩ := T'.one.doc.opened
  have m1 : NoB F' R' H Q rb := ⟨fun e => (hF rb e).elim N1.1 (fun e => by omega), fun e => (hR rb e).elim N1.2.1 (fun e => by omega), N1.2.2.1, N1.2.2.2⟩
  have m2 : NoB F' R' H Q qb := ⟨fun e => (hF qb e).elim N2.1 (fun e => by omega), fun e => (hR qb e).elim N2.2.1 (fun e => by omega), N2.2.2.1, N2.2.2.2⟩
  refine ⟨A6, a5.length, c6, A7, b5.length, c7, z5, rfl, ⟨F', R', _, H, t, Q, T'.fill hw1 m1.1 m1.2.1 m1.2.2.1 m1.2.2.2 _ _ _, m1, m2, hne, hw1, hw2⟩, fun v u z hb => hb.keeps hk N1.1, fun v u z hb => (hb.keeps hk N2.1).keeps (keeps_fill w2 rb _ _ _) (fun e => hne e.symm)⟩
/-- A copy is made. -/
theorem copy_quad {w wr w2 : World} {g g' : Nat} {F R H : Nat → Prop} {s : M.St} {r : Value} (P : Pair w wr g F s R r s) (hq : Below wr.heap.size wr w2) (hc : Disk w2 g' H s) (hH : ∀ x, H x → wr.heap.size ≤ x) : Quad w w2 g F s R r g' H s R r := by
  have hs := P.live.below.size
  exact ⟨P.on hq, ⟨⟨hc, below_on P.live.below hq, fun x e => by have := hH x e; omega⟩, P.doc.below hq, fun x e f => by have := hH x e; have := P.doc.lt x f; omega, P.mine⟩, fun x e f => by have := hH x f; have := P.live.disk.lt x e; omega, P.apart, fun x e f => by have := hH x e; have := P.doc.lt x f; omega⟩

set_option maxHeartbeats 8000000 in
set_option maxRecDepth 100000 in
theorem copies_law (n : Int) (m : UInt8) {w : World} {v : Value} {l : List M.Do} (h : Dos w v l) : Calls Try.prog 5 #[.int .i64 n, v, .int .u8 (m.toNat : Int)] w (Yes w) := by
  have HF := Lib.hid (few_any h)
  obtain ⟨A, c, rfl, hc, hm, hx⟩ := h
  unfold maxLen at hm
  have HX := Lib.hid hx
  clear hx
  cases hfew : M.few l with
  | false =>
    rw [hfew] at HF
    clear hfew
    go_enter Try.func5, Try.ntmps5
    go_wp2_with (fail)
    refine HF.out.mono ?_
    rintro e w1 ⟨rfl, hb⟩
    have HB := Lib.hid hb
    clear hb
    go_wp2_with (fail)
    refine (awake_on HB.out).mono ?_
    rintro e w2 ⟨rfl, hb⟩
    go_wp2
    go_ret
    exact ⟨rfl, hb⟩
  | true =>
    rw [hfew] at HF
    have FW := Lib.hid hfew
    clear hfew
    by_cases hn : 0 ≤ n ∧ n ≤ 1048576
    · obtain ⟨z, rfl⟩ : ∃ z : Nat, n = z := ⟨n.toNat, by omega⟩
      have hz : z ≤ 1048576 := by omega
      clear hn
      have HZ := Lib.hid (sizeB_yes hz)
      go_enter Try.func5, Try.ntmps5
      go_wp2_with (fail)
      refine HF.out.mono ?_
      rintro e w1 ⟨rfl, hb⟩
      have B1 := Lib.hid hb
      clear hb
      go_wp2_with (fail)
      refine (new_any z w1 hz).mono ?_
      rintro e w2 ⟨rfl, hd, hb⟩
      have L2 := Lib.hid (show Live w w2 w1.heap.size (fun x => x = w1.heap.size) (M.nil z) from ⟨hd, below_on B1.out hb, fun x e => by have := B1.out.size; omega⟩)
      clear hd hb
      go_wp2_with (fail)
      refine (rnew_any z w2).mono ?_
      rintro e w3 ⟨rfl, hb⟩
      rw [HZ.out]
      have hbn := below_new (o := .cells #[.slice none 0 0, .slice none 0 0, .int .i64 z] 29) (Below.refl w3.heap.size w3)
      have P4 := Lib.hid (show Pair w (w3.alloc (.cells #[.slice none 0 0, .slice none 0 0, .int .i64 z] 29)) w1.heap.size (fun x => x = w1.heap.size) (M.nil z) (fun _ => False) (.agg #[.slice none 0 0, .slice none 0 0, .int .i64 z]) (M.nil z) from ⟨(L2.out.on hb).on hbn, Doc.nil _ z hz, fun _ _ e => e, fun _ e => e.elim⟩)
      have X4 := Lib.hid (Box.new w3 (.slice none 0 0) (.slice none 0 0) z)
      have hr1 := Lib.hid (show w.heap.size ≤ w3.heap.size ∧ w1.heap.size < w3.heap.size from ⟨(below_on L2.out.below hb).size, Nat.lt_of_lt_of_le (L2.out.disk.lt _ rfl) hb.size⟩)
      obtain ⟨rb, hrb⟩ : ∃ rb, rb = w3.heap.size := ⟨_, rfl⟩
      rw [← hrb] at X4 hr1
      have HRB := Lib.hid hrb
      clear hb hbn hrb
      have hg0 := Lib.hid (show w.heap.size ≤ w1.heap.size from B1.out.size)
      generalize w1.heap.size = g at *
      obtain ⟨K, hK⟩ : ∃ K, K = m.toNat % (l.length + 1) := ⟨_, rfl⟩
      have hKl : K ≤ l.length := by have := Nat.mod_lt m.toNat (show 0 < l.length + 1 by omega); omega
      have hl100 : l.length ≤ 100 := (M.few_iff.1 FW.out).2
      have hm256 := byte_lt m
      have hKe : (m.toNat : Int) % ((l.length : Int) + 1) = (K : Int) := by rw [hK]; simp
      have hKi : (K : Int) ≤ (l.length : Int) := by omega
      have hKc : (K : Int) ≤ (c : Int) := by omega
      clear hK
      go_wp2
      rw [← HRB.out]
      simp only [hKe]
      clear hKe
      go_loopw [59] (fun i wr => ∃ (k : Nat) (F R : Nat → Prop) (s : M.St) (A1 : Option Addr) (n1 c1 : Nat) (A2 : Option Addr) (n2 c2 zz : Nat), k ≤ K ∧ i = .int .i64 k ∧ Hid (Pair w wr g F s R (.agg #[.slice A1 n1 c1, .slice A2 n2 c2, .int .i64 zz]) s) ∧ Hid (Box wr rb (.slice A1 n1 c1) (.slice A2 n2 c2) zz) ∧ Hid (¬ F rb ∧ ¬ R rb)) (fun i _ => K - (intOf i).toNat)
      case atStart => exact ⟨0, _, _, _, none, 0, 0, none, 0, 0, z, Nat.zero_le _, rfl, P4, X4, ⟨fun e => by have := hr1.out.2; omega, fun e => e⟩⟩
      case round =>
        obtain ⟨k, F, R, s, A1, n1, c1, A2, n2, c2, zz, hk, rfl, PR, XB, NR⟩ := hrel
        clear P4 X4
        by_cases hlt : k < K
        · obtain ⟨b, o, rfl, hb, hy⟩ := HX.out (by omega)
          obtain ⟨sv, hd⟩ := hy k (by omega)
          have hd2 := hd.below hb PR.out.live.below
          have hbl := Nat.lt_of_lt_of_le hb PR.out.live.below.size
          have hfl := few_at FW.out (show k < l.length by omega)
          clear hy hd
          generalize l.getD k do0 = d at *
          obtain ⟨c0, c1', c2', c3, c4, hbt⟩ := hd2
          obtain ⟨A5, c5, rfl, -, -⟩ := hbt.opened
          obtain ⟨x0, x1, x2⟩ := XB.out.at_
          have hk1 : (k : Int) < (K : Int) := by omega
          have nb := below_new (o := .cells #[.int .i64 d.verb, .int .i64 d.n, .int .i64 d.pos, .int .u8 (d.mask.toNat : Int), .slice A5 d.b.length c5] 33) (Below.refl wr.heap.size wr)
          have PD := Lib.hid (PR.out.on nb)
          have XD := Lib.hid (XB.out.below nb)
          have DD := Lib.hid (does_any d PD.out.live.disk PD.out.doc PD.out.apart (hbt.below nb) (by omega))
          have lx := XB.out.lt
          clear hbt nb
          go_wp2_with (fail)
          refine DD.out.mono ?_
          intro e w2 hD
          obtain ⟨q, F', R', rfl, hP, hkk, hF, hR⟩ := PD.out.does d hD
          obtain ⟨z5, a5, b5, A6, c6, A7, c7, -, rfl, -, -, -, -, -, -, -, -, -⟩ := hP.doc.opened
          have lxd := XD.out.lt
          have hX2 := XD.out.keeps hkk NR.out.1
          have hn' := Lib.hid (show ¬ F' rb ∧ ¬ R' rb from ⟨fun e => (hF rb e).elim NR.out.1 (fun e => by omega), fun e => (hR rb e).elim NR.out.2 (fun e => by omega)⟩)
          obtain ⟨t0, t1, t2⟩ := hX2.at_
          have g0 := hX2.unfrozen 0
          have g1 := hX2.unfrozen 1
          have g2 := hX2.unfrozen 2
          have hX3 := Lib.hid (hX2.fill (.slice A6 a5.length c6) (.slice A7 b5.length c7) z5)
          have hP3 := Lib.hid (hP.fill hn'.out.1 hn'.out.2 hr1.out.1 (.slice A6 a5.length c6) (.slice A7 b5.length c7) (.int .i64 z5))
          generalize M.alike s s d = AL at *
          have l2 := hX2.lt
          clear hP hkk hX2 hF hR hD DD PD XD PR XB NR x0 x1 x2
          go_wp2
          go_roundw
          case rel => exact ⟨k + 1, F', R', M.step s d, A6, a5.length, c6, A7, b5.length, c7, z5, by omega, by go_num, hP3.out, hX3.out, hn'⟩
          case measure => simp [intOf]; omega
        · have hk1 : (K : Int) ≤ (k : Int) := by omega
          obtain rfl : K = k := by omega
          obtain ⟨x0, x1, x2⟩ := XB.out.at_
          have lx := XB.out.lt
          go_wp2
          rename_i K0 hK0
          have key : ∀ (g' qb : Nat) (W : World), Hid (Reg w W g g' rb qb (.agg #[.slice A1 n1 c1, .slice A2 n2 c2, .int .i64 zz]) (.agg #[.slice A1 n1 c1, .slice A2 n2 c2, .int .i64 zz])) → Hid (Box W rb (.slice A1 n1 c1) (.slice A2 n2 c2) zz) → Hid (Box W qb (.slice A1 n1 c1) (.slice A2 n2 c2) zz) → K0 ⟨#[.int .i64 z, .slice A l.length c, .int .u8 m.toNat, undef, undef, undef, .bool false, .pointer (some ⟨g, 0, none⟩), .pointer (some ⟨rb, 0, none⟩), .bool true, .int .i64 K, undef, u12, .pointer (some ⟨g', 0, none⟩), .pointer (some ⟨qb, 0, none⟩), undef, undef, undef, .slice A l.length c, .bool true, .bool false, undef, .int .i64 z, .pointer (some ⟨g, 0, none⟩), .tuple #[.agg #[.slice none 0 0, .slice none 0 0, .int .i64 z], .bool true], .int .i64 z, .tuple #[.agg #[.slice none 0 0, .slice none 0 0, .int .i64 z], .bool true], .agg #[.slice none 0 0, .slice none 0 0, .int .i64 z], .bool true, .bool true, .bool false, .bool false, .pointer (some ⟨g, 0, none⟩), .bool false, .bool false, undef, undef, undef, undef, undef, undef, undef, undef, undef, undef, undef, undef, undef, undef, .int .u8 m.toNat, .int .i64 m.toNat, .slice A l.length c, .int .i64 l.length, .int .i64 ((l.length : Int) + 1), .int .i64 K, .slice A l.length c, .int .i64 K, .slice A K c, .int .i64 K, .int .i64 K, .bool false, u61, u62, u63, u64, u65, u66, u67, u68, u69, u70, .pointer (some ⟨g, 0, none⟩), .pointer (some ⟨g', 0, none⟩), .agg #[.slice A1 n1 c1, .slice A2 n2 c2, .int .i64 zz], undef, undef, undef, undef, undef, undef, undef, undef, undef, undef, undef, undef, undef, undef, undef, undef, undef, undef, undef, undef, undef, undef, undef, undef, undef, undef, undef, undef, undef, undef, undef, undef, undef, undef, undef, undef, undef, undef, undef, undef, undef, undef, undef, undef, undef], []⟩ W := by
            intro g' qb W RG XR XQ
            refine hK0 _ _ ?_
            clear hK0 XB PR NR x0 x1 x2 lx
            by_cases hKM : K < l.length
            · obtain ⟨b, o, rfl, hb, hy⟩ := HX.out (by omega)
              have HY := Lib.hid hy
              have hcK : ¬ c = K := by omega
              obtain ⟨M, hM⟩ : ∃ M, M = l.length - K := ⟨_, rfl⟩
              have hM1 : l.length ≤ K + M := by omega
              have hM2 : K + M ≤ l.length := by omega
              clear hy
              go_wp2
              rw [← hM]
              clear hM
              go_loopw [78] (fun i wr2 => ∃ (j : Nat) (A6 : Option Addr) (n6 c6 : Nat) (A7 : Option Addr) (n7 c7 z5 : Nat), j ≤ M ∧ i = .int .i64 j ∧ Hid (Reg w wr2 g g' rb qb (.agg #[.slice A6 n6 c6, .slice A7 n7 c7, .int .i64 z5]) (.agg #[.slice A1 n1 c1, .slice A2 n2 c2, .int .i64 zz])) ∧ Hid (Box wr2 rb (.slice A6 n6 c6) (.slice A7 n7 c7) z5) ∧ Hid (Box wr2 qb (.slice A1 n1 c1) (.slice A2 n2 c2) zz)) (fun i _ => M - (intOf i).toNat)
              case atStart => exact ⟨0, A1, n1, c1, A2, n2, c2, zz, Nat.zero_le _, rfl, RG, XR, XQ⟩
              case round =>
                obtain ⟨j, A6, n6, c6, A7, n7, c7, z5, hj, rfl, RG2, XR2, XQ2⟩ := hrel
                clear RG XR XQ
                by_cases hlt2 : j < M
                · obtain ⟨sv, hd⟩ := HY.out (K + j) (by omega)
                  have hd1 : DoAt w b (o + K * 5 + j * 5) (l.getD (K + j) do0) sv := by
                    rw [show o + (K + j) * 5 = o + K * 5 + j * 5 by omega] at hd
                    exact hd
                  have hd2 := hd1.below hb RG2.out.below
                  have hbl := Nat.lt_of_lt_of_le hb RG2.out.below.size
                  have hfl := few_at FW.out (show K + j < l.length by omega)
                  clear hd hd1
                  generalize l.getD (K + j) do0 = d at *
                  obtain ⟨c0', c1', c2', c3', c4', hbt⟩ := hd2
                  obtain ⟨A5, c5, rfl, -, -⟩ := hbt.opened
                  obtain ⟨x0, x1, x2⟩ := XR2.out.at_
                  have hk1 : (j : Int) < (M : Int) := by omega
                  have nb := below_new (o := .cells #[.int .i64 d.verb, .int .i64 d.n, .int .i64 d.pos, .int .u8 (d.mask.toNat : Int), .slice A5 d.b.length c5] 33) (Below.refl wr.heap.size wr)
                  have XD := Lib.hid (XR2.out.below nb)
                  have YD := Lib.hid (XQ2.out.below nb)
                  have lx := XR2.out.lt
                  have lxd := XD.out.lt
                  have DD := Lib.hid ((RG2.out.on nb).does XD.out.lt YD.out.lt d (hbt.below nb) (by omega))
                  clear hbt nb
                  go_wp2_with (fail)
                  refine DD.out.mono ?_
                  rintro e w2 ⟨A8, n8, c8, A9, n9, c9, z6, rfl, hG, hbx, hby⟩
                  have hX2 := hbx _ _ _ XD.out
                  have YB := Lib.hid (hby _ _ _ YD.out)
                  have GB := Lib.hid hG
                  obtain ⟨t0, t1, t2⟩ := hX2.at_
                  have g0 := hX2.unfrozen 0
                  have g1 := hX2.unfrozen 1
                  have g2 := hX2.unfrozen 2
                  have XB3 := Lib.hid (hX2.fill (.slice A8 n8 c8) (.slice A9 n9 c9) z6)
                  have l2 := hX2.lt
                  clear hG hbx hby hX2 DD XD YD RG2 XR2 XQ2 x0 x1 x2
                  go_wp2
                  go_roundw
                  case rel => exact ⟨j + 1, A8, n8, c8, A9, n9, c9, z6, by omega, by go_num, GB.out, XB3.out, YB.out⟩
                  case measure => simp [intOf]; omega
                · have hk1 : (M : Int) ≤ (j : Int) := by omega
                  have hll : (1 : Int) ≤ (l.length : Int) := by omega
                  go_wp2
                  go_loopw [17] (fun i wr3 => ∃ (q : Nat) (B6 : Option Addr) (m6 d6 : Nat) (B7 : Option Addr) (m7 d7 z7 : Nat), K ≤ q ∧ q ≤ l.length ∧ i = .int .i64 ((q : Int) - 1) ∧ Hid (Reg w wr3 g g' rb qb (.agg #[.slice A6 n6 c6, .slice A7 n7 c7, .int .i64 z5]) (.agg #[.slice B6 m6 d6, .slice B7 m7 d7, .int .i64 z7])) ∧ Hid (Box wr3 rb (.slice A6 n6 c6) (.slice A7 n7 c7) z5) ∧ Hid (Box wr3 qb (.slice B6 m6 d6) (.slice B7 m7 d7) z7)) (fun i _ => (intOf i + 1 - K).toNat)
                  case atStart => exact ⟨l.length, A1, n1, c1, A2, n2, c2, zz, by omega, Nat.le_refl _, rfl, RG2, XR2, XQ2⟩
                  case round =>
                    obtain ⟨q, B6, m6, d6, B7, m7, d7, z7, hq1, hq2, rfl, RG3, XR3, XQ3⟩ := hrel
                    clear RG2 XR2 XQ2
                    by_cases hlt3 : K < q
                    · obtain ⟨p, rfl⟩ : ∃ p, q = p + 1 := ⟨q - 1, by omega⟩
                      have ep : (((p + 1 : Nat) : Int) - 1) = (p : Int) := by omega
                      rw [ep]
                      clear ep
                      obtain ⟨sv, hd⟩ := HY.out p (by omega)
                      have hd2 := hd.below hb RG3.out.below
                      have hbl := Nat.lt_of_lt_of_le hb RG3.out.below.size
                      have hfl := few_at FW.out (show p < l.length by omega)
                      clear hd
                      generalize l.getD p do0 = d at *
                      obtain ⟨c0', c1', c2', c3', c4', hbt⟩ := hd2
                      obtain ⟨A5, c5, rfl, -, -⟩ := hbt.opened
                      obtain ⟨x0, x1, x2⟩ := XQ3.out.at_
                      have hp1 : (K : Int) ≤ (p : Int) := by omega
                      have hp2 : (p : Int) < (l.length : Int) := by omega
                      have lx := XQ3.out.lt
                      have DD := Lib.hid ((RG3.out.swap.on (Below.refl wr.heap.size wr).drew).does XQ3.out.lt XR3.out.lt d (hbt.below (Below.refl wr.heap.size wr).drew) (by omega))
                      clear hbt
                      go_wp2
                      go_region_with (go_at_call 14; refine Calls.mono DD.out ?_; rintro e w2 ⟨A8, n8, c8, A9, n9, c9, z6, rfl, hG, hbx, hby⟩; have hX2 := hbx _ _ _ XQ3.out; have YB := Lib.hid (hby _ _ _ XR3.out); have GB := Lib.hid hG; obtain ⟨t0, t1, t2⟩ := hX2.at_; have g0 := hX2.unfrozen 0; have g1 := hX2.unfrozen 1; have g2 := hX2.unfrozen 2; have XB3 := Lib.hid (hX2.fill (.slice A8 n8 c8) (.slice A9 n9 c9) z6); have l2 := hX2.lt; clear hG hbx hby hX2)
                      all_goals
                        go_wp2
                        go_roundw
                        case rel => exact ⟨p, A8, n8, c8, A9, n9, c9, z6, by omega, by omega, rfl, GB.out.swap, YB.out, XB3.out⟩
                        case measure => simp [intOf]; omega
                    · obtain rfl : K = q := by omega
                      have hp1 : ((K : Int) - 1) < (K : Int) := by omega
                      obtain ⟨x0, x1, x2⟩ := XR3.out.at_
                      have lx := XR3.out.lt
                      have I1 := Lib.hid RG3.out.is
                      go_wp2_with (fail)
                      refine I1.out.mono ?_
                      rintro e w4 ⟨rfl, hb4⟩
                      have RG4 := Lib.hid (RG3.out.on hb4)
                      obtain ⟨y0, y1, y2⟩ := (XQ3.out.below hb4).at_
                      have ly := (XQ3.out.below hb4).lt
                      have I2 := Lib.hid RG4.out.swap.is
                      clear hb4 I1
                      go_wp2_with (fail)
                      refine I2.out.mono ?_
                      rintro e w5 ⟨rfl, hb5⟩
                      have RG5 := Lib.hid (RG4.out.on hb5)
                      clear hb5 I2
                      go_wp2_with (fail)
                      refine (awake_on RG5.out.below).mono ?_
                      rintro e w6 ⟨rfl, hb6⟩
                      go_wp2
                      go_ret
                      exact ⟨rfl, hb6⟩
            · obtain rfl : K = l.length := by omega
              by_cases hcK : c = l.length
              · have hp1 : ((l.length : Int) - 1) < (l.length : Int) := by omega
                go_wp2
                go_loopw [78] (fun i wr2 => i = .int .i64 0 ∧ wr2 = W) (fun _ _ => 0)
                case atStart => exact ⟨rfl, rfl⟩
                case round =>
                  obtain ⟨rfl, rfl⟩ := hrel
                  go_wp2
                  go_loopw [17] (fun i wr3 => i = .int .i64 ((l.length : Int) - 1) ∧ wr3 = wr) (fun _ _ => 0)
                  case atStart => exact ⟨rfl, rfl⟩
                  case round =>
                    obtain ⟨rfl, rfl⟩ := hrel
                    obtain ⟨x0, x1, x2⟩ := XR.out.at_
                    have lx := XR.out.lt
                    have I1 := Lib.hid RG.out.is
                    go_wp2_with (fail)
                    refine I1.out.mono ?_
                    rintro e w4 ⟨rfl, hb4⟩
                    have RG4 := Lib.hid (RG.out.on hb4)
                    obtain ⟨y0, y1, y2⟩ := (XQ.out.below hb4).at_
                    have ly := (XQ.out.below hb4).lt
                    have I2 := Lib.hid RG4.out.swap.is
                    clear hb4 I1
                    go_wp2_with (fail)
                    refine I2.out.mono ?_
                    rintro e w5 ⟨rfl, hb5⟩
                    have RG5 := Lib.hid (RG4.out.on hb5)
                    clear hb5 I2
                    go_wp2_with (fail)
                    refine (awake_on RG5.out.below).mono ?_
                    rintro e w6 ⟨rfl, hb6⟩
                    go_wp2
                    go_ret
                    exact ⟨rfl, hb6⟩
              · have hp1 : ((l.length : Int) - 1) < (l.length : Int) := by omega
                go_wp2
                go_loopw [78] (fun i wr2 => i = .int .i64 0 ∧ wr2 = W) (fun _ _ => 0)
                case atStart => exact ⟨rfl, rfl⟩
                case round =>
                  obtain ⟨rfl, rfl⟩ := hrel
                  go_wp2
                  go_loopw [17] (fun i wr3 => i = .int .i64 ((l.length : Int) - 1) ∧ wr3 = wr) (fun _ _ => 0)
                  case atStart => exact ⟨rfl, rfl⟩
                  case round =>
                    obtain ⟨rfl, rfl⟩ := hrel
                    obtain ⟨x0, x1, x2⟩ := XR.out.at_
                    have lx := XR.out.lt
                    have I1 := Lib.hid RG.out.is
                    go_wp2_with (fail)
                    refine I1.out.mono ?_
                    rintro e w4 ⟨rfl, hb4⟩
                    have RG4 := Lib.hid (RG.out.on hb4)
                    obtain ⟨y0, y1, y2⟩ := (XQ.out.below hb4).at_
                    have ly := (XQ.out.below hb4).lt
                    have I2 := Lib.hid RG4.out.swap.is
                    clear hb4 I1
                    go_wp2_with (fail)
                    refine I2.out.mono ?_
                    rintro e w5 ⟨rfl, hb5⟩
                    have RG5 := Lib.hid (RG4.out.on hb5)
                    clear hb5 I2
                    go_wp2_with (fail)
                    refine (awake_on RG5.out.below).mono ?_
                    rintro e w6 ⟨rfl, hb6⟩
                    go_wp2
                    go_ret
                    exact ⟨rfl, hb6⟩
          have KEY := Lib.hid key
          clear key
          have nbz := below_new (o := .cells #[.slice none 0 0, .slice none 0 0, .int .i64 0] 29) (Below.refl wr.heap.size wr)
          have NBZ := Lib.hid nbz
          have PZ := Lib.hid (PR.out.live.disk.below nbz)
          have XZ := Lib.hid (XB.out.below nbz)
          have QZ := Lib.hid (Box.new wr (.slice none 0 0) (.slice none 0 0) 0)
          clear nbz
          go_region_with (first
            | (go_at_call 20; refine Calls.mono (copyD_any (s := s) (F := F) (by exact PR.out.live.disk.below (Below.refl wr.heap.size wr).drew)) ?_; rintro e w2 ⟨g', rfl, hd, hb⟩; have hq : Below wr.heap.size wr w2 := ⟨hb.os, hb.tape, hb.output, hb.size, hb.block⟩; have HQ := Lib.hid hq; have HC := Lib.hid (show Disk w2 g' (fun x => wr.heap.size ≤ x ∧ x < w2.heap.size) s from hd); obtain ⟨y0, y1, y2⟩ := (XB.out.below hq).at_; have ly := (XB.out.below hq).lt; have CASEA := Lib.hid True.intro; clear hd hb hq)
            | (go_at_call 20; refine Calls.mono (copyD_any (s := s) (F := F) (by exact PZ.out.below (Below.refl (wr.alloc (.cells #[.slice none 0 0, .slice none 0 0, .int .i64 0] 29)).heap.size (wr.alloc (.cells #[.slice none 0 0, .slice none 0 0, .int .i64 0] 29))).drew)) ?_; rintro e w2 ⟨g', rfl, hd, hb⟩; have hq : Below (wr.alloc (.cells #[.slice none 0 0, .slice none 0 0, .int .i64 0] 29)).heap.size (wr.alloc (.cells #[.slice none 0 0, .slice none 0 0, .int .i64 0] 29)) w2 := ⟨hb.os, hb.tape, hb.output, hb.size, hb.block⟩; have HQ := Lib.hid (below_on NBZ.out hq); have HC := Lib.hid (show Disk w2 g' (fun x => wr.heap.size + 1 ≤ x ∧ x < w2.heap.size) s by have := hd; simp only [Disk] at *; simpa using hd); obtain ⟨y0, y1, y2⟩ := (XZ.out.below hq).at_; have ly := (XZ.out.below hq).lt; have HYq := Lib.hid (QZ.out.below hq); obtain ⟨z0, z1, z2⟩ := (QZ.out.below hq).at_; have lz := (QZ.out.below hq).lt; have f0 := (QZ.out.below hq).unfrozen 0; have f1 := (QZ.out.below hq).unfrozen 1; have f2 := (QZ.out.below hq).unfrozen 2; clear hd hb hq))
          all_goals
            have pr := PR.out
            have xb := XB.out
            have nr := NR.out
            have nbx := xb.lt
            have hrw := hr1.out.1
            first
              | (have CA := CASEA
                 have qd := copy_quad pr HQ.out HC.out (fun x e => e.1)
                 have nbw := below_new (o := .cells #[.slice A1 n1 c1, .slice A2 n2 c2, .int .i64 zz] 29) (Below.refl w2.heap.size w2)
                 have hsz := HQ.out.size
                 have RG := Lib.hid (show Reg w (w2.alloc (.cells #[.slice A1 n1 c1, .slice A2 n2 c2, .int .i64 zz] 29)) g g' rb w2.heap.size (.agg #[.slice A1 n1 c1, .slice A2 n2 c2, .int .i64 zz]) (.agg #[.slice A1 n1 c1, .slice A2 n2 c2, .int .i64 zz]) from
                   ⟨F, R, s, _, s, R, qd.on nbw, ⟨nr.1, nr.2, fun e => by omega, nr.2⟩, ⟨fun e => by have := pr.live.disk.lt _ e; omega, fun e => by have := pr.doc.lt _ e; omega, fun e => by omega, fun e => by have := pr.doc.lt _ e; omega⟩, by omega, hrw, by have := pr.live.below.size; omega⟩)
                 have XR := Lib.hid ((xb.below HQ.out).below nbw)
                 have XQ := Lib.hid (Box.new w2 (.slice A1 n1 c1) (.slice A2 n2 c2) zz)
                 obtain ⟨qb, hqb⟩ : ∃ qb, qb = w2.heap.size := ⟨_, rfl⟩
                 rw [← hqb] at RG XQ ⊢
                 obtain ⟨W, hW⟩ : ∃ W, W = w2.alloc (.cells #[.slice A1 n1 c1, .slice A2 n2 c2, .int .i64 zz] 29) := ⟨_, rfl⟩
                 rw [← hW] at RG XR XQ ⊢)
              | (have qd := copy_quad pr HQ.out HC.out (fun x e => by omega)
                 have hsz := HQ.out.size
                 have RG := Lib.hid (show Reg w (fill w2 wr.heap.size (.slice A1 n1 c1) (.slice A2 n2 c2) (.int .i64 zz)) g g' rb wr.heap.size (.agg #[.slice A1 n1 c1, .slice A2 n2 c2, .int .i64 zz]) (.agg #[.slice A1 n1 c1, .slice A2 n2 c2, .int .i64 zz]) from
                   ⟨F, R, s, _, s, R, qd.fill (by have := pr.live.below.size; omega) (fun e => by have := pr.live.disk.lt _ e; omega) (fun e => by have := pr.doc.lt _ e; omega) (fun e => by omega) (fun e => by have := pr.doc.lt _ e; omega) _ _ _, ⟨nr.1, nr.2, fun e => by omega, nr.2⟩, ⟨fun e => by have := pr.live.disk.lt _ e; omega, fun e => by have := pr.doc.lt _ e; omega, fun e => by omega, fun e => by have := pr.doc.lt _ e; omega⟩, by omega, hrw, by have := pr.live.below.size; omega⟩)
                 have XR := Lib.hid ((xb.below HQ.out).keeps (keeps_fill w2 wr.heap.size (.slice A1 n1 c1) (.slice A2 n2 c2) (.int .i64 zz)) (by omega))
                 have XQ := Lib.hid (HYq.out.fill (.slice A1 n1 c1) (.slice A2 n2 c2) zz)
                 obtain ⟨qb, hqb⟩ : ∃ qb, qb = wr.heap.size := ⟨_, rfl⟩
                 rw [← hqb] at RG XR XQ ⊢
                 obtain ⟨W, hW⟩ : ∃ W, W = fill w2 qb (.slice A1 n1 c1) (.slice A2 n2 c2) (.int .i64 zz) := ⟨_, rfl⟩
                 rw [← hW] at RG
                 change Hid (Box (fill w2 qb (.slice A1 n1 c1) (.slice A2 n2 c2) (.int .i64 zz)) _ _ _ _) at XR
                 change Hid (Box (fill w2 qb (.slice A1 n1 c1) (.slice A2 n2 c2) (.int .i64 zz)) _ _ _ _) at XQ
                 rw [← hW] at XR XQ
                 have hW2 : W = ((w2.setCell ⟨qb, 0, none⟩ (.slice A1 n1 c1)).setCell ⟨qb, 1, none⟩ (.slice A2 n2 c2)).setCell ⟨qb, 2, none⟩ (.int .i64 zz) := hW
                 rw [← hW2]
                 clear hW2)
            exact KEY.out g' qb W RG XR XQ
    · have HZ := Lib.hid (sizeB_no hn)
      go_enter Try.func5, Try.ntmps5
      go_wp2_with (fail)
      refine HF.out.mono ?_
      rintro e w1 ⟨rfl, hb⟩
      have B1 := Lib.hid hb
      clear hb
      go_wp2_with (fail)
      refine (new_bad n w1 hn).mono ?_
      rintro e w2 ⟨rfl, rfl⟩
      go_wp2_with (fail)
      refine (rnew_any n w1).mono ?_
      rintro e w3 ⟨rfl, hb⟩
      rw [HZ.out]
      have B3 := Lib.hid (below_new (o := .cells #[.slice none 0 0, .slice none 0 0, .int .i64 n] 29) (below_on B1.out hb))
      clear hb
      go_wp2_with (fail)
      refine (copy_none _).mono ?_
      rintro e w4 ⟨rfl, rfl⟩
      go_wp2_with (fail)
      refine (awake_on B3.out).mono ?_
      rintro e w2 ⟨rfl, hb⟩
      go_wp2
      go_ret
      exact ⟨rfl, hb⟩
end Go.Proofs.Ytpdknamdladgnaa
