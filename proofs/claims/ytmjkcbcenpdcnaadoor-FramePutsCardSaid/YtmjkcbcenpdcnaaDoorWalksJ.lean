/- Payloads in memory of their own; contract of frame.Scan; no conditions but the lengths that it names. -/
import Derived.Test.YtmjkcbcenpdcnaaDoorMathC
import Derived.Deep.LoopGhost
namespace Go.Proofs.YtmjkcbcenpdcnaaDoor
open Go.RowKit

theorem info22 : (Tryd.prog.info? 22).map (fun i => (i.zero, i.size, i.bytes)) = some (some (.slice none 0 0), 1, 24) := by kernel_rfl

theorem own_keep {w w' : World} {base : Nat} {t : TypeId} {v : Value} {n : Nat} {xs : List Value} (h : w.ownsRow base t 1 v n xs) (hb : Below w.heap.size w w') : w'.ownsRow base t 1 v n xs :=
  h.kept (row := none) ⟨hb.os, hb.tape, hb.output, hb.size, fun i h _ => hb.block i h⟩ (by rcases h.2 with ⟨rfl, _⟩ | ⟨g, cap, cur, rfl, _⟩ <;> simp [Value.ownBlock])
/-- Rows of two types stand apart. -/
theorem own_apart {w : World} {b b' : Nat} {t t' : TypeId} (ht : t ≠ t') {v u : Value} {n m : Nat} {xs ys : List Value} (h : w.ownsRow b t 1 v n xs) (h' : w.ownsRow b' t' 1 u m ys) : u.ownBlock = none ∨ u.ownBlock ≠ v.ownBlock := by
  rcases h'.2 with ⟨rfl, _⟩ | ⟨g, cap, cur, rfl, _, hg, _⟩
  · exact .inl rfl
  · right
    intro e
    rcases h.2 with ⟨rfl, _⟩ | ⟨g', cap', cur', rfl, _, hg', _⟩
    · simp [Value.ownBlock] at e
    · simp [Value.ownBlock] at e
      subst e
      rw [hg] at hg'
      simp at hg'
      exact ht hg'.2.symm

/-- Payloads, each in a block of its own. -/
def Pays (w : World) (base : Nat) (vs : List Value) (ps : List (List UInt8)) : Prop :=
  vs.length = ps.length ∧ (∀ (i : Nat) (u : Value) (x : List UInt8), vs[i]? = some u → ps[i]? = some x → x ≠ [] ∧ w.ownsRow base 5 1 u x.length (x.map enc8)) ∧ (vs.map Value.ownBlock).Nodup
theorem Pays.nil (w : World) (base : Nat) : Pays w base [] [] := ⟨rfl, fun i u x h => by simp at h, by simp⟩
theorem Pays.keep {w w' : World} {base : Nat} {vs : List Value} {ps : List (List UInt8)} (h : Pays w base vs ps) (hb : Below w.heap.size w w') : Pays w' base vs ps :=
  ⟨h.1, fun i u x hu hx => ⟨(h.2.1 i u x hu hx).1, own_keep (h.2.1 i u x hu hx).2 hb⟩, h.2.2⟩
/-- What grows is another row. -/
theorem Pays.grown {w w' : World} {base b : Nat} {vs : List Value} {ps : List (List UInt8)} {v : Value} {n : Nat} {xs : List Value} (h : Pays w base vs ps) (ho : w.ownsRow b 22 1 v n xs) (hg : w.grownBy w' v.ownBlock) : Pays w' base vs ps :=
  ⟨h.1, fun i u x hu hx => ⟨(h.2.1 i u x hu hx).1, (h.2.1 i u x hu hx).2.kept hg (own_apart (by decide) ho (h.2.1 i u x hu hx).2)⟩, h.2.2⟩
theorem own_some {w : World} {base : Nat} {t : TypeId} {v : Value} {n : Nat} {xs : List Value} (h : w.ownsRow base t 1 v n xs) (h0 : xs ≠ []) : ∃ g, v.ownBlock = some g ∧ base ≤ g ∧ g < w.heap.size := by
  rcases h.2 with ⟨rfl, e⟩ | ⟨g, cap, cur, rfl, hb, hg, _⟩
  · have := h.1; rw [e] at this; simp at this; exact absurd this h0
  · exact ⟨g, rfl, hb, (Array.getElem?_eq_some_iff.1 hg).1⟩
theorem Pays.snoc {w w1 : World} {base : Nat} {vs : List Value} {ps : List (List UInt8)} {u : Value} {x : List UInt8} (h : Pays w base vs ps) (hb : Below w.heap.size w w1) (hx : x ≠ []) (ho : w1.ownsRow w.heap.size 5 1 u x.length (x.map enc8)) (hbase : base ≤ w.heap.size) : Pays w1 base (vs ++ [u]) (ps ++ [x]) := by
  have hk := h.keep hb
  refine ⟨by simp [h.1], fun i u' x' hu hx' => ?_, ?_⟩
  · by_cases hi : i < vs.length
    · rw [List.getElem?_append_left hi] at hu
      rw [List.getElem?_append_left (by rw [← h.1]; exact hi)] at hx'
      exact hk.2.1 i u' x' hu hx'
    · rw [List.getElem?_append_right (by omega)] at hu
      rw [List.getElem?_append_right (by rw [← h.1]; omega), ← h.1] at hx'
      have hz : i - vs.length = 0 := by
        have := (List.getElem?_eq_some_iff.1 hu).1; simp at this; omega
      rw [hz] at hu hx'
      simp at hu hx'
      subst hu hx'
      exact ⟨hx, ownsRow_base ho hbase⟩
  · rw [List.map_append, List.nodup_append]
    refine ⟨h.2.2, by simp, ?_⟩
    intro a ha b hb'
    simp only [List.map_cons, List.map_nil, List.mem_cons, List.not_mem_nil, or_false] at hb'
    subst hb'
    obtain ⟨u', hu', rfl⟩ := List.mem_map.1 ha
    obtain ⟨i, hi, rfl⟩ := List.mem_iff_getElem.1 hu'
    have hi' : i < ps.length := by rw [← h.1]; exact hi
    have hp := h.2.1 i vs[i] ps[i] (List.getElem?_eq_getElem hi) (List.getElem?_eq_getElem hi')
    obtain ⟨g, e1, _, e2⟩ := own_some hp.2 (by simp; exact hp.1)
    obtain ⟨g', e3, e4, _⟩ := own_some ho (by simp; exact hx)
    rw [e1, e3]
    intro e
    injection e with e
    omega
theorem Pays.bts {w : World} {base : Nat} {vs : List Value} {ps : List (List UInt8)} (h : Pays w base vs ps) {i : Nat} {u : Value} {x : List UInt8} (hu : vs[i]? = some u) (hx : ps[i]? = some x) : Bts w u x := Row.of_owns (h.2.1 i u x hu hx).2

/-- What Scan tells. -/
def Scanned (w : World) (xs : List UInt8) (e : Ending) (w' : World) : Prop :=
  ∃ v vs, e = .returned (.tuple #[v, .int .i64 (M.st xs : Nat)]) ∧ w'.ownsRow w.heap.size 22 1 v (M.sl xs).length vs ∧ Pays w' w.heap.size vs (M.sl xs) ∧ Below w.heap.size w w'

theorem one_row (w : World) (u : Value) : ∀ (j : Nat) (y : Value), [u][j]? = some y → (w.alloc (.cells #[u] 22)).cell? ((⟨w.heap.size, 0, none⟩ : Addr).add j) = some y := by
  intro j y hj
  have hj0 : j = 0 := by have := (List.getElem?_eq_some_iff.1 hj).1; simp at this; omega
  subst hj0
  simp at hj
  subst hj
  simp [Addr.add, go_sem]
theorem own_slice {w : World} {base : Nat} {t : TypeId} {v : Value} {n : Nat} {xs : List Value} (h : w.ownsRow base t 1 v n xs) : ∃ A c, v = .slice A n c := by
  rcases h.2 with ⟨rfl, rfl⟩ | ⟨g, cap, cur, rfl, _⟩
  · exact ⟨none, 0, rfl⟩
  · exact ⟨_, cap, rfl⟩

set_option maxHeartbeats 4000000 in
set_option maxRecDepth 100000 in
theorem scan_any {w : World} {b o n c : Nat} {xs : List UInt8} (hT : Tab w) (h : Bts w (.slice (some ⟨b, o, none⟩) n c) xs) (hl : n ≤ 100000) : Calls Tryd.prog 19 #[.slice (some ⟨b, o, none⟩) n c] w (Scanned w xs) := by
  obtain ⟨i0, hi, hz0, hz1, hz2⟩ := info_parts info22
  have HT := Lib.hid hT
  have HV := Lib.hid h
  have hn := h.len
  obtain ⟨hxn, hnc⟩ := hn
  have HXN := Lib.hid hxn
  clear hT h hxn
  go_enter Tryd.func19, Tryd.ntmps19
  go_wp2
  go_step3
  go_wp2
  go_step3
  go_wp2
  go_loopg [4, 5] (n + 1) (fun f v i wr => ∃ (t : Nat) (vs : List Value) (acc : List (List UInt8)), i = .int .i64 t ∧ t ≤ n ∧ n < t + f ∧ acc.length ≤ t ∧ wr.ownsRow w.heap.size 22 1 v acc.length vs ∧ Pays wr w.heap.size vs acc ∧ Below w.heap.size w wr ∧ acc ++ M.sl (xs.drop t) = M.sl xs ∧ t + M.st (xs.drop t) = M.st xs)
  case atStart => exact ⟨0, [], [], rfl, Nat.zero_le _, by omega, Nat.le_refl _, World.ownsRow_nil _ _ _ _, Pays.nil _ _, Below.refl _ _, by simp, by simp⟩
  case round =>
    obtain ⟨t, vs, acc, rfl, ht, hf, hla, hown, hpay, hbw, hsl, hst⟩ := hrel
    have HO := Lib.hid hown
    have HP := Lib.hid hpay
    have HB := Lib.hid hbw
    have HS := Lib.hid hsl
    have HE := Lib.hid hst
    have HV1 := Lib.hid ((HV.out.below hbw).drop t ht)
    have HT1 := Lib.hid (HT.out.below hbw)
    have hbs := hbw.size
    clear hown hpay hbw hsl hst
    by_cases hc : c = t
    · have hnt : n = t := by omega
      subst hc hnt
      have hd : xs.drop n = [] := List.drop_of_length_le (by rw [HXN.out]; omega)
      have HN := Lib.hid (Bts.nil wr (some ⟨b, o, none⟩) 0)
      have hge : M.ge [] = 3 := by simp [M.ge]
      have hgs : M.gs [] = 0 := by simp [M.gs, hge]
      rw [hd] at HS HE
      rw [(M.sl_no (xs := []) (by omega)).1, List.append_nil] at HS
      rw [(M.sl_no (xs := []) (by omega)).2, Nat.add_zero] at HE
      have HG := Lib.hid (get_any HT1.out HN.out (by simp))
      clear hd HV1 HN
      have HGE := Lib.hid hge
      have HGS := Lib.hid hgs
      clear hge hgs
      go_wp2_with (fail)
      refine HG.out.mono ?_
      rintro e w1 ⟨u, rfl, _, hno, hb⟩
      have hv := hno (by rw [HGE.out]; omega)
      have HO1 := Lib.hid (own_keep HO.out hb)
      have HP1 := Lib.hid (HP.out.keep hb)
      have HB1 := Lib.hid (below_on HB.out hb)
      subst hv
      rw [HGE.out, HGS.out]
      clear hno hb HO HP HB HT1 HG HGE HGS
      go_wp2
      try rw [Exit.noGoto_ret]
      go_ret2
      exact ⟨_, vs, by rw [← HE.out]; rfl, by rw [← HS.out]; exact HO1.out, by rw [← HS.out]; exact HP1.out, HB1.out⟩
    · have hge := @M.ge_ok_iff (xs.drop t)
      have HG := Lib.hid (get_any HT1.out HV1.out (by simp; have := HXN.out; omega))
      clear hge
      go_wp2_with (fail)
      refine HG.out.mono ?_
      rintro e w1 ⟨u, rfl, hok, hno, hb⟩
      by_cases h0 : M.ge (xs.drop t) = 0
      · have ho := hok h0
        have hg := M.gs_ok h0
        have hgp := M.gp_ok h0
        have hsk := M.sl_ok h0
        rw [List.drop_drop] at hsk
        have hpn : M.gp (xs.drop t) ≠ [] := by intro e; rw [e] at hgp; simp at hgp; omega
        have hgl : t + M.gs (xs.drop t) ≤ n := by have := hg.2.2.2; simp at this; have := HXN.out; omega
        have HS1 := Lib.hid (show (acc ++ [M.gp (xs.drop t)]) ++ M.sl (xs.drop (t + M.gs (xs.drop t))) = M.sl xs by rw [List.append_assoc, List.singleton_append, ← hsk.1]; exact HS.out)
        have HE1 := Lib.hid (show t + M.gs (xs.drop t) + M.st (xs.drop (t + M.gs (xs.drop t))) = M.st xs by rw [Nat.add_assoc, ← hsk.2]; exact HE.out)
        have HP1 := Lib.hid (HP.out.snoc hb hpn ho hbs)
        have HO1 := Lib.hid (own_keep HO.out hb)
        have HB1 := Lib.hid (below_on HB.out hb)
        have h9 : 9 ≤ M.gs (xs.drop t) := by omega
        obtain ⟨A, cc, rfl⟩ := own_slice ho
        have hsz : w.heap.size ≤ w1.heap.size := Nat.le_trans hbs hb.size
        rw [h0]
        clear hok hno hb ho hg hgp hsk hpn h0 HO HP HB HS HE HV1 HT1 HG
        generalize M.gs (xs.drop t) = z at *
        generalize M.gp (xs.drop t) = p at *
        go_wp2_with (at_builtin; refine wpList_append_own _ rfl _ _ 36 rfl w.heap.size 22 i0 (.slice none 0 0) 1 24 Tryd.underlying36 hi hz0 hz1 hz2 rfl (by decide) _ _ _ rfl (HO1.out.alloc _) ⟨w1.heap.size, 0, none⟩ 1 1 [.slice A p.length cc] rfl rfl (one_row _ _) (by intro y hy; simp at hy; subst hy; rfl) (by unfold maxLen; omega) (by omega) (by simp; omega) ?_; intro v' w2 hown' hgrow hnil)
        go_roundg (gk - 1)
        case measure => omega
        case rel =>
          refine ⟨t + z, vs ++ [.slice A p.length cc], acc ++ [p], by go_num, hgl, by omega, by simp; omega, by simpa using hown', ?_, ?_, HS1.out, HE1.out⟩
          · exact (HP1.out.keep (below_new (Below.refl _ _))).grown (HO1.out.alloc _) hgrow
          · exact (below_new HB1.out).grown hgrow (by simp; omega) (fun k hk => (HO1.out.lt k hk).1)
      · have hz : M.gs (xs.drop t) = 0 := by rw [M.gs, if_neg h0]
        have hv := hno h0
        have HO1 := Lib.hid (own_keep HO.out hb)
        have HP1 := Lib.hid (HP.out.keep hb)
        have HB1 := Lib.hid (below_on HB.out hb)
        rw [(M.sl_no h0).1, List.append_nil] at HS
        rw [(M.sl_no h0).2, Nat.add_zero] at HE
        subst hv
        rw [hz]
        clear hok hno hb hz HO HP HB HV1 HT1 HG
        generalize M.ge (xs.drop t) = z at *
        have q1 : ((z : Int) == 0) = false := by rw [beq_eq_false_iff_ne]; omega
        go_wp2
        try rw [Exit.noGoto_ret]
        go_ret2
        exact ⟨_, vs, by rw [← HE.out]; rfl, by rw [← HS.out]; exact HO1.out, by rw [← HS.out]; exact HP1.out, HB1.out⟩

set_option maxHeartbeats 1000000 in
set_option maxRecDepth 100000 in
theorem scan_nil {w : World} (hT : Tab w) : Calls Tryd.prog 19 #[.slice none 0 0] w (Scanned w []) := by
  have hge : M.ge [] = 3 := by simp [M.ge]
  have hgs : M.gs [] = 0 := by simp [M.gs, hge]
  have HG := Lib.hid (get_any hT (Bts.nil w none 0) (by simp))
  have HS := Lib.hid (M.sl_no (xs := []) (by omega))
  have HGE := Lib.hid hge
  have HGS := Lib.hid hgs
  clear hT hge hgs
  go_enter Tryd.func19, Tryd.ntmps19
  go_wp2
  go_step3
  go_wp2
  go_step3
  go_wp2
  go_loopg [4, 5] 1 (fun f v i wr => v = .slice none 0 0 ∧ i = .int .i64 0 ∧ wr = w)
  case atStart => exact ⟨rfl, rfl, rfl⟩
  case round =>
    obtain ⟨rfl, rfl, rfl⟩ := hrel
    go_wp2_with (fail)
    refine HG.out.mono ?_
    rintro e w1 ⟨u, rfl, _, hno, hb⟩
    have hv := hno (by rw [HGE.out]; omega)
    have HB1 := Lib.hid hb
    subst hv
    rw [HGE.out, HGS.out]
    clear hno hb HG HGE HGS
    go_wp2
    try rw [Exit.noGoto_ret]
    go_ret2
    exact ⟨_, [], by rw [HS.out.2]; rfl, by rw [HS.out.1]; exact World.ownsRow_nil _ _ _ _, by rw [HS.out.1]; exact Pays.nil _ _, HB1.out⟩
end Go.Proofs.YtmjkcbcenpdcnaaDoor
