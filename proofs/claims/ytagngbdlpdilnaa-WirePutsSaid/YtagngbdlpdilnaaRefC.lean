/- Contract of the document's Command; no conditions but those that it names. -/
import Derived.Test.YtagngbdlpdilnaaRefN
import Derived.Deep.RegionLaw
namespace Go.Proofs.Ytagngbdlpdilnaa
open Go.RowKit

theorem refNumsZ (w : World) {x : Nat} (hx : x = w.heap.size) (zs : List Int) (hz : ∀ z ∈ zs, 0 ≤ z ∧ z ≤ 1099511627776) (hl : zs.length ≤ 1000) : Calls Try.prog 50 #[.slice (some ⟨x, 0, none⟩) zs.length zs.length] (w.alloc (.cells ((zs.map fun z => Value.int .i64 z).toArray) 3)) (Made8 (M.numsZ zs) (w.alloc (.cells ((zs.map fun z => Value.int .i64 z).toArray) 3))) := by
  subst hx
  rw [← M.numsZ_map]
  refine refNumbers_any (Ints.newZ w zs (fun z h => (hz z h).1)) ?_ (by simpa using hl)
  intro n hn
  rw [List.mem_map] at hn
  obtain ⟨z, hz', rfl⟩ := hn
  have := hz z hz'
  omega

/-- One step: what was there, the new numbers behind it. -/
theorem put_new {w w1 w2 : World} {v u : Value} {xs ys : List UInt8} (ho : Own w1 w.heap.size v xs) (hb : Below w.heap.size w w1) (hu : Own w2 w1.heap.size u ys) (hb2 : Below w1.heap.size w1 w2) (hl : xs.length + ys.length ≤ 1000000) :
    ∃ v' w', (Builtin.append_ #[46, 46] 46 #[v, u]).run Try.prog w2 = .ok v' w' ∧ Own w' w.heap.size v' (xs ++ ys) ∧ Below w.heap.size w w' :=
  append_new (ho.on hb2) (hb.trans (hb2.mono hb.size)) hu.bts hl

/-- append, whose run is known, as one step of a region that draws. -/
theorem step_append_run {P : Program} {ops : Array Oper} {o : Oper} {a : Act} {w : World} {K : Act → World → Prop} {Q : Exit → Act → World → Prop} {E : Prop}
    (hg : o.guard = none) (s x : Operand) (t tn : TypeId) (hop : o.op = Op.call { callee := Callee.builtin Builtin.append, args := #[s, x], argTypes := #[t, tn] })
    (vs vx : Value) (hs : a.eval s = vs) (hx : a.eval x = vx) (v' : Value) (w' : World) (hr : (Builtin.append_ #[t, tn] o.type #[vs, vx]).run P w = .ok v' w')
    (hK : K (a.put o.dst v') w') : if Region.wanted o (yielded ops a.tmps) = true then Oper.wp P o a w K Q else E := by
  have hw : Region.wanted o (yielded ops a.tmps) = true := by simp [Region.wanted, hg]
  rw [if_pos hw]
  unfold Oper.wp
  simp [execOp, hop, resolve, invoke, builtin, hs, hx, hr, Result.andThen]
  exact hK
theorem enter50 (vx : Value) (w : World) : (callFunc 50 #[vx]).run Try.prog w = .ok (.enter 50 #[vx]) w := by kernel_rfl
/-- A call that makes bytes, as one step of a region that draws. -/
theorem step_made8 {ops : Array Oper} {o : Oper} {a : Act} {w : World} {K : Act → World → Prop} {Q : Exit → Act → World → Prop} {E : Prop}
    (hg : o.guard = none) (x : Operand) (t : TypeId) (hop : o.op = Op.call { callee := Callee.value (.func 50), args := #[x], argTypes := #[t] })
    (vx : Value) (hx : a.eval x = vx) (xs : List UInt8) (h : Calls Try.prog 50 #[vx] w (Made8 xs w))
    (hK : ∀ v w', Own w' w.heap.size v xs → Below w.heap.size w w' → K (a.put o.dst v) w') : if Region.wanted o (yielded ops a.tmps) = true then Oper.wp Try.prog o a w K Q else E := by
  have hw : Region.wanted o (yielded ops a.tmps) = true := by simp [Region.wanted, hg]
  rw [if_pos hw]
  unfold Oper.wp
  obtain ⟨dst, op, ty, pos, after, guard⟩ := o
  simp only at hop
  subst hop
  rw [execOp_call_go]
  have e : (#[] ++ #[x].map a.eval ++ #[] : Array Value) = #[vx] := by simp [hx]
  rw [e, enter50]
  refine h.mono ?_
  rintro e w' ⟨v, rfl, ho, hb⟩
  exact hK v w' ho hb

namespace M
theorem nb7' {a b c d e f g : Int} (h1 : Nb a) (h2 : Nb b) (h3 : Nb c) (h4 : Nb d) (h5 : Nb e) (h6 : Nb f) (h7 : Nb g) : ∀ z ∈ [a, b, c, d, e, f, g], 0 ≤ z ∧ z ≤ 1099511627776 := nb7 h1 h2 h3 h4 h5 h6 h7
end M

set_option maxHeartbeats 8000000 in
set_option maxRecDepth 100000 in
theorem refCommand_any {w : World} (c : M.Cmd) {va vb : Value} (h : Rds w va c.rs) (h' : Wrs w vb c.ws) (F : M.Fits c) : Calls Try.prog 21 #[.agg #[.int .i64 c.k, .int .i64 c.tc, .int .i64 c.tn, .int .i64 c.tt, .int .i64 c.tk, .int .i64 c.sh, va, vb, .bool c.cm]] w (Made8 (M.encC c) w) := by
  obtain ⟨i0, hi, hz0, hz1, hz2⟩ := info_parts info5
  obtain ⟨A, c1, rfl, hc1, -⟩ := h.opened
  obtain ⟨A', c2, rfl, hc2, -⟩ := h'.opened
  have RR := Lib.hid (h.push (.cells #[.int .i64 c.k, .int .i64 c.tc, .int .i64 c.tn, .int .i64 c.tt, .int .i64 c.tk, .int .i64 c.sh, (.slice A c.rs.length c1), (.slice A' c.ws.length c2), .bool c.cm] 33))
  have WW := Lib.hid (h'.push (.cells #[.int .i64 c.k, .int .i64 c.tc, .int .i64 c.tn, .int .i64 c.tt, .int .i64 c.tk, .int .i64 c.sh, (.slice A c.rs.length c1), (.slice A' c.ws.length c2), .bool c.cm] 33))
  have X0 := Lib.hid (Box.new w c (.slice A c.rs.length c1) (.slice A' c.ws.length c2))
  have EB := Lib.hid (below_new (o := .cells #[.int .i64 c.k, .int .i64 c.tc, .int .i64 c.tn, .int .i64 c.tt, .int .i64 c.tk, .int .i64 c.sh, (.slice A c.rs.length c1), (.slice A' c.ws.length c2), .bool c.cm] 33) (Below.refl w.heap.size w))
  have O1 := Lib.hid (show Own ((w.alloc (.cells #[.int .i64 c.k, .int .i64 c.tc, .int .i64 c.tn, .int .i64 c.tt, .int .i64 c.tk, .int .i64 c.sh, (.slice A c.rs.length c1), (.slice A' c.ws.length c2), .bool c.cm] 33)).alloc (.cells #[.int .u8 1] 5)) (w.alloc (.cells #[.int .i64 c.k, .int .i64 c.tc, .int .i64 c.tn, .int .i64 c.tt, .int .i64 c.tk, .int .i64 c.sh, (.slice A c.rs.length c1), (.slice A' c.ws.length c2), .bool c.cm] 33)).heap.size (.slice (some ⟨w.heap.size + 1, 0, none⟩) 1 1) [1] from by
    have := Own.one (w.alloc (.cells #[.int .i64 c.k, .int .i64 c.tc, .int .i64 c.tn, .int .i64 c.tt, .int .i64 c.tk, .int .i64 c.sh, (.slice A c.rs.length c1), (.slice A' c.ws.length c2), .bool c.cm] 33)) 1 (by omega)
    simpa using this)
  have B1 := Lib.hid (below_new (o := .cells #[.int .u8 1] 5) (Below.refl (w.alloc (.cells #[.int .i64 c.k, .int .i64 c.tc, .int .i64 c.tn, .int .i64 c.tt, .int .i64 c.tk, .int .i64 c.sh, (.slice A c.rs.length c1), (.slice A' c.ws.length c2), .bool c.cm] 33)).heap.size (w.alloc (.cells #[.int .i64 c.k, .int .i64 c.tc, .int .i64 c.tn, .int .i64 c.tt, .int .i64 c.tk, .int .i64 c.sh, (.slice A c.rs.length c1), (.slice A' c.ws.length c2), .bool c.cm] 33))))
  have hr1 := F.rl
  have hr2 := F.wl
  have FR := Lib.hid F.rs
  have FW := Lib.hid F.ws
  clear h h'
  go_enter Try.func21, Try.ntmps21
  go_wp2_with
    (first
     | (go_at_call 50
        refine (refNumsZ _ (by simp) [c.k, c.tc, c.tn, c.tt, c.tk, c.sh, (c.rs.length : Int)] (M.nb7' F.k F.tc F.tn F.tt F.tk F.sh (M.nbl _ (by omega))) (by simp)).mono ?_
        rintro e w2 ⟨v2, rfl, ho2, hb2⟩
        have hn := M.numsZ_len [c.k, c.tc, c.tn, c.tt, c.tk, c.sh, (c.rs.length : Int)]
        obtain ⟨v3, w3, hr, ho3, hb3⟩ := put_new (O1.out.alloc (.cells #[.int .i64 c.k, .int .i64 c.tc, .int .i64 c.tn, .int .i64 c.tt, .int .i64 c.tk, .int .i64 c.sh, .int .i64 (c.rs.length : Int)] 3)) (below_new B1.out) ho2 hb2 (by simp at hn ⊢; omega)
        have O3 := Lib.hid ho3
        have B3 := Lib.hid hb3
        clear ho2 hb2 ho3 hb3 hn)
     | (at_builtin; refine Lib.wpList_append_run _ rfl _ _ _ _ rfl _ _ rfl rfl _ _ hr ?_))
  clear O1 B1 hr
  generalize hy : ([1] ++ M.numsZ [c.k, c.tc, c.tn, c.tt, c.tk, c.sh, (c.rs.length : Int)]) = y3 at O3
  have L3 : y3.length ≤ 60 := by rw [← hy]; have hn := M.numsZ_len [c.k, c.tc, c.tn, c.tt, c.tk, c.sh, (c.rs.length : Int)]; simp at hn ⊢; omega
  have Y3 := Lib.hid hy
  clear hy
  have hv3 : y3 ++ (c.rs.take 0).flatMap M.encRd = y3 := by simp
  generalize (w.alloc _) = wB at *
  go_loopw [3, 4] (fun y i wr => ∃ k : Nat, k ≤ c.rs.length ∧ i = .int .i64 k ∧ Own wr wB.heap.size y (y3 ++ (c.rs.take k).flatMap M.encRd) ∧ Below wB.heap.size wB wr) (fun _ i _ => c.rs.length - (intOf i).toNat)
  case atStart => exact ⟨0, Nat.zero_le _, rfl, by rw [hv3]; exact O3.out, B3.out⟩
  case round =>
    obtain ⟨k, hk, rfl, hrow, hbw⟩ := hrel
    obtain ⟨wr, hwr, hrow, hbw⟩ : ∃ wr', wr' = _ ∧ Own wr' wB.heap.size _ _ ∧ Below wB.heap.size wB wr' := ⟨_, rfl, hrow, hbw⟩
    subst hwr
    have HR := Lib.hid hrow
    have HB := Lib.hid hbw
    obtain ⟨lx, f0, f1, f2, f3, f4, f5, f6, f7, f8⟩ := X0.out.on hbw
    by_cases hlt : k < c.rs.length
    · obtain ⟨A1x, c1x, ea, -, hx⟩ := RR.out.opened
      simp only [Value.slice.injEq, true_and] at ea
      obtain ⟨rfl, rfl⟩ := ea
      obtain ⟨b, o, rfl, hb, hy⟩ := hx (by omega)
      have ZZ := Lib.hid ((hy k hlt).below hbw hb)
      have hy0 := Lib.hid (hy k hlt)
      obtain ⟨z1, z2, z3⟩ := ZZ.out
      have HT := Lib.hid (M.rd_take hlt)
      obtain ⟨g1, g2, g3⟩ := FR.out (c.rs.getD k rd0) (by rw [List.getD, List.getElem?_eq_getElem hlt]; exact List.getElem_mem hlt)
      have hlen : (y3 ++ (c.rs.take k).flatMap M.encRd).length ≤ 4000 := by
        have := M.rds_len (c.rs.take k) (fun r hr => (FR.out r (List.mem_of_mem_take hr)).1)
        rw [List.length_take] at this; rw [List.length_append]; omega
      clear hy hx hrow hbw
      generalize (c.rs.getD k rd0).1 = x at *
      generalize (c.rs.getD k rd0).2.1 = t at *
      generalize (c.rs.getD k rd0).2.2 = u at *
      generalize hq : y3 ++ (c.rs.take k).flatMap M.encRd = q0 at HR hlen
      have HQ := Lib.hid hq
      clear hq
      have hi1 : (k : Int) < (c.rs.length : Int) := by omega
      have hbr : b < wr.heap.size := Nat.lt_of_lt_of_le hb HB.out.size
      go_wp2_with
        (first
         | (go_at_call 51
            refine (refText_any x (by omega)).mono ?_
            rintro e w4 ⟨v4, rfl, ho2, hb2⟩
            have hn := M.txt_len x
            obtain ⟨v5, w5, hr, ho3, hb3⟩ := put_new HR.out HB.out ho2 hb2 (by omega)
            have O5 := Lib.hid ho3
            have B5 := Lib.hid hb3
            have Z5 := Lib.hid (hy0.out.below hb3 hb)
            clear ho2 hb2 ho3 hb3 hn)
         | (at_builtin; refine Lib.wpList_append_run _ rfl _ _ _ _ rfl _ _ rfl rfl _ _ hr ?_))
      clear HR HB hr f0 f1 f2 f3 f4 f5 f6 f7 f8 z1 z2 z3
      have hbr5 : b < w5.heap.size := Nat.lt_of_lt_of_le hb B5.out.size
      obtain ⟨lx, f0, f1, f2, f3, f4, f5, f6, f7, f8⟩ := X0.out.on B5.out
      obtain ⟨z1, z2, z3⟩ := Z5.out
      have L5 : (q0 ++ M.txt x).length ≤ 5000 := by have hn := M.txt_len x; rw [List.length_append]; omega
      have D5 := Lib.hid (show Own w5.drew wB.heap.size v5 (q0 ++ M.txt x) from O5.out)
      have E5 := Lib.hid (B5.out.drew)
      go_region_law (first
        | (refine step_made8 rfl (.tmp 60) 91 rfl _ (by simp [Act.eval]) (M.numsZ [t, u]) (refNumsZ w5.drew rfl [t, u] (M.nb2 g2 g3) (by simp)) ?_
           intro v6 w6 ho2 hb2
           have hn := M.numsZ_len [t, u]
           obtain ⟨v7, w7, hr7, ho3, hb3⟩ := put_new (D5.out.alloc (.cells #[.int .i64 t, .int .i64 u] 3)) (below_new E5.out) ho2 hb2 (by simp at hn; omega)
           have O7 := Lib.hid ho3
           have B7 := Lib.hid hb3
           clear ho2 hb2 ho3 hb3 hn)
        | refine step_append_run rfl (.tmp 45) (.tmp 61) 46 46 rfl _ _ (by simp [Act.eval]) (by simp [Act.eval]) _ _ hr7 ?_)
      all_goals
        go_wp2
        go_roundw
        case rel => exact ⟨k + 1, by omega, by go_num, by rw [HT.out, ← List.append_assoc, HQ.out, ← List.append_assoc]; exact O7.out, B7.out⟩
        case measure => simp [intOf]; omega
    · obtain rfl : k = c.rs.length := by omega
      rw [List.take_length] at hrow HR
      have L5 : (y3 ++ c.rs.flatMap M.encRd).length ≤ 4000 := by
        have := M.rds_len c.rs (fun r hr => (FR.out r hr).1)
        rw [List.length_append]; omega
      clear hv3 O3 B3 RR
      generalize hy : y3 ++ c.rs.flatMap M.encRd = y5 at hrow HR L5
      have Y5 := Lib.hid hy
      clear hy hrow hbw
      have hw7 := M.num_len c.ws.length
      have HC := Lib.hid (fun w => refNumber_any 6 c.ws.length w (by omega) (by omega))
      go_wp2_with
        (first
         | (go_at_call 52
            refine (HC.out _).mono ?_
            rintro e w4 ⟨v4, rfl, ho2, hb2⟩
            obtain ⟨v6, w6, hr, ho3, hb3⟩ := put_new HR.out HB.out ho2 hb2 (by show _ + (M.num c.ws.length).length ≤ _; omega)
            have O6 := Lib.hid (show Own w6 wB.heap.size v6 (y5 ++ M.num c.ws.length) from ho3)
            have B6 := Lib.hid hb3
            clear ho2 hb2 ho3 hb3)
         | (at_builtin; refine Lib.wpList_append_run _ rfl _ _ _ _ rfl _ _ rfl rfl _ _ hr ?_))
      have L6 : (y5 ++ M.num c.ws.length).length ≤ 4010 := by rw [List.length_append]; omega
      clear hr HC HR HB hw7 lx f0 f1 f2 f3 f4 f5 f6 f7 f8
      generalize hy : y5 ++ M.num c.ws.length = y6 at O6 L6
      have Y6 := Lib.hid hy
      clear hy
      have hv6 : y6 ++ (c.ws.take 0).flatMap M.encWr = y6 := by simp
      go_loopw [3, 5] (fun y i wr => ∃ k : Nat, k ≤ c.ws.length ∧ i = .int .i64 k ∧ Own wr wB.heap.size y (y6 ++ (c.ws.take k).flatMap M.encWr) ∧ Below wB.heap.size wB wr) (fun _ i _ => c.ws.length - (intOf i).toNat)
      case atStart => exact ⟨0, Nat.zero_le _, rfl, by rw [hv6]; exact O6.out, B6.out⟩
      case round =>
        obtain ⟨k, hk, rfl, hrow, hbw⟩ := hrel
        obtain ⟨wr, hwr, hrow, hbw⟩ : ∃ wr', wr' = _ ∧ Own wr' wB.heap.size _ _ ∧ Below wB.heap.size wB wr' := ⟨_, rfl, hrow, hbw⟩
        subst hwr
        have HR := Lib.hid hrow
        have HB := Lib.hid hbw
        obtain ⟨lx, f0, f1, f2, f3, f4, f5, f6, f7, f8⟩ := X0.out.on hbw
        by_cases hlt : k < c.ws.length
        · obtain ⟨A1x, c1x, ea, -, hx⟩ := WW.out.opened
          simp only [Value.slice.injEq, true_and] at ea
          obtain ⟨rfl, rfl⟩ := ea
          obtain ⟨b, o, rfl, hb, hy⟩ := hx (by omega)
          have hy0 := Lib.hid (hy k hlt)
          obtain ⟨z1, z2⟩ := (hy k hlt).below hbw hb
          have HT := Lib.hid (M.wr_take hlt)
          obtain ⟨g1, g2⟩ := FW.out (c.ws.getD k wr0) (by rw [List.getD, List.getElem?_eq_getElem hlt]; exact List.getElem_mem hlt)
          have hlen : (y6 ++ (c.ws.take k).flatMap M.encWr).length ≤ 9000 := by
            have := M.wrs_len (c.ws.take k) (fun r hr => FW.out r (List.mem_of_mem_take hr))
            rw [List.length_take] at this; rw [List.length_append]; omega
          clear hy hx hrow hbw
          generalize (c.ws.getD k wr0).1 = x at *
          generalize (c.ws.getD k wr0).2 = t at *
          generalize hq : y6 ++ (c.ws.take k).flatMap M.encWr = q0 at HR hlen
          have HQ := Lib.hid hq
          clear hq
          have hi1 : (k : Int) < (c.ws.length : Int) := by omega
          have hnx := M.txt_len x
          have hnt := M.txt_len t
          go_wp2_with
            (first
             | (go_at_call 51
                with_reducible refine (refText_any x (by omega)).mono ?_
                rintro e w4 ⟨v4, rfl, ho2, hb2⟩
                obtain ⟨v5, w5, hr, ho3, hb3⟩ := put_new HR.out HB.out ho2 hb2 (by omega)
                have O5 := Lib.hid ho3
                have B5 := Lib.hid hb3
                obtain ⟨_, z2⟩ := hy0.out.below hb3 hb
                obtain ⟨_, _, _, _, _, _, _, _, f7, _⟩ := X0.out.on hb3
                clear ho2 hb2 ho3 hb3)
             | (go_at_call 51
                with_reducible refine (refText_any t (by omega)).mono ?_
                rintro e w7 ⟨v7, rfl, ho2, hb2⟩
                obtain ⟨v8, w8, hr8, ho3, hb3⟩ := put_new O5.out B5.out ho2 hb2 (by rw [List.length_append]; omega)
                have O8 := Lib.hid ho3
                have B8 := Lib.hid hb3
                clear ho2 hb2 ho3 hb3)
             | (at_builtin; refine Lib.wpList_append_run _ rfl _ _ _ _ rfl _ _ rfl rfl _ _ hr8 ?_)
             | (at_builtin; refine Lib.wpList_append_run _ rfl _ _ _ _ rfl _ _ rfl rfl _ _ hr ?_))
          go_roundw
          case rel => exact ⟨k + 1, by omega, by go_num, by rw [HT.out, ← List.append_assoc, HQ.out, ← List.append_assoc]; exact O8.out, B8.out⟩
          case measure => simp [intOf]; omega
        · obtain rfl : k = c.ws.length := by omega
          rw [List.take_length] at hrow HR
          have L7 : (y6 ++ c.ws.flatMap M.encWr).length ≤ 9000 := by
            have := M.wrs_len c.ws (fun r hr => FW.out r hr)
            rw [List.length_append]; omega
          clear hv6 O6 B6 WW
          generalize hy : y6 ++ c.ws.flatMap M.encWr = y7 at hrow HR L7
          have Y7 := Lib.hid hy
          clear hy hrow hbw
          have HE := Lib.hid (show ∀ z, y7 ++ z = [1] ++ M.numsZ [c.k, c.tc, c.tn, c.tt, c.tk, c.sh, (c.rs.length : Int)] ++ c.rs.flatMap M.encRd ++ M.num c.ws.length ++ c.ws.flatMap M.encWr ++ z from fun z => by rw [← Y7.out, ← Y6.out, ← Y5.out, ← Y3.out])
          have HF := Lib.hid (show [1] ++ M.numsZ [c.k, c.tc, c.tn, c.tt, c.tk, c.sh, (c.rs.length : Int)] ++ c.rs.flatMap M.encRd ++ M.num c.ws.length ++ c.ws.flatMap M.encWr ++ M.flag c.cm = M.encC c by
            simp only [M.encC, M.numsZ_cons, M.numsZ_nil, M.numZ, Int.toNat_natCast, List.append_assoc, List.append_nil])
          have hsz := EB.out.size
          rcases two c.cm with e0 | e0
          · have HG := Lib.hid (show M.flag c.cm = [UInt8.ofNat 1] by rw [e0]; rfl)
            go_wp2_with
              (at_builtin
               refine wpList_append_own_at _ rfl _ _ 46 rfl wB.heap.size 5 i0 (.int .u8 0) 1 1 Try.underlying46 hi hz0 hz1 hz2 rfl (by decide) _ _ _ rfl (HR.out.alloc _) ⟨wr.heap.size, 0, none⟩ 1 1 [.int .u8 1] rfl rfl (cell_one_new _ _ _) (by simp [Value.oneCell']) (by unfold maxLen; omega) (by omega) (by have := HB.out.size; simp; omega) ?_
               intro v' w3 hown3 hgrow3 hnil3 hat3
               have O3 := Lib.hid (Own.snoc (n := 1) (by omega) hown3)
               have B3 := Lib.hid ((Ext.made hgrow3 hat3).below (below_new HB.out) (by have := HB.out.size; simp; omega) (fun k e => (HR.out.lt e).1))
               clear hown3 hgrow3 hnil3 hat3)
            go_ret
            exact ⟨_, rfl, by have := O3.out; rw [← HG.out, HE.out, HF.out] at this; exact this.base hsz, below_on EB.out B3.out⟩
          · have HG := Lib.hid (show M.flag c.cm = [UInt8.ofNat 0] by rw [e0]; rfl)
            go_wp2_with
              (at_builtin
               refine wpList_append_own_at _ rfl _ _ 46 rfl wB.heap.size 5 i0 (.int .u8 0) 1 1 Try.underlying46 hi hz0 hz1 hz2 rfl (by decide) _ _ _ rfl (HR.out.alloc _) ⟨wr.heap.size, 0, none⟩ 1 1 [.int .u8 0] rfl rfl (cell_one_new _ _ _) (by simp [Value.oneCell']) (by unfold maxLen; omega) (by omega) (by have := HB.out.size; simp; omega) ?_
               intro v' w3 hown3 hgrow3 hnil3 hat3
               have O3 := Lib.hid (Own.snoc (n := 0) (by omega) hown3)
               have B3 := Lib.hid ((Ext.made hgrow3 hat3).below (below_new HB.out) (by have := HB.out.size; simp; omega) (fun k e => (HR.out.lt e).1))
               clear hown3 hgrow3 hnil3 hat3)
            go_ret
            exact ⟨_, rfl, by have := O3.out; rw [← HG.out, HE.out, HF.out] at this; exact this.base hsz, below_on EB.out B3.out⟩
end Go.Proofs.Ytagngbdlpdilnaa
