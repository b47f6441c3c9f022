/- The document's bytes of a record: contracts; no conditions but those that they name. -/
import Derived.Test.YtdachohcjpjblaaGreatDoorFWiF
import Derived.Deep.RegionLaw
set_option maxHeartbeats 8000000
set_option maxRecDepth 100000
namespace Go.Proofs.YtdachohcjpjblaaGreatDoor.Wi
open Go.RowKit
theorem Own.lit (w : World) (cs : List UInt8) (h : cs.length ≤ 1000) : Own (w.alloc (.cells (cs.map enc8).toArray 5)) w.heap.size (.slice (some ⟨w.heap.size, 0, none⟩) cs.length cs.length) cs :=
 ⟨by simp, .inr ⟨w.heap.size, cs.length, _, rfl, Nat.le_refl _, heap_alloc_new w _, Nat.le_refl _, by unfold maxLen; omega, by simp, by rw [Nat.mul_one, List.take_of_length_le (by simp)]⟩⟩
theorem Own.one (w : World) (n : Nat) (h : n < 256) : Own (w.alloc (.cells #[.int .u8 (n : Int)] 5)) w.heap.size (.slice (some ⟨w.heap.size, 0, none⟩) 1 1) [UInt8.ofNat n] := by
 have := Own.lit w [UInt8.ofNat n] (by simp)
 simp only [List.map_cons, List.map_nil, byte_of n h] at this
 exact this
theorem Own.on {w w' : World} {base : Nat} {v : Value} {xs : List UInt8} (h : Own w base v xs) (hb : Below w.heap.size w w') : Own w' base v xs := by
 refine ⟨h.1, ?_⟩
 rcases h.2 with h0 | ⟨g, cap, cur, hv, hg, hblk, r⟩
 ·exact .inl h0
 ·exact .inr ⟨g, cap, cur, hv, hg, (hb.block g (Array.getElem?_eq_some_iff.1 hblk).1).trans hblk, r⟩
theorem append_new {w w1 : World} {v u : Value} {xs new : List UInt8} (hown : Own w1 w.heap.size v xs) (hb : Below w.heap.size w w1) (hu : Bts w1 u new) (hl : xs.length + new.length ≤ 1000000) :
 ∃ v' w', (Builtin.append_ #[22, 22] 22 #[v, u]).run Tryz.prog w1 = .ok v' w' ∧ Own w' w.heap.size v' (xs ++ new) ∧ Below w.heap.size w w' := by
 obtain ⟨v', w', hr, ho, he⟩ := append_bts hown hu hl hb.size
 exact ⟨v', w', hr, ho, he.below hb hb.size (fun k e => (hown.lt e).1)⟩
theorem refNumber_any : ∀ (f n : Nat) (w : World), f ≤ 6 → n < 128 ^ (f + 1) → Calls Tryz.prog 109 #[.int .i64 (n : Int)] w (Made8 (M.numF f n) w) := by
 intro f
 induction f with
 | zero =>
   intro n w _ hn
   have hn2 : n < 128 := by simpa using hn
   have hm : (n : Int) % 256 = (n : Int) := by omega
   have HO := Lib.hid (Own.one w n (by omega))
   have HT := Lib.hid (M.numF_small (f := 0) hn2)
   clear hn
   go_enter Tryz.func109, Tryz.ntmps109
   go_wp2
   go_ret
   exact ⟨_, rfl, by rw [HT.out]; exact HO.out, below_new (Below.refl _ _)⟩
 | succ f ih =>
   intro n w hf hn
   by_cases hn2 : n < 128
   ·have hm : (n : Int) % 256 = (n : Int) := by omega
    have HO := Lib.hid (Own.one w n (by omega))
    have HT := Lib.hid (M.numF_small (f := f + 1) hn2)
    clear hn
    go_enter Tryz.func109, Tryz.ntmps109
    go_wp2
    go_ret
    exact ⟨_, rfl, by rw [HT.out]; exact HO.out, below_new (Below.refl _ _)⟩
   ·have hbig : n ≤ 562949953421311 := by
     have : 128 ^ (f + 1 + 1) ≤ 128 ^ 7 := Nat.pow_le_pow_right (by omega) (by omega)
     omega
    have IH := Lib.hid (show ∀ w, Calls Tryz.prog 109 #[.int .i64 ((n : Int) / 128)] w (Made8 (M.numF f (n / 128)) w) from fun w => by
     rw [show ((n : Int) / 128) = ((n / 128 : Nat) : Int) by omega]
     exact ih (n / 128) w (by omega) (by rw [Nat.pow_succ] at hn; omega))
    have HO := Lib.hid (show Own (w.alloc (.cells #[.int .u8 ((n : Int) % 128 + 128)] 5)) w.heap.size (.slice (some ⟨w.heap.size, 0, none⟩) 1 1) [UInt8.ofNat (n % 128 + 128)] by
     rw [show ((n : Int) % 128 + 128) = ((n % 128 + 128 : Nat) : Int) by omega]
     exact Own.one w (n % 128 + 128) (by omega))
    have HT := Lib.hid (M.numF_step (f := f) (n := n) (by omega))
    have hl := M.numF_len f (n / 128)
    clear ih hn
    go_enter Tryz.func109, Tryz.ntmps109
    go_wp2_with
     (first
      | (go_at_call 109
         refine (IH.out _).mono ?_
         rintro e w1 ⟨v1, rfl, ho1, hb1⟩
         obtain ⟨v2, w2, hr, ho2, hb2⟩ := append_new (HO.out.on hb1) (below_on (below_new (Below.refl _ _)) hb1) ho1.bts (by simp; omega)
         have O2 := Lib.hid ho2
         have B2 := Lib.hid hb2
         clear ho1 hb1 ho2 hb2)
      | (at_builtin; refine Lib.wpList_append_run _ rfl _ _ _ _ rfl _ _ rfl rfl _ _ hr ?_))
    go_ret
    exact ⟨_, rfl, by rw [HT.out]; exact O2.out, B2.out⟩
theorem refNumbers_any {w : World} {u : Value} {b : Nat} {ns : List Nat} (hu : Ints w u b ns) (hn : ∀ n ∈ ns, n < 128 ^ 7) (hl : ns.length ≤ 1000) : Calls Tryz.prog 88 #[u] w (Made8 (M.nums ns) w) := by
 have HU := Lib.hid hu
 obtain ⟨o, c, rfl, hc, hb, hx⟩ := hu
 have HX := Lib.hid hx
 have HN := Lib.hid hn
 clear hx hn
 go_enter Tryz.func88, Tryz.ntmps88
 go_wp2
 go_loopw [3, 4] (fun y i wr => ∃ k : Nat, k ≤ ns.length ∧ i = .int .i64 k ∧ Own wr w.heap.size y (M.nums (ns.take k)) ∧ Below w.heap.size w wr) (fun _ i _ => ns.length - (intOf i).toNat)
 case atStart => exact ⟨0, Nat.zero_le _, rfl, Own.nil _ _, Below.refl _ _⟩
 case round =>
  obtain ⟨k, hk, rfl, hrow, hbw⟩ := hrel
  have HR := Lib.hid hrow
  have HB := Lib.hid hbw
  have hln := M.nums_len (ns.take k)
  rw [List.length_take] at hln
  by_cases hlt : k < ns.length
  ·have hc1 := (hbw.cell (p := ⟨b, o + k, none⟩) hb).trans (HX.out k hlt)
   have HM := Lib.hid (M.nums_take hlt)
   have hnk := HN.out (ns.getD k 0) (by rw [List.getD, List.getElem?_eq_getElem hlt]; exact List.getElem_mem hlt)
   clear hrow hbw
   generalize ns.getD k 0 = m at *
   have hm7 := M.num_len m
   have HC := Lib.hid (fun w => refNumber_any 6 m w (by omega) hnk)
   clear hnk
   go_wp2_with
    (first
     | (go_at_call 109
        refine (HC.out _).mono ?_
        rintro e w1 ⟨v1, rfl, ho1, hb1⟩
        obtain ⟨v2, w2, hr, ho2, hb2⟩ := append_new (HR.out.on hb1) (below_on HB.out hb1) ho1.bts (by show _ + (M.num m).length ≤ _; omega)
        have O2 := Lib.hid ho2
        have B2 := Lib.hid hb2
        clear ho1 hb1 ho2 hb2)
     | (at_builtin; refine Lib.wpList_append_run _ rfl _ _ _ _ rfl _ _ rfl rfl _ _ hr ?_))
   go_roundw
   case rel => exact ⟨k + 1, by omega, by go_num, by rw [HM.out]; exact O2.out, B2.out⟩
   case measure => simp [intOf]; omega
  ·obtain rfl : k = ns.length := by omega
   rw [List.take_length] at HR
   clear hrow hbw
   go_wp2
   go_ret
   exact ⟨_, rfl, HR.out, HB.out⟩
theorem byteRow_bts (w : World) (t : List UInt8) (c : Nat) (fr : Nat × Nat) (hc : t.length ≤ c) : Bts (w.drew.alloc (.cells (bytesRow ⟨t.toArray⟩ c) 5 fr)) (.slice (some ⟨w.heap.size, 0, none⟩) t.length c) t := by
 refine ⟨some ⟨w.heap.size, 0, none⟩, c, by simp, by simpa using hc, fun _ => ⟨w.heap.size, 0, rfl, by simp, fun k x hk => ?_⟩⟩
 rw [List.getElem?_map, Option.map_eq_some_iff] at hk
 obtain ⟨y, hy, rfl⟩ := hk
 have hkl : k < t.length := (List.getElem?_eq_some_iff.1 hy).1
 simp only [Nat.zero_add]
 have : (w.drew.alloc (.cells (bytesRow ⟨t.toArray⟩ c) 5 fr)).heap[w.heap.size]? = some (.cells (bytesRow ⟨t.toArray⟩ c) 5 fr) := heap_alloc_new w.drew _
 simp only [World.cell?, this, Option.isSome_none, Bool.false_eq_true, if_false]
 unfold bytesRow
 rw [Array.getElem?_append_left (by simpa using hkl)]
 simp [hy, enc8]
theorem refText_any {w : World} (t : List UInt8) (hl : t.length ≤ 1000) : Calls Tryz.prog 110 #[.string ⟨t.toArray⟩] w (Made8 (M.txt t) w) := by
 have hsz : (⟨t.toArray⟩ : ByteArray).size = t.length := by simp [ByteArray.size]
 have hl7 := M.num_len t.length
 have HC := Lib.hid (fun w => refNumber_any 6 t.length w (by omega) (by omega))
 have hcv := fun w => run_bytes_of_string (P := Tryz.prog) w 9 22 5 ⟨t.toArray⟩ Tryz.underlying9 Tryz.underlying22 Tryz.underlying5
 have hge := fun w => grownCap_ge w t.length 0 5
 have HB := Lib.hid (fun w fr => byteRow_bts w t (grownCap w t.length 0 5) fr (hge w))
 rw [hsz] at hcv
 obtain ⟨s, hS⟩ : ∃ s : ByteArray, s = ⟨t.toArray⟩ := ⟨_, rfl⟩
 rw [← hS] at hcv HB hsz ⊢
 have HS := Lib.hid hS
 have HT := Lib.hid (show M.num t.length ++ t = M.txt t from rfl)
 clear hS hge
 rw [← hsz] at HC HB HT hl7 hl hcv
 have HZ := Lib.hid hsz
 clear hsz
 go_enter Tryz.func110, Tryz.ntmps110
 go_wp2_with
  (first
   | (go_at_call 109
      refine (HC.out _).mono ?_
      rintro e w1 ⟨v1, rfl, ho1, hb1⟩
      have hb2 := below_new (o := .cells (bytesRow s (grownCap w1 s.size 0 5)) 5 ((bytesRow s (grownCap w1 s.size 0 5)).size, (bytesRow s (grownCap w1 s.size 0 5)).size + 1)) ((Below.refl w1.heap.size w1).drew)
      obtain ⟨v2, w2, hr, ho2, hb3⟩ := append_new (ho1.on hb2) (below_on hb1 hb2) (HB.out w1 _) (by show (M.num s.size).length + _ ≤ _; have := HZ.out; omega)
      have O2 := Lib.hid ho2
      have B2 := Lib.hid hb3
      clear ho1 hb1 hb2 ho2 hb3)
   | (at_builtin; refine Lib.wpList_append_run _ rfl _ _ _ _ rfl _ _ rfl rfl _ _ hr ?_))
 go_ret
 exact ⟨_, rfl, by rw [← HT.out]; exact O2.out, B2.out⟩
open Go.RowKit
theorem refNumsZ (w : World) {x : Nat} (hx : x = w.heap.size) (zs : List Int) (hz : ∀ z ∈ zs, 0 ≤ z ∧ z ≤ 1099511627776) (hl : zs.length ≤ 1000) : Calls Tryz.prog 88 #[.slice (some ⟨x, 0, none⟩) zs.length zs.length] (w.alloc (.cells ((zs.map fun z => Value.int .i64 z).toArray) 3)) (Made8 (M.numsZ zs) (w.alloc (.cells ((zs.map fun z => Value.int .i64 z).toArray) 3))) := by
 subst hx
 rw [← M.numsZ_map]
 refine refNumbers_any (Ints.newZ w zs (fun z h => (hz z h).1)) ?_ (by simpa using hl)
 intro n hn
 rw [List.mem_map] at hn
 obtain ⟨z, hz', rfl⟩ := hn
 have := hz z hz'
 omega
theorem put_new {w w1 w2 : World} {v u : Value} {xs ys : List UInt8} (ho : Own w1 w.heap.size v xs) (hb : Below w.heap.size w w1) (hu : Own w2 w1.heap.size u ys) (hb2 : Below w1.heap.size w1 w2) (hl : xs.length + ys.length ≤ 1000000) :
 ∃ v' w', (Builtin.append_ #[22, 22] 22 #[v, u]).run Tryz.prog w2 = .ok v' w' ∧ Own w' w.heap.size v' (xs ++ ys) ∧ Below w.heap.size w w' :=
 append_new (ho.on hb2) (hb.trans (hb2.mono hb.size)) hu.bts hl
theorem step_append_run {P : Program} {ops : Array Oper} {o : Oper} {a : Act} {w : World} {K : Act → World → Prop} {Q : Exit → Act → World → Prop} {E : Prop}
 (hg : o.guard = none) (s x : Operand) (t tn : TypeId) (hop : o.op = Op.call { callee := Callee.builtin Builtin.append, args := #[s, x], argTypes := #[t, tn] })
 (vs vx : Value) (hs : a.eval s = vs) (hx : a.eval x = vx) (v' : Value) (w' : World) (hr : (Builtin.append_ #[t, tn] o.type #[vs, vx]).run P w = .ok v' w')
 (hK : K (a.put o.dst v') w') : if Region.wanted o (yielded ops a.tmps) = true then Oper.wp P o a w K Q else E := by
 have hw : Region.wanted o (yielded ops a.tmps) = true := by simp [Region.wanted, hg]
 rw [if_pos hw]
 unfold Oper.wp
 simp [execOp, hop, resolve, invoke, builtin, hs, hx, hr, Result.andThen]
 exact hK
theorem enter50 (vx : Value) (w : World) : (callFunc 88 #[vx]).run Tryz.prog w = .ok (.enter 88 #[vx]) w := by kernel_rfl
theorem step_made8 {ops : Array Oper} {o : Oper} {a : Act} {w : World} {K : Act → World → Prop} {Q : Exit → Act → World → Prop} {E : Prop}
 (hg : o.guard = none) (x : Operand) (t : TypeId) (hop : o.op = Op.call { callee := Callee.value (.func 88), args := #[x], argTypes := #[t] })
 (vx : Value) (hx : a.eval x = vx) (xs : List UInt8) (h : Calls Tryz.prog 88 #[vx] w (Made8 xs w))
 (hK : ∀ v w', Own w' w.heap.size v xs → Below w.heap.size w w' → K (a.put o.dst v) w') : if Region.wanted o (yielded ops a.tmps) = true then Oper.wp Tryz.prog o a w K Q else E := by
 have hw : Region.wanted o (yielded ops a.tmps) = true := by simp [Region.wanted, hg]
 rw [if_pos hw]
 unfold Oper.wp
 obtain ⟨dst, op, ty, pos, after, guard⟩ := o
 simp only at hop
 subst hop
 rw [execOp_call_go]
 have e : (#[] ++ #[x].map a.eval ++ #[] : Array Value) = #[vx] := by simp [hx]
 rw [e, enter50]
 refine h.mono ?_
 rintro e w' ⟨v, rfl, ho, hb⟩
 exact hK v w' ho hb
namespace M
theorem nb7' {a b c d e f g : Int} (h1 : Nb a) (h2 : Nb b) (h3 : Nb c) (h4 : Nb d) (h5 : Nb e) (h6 : Nb f) (h7 : Nb g) : ∀ z ∈ [a, b, c, d, e, f, g], 0 ≤ z ∧ z ≤ 1099511627776 := nb7 h1 h2 h3 h4 h5 h6 h7
end M
theorem refCommand_any {w : World} (c : M.Cmd) {va vb : Value} (h : Rds w va c.rs) (h' : Wrs w vb c.ws) (F : M.Fits c) : Calls Tryz.prog 89 #[.agg #[.int .i64 c.k,.int .i64 c.tc,.int .i64 c.tn,.int .i64 c.tt,.int .i64 c.tk,.int .i64 c.sh, va, vb,.bool c.cm]] w (Made8 (M.encC c) w) := by
 obtain ⟨i0, hi, hz0, hz1, hz2⟩ := info_parts info5
 obtain ⟨A, c1, rfl, hc1, -⟩ := h.opened
 obtain ⟨A', c2, rfl, hc2, -⟩ := h'.opened
 have RR := Lib.hid (h.push (.cells #[.int .i64 c.k,.int .i64 c.tc,.int .i64 c.tn,.int .i64 c.tt,.int .i64 c.tk,.int .i64 c.sh, (.slice A c.rs.length c1), (.slice A' c.ws.length c2),.bool c.cm] 63))
 have WW := Lib.hid (h'.push (.cells #[.int .i64 c.k,.int .i64 c.tc,.int .i64 c.tn,.int .i64 c.tt,.int .i64 c.tk,.int .i64 c.sh, (.slice A c.rs.length c1), (.slice A' c.ws.length c2),.bool c.cm] 63))
 have X0 := Lib.hid (Box.new w c (.slice A c.rs.length c1) (.slice A' c.ws.length c2))
 have EB := Lib.hid (below_new (o := .cells #[.int .i64 c.k,.int .i64 c.tc,.int .i64 c.tn,.int .i64 c.tt,.int .i64 c.tk,.int .i64 c.sh, (.slice A c.rs.length c1), (.slice A' c.ws.length c2),.bool c.cm] 63) (Below.refl w.heap.size w))
 have O1 := Lib.hid (show Own ((w.alloc (.cells #[.int .i64 c.k,.int .i64 c.tc,.int .i64 c.tn,.int .i64 c.tt,.int .i64 c.tk,.int .i64 c.sh, (.slice A c.rs.length c1), (.slice A' c.ws.length c2),.bool c.cm] 63)).alloc (.cells #[.int .u8 1] 5)) (w.alloc (.cells #[.int .i64 c.k,.int .i64 c.tc,.int .i64 c.tn,.int .i64 c.tt,.int .i64 c.tk,.int .i64 c.sh, (.slice A c.rs.length c1), (.slice A' c.ws.length c2),.bool c.cm] 63)).heap.size (.slice (some ⟨w.heap.size + 1, 0, none⟩) 1 1) [1] from by
  have := Own.one (w.alloc (.cells #[.int .i64 c.k,.int .i64 c.tc,.int .i64 c.tn,.int .i64 c.tt,.int .i64 c.tk,.int .i64 c.sh, (.slice A c.rs.length c1), (.slice A' c.ws.length c2),.bool c.cm] 63)) 1 (by omega)
  simpa using this)
 have B1 := Lib.hid (below_new (o := .cells #[.int .u8 1] 5) (Below.refl (w.alloc (.cells #[.int .i64 c.k,.int .i64 c.tc,.int .i64 c.tn,.int .i64 c.tt,.int .i64 c.tk,.int .i64 c.sh, (.slice A c.rs.length c1), (.slice A' c.ws.length c2),.bool c.cm] 63)).heap.size (w.alloc (.cells #[.int .i64 c.k,.int .i64 c.tc,.int .i64 c.tn,.int .i64 c.tt,.int .i64 c.tk,.int .i64 c.sh, (.slice A c.rs.length c1), (.slice A' c.ws.length c2),.bool c.cm] 63))))
 have hr1 := F.rl
 have hr2 := F.wl
 have FR := Lib.hid F.rs
 have FW := Lib.hid F.ws
 clear h h'
 go_enter Tryz.func89, Tryz.ntmps89
 go_wp2_with
  (first
   | (go_at_call 88
      refine (refNumsZ _ (by simp) [c.k, c.tc, c.tn, c.tt, c.tk, c.sh, (c.rs.length : Int)] (M.nb7' F.k F.tc F.tn F.tt F.tk F.sh (M.nbl _ (by omega))) (by simp)).mono ?_
      rintro e w2 ⟨v2, rfl, ho2, hb2⟩
      have hn := M.numsZ_len [c.k, c.tc, c.tn, c.tt, c.tk, c.sh, (c.rs.length : Int)]
      obtain ⟨v3, w3, hr, ho3, hb3⟩ := put_new (O1.out.alloc (.cells #[.int .i64 c.k,.int .i64 c.tc,.int .i64 c.tn,.int .i64 c.tt,.int .i64 c.tk,.int .i64 c.sh,.int .i64 (c.rs.length : Int)] 3)) (below_new B1.out) ho2 hb2 (by simp at hn ⊢; omega)
      have O3 := Lib.hid ho3
      have B3 := Lib.hid hb3
      clear ho2 hb2 ho3 hb3 hn)
   | (at_builtin; refine Lib.wpList_append_run _ rfl _ _ _ _ rfl _ _ rfl rfl _ _ hr ?_))
 clear O1 B1 hr
 generalize hy : ([1] ++ M.numsZ [c.k, c.tc, c.tn, c.tt, c.tk, c.sh, (c.rs.length : Int)]) = y3 at O3
 have L3 : y3.length ≤ 60 := by rw [← hy]; have hn := M.numsZ_len [c.k, c.tc, c.tn, c.tt, c.tk, c.sh, (c.rs.length : Int)]; simp at hn ⊢; omega
 have Y3 := Lib.hid hy
 clear hy
 have hv3 : y3 ++ (c.rs.take 0).flatMap M.encRd = y3 := by simp
 generalize (w.alloc _) = wB at *
 go_loopw [3, 4] (fun y i wr => ∃ k : Nat, k ≤ c.rs.length ∧ i = .int .i64 k ∧ Own wr wB.heap.size y (y3 ++ (c.rs.take k).flatMap M.encRd) ∧ Below wB.heap.size wB wr) (fun _ i _ => c.rs.length - (intOf i).toNat)
 case atStart => exact ⟨0, Nat.zero_le _, rfl, by rw [hv3]; exact O3.out, B3.out⟩
 case round =>
  obtain ⟨k, hk, rfl, hrow, hbw⟩ := hrel
  obtain ⟨wr, hwr, hrow, hbw⟩ : ∃ wr', wr' = _ ∧ Own wr' wB.heap.size _ _ ∧ Below wB.heap.size wB wr' := ⟨_, rfl, hrow, hbw⟩
  subst hwr
  have HR := Lib.hid hrow
  have HB := Lib.hid hbw
  obtain ⟨lx, f0, f1, f2, f3, f4, f5, f6, f7, f8⟩ := X0.out.on hbw
  by_cases hlt : k < c.rs.length
  ·obtain ⟨A1x, c1x, ea, -, hx⟩ := RR.out.opened
   simp only [Value.slice.injEq, true_and] at ea
   obtain ⟨rfl, rfl⟩ := ea
   obtain ⟨b, o, rfl, hb, hy⟩ := hx (by omega)
   have ZZ := Lib.hid ((hy k hlt).below hbw hb)
   have hy0 := Lib.hid (hy k hlt)
   obtain ⟨z1, z2, z3⟩ := ZZ.out
   have HT := Lib.hid (M.rd_take hlt)
   obtain ⟨g1, g2, g3⟩ := FR.out (c.rs.getD k rd0) (by rw [List.getD, List.getElem?_eq_getElem hlt]; exact List.getElem_mem hlt)
   have hlen : (y3 ++ (c.rs.take k).flatMap M.encRd).length ≤ 4000 := by
    have := M.rds_len (c.rs.take k) (fun r hr => (FR.out r (List.mem_of_mem_take hr)).1)
    rw [List.length_take] at this; rw [List.length_append]; omega
   clear hy hx hrow hbw
   generalize (c.rs.getD k rd0).1 = x at *
   generalize (c.rs.getD k rd0).2.1 = t at *
   generalize (c.rs.getD k rd0).2.2 = u at *
   generalize hq : y3 ++ (c.rs.take k).flatMap M.encRd = q0 at HR hlen
   have HQ := Lib.hid hq
   clear hq
   have hi1 : (k : Int) < (c.rs.length : Int) := by omega
   have hbr : b < wr.heap.size := Nat.lt_of_lt_of_le hb HB.out.size
   go_wp2_with
    (first
     | (go_at_call 110
        refine (refText_any x (by omega)).mono ?_
        rintro e w4 ⟨v4, rfl, ho2, hb2⟩
        have hn := M.txt_len x
        obtain ⟨v5, w5, hr, ho3, hb3⟩ := put_new HR.out HB.out ho2 hb2 (by omega)
        have O5 := Lib.hid ho3
        have B5 := Lib.hid hb3
        have Z5 := Lib.hid (hy0.out.below hb3 hb)
        clear ho2 hb2 ho3 hb3 hn)
     | (at_builtin; refine Lib.wpList_append_run _ rfl _ _ _ _ rfl _ _ rfl rfl _ _ hr ?_))
   clear HR HB hr f0 f1 f2 f3 f4 f5 f6 f7 f8 z1 z2 z3
   have hbr5 : b < w5.heap.size := Nat.lt_of_lt_of_le hb B5.out.size
   obtain ⟨lx, f0, f1, f2, f3, f4, f5, f6, f7, f8⟩ := X0.out.on B5.out
   obtain ⟨z1, z2, z3⟩ := Z5.out
   have L5 : (q0 ++ M.txt x).length ≤ 5000 := by have hn := M.txt_len x; rw [List.length_append]; omega
   have D5 := Lib.hid (show Own w5.drew wB.heap.size v5 (q0 ++ M.txt x) from O5.out)
   have E5 := Lib.hid (B5.out.drew)
   go_region_law (first
    | (refine step_made8 rfl (.tmp 60) 84 rfl _ (by simp [Act.eval]) (M.numsZ [t, u]) (refNumsZ w5.drew rfl [t, u] (M.nb2 g2 g3) (by simp)) ?_
       intro v6 w6 ho2 hb2
       have hn := M.numsZ_len [t, u]
       obtain ⟨v7, w7, hr7, ho3, hb3⟩ := put_new (D5.out.alloc (.cells #[.int .i64 t,.int .i64 u] 3)) (below_new E5.out) ho2 hb2 (by simp at hn; omega)
       have O7 := Lib.hid ho3
       have B7 := Lib.hid hb3
       clear ho2 hb2 ho3 hb3 hn)
    | refine step_append_run rfl (.tmp 45) (.tmp 61) 22 22 rfl _ _ (by simp [Act.eval]) (by simp [Act.eval]) _ _ hr7 ?_)
   all_goals
    go_wp2
    go_roundw
    case rel => exact ⟨k + 1, by omega, by go_num, by rw [HT.out, ← List.append_assoc, HQ.out, ← List.append_assoc]; exact O7.out, B7.out⟩
    case measure => simp [intOf]; omega
  ·obtain rfl : k = c.rs.length := by omega
   rw [List.take_length] at hrow HR
   have L5 : (y3 ++ c.rs.flatMap M.encRd).length ≤ 4000 := by
    have := M.rds_len c.rs (fun r hr => (FR.out r hr).1)
    rw [List.length_append]; omega
   clear hv3 O3 B3 RR
   generalize hy : y3 ++ c.rs.flatMap M.encRd = y5 at hrow HR L5
   have Y5 := Lib.hid hy
   clear hy hrow hbw
   have hw7 := M.num_len c.ws.length
   have HC := Lib.hid (fun w => refNumber_any 6 c.ws.length w (by omega) (by omega))
   go_wp2_with
    (first
     | (go_at_call 109
        refine (HC.out _).mono ?_
        rintro e w4 ⟨v4, rfl, ho2, hb2⟩
        obtain ⟨v6, w6, hr, ho3, hb3⟩ := put_new HR.out HB.out ho2 hb2 (by show _ + (M.num c.ws.length).length ≤ _; omega)
        have O6 := Lib.hid (show Own w6 wB.heap.size v6 (y5 ++ M.num c.ws.length) from ho3)
        have B6 := Lib.hid hb3
        clear ho2 hb2 ho3 hb3)
     | (at_builtin; refine Lib.wpList_append_run _ rfl _ _ _ _ rfl _ _ rfl rfl _ _ hr ?_))
   have L6 : (y5 ++ M.num c.ws.length).length ≤ 4010 := by rw [List.length_append]; omega
   clear hr HC HR HB hw7 lx f0 f1 f2 f3 f4 f5 f6 f7 f8
   generalize hy : y5 ++ M.num c.ws.length = y6 at O6 L6
   have Y6 := Lib.hid hy
   clear hy
   have hv6 : y6 ++ (c.ws.take 0).flatMap M.encWr = y6 := by simp
   go_loopw [3, 5] (fun y i wr => ∃ k : Nat, k ≤ c.ws.length ∧ i = .int .i64 k ∧ Own wr wB.heap.size y (y6 ++ (c.ws.take k).flatMap M.encWr) ∧ Below wB.heap.size wB wr) (fun _ i _ => c.ws.length - (intOf i).toNat)
   case atStart => exact ⟨0, Nat.zero_le _, rfl, by rw [hv6]; exact O6.out, B6.out⟩
   case round =>
    obtain ⟨k, hk, rfl, hrow, hbw⟩ := hrel
    obtain ⟨wr, hwr, hrow, hbw⟩ : ∃ wr', wr' = _ ∧ Own wr' wB.heap.size _ _ ∧ Below wB.heap.size wB wr' := ⟨_, rfl, hrow, hbw⟩
    subst hwr
    have HR := Lib.hid hrow
    have HB := Lib.hid hbw
    obtain ⟨lx, f0, f1, f2, f3, f4, f5, f6, f7, f8⟩ := X0.out.on hbw
    by_cases hlt : k < c.ws.length
    ·obtain ⟨A1x, c1x, ea, -, hx⟩ := WW.out.opened
     simp only [Value.slice.injEq, true_and] at ea
     obtain ⟨rfl, rfl⟩ := ea
     obtain ⟨b, o, rfl, hb, hy⟩ := hx (by omega)
     have hy0 := Lib.hid (hy k hlt)
     obtain ⟨z1, z2⟩ := (hy k hlt).below hbw hb
     have HT := Lib.hid (M.wr_take hlt)
     obtain ⟨g1, g2⟩ := FW.out (c.ws.getD k wr0) (by rw [List.getD, List.getElem?_eq_getElem hlt]; exact List.getElem_mem hlt)
     have hlen : (y6 ++ (c.ws.take k).flatMap M.encWr).length ≤ 9000 := by
      have := M.wrs_len (c.ws.take k) (fun r hr => FW.out r (List.mem_of_mem_take hr))
      rw [List.length_take] at this; rw [List.length_append]; omega
     clear hy hx hrow hbw
     generalize (c.ws.getD k wr0).1 = x at *
     generalize (c.ws.getD k wr0).2 = t at *
     generalize hq : y6 ++ (c.ws.take k).flatMap M.encWr = q0 at HR hlen
     have HQ := Lib.hid hq
     clear hq
     have hi1 : (k : Int) < (c.ws.length : Int) := by omega
     have hnx := M.txt_len x
     have hnt := M.txt_len t
     go_wp2_with
      (first
       | (go_at_call 110
          with_reducible refine (refText_any x (by omega)).mono ?_
          rintro e w4 ⟨v4, rfl, ho2, hb2⟩
          obtain ⟨v5, w5, hr, ho3, hb3⟩ := put_new HR.out HB.out ho2 hb2 (by omega)
          have O5 := Lib.hid ho3
          have B5 := Lib.hid hb3
          obtain ⟨_, z2⟩ := hy0.out.below hb3 hb
          obtain ⟨_, _, _, _, _, _, _, _, f7, _⟩ := X0.out.on hb3
          clear ho2 hb2 ho3 hb3)
       | (go_at_call 110
          with_reducible refine (refText_any t (by omega)).mono ?_
          rintro e w7 ⟨v7, rfl, ho2, hb2⟩
          obtain ⟨v8, w8, hr8, ho3, hb3⟩ := put_new O5.out B5.out ho2 hb2 (by rw [List.length_append]; omega)
          have O8 := Lib.hid ho3
          have B8 := Lib.hid hb3
          clear ho2 hb2 ho3 hb3)
       | (at_builtin; refine Lib.wpList_append_run _ rfl _ _ _ _ rfl _ _ rfl rfl _ _ hr8 ?_)
       | (at_builtin; refine Lib.wpList_append_run _ rfl _ _ _ _ rfl _ _ rfl rfl _ _ hr ?_))
     go_roundw
     case rel => exact ⟨k + 1, by omega, by go_num, by rw [HT.out, ← List.append_assoc, HQ.out, ← List.append_assoc]; exact O8.out, B8.out⟩
     case measure => simp [intOf]; omega
    ·obtain rfl : k = c.ws.length := by omega
     rw [List.take_length] at hrow HR
     have L7 : (y6 ++ c.ws.flatMap M.encWr).length ≤ 9000 := by
      have := M.wrs_len c.ws (fun r hr => FW.out r hr)
      rw [List.length_append]; omega
     clear hv6 O6 B6 WW
     generalize hy : y6 ++ c.ws.flatMap M.encWr = y7 at hrow HR L7
     have Y7 := Lib.hid hy
     clear hy hrow hbw
     have HE := Lib.hid (show ∀ z, y7 ++ z = [1] ++ M.numsZ [c.k, c.tc, c.tn, c.tt, c.tk, c.sh, (c.rs.length : Int)] ++ c.rs.flatMap M.encRd ++ M.num c.ws.length ++ c.ws.flatMap M.encWr ++ z from fun z => by rw [← Y7.out, ← Y6.out, ← Y5.out, ← Y3.out])
     have HF := Lib.hid (show [1] ++ M.numsZ [c.k, c.tc, c.tn, c.tt, c.tk, c.sh, (c.rs.length : Int)] ++ c.rs.flatMap M.encRd ++ M.num c.ws.length ++ c.ws.flatMap M.encWr ++ M.flag c.cm = M.encC c by
      simp only [M.encC, M.numsZ_cons, M.numsZ_nil, M.numZ, Int.toNat_natCast, List.append_assoc, List.append_nil])
     have hsz := EB.out.size
     rcases two c.cm with e0 | e0
     ·have HG := Lib.hid (show M.flag c.cm = [UInt8.ofNat 1] by rw [e0]; rfl)
      go_wp2_with
       (at_builtin
        refine wpList_append_own_at _ rfl _ _ 22 rfl wB.heap.size 5 i0 (.int .u8 0) 1 1 Tryz.underlying22 hi hz0 hz1 hz2 rfl (by decide) _ _ _ rfl (HR.out.alloc _) ⟨wr.heap.size, 0, none⟩ 1 1 [.int .u8 1] rfl rfl (cell_one_new _ _ _) (by simp [Value.oneCell']) (by unfold maxLen; omega) (by omega) (by have := HB.out.size; simp; omega) ?_
        intro v' w3 hown3 hgrow3 hnil3 hat3
        have O3 := Lib.hid (Own.snoc (n := 1) (by omega) hown3)
        have B3 := Lib.hid ((Ext.made hgrow3 hat3).below (below_new HB.out) (by have := HB.out.size; simp; omega) (fun k e => (HR.out.lt e).1))
        clear hown3 hgrow3 hnil3 hat3)
      go_ret
      exact ⟨_, rfl, by have := O3.out; rw [← HG.out, HE.out, HF.out] at this; exact this.base hsz, below_on EB.out B3.out⟩
     ·have HG := Lib.hid (show M.flag c.cm = [UInt8.ofNat 0] by rw [e0]; rfl)
      go_wp2_with
       (at_builtin
        refine wpList_append_own_at _ rfl _ _ 22 rfl wB.heap.size 5 i0 (.int .u8 0) 1 1 Tryz.underlying22 hi hz0 hz1 hz2 rfl (by decide) _ _ _ rfl (HR.out.alloc _) ⟨wr.heap.size, 0, none⟩ 1 1 [.int .u8 0] rfl rfl (cell_one_new _ _ _) (by simp [Value.oneCell']) (by unfold maxLen; omega) (by omega) (by have := HB.out.size; simp; omega) ?_
        intro v' w3 hown3 hgrow3 hnil3 hat3
        have O3 := Lib.hid (Own.snoc (n := 0) (by omega) hown3)
        have B3 := Lib.hid ((Ext.made hgrow3 hat3).below (below_new HB.out) (by have := HB.out.size; simp; omega) (fun k e => (HR.out.lt e).1))
        clear hown3 hgrow3 hnil3 hat3)
      go_ret
      exact ⟨_, rfl, by have := O3.out; rw [← HG.out, HE.out, HF.out] at this; exact this.base hsz, below_on EB.out B3.out⟩
open Go.RowKit
def i64s (zs : List Int) : List Value := zs.map fun z => .int .i64 z
theorem ints_row {w : World} {base : Nat} {v : Value} {zs : List Int} (h : w.ownsRow base 3 1 v zs.length (i64s zs)) (h0 : 0 < zs.length) (hz : ∀ z ∈ zs, 0 ≤ z ∧ z ≤ 1099511627776) : ∃ g, Ints w v g (zs.map Int.toNat) := by
 rcases h.2 with ⟨_, e⟩ | ⟨g, cap, cur, rfl, hb, hg, hn, _⟩
 ·omega
 ·refine ⟨g, 0, cap, by simp, by simpa using hn, (Array.getElem?_eq_some_iff.1 hg).1, fun k hk => ?_⟩
  rw [List.length_map] at hk
  have e : (zs.map Int.toNat).getD k 0 = (zs[k]).toNat := by
   rw [List.getD, List.getElem?_map, List.getElem?_eq_getElem hk]; rfl
  have h1 := hz _ (List.getElem_mem hk)
  rw [e, Int.toNat_of_nonneg h1.1, Nat.zero_add, h.cellAt k (by omega)]
  unfold i64s
  rw [List.getElem?_map, List.getElem?_eq_getElem hk]; rfl
theorem refNumsR {w : World} {base : Nat} {v : Value} {zs : List Int} (h : w.ownsRow base 3 1 v zs.length (i64s zs)) (h0 : 0 < zs.length) (hz : ∀ z ∈ zs, 0 ≤ z ∧ z ≤ 1099511627776) (hl : zs.length ≤ 1000) : Calls Tryz.prog 88 #[v] w (Made8 (M.numsZ zs) w) := by
 obtain ⟨g, hi⟩ := ints_row h h0 hz
 rw [← M.numsZ_map]
 refine refNumbers_any hi ?_ (by simpa using hl)
 intro n hn
 rw [List.mem_map] at hn
 obtain ⟨z, hz', rfl⟩ := hn
 have := hz z hz'
 omega
theorem take_snocI (l : List Int) (k : Nat) (h : k < l.length) : l.take (k + 1) = l.take k ++ [l.getD k 0] := by
 rw [List.take_add_one, List.getD, List.getElem?_eq_getElem h]; rfl
theorem row_merge {w : World} {base : Nat} {v : Value} {l m : List Int} (h : w.ownsRow base 3 1 v (8 + 7) (i64s (l ++ m.take 7))) (hl : l.length = 8) (hm : m.length = 7) : w.ownsRow base 3 1 v (l ++ m).length (i64s (l ++ m)) := by
 rw [show (l ++ m).length = 8 + 7 by rw [List.length_append, hl, hm]]
 rw [List.take_of_length_le (by omega)] at h
 exact h
theorem dep_cell {w : World} {b : Nat} {r : M.Rec} {va vb : Value} (X : Cel w b [.int .i64 r.ir,.int .i64 r.is,.int .i64 r.st,.int .i64 r.pn,.int .i64 r.pr,.int .i64 r.bn,.int .i64 r.br,.int .i64 r.c.k,.int .i64 r.c.tc,.int .i64 r.c.tn,.int .i64 r.c.tt,.int .i64 r.c.tk,.int .i64 r.c.sh, va, vb,.bool r.c.cm,.int .i64 r.sq,.int .i64 r.d0,.int .i64 r.d1,.int .i64 r.d2,.int .i64 r.d3,.int .i64 r.d4,.int .i64 r.d5,.int .i64 r.d6,.bool r.kp]) (k : Nat) (hk : k < 7) : w.cell? ⟨b, 17 + k, none⟩ = some (.int .i64 ([r.d0, r.d1, r.d2, r.d3, r.d4, r.d5, r.d6].getD k 0)) := by
 match k, hk with
 | 0, _ => exact X.get 17 _ rfl
 | 1, _ => exact X.get 18 _ rfl
 | 2, _ => exact X.get 19 _ rfl
 | 3, _ => exact X.get 20 _ rfl
 | 4, _ => exact X.get 21 _ rfl
 | 5, _ => exact X.get 22 _ rfl
 | 6, _ => exact X.get 23 _ rfl
theorem lit8 (w : World) (zs : List Int) (h : zs.length ≤ 1000) : (w.alloc (.cells (i64s zs).toArray 3)).ownsRow w.heap.size 3 1 (.slice (some ⟨w.heap.size, 0, none⟩) zs.length zs.length) zs.length (i64s zs) :=
 ⟨by simp [i64s], .inr ⟨w.heap.size, zs.length, _, rfl, Nat.le_refl _, heap_alloc_new w _, Nat.le_refl _, by unfold maxLen; omega, by simp [i64s], by rw [Nat.mul_one, List.take_of_length_le (by simp [i64s])]⟩⟩
theorem refRecord_any {w : World} (r : M.Rec) {va vb : Value} (h : Rds w va r.c.rs) (h' : Wrs w vb r.c.ws) (F : M.FitsR r) : Calls Tryz.prog 64 #[.agg #[.int .i64 r.ir,.int .i64 r.is,.int .i64 r.st,.int .i64 r.pn,.int .i64 r.pr,.int .i64 r.bn,.int .i64 r.br,.int .i64 r.c.k,.int .i64 r.c.tc,.int .i64 r.c.tn,.int .i64 r.c.tt,.int .i64 r.c.tk,.int .i64 r.c.sh, va, vb,.bool r.c.cm,.int .i64 r.sq,.int .i64 r.d0,.int .i64 r.d1,.int .i64 r.d2,.int .i64 r.d3,.int .i64 r.d4,.int .i64 r.d5,.int .i64 r.d6,.bool r.kp]] w (Made8 (M.encR r) w) := by
 obtain ⟨i3, hi, hz0, hz1, hz2⟩ := info_parts info3
 obtain ⟨i0, gi, gz0, gz1, gz2⟩ := info_parts info5
 have RR := Lib.hid (h.push (.cells #[.int .i64 r.ir,.int .i64 r.is,.int .i64 r.st,.int .i64 r.pn,.int .i64 r.pr,.int .i64 r.bn,.int .i64 r.br,.int .i64 r.c.k,.int .i64 r.c.tc,.int .i64 r.c.tn,.int .i64 r.c.tt,.int .i64 r.c.tk,.int .i64 r.c.sh, va, vb,.bool r.c.cm,.int .i64 r.sq,.int .i64 r.d0,.int .i64 r.d1,.int .i64 r.d2,.int .i64 r.d3,.int .i64 r.d4,.int .i64 r.d5,.int .i64 r.d6,.bool r.kp] 67))
 have WW := Lib.hid (h'.push (.cells #[.int .i64 r.ir,.int .i64 r.is,.int .i64 r.st,.int .i64 r.pn,.int .i64 r.pr,.int .i64 r.bn,.int .i64 r.br,.int .i64 r.c.k,.int .i64 r.c.tc,.int .i64 r.c.tn,.int .i64 r.c.tt,.int .i64 r.c.tk,.int .i64 r.c.sh, va, vb,.bool r.c.cm,.int .i64 r.sq,.int .i64 r.d0,.int .i64 r.d1,.int .i64 r.d2,.int .i64 r.d3,.int .i64 r.d4,.int .i64 r.d5,.int .i64 r.d6,.bool r.kp] 67))
 have X0 := Lib.hid (Cel.new w [.int .i64 r.ir,.int .i64 r.is,.int .i64 r.st,.int .i64 r.pn,.int .i64 r.pr,.int .i64 r.bn,.int .i64 r.br,.int .i64 r.c.k,.int .i64 r.c.tc,.int .i64 r.c.tn,.int .i64 r.c.tt,.int .i64 r.c.tk,.int .i64 r.c.sh, va, vb,.bool r.c.cm,.int .i64 r.sq,.int .i64 r.d0,.int .i64 r.d1,.int .i64 r.d2,.int .i64 r.d3,.int .i64 r.d4,.int .i64 r.d5,.int .i64 r.d6,.bool r.kp] 67)
 have EB := Lib.hid (below_new (o := .cells #[.int .i64 r.ir,.int .i64 r.is,.int .i64 r.st,.int .i64 r.pn,.int .i64 r.pr,.int .i64 r.bn,.int .i64 r.br,.int .i64 r.c.k,.int .i64 r.c.tc,.int .i64 r.c.tn,.int .i64 r.c.tt,.int .i64 r.c.tk,.int .i64 r.c.sh, va, vb,.bool r.c.cm,.int .i64 r.sq,.int .i64 r.d0,.int .i64 r.d1,.int .i64 r.d2,.int .i64 r.d3,.int .i64 r.d4,.int .i64 r.d5,.int .i64 r.d6,.bool r.kp] 67) (Below.refl w.heap.size w))
 have O1 := Lib.hid (show ((w.alloc (.cells #[.int .i64 r.ir,.int .i64 r.is,.int .i64 r.st,.int .i64 r.pn,.int .i64 r.pr,.int .i64 r.bn,.int .i64 r.br,.int .i64 r.c.k,.int .i64 r.c.tc,.int .i64 r.c.tn,.int .i64 r.c.tt,.int .i64 r.c.tk,.int .i64 r.c.sh, va, vb,.bool r.c.cm,.int .i64 r.sq,.int .i64 r.d0,.int .i64 r.d1,.int .i64 r.d2,.int .i64 r.d3,.int .i64 r.d4,.int .i64 r.d5,.int .i64 r.d6,.bool r.kp] 67)).alloc (.cells #[.int .i64 r.ir,.int .i64 r.is,.int .i64 r.st,.int .i64 r.pn,.int .i64 r.pr,.int .i64 r.bn,.int .i64 r.br,.int .i64 r.sq] 3)).ownsRow (w.alloc (.cells #[.int .i64 r.ir,.int .i64 r.is,.int .i64 r.st,.int .i64 r.pn,.int .i64 r.pr,.int .i64 r.bn,.int .i64 r.br,.int .i64 r.c.k,.int .i64 r.c.tc,.int .i64 r.c.tn,.int .i64 r.c.tt,.int .i64 r.c.tk,.int .i64 r.c.sh, va, vb,.bool r.c.cm,.int .i64 r.sq,.int .i64 r.d0,.int .i64 r.d1,.int .i64 r.d2,.int .i64 r.d3,.int .i64 r.d4,.int .i64 r.d5,.int .i64 r.d6,.bool r.kp] 67)).heap.size 3 1 (.slice (some ⟨w.heap.size + 1, 0, none⟩) 8 8) 8 (i64s [r.ir, r.is, r.st, r.pn, r.pr, r.bn, r.br, r.sq]) from by
  have := lit8 (w.alloc (.cells #[.int .i64 r.ir,.int .i64 r.is,.int .i64 r.st,.int .i64 r.pn,.int .i64 r.pr,.int .i64 r.bn,.int .i64 r.br,.int .i64 r.c.k,.int .i64 r.c.tc,.int .i64 r.c.tn,.int .i64 r.c.tt,.int .i64 r.c.tk,.int .i64 r.c.sh, va, vb,.bool r.c.cm,.int .i64 r.sq,.int .i64 r.d0,.int .i64 r.d1,.int .i64 r.d2,.int .i64 r.d3,.int .i64 r.d4,.int .i64 r.d5,.int .i64 r.d6,.bool r.kp] 67)) [r.ir, r.is, r.st, r.pn, r.pr, r.bn, r.br, r.sq] (by simp)
  simpa [i64s] using this)
 have B1 := Lib.hid (below_new (o := .cells #[.int .i64 r.ir,.int .i64 r.is,.int .i64 r.st,.int .i64 r.pn,.int .i64 r.pr,.int .i64 r.bn,.int .i64 r.br,.int .i64 r.sq] 3) (Below.refl (w.alloc (.cells #[.int .i64 r.ir,.int .i64 r.is,.int .i64 r.st,.int .i64 r.pn,.int .i64 r.pr,.int .i64 r.bn,.int .i64 r.br,.int .i64 r.c.k,.int .i64 r.c.tc,.int .i64 r.c.tn,.int .i64 r.c.tt,.int .i64 r.c.tk,.int .i64 r.c.sh, va, vb,.bool r.c.cm,.int .i64 r.sq,.int .i64 r.d0,.int .i64 r.d1,.int .i64 r.d2,.int .i64 r.d3,.int .i64 r.d4,.int .i64 r.d5,.int .i64 r.d6,.bool r.kp] 67)).heap.size (w.alloc (.cells #[.int .i64 r.ir,.int .i64 r.is,.int .i64 r.st,.int .i64 r.pn,.int .i64 r.pr,.int .i64 r.bn,.int .i64 r.br,.int .i64 r.c.k,.int .i64 r.c.tc,.int .i64 r.c.tn,.int .i64 r.c.tt,.int .i64 r.c.tk,.int .i64 r.c.sh, va, vb,.bool r.c.cm,.int .i64 r.sq,.int .i64 r.d0,.int .i64 r.d1,.int .i64 r.d2,.int .i64 r.d3,.int .i64 r.d4,.int .i64 r.d5,.int .i64 r.d6,.bool r.kp] 67))))
 have HZ := Lib.hid (show ∀ z ∈ [r.ir, r.is, r.st, r.pn, r.pr, r.bn, r.br, r.sq] ++ [r.d0, r.d1, r.d2, r.d3, r.d4, r.d5, r.d6], 0 ≤ z ∧ z ≤ 1099511627776 from by
  intro z hz
  simp only [List.mem_append, List.mem_cons, List.not_mem_nil, or_false] at hz
  rcases hz with (rfl | rfl | rfl | rfl | rfl | rfl | rfl | rfl) | (rfl | rfl | rfl | rfl | rfl | rfl | rfl)
  ·exact F.ir
  ·exact F.is
  ·exact F.st
  ·exact F.pn
  ·exact F.pr
  ·exact F.bn
  ·exact F.br
  ·exact F.sq
  ·exact F.d0
  ·exact F.d1
  ·exact F.d2
  ·exact F.d3
  ·exact F.d4
  ·exact F.d5
  ·exact F.d6)
 clear h h'
 go_enter Tryz.func64, Tryz.ntmps64
 go_wp2
 generalize (w.alloc (.cells #[.int .i64 r.ir,.int .i64 r.is,.int .i64 r.st,.int .i64 r.pn,.int .i64 r.pr,.int .i64 r.bn,.int .i64 r.br,.int .i64 r.c.k,.int .i64 r.c.tc,.int .i64 r.c.tn,.int .i64 r.c.tt,.int .i64 r.c.tk,.int .i64 r.c.sh, va, vb,.bool r.c.cm,.int .i64 r.sq,.int .i64 r.d0,.int .i64 r.d1,.int .i64 r.d2,.int .i64 r.d3,.int .i64 r.d4,.int .i64 r.d5,.int .i64 r.d6,.bool r.kp] 67)) = wB at *
 obtain ⟨L8, hL8⟩ : ∃ L8, L8 = [r.ir, r.is, r.st, r.pn, r.pr, r.bn, r.br, r.sq] := ⟨_, rfl⟩
 obtain ⟨D7, hD7⟩ : ∃ D7, D7 = [r.d0, r.d1, r.d2, r.d3, r.d4, r.d5, r.d6] := ⟨_, rfl⟩
 have hd7 : D7.length = 7 := by rw [hD7]; rfl
 have hl8 : L8.length = 8 := by rw [hL8]; rfl
 rw [← hL8] at O1 HZ
 rw [← hD7] at HZ
 have HC := Lib.hid (show ∀ w' k, Below wB.heap.size wB w' → k < 7 → w'.cell? ⟨w.heap.size, 17 + k, none⟩ = some (.int .i64 (D7.getD k 0)) from fun w' k hb hk => by rw [hD7]; exact dep_cell (X0.out.on hb) k hk)
 have H8 := Lib.hid hL8
 have HD := Lib.hid hD7
 have HN7 := Lib.hid hd7
 have HN8 := Lib.hid hl8
 clear hL8 hD7 hd7 hl8
 go_loopw [3, 4] (fun y i wr => ∃ k : Nat, k ≤ 7 ∧ i = .int .i64 k ∧ wr.ownsRow wB.heap.size 3 1 y (8 + k) (i64s (L8 ++ D7.take k)) ∧ Below wB.heap.size wB wr) (fun _ i _ => 7 - (intOf i).toNat)
 case atStart => exact ⟨0, Nat.zero_le _, rfl, by simpa using O1.out, B1.out⟩
 case round =>
  obtain ⟨k, hk, rfl, hrow, hbw⟩ := hrel
  obtain ⟨wr, hwr, hrow, hbw⟩ : ∃ wr' : World, wr' = _ ∧ wr'.ownsRow wB.heap.size 3 1 _ (8 + k) _ ∧ Below wB.heap.size wB wr' := ⟨_, rfl, hrow, hbw⟩
  subst hwr
  have HR := Lib.hid hrow
  have HB := Lib.hid hbw
  by_cases hlt : k < 7
  ·have hc1 := HC.out wr k hbw hlt
   have HT := Lib.hid (take_snocI D7 k (by rw [HN7.out]; exact hlt))
   have hsz := hbw.size
   clear hrow hbw
   generalize D7.getD k 0 = d at *
   have hi1 : (k : Int) < 7 := by omega
   go_wp2_with
    (at_builtin
     refine wpList_append_own_at _ rfl _ _ 84 rfl wB.heap.size 3 i3 (.int .i64 0) 1 8 Tryz.underlying84 hi hz0 hz1 hz2 rfl (by decide) _ _ _ rfl (HR.out.alloc _) ⟨wr.heap.size, 0, none⟩ 1 1 [.int .i64 d] rfl rfl (cell_one_new _ _ _) (by simp [Value.oneCell']) (by unfold maxLen; omega) (by omega) (by simp; omega) ?_
     intro v' w3 hown3 hgrow3 hnil3 hat3
     have O3 := Lib.hid hown3
     have B3 := Lib.hid ((Ext.made hgrow3 hat3).below (below_new HB.out) (by simp; omega) (fun k e => (World.ownsRow.lt HR.out k e).1))
     clear hown3 hgrow3 hnil3 hat3)
   go_roundw
   case rel => exact ⟨k + 1, by omega, by go_num, by rw [HT.out]; have := O3.out; simpa [i64s, Nat.add_assoc] using this, B3.out⟩
   case measure => simp [intOf]; omega
  ·obtain rfl : k = 7 := by omega
   have hz := HZ.out
   have hrow2 := row_merge hrow HN8.out HN7.out
   have hlen : (L8 ++ D7).length = 15 := by rw [List.length_append, HN8.out, HN7.out]
   have HR2 := Lib.hid hrow2
   have HLN := Lib.hid hlen
   have HOne := Lib.hid (Own.one wr 2 (by omega))
   have hn := M.numsZ_len (L8 ++ D7)
   rw [hlen] at hn
   clear hrow2 hlen hrow HR hz
   have hsz := hbw.size
   go_wp2_with (fail)
   refine (refNumsR (HR2.out.alloc _) (by rw [HLN.out]; omega) HZ.out (by rw [HLN.out]; omega)).mono ?_
   rintro e w4 ⟨v4, rfl, ho2, hb2⟩
   obtain ⟨v5, w5, hr, ho3, hb3⟩ := put_new (w := wB) (HOne.out.base hsz) (below_new HB.out) ho2 hb2 (by simp; omega)
   have O5 := Lib.hid ho3
   have B5 := Lib.hid hb3
   have X5 := X0.out.on hb3
   have p24 := X5.get 24 _ rfl
   have L5 : ([UInt8.ofNat 2] ++ M.numsZ (L8 ++ D7)).length ≤ 200 := by simp; omega
   have HCL := Lib.hid (show (M.encC r.c).length ≤ 7000 from by
    have h1 := M.numsZ_len [r.c.k, r.c.tc, r.c.tn]
    have h2 := M.numsZ_len [r.c.tt, r.c.tk, r.c.sh]
    have h3 := M.numsZ_len [(r.c.rs.length : Int)]
    have h4 := M.numsZ_len [(r.c.ws.length : Int)]
    have h5 := M.rds_len r.c.rs (fun x hx => (F.c.rs x hx).1)
    have h6 := M.wrs_len r.c.ws F.c.ws
    have h7 := M.flag_len r.c.cm
    have h8 := F.c.rl
    have h9 := F.c.wl
    simp only [M.encC, List.length_append, List.length_cons, List.length_nil] at *
    omega)
   have HE := Lib.hid (show [UInt8.ofNat 2] ++ M.numsZ (L8 ++ D7) ++ M.flag r.kp ++ M.encC r.c = M.encR r by
    rw [H8.out, HD.out]
    simp only [M.encR, M.numsZ_cons, M.numsZ_nil, List.append_assoc, List.append_nil, List.cons_append, List.nil_append]
    rfl)
   clear ho2 hb2 ho3 hb3 X5 HR2 HB HOne HC hn
   generalize hy : [UInt8.ofNat 2] ++ M.numsZ (L8 ++ D7) = y5 at O5 L5
   rw [hy] at HE
   clear hy
   rcases two r.kp with e0 | e0
   ·have HG := Lib.hid (show M.flag r.kp = [UInt8.ofNat 1] by rw [e0]; rfl)
    go_wp2_with
     (first
      | (at_builtin; refine Lib.wpList_append_run _ rfl _ _ _ _ rfl _ _ rfl rfl _ _ hr9 ?_)
      | (at_builtin; refine Lib.wpList_append_run _ rfl _ _ _ _ rfl _ _ rfl rfl _ _ hr ?_)
      | (at_builtin
         refine wpList_append_own_at _ rfl _ _ 22 rfl wB.heap.size 5 i0 (.int .u8 0) 1 1 Tryz.underlying22 gi gz0 gz1 gz2 rfl (by decide) _ _ _ rfl (O5.out.alloc _) ⟨w5.heap.size, 0, none⟩ 1 1 [.int .u8 1] rfl rfl (cell_one_new _ _ _) (by simp [Value.oneCell']) (by unfold maxLen; omega) (by omega) (by have := B5.out.size; simp; omega) ?_
         intro v6 w6 hown3 hgrow3 hnil3 hat3
         have O6 := Lib.hid (Own.snoc (n := 1) (by omega) hown3)
         have B6 := Lib.hid ((Ext.made hgrow3 hat3).below (below_new B5.out) (by have := B5.out.size; simp; omega) (fun k e => (O5.out.lt e).1))
         clear hown3 hgrow3 hnil3 hat3
         have X6 := X0.out.on B6.out
         have p7 := X6.get 7 _ rfl
         have p8 := X6.get 8 _ rfl
         have p9 := X6.get 9 _ rfl
         have p10 := X6.get 10 _ rfl
         have p11 := X6.get 11 _ rfl
         have p12 := X6.get 12 _ rfl
         have p13 := X6.get 13 _ rfl
         have p14 := X6.get 14 _ rfl
         have p15 := X6.get 15 _ rfl
         clear X6)
      | (go_at_call 89
         refine (refCommand_any r.c (RR.out.below B6.out) (WW.out.below B6.out) F.c).mono ?_
         rintro e w8 ⟨v8, rfl, ho2, hb2⟩
         obtain ⟨v9, w9, hr9, ho3, hb3⟩ := put_new O6.out B6.out ho2 hb2 (by have := HCL.out; simp; omega)
         have O9 := Lib.hid ho3
         have B9 := Lib.hid hb3
         clear ho2 hb2 ho3 hb3))
    go_ret
    exact ⟨_, rfl, by have := O9.out; rw [← HG.out, HE.out] at this; exact this.base EB.out.size, below_on EB.out B9.out⟩
   ·have HG := Lib.hid (show M.flag r.kp = [UInt8.ofNat 0] by rw [e0]; rfl)
    go_wp2_with
     (first
      | (at_builtin; refine Lib.wpList_append_run _ rfl _ _ _ _ rfl _ _ rfl rfl _ _ hr9 ?_)
      | (at_builtin; refine Lib.wpList_append_run _ rfl _ _ _ _ rfl _ _ rfl rfl _ _ hr ?_)
      | (at_builtin
         refine wpList_append_own_at _ rfl _ _ 22 rfl wB.heap.size 5 i0 (.int .u8 0) 1 1 Tryz.underlying22 gi gz0 gz1 gz2 rfl (by decide) _ _ _ rfl (O5.out.alloc _) ⟨w5.heap.size, 0, none⟩ 1 1 [.int .u8 0] rfl rfl (cell_one_new _ _ _) (by simp [Value.oneCell']) (by unfold maxLen; omega) (by omega) (by have := B5.out.size; simp; omega) ?_
         intro v6 w6 hown3 hgrow3 hnil3 hat3
         have O6 := Lib.hid (Own.snoc (n := 0) (by omega) hown3)
         have B6 := Lib.hid ((Ext.made hgrow3 hat3).below (below_new B5.out) (by have := B5.out.size; simp; omega) (fun k e => (O5.out.lt e).1))
         clear hown3 hgrow3 hnil3 hat3
         have X6 := X0.out.on B6.out
         have p7 := X6.get 7 _ rfl
         have p8 := X6.get 8 _ rfl
         have p9 := X6.get 9 _ rfl
         have p10 := X6.get 10 _ rfl
         have p11 := X6.get 11 _ rfl
         have p12 := X6.get 12 _ rfl
         have p13 := X6.get 13 _ rfl
         have p14 := X6.get 14 _ rfl
         have p15 := X6.get 15 _ rfl
         clear X6)
      | (go_at_call 89
         refine (refCommand_any r.c (RR.out.below B6.out) (WW.out.below B6.out) F.c).mono ?_
         rintro e w8 ⟨v8, rfl, ho2, hb2⟩
         obtain ⟨v9, w9, hr9, ho3, hb3⟩ := put_new O6.out B6.out ho2 hb2 (by have := HCL.out; simp; omega)
         have O9 := Lib.hid ho3
         have B9 := Lib.hid hb3
         clear ho2 hb2 ho3 hb3))
    go_ret
    exact ⟨_, rfl, by have := O9.out; rw [← HG.out, HE.out] at this; exact this.base EB.out.size, below_on EB.out B9.out⟩
end Go.Proofs.YtdachohcjpjblaaGreatDoor.Wi
