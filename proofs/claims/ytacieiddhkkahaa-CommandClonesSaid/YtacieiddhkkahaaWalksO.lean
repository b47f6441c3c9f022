/- Contract of the document's Join; no conditions but the lengths that it names. -/
import Derived.Test.YtacieiddhkkahaaWalksN
import Derived.Deep.RegionLaw
namespace Go.Proofs.Ytacieiddhkkahaa
open Go.ChangeShapes Go.WideShapes Go.ChangeAt Go.RowKit

/-- append, whose run is known, as one step of a region that draws. -/
theorem step_append_run {P : Program} {ops : Array Oper} {o : Oper} {a : Act} {w : World} {K : Act → World → Prop} {Q : Exit → Act → World → Prop} {E : Prop}
    (hg : o.guard = none) (s x : Operand) (t tn : TypeId) (hop : o.op = Op.call { callee := Callee.builtin Builtin.append, args := #[s, x], argTypes := #[t, tn] })
    (vs vx : Value) (hs : a.eval s = vs) (hx : a.eval x = vx) (v' : Value) (w' : World) (hr : (Builtin.append_ #[t, tn] o.type #[vs, vx]).run P w = .ok v' w')
    (hK : K (a.put o.dst v') w') : if Region.wanted o (yielded ops a.tmps) = true then Oper.wp P o a w K Q else E := by
  have hw : Region.wanted o (yielded ops a.tmps) = true := by simp [Region.wanted, hg]
  rw [if_pos hw]
  unfold Oper.wp
  simp [execOp, hop, resolve, invoke, builtin, hs, hx, hr, Result.andThen]
  exact hK

namespace M
/-- What stands ahead of a text, and what behind. -/
def allLt (l : List (List UInt8)) (x : List UInt8) : Prop := ∀ y ∈ l, ltB y x = true
theorem allLt_succ {l : List (List UInt8)} {j : Nat} {x : List UInt8} (hj : j < l.length) (h : allLt (l.take j) x) (hx : ltB (l.getD j []) x = true) : allLt (l.take (j + 1)) x := by
  intro y hy
  rw [take_succ hj, List.mem_append, List.mem_singleton] at hy
  rcases hy with hy | rfl
  · exact h y hy
  · exact hx
theorem while_of : ∀ (l : List (List UInt8)) (j : Nat) (x : List UInt8), j ≤ l.length → allLt (l.take j) x → (j < l.length → ltB (l.getD j []) x = false) → l.takeWhile (ltB · x) = l.take j ∧ l.dropWhile (ltB · x) = l.drop j
  | [], j, x, hj, _, _ => by simp
  | y :: l, 0, x, _, _, h => by
    have := h (by simp)
    simp at this
    simp [this]
  | y :: l, j + 1, x, hj, ha, h => by
    have hy : ltB y x = true := ha y (by simp)
    have ih := while_of l j x (by simpa using hj) (fun z hz => ha z (by simp [hz])) (fun hl => by have := h (by simpa using hl); simpa using this)
    simp [hy, ih.1, ih.2]
theorem ins_at {l : List (List UInt8)} {j : Nat} {x : List UInt8} (hn : inB l x = false) (hj : j ≤ l.length) (ha : allLt (l.take j) x) (h : j < l.length → ltB (l.getD j []) x = false) : ins l x = l.take j ++ [x] ++ l.drop j := by
  obtain ⟨h1, h2⟩ := while_of l j x hj ha h
  unfold ins
  rw [hn, h1, h2]
  simp
theorem ins_in {l : List (List UInt8)} {x : List UInt8} (hn : inB l x = true) : ins l x = l := by unfold ins; rw [hn]; rfl
/-- Put in one by one. -/
def put (l : List (List UInt8)) (k : Nat) : List (List UInt8) := (l.take k).foldl ins []
theorem put_succ {l : List (List UInt8)} {k : Nat} (hk : k < l.length) : put l (k + 1) = ins (put l k) (l.getD k []) := by
  unfold put; rw [take_succ hk, List.foldl_append]; rfl
theorem put_len (l : List (List UInt8)) (k : Nat) : (put l k).length ≤ k := by
  have := foldl_ins_len (l.take k) []
  rw [List.length_take] at this
  unfold put; simp at this; omega
theorem put_mem (l : List (List UInt8)) (k : Nat) : ∀ x ∈ put l k, x ∈ l := fun x hx => by
  have := (foldl_ins (l.take k) [] List.Pairwise.nil).2 x
  unfold put at hx
  rw [this] at hx
  rcases hx with hx | hx
  · simp at hx
  · exact List.mem_of_mem_take hx
end M

theorem own_empty (w : World) {base : Nat} (h : base ≤ w.heap.size) : (w.alloc (.cells #[] 9)).ownsRow base 9 1 (.slice (some ⟨w.heap.size, 0, none⟩) 0 0) 0 [] := by
  have := World.ownsRow_lit (base := base) (e := 9) (size := 1) w #[] 0 h (Nat.zero_le _) rfl
  simpa using this

theorem Drawn.own {w w' : World} {base : Nat} {v : Value} {n : Nat} {xs : List Value} (h : Drawn w w') (ho : w.ownsRow base 9 1 v n xs) : w'.ownsRow base 9 1 v n xs := by
  obtain ⟨m, rfl⟩ := h; exact ho
theorem own_front {w : World} {base g n c : Nat} {xs : List Value} {j : Nat} (h : w.ownsRow base 9 1 (.slice (some ⟨g, 0, none⟩) n c) n xs) (hj : j ≤ n) : w.ownsRow base 9 1 (.slice (some ⟨g, 0, none⟩) j c) j (xs.take j) := by
  obtain ⟨hl, h2⟩ := h
  rcases h2 with ⟨h0, _⟩ | ⟨g', cap, cur, hv, hb, hg, hn, hm, hs, ht⟩
  · cases h0
  · cases hv
    refine ⟨by simp; omega, .inr ⟨g, c, cur, rfl, hb, hg, by omega, hm, hs, ?_⟩⟩
    rw [← ht, List.take_take, show min j (n * 1) = j * 1 by omega]
theorem own_back {w : World} {base g n c : Nat} {xs : List Value} {j : Nat} (h : w.ownsRow base 9 1 (.slice (some ⟨g, 0, none⟩) n c) n xs) (hj : j ≤ n) : Row w (.slice (some ⟨g, j, none⟩) (n - j) (c - j)) (xs.drop j) := by
  have hx : xs.length = n := by have := h.1; omega
  have hnc : n ≤ c := by
    rcases h.2 with ⟨h0, _⟩ | ⟨g', cap, cur, hv, hb, hg, hn, _⟩
    · cases h0
    · cases hv; exact hn
  refine ⟨some ⟨g, j, none⟩, c - j, by rw [List.length_drop, hx], by rw [List.length_drop]; omega, fun _ => ⟨g, j, rfl, (h.lt g rfl).2, fun k x hk => ?_⟩⟩
  rw [List.getElem?_drop] at hk
  have hlt : j + k < n := by have := (List.getElem?_eq_some_iff.1 hk).1; omega
  rw [h.cellAt (j + k) (by omega)]
  exact hk
theorem row_zero {w : World} {A : Option Addr} {j : Nat} {xs : List Value} (hj : xs.length ≤ j) : Row w (.slice A 0 0) (xs.drop j) :=
  ⟨A, 0, by rw [List.length_drop, show xs.length - j = 0 by omega], by rw [List.length_drop]; omega, fun h => absurd h (by rw [List.length_drop]; omega)⟩
theorem row_one (w : World) (x : List UInt8) : Row (w.alloc (.cells #[.string ⟨x.toArray⟩] 9)) (.slice (some ⟨w.heap.size, 0, none⟩) 1 1) ([x].map encStr) :=
  ⟨some ⟨w.heap.size, 0, none⟩, 1, rfl, Nat.le_refl _, fun _ => ⟨w.heap.size, 0, rfl, by simp, fun k y hk => by
    have := cell_one_new w (.string ⟨x.toArray⟩) 9 k y hk
    rw [add_plain] at this
    exact this⟩⟩

set_option maxHeartbeats 4000000 in
set_option maxRecDepth 100000 in
theorem djoin_any {w : World} {v u : Value} {ss ts : List (List UInt8)} (h : Words w v ss) (h' : Words w u ts) (hl : ss.length ≤ 400) (hl' : ts.length ≤ 400) (hs : ∀ x ∈ ss, x.length ≤ 1000) (hs' : ∀ x ∈ ts, x.length ≤ 1000) :
    Calls Try.prog 20 #[v, u] w (Made (M.djoin ss ts) w) := by
  have HL := Lib.hid (show ∀ x ∈ ss ++ ts, x.length ≤ 1000 from fun x hx => by
    rcases List.mem_append.1 hx with hx | hx
    · exact hs x hx
    · exact hs' x hx)
  have HD := Lib.hid (show M.djoin ss ts = M.put (ss ++ ts) (ss ++ ts).length by unfold M.djoin M.put; rw [List.take_length])
  have hln : (ss ++ ts).length ≤ 800 := by rw [List.length_append]; omega
  have b0 : Below w.heap.size w (w.alloc (.cells #[] 9)) := (Below.refl _ w).alloc (Nat.le_refl _) _
  have o0 := own_empty w (Nat.le_refl w.heap.size)
  obtain ⟨v1, w1, r1, o1, g1⟩ := append_row o0 (h.below b0) (one_str ss) (by rw [List.length_map]; omega) (by simp)
  have b1 := b0.grown g1 (by simp) (fun k hk => (o0.lt k hk).1)
  obtain ⟨v2, w2, r2, o2, g2⟩ := append_row o1 (h'.below b1) (one_str ts) (by rw [List.length_map, List.length_map]; omega) b1.size
  have b2 := b1.grown g2 b1.size (fun k hk => (o1.lt k hk).1)
  rw [List.length_map, List.length_map, Nat.zero_add, List.nil_append, ← List.map_append, ← List.length_append] at o2
  have HW := Lib.hid (Made.words o2)
  have HB := Lib.hid b2
  clear o0 o1 g1 b1 g2 b2 b0 h h' hs hs' o2
  generalize ss ++ ts = l at *
  obtain ⟨A, c, rfl, hc, hx⟩ := HW.out.opened
  have HX := Lib.hid hx
  clear hx HW
  go_enter Try.func20, Try.ntmps20
  go_wp2_with (first
    | (at_builtin; refine Lib.wpList_append_run _ rfl (.tmp 10) (.tmp 11) _ _ rfl _ _ rfl rfl _ _ r1 ?_)
    | (at_builtin; refine Lib.wpList_append_run _ rfl (.tmp 12) (.tmp 13) _ _ rfl _ _ rfl rfl _ _ r2 ?_))
  clear r1 r2
  go_loopw [5, 7] (fun x i wr => ∃ k : Nat, k ≤ l.length ∧ i = .int .i64 k ∧ wr.ownsRow w2.heap.size 9 1 x (M.put l k).length ((M.put l k).map encStr) ∧ Below w2.heap.size w2 wr) (fun _ i _ => l.length - (intOf i).toNat)
  case atStart => exact ⟨0, Nat.zero_le _, rfl, World.ownsRow_nil _ _ _ _, Below.refl _ _⟩
  case round =>
    obtain ⟨k, hk, rfl, hrow, hbw⟩ := hrel
    have hpl := M.put_len l k
    by_cases hlt : k < l.length
    · obtain ⟨b, o, rfl, hb, hy⟩ := HX.out (by omega)
      have hcell := (hbw.cell (p := ⟨b, o + k, none⟩) hb).trans (hy k hlt)
      obtain ⟨x, hxk⟩ : ∃ x, x = l.getD k [] := ⟨_, rfl⟩
      rw [← hxk] at hcell
      have hx1 : x.length ≤ 1000 := by rw [hxk]; exact HL.out _ (M.getD_mem hlt)
      have HN := Lib.hid (show M.put l (k + 1) = M.ins (M.put l k) x by rw [M.put_succ hlt, hxk])
      have HP := Lib.hid (show ∀ y ∈ M.put l k, y.length ≤ 1000 from fun y hy => HL.out _ (M.put_mem l k y hy))
      have HR := Lib.hid hrow
      have HBw := Lib.hid hbw
      have HIn := Lib.hid (in_any x (Made.words hrow) (by omega))
      have hbz := hbw.size
      clear hy hxk hrow hbw
      generalize M.put l k = O at *
      rcases two (M.inB O x) with e | e
      · have HI := Lib.hid (M.ins_in e)
        go_wp2_with (go_at_call 40; refine HIn.out.mono ?_; rintro e w' ⟨rfl, rfl⟩)
        go_roundw
        case rel => exact ⟨k + 1, by omega, by go_num, by rw [HN.out, HI.out]; exact HR.out, HBw.out⟩
        case measure => simp [intOf]; omega
      · have HE := Lib.hid e
        go_wp2_with (go_at_call 40; refine HIn.out.mono ?_; rintro e w' ⟨rfl, rfl⟩)
        clear HIn
        clear e
        rcases HR.out.2 with ⟨hv1, hn0⟩ | ⟨g, c1, cur, hv1, hbase, hblk, hnc, hcm, hcs, htk⟩
        · have hn1 : O.length ≤ 0 := by omega
          clear hn0
          have HO := Lib.hid (show O = [] from List.length_eq_zero_iff.1 (by omega))
          subst hv1
          obtain ⟨w3, hw3⟩ : ∃ w3 : World, w3 = wr := ⟨_, rfl⟩
          rw [← hw3] at hcell HR HBw hbz
          have HW3 := Lib.hid hw3
          clear hw3
          have i1 : (k : Int) < (l.length : Int) := by omega
          go_loopw [8] (fun i wr => i = .int .i64 0 ∧ Drawn w3 wr) (fun _ _ => 0)
          case atStart => exact ⟨rfl, by rw [HW3.out]; exact Drawn.refl _⟩
          case round =>
            clear HW3
            obtain ⟨rfl, hd⟩ := hrel
            have HDr := Lib.hid hd
            have hcellx := (hd.cell ⟨b, o + k, none⟩).trans hcell
            have HI := Lib.hid (M.ins_at (j := 0) HE.out (Nat.zero_le _) (fun y hy => by simp at hy) (fun h => absurd h (by omega)))
            clear hd hcell
            go_wp2
            go_quiet (fail)
            have HD4 := Lib.hid (HDr.out.on nq)
            have hcx4 : (wr.drewN nq).cell? ⟨b, o + k, none⟩ = some (.string ⟨x.toArray⟩) := hcellx
            clear hcellx
            have hcellx := hcx4
            clear hcx4 HDr
            generalize wr.drewN nq = w4 at *
            have R4 := HD4.out.own HR.out
            have B4 := HBw.out.trans ((HD4.out.below).mono hbz)
            have s4 : w2.heap.size ≤ w4.heap.size := B4.size
            have s34 : w3.heap.size ≤ w4.heap.size := HD4.out.below.size
            have o5 := own_empty w4 (Nat.le_refl w4.heap.size)
            have b5 : Below w4.heap.size w4 (w4.alloc (.cells #[] 9)) := (Below.refl _ w4).alloc (Nat.le_refl _) _
            obtain ⟨vr, w5, r5, own5, g5⟩ := append_row o5 (u := .slice none 0 0) (news := (O.map encStr).drop 0) (Row.below (by rw [HO.out]; exact ⟨none, 0, rfl, Nat.le_refl _, fun h => absurd h (by simp)⟩) b5) (fun y hy => one_str O y (List.mem_of_mem_drop hy)) (by simp <;> omega) (by simp)
            have B5 := b5.grown g5 (by simp) (fun i hi => (o5.lt i hi).1)
            rw [Nat.zero_add, List.nil_append] at own5
            have s5 : w4.heap.size ≤ w5.heap.size := B5.size
            have own5' := own5
            have F5 : w5.ownsRow w2.heap.size 9 1 (.slice none 0 0) 0 ((O.map encStr).take 0) := by
              simpa using World.ownsRow_nil w5 _ _ _
            have c5 := (B5.cell (p := ⟨b, o + k, none⟩) (by have := hb; show b < _; omega)).trans hcellx
            obtain ⟨v6, w6, r6, own6, g6⟩ := append_row (w := (w5.alloc (.cells #[.string ⟨x.toArray⟩] 9)).drew) (F5.alloc (.cells #[.string ⟨x.toArray⟩] 9)).drew (u := .slice (some ⟨w5.heap.size, 0, none⟩) 1 1) (news := [x].map encStr) (row_one w5 x) (one_str [x]) (by simp <;> omega) (by simp <;> omega)
            have k6 : w6.ownsRow w4.heap.size 9 1 vr ((O.map encStr).drop 0).length ((O.map encStr).drop 0) := ((own5.alloc (.cells #[.string ⟨x.toArray⟩] 9)).drew).kept g6 (by cases hq : vr.ownBlock with | none => exact .inl rfl | some q => exact .inr (by simp [Value.ownBlock]))
            have s6 : w5.heap.size + 1 ≤ w6.heap.size := by have := g6.size; simpa using this
            obtain ⟨v7, w7, r7, own7, g7⟩ := append_row own6 (Row.of_owns k6) (fun y hy => one_str O y (List.mem_of_mem_drop hy)) (by simp <;> omega) (by omega)
            have B7 : Below w2.heap.size w2 w7 := (((B4.trans (B5.mono s4)).alloc (by omega) _).drew.grown g6 (by simp <;> omega) (fun i hi => ((F5.alloc (.cells #[.string ⟨x.toArray⟩] 9)).lt i hi).1)).grown g7 (by omega) (fun i hi => (own6.lt i hi).1)
            have E7 : w7.ownsRow w2.heap.size 9 1 v7 (M.put l (k + 1)).length ((M.put l (k + 1)).map encStr) := by
              rw [HN.out, HI.out]
              simp only [List.map_append, List.length_append, List.length_take, List.length_drop, List.map_take, List.map_drop]
              have e1 : min 0 O.length = 0 := by omega
              rw [e1]
              simpa using own7
            have H7 := Lib.hid E7
            have H8 := Lib.hid B7
            clear R4 B4 o5 b5 own5 g5 B5 own5' F5 own6 g6 k6 own7 g7 B7 E7 HI
            go_wp2_with (at_builtin; refine Lib.wpList_append_run _ rfl (.tmp 44) (.tmp 47) _ _ rfl _ _ rfl rfl _ _ r5 ?_)
            go_region_law (first
              | refine step_append_run rfl (.tmp 51) (.tmp 56) 44 44 rfl _ _ (by simp [Act.eval]) (by simp [Act.eval]) _ _ r6 ?_
              | refine step_append_run rfl (.tmp 57) (.tmp 58) 44 44 rfl _ _ (by simp [Act.eval]) (by simp [Act.eval]) _ _ r7 ?_)
            all_goals
              go_wp2
              go_roundw
              case rel => exact ⟨k + 1, by omega, by go_num, H7.out, H8.out⟩
              case measure => simp [intOf]; omega
        subst hv1
        have hgw := (Array.getElem?_eq_some_iff.1 hblk).1
        have HX2 := Lib.hid (show ∀ i, i < O.length → wr.cell? ⟨g, i, none⟩ = some (.string ⟨(O.getD i []).toArray⟩) from fun i hi => by rw [HR.out.cellAt i (by omega), List.getElem?_map, List.getD, List.getElem?_eq_getElem hi]; rfl)
        clear hblk hcs htk
        obtain ⟨w3, hw3⟩ : ∃ w3 : World, w3 = wr := ⟨_, rfl⟩
        rw [← hw3] at hcell HR HBw hbz HX2 hgw
        have HW3 := Lib.hid hw3
        clear hw3
        go_loopw [8] (fun i wr => ∃ j : Nat, j ≤ O.length ∧ i = .int .i64 j ∧ Drawn w3 wr ∧ M.allLt (O.take j) x) (fun i _ => O.length - (intOf i).toNat)
        case atStart => exact ⟨0, Nat.zero_le _, rfl, by rw [HW3.out]; exact Drawn.refl _, fun y hy => by simp at hy⟩
        case round =>
          clear HW3
          obtain ⟨j, hj, rfl, hd, hal⟩ := hrel
          have HDr := Lib.hid hd
          have HAl := Lib.hid hal
          have hcellx := (hd.cell ⟨b, o + k, none⟩).trans hcell
          clear hd hal
          have i1 : (k : Int) < (l.length : Int) := by omega
          by_cases hjl : j < O.length
          · have hcelly := (HDr.out.cell ⟨g, j, none⟩).trans (HX2.out j hjl)
            obtain ⟨y, hyk⟩ : ∃ y, y = O.getD j [] := ⟨_, rfl⟩
            rw [← hyk] at hcelly
            have hy1 : y.length ≤ 1000 := by rw [hyk]; exact HP.out _ (M.getD_mem hjl)
            have HYK := Lib.hid hyk
            have i2 : (j : Int) < (O.length : Int) := by omega
            clear hyk hcell
            rcases two (M.ltB y x) with f | f
            · go_wp2
              go_quiet ((go_at_call 41; exact Calls.quiet_of (before_any _ _ _ (by omega) (by omega))))
              go_wp2
              go_roundw
              case rel => exact ⟨j + 1, by omega, by go_num, HDr.out.on _, M.allLt_succ hjl HAl.out (by rw [← HYK.out]; exact f)⟩
              case measure => simp [intOf]; omega
            · have HI := Lib.hid (M.ins_at HE.out hj HAl.out (fun _ => by rw [← HYK.out]; exact f))
              go_wp2
              go_quiet ((go_at_call 41; exact Calls.quiet_of (before_any _ _ _ (by omega) (by omega))))
              have hcj : ¬ c1 = j := by omega
              have hjc : j ≤ c1 := by omega
              have HD4 := Lib.hid (HDr.out.on nq)
              have hcx4 : (wr.drewN nq).cell? ⟨b, o + k, none⟩ = some (.string ⟨x.toArray⟩) := hcellx
              clear hcellx hcelly HYK
              have hcellx := hcx4
              clear hcx4 HDr HAl
              generalize wr.drewN nq = w4 at *
              have R4 := HD4.out.own HR.out
              have B4 := HBw.out.trans ((HD4.out.below).mono hbz)
              have s4 : w2.heap.size ≤ w4.heap.size := B4.size
              have s34 : w3.heap.size ≤ w4.heap.size := HD4.out.below.size
              have o5 := own_empty w4 (Nat.le_refl w4.heap.size)
              have b5 : Below w4.heap.size w4 (w4.alloc (.cells #[] 9)) := (Below.refl _ w4).alloc (Nat.le_refl _) _
              obtain ⟨vr, w5, r5, own5, g5⟩ := append_row o5 (u := .slice (some ⟨g, j, none⟩) (O.length - j) (c1 - j)) (news := (O.map encStr).drop j) (Row.below (own_back R4 hj) b5) (fun y hy => one_str O y (List.mem_of_mem_drop hy)) (by simp <;> omega) (by simp)
              have B5 := b5.grown g5 (by simp) (fun i hi => (o5.lt i hi).1)
              rw [Nat.zero_add, List.nil_append] at own5
              have s5 : w4.heap.size ≤ w5.heap.size := B5.size
              have own5' := own5
              have F5 : w5.ownsRow w2.heap.size 9 1 (.slice (some ⟨g, 0, none⟩) j c1) j ((O.map encStr).take j) := by
                exact (own_front R4 hj).kept (row := none) ⟨B5.os, B5.tape, B5.output, B5.size, fun i h _ => B5.block i h⟩ (by simp [Value.ownBlock])
              have c5 := (B5.cell (p := ⟨b, o + k, none⟩) (by have := hb; show b < _; omega)).trans hcellx
              obtain ⟨v6, w6, r6, own6, g6⟩ := append_row (w := (w5.alloc (.cells #[.string ⟨x.toArray⟩] 9)).drew) (F5.alloc (.cells #[.string ⟨x.toArray⟩] 9)).drew (u := .slice (some ⟨w5.heap.size, 0, none⟩) 1 1) (news := [x].map encStr) (row_one w5 x) (one_str [x]) (by simp <;> omega) (by simp <;> omega)
              have k6 : w6.ownsRow w4.heap.size 9 1 vr ((O.map encStr).drop j).length ((O.map encStr).drop j) := ((own5.alloc (.cells #[.string ⟨x.toArray⟩] 9)).drew).kept g6 (Or.inr (fun e => by have := (own5.lt g e).1; omega))
              have s6 : w5.heap.size + 1 ≤ w6.heap.size := by have := g6.size; simpa using this
              obtain ⟨v7, w7, r7, own7, g7⟩ := append_row own6 (Row.of_owns k6) (fun y hy => one_str O y (List.mem_of_mem_drop hy)) (by simp <;> omega) (by omega)
              have B7 : Below w2.heap.size w2 w7 := (((B4.trans (B5.mono s4)).alloc (by omega) _).drew.grown g6 (by simp <;> omega) (fun i hi => ((F5.alloc (.cells #[.string ⟨x.toArray⟩] 9)).lt i hi).1)).grown g7 (by omega) (fun i hi => (own6.lt i hi).1)
              have E7 : w7.ownsRow w2.heap.size 9 1 v7 (M.put l (k + 1)).length ((M.put l (k + 1)).map encStr) := by
                rw [HN.out, HI.out]
                simp only [List.map_append, List.length_append, List.length_take, List.length_drop, List.map_take, List.map_drop]
                have e1 : min j O.length = j := by omega
                rw [e1]
                simpa using own7
              have H7 := Lib.hid E7
              have H8 := Lib.hid B7
              clear R4 B4 o5 b5 own5 g5 B5 own5' F5 own6 g6 k6 own7 g7 B7 E7 HI
              go_wp2_with (at_builtin; refine Lib.wpList_append_run _ rfl (.tmp 44) (.tmp 47) _ _ rfl _ _ rfl rfl _ _ r5 ?_)
              go_region_law (first
                | refine step_append_run rfl (.tmp 51) (.tmp 56) 44 44 rfl _ _ (by simp [Act.eval]) (by simp [Act.eval]) _ _ r6 ?_
                | refine step_append_run rfl (.tmp 57) (.tmp 58) 44 44 rfl _ _ (by simp [Act.eval]) (by simp [Act.eval]) _ _ r7 ?_)
              all_goals
                go_wp2
                go_roundw
                case rel => exact ⟨k + 1, by omega, by go_num, H7.out, H8.out⟩
                case measure => simp [intOf]; omega
          · have hdf : decide ((j : Int) < (O.length : Int)) = false := decide_eq_false (by omega)
            have HI := Lib.hid (M.ins_at HE.out hj HAl.out (fun h => absurd h hjl))
            clear hcell
            by_cases hcj : c1 = j
            · subst hcj
              have hjc : c1 ≤ c1 := Nat.le_refl _
              go_wp2
              go_quiet (fail)
              have HD4 := Lib.hid (HDr.out.on nq)
              have hcx4 : (wr.drewN nq).cell? ⟨b, o + k, none⟩ = some (.string ⟨x.toArray⟩) := hcellx
              clear hcellx
              have hcellx := hcx4
              clear hcx4 HDr HAl
              generalize wr.drewN nq = w4 at *
              have R4 := HD4.out.own HR.out
              have B4 := HBw.out.trans ((HD4.out.below).mono hbz)
              have s4 : w2.heap.size ≤ w4.heap.size := B4.size
              have s34 : w3.heap.size ≤ w4.heap.size := HD4.out.below.size
              have o5 := own_empty w4 (Nat.le_refl w4.heap.size)
              have b5 : Below w4.heap.size w4 (w4.alloc (.cells #[] 9)) := (Below.refl _ w4).alloc (Nat.le_refl _) _
              obtain ⟨vr, w5, r5, own5, g5⟩ := append_row o5 (u := .slice (some ⟨g, 0, none⟩) 0 0) (news := (O.map encStr).drop c1) (Row.below (row_zero (by rw [List.length_map]; omega)) b5) (fun y hy => one_str O y (List.mem_of_mem_drop hy)) (by simp <;> omega) (by simp)
              have B5 := b5.grown g5 (by simp) (fun i hi => (o5.lt i hi).1)
              rw [Nat.zero_add, List.nil_append] at own5
              have s5 : w4.heap.size ≤ w5.heap.size := B5.size
              have own5' := own5
              have F5 : w5.ownsRow w2.heap.size 9 1 (.slice (some ⟨g, 0, none⟩) c1 c1) c1 ((O.map encStr).take c1) := by
                exact (own_front R4 hj).kept (row := none) ⟨B5.os, B5.tape, B5.output, B5.size, fun i h _ => B5.block i h⟩ (by simp [Value.ownBlock])
              have c5 := (B5.cell (p := ⟨b, o + k, none⟩) (by have := hb; show b < _; omega)).trans hcellx
              obtain ⟨v6, w6, r6, own6, g6⟩ := append_row (w := (w5.alloc (.cells #[.string ⟨x.toArray⟩] 9)).drew) (F5.alloc (.cells #[.string ⟨x.toArray⟩] 9)).drew (u := .slice (some ⟨w5.heap.size, 0, none⟩) 1 1) (news := [x].map encStr) (row_one w5 x) (one_str [x]) (by simp <;> omega) (by simp <;> omega)
              have k6 : w6.ownsRow w4.heap.size 9 1 vr ((O.map encStr).drop c1).length ((O.map encStr).drop c1) := ((own5.alloc (.cells #[.string ⟨x.toArray⟩] 9)).drew).kept g6 (Or.inr (fun e => by have := (own5.lt g e).1; omega))
              have s6 : w5.heap.size + 1 ≤ w6.heap.size := by have := g6.size; simpa using this
              obtain ⟨v7, w7, r7, own7, g7⟩ := append_row own6 (Row.of_owns k6) (fun y hy => one_str O y (List.mem_of_mem_drop hy)) (by simp <;> omega) (by omega)
              have B7 : Below w2.heap.size w2 w7 := (((B4.trans (B5.mono s4)).alloc (by omega) _).drew.grown g6 (by simp <;> omega) (fun i hi => ((F5.alloc (.cells #[.string ⟨x.toArray⟩] 9)).lt i hi).1)).grown g7 (by omega) (fun i hi => (own6.lt i hi).1)
              have E7 : w7.ownsRow w2.heap.size 9 1 v7 (M.put l (k + 1)).length ((M.put l (k + 1)).map encStr) := by
                rw [HN.out, HI.out]
                simp only [List.map_append, List.length_append, List.length_take, List.length_drop, List.map_take, List.map_drop]
                have e1 : min c1 O.length = c1 := by omega
                rw [e1]
                simpa using own7
              have H7 := Lib.hid E7
              have H8 := Lib.hid B7
              clear R4 B4 o5 b5 own5 g5 B5 own5' F5 own6 g6 k6 own7 g7 B7 E7 HI
              go_wp2_with (at_builtin; refine Lib.wpList_append_run _ rfl (.tmp 44) (.tmp 47) _ _ rfl _ _ rfl rfl _ _ r5 ?_)
              go_region_law (first
                | refine step_append_run rfl (.tmp 51) (.tmp 56) 44 44 rfl _ _ (by simp [Act.eval]) (by simp [Act.eval]) _ _ r6 ?_
                | refine step_append_run rfl (.tmp 57) (.tmp 58) 44 44 rfl _ _ (by simp [Act.eval]) (by simp [Act.eval]) _ _ r7 ?_)
              all_goals
                go_wp2
                go_roundw
                case rel => exact ⟨k + 1, by omega, by go_num, H7.out, H8.out⟩
                case measure => simp [intOf]; omega
            · have hjc : j ≤ c1 := by omega
              go_wp2
              go_quiet (fail)
              have HD4 := Lib.hid (HDr.out.on nq)
              have hcx4 : (wr.drewN nq).cell? ⟨b, o + k, none⟩ = some (.string ⟨x.toArray⟩) := hcellx
              clear hcellx
              have hcellx := hcx4
              clear hcx4 HDr HAl
              generalize wr.drewN nq = w4 at *
              have R4 := HD4.out.own HR.out
              have B4 := HBw.out.trans ((HD4.out.below).mono hbz)
              have s4 : w2.heap.size ≤ w4.heap.size := B4.size
              have s34 : w3.heap.size ≤ w4.heap.size := HD4.out.below.size
              have o5 := own_empty w4 (Nat.le_refl w4.heap.size)
              have b5 : Below w4.heap.size w4 (w4.alloc (.cells #[] 9)) := (Below.refl _ w4).alloc (Nat.le_refl _) _
              obtain ⟨vr, w5, r5, own5, g5⟩ := append_row o5 (u := .slice (some ⟨g, j, none⟩) (O.length - j) (c1 - j)) (news := (O.map encStr).drop j) (Row.below (own_back R4 hj) b5) (fun y hy => one_str O y (List.mem_of_mem_drop hy)) (by simp <;> omega) (by simp)
              have B5 := b5.grown g5 (by simp) (fun i hi => (o5.lt i hi).1)
              rw [Nat.zero_add, List.nil_append] at own5
              have s5 : w4.heap.size ≤ w5.heap.size := B5.size
              have own5' := own5
              have F5 : w5.ownsRow w2.heap.size 9 1 (.slice (some ⟨g, 0, none⟩) j c1) j ((O.map encStr).take j) := by
                exact (own_front R4 hj).kept (row := none) ⟨B5.os, B5.tape, B5.output, B5.size, fun i h _ => B5.block i h⟩ (by simp [Value.ownBlock])
              have c5 := (B5.cell (p := ⟨b, o + k, none⟩) (by have := hb; show b < _; omega)).trans hcellx
              obtain ⟨v6, w6, r6, own6, g6⟩ := append_row (w := (w5.alloc (.cells #[.string ⟨x.toArray⟩] 9)).drew) (F5.alloc (.cells #[.string ⟨x.toArray⟩] 9)).drew (u := .slice (some ⟨w5.heap.size, 0, none⟩) 1 1) (news := [x].map encStr) (row_one w5 x) (one_str [x]) (by simp <;> omega) (by simp <;> omega)
              have k6 : w6.ownsRow w4.heap.size 9 1 vr ((O.map encStr).drop j).length ((O.map encStr).drop j) := ((own5.alloc (.cells #[.string ⟨x.toArray⟩] 9)).drew).kept g6 (Or.inr (fun e => by have := (own5.lt g e).1; omega))
              have s6 : w5.heap.size + 1 ≤ w6.heap.size := by have := g6.size; simpa using this
              obtain ⟨v7, w7, r7, own7, g7⟩ := append_row own6 (Row.of_owns k6) (fun y hy => one_str O y (List.mem_of_mem_drop hy)) (by simp <;> omega) (by omega)
              have B7 : Below w2.heap.size w2 w7 := (((B4.trans (B5.mono s4)).alloc (by omega) _).drew.grown g6 (by simp <;> omega) (fun i hi => ((F5.alloc (.cells #[.string ⟨x.toArray⟩] 9)).lt i hi).1)).grown g7 (by omega) (fun i hi => (own6.lt i hi).1)
              have E7 : w7.ownsRow w2.heap.size 9 1 v7 (M.put l (k + 1)).length ((M.put l (k + 1)).map encStr) := by
                rw [HN.out, HI.out]
                simp only [List.map_append, List.length_append, List.length_take, List.length_drop, List.map_take, List.map_drop]
                have e1 : min j O.length = j := by omega
                rw [e1]
                simpa using own7
              have H7 := Lib.hid E7
              have H8 := Lib.hid B7
              clear R4 B4 o5 b5 own5 g5 B5 own5' F5 own6 g6 k6 own7 g7 B7 E7 HI
              go_wp2_with (at_builtin; refine Lib.wpList_append_run _ rfl (.tmp 44) (.tmp 47) _ _ rfl _ _ rfl rfl _ _ r5 ?_)
              go_region_law (first
                | refine step_append_run rfl (.tmp 51) (.tmp 56) 44 44 rfl _ _ (by simp [Act.eval]) (by simp [Act.eval]) _ _ r6 ?_
                | refine step_append_run rfl (.tmp 57) (.tmp 58) 44 44 rfl _ _ (by simp [Act.eval]) (by simp [Act.eval]) _ _ r7 ?_)
              all_goals
                go_wp2
                go_roundw
                case rel => exact ⟨k + 1, by omega, by go_num, H7.out, H8.out⟩
                case measure => simp [intOf]; omega
    · obtain rfl : k = l.length := by omega
      have K1 := Lib.hid (ownsRow_base hrow HB.out.size)
      have K2 := Lib.hid (HB.out.trans (hbw.mono HB.out.size))
      clear hrow hbw
      go_wp2
      go_ret
      exact ⟨_, rfl, by rw [HD.out]; exact K1.out, K2.out⟩
end Go.Proofs.Ytacieiddhkkahaa
