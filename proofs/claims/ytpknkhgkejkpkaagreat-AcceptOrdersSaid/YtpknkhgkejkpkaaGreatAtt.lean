/- Contract of Attrs; no conditions but those that they name. -/
import Derived.Test.YtpknkhgkejkpkaaGreatCfl
import Derived.Test.YtpknkhgkejkpkaaGreatSlo
import Derived.Deep.RegionHeld3

namespace Go.Proofs.YtpknkhgkejkpkaaGreat
open Go.ChangeShapes Go.WideShapes Go.ChangeAt Go.RowKit

theorem step_load {P : Program} {ops : Array Oper} {o : Oper} {a : Act} {w : World} {K : Act → World → Prop} {Q : Exit → Act → World → Prop} {E : Prop} (hg : o.guard = none) (ty : TypeId) (x : Operand) (ho : o.op = .load ty x) (b off : Nat) (hx : a.eval x = .pointer (some ⟨b, off, none⟩)) (cs : List Value) (d : TypeDesc) (hc : w.rangeAt b off cs)
    (hu : P.underlying ty = some d) (hd : d.isRow = true) (hi : (P.info? ty).map (·.size) = some cs.length) (hK : K (a.put o.dst (.agg cs.toArray)) w) : if Region.wanted o (yielded ops a.tmps) = true then Oper.wp P o a w K Q else E := by
  rw [if_pos (by simp [Region.wanted, hg])]
  exact wp_load_mid ty x ho b off hx cs d hc hu hd hi hK
theorem step_store {ops : Array Oper} {o : Oper} {a : Act} {w : World} {K : Act → World → Prop} {Q : Exit → Act → World → Prop} {E : Prop} (hg : o.guard = none) (ty : TypeId) (x z : Operand) (ho : o.op = .store ty x z) (b : Nat) (t : TypeId) (Z L : List Value) (hx : a.eval x = .pointer (some ⟨b, 0, none⟩)) (hy : a.eval z = .agg L.toArray)
    (hh : Hold w b t Z) (hl : Z.length = L.length) (hi : (Tryz.prog.info? ty).map (·.size) = some L.length) (h1 : L.all (·.oneCell') = true) (hK : K (a.put o.dst undef) (w.setCells b 0 L)) : if Region.wanted o (yielded ops a.tmps) = true then Oper.wp Tryz.prog o a w K Q else E := by
  rw [if_pos (by simp [Region.wanted, hg])]
  exact wp_store_mid ty x z ho b 0 L.toArray hx hy (hh.there (by rw [hl, Nat.zero_add]; exact Nat.le_refl _)) (by simpa using hi) (by simpa using h1) hK
/-- A struct stored, where nothing else is ready. -/
theorem wpAnyH_store {md : Region.Mode} {ops : Array Oper} {Q : Exit → Act → World → Prop} {S : World → Prop} {fuel : Nat} {listed : Array Bool} {a : Act} {w : World} {i : Nat} {o : Oper} (hr : Region.ready md ops listed = [i]) (ho' : ops[i]? = some o)
    (hg : o.guard = none) (ty : TypeId) (x z : Operand) (ho : o.op = .store ty x z) (b : Nat) (t : TypeId) (Z L : List Value) (hx : a.eval x = .pointer (some ⟨b, 0, none⟩)) (hy : a.eval z = .agg L.toArray)
    (hh : Hold w b t Z) (hl : Z.length = L.length) (hi : (Tryz.prog.info? ty).map (·.size) = some L.length) (h1 : L.all (·.oneCell') = true) (hS : S (w.setCells b 0 L))
    (h : wpAnyH Tryz.prog md ops Q S fuel (listed.setIfInBounds i true) (a.put o.dst undef) (w.setCells b 0 L)) : wpAnyH Tryz.prog md ops Q S (fuel + 1) listed a w :=
  wpAnyH_ready hr (by simp) (AllReadyH.cons ho' (fun _ hK => step_store hg ty x z ho b t Z L hx hy hh hl hi h1 (hK.out _ _ hS (fun _ => h))) AllReadyH.nil)
theorem results_vc {fn : Func} {j k : Nat} {t : TypeId} {tmps : Array Value} {w : World} {b : Nat} {L : List Value} {x : Value} (hf : fn.results = #[ResultVar.tmp k, ResultVar.cell j t]) (hp : tmps.getD j undef = .pointer (some ⟨b, 0, none⟩)) (hx : tmps.getD k undef = x) (hr : w.rangeAt b 0 L) (d : TypeDesc) (hu : Tryz.prog.underlying t = some d) (hd : d.isRow = true) (hi : (Tryz.prog.info? t).map (·.size) = some L.length) :
    (results fn tmps).run Tryz.prog w = .ok (.tuple #[x, .agg L.toArray]) w := by
  have hp' : tmps[j]?.getD undef = .pointer (some ⟨b, 0, none⟩) := by simpa using hp
  have hx' : tmps[k]?.getD undef = x := by simpa using hx
  simp [results, hf, hp', hx', asAddr, run_loadVar_mid w b 0 t L _ hr hu hd hi, Result.andThen]
theorem puts_other {b : Nat} (L : List Value) : ∀ (o : Nat) (w : World) (k : Nat), k ≠ b → (w.setCells b o L).heap[k]? = w.heap[k]? := by
  intro o w k hk
  have key : ∀ (L : List Value) (o : Nat) (w : World), (w.setCells b o L).heap[k]? = w.heap[k]? := by
    intro L
    induction L with
    | nil => intro o w; rfl
    | cons x L ih =>
      intro o w
      rw [World.setCells, ih]
      exact Below.heap_setCell _ _ _ _ (fun e => hk e)
  exact key L o w
theorem hold_puts {w : World} {b b' : Nat} {t : TypeId} {L S : List Value} (h : Hold w b t L) (hn : b ≠ b') (o : Nat) : Hold (w.setCells b' o S) b t L := (puts_other S o w b hn).trans h
theorem range_puts {w : World} {b b' o : Nat} {L : List Value} (h : w.rangeAt b o L) (hn : b ≠ b') (S : List Value) (q : Nat) : (w.setCells b' q S).rangeAt b o L := fun j v hj => by
  have := h j v hj
  unfold World.cell? at this ⊢
  rw [puts_other S q w b hn]
  exact this
theorem size_puts {b : Nat} : ∀ (L : List Value) (o : Nat) (w : World), (w.setCells b o L).heap.size = w.heap.size := by
  intro L
  induction L with
  | nil => intro o w; rfl
  | cons x L ih => intro o w; rw [World.setCells, ih]; simp
end Go.Proofs.YtpknkhgkejkpkaaGreat

namespace Go.Proofs.YtpknkhgkejkpkaaGreat
open Go.ChangeShapes Go.WideShapes Go.ChangeAt Go.RowKit

attribute [local go_sem ↓] Dp.run_max_mx Dp.run_min_mn
/-- What Attrs answers: a number and deps. -/
def Attd (n : Int) (d : Nat → Int) (w : World) (e : Ending) (w' : World) : Prop := e = .returned (.tuple #[.int .i64 n, .agg #[.int .i64 (d 0), .int .i64 (d 1), .int .i64 (d 2), .int .i64 (d 3), .int .i64 (d 4), .int .i64 (d 5), .int .i64 (d 6)]]) ∧ Below w.heap.size w w'
theorem owns_range' {w : World} {base : Nat} {A : Option Addr} {c k : Nat} {X : List Rv} {x : Rv} (h : w.ownsRow base 41 25 (.slice A X.length c) X.length (X.flatMap Rv.cells)) (hx : X[k]? = some x) : ∃ b o, A = some ⟨b, o, none⟩ ∧ b < w.heap.size ∧ w.rangeAt b (o + k * 25) x.cells := rowN_range (RowN.of_owns h) hx
set_option maxHeartbeats 8000000 in
set_option maxRecDepth 100000 in
theorem attrs_any {w : World} {v : Value} {X : List Rv} (h : Rows w v X) (hl : X.length ≤ 1000) (hm : ∀ x ∈ X, M.Mod x.r.c) (i1 i2 : Int) (c : M.Cmd) {ua ub : Value} (g : Rds w ua c.rs) (g' : Wrs w ub c.ws) (G : M.Mod c) (s : Int) (d : Nat → Int) :
    Calls Tryz.prog 29 #[v, .agg #[.int .i64 i1, .int .i64 i2], .agg #[.int .i64 c.k, .int .i64 c.tc, .int .i64 c.tn, .int .i64 c.tt, .int .i64 c.tk, .int .i64 c.sh, ua, ub, .bool c.cm], .int .i64 s, .agg #[.int .i64 (d 0), .int .i64 (d 1), .int .i64 (d 2), .int .i64 (d 3), .int .i64 (d 4), .int .i64 (d 5), .int .i64 (d 6)]] w (Attd (atS X (i1, i2) c s) (atD X (i1, i2) c d) w) := by
  obtain ⟨A, cc, rfl⟩ := rowN_sliceOf h.row
  obtain ⟨A5, c5, ec⟩ := rowN_sliceOf g
  obtain ⟨A6, c6, ed⟩ := rowN_sliceOf g'
  subst ec ed
  have hb0 : Below w.heap.size w ((((w.alloc (.cells #[.int .i64 i1, .int .i64 i2] 32)).alloc (.cells #[.int .i64 c.k, .int .i64 c.tc, .int .i64 c.tn, .int .i64 c.tt, .int .i64 c.tk, .int .i64 c.sh, (.slice A5 c.rs.length c5), (.slice A6 c.ws.length c6), .bool c.cm] 30)).alloc (.cells #[.int .i64 (d 0), .int .i64 (d 1), .int .i64 (d 2), .int .i64 (d 3), .int .i64 (d 4), .int .i64 (d 5), .int .i64 (d 6)] 39)).alloc (.cells #[.int .i64 0, .int .i64 0, .int .i64 0, .int .i64 0, .int .i64 0, .int .i64 0, .int .i64 0] 39)) := below_new (below_new (below_new (below_new (Below.refl _ _))))
  have hs0 : ((((w.alloc (.cells #[.int .i64 i1, .int .i64 i2] 32)).alloc (.cells #[.int .i64 c.k, .int .i64 c.tc, .int .i64 c.tn, .int .i64 c.tt, .int .i64 c.tk, .int .i64 c.sh, (.slice A5 c.rs.length c5), (.slice A6 c.ws.length c6), .bool c.cm] 30)).alloc (.cells #[.int .i64 (d 0), .int .i64 (d 1), .int .i64 (d 2), .int .i64 (d 3), .int .i64 (d 4), .int .i64 (d 5), .int .i64 (d 6)] 39)).alloc (.cells #[.int .i64 0, .int .i64 0, .int .i64 0, .int .i64 0, .int .i64 0, .int .i64 0, .int .i64 0] 39)).heap.size = w.heap.size + 4 := by simp
  have hh0 : Hold ((((w.alloc (.cells #[.int .i64 i1, .int .i64 i2] 32)).alloc (.cells #[.int .i64 c.k, .int .i64 c.tc, .int .i64 c.tn, .int .i64 c.tt, .int .i64 c.tk, .int .i64 c.sh, (.slice A5 c.rs.length c5), (.slice A6 c.ws.length c6), .bool c.cm] 30)).alloc (.cells #[.int .i64 (d 0), .int .i64 (d 1), .int .i64 (d 2), .int .i64 (d 3), .int .i64 (d 4), .int .i64 (d 5), .int .i64 (d 6)] 39)).alloc (.cells #[.int .i64 0, .int .i64 0, .int .i64 0, .int .i64 0, .int .i64 0, .int .i64 0, .int .i64 0] 39)) w.heap.size 32 [.int .i64 i1, .int .i64 i2] := ((Hold.new w [.int .i64 i1, .int .i64 i2] 32).on (below_new (Below.refl _ _))).on (below_new (below_new (Below.refl _ _)))
  have hh1 : Hold ((((w.alloc (.cells #[.int .i64 i1, .int .i64 i2] 32)).alloc (.cells #[.int .i64 c.k, .int .i64 c.tc, .int .i64 c.tn, .int .i64 c.tt, .int .i64 c.tk, .int .i64 c.sh, (.slice A5 c.rs.length c5), (.slice A6 c.ws.length c6), .bool c.cm] 30)).alloc (.cells #[.int .i64 (d 0), .int .i64 (d 1), .int .i64 (d 2), .int .i64 (d 3), .int .i64 (d 4), .int .i64 (d 5), .int .i64 (d 6)] 39)).alloc (.cells #[.int .i64 0, .int .i64 0, .int .i64 0, .int .i64 0, .int .i64 0, .int .i64 0, .int .i64 0] 39)) (w.heap.size + 1) 30 [.int .i64 c.k, .int .i64 c.tc, .int .i64 c.tn, .int .i64 c.tt, .int .i64 c.tk, .int .i64 c.sh, (.slice A5 c.rs.length c5), (.slice A6 c.ws.length c6), .bool c.cm] := by
    have := (Hold.new (w.alloc (.cells #[.int .i64 i1, .int .i64 i2] 32)) [.int .i64 c.k, .int .i64 c.tc, .int .i64 c.tn, .int .i64 c.tt, .int .i64 c.tk, .int .i64 c.sh, (.slice A5 c.rs.length c5), (.slice A6 c.ws.length c6), .bool c.cm] 30).on (below_new (o := .cells #[.int .i64 0, .int .i64 0, .int .i64 0, .int .i64 0, .int .i64 0, .int .i64 0, .int .i64 0] 39) (below_new (o := .cells #[.int .i64 (d 0), .int .i64 (d 1), .int .i64 (d 2), .int .i64 (d 3), .int .i64 (d 4), .int .i64 (d 5), .int .i64 (d 6)] 39) (Below.refl _ _)))
    simpa using this
  have hh2 : Hold ((((w.alloc (.cells #[.int .i64 i1, .int .i64 i2] 32)).alloc (.cells #[.int .i64 c.k, .int .i64 c.tc, .int .i64 c.tn, .int .i64 c.tt, .int .i64 c.tk, .int .i64 c.sh, (.slice A5 c.rs.length c5), (.slice A6 c.ws.length c6), .bool c.cm] 30)).alloc (.cells #[.int .i64 (d 0), .int .i64 (d 1), .int .i64 (d 2), .int .i64 (d 3), .int .i64 (d 4), .int .i64 (d 5), .int .i64 (d 6)] 39)).alloc (.cells #[.int .i64 0, .int .i64 0, .int .i64 0, .int .i64 0, .int .i64 0, .int .i64 0, .int .i64 0] 39)) (w.heap.size + 1 + 1) 39 [.int .i64 (d 0), .int .i64 (d 1), .int .i64 (d 2), .int .i64 (d 3), .int .i64 (d 4), .int .i64 (d 5), .int .i64 (d 6)] := by
    have := (Hold.new ((w.alloc (.cells #[.int .i64 i1, .int .i64 i2] 32)).alloc (.cells #[.int .i64 c.k, .int .i64 c.tc, .int .i64 c.tn, .int .i64 c.tt, .int .i64 c.tk, .int .i64 c.sh, (.slice A5 c.rs.length c5), (.slice A6 c.ws.length c6), .bool c.cm] 30)) [.int .i64 (d 0), .int .i64 (d 1), .int .i64 (d 2), .int .i64 (d 3), .int .i64 (d 4), .int .i64 (d 5), .int .i64 (d 6)] 39).on (below_new (o := .cells #[.int .i64 0, .int .i64 0, .int .i64 0, .int .i64 0, .int .i64 0, .int .i64 0, .int .i64 0] 39) (Below.refl _ _))
    simpa using this
  have hh3 : Hold ((((w.alloc (.cells #[.int .i64 i1, .int .i64 i2] 32)).alloc (.cells #[.int .i64 c.k, .int .i64 c.tc, .int .i64 c.tn, .int .i64 c.tt, .int .i64 c.tk, .int .i64 c.sh, (.slice A5 c.rs.length c5), (.slice A6 c.ws.length c6), .bool c.cm] 30)).alloc (.cells #[.int .i64 (d 0), .int .i64 (d 1), .int .i64 (d 2), .int .i64 (d 3), .int .i64 (d 4), .int .i64 (d 5), .int .i64 (d 6)] 39)).alloc (.cells #[.int .i64 0, .int .i64 0, .int .i64 0, .int .i64 0, .int .i64 0, .int .i64 0, .int .i64 0] 39)) (w.heap.size + 1 + 1 + 1) 39 [.int .i64 0, .int .i64 0, .int .i64 0, .int .i64 0, .int .i64 0, .int .i64 0, .int .i64 0] := by
    have := Hold.new (((w.alloc (.cells #[.int .i64 i1, .int .i64 i2] 32)).alloc (.cells #[.int .i64 c.k, .int .i64 c.tc, .int .i64 c.tn, .int .i64 c.tt, .int .i64 c.tk, .int .i64 c.sh, (.slice A5 c.rs.length c5), (.slice A6 c.ws.length c6), .bool c.cm] 30)).alloc (.cells #[.int .i64 (d 0), .int .i64 (d 1), .int .i64 (d 2), .int .i64 (d 3), .int .i64 (d 4), .int .i64 (d 5), .int .i64 (d 6)] 39)) [.int .i64 0, .int .i64 0, .int .i64 0, .int .i64 0, .int .i64 0, .int .i64 0, .int .i64 0] 39
    simpa using this
  have HC := Lib.hid (conflicts_any (h.below hb0) hl hm i1 i2 c (g.below hb0) (g'.below hb0) G)
  have HP := Lib.hid (hold_range hh0 0 [.int .i64 i1, .int .i64 i2] (fun j v hj => by rw [Nat.zero_add]; exact hj))
  have HQ := Lib.hid (hold_range hh1 0 [.int .i64 c.k, .int .i64 c.tc, .int .i64 c.tn, .int .i64 c.tt, .int .i64 c.tk, .int .i64 c.sh, (.slice A5 c.rs.length c5), (.slice A6 c.ws.length c6), .bool c.cm] (fun j v hj => by rw [Nat.zero_add]; exact hj))
  have H2 := Lib.hid hh2
  have H3 := Lib.hid hh3
  have HB := Lib.hid hb0
  have HTX := Lib.hid (fun x hx => h.tx x (confs_mem (i := (i1, i2)) (c := c) hx))
  have HCL := Lib.hid (confs_len X (i1, i2) c)
  have HAS := Lib.hid (show atS X (i1, i2) c s = seqs s (rcs (confs X (i1, i2) c)) from rfl)
  have HAD := Lib.hid (show atD X (i1, i2) c d = depsL d (rcs (confs X (i1, i2) c)) from rfl)
  clear h g g' hb0 hh0 hh1 hh2 hh3 hm
  go_enter Tryz.func29, Tryz.ntmps29
  go_wp2_with (first
    | (with_reducible refine wpList_load_mid rfl 32 _ rfl w.heap.size 0 rfl [.int .i64 i1, .int .i64 i2] _ HP.out Tryz.underlying32 rfl (by kernel_rfl) ?_)
    | (with_reducible refine wpList_load_mid rfl 30 _ rfl (w.heap.size + 1) 0 rfl [.int .i64 c.k, .int .i64 c.tc, .int .i64 c.tn, .int .i64 c.tt, .int .i64 c.tk, .int .i64 c.sh, (.slice A5 c.rs.length c5), (.slice A6 c.ws.length c6), .bool c.cm] _ HQ.out Tryz.underlying30 rfl (by kernel_rfl) ?_)
    | fail)
  generalize ((((w.alloc (.cells #[.int .i64 i1, .int .i64 i2] 32)).alloc (.cells #[.int .i64 c.k, .int .i64 c.tc, .int .i64 c.tn, .int .i64 c.tt, .int .i64 c.tk, .int .i64 c.sh, (.slice A5 c.rs.length c5), (.slice A6 c.ws.length c6), .bool c.cm] 30)).alloc (.cells #[.int .i64 (d 0), .int .i64 (d 1), .int .i64 (d 2), .int .i64 (d 3), .int .i64 (d 4), .int .i64 (d 5), .int .i64 (d 6)] 39)).alloc (.cells #[.int .i64 0, .int .i64 0, .int .i64 0, .int .i64 0, .int .i64 0, .int .i64 0, .int .i64 0] 39)) = w0 at *
  have HS0 := Lib.hid hs0
  clear hs0
  refine HC.out.mono ?_
  rintro e w1 ⟨v1, rfl, o1, hb1⟩
  obtain ⟨A1, k1, rfl⟩ := ownsRow_slice o1
  have HO1 := Lib.hid o1
  have H21 := Lib.hid (H2.out.on hb1)
  have H31 := Lib.hid (H3.out.on hb1)
  have HB1 := Lib.hid (below_on HB.out hb1)
  have HS1 := Lib.hid (show w0.heap.size ≤ w1.heap.size from hb1.size)
  generalize confs X (i1, i2) c = Y at *
  have hcl := HCL.out
  clear o1 hb1 HC HP HQ H2 H3 HB
  go_wp2
  go_loopw [3, 19] (fun n i wr => ∃ k : Nat, i = .int .i64 k ∧ k ≤ Y.length ∧ n = .int .i64 (seqs s (rcs (Y.take k))) ∧ Hid (Below w.heap.size w wr) ∧ Hid (wr.ownsRow w0.heap.size 41 25 (.slice A1 Y.length k1) Y.length (Y.flatMap Rv.cells)) ∧ Hid (Hold wr (w.heap.size + 1 + 1) 39 [.int .i64 (depsL d (rcs (Y.take k)) 0), .int .i64 (depsL d (rcs (Y.take k)) 1), .int .i64 (depsL d (rcs (Y.take k)) 2), .int .i64 (depsL d (rcs (Y.take k)) 3), .int .i64 (depsL d (rcs (Y.take k)) 4), .int .i64 (depsL d (rcs (Y.take k)) 5), .int .i64 (depsL d (rcs (Y.take k)) 6)]) ∧ Hid (Hold wr (w.heap.size + 1 + 1 + 1) 39 [.int .i64 0, .int .i64 0, .int .i64 0, .int .i64 0, .int .i64 0, .int .i64 0, .int .i64 0]) ∧ w0.heap.size ≤ wr.heap.size) (fun _ i _ => Y.length - (intOf i).toNat)
  case atStart => exact ⟨0, rfl, Nat.zero_le _, rfl, HB1, HO1, H21, H31, HS1.out⟩
  case round =>
    clear HB1 HO1 H21 H31 HS1
    obtain ⟨k, rfl, hk, rfl, HW, HO, HD, HZ, hsz⟩ := hrel
    by_cases hlt : k < Y.length
    · obtain ⟨x, hx⟩ : ∃ x, Y[k]? = some x := ⟨_, List.getElem?_eq_getElem hlt⟩
      have hxm : x ∈ Y := List.mem_of_getElem? hx
      obtain ⟨b, o, rfl, hbl, hrr⟩ := owns_range' HO.out hx
      have HSQ := Lib.hid (seqs_take (s := s) hx)
      have HDP := Lib.hid (deps_take (d := d) hx)
      have htx := HTX.out x hxm
      obtain ⟨r, va, vb⟩ := x
      obtain ⟨A3, c3, ea⟩ := rowN_sliceOf htx.rs
      obtain ⟨A4, c4, eb⟩ := rowN_sliceOf htx.ws
      dsimp only at ea eb
      subst ea eb
      have HRR := Lib.hid (show wr.rangeAt b (o + k * 25) [.int .i64 r.ir, .int .i64 r.is, .int .i64 r.st, .int .i64 r.pn, .int .i64 r.pr, .int .i64 r.bn, .int .i64 r.br, .int .i64 r.c.k, .int .i64 r.c.tc, .int .i64 r.c.tn, .int .i64 r.c.tt, .int .i64 r.c.tk, .int .i64 r.c.sh, (.slice A3 r.c.rs.length c3), (.slice A4 r.c.ws.length c4), .bool r.c.cm, .int .i64 r.sq, .int .i64 r.d0, .int .i64 r.d1, .int .i64 r.d2, .int .i64 r.d3, .int .i64 r.d4, .int .i64 r.d5, .int .i64 r.d6, .bool r.kp] from hrr)
      have hk1 : (k : Int) < (Y.length : Int) := by omega
      have hb3 : Below wr.heap.size wr (wr.alloc (.cells #[.int .i64 r.ir, .int .i64 r.is, .int .i64 r.st, .int .i64 r.pn, .int .i64 r.pr, .int .i64 r.bn, .int .i64 r.br, .int .i64 r.c.k, .int .i64 r.c.tc, .int .i64 r.c.tn, .int .i64 r.c.tt, .int .i64 r.c.tk, .int .i64 r.c.sh, (.slice A3 r.c.rs.length c3), (.slice A4 r.c.ws.length c4), .bool r.c.cm, .int .i64 r.sq, .int .i64 r.d0, .int .i64 r.d1, .int .i64 r.d2, .int .i64 r.d3, .int .i64 r.d4, .int .i64 r.d5, .int .i64 r.d6, .bool r.kp] 41)) := below_new (Below.refl _ _)
      have HHO := Lib.hid (Hold.new wr [.int .i64 r.ir, .int .i64 r.is, .int .i64 r.st, .int .i64 r.pn, .int .i64 r.pr, .int .i64 r.bn, .int .i64 r.br, .int .i64 r.c.k, .int .i64 r.c.tc, .int .i64 r.c.tn, .int .i64 r.c.tt, .int .i64 r.c.tk, .int .i64 r.c.sh, (.slice A3 r.c.rs.length c3), (.slice A4 r.c.ws.length c4), .bool r.c.cm, .int .i64 r.sq, .int .i64 r.d0, .int .i64 r.d1, .int .i64 r.d2, .int .i64 r.d3, .int .i64 r.d4, .int .i64 r.d5, .int .i64 r.d6, .bool r.kp] 41)
      have HI := Lib.hid (hold_range HHO.out 0 [.int .i64 r.ir, .int .i64 r.is] (fun j v hj => by
          match j, hj with
          | 0, hj => exact hj
          | 1, hj => exact hj))
      have hsq : (wr.alloc (.cells #[.int .i64 r.ir, .int .i64 r.is, .int .i64 r.st, .int .i64 r.pn, .int .i64 r.pr, .int .i64 r.bn, .int .i64 r.br, .int .i64 r.c.k, .int .i64 r.c.tc, .int .i64 r.c.tn, .int .i64 r.c.tt, .int .i64 r.c.tk, .int .i64 r.c.sh, (.slice A3 r.c.rs.length c3), (.slice A4 r.c.ws.length c4), .bool r.c.cm, .int .i64 r.sq, .int .i64 r.d0, .int .i64 r.d1, .int .i64 r.d2, .int .i64 r.d3, .int .i64 r.d4, .int .i64 r.d5, .int .i64 r.d6, .bool r.kp] 41)).cell? ⟨wr.heap.size, 16, none⟩ = some (.int .i64 r.sq) := hold_cell HHO.out 16 rfl
      have HW3 := Lib.hid (below_on HW.out hb3)
      have HO3 := Lib.hid (ownsRow_on HO.out hb3)
      have HD3 := Lib.hid (HD.out.on hb3)
      have HZ3 := Lib.hid (HZ.out.on hb3)
      have HDR := Lib.hid (hold_range HD3.out 0 _ (fun j v hj => by rw [Nat.zero_add]; exact hj))
      have HFO := Lib.hid (following_any r.sq (wr.alloc (.cells #[.int .i64 r.ir, .int .i64 r.is, .int .i64 r.st, .int .i64 r.pn, .int .i64 r.pr, .int .i64 r.bn, .int .i64 r.br, .int .i64 r.c.k, .int .i64 r.c.tc, .int .i64 r.c.tn, .int .i64 r.c.tt, .int .i64 r.c.tk, .int .i64 r.c.sh, (.slice A3 r.c.rs.length c3), (.slice A4 r.c.ws.length c4), .bool r.c.cm, .int .i64 r.sq, .int .i64 r.d0, .int .i64 r.d1, .int .i64 r.d2, .int .i64 r.d3, .int .i64 r.d4, .int .i64 r.d5, .int .i64 r.d6, .bool r.kp] 41)))
      have HWI := Lib.hid (Dp.with_any (depsL d (rcs (Y.take k))) r.ir r.is (wr.alloc (.cells #[.int .i64 r.ir, .int .i64 r.is, .int .i64 r.st, .int .i64 r.pn, .int .i64 r.pr, .int .i64 r.bn, .int .i64 r.br, .int .i64 r.c.k, .int .i64 r.c.tc, .int .i64 r.c.tn, .int .i64 r.c.tt, .int .i64 r.c.tk, .int .i64 r.c.sh, (.slice A3 r.c.rs.length c3), (.slice A4 r.c.ws.length c4), .bool r.c.cm, .int .i64 r.sq, .int .i64 r.d0, .int .i64 r.d1, .int .i64 r.d2, .int .i64 r.d3, .int .i64 r.d4, .int .i64 r.d5, .int .i64 r.d6, .bool r.kp] 41)))
      have HS3 := Lib.hid (show w0.heap.size ≤ (wr.alloc (.cells #[.int .i64 r.ir, .int .i64 r.is, .int .i64 r.st, .int .i64 r.pn, .int .i64 r.pr, .int .i64 r.bn, .int .i64 r.br, .int .i64 r.c.k, .int .i64 r.c.tc, .int .i64 r.c.tn, .int .i64 r.c.tt, .int .i64 r.c.tk, .int .i64 r.c.sh, (.slice A3 r.c.rs.length c3), (.slice A4 r.c.ws.length c4), .bool r.c.cm, .int .i64 r.sq, .int .i64 r.d0, .int .i64 r.d1, .int .i64 r.d2, .int .i64 r.d3, .int .i64 r.d4, .int .i64 r.d5, .int .i64 r.d6, .bool r.kp] 41)).heap.size from Nat.le_trans hsz hb3.size)
      have HHL := Lib.hid (show w.heap.size + 4 = w0.heap.size from HS0.out.symm)
      clear hx hxm hbl hrr htx hb3 HO HD HZ
      generalize seqs s (rcs (Y.take k)) = sk at *
      generalize depsL d (rcs (Y.take k)) = dk at *
      go_wp2_with (first
        | (with_reducible refine wpList_load_mid rfl 41 _ rfl b (o + k * 25) rfl [.int .i64 r.ir, .int .i64 r.is, .int .i64 r.st, .int .i64 r.pn, .int .i64 r.pr, .int .i64 r.bn, .int .i64 r.br, .int .i64 r.c.k, .int .i64 r.c.tc, .int .i64 r.c.tn, .int .i64 r.c.tt, .int .i64 r.c.tk, .int .i64 r.c.sh, (.slice A3 r.c.rs.length c3), (.slice A4 r.c.ws.length c4), .bool r.c.cm, .int .i64 r.sq, .int .i64 r.d0, .int .i64 r.d1, .int .i64 r.d2, .int .i64 r.d3, .int .i64 r.d4, .int .i64 r.d5, .int .i64 r.d6, .bool r.kp] _ HRR.out Tryz.underlying41 rfl (by kernel_rfl) ?_)
        | (with_reducible refine wpList_store_fresh rfl 41 _ _ rfl wr.heap.size rfl 41 _ [.int .i64 r.ir, .int .i64 r.is, .int .i64 r.st, .int .i64 r.pn, .int .i64 r.pr, .int .i64 r.bn, .int .i64 r.br, .int .i64 r.c.k, .int .i64 r.c.tc, .int .i64 r.c.tn, .int .i64 r.c.tt, .int .i64 r.c.tk, .int .i64 r.c.sh, (.slice A3 r.c.rs.length c3), (.slice A4 r.c.ws.length c4), .bool r.c.cm, .int .i64 r.sq, .int .i64 r.d0, .int .i64 r.d1, .int .i64 r.d2, .int .i64 r.d3, .int .i64 r.d4, .int .i64 r.d5, .int .i64 r.d6, .bool r.kp] rfl rfl rfl (by kernel_rfl) rfl ?_)
        | fail)
      refine HFO.out.mono ?_
      rintro e w5 ⟨rfl, rfl⟩
      go_wp2_with (first
        | (with_reducible refine wpList_load_mid rfl 39 _ rfl (w.heap.size + 1 + 1) 0 rfl [.int .i64 (dk 0), .int .i64 (dk 1), .int .i64 (dk 2), .int .i64 (dk 3), .int .i64 (dk 4), .int .i64 (dk 5), .int .i64 (dk 6)] _ HDR.out Tryz.underlying39 rfl (by kernel_rfl) ?_)
        | (with_reducible refine wpList_load_mid rfl 32 _ rfl wr.heap.size 0 rfl [.int .i64 r.ir, .int .i64 r.is] _ HI.out Tryz.underlying32 rfl (by kernel_rfl) ?_)
        | fail)
      refine HWI.out.mono ?_
      rintro e w6 ⟨rfl, hb6⟩
      have HW6 := Lib.hid (below_on HW3.out hb6)
      have HO6 := Lib.hid (ownsRow_on HO3.out hb6)
      have HD6 := Lib.hid (HD3.out.on hb6)
      have HZ6 := Lib.hid (HZ3.out.on hb6)
      have HS6 := Lib.hid (Nat.le_trans HS3.out hb6.size)
      clear hb6 hsq
      have HST := Lib.hid (show w6.there (w.heap.size + 1 + 1) 0 ([.int .i64 (Dp.M.wit dk r.ir r.is 0), .int .i64 (Dp.M.wit dk r.ir r.is 1), .int .i64 (Dp.M.wit dk r.ir r.is 2), .int .i64 (Dp.M.wit dk r.ir r.is 3), .int .i64 (Dp.M.wit dk r.ir r.is 4), .int .i64 (Dp.M.wit dk r.ir r.is 5), .int .i64 (Dp.M.wit dk r.ir r.is 6)] : List Value).length from HD6.out.there (Nat.le_refl 7))
      have HI42 : (Tryz.prog.info? 39).map (·.size) = some ([.int .i64 (Dp.M.wit dk r.ir r.is 0), .int .i64 (Dp.M.wit dk r.ir r.is 1), .int .i64 (Dp.M.wit dk r.ir r.is 2), .int .i64 (Dp.M.wit dk r.ir r.is 3), .int .i64 (Dp.M.wit dk r.ir r.is 4), .int .i64 (Dp.M.wit dk r.ir r.is 5), .int .i64 (Dp.M.wit dk r.ir r.is 6)] : List Value).length := by kernel_rfl
      have H1C : ([.int .i64 (Dp.M.wit dk r.ir r.is 0), .int .i64 (Dp.M.wit dk r.ir r.is 1), .int .i64 (Dp.M.wit dk r.ir r.is 2), .int .i64 (Dp.M.wit dk r.ir r.is 3), .int .i64 (Dp.M.wit dk r.ir r.is 4), .int .i64 (Dp.M.wit dk r.ir r.is 5), .int .i64 (Dp.M.wit dk r.ir r.is 6)] : List Value).all (·.oneCell') = true := rfl
      go_wp2_with (first
        | (with_reducible refine store_list rfl 39 (.tmp 9) (.tmp 31) rfl (w.heap.size + 1 + 1) 0 [.int .i64 (Dp.M.wit dk r.ir r.is 0), .int .i64 (Dp.M.wit dk r.ir r.is 1), .int .i64 (Dp.M.wit dk r.ir r.is 2), .int .i64 (Dp.M.wit dk r.ir r.is 3), .int .i64 (Dp.M.wit dk r.ir r.is 4), .int .i64 (Dp.M.wit dk r.ir r.is 5), .int .i64 (Dp.M.wit dk r.ir r.is 6)] rfl rfl HST.out HI42 H1C ?_)
        | fail)

      have HD7 := Lib.hid (Hold.set [.int .i64 (Dp.M.wit dk r.ir r.is 0), .int .i64 (Dp.M.wit dk r.ir r.is 1), .int .i64 (Dp.M.wit dk r.ir r.is 2), .int .i64 (Dp.M.wit dk r.ir r.is 3), .int .i64 (Dp.M.wit dk r.ir r.is 4), .int .i64 (Dp.M.wit dk r.ir r.is 5), .int .i64 (Dp.M.wit dk r.ir r.is 6)] [] [.int .i64 (dk 0), .int .i64 (dk 1), .int .i64 (dk 2), .int .i64 (dk 3), .int .i64 (dk 4), .int .i64 (dk 5), .int .i64 (dk 6)] [] rfl w6 HD6.out)
      have HZ7 := Lib.hid (hold_puts (b' := w.heap.size + 1 + 1) (o := 0) (S := [.int .i64 (Dp.M.wit dk r.ir r.is 0), .int .i64 (Dp.M.wit dk r.ir r.is 1), .int .i64 (Dp.M.wit dk r.ir r.is 2), .int .i64 (Dp.M.wit dk r.ir r.is 3), .int .i64 (Dp.M.wit dk r.ir r.is 4), .int .i64 (Dp.M.wit dk r.ir r.is 5), .int .i64 (Dp.M.wit dk r.ir r.is 6)]) HZ6.out (by omega))
      have HO7 := Lib.hid (ownsRow_setCells HO6.out (show w.heap.size + 1 + 1 < w0.heap.size by have := HHL.out; omega) [.int .i64 (Dp.M.wit dk r.ir r.is 0), .int .i64 (Dp.M.wit dk r.ir r.is 1), .int .i64 (Dp.M.wit dk r.ir r.is 2), .int .i64 (Dp.M.wit dk r.ir r.is 3), .int .i64 (Dp.M.wit dk r.ir r.is 4), .int .i64 (Dp.M.wit dk r.ir r.is 5), .int .i64 (Dp.M.wit dk r.ir r.is 6)] 0)
      have HW7 := Lib.hid (below_setCells (B := w.heap.size) (b := w.heap.size + 1 + 1) (by omega) [.int .i64 (Dp.M.wit dk r.ir r.is 0), .int .i64 (Dp.M.wit dk r.ir r.is 1), .int .i64 (Dp.M.wit dk r.ir r.is 2), .int .i64 (Dp.M.wit dk r.ir r.is 3), .int .i64 (Dp.M.wit dk r.ir r.is 4), .int .i64 (Dp.M.wit dk r.ir r.is 5), .int .i64 (Dp.M.wit dk r.ir r.is 6)] 0 _ _ HW6.out)
      have HS7 := Lib.hid (show w0.heap.size ≤ (w6.setCells (w.heap.size + 1 + 1) 0 [.int .i64 (Dp.M.wit dk r.ir r.is 0), .int .i64 (Dp.M.wit dk r.ir r.is 1), .int .i64 (Dp.M.wit dk r.ir r.is 2), .int .i64 (Dp.M.wit dk r.ir r.is 3), .int .i64 (Dp.M.wit dk r.ir r.is 4), .int .i64 (Dp.M.wit dk r.ir r.is 5), .int .i64 (Dp.M.wit dk r.ir r.is 6)]).heap.size by rw [size_puts]; exact HS6.out)
      go_roundw
      case rel => exact ⟨k + 1, by go_num, hlt, by rw [HSQ.out]; rfl, HW7, HO7, Lib.hid (by rw [HDP.out]; exact HD7.out), HZ7, HS7.out⟩
      case measure => simp [intOf]; omega
    · obtain rfl : k = Y.length := by omega
      rw [List.take_length] at HD ⊢

      have HZD := Lib.hid (HZ.out.on (Below.refl _ wr).drew)
      have HDD := Lib.hid (HD.out.on (Below.refl _ wr).drew)
      have HWD := Lib.hid (HW.out.drew)
      generalize seqs s (rcs Y) = n at *
      generalize depsL d (rcs Y) = dd at *
      have HDR := hold_range HDD.out 0 [.int .i64 (dd 0), .int .i64 (dd 1), .int .i64 (dd 2), .int .i64 (dd 3), .int .i64 (dd 4), .int .i64 (dd 5), .int .i64 (dd 6)] (fun j v hj => by rw [Nat.zero_add]; exact hj)
      have hi42 : (Tryz.prog.info? 39).map (·.size) = some ([.int .i64 (dd 0), .int .i64 (dd 1), .int .i64 (dd 2), .int .i64 (dd 3), .int .i64 (dd 4), .int .i64 (dd 5), .int .i64 (dd 6)] : List Value).length := by kernel_rfl
      go_wp2
      refine wp_region_held_drew (S := fun w' => w'.rangeAt (w.heap.size + 1 + 1) 0 [.int .i64 (dd 0), .int .i64 (dd 1), .int .i64 (dd 2), .int .i64 (dd 3), .int .i64 (dd 4), .int .i64 (dd 5), .int .i64 (dd 6)]) (by kernel_rfl) (by exact HDR) (fun hHeld => ?_)
      refine wpAnyH_take (i := 0) (oi := ⟨some 33, .move (.tmp 3), 3, _, _, none⟩) (v := ?_) rfl (by kernel_rfl) (by kernel_rfl) (by kernel_rfl) (fun _ _ _ h => h) (Or.inl ⟨by rfl, ?_⟩) (by assumption) ?_
      rotate_left
      · (intro w hSw; (try dsimp only at hSw); go_split_ands; go_simp; (try with_reducible rfl))
      (try simp only [Act.put]); (try simp only [List.setIfInBounds_toArray]); (try simp only [List.set_cons_succ]); (try simp only [List.set_cons_zero])
      refine wpAnyH_take (i := 1) (oi := ⟨some 34, .load 39 (.tmp 9), 39, _, _, none⟩) (v := .agg ([.int .i64 (dd 0), .int .i64 (dd 1), .int .i64 (dd 2), .int .i64 (dd 3), .int .i64 (dd 4), .int .i64 (dd 5), .int .i64 (dd 6)] : List Value).toArray) rfl (by kernel_rfl) (by kernel_rfl) (by kernel_rfl) (fun _ _ _ h => h) (yieldsIf_load_mid (by rfl) 39 _ rfl (w.heap.size + 1 + 1) 0 rfl [.int .i64 (dd 0), .int .i64 (dd 1), .int .i64 (dd 2), .int .i64 (dd 3), .int .i64 (dd 4), .int .i64 (dd 5), .int .i64 (dd 6)] _ (fun w hSw => hSw) Tryz.underlying39 rfl hi42) (by assumption) ?_
      (try simp only [Act.put]); (try simp only [List.setIfInBounds_toArray]); (try simp only [List.set_cons_succ]); (try simp only [List.set_cons_zero])
      refine wpAnyH_take (i := 2) (oi := ⟨some 10, .assign (.tmp 33), 3, _, _, none⟩) (v := ?_) rfl (by kernel_rfl) (by kernel_rfl) (by kernel_rfl) (fun _ _ _ h => h) (Or.inl ⟨by rfl, ?_⟩) (by assumption) ?_
      rotate_left
      · (intro w hSw; (try dsimp only at hSw); go_split_ands; go_simp; (try with_reducible rfl))
      (try simp only [Act.put]); (try simp only [List.setIfInBounds_toArray]); (try simp only [List.set_cons_succ]); (try simp only [List.set_cons_zero])
      refine wpAnyH_store (i := 3) (o := ⟨none, .store 39 (.tmp 11) (.tmp 34), 0, _, _, none⟩) (by kernel_rfl) rfl rfl 39 (.tmp 11) (.tmp 34) rfl (w.heap.size + 1 + 1 + 1) 39 [.int .i64 0, .int .i64 0, .int .i64 0, .int .i64 0, .int .i64 0, .int .i64 0, .int .i64 0] [.int .i64 (dd 0), .int .i64 (dd 1), .int .i64 (dd 2), .int .i64 (dd 3), .int .i64 (dd 4), .int .i64 (dd 5), .int .i64 (dd 6)] rfl rfl HZD.out rfl hi42 rfl (by exact hold_range (hold_puts HDD.out (by omega) 0) 0 [.int .i64 (dd 0), .int .i64 (dd 1), .int .i64 (dd 2), .int .i64 (dd 3), .int .i64 (dd 4), .int .i64 (dd 5), .int .i64 (dd 6)] (fun j v hj => by rw [Nat.zero_add]; exact hj)) ?_
      (try simp only [Act.put]); (try simp only [List.setIfInBounds_toArray]); (try simp only [List.set_cons_succ]); (try simp only [List.set_cons_zero])
      refine wpAnyH_done (by kernel_rfl) ?_ _
      have RH := Lib.hid (Hold.set [.int .i64 (dd 0), .int .i64 (dd 1), .int .i64 (dd 2), .int .i64 (dd 3), .int .i64 (dd 4), .int .i64 (dd 5), .int .i64 (dd 6)] [] [.int .i64 0, .int .i64 0, .int .i64 0, .int .i64 0, .int .i64 0, .int .i64 0, .int .i64 0] [] rfl _ HZD.out)
      have BF := Lib.hid (below_setCells (B := w.heap.size) (b := w.heap.size + 1 + 1 + 1) (by omega) [.int .i64 (dd 0), .int .i64 (dd 1), .int .i64 (dd 2), .int .i64 (dd 3), .int .i64 (dd 4), .int .i64 (dd 5), .int .i64 (dd 6)] 0 _ _ HWD.out)
      clear HDR hHeld HZD HDD HWD
      go_wp2
      refine bodyPost_ret (results_vc rfl rfl rfl RH.out.cel.whole _ Tryz.underlying39 rfl (by kernel_rfl)) rfl ?_
      exact ⟨by rw [HAS.out, HAD.out]; rfl, BF.out⟩
end Go.Proofs.YtpknkhgkejkpkaaGreat
