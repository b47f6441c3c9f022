/- A map beside a log; the operations on a map of rows; what a map of the current has; conditions: those that each names. -/
import Derived.Test.YtdachohcjpjblaaGreatDoorLIns
import Derived.Test.YtdachohcjpjblaaGreatDoorLGet
set_option maxHeartbeats 8000000
set_option maxRecDepth 100000
namespace Go.Proofs.YtdachohcjpjblaaGreatDoor
open Go.ChangeShapes Go.WideShapes Go.ChangeAt Go.RowKit
open Di (Keeps In below_on below_new)
open Wi (Hold)
open Go.Maps
namespace Ls
structure Turn (gm : Nat) (w w' : World) : Prop where
 k : Keeps (fun j => j = gm) w w'
 m : ∃ o, w.heap[gm]? = some o ∧ o.isWalk = true
theorem Turn.cell {gm : Nat} {w w' : World} (h : Turn gm w w') {b o : Nat} {x : Value} (hb : b < w.heap.size) (hc : w.cell? ⟨b, o, none⟩ = some x) : w'.cell? ⟨b, o, none⟩ = some x := by
 refine (h.k.cell (p := ⟨b, o, none⟩) hb ?_).trans hc
 intro e
 obtain ⟨ob, he, hw⟩ := h.m
 have e1 : b = gm := e
 subst e1
 unfold World.cell? at hc
 rw [he] at hc
 cases ob with
 | cells cur ty fz => simp [Obj.isWalk] at hw
 | _ => cases hc
theorem Turn.rowN {gm : Nat} {w w' : World} (h : Turn gm w w') {k : Nat} {v : Value} {n : Nat} {xs : List Value} (r : Wi.RowN k w v n xs) : Wi.RowN k w' v n xs := by
 obtain ⟨hl, A, c, e, hc, hx⟩ := r
 refine ⟨hl, A, c, e, hc, fun h0 => ?_⟩
 obtain ⟨b, o, rfl, hb, hy⟩ := hx h0
 exact ⟨b, o, rfl, Nat.lt_of_lt_of_le hb h.k.size, fun j x hj => h.cell hb (hy j x hj)⟩
theorem Turn.bts {gm : Nat} {w w' : World} (h : Turn gm w w') {v : Value} {xs : List UInt8} (r : Fr.Bts w v xs) : Fr.Bts w' v xs := by
 obtain ⟨A, c, e, hc, hx⟩ := r
 refine ⟨A, c, e, hc, fun h0 => ?_⟩
 obtain ⟨b, o, rfl, hb, hy⟩ := hx h0
 exact ⟨b, o, rfl, Nat.lt_of_lt_of_le hb h.k.size, fun j x hj => h.cell hb (hy j x hj)⟩
theorem Turn.tx {gm : Nat} {w w' : World} (h : Turn gm w w') {F : Nat → Prop} {x : Rv} (t : Tx w F x) : Tx w' F x :=
 ⟨h.rowN t.rs, h.rowN t.ws, t.oa.below h.k.size, t.ob.below h.k.size, t.rg⟩
theorem Turn.log {gm : Nat} {w w' : World} (h : Turn gm w w') {gl gd : Nat} {F : Nat → Prop} {s : Di.M.St} (l : Log w gl gd F s) (hF : ¬ F gm) (h0 : gm ≠ 0) : Log w' gl gd F s := by
 obtain ⟨gc, Fd, Fc, X, rest, A, c, vr, ve, gm', L, hf⟩ := l
 have n1 : ∀ x, Fd x → ¬ x = gm := fun x f e => hF ((hf gm).2 (.inl (e ▸ f)))
 have n2 : ∀ x, Fc x → ¬ x = gm := fun x f e => hF ((hf gm).2 (.inr (.inl (e ▸ f))))
 have n3 : ¬ gl = gm := fun e => hF ((hf gm).2 (.inr (.inr e.symm)))
 have C := L.ct
 refine ⟨gc, Fd, Fc, X, rest, A, c, vr, ve, gm', ⟨hold_keeps L.blk h.k n3, L.dk.keeps h.k n1,
  ⟨hold_keeps C.blk h.k (n2 _ C.fgc), owns_keeps C.row h.k fun b e => n2 b (C.fvr b e), owns_keeps C.ends h.k fun b e => n2 b (C.fve b e), C.mp.keeps h.k (n2 _ C.fgm), fun x hx => h.tx (C.tx x hx), fun p hp => h.tx (C.tm p hp), C.fgc, C.fgm, C.fvr, C.fve, fun x f => Nat.lt_of_lt_of_le (C.lt x f) h.k.size⟩,
  h.bts L.fr, L.fo.below h.k.size, fun x hx' => ⟨(L.txd x hx').1.below h.k.size, (L.txd x hx').2.below h.k.size⟩, L.ap, L.nd, L.nc, L.sz, tab_keeps L.tab h.k (fun e => h0 e.symm), L.zd, L.zc, L.zl⟩, hf⟩
section
variable (w : World) {ops : Array Oper} {rest : List Oper} {o : Oper} {a : Act} {Q : Exit → Act → World → Prop}
theorem wpList_range (hg : o.guard = none) (mm : Operand) (hop : o.op = Op.range 73 mm) (gm : Nat) (m : List (Ky × Rv)) (hm : a.eval mm = .map (some gm)) (h : MapIs w gm m)
 (hK : ∀ w' L, Rg.Ranging w' gm w.heap.size m L → L.map (fun e => Rg.ky e.key) = m.map (·.1) → w.grownBy w' none → w'.heap.size = w.heap.size + 1 → wpList Tryz.prog ops Q rest (a.put o.dst (.pointer (some ⟨w.heap.size, 0, none⟩))) w') :
 wpList Tryz.prog ops Q (o :: rest) a w := by
 refine wpList_plain hg fun K' hK' => ?_
 obtain ⟨w', L, hrun, r1, r2, r3, r4⟩ := Rg.start h
 unfold Oper.wp
 simp [execOp, hop, hm, hrun, Result.andThen]
 exact hK' _ _ (hK w' L r1 r2 r3 r4)
theorem wpList_next (hg : o.guard = none) (it : Operand) (hop : o.op = Op.next it false) (gm r : Nat) (m : List (Ky × Rv)) (L : List MapEntry)
 (hit : a.eval it = .pointer (some ⟨r, 0, none⟩)) (h : Rg.Ranging w gm r m L)
 (hDone : L = [] → wpList Tryz.prog ops Q rest (a.put o.dst (.tuple #[.bool false])) w)
 (hMore : ∀ (k1 k2 : Int) (y : Rv) (L' : List MapEntry) (w' : World), ((k1, k2), y) ∈ m → (L.map (fun e => Rg.ky e.key)).Perm ((k1, k2) :: L'.map (fun e => Rg.ky e.key)) → L'.length < L.length → Rg.Ranging w' gm r m L' → w.grownBy w' (some r) → w'.heap.size = w.heap.size → (Instr.entry (.pointer (some ⟨r, 0, none⟩))).run Tryz.prog w' = .ok (.tuple #[.agg #[.int .i64 k1,.int .i64 k2], y.val]) w' → wpList Tryz.prog ops Q rest (a.put o.dst (.tuple #[.bool true,.agg #[.int .i64 k1,.int .i64 k2], y.val])) w') :
 wpList Tryz.prog ops Q (o :: rest) a w := by
 refine wpList_plain hg fun K' hK' => ?_
 unfold Oper.wp
 rcases Rg.next h o.type with ⟨h0, hrun⟩ | ⟨⟨⟨k1, k2⟩, y⟩, L', w', h1, h2, h3, hrun, h4, h5, h6, h7⟩
 ·simp [execOp, hop, hit, hrun, Result.andThen]
  exact hK' _ _ (hDone h0)
 ·simp [execOp, hop, hit, hrun, Result.andThen]
  exact hK' _ _ (hMore k1 k2 y L' w' h1 h2 h3 h4 h5 h6 h7)
theorem wpList_put (hg : o.guard = none) (mm x v : Operand) (hop : o.op = Op.mapUpdate 73 mm x v) (gm : Nat) (m : List (Ky × Rv)) (hm : a.eval mm = .map (some gm)) (h : MapIs w gm m) (k : Ky) (y : Rv) (hx : a.eval x = kv k) (hv : a.eval v = y.val)
 (hK : ∀ w', MapIs w' gm (mput m k y) → Turn gm w w' → w'.heap.size = w.heap.size → wpList Tryz.prog ops Q rest (a.put o.dst undef) w') : wpList Tryz.prog ops Q (o :: rest) a w := by
 refine wpList_plain hg fun K' hK' => ?_
 obtain ⟨w', hrun, r1, r2, r3⟩ := run_put h k y
 have hmm : ∃ o : Obj, w.heap[gm]? = some o ∧ o.isWalk = true := by obtain ⟨es, ck, hb, -⟩ := h; exact ⟨_, hb, rfl⟩
 unfold Oper.wp
 simp [execOp, hop, hm, hx, hv, hrun, Result.andThen]
 exact hK' _ _ (hK w' r1 ⟨r2, hmm⟩ r3)
theorem wpList_len (hg : o.guard = none) (mm : Operand) (hop : o.op = Op.call { callee := Callee.builtin Builtin.len, args := #[mm], argTypes := #[73] }) (gm : Nat) (m : List (Ky × Rv)) (hm : a.eval mm = .map (some gm)) (h : MapIs w gm m)
 (hK : wpList Tryz.prog ops Q rest (a.put o.dst (.int .i64 (m.length : Int))) w) : wpList Tryz.prog ops Q (o :: rest) a w := by
 refine wpList_plain hg fun K' hK' => ?_
 have hrun : ∀ ty, (Builtin.len_ #[73] ty #[.map (some gm)]).run Tryz.prog w = .ok (.int .i64 (m.length : Int)) w := fun ty => by
  obtain ⟨es, ck, hb, he, _⟩ := h
  have hl : es.size = m.length := by have := congrArg List.length he; simpa using this
  rw [← hl]
  simp [Builtin.len_, run_underlying It.u73, MapKept.run_getObj_map hb, goInt, Result.andThen]
 unfold Oper.wp
 simp [execOp, hop, resolve, invoke, builtin, hm, hrun o.type, Result.andThen]
 exact hK' _ _ hK
end
theorem mput_keys (m : List (Ky × Rv)) (k : Ky) (x : Rv) : (mput m k x).map (·.1) = if k ∈ m.map (·.1) then m.map (·.1) else m.map (·.1) ++ [k] := by
 induction m with
 | nil => simp [mput]
 | cons p m ih =>
   unfold mput
   by_cases h : k = p.1
   ·simp [h]
   ·rw [if_neg h, List.map_cons, ih]
    by_cases h2 : k ∈ m.map (·.1)
    ·rw [if_pos h2, if_pos (by simp only [List.map_cons, List.mem_cons]; exact .inr h2)]; rfl
    ·rw [if_neg h2, if_neg (by simp only [List.map_cons, List.mem_cons]; exact fun e => e.elim h h2)]; rfl
theorem cur_nodup (X : List Rv) : ((cur X).map (·.1)).Nodup := by
 refine snoc_ind (P := fun X => ((cur X).map (·.1)).Nodup) (by simp [cur_nil]) (fun l x ih => ?_) X
 rw [cur_snoc, mput_keys]
 split
 ·exact ih
 ·rename_i h
  exact List.nodup_append.2 ⟨ih, by simp, fun a ha b hb => by
   simp only [List.mem_singleton] at hb
   subst hb
   intro e
   rw [e] at ha
   exact h ha⟩
theorem mget_mem : ∀ {m : List (Ky × Rv)} {k : Ky} {x : Rv}, (m.map (·.1)).Nodup → (k, x) ∈ m → mget m k = some x
 | [], _, _, _, h => (List.not_mem_nil h).elim
 | p :: m, k, x, hn, h => by
   obtain ⟨h1, h2⟩ := List.nodup_cons.1 (by simpa using hn : (p.1 :: m.map (·.1)).Nodup)
   unfold mget
   rcases List.mem_cons.1 h with rfl | h
   ·simp
   ·have hne : ¬ k = p.1 := fun e => h1 (by rw [← e]; exact List.mem_map.2 ⟨_, h, rfl⟩)
    rw [if_neg hne, mget_mem h2 h]
theorem cur_last {Z : List Rv} {k : Ky} {y : Rv} (h : (k, y) ∈ cur Z) : K.lastR (rcs Z) k = some y.r := by
 have := mget_mem (cur_nodup Z) h
 rw [mget_cur] at this
 rw [← lastX_rcs, this]
 rfl
theorem cur_keys (X Y : List Rv) (h : rcs X = rcs Y) : (cur X).map (·.1) = (cur Y).map (·.1) := by
 have hk : ∀ (X : List Rv) (m m' : List (Ky × Rv)) (Y : List Rv), m.map (·.1) = m'.map (·.1) → rcs X = rcs Y → (X.foldl (fun m x => mput m x.key x) m).map (·.1) = (Y.foldl (fun m x => mput m x.key x) m').map (·.1) := by
  intro X
  induction X with
  | nil => intro m m' Y hm hr; cases Y with
    | nil => simpa using hm
    | cons y Y => simp [rcs] at hr
  | cons x X ih => intro m m' Y hm hr; cases Y with
    | nil => simp [rcs] at hr
    | cons y Y =>
      simp only [rcs, List.map_cons, List.cons.injEq] at hr
      simp only [List.foldl_cons]
      refine ih _ _ Y ?_ hr.2
      have : x.key = y.key := by unfold Rv.key; rw [hr.1]
      rw [mput_keys, mput_keys, hm, this]
 exact hk X [] [] Y rfl h
end Ls
end Go.Proofs.YtdachohcjpjblaaGreatDoor
