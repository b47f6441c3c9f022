/- What a log has read, in memory: its block, its rows, its map, the texts of its records; what one record more leaves; no conditions but those that each theorem names. -/
import Derived.Test.YtdachohcjpjblaaGreatDoorFMp
import Derived.Test.YtdachohcjpjblaaGreatDoorFMath
import Derived.Test.YtdachohcjpjblaaGreatDoorFWiH
import Derived.Maps.AppendAt
set_option maxHeartbeats 8000000
set_option maxRecDepth 100000
namespace Go.Proofs.YtdachohcjpjblaaGreatDoor
open Go.RowKit
open Di (Keeps In)
open Wi (Hold)
theorem hold_lt {w : World} {b : Nat} {t : TypeId} {L : List Value} (h : Hold w b t L) : b < w.heap.size := (Array.getElem?_eq_some_iff.1 h).1
theorem hold_cell {w : World} {b : Nat} {t : TypeId} {L : List Value} (h : Hold w b t L) (o : Nat) {v : Value} (hv : L[o]? = some v) : w.cell? ⟨b, o, none⟩ = some v := h.cel.get o v hv
theorem hold_soft {w : World} {b : Nat} {t : TypeId} {L : List Value} (h : Hold w b t L) (o : Nat) : w.frozen? ⟨b, o, none⟩ = false := frozen_of_row w b o _ t h
theorem hold_put {w : World} {b : Nat} {t : TypeId} {L : List Value} (h : Hold w b t L) (o : Nat) (v : Value) : Hold (w.setCell ⟨b, o, none⟩ v) b t (L.set o v) := by
 unfold Wi.Hold at h ⊢
 rw [heap_setCell_same w b o _ t _ h]
 simp
def Out (F : Nat → Prop) (w : World) (v : Value) : Prop := ∀ b, v.ownBlock = some b → ¬ F b ∧ b < w.heap.size
theorem Out.step {F F' : Nat → Prop} {w w' : World} {v : Value} (h : Out F w v) (hs : w.heap.size ≤ w'.heap.size) (hF : ∀ x, F' x → F x ∨ w.heap.size ≤ x) : Out F' w' v := fun b e =>
 ⟨fun f => (hF b f).elim (h b e).1 (fun g => by have := (h b e).2; omega), by have := (h b e).2; omega⟩
theorem Out.nil (F : Nat → Prop) (w : World) (n c : Nat) : Out F w (.slice none n c) := fun b e => by simp [Value.ownBlock] at e
theorem Out.of_owns {F : Nat → Prop} {w : World} {base : Nat} {t : TypeId} {k : Nat} {v : Value} {n : Nat} {xs : List Value} (h : w.ownsRow base t k v n xs) (hF : ∀ x, F x → x < base) : Out F w v := by
 rcases h.2 with ⟨rfl, -⟩ | ⟨b, cap, cur, rfl, hb, hblk, -⟩
 ·exact Out.nil _ _ _ _
 ·intro b' e
  simp only [Value.ownBlock, Option.some.injEq] at e
  subst e
  exact ⟨fun f => by have := hF _ f; omega, (Array.getElem?_eq_some_iff.1 hblk).1⟩
theorem rowN_keeps {k : Nat} {w w' : World} {v : Value} {n : Nat} {xs : List Value} {F : Nat → Prop} (h : Wi.RowN k w v n xs) (ho : Out F w v) (hb : Keeps F w w') : Wi.RowN k w' v n xs := by
 obtain ⟨hl, A, c, rfl, hc, hx⟩ := h
 refine ⟨hl, A, c, rfl, hc, fun h0 => ?_⟩
 obtain ⟨b, o, rfl, hlt, hy⟩ := hx h0
 exact ⟨b, o, rfl, Nat.lt_of_lt_of_le hlt hb.size, fun j x hj => (hb.cell (p := ⟨b, o + j, none⟩) hlt (ho b rfl).1).trans (hy j x hj)⟩
theorem owns_keeps {w w' : World} {base : Nat} {t : TypeId} {k : Nat} {v : Value} {n : Nat} {xs : List Value} {G : Nat → Prop} (h : w.ownsRow base t k v n xs) (hb : Keeps G w w') (hG : ∀ b, v.ownBlock = some b → ¬ G b) : w'.ownsRow base t k v n xs := by
 refine ⟨h.1, ?_⟩
 rcases h.2 with h0 | ⟨b, cap, cur, rfl, hbb, hblk, r⟩
 ·exact .inl h0
 ·exact .inr ⟨b, cap, cur, rfl, hbb, (hb.block b (Array.getElem?_eq_some_iff.1 hblk).1 (hG b rfl)).trans hblk, r⟩
theorem owns_lt {w : World} {base : Nat} {t : TypeId} {k : Nat} {v : Value} {n : Nat} {xs : List Value} (h : w.ownsRow base t k v n xs) : ∀ b, v.ownBlock = some b → ∃ cur, w.heap[b]? = some (.cells cur t (0, 0)) := by
 intro b e
 rcases h.2 with ⟨rfl, -⟩ | ⟨b', cap, cur, rfl, -, hblk, -⟩
 ·cases e
 ·simp only [Value.ownBlock, Option.some.injEq] at e
  subst e
  exact ⟨cur, hblk⟩
theorem hold_keeps {w w' : World} {b : Nat} {t : TypeId} {L : List Value} {G : Nat → Prop} (h : Hold w b t L) (hb : Keeps G w w') (hG : ¬ G b) : Hold w' b t L := (hb.block b (hold_lt h) hG).trans h
structure Tx (w : World) (F : Nat → Prop) (x : Rv) : Prop where
 rs : Wi.Rds w x.va x.r.c.rs
 ws : Wi.Wrs w x.vb x.r.c.ws
 oa : Out F w x.va
 ob : Out F w x.vb
 rg : Wi.M.rightR x.r = true
theorem Tx.step {w w' : World} {F F' : Nat → Prop} {x : Rv} (h : Tx w F x) (hb : Keeps F w w') (hF : ∀ x, F' x → F x ∨ w.heap.size ≤ x) : Tx w' F' x :=
 ⟨rowN_keeps h.rs h.oa hb, rowN_keeps h.ws h.ob hb, h.oa.step hb.size hF, h.ob.step hb.size hF, h.rg⟩
structure Ct (w : World) (gc : Nat) (F : Nat → Prop) (X : List Rv) (E : List Int) (m : List (Ky × Rv)) (rest : Int) (fr vr ve : Value) (gm : Nat) : Prop where
 blk : Hold w gc 86 [fr,.int .i64 rest, vr, ve, .map (some gm)]
 row : w.ownsRow 0 67 25 vr X.length (X.flatMap Rv.cells)
 ends : w.ownsRow 0 3 1 ve E.length (E.map (.int .i64))
 mp : MapIs w gm m
 tx : ∀ x ∈ X, Tx w F x
 tm : ∀ p ∈ m, Tx w F p.2
 fgc : F gc
 fgm : F gm
 fvr : In F vr
 fve : In F ve
 lt : ∀ x, F x → x < w.heap.size
theorem Ct.turn {w w' : World} {gc : Nat} {F G : Nat → Prop} {X : List Rv} {E : List Int} {m : List (Ky × Rv)} {rest : Int} {fr vr ve : Value} {gm : Nat} (h : Ct w gc F X E m rest fr vr ve gm) (k : Keeps G w w') (hG : ∀ x, F x → ¬ G x) (hT : ∀ b, b < w.heap.size → ¬ F b → G b → ∀ x, (x ∈ X ∨ ∃ k, (k, x) ∈ m) → x.va.ownBlock ≠ some b ∧ x.vb.ownBlock ≠ some b) : Ct w' gc F X E m rest fr vr ve gm := by
 have tx1 : ∀ x, (x ∈ X ∨ ∃ k, (k, x) ∈ m) → Tx w F x → Tx w' F x := fun x hx t =>
  ⟨rowN_keeps (F := G) t.rs (fun b e => ⟨fun g => (hT b (t.oa b e).2 (t.oa b e).1 g x hx).1 e, (t.oa b e).2⟩) k, rowN_keeps (F := G) t.ws (fun b e => ⟨fun g => (hT b (t.ob b e).2 (t.ob b e).1 g x hx).2 e, (t.ob b e).2⟩) k, t.oa.step k.size (fun _ f => .inl f), t.ob.step k.size (fun _ f => .inl f), t.rg⟩
 exact ⟨hold_keeps h.blk k (hG _ h.fgc), owns_keeps h.row k fun b e => hG b (h.fvr b e), owns_keeps h.ends k fun b e => hG b (h.fve b e), h.mp.keeps k (hG _ h.fgm), fun x hx => tx1 x (.inl hx) (h.tx x hx), fun p hp => tx1 p.2 (.inr ⟨p.1, hp⟩) (h.tm p hp), h.fgc, h.fgm, h.fvr, h.fve, fun x f => Nat.lt_of_lt_of_le (h.lt x f) k.size⟩
theorem Ct.store {w w' : World} {gc : Nat} {F G : Nat → Prop} {X : List Rv} {E : List Int} {m : List (Ky × Rv)} {rest : Int} {fr vr ve : Value} {gm : Nat} (h : Ct w gc F X E m rest fr vr ve gm) (k : Keeps G w w') (hG : ∀ x, G x → F x) (h1 : ¬ G gc) (h2 : ¬ G gm) (h3 : ∀ b, vr.ownBlock = some b → ¬ G b) (h4 : ∀ b, ve.ownBlock = some b → ¬ G b) : Ct w' gc F X E m rest fr vr ve gm :=
 have kF : Keeps F w w' := k.wide fun x _ => hG x
 ⟨hold_keeps h.blk k h1, owns_keeps h.row k h3, owns_keeps h.ends k h4, h.mp.keeps k h2, fun x hx => (h.tx x hx).step kF (fun _ f => .inl f), fun p hp => (h.tm p hp).step kF (fun _ f => .inl f), h.fgc, h.fgm, h.fvr, h.fve, fun x f => Nat.lt_of_lt_of_le (h.lt x f) k.size⟩
theorem Ct.below {w w' : World} {gc : Nat} {F : Nat → Prop} {X : List Rv} {E : List Int} {m : List (Ky × Rv)} {rest : Int} {fr vr ve : Value} {gm : Nat} (h : Ct w gc F X E m rest fr vr ve gm) (k : Below w.heap.size w w') : Ct w' gc F X E m rest fr vr ve gm :=
 h.turn (G := fun _ => False) (Keeps.of_below k) (fun _ _ e => e) (fun _ _ _ e => e.elim)
theorem Ct.wide {w0 w : World} {gc : Nat} {F F' : Nat → Prop} {X : List Rv} {E : List Int} {m : List (Ky × Rv)} {rest : Int} {fr vr ve : Value} {gm : Nat} (h : Ct w gc F X E m rest fr vr ve gm) (h1 : ∀ x, F x → F' x) (h2 : ∀ x, F' x → F x ∨ w0.heap.size ≤ x) (h3 : ∀ x, F' x → x < w.heap.size)
 (h4 : ∀ x, (x ∈ X ∨ ∃ k, (k, x) ∈ m) → Out F w0 x.va ∧ Out F w0 x.vb) : Ct w gc F' X E m rest fr vr ve gm := by
 have tx1 : ∀ x, (x ∈ X ∨ ∃ k, (k, x) ∈ m) → Tx w F x → Tx w F' x := fun x hx t =>
  ⟨t.rs, t.ws, fun b e => ⟨fun f => (h2 b f).elim (t.oa b e).1 (fun g => by have := ((h4 x hx).1 b e).2; omega), (t.oa b e).2⟩, fun b e => ⟨fun f => (h2 b f).elim (t.ob b e).1 (fun g => by have := ((h4 x hx).2 b e).2; omega), (t.ob b e).2⟩, t.rg⟩
 exact ⟨h.blk, h.row, h.ends, h.mp, fun x hx => tx1 x (.inl hx) (h.tx x hx), fun p hp => tx1 p.2 (.inr ⟨p.1, hp⟩) (h.tm p hp), h1 _ h.fgc, h1 _ h.fgm, fun b e => h1 _ (h.fvr b e), fun b e => h1 _ (h.fve b e), h3⟩
def Add (F : Nat → Prop) (w w' : World) : Nat → Prop := fun x => F x ∨ (w.heap.size ≤ x ∧ x < w'.heap.size)
theorem info67 : (Tryz.prog.info? 67).map (fun i => (i.zero, i.size, i.bytes)) = some (some Rv.zero.val, 25, 232) := by kernel_rfl
theorem info3 : (Tryz.prog.info? 3).map (fun i => (i.zero, i.size, i.bytes)) = some (some (.int .i64 0), 1, 8) := by kernel_rfl
theorem Ct.set {w : World} {gc : Nat} {F : Nat → Prop} {X : List Rv} {E : List Int} {m : List (Ky × Rv)} {rest : Int} {fr vr ve : Value} {gm : Nat} (h : Ct w gc F X E m rest fr vr ve gm) (i : Nat) (v : Value) {fr' vr' ve' : Value} {rest' : Int} {X' : List Rv} {E' : List Int}
 (hL : ([fr,.int .i64 rest, vr, ve, .map (some gm)] : List Value).set i v = [fr',.int .i64 rest', vr', ve', .map (some gm)])
 (hr : w.ownsRow 0 67 25 vr' X'.length (X'.flatMap Rv.cells)) (he : w.ownsRow 0 3 1 ve' E'.length (E'.map (.int .i64))) (hx : ∀ x ∈ X', Tx w F x) (hfr : In F vr') (hfe : In F ve') :
 Ct (w.setCell ⟨gc, i, none⟩ v) gc F X' E' m rest' fr' vr' ve' gm := by
 have k : Keeps (fun x => x = gc) w (w.setCell ⟨gc, i, none⟩ v) := (Keeps.refl (fun x => x = gc) w).setCell (p := ⟨gc, i, none⟩) (.inl rfl) v
 have tx1 : ∀ x, Tx w F x → Tx (w.setCell ⟨gc, i, none⟩ v) F x := fun x t =>
  t.step ((Keeps.refl _ w).setCell (p := ⟨gc, i, none⟩) (.inl h.fgc) v) (fun _ f => .inl f)
 have ne : ∀ t, t ≠ 86 → ∀ u n k xs, w.ownsRow 0 t k u n xs → ∀ b, u.ownBlock = some b → ¬ b = gc := by
  rintro t ht u n k xs ho b e rfl
  obtain ⟨cur, hc⟩ := owns_lt ho _ e
  have hb := h.blk
  unfold Wi.Hold at hb
  rw [hb] at hc
  simp only [Option.some.injEq, Obj.cells.injEq] at hc
  exact ht hc.2.1.symm
 refine ⟨?_, owns_keeps hr k (ne 67 (by decide) _ _ _ _ hr), owns_keeps he k (ne 3 (by decide) _ _ _ _ he), h.mp.keeps k ?_, fun x hx' => tx1 x (hx x hx'), fun p hp => tx1 p.2 (h.tm p hp), h.fgc, h.fgm, hfr, hfe, fun x f => by rw [Di.size_set]; exact h.lt x f⟩
 ·have := hold_put h.blk i v
  rw [hL] at this
  exact this
 ·have hb := h.blk
  unfold Wi.Hold at hb
  exact (h.mp.apart hb).symm
theorem Ct.putR {w : World} {gc : Nat} {F : Nat → Prop} {X : List Rv} {E : List Int} {m : List (Ky × Rv)} {rest : Int} {fr vr ve : Value} {gm : Nat} (h : Ct w gc F X E m rest fr vr ve gm) (x : Rv) (hx : Tx w F x) (hl : X.length ≤ 500000) :
 ∃ v' w', (Builtin.append_ #[31, 31] 31 #[vr,.slice (some ⟨w.heap.size, 0, none⟩) 1 1]).run Tryz.prog (w.alloc (.cells x.cells.toArray 67)) = .ok v' w' ∧ w'.cell? ⟨gc, 2, none⟩ = some vr ∧ w'.frozen? ⟨gc, 2, none⟩ = false ∧
   Ct (w'.setCell ⟨gc, 2, none⟩ v') gc (Add F w w') (X ++ [x]) E m rest fr v' ve gm ∧ Keeps F w (w'.setCell ⟨gc, 2, none⟩ v') ∧ w.heap.size < w'.heap.size ∧ Keeps (fun y => y = gc ∨ vr.ownBlock = some y) w (w'.setCell ⟨gc, 2, none⟩ v') := by
 obtain ⟨i0, hi, hz0, hz1, hz2⟩ := info_parts info67
 have hnew : ∀ (j : Nat) (u : Value), x.cells[j]? = some u → (w.alloc (.cells x.cells.toArray 67)).cell? ((⟨w.heap.size, 0, none⟩ : Addr).add j) = some u := fun j u hj => by
  rw [Di.add_plain', Nat.zero_add]
  exact (Wi.Cel.new w x.cells 67).get j u hj
 have h1 : ∀ u ∈ x.cells, u.oneCell' = true := by
  obtain ⟨A1, c1, ea⟩ : ∃ A c, x.va = .slice A x.r.c.rs.length c := by obtain ⟨_, A, c, e, _⟩ := hx.rs; exact ⟨A, c, e⟩
  obtain ⟨A2, c2, eb⟩ : ∃ A c, x.vb = .slice A x.r.c.ws.length c := by obtain ⟨_, A, c, e, _⟩ := hx.ws; exact ⟨A, c, e⟩
  intro u hu
  simp only [Rv.cells, ea, eb, List.mem_cons, List.not_mem_nil, or_false] at hu
  rcases hu with rfl | rfl | rfl | rfl | rfl | rfl | rfl | rfl | rfl | rfl | rfl | rfl | rfl | rfl | rfl | rfl | rfl | rfl | rfl | rfl | rfl | rfl | rfl | rfl | rfl <;> rfl
 obtain ⟨v', w', hr, hown, hgrow, -, hloc⟩ := run_append_own_at (P := Tryz.prog) (w.alloc (.cells x.cells.toArray 67)) 0 31 31 67 i0 Rv.zero.val 25 232 Tryz.underlying31 hi hz0 hz1 hz2 rfl (by omega) vr X.length _ (World.ownsRow.alloc h.row _) ⟨w.heap.size, 0, none⟩ 1 1 x.cells (by simp [Rv.cells]) hnew h1 (by unfold maxLen; omega) (by omega) (Nat.zero_le _)
 have kA : Keeps (fun y => vr.ownBlock = some y) w w' := ((Keeps.refl _ w).alloc _).trans (Keeps.of_grown (F := fun y => vr.ownBlock = some y) hgrow (fun y e => e)) (fun _ _ e => e)
 have kF : Keeps F w w' := kA.wide fun y _ e => h.fvr y e
 have hsz : w.heap.size < w'.heap.size := by have := hgrow.size; simp at this; omega
 have ne : ∀ b cur t, t ≠ 67 → w.heap[b]? = some (.cells cur t (0, 0)) → ¬ vr.ownBlock = some b := by
  intro b cur t ht hb e
  obtain ⟨cur', hc⟩ := owns_lt h.row b e
  rw [hb] at hc
  simp only [Option.some.injEq, Obj.cells.injEq] at hc
  exact ht hc.2.1
 have hblk := h.blk
 unfold Wi.Hold at hblk
 have blk' : Hold w' gc 86 [fr,.int .i64 rest, vr, ve, .map (some gm)] := hold_keeps h.blk kA (ne gc _ 86 (by decide) hblk)
 have ends' : w'.ownsRow 0 3 1 ve E.length (E.map (.int .i64)) := owns_keeps h.ends kA fun b e => by
  obtain ⟨cur, hc⟩ := owns_lt h.ends b e
  exact ne b _ 3 (by decide) hc
 have mp' : MapIs w' gm m := h.mp.keeps kA fun e => by
  obtain ⟨cur, hc⟩ := owns_lt h.row gm e
  exact h.mp.apart hc rfl
 have hstep : ∀ y, Add F w w' y → F y ∨ w.heap.size ≤ y := fun y e => e.imp id (·.1)
 have hlt' : ∀ y, Add F w w' y → y < w'.heap.size := fun y e => e.elim (fun f => Nat.lt_of_lt_of_le (h.lt y f) kF.size) (·.2)
 have row' : w'.ownsRow 0 67 25 v' (X ++ [x]).length ((X ++ [x]).flatMap Rv.cells) := by
  rw [List.length_append, List.length_singleton, List.flatMap_append, List.flatMap_singleton]
  exact hown
 have fv' : In (Add F w w') v' := fun b e => by
  rcases hloc with e1 | e1
  ·exact .inl (h.fvr b (e1.symm.trans e))
  ·rw [e1] at e
   simp only [Option.some.injEq] at e
   subst e
   obtain ⟨cur, hc⟩ := owns_lt hown _ e1
   exact .inr ⟨by simp, (Array.getElem?_eq_some_iff.1 hc).1⟩
 have base : Ct (w'.setCell ⟨gc, 2, none⟩ v') gc (Add F w w') (X ++ [x]) E m rest fr v' ve gm := by
  have tx' : ∀ y, Tx w F y → Tx w' (Add F w w') y := fun y t => t.step kF hstep
  have tx2 : ∀ y, Tx w F y → Tx (w'.setCell ⟨gc, 2, none⟩ v') (Add F w w') y := fun y t => (tx' y t).step ((Keeps.refl _ w').setCell (p := ⟨gc, 2, none⟩) (.inl (.inl h.fgc)) v') (fun _ f => .inl f)
  have k : Keeps (fun x => x = gc) w' (w'.setCell ⟨gc, 2, none⟩ v') := (Keeps.refl (fun x => x = gc) w').setCell (p := ⟨gc, 2, none⟩) (.inl rfl) v'
  have ne' : ∀ t, t ≠ 86 → ∀ u n k xs, w'.ownsRow 0 t k u n xs → ∀ b, u.ownBlock = some b → ¬ b = gc := by
   rintro t ht u n k xs ho b e rfl
   obtain ⟨cur, hc⟩ := owns_lt ho _ e
   have hb := blk'
   unfold Wi.Hold at hb
   rw [hb] at hc
   simp only [Option.some.injEq, Obj.cells.injEq] at hc
   exact ht hc.2.1.symm
  refine ⟨hold_put blk' 2 v', owns_keeps row' k (ne' 67 (by decide) _ _ _ _ row'), owns_keeps ends' k (ne' 3 (by decide) _ _ _ _ ends'), mp'.keeps k ?_, ?_, fun p hp => tx2 p.2 (h.tm p hp), .inl h.fgc, .inl h.fgm, fv', fun b e => .inl (h.fve b e), fun y f => by rw [Di.size_set]; exact hlt' y f⟩
  ·have hb := blk'
   unfold Wi.Hold at hb
   exact (mp'.apart hb).symm
  ·intro y hy
   rcases List.mem_append.1 hy with hy | hy
   ·exact tx2 y (h.tx y hy)
   ·rw [List.mem_singleton.1 hy]; exact tx2 x hx
 exact ⟨v', w', hr, hold_cell blk' 2 rfl, hold_soft blk' 2, base, kF.setCell (.inl h.fgc) v', hsz, (kA.wide fun _ _ e => .inr e).setCell (.inl (.inl rfl)) v'⟩
theorem Ct.putE {w : World} {gc : Nat} {F : Nat → Prop} {X : List Rv} {E : List Int} {m : List (Ky × Rv)} {rest : Int} {fr vr ve : Value} {gm : Nat} (h : Ct w gc F X E m rest fr vr ve gm) (n : Int) (hl : E.length ≤ 500000) :
 ∃ v' w', (Builtin.append_ #[84, 84] 84 #[ve,.slice (some ⟨w.heap.size, 0, none⟩) 1 1]).run Tryz.prog (w.alloc (.cells #[.int .i64 n] 3)) = .ok v' w' ∧ w'.cell? ⟨gc, 3, none⟩ = some ve ∧ w'.frozen? ⟨gc, 3, none⟩ = false ∧
   Ct (w'.setCell ⟨gc, 3, none⟩ v') gc (Add F w w') X (E ++ [n]) m rest fr vr v' gm ∧ Keeps F w (w'.setCell ⟨gc, 3, none⟩ v') ∧ w.heap.size < w'.heap.size ∧ (v'.ownBlock = ve.ownBlock ∨ v'.ownBlock = some (w.heap.size + 1)) ∧ Keeps (fun y => y = gc ∨ ve.ownBlock = some y) w (w'.setCell ⟨gc, 3, none⟩ v') := by
 obtain ⟨i0, hi, hz0, hz1, hz2⟩ := info_parts info3
 have hnew : ∀ (j : Nat) (u : Value), ([.int .i64 n] : List Value)[j]? = some u → (w.alloc (.cells #[.int .i64 n] 3)).cell? ((⟨w.heap.size, 0, none⟩ : Addr).add j) = some u := fun j u hj => by
  rw [Di.add_plain', Nat.zero_add]
  exact (Wi.Cel.new w [.int .i64 n] 3).get j u hj
 obtain ⟨v', w', hr, hown, hgrow, -, hloc⟩ := run_append_own_at (P := Tryz.prog) (w.alloc (.cells #[.int .i64 n] 3)) 0 84 84 3 i0 (.int .i64 0) 1 8 Tryz.underlying84 hi hz0 hz1 hz2 rfl (by omega) ve E.length _ (World.ownsRow.alloc h.ends _) ⟨w.heap.size, 0, none⟩ 1 1 [.int .i64 n] (by simp) hnew (by simp [Value.oneCell']) (by unfold maxLen; omega) (by omega) (Nat.zero_le _)
 have kA : Keeps (fun y => ve.ownBlock = some y) w w' := ((Keeps.refl _ w).alloc _).trans (Keeps.of_grown (F := fun y => ve.ownBlock = some y) hgrow (fun y e => e)) (fun _ _ e => e)
 have kF : Keeps F w w' := kA.wide fun y _ e => h.fve y e
 have hsz : w.heap.size < w'.heap.size := by have := hgrow.size; simp at this; omega
 have ne : ∀ b cur t, t ≠ 3 → w.heap[b]? = some (.cells cur t (0, 0)) → ¬ ve.ownBlock = some b := by
  intro b cur t ht hb e
  obtain ⟨cur', hc⟩ := owns_lt h.ends b e
  rw [hb] at hc
  simp only [Option.some.injEq, Obj.cells.injEq] at hc
  exact ht hc.2.1
 have hblk := h.blk
 unfold Wi.Hold at hblk
 have blk' : Hold w' gc 86 [fr,.int .i64 rest, vr, ve, .map (some gm)] := hold_keeps h.blk kA (ne gc _ 86 (by decide) hblk)
 have row' : w'.ownsRow 0 67 25 vr X.length (X.flatMap Rv.cells) := owns_keeps h.row kA fun b e => by
  obtain ⟨cur, hc⟩ := owns_lt h.row b e
  exact ne b _ 67 (by decide) hc
 have mp' : MapIs w' gm m := h.mp.keeps kA fun e => by
  obtain ⟨cur, hc⟩ := owns_lt h.ends gm e
  exact h.mp.apart hc rfl
 have hstep : ∀ y, Add F w w' y → F y ∨ w.heap.size ≤ y := fun y e => e.imp id (·.1)
 have hlt' : ∀ y, Add F w w' y → y < w'.heap.size := fun y e => e.elim (fun f => Nat.lt_of_lt_of_le (h.lt y f) kF.size) (·.2)
 have ends' : w'.ownsRow 0 3 1 v' (E ++ [n]).length ((E ++ [n]).map (.int .i64)) := by
  rw [List.length_append, List.length_singleton, List.map_append]
  exact hown
 have fv' : In (Add F w w') v' := fun b e => by
  rcases hloc with e1 | e1
  ·exact .inl (h.fve b (e1.symm.trans e))
  ·rw [e1] at e
   simp only [Option.some.injEq] at e
   subst e
   obtain ⟨cur, hc⟩ := owns_lt hown _ e1
   exact .inr ⟨by simp, (Array.getElem?_eq_some_iff.1 hc).1⟩
 have base : Ct (w'.setCell ⟨gc, 3, none⟩ v') gc (Add F w w') X (E ++ [n]) m rest fr vr v' gm := by
  have tx2 : ∀ y, Tx w F y → Tx (w'.setCell ⟨gc, 3, none⟩ v') (Add F w w') y := fun y t => (t.step kF hstep).step ((Keeps.refl _ w').setCell (p := ⟨gc, 3, none⟩) (.inl (.inl h.fgc)) v') (fun _ f => .inl f)
  have k : Keeps (fun x => x = gc) w' (w'.setCell ⟨gc, 3, none⟩ v') := (Keeps.refl (fun x => x = gc) w').setCell (p := ⟨gc, 3, none⟩) (.inl rfl) v'
  have ne' : ∀ t, t ≠ 86 → ∀ u n k xs, w'.ownsRow 0 t k u n xs → ∀ b, u.ownBlock = some b → ¬ b = gc := by
   rintro t ht u n k xs ho b e rfl
   obtain ⟨cur, hc⟩ := owns_lt ho _ e
   have hb := blk'
   unfold Wi.Hold at hb
   rw [hb] at hc
   simp only [Option.some.injEq, Obj.cells.injEq] at hc
   exact ht hc.2.1.symm
  refine ⟨hold_put blk' 3 v', owns_keeps row' k (ne' 67 (by decide) _ _ _ _ row'), owns_keeps ends' k (ne' 3 (by decide) _ _ _ _ ends'), mp'.keeps k ?_, fun y hy => tx2 y (h.tx y hy), fun p hp => tx2 p.2 (h.tm p hp), .inl h.fgc, .inl h.fgm, fun b e => .inl (h.fvr b e), fv', fun y f => by rw [Di.size_set]; exact hlt' y f⟩
  have hb := blk'
  unfold Wi.Hold at hb
  exact (mp'.apart hb).symm
 exact ⟨v', w', hr, hold_cell blk' 3 rfl, hold_soft blk' 3, base, kF.setCell (.inl h.fgc) v', hsz, by simpa using hloc, (kA.wide fun _ _ e => .inr e).setCell (.inl (.inl rfl)) v'⟩
theorem Ct.putM {w : World} {gc : Nat} {F : Nat → Prop} {X : List Rv} {E : List Int} {m : List (Ky × Rv)} {rest : Int} {fr vr ve : Value} {gm : Nat} (h : Ct w gc F X E m rest fr vr ve gm) (x : Rv) (hx : Tx w F x) :
 ∃ w', (Instr.mapUpdate 73 (.map (some gm)) (kv x.key) x.val).run Tryz.prog w = .ok () w' ∧ Ct w' gc F X E (mput m x.key x) rest fr vr ve gm ∧ Keeps F w w' ∧ w'.heap.size = w.heap.size ∧ Keeps (fun y => y = gm) w w' := by
 obtain ⟨w', hr, hm, hk, hs⟩ := run_put h.mp x.key x
 have kF : Keeps F w w' := hk.wide fun y _ e => e ▸ h.fgm
 have mem : ∀ (m : List (Ky × Rv)) (p : Ky × Rv), p ∈ mput m x.key x → p ∈ m ∨ p = (x.key, x) := by
  intro m
  induction m with
  | nil => intro p hp; exact .inr (List.mem_singleton.1 hp)
  | cons q m ih =>
    intro p hp
    unfold mput at hp
    split at hp
    ·rcases List.mem_cons.1 hp with e | e
     ·exact .inr e
     ·exact .inl (List.mem_cons.2 (.inr e))
    ·rcases List.mem_cons.1 hp with e | e
     ·exact .inl (List.mem_cons.2 (.inl e))
     ·exact (ih p e).imp (fun e => List.mem_cons.2 (.inr e)) id
 have ne : ∀ t u n k xs, w.ownsRow 0 t k u n xs → ∀ b, u.ownBlock = some b → ¬ b = gm := by
  rintro t u n k xs ho b e rfl
  obtain ⟨cur, hc⟩ := owns_lt ho _ e
  exact h.mp.apart hc rfl
 have hb := h.blk
 unfold Wi.Hold at hb
 have tx1 : ∀ y, Tx w F y → Tx w' F y := fun y t => t.step kF (fun _ f => .inl f)
 exact ⟨w', hr, ⟨hold_keeps h.blk hk (h.mp.apart hb), owns_keeps h.row hk (ne _ _ _ _ _ h.row), owns_keeps h.ends hk (ne _ _ _ _ _ h.ends), hm, fun y hy => tx1 y (h.tx y hy), fun p hp => (mem m p hp).elim (fun e => tx1 p.2 (h.tm p e)) (fun e => by rw [e]; exact tx1 x hx), h.fgc, h.fgm, h.fvr, h.fve, fun y f => by rw [hs]; exact h.lt y f⟩, kF, hs, hk⟩
end Go.Proofs.YtdachohcjpjblaaGreatDoor
