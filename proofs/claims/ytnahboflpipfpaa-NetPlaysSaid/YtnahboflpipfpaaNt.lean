/- A net's memory, the program's and the document's: plain facts; no conditions but those that they name. -/
import Derived.Test.YtnahboflpipfpaaWiH
import Derived.OwnWalk
import Derived.Lib.SliceRun
namespace Go.Proofs.Ytnahboflpipfpaa
open Go.ChangeShapes Go.WideShapes Go.ChangeAt Go.RowKit

/-- But for the blocks of F all that was there is as it was. -/
structure Keeps (F : Nat → Prop) (w w' : World) : Prop where
  os : w'.os = w.os
  tape : w'.tape = w.tape
  output : w'.output = w.output
  size : w.heap.size ≤ w'.heap.size
  block : ∀ k, k < w.heap.size → ¬ F k → w'.heap[k]? = w.heap[k]?
theorem Keeps.refl (F : Nat → Prop) (w : World) : Keeps F w w := ⟨rfl, rfl, rfl, Nat.le_refl _, fun _ _ _ => rfl⟩
theorem Keeps.trans {F G : Nat → Prop} {a b c : World} (h : Keeps F a b) (k : Keeps G b c) (hg : ∀ x, x < a.heap.size → G x → F x) : Keeps F a c :=
  ⟨k.os.trans h.os, k.tape.trans h.tape, k.output.trans h.output, Nat.le_trans h.size k.size, fun i hi hf => (k.block i (Nat.lt_of_lt_of_le hi h.size) (fun e => hf (hg i hi e))).trans (h.block i hi hf)⟩
theorem Keeps.of_below {F : Nat → Prop} {w w' : World} (h : Below w.heap.size w w') : Keeps F w w' := ⟨h.os, h.tape, h.output, h.size, fun k hk _ => h.block k hk⟩
theorem Keeps.below {F : Nat → Prop} {w w' : World} {B : Nat} (h : Keeps F w w') (hF : ∀ x, F x → B ≤ x) (hB : B ≤ w.heap.size) : Below B w w' :=
  ⟨h.os, h.tape, h.output, h.size, fun k hk => h.block k (by omega) (fun e => by have := hF k e; omega)⟩
theorem Keeps.of_grown {F : Nat → Prop} {w w' : World} {row : Option Nat} (h : w.grownBy w' row) (hr : ∀ x, row = some x → F x) : Keeps F w w' :=
  ⟨h.os, h.tape, h.output, h.size, fun k hk hf => h.block k hk (fun e => hf (hr k e.symm))⟩
theorem Keeps.setCell {F : Nat → Prop} {a w : World} (h : Keeps F a w) {p : Addr} (hp : F p.block ∨ a.heap.size ≤ p.block) (u : Value) : Keeps F a (w.setCell p u) :=
  ⟨h.os, h.tape, h.output, by rw [show (w.setCell p u).heap.size = w.heap.size by simp [World.setCell]]; exact h.size, fun k hk hf => (Below.heap_setCell w p u k (fun e => by
    subst e
    rcases hp with hp | hp
    · exact hf hp
    · omega)).trans (h.block k hk hf)⟩
theorem Keeps.alloc {F : Nat → Prop} {a w : World} (h : Keeps F a w) (o : Obj) : Keeps F a (w.alloc o) :=
  ⟨h.os, h.tape, h.output, Nat.le_trans h.size (by simp), fun k hk hf => (Below.heap_alloc w o k (Nat.lt_of_lt_of_le hk h.size)).trans (h.block k hk hf)⟩
theorem Keeps.drewN {F : Nat → Prop} {a w : World} (h : Keeps F a w) (n : Nat) : Keeps F a (w.drewN n) := ⟨h.os, h.tape, h.output, h.size, h.block⟩
theorem Keeps.wide {F G : Nat → Prop} {a w : World} (h : Keeps F a w) (hg : ∀ x, x < a.heap.size → F x → G x) : Keeps G a w := (Keeps.refl G a).trans h hg
theorem Keeps.on {F : Nat → Prop} {a b c : World} (h : Keeps F a b) (k : Below b.heap.size b c) : Keeps F a c := h.trans (Keeps.of_below (F := F) k) fun _ _ e => e
theorem Keeps.cell {F : Nat → Prop} {w w' : World} (h : Keeps F w w') {p : Addr} (hp : p.block < w.heap.size) (hf : ¬ F p.block) : w'.cell? p = w.cell? p := World.cell?_of_block (w := w) (h.block p.block hp hf)

theorem hold_lt {w : World} {b : Nat} {t : TypeId} {L : List Value} (h : Hold w b t L) : b < w.heap.size := (Array.getElem?_eq_some_iff.1 h).1
theorem hold_cell {w : World} {b : Nat} {t : TypeId} {L : List Value} (h : Hold w b t L) (o : Nat) {v : Value} (hv : L[o]? = some v) : w.cell? ⟨b, o, none⟩ = some v := h.cel.get o v hv
theorem hold_soft {w : World} {b : Nat} {t : TypeId} {L : List Value} (h : Hold w b t L) (o : Nat) : w.frozen? ⟨b, o, none⟩ = false := frozen_of_row w b o _ t h
theorem hold_put {w : World} {b : Nat} {t : TypeId} {L : List Value} (h : Hold w b t L) (o : Nat) (v : Value) : Hold (w.setCell ⟨b, o, none⟩ v) b t (L.set o v) := by
  unfold Hold at h ⊢
  rw [heap_setCell_same w b o _ t _ h]
  simp
theorem hold_keeps {w w' : World} {b : Nat} {t : TypeId} {L : List Value} {G : Nat → Prop} (h : Hold w b t L) (hb : Keeps G w w') (hG : ¬ G b) : Hold w' b t L := (hb.block b (hold_lt h) hG).trans h
theorem hold_ne {w : World} {a b : Nat} {t u : TypeId} {L M : List Value} (h : Hold w a t L) (h' : Hold w b u M) (ht : t ≠ u) : a ≠ b := by
  rintro rfl
  unfold Hold at h h'
  rw [h] at h'
  simp only [Option.some.injEq, Obj.cells.injEq] at h'
  exact ht h'.2.1
theorem owns_lt {w : World} {base : Nat} {t : TypeId} {k : Nat} {v : Value} {n : Nat} {xs : List Value} (h : w.ownsRow base t k v n xs) : ∀ b, v.ownBlock = some b → ∃ cur, w.heap[b]? = some (.cells cur t (0, 0)) := by
  intro b e
  rcases h.2 with ⟨rfl, -⟩ | ⟨b', cap, cur, rfl, -, hblk, -⟩
  · cases e
  · simp only [Value.ownBlock, Option.some.injEq] at e
    subst e
    exact ⟨cur, hblk⟩
theorem owns_keeps {w w' : World} {base : Nat} {t : TypeId} {k : Nat} {v : Value} {n : Nat} {xs : List Value} {G : Nat → Prop} (h : w.ownsRow base t k v n xs) (hb : Keeps G w w') (hG : ∀ b, v.ownBlock = some b → ¬ G b) : w'.ownsRow base t k v n xs := by
  refine ⟨h.1, ?_⟩
  rcases h.2 with h0 | ⟨b, cap, cur, rfl, hbb, hblk, r⟩
  · exact .inl h0
  · exact .inr ⟨b, cap, cur, rfl, hbb, (hb.block b (Array.getElem?_eq_some_iff.1 hblk).1 (hG b rfl)).trans hblk, r⟩

/-- A slice that lay there, outside F. -/
def Out (F : Nat → Prop) (w : World) (v : Value) : Prop := ∀ b, v.ownBlock = some b → ¬ F b ∧ b < w.heap.size
theorem Out.step {F F' : Nat → Prop} {w w' : World} {v : Value} (h : Out F w v) (hs : w.heap.size ≤ w'.heap.size) (hF : ∀ x, F' x → F x ∨ w.heap.size ≤ x) : Out F' w' v := fun b e =>
  ⟨fun f => (hF b f).elim (h b e).1 (fun g => by have := (h b e).2; omega), by have := (h b e).2; omega⟩
theorem Out.nil (F : Nat → Prop) (w : World) (n c : Nat) : Out F w (.slice none n c) := fun b e => by simp [Value.ownBlock] at e
theorem Out.of_owns {F : Nat → Prop} {w : World} {base : Nat} {t : TypeId} {k : Nat} {v : Value} {n : Nat} {xs : List Value} (h : w.ownsRow base t k v n xs) (hF : ∀ x, F x → x < base) : Out F w v := by
  rcases h.2 with ⟨rfl, -⟩ | ⟨b, cap, cur, rfl, hb, hblk, -⟩
  · exact Out.nil _ _ _ _
  · intro b' e
    simp only [Value.ownBlock, Option.some.injEq] at e
    subst e
    exact ⟨fun f => by have := hF _ f; omega, (Array.getElem?_eq_some_iff.1 hblk).1⟩
/-- A slice of n elements that lay there, outside F. -/
def OutN (F : Nat → Prop) (w : World) (v : Value) (n : Nat) : Prop := 0 < n → Out F w v
theorem OutN.step {F F' : Nat → Prop} {w w' : World} {v : Value} {n : Nat} (h : OutN F w v n) (hs : w.heap.size ≤ w'.heap.size) (hF : ∀ x, F' x → F x ∨ w.heap.size ≤ x) : OutN F' w' v n := fun h0 => (h h0).step hs hF
theorem rowN_keepsN {k : Nat} {w w' : World} {v : Value} {n : Nat} {xs : List Value} {F : Nat → Prop} (h : RowN k w v n xs) (ho : OutN F w v n) (hb : Keeps F w w') : RowN k w' v n xs := by
  obtain ⟨hl, A, c, rfl, hc, hx⟩ := h
  refine ⟨hl, A, c, rfl, hc, fun h0 => ?_⟩
  obtain ⟨b, o, rfl, hlt, hy⟩ := hx h0
  exact ⟨b, o, rfl, Nat.lt_of_lt_of_le hlt hb.size, fun j x hj => (hb.cell (p := ⟨b, o + j, none⟩) hlt (ho h0 b rfl).1).trans (hy j x hj)⟩
theorem outN_of {k : Nat} {w : World} {v : Value} {n : Nat} {xs : List Value} {F : Nat → Prop} (h : RowN k w v n xs) (hF : ∀ x, F x → w.heap.size ≤ x) : OutN F w v n := fun h0 b e => by
  obtain ⟨hl, A, c, rfl, hc, hx⟩ := h
  obtain ⟨b', o, rfl, hlt, _⟩ := hx h0
  cases e
  exact ⟨fun f => absurd hlt (Nat.not_lt.2 (hF _ f)), hlt⟩
theorem rowN_sliceOf {w : World} {v : Value} {k n : Nat} {xs : List Value} (h : RowN k w v n xs) : ∃ A c, v = .slice A n c ∧ n ≤ c := by
  obtain ⟨_, A, c, e, hc, _⟩ := h
  exact ⟨A, c, e, hc⟩

/-- A message, and where its reads and writes lie. -/
structure Mv where
  m : M.Msg
  va : Value
  vb : Value
def Mv.cells (x : Mv) : List Value := [.int .i64 x.m.k, .int .i64 x.m.fr, .int .i64 x.m.to, .int .i64 x.m.bn, .int .i64 x.m.br, .int .i64 x.m.r.ir, .int .i64 x.m.r.is, .int .i64 x.m.r.st, .int .i64 x.m.r.pn, .int .i64 x.m.r.pr, .int .i64 x.m.r.bn, .int .i64 x.m.r.br, .int .i64 x.m.r.c.k, .int .i64 x.m.r.c.tc, .int .i64 x.m.r.c.tn, .int .i64 x.m.r.c.tt, .int .i64 x.m.r.c.tk, .int .i64 x.m.r.c.sh, x.va, x.vb, .bool x.m.r.c.cm, .int .i64 x.m.r.sq, .int .i64 x.m.r.d0, .int .i64 x.m.r.d1, .int .i64 x.m.r.d2, .int .i64 x.m.r.d3, .int .i64 x.m.r.d4, .int .i64 x.m.r.d5, .int .i64 x.m.r.d6, .bool x.m.r.kp]
def Mv.val (x : Mv) : Value := .agg x.cells.toArray
/-- No message. -/
def Mv.zero : Mv := ⟨⟨0, 0, 0, 0, 0, ⟨0, 0, 0, 0, 0, 0, 0, ⟨0, 0, 0, 0, 0, 0, [], [], false⟩, 0, 0, 0, 0, 0, 0, 0, 0, false⟩⟩, .slice none 0 0, .slice none 0 0⟩
theorem mv_size (x : Mv) : (Try.prog.info? 49).map (·.size) = some x.cells.length := by kernel_rfl
/-- Its texts, outside F. -/
structure Txt (F : Nat → Prop) (w : World) (x : Mv) : Prop where
  rs : Rds w x.va x.m.r.c.rs
  ws : Wrs w x.vb x.m.r.c.ws
  oa : OutN F w x.va x.m.r.c.rs.length
  ob : OutN F w x.vb x.m.r.c.ws.length
theorem Txt.step {F F' K : Nat → Prop} {w w' : World} {x : Mv} (h : Txt F w x) (k : Keeps K w w') (hK : ∀ x, K x → F x) (hF : ∀ x, F' x → F x ∨ w.heap.size ≤ x) : Txt F' w' x :=
  ⟨rowN_keepsN h.rs h.oa (k.wide fun x _ e => hK x e), rowN_keepsN h.ws h.ob (k.wide fun x _ e => hK x e), h.oa.step k.size hF, h.ob.step k.size hF⟩
theorem Txt.below {F : Nat → Prop} {w w' : World} {x : Mv} (h : Txt F w x) (k : Below w.heap.size w w') : Txt F w' x := h.step (K := F) (Keeps.of_below k) (fun _ e => e) (fun _ e => .inl e)
theorem Txt.sub {F G : Nat → Prop} {w : World} {x : Mv} (h : Txt F w x) (hG : ∀ x, G x → F x) : Txt G w x := ⟨h.rs, h.ws, h.oa.step (Nat.le_refl _) (fun x e => .inl (hG x e)), h.ob.step (Nat.le_refl _) (fun x e => .inl (hG x e))⟩
theorem Txt.of {F : Nat → Prop} {w : World} {x : Mv} (h1 : Rds w x.va x.m.r.c.rs) (h2 : Wrs w x.vb x.m.r.c.ws) (hF : ∀ x, F x → w.heap.size ≤ x) : Txt F w x := ⟨h1, h2, outN_of h1 hF, outN_of h2 hF⟩
theorem Txt.zero (F : Nat → Prop) (w : World) : Txt F w Mv.zero := ⟨Rds.nil _, Wrs.nil _, fun h => absurd h (by decide), fun h => absurd h (by decide)⟩
/-- Its texts lie in memory of their own, behind B. -/
structure OwnM (B : Nat) (w : World) (x : Mv) : Prop where
  rs : OwnR B w x.va x.m.r.c.rs
  ws : OwnW B w x.vb x.m.r.c.ws
theorem OwnM.txt {B : Nat} {w : World} {x : Mv} {F : Nat → Prop} (h : OwnM B w x) (hF : ∀ x, F x → x < B) : Txt F w x := by
  obtain ⟨B1, h1, o1⟩ := h.rs
  obtain ⟨B2, h2, o2⟩ := h.ws
  exact ⟨RowN.of_owns o1, RowN.of_owns o2, fun _ => Out.of_owns o1 (fun x f => Nat.lt_of_lt_of_le (hF x f) h1), fun _ => Out.of_owns o2 (fun x f => Nat.lt_of_lt_of_le (hF x f) h2)⟩

/-- What a net is: the room, the counts, the messages. -/
structure St where
  room : Int
  sent : Int
  came : Int
  lost : Int
  ms : List M.Msg
/-- This block, and those of F. -/
def Or1 (g : Nat) (F : Nat → Prop) (x : Nat) : Prop := x = g ∨ F x
def ptrV (b : Nat) : Value := .pointer (some ⟨b, 0, none⟩)
/-- A message of the program's net, outside F. -/
structure Ptr (F : Nat → Prop) (w : World) (y : Nat × Mv) : Prop where
  hold : Hold w y.1 49 y.2.cells
  out : ¬ F y.1
  tx : Txt F w y.2
theorem Ptr.step {F F' K : Nat → Prop} {w w' : World} {y : Nat × Mv} (h : Ptr F w y) (k : Keeps K w w') (hK : ∀ x, K x → F x) (hF : ∀ x, F' x → F x ∨ w.heap.size ≤ x) : Ptr F' w' y :=
  ⟨hold_keeps h.hold k (fun e => h.out (hK _ e)), fun e => (hF _ e).elim h.out (fun g => by have := hold_lt h.hold; omega), h.tx.step k hK hF⟩
/-- The program's net, its memory outside F. -/
structure NtY (w : World) (g : Nat) (F : Nat → Prop) (s : St) (v : Value) (Y : List (Nat × Mv)) : Prop where
  blk : Hold w g 74 [.int .i64 s.sent, .int .i64 s.came, .int .i64 s.lost, .int .i64 s.room, v]
  row : RowN 1 w v Y.length (Y.map fun y => ptrV y.1)
  out : OutN (Or1 g F) w v Y.length
  tx : ∀ y ∈ Y, Ptr (Or1 g F) w y
  ms : Y.map (fun y => y.2.m) = s.ms
  ng : ¬ F g
  lt : ∀ x, F x → x < w.heap.size
def Nt (w : World) (g : Nat) (F : Nat → Prop) (s : St) : Prop := ∃ v Y, NtY w g F s v Y
theorem NtY.len {w : World} {g : Nat} {F : Nat → Prop} {s : St} {v : Value} {Y : List (Nat × Mv)} (h : NtY w g F s v Y) : Y.length = s.ms.length := by rw [← h.ms, List.length_map]
theorem NtY.step {w w' : World} {g : Nat} {F F' K : Nat → Prop} {s : St} {v : Value} {Y : List (Nat × Mv)} (h : NtY w g F s v Y) (k : Keeps K w w') (hK : ∀ x, K x → F x) (hF : ∀ x, F' x → F x ∨ w.heap.size ≤ x) (hl : ∀ x, F' x → x < w'.heap.size) : NtY w' g F' s v Y := by
  have hK' : ∀ x, K x → Or1 g F x := fun x e => .inr (hK x e)
  have hF' : ∀ x, Or1 g F' x → Or1 g F x ∨ w.heap.size ≤ x := fun x e => e.elim (fun e => .inl (.inl e)) (fun e => (hF x e).imp .inr id)
  exact ⟨hold_keeps h.blk k (fun e => h.ng (hK _ e)), rowN_keepsN h.row h.out (k.wide fun x _ e => hK' x e), h.out.step k.size hF', fun y hy => (h.tx y hy).step k hK' hF', h.ms, fun e => (hF _ e).elim h.ng (fun e => by have := hold_lt h.blk; omega), hl⟩
theorem Nt.step {w w' : World} {g : Nat} {F F' K : Nat → Prop} {s : St} (h : Nt w g F s) (k : Keeps K w w') (hK : ∀ x, K x → F x) (hF : ∀ x, F' x → F x ∨ w.heap.size ≤ x) (hl : ∀ x, F' x → x < w'.heap.size) : Nt w' g F' s := by
  obtain ⟨v, Y, h⟩ := h
  exact ⟨v, Y, h.step k hK hF hl⟩
theorem Nt.below {w w' : World} {g : Nat} {F : Nat → Prop} {s : St} (h : Nt w g F s) (k : Below w.heap.size w w') : Nt w' g F s := by
  obtain ⟨v, Y, h⟩ := h
  exact ⟨v, Y, h.step (K := F) (Keeps.of_below k) (fun _ e => e) (fun _ e => .inl e) (fun x f => Nat.lt_of_lt_of_le (h.lt x f) k.size)⟩
theorem Nt.sub {w : World} {g : Nat} {F G : Nat → Prop} {s : St} (h : Nt w g F s) (hG : ∀ x, G x → F x) : Nt w g G s := by
  obtain ⟨v, Y, h⟩ := h
  exact ⟨v, Y, h.step (Keeps.refl (fun _ => False) w) (fun _ e => e.elim) (fun x e => .inl (hG x e)) (fun x e => h.lt x (hG x e))⟩
theorem Nt.lt {w : World} {g : Nat} {F : Nat → Prop} {s : St} (h : Nt w g F s) : g < w.heap.size := by
  obtain ⟨v, Y, h⟩ := h
  exact hold_lt h.blk

/-- Rows that read as messages, outside F. -/
structure Msgs (F : Nat → Prop) (w : World) (v : Value) (Y : List Mv) : Prop where
  row : RowN 30 w v Y.length (Y.flatMap Mv.cells)
  out : OutN F w v Y.length
  tx : ∀ y ∈ Y, Txt F w y
theorem Msgs.step {F F' K : Nat → Prop} {w w' : World} {v : Value} {Y : List Mv} (h : Msgs F w v Y) (k : Keeps K w w') (hK : ∀ x, K x → F x) (hF : ∀ x, F' x → F x ∨ w.heap.size ≤ x) : Msgs F' w' v Y :=
  ⟨rowN_keepsN h.row h.out (k.wide fun x _ e => hK x e), h.out.step k.size hF, fun y hy => (h.tx y hy).step k hK hF⟩
theorem Msgs.below {F : Nat → Prop} {w w' : World} {v : Value} {Y : List Mv} (h : Msgs F w v Y) (k : Below w.heap.size w w') : Msgs F w' v Y := h.step (K := F) (Keeps.of_below k) (fun _ e => e) (fun _ e => .inl e)
theorem Msgs.nil (F : Nat → Prop) (w : World) (A : Option Addr) (c : Nat) : Msgs F w (.slice A 0 c) [] := ⟨⟨rfl, A, c, rfl, Nat.zero_le _, fun h => absurd h (by decide)⟩, fun h => absurd h (by decide), fun _ hy => (List.not_mem_nil hy).elim⟩
/-- The document's net by value, its memory outside F. -/
def Dc (F : Nat → Prop) (w : World) (x : Value) (s : St) : Prop := ∃ v Y, x = .agg #[.int .i64 s.room, v, .int .i64 s.sent, .int .i64 s.came, .int .i64 s.lost] ∧ Msgs F w v Y ∧ Y.map Mv.m = s.ms
theorem Dc.step {F F' K : Nat → Prop} {w w' : World} {x : Value} {s : St} (h : Dc F w x s) (k : Keeps K w w') (hK : ∀ x, K x → F x) (hF : ∀ x, F' x → F x ∨ w.heap.size ≤ x) : Dc F' w' x s := by
  obtain ⟨v, Y, e, h, m⟩ := h
  exact ⟨v, Y, e, h.step k hK hF, m⟩
theorem Dc.below {F : Nat → Prop} {w w' : World} {x : Value} {s : St} (h : Dc F w x s) (k : Below w.heap.size w w') : Dc F w' x s := by
  obtain ⟨v, Y, e, h, m⟩ := h
  exact ⟨v, Y, e, h.below k, m⟩

theorem flat_len (X : List Mv) : (X.flatMap Mv.cells).length = X.length * 30 := by
  induction X with
  | nil => rfl
  | cons x X ih => rw [List.flatMap_cons, List.length_append, ih, show x.cells.length = 30 from rfl, List.length_cons]; omega
theorem flat_at {X : List Mv} : ∀ {k : Nat} {x : Mv}, X[k]? = some x → ∀ j v, x.cells[j]? = some v → (X.flatMap Mv.cells)[k * 30 + j]? = some v := by
  induction X with
  | nil => intro k x h; simp at h
  | cons y X ih =>
    intro k x h j v hv
    rw [List.flatMap_cons]
    have hl : y.cells.length = 30 := rfl
    have hj : j < 30 := by have := (List.getElem?_eq_some_iff.1 hv).1; exact this
    cases k with
    | zero =>
      simp only [List.getElem?_cons_zero, Option.some.injEq] at h
      subst h
      rw [Nat.zero_mul, Nat.zero_add, List.getElem?_append_left (by omega)]
      exact hv
    | succ k =>
      rw [List.getElem?_append_right (by omega), show (k + 1) * 30 + j - y.cells.length = k * 30 + j by omega]
      exact ih (by simpa using h) j v hv
theorem msgs_range {w : World} {A : Option Addr} {c n k : Nat} {X : List Mv} {x : Mv} (h : RowN 30 w (.slice A n c) X.length (X.flatMap Mv.cells)) (hx : X[k]? = some x) : ∃ b o, A = some ⟨b, o, none⟩ ∧ b < w.heap.size ∧ w.rangeAt b (o + k * 30) x.cells := by
  have hk := (List.getElem?_eq_some_iff.1 hx).1
  obtain ⟨hl, A', c', ev, hc, hy⟩ := h
  simp only [Value.slice.injEq] at ev
  obtain ⟨rfl, -, rfl⟩ := ev
  obtain ⟨b, o, rfl, hb, hz⟩ := hy (by omega)
  refine ⟨b, o, rfl, hb, fun j v hj => ?_⟩
  have hj' : j < 30 := (List.getElem?_eq_some_iff.1 hj).1
  have := hz (k * 30 + j) v (flat_at hx j v hj)
  rwa [← Nat.add_assoc] at this
theorem ptrs_at {w : World} {A : Option Addr} {c n k : Nat} {Y : List (Nat × Mv)} {y : Nat × Mv} (h : RowN 1 w (.slice A n c) Y.length (Y.map fun y => ptrV y.1)) (hy : Y[k]? = some y) : ∃ b o, A = some ⟨b, o, none⟩ ∧ b < w.heap.size ∧ w.cell? ⟨b, o + k, none⟩ = some (ptrV y.1) := by
  have hk := (List.getElem?_eq_some_iff.1 hy).1
  obtain ⟨hl, A', c', ev, hc, hz⟩ := h
  simp only [Value.slice.injEq] at ev
  obtain ⟨rfl, -, rfl⟩ := ev
  obtain ⟨b, o, rfl, hb, hz⟩ := hz (by omega)
  exact ⟨b, o, rfl, hb, hz k _ (by rw [List.getElem?_map, hy]; rfl)⟩
end Go.Proofs.Ytnahboflpipfpaa
