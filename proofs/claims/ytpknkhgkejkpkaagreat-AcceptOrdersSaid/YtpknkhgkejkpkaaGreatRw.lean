/- Records in memory; no conditions but those that they name. -/
import Derived.Test.YtpknkhgkejkpkaaGreatWiH
import Derived.MapKept
import Derived.WideKeyRuns
import Derived.RangeFuncRecord

namespace Go.Proofs.YtpknkhgkejkpkaaGreat
open Go.RowKit

/-- A record, and the slices of its command. -/
structure Rv where
  r : M.Rec
  va : Value
  vb : Value
def Rv.cells (x : Rv) : List Value := [.int .i64 x.r.ir, .int .i64 x.r.is, .int .i64 x.r.st, .int .i64 x.r.pn, .int .i64 x.r.pr, .int .i64 x.r.bn, .int .i64 x.r.br, .int .i64 x.r.c.k, .int .i64 x.r.c.tc, .int .i64 x.r.c.tn, .int .i64 x.r.c.tt, .int .i64 x.r.c.tk, .int .i64 x.r.c.sh, x.va, x.vb, .bool x.r.c.cm, .int .i64 x.r.sq, .int .i64 x.r.d0, .int .i64 x.r.d1, .int .i64 x.r.d2, .int .i64 x.r.d3, .int .i64 x.r.d4, .int .i64 x.r.d5, .int .i64 x.r.d6, .bool x.r.kp]
def Rv.val (x : Rv) : Value := .agg x.cells.toArray
/-- An instance. -/
abbrev Ky := Int × Int
def Rv.key (x : Rv) : Ky := (x.r.ir, x.r.is)
def kv (k : Ky) : Value := .agg #[.int .i64 k.1, .int .i64 k.2]
/-- No record. -/
def Rv.zero : Rv := ⟨⟨0, 0, 0, 0, 0, 0, 0, ⟨0, 0, 0, 0, 0, 0, [], [], false⟩, 0, 0, 0, 0, 0, 0, 0, 0, false⟩, .slice none 0 0, .slice none 0 0⟩
def rcs (X : List Rv) : List M.Rec := X.map Rv.r
theorem rcs_len (X : List Rv) : (rcs X).length = X.length := List.length_map ..

/-- What stands in memory where a record is read. -/
structure Txt (w : World) (x : Rv) : Prop where
  rs : Rds w x.va x.r.c.rs
  ws : Wrs w x.vb x.r.c.ws
theorem Txt.below {w w' : World} {x : Rv} (h : Txt w x) (k : Below w.heap.size w w') : Txt w' x := ⟨h.rs.below k, h.ws.below k⟩
/-- A slice that reads as records. -/
structure Rows (w : World) (v : Value) (X : List Rv) : Prop where
  row : RowN 25 w v X.length (X.flatMap Rv.cells)
  tx : ∀ x ∈ X, Txt w x
theorem Rows.below {w w' : World} {v : Value} {X : List Rv} (h : Rows w v X) (k : Below w.heap.size w w') : Rows w' v X := ⟨h.row.below k, fun x hx => (h.tx x hx).below k⟩
theorem rowN_sliceOf {w : World} {v : Value} {k n : Nat} {xs : List Value} (h : RowN k w v n xs) : ∃ A c, v = .slice A n c := by
  obtain ⟨_, A, c, e, _⟩ := h
  exact ⟨A, c, e⟩
theorem flat_len (X : List Rv) : (X.flatMap Rv.cells).length = X.length * 25 := by
  induction X with
  | nil => rfl
  | cons x X ih => rw [List.flatMap_cons, List.length_append, ih, show x.cells.length = 25 from rfl, List.length_cons]; omega
theorem flat_at {X : List Rv} : ∀ {k : Nat} {x : Rv}, X[k]? = some x → ∀ j v, x.cells[j]? = some v → (X.flatMap Rv.cells)[k * 25 + j]? = some v := by
  induction X with
  | nil => intro k x h; simp at h
  | cons y X ih =>
    intro k x h j v hv
    rw [List.flatMap_cons]
    have hl : y.cells.length = 25 := rfl
    have hj : j < 25 := by have := (List.getElem?_eq_some_iff.1 hv).1; exact this
    cases k with
    | zero =>
      simp only [List.getElem?_cons_zero, Option.some.injEq] at h
      subst h
      rw [Nat.zero_mul, Nat.zero_add, List.getElem?_append_left (by omega)]
      exact hv
    | succ k =>
      rw [List.getElem?_append_right (by omega), show (k + 1) * 25 + j - y.cells.length = k * 25 + j by omega]
      exact ih (by simpa using h) j v hv
theorem owns_range {w : World} {base b cap k : Nat} {X : List Rv} {x : Rv} (h : w.ownsRow base 41 25 (.slice (some ⟨b, 0, none⟩) X.length cap) X.length (X.flatMap Rv.cells)) (hx : X[k]? = some x) : w.rangeAt b (k * 25) x.cells := fun j v hj => by
  have hk := (List.getElem?_eq_some_iff.1 hx).1
  have hj' : j < 25 := (List.getElem?_eq_some_iff.1 hj).1
  have := h.cellAt (k * 25 + j) (by omega)
  rw [this]
  exact flat_at hx j v hj
theorem rowN_range {w : World} {A : Option Addr} {c k : Nat} {X : List Rv} {x : Rv} (h : RowN 25 w (.slice A X.length c) X.length (X.flatMap Rv.cells)) (hx : X[k]? = some x) : ∃ b o, A = some ⟨b, o, none⟩ ∧ b < w.heap.size ∧ w.rangeAt b (o + k * 25) x.cells := by
  have hk := (List.getElem?_eq_some_iff.1 hx).1
  obtain ⟨hl, A', c', ev, hc, hy⟩ := h
  simp only [Value.slice.injEq] at ev
  obtain ⟨rfl, -, rfl⟩ := ev
  obtain ⟨b, o, rfl, hb, hz⟩ := hy (by omega)
  refine ⟨b, o, rfl, hb, fun j v hj => ?_⟩
  have hj' : j < 25 := (List.getElem?_eq_some_iff.1 hj).1
  have := hz (k * 25 + j) v (flat_at hx j v hj)
  rwa [← Nat.add_assoc] at this
theorem hold_lt {w : World} {b : Nat} {t : TypeId} {L : List Value} (h : Hold w b t L) : b < w.heap.size := (Array.getElem?_eq_some_iff.1 h).1
theorem hold_cell {w : World} {b : Nat} {t : TypeId} {L : List Value} (h : Hold w b t L) (o : Nat) {v : Value} (hv : L[o]? = some v) : w.cell? ⟨b, o, none⟩ = some v := h.cel.get o v hv
theorem hold_range {w : World} {b : Nat} {t : TypeId} {L : List Value} (h : Hold w b t L) (o : Nat) (S : List Value) (hS : ∀ j v, S[j]? = some v → L[o + j]? = some v) : w.rangeAt b o S := fun j v hj => h.cel.get (o + j) v (hS j v hj)
theorem info44 : (Tryz.prog.info? 41).map (fun i => (i.zero, i.size, i.bytes)) = some (some Rv.zero.val, 25, 232) := by kernel_rfl
theorem info_size44 : (Tryz.prog.info? 41).map (·.size) = some 25 := by kernel_rfl
theorem info_size32 : (Tryz.prog.info? 30).map (·.size) = some 9 := by kernel_rfl
theorem flat_one (X : List Rv) (h : ∀ y ∈ X, y.va.oneCell' = true ∧ y.vb.oneCell' = true) : ∀ x ∈ X.flatMap Rv.cells, x.oneCell' = true := by
  intro x hx
  obtain ⟨y, hy, hx⟩ := List.mem_flatMap.1 hx
  obtain ⟨h1, h2⟩ := h y hy
  unfold Rv.cells at hx
  simp only [List.mem_cons, List.not_mem_nil, or_false] at hx
  rcases hx with rfl | rfl | rfl | rfl | rfl | rfl | rfl | rfl | rfl | rfl | rfl | rfl | rfl | rfl | rfl | rfl | rfl | rfl | rfl | rfl | rfl | rfl | rfl | rfl | rfl
  all_goals first | exact h1 | exact h2 | rfl
theorem rows_nil (w : World) : Rows w (.slice none 0 0) [] := ⟨⟨rfl, none, 0, rfl, Nat.le_refl _, fun h => absurd h (by simp)⟩, fun _ h => (List.not_mem_nil h).elim⟩

theorem run_eq24 (a b : Ky) (w : World) : (Op.equal 32 (kv a) (kv b)).run Tryz.prog w = .ok (decide (a = b)) w := by
  obtain ⟨a1, a2⟩ := a
  obtain ⟨b1, b2⟩ := b
  unfold Op.equal Op.maxDepth kv
  by_cases h2 : a1 = b1 <;> by_cases h3 : a2 = b2 <;> go_simp
theorem run_check3 (em : Bool) (n : Nat) (v : Value) (w : World) : (Instr.checkKey em (n + 1) 3 v).run Tryz.prog w = .ok () w := by
  unfold Instr.checkKey
  simp [run_underlying Tryz.underlying3]
theorem run_check24' (em : Bool) (n : Nat) (a : Ky) (w : World) : (Instr.checkKey em (n + 2) 32 (kv a)).run Tryz.prog w = .ok () w := by
  obtain ⟨a1, a2⟩ := a
  unfold kv Instr.checkKey
  have h3 := run_check3 em n
  go_simp
theorem run_check24 (em : Bool) (a : Ky) (w : World) : (Instr.checkKey em 10000 32 (kv a)).run Tryz.prog w = .ok () w := run_check24' em 9998 a w

/-- A map as a list: put, get. -/
def mput : List (Ky × Int) → Ky → Int → List (Ky × Int)
  | [], k, x => [(k, x)]
  | p :: m, k, x => if k = p.1 then (k, x) :: m else p :: mput m k x
def mget : List (Ky × Int) → Ky → Option Int
  | [], _ => none
  | p :: m, k => if k = p.1 then some p.2 else mget m k
def midx : List (Ky × Int) → Ky → Nat → Option (Nat × Int)
  | [], _, _ => none
  | p :: m, k, i => if k = p.1 then some (i, p.2) else midx m k (i + 1)
theorem midx_get : ∀ (m : List (Ky × Int)) (k : Ky) (i : Nat), (midx m k i).map (·.2) = mget m k
  | [], _, _ => rfl
  | p :: m, k, i => by
    rw [midx, mget]; split
    · rfl
    · exact midx_get m k (i + 1)
theorem midx_put : ∀ (m : List (Ky × Int)) (k : Ky) (x : Int) (i : Nat), (midx m k i = none → mput m k x = m ++ [(k, x)]) ∧ ∀ j y, midx m k i = some (j, y) → i ≤ j ∧ j - i < m.length ∧ (m.map (·.1))[j - i]? = some k ∧ mput m k x = m.set (j - i) (k, x)
  | [], k, x, i => ⟨fun _ => rfl, fun j y h => by cases h⟩
  | p :: m, k, x, i => by
    obtain ⟨h1, h2⟩ := midx_put m k x (i + 1)
    by_cases hp : k = p.1
    · simp only [midx, mput, if_pos hp]
      refine ⟨fun h => (by cases h), fun j y h => ?_⟩
      cases h
      simp [hp]
    · simp only [midx, mput, if_neg hp]
      refine ⟨fun h => by rw [h1 h]; rfl, fun j y h => ?_⟩
      obtain ⟨a, b, c, d⟩ := h2 j y h
      have e : j - i = (j - (i + 1)) + 1 := by omega
      rw [e]
      exact ⟨by omega, by simp; omega, by simpa using c, by rw [d]; rfl⟩
theorem mput_len : ∀ (m : List (Ky × Int)) (k : Ky) (x : Int), (mput m k x).length ≤ m.length + 1
  | [], _, _ => Nat.le_refl _
  | p :: m, k, x => by
    rw [mput]; split
    · simp
    · have := mput_len m k x; simp; omega
theorem mget_put : ∀ (m : List (Ky × Int)) (k q : Ky) (x : Int), mget (mput m k x) q = if q = k then some x else mget m q
  | [], k, q, x => by simp [mput, mget]
  | p :: m, k, q, x => by
    have ih := mget_put m k q x
    rw [mput]
    split
    · rename_i h
      subst h
      simp only [mget]
      split <;> rfl
    · rename_i h
      simp only [mget, ih]
      by_cases hq : q = p.1
      · rw [if_pos hq, if_pos hq, if_neg (by rintro rfl; exact h hq)]
      · rw [if_neg hq, if_neg hq]

/-- A block that is a map. -/
def MapIs (w : World) (gm : Nat) (m : List (Ky × Int)) : Prop := ∃ es ck, w.heap[gm]? = some (.map es ck) ∧ es.toList.map (fun e => (e.key, e.val)) = m.map (fun p => (kv p.1, .int .i64 p.2))
theorem MapIs.lt {w : World} {gm : Nat} {m : List (Ky × Int)} (h : MapIs w gm m) : gm < w.heap.size := by
  obtain ⟨es, ck, h, _⟩ := h
  exact (Array.getElem?_eq_some_iff.1 h).1
theorem MapIs.on {w w' : World} {gm : Nat} {m : List (Ky × Int)} (h : MapIs w gm m) (k : Below w.heap.size w w') : MapIs w' gm m := by
  have hl := h.lt
  obtain ⟨es, ck, h, r⟩ := h
  exact ⟨es, ck, (k.block gm hl).trans h, r⟩
theorem MapIs.grown {w w' : World} {gm : Nat} {m : List (Ky × Int)} {row : Option Nat} (h : MapIs w gm m) (k : w.grownBy w' row) (hn : some gm ≠ row) : MapIs w' gm m := by
  have hl := h.lt
  obtain ⟨es, ck, h, r⟩ := h
  exact ⟨es, ck, (k.block gm hl hn).trans h, r⟩
theorem MapIs.apart {w : World} {gm : Nat} {m : List (Ky × Int)} (h : MapIs w gm m) {b : Nat} {cur : Array Value} {t : TypeId} {z : Nat × Nat} (hb : w.heap[b]? = some (.cells cur t z)) : b ≠ gm := by
  obtain ⟨es, ck, h, _⟩ := h
  rintro rfl
  rw [h] at hb
  cases hb
theorem MapIs.new (w : World) : MapIs (w.alloc (.map #[] 0)) w.heap.size [] := ⟨#[], 0, heap_alloc_new w _, rfl⟩

theorem find_inst (k : Ky) (w : World) : ∀ (l : List MapEntry) (m : List (Ky × Int)) (i : Nat), l.map (fun e => (e.key, e.val)) = m.map (fun p => (kv p.1, Value.int .i64 p.2)) →
    (Instr.findAsking 32 (kv k) l i).run Tryz.prog w = .ok ((midx m k i).map fun q => (q.1, .int .i64 q.2)) w
  | [], m, i, h => by
    obtain rfl : m = [] := by cases m <;> simp_all
    simp [Instr.findAsking, midx]
  | e :: l, m, i, h => by
    cases m with
    | nil => simp at h
    | cons p m =>
      simp only [List.map_cons, List.cons.injEq, Prod.mk.injEq] at h
      obtain ⟨⟨h1, h2⟩, h3⟩ := h
      by_cases hp : k = p.1
      · simp [Instr.findAsking, h1, run_eq24, midx, hp, h2]
      · simp [Instr.findAsking, h1, run_eq24, midx, hp, find_inst k w l m (i + 1) h3]
theorem wide24 : (match Tryz.prog.underlying 32 with | some (.array _ _) | some (.struct _) => true | _ => false) = true := by kernel_rfl
set_option maxRecDepth 200000 in
theorem run_look1 {w : World} {gm : Nat} {m : List (Ky × Int)} (h : MapIs w gm m) (k : Ky) : (Instr.lookup 120 (.map (some gm)) (kv k) false).run Tryz.prog w = .ok (.int .i64 ((mget m k).getD 0)) w := by
  obtain ⟨es, ck, hb, he⟩ := h
  have hf : (Instr.findKey 32 (kv k) es.toList).run Tryz.prog w = .ok ((midx m k 0).map fun q => (q.1, .int .i64 q.2)) w := (run_findKey_eq w wide24 (kv k) es.toList).trans (find_inst k w es.toList m 0 he)
  have hg := midx_get m k 0
  unfold Instr.lookup
  simp only [Sem.run_bind, run_underlying Tryz.underlying120, Result.andThen_ok, MapKept.run_getObj_map hb, run_check24, hf, Sem.run_pure]
  cases e : midx m k 0 with
  | none =>
    rw [e] at hg
    simp [← hg]
  | some q =>
    rw [e] at hg
    simp [← hg]
theorem run_len {w : World} {gm : Nat} {m : List (Ky × Int)} (h : MapIs w gm m) : (Builtin.len_ #[120] 3 #[.map (some gm)]).run Tryz.prog w = .ok (.int .i64 m.length) w := by
  obtain ⟨es, ck, hb, he⟩ := h
  have hl : es.size = m.length := by have := congrArg List.length he; simpa using this
  unfold Builtin.len_
  simp [run_underlying Tryz.underlying120, MapKept.run_getObj_map hb, hl]
  rfl

theorem bits_kv' (n : Nat) (k : Ky) : Instr.sameBits (n + 1) (kv k) (kv k) = true := by
  simp [Instr.sameBits, kv]
theorem bits_kv (k : Ky) : Instr.sameBits 10000 (kv k) (kv k) = true := bits_kv' 9999 k
theorem run_stays (k : Ky) (w : World) : (Instr.keyThatStays (kv k) (kv k)).run Tryz.prog w = .ok (kv k) w := by
  unfold Instr.keyThatStays
  rw [bits_kv]
  simp
theorem map_modify (es : Array MapEntry) (i : Nat) (f : MapEntry → MapEntry) {α : Type} (g : MapEntry → α) (y : α) (hg : ∀ e, es.toList[i]? = some e → g (f e) = y) : ((es.modify i f).toList.map g) = (es.toList.map g).set i y := by
  apply List.ext_getElem?
  intro j
  rw [List.getElem?_map, Array.getElem?_toList, Array.getElem?_modify]
  by_cases h : i = j
  · subst h
    rw [if_pos rfl]
    by_cases hi : i < es.size
    · rw [List.getElem?_set_self (by simpa using hi)]
      have he : es.toList[i]? = some es[i] := by rw [Array.getElem?_toList, Array.getElem?_eq_getElem hi]
      rw [Array.getElem?_eq_getElem hi]
      simp [hg _ he]
    · rw [List.getElem?_eq_none (by simp; omega), Array.getElem?_eq_none (by omega)]; rfl
  · rw [if_neg h, List.getElem?_set_ne h, List.getElem?_map, Array.getElem?_toList]
theorem putObj_same {w : World} {r : Nat} (o : Obj) (h : r < w.heap.size) : (w.putObj r o).heap[r]? = some o := by
  unfold World.putObj
  simp [h]
theorem putObj_other {w : World} {r k : Nat} (o : Obj) (h : k ≠ r) : (w.putObj r o).heap[k]? = w.heap[k]? := by
  unfold World.putObj
  rw [Array.getElem?_setIfInBounds, if_neg (fun e => h e.symm)]
theorem size_putObj (w : World) (r : Nat) (o : Obj) : (w.putObj r o).heap.size = w.heap.size := by simp [World.putObj]
theorem below_putObj (w : World) (r B : Nat) (o : Obj) (h : B ≤ r) : Below B w (w.putObj r o) := by
  constructor
  all_goals first | rfl | skip
  · simp [World.putObj]
  · intro k hk; exact putObj_other o (by omega)
set_option maxRecDepth 200000 in
theorem run_put {w : World} {gm : Nat} {m : List (Ky × Int)} (h : MapIs w gm m) (k : Ky) (x : Int) : ∃ w', (Instr.mapUpdate 120 (.map (some gm)) (kv k) (.int .i64 x)).run Tryz.prog w = .ok () w' ∧ MapIs w' gm (mput m k x) ∧ Below gm w w' ∧ (∀ b, b ≠ gm → w'.heap[b]? = w.heap[b]?) ∧ w'.heap.size = w.heap.size := by
  have hlt := h.lt
  obtain ⟨es, ck, hb, he⟩ := h
  have hf : (Instr.findKey 32 (kv k) es.toList).run Tryz.prog w = .ok ((midx m k 0).map fun q => (q.1, .int .i64 q.2)) w := (run_findKey_eq w wide24 (kv k) es.toList).trans (find_inst k w es.toList m 0 he)
  obtain ⟨hn, hs⟩ := midx_put m k x 0
  cases e : midx m k 0 with
  | none =>
    refine ⟨w.putObj gm (.map (es.push { key := kv k, val := .int .i64 x, born := ck }) (ck + 1)), ?_, ⟨_, _, putObj_same _ hlt, ?_⟩, below_putObj _ _ _ _ (Nat.le_refl _), fun b hb' => putObj_other _ hb', size_putObj _ _ _⟩
    · unfold Instr.mapUpdate
      simp only [Sem.run_bind, run_underlying Tryz.underlying120, Result.andThen_ok, MapKept.run_getObj_map hb, run_check24, hf, e, Option.map_none, MapKept.run_setObj_map _ hb]
      rfl
    · rw [hn e]; simp [he]
  | some q =>
    obtain ⟨j, y⟩ := q
    obtain ⟨-, hj, hk, hset⟩ := hs j y e
    rw [Nat.sub_zero] at hj hk hset
    have hlen : es.size = m.length := by have := congrArg List.length he; simpa using this
    have hkey : ((es[j]?).map (·.key)).getD (kv k) = kv k := by
      have h1 : (es.toList.map (fun e => (e.key, e.val)))[j]? = (m.map (fun p => (kv p.1, Value.int .i64 p.2)))[j]? := by rw [he]
      rw [List.getElem?_map, List.getElem?_map, Array.getElem?_toList] at h1
      rw [List.getElem?_map] at hk
      cases e1 : es[j]? with
      | none => rfl
      | some en =>
        cases e2 : m[j]? with
        | none => rw [e2] at hk; cases hk
        | some p =>
          rw [e1, e2] at h1
          rw [e2] at hk
          simp only [Option.map_some, Option.some.injEq, Prod.mk.injEq] at h1 hk
          simp [h1.1, hk]
    refine ⟨w.putObj gm (.map (es.modify j fun e => { e with key := kv k, val := .int .i64 x }) ck), ?_, ⟨_, _, putObj_same _ hlt, ?_⟩, below_putObj _ _ _ _ (Nat.le_refl _), fun b hb' => putObj_other _ hb', size_putObj _ _ _⟩
    · unfold Instr.mapUpdate
      simp only [Sem.run_bind, run_underlying Tryz.underlying120, Result.andThen_ok, MapKept.run_getObj_map hb, run_check24, hf, e, Option.map_some, hkey, run_stays, MapKept.run_setObj_map _ hb]
      rfl
    · rw [map_modify es j _ _ (kv k, Value.int .i64 x) (fun _ _ => rfl), he, hset, List.map_set]
end Go.Proofs.YtpknkhgkejkpkaaGreat
