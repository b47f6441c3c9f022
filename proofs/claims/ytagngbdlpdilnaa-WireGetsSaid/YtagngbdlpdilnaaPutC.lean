/- Contract of putCommand; no conditions but those that it names. -/
import Derived.Test.YtagngbdlpdilnaaPutT
import Derived.Test.YtagngbdlpdilnaaCmdsE
namespace Go.Proofs.Ytagngbdlpdilnaa
open Go.RowKit

/-- What has become of a row since wB. -/
structure St (wB : World) (base : Nat) (v : Value) (w' : World) (y : Value) (ys : List UInt8) : Prop where
  own : Own w' base y ys
  ext : Ext wB w' v y
  ok : base ≤ wB.heap.size
theorem St.new {w : World} {base : Nat} {v : Value} {xs : List UInt8} (h : Own w base v xs) (hb : base ≤ w.heap.size) : St w base v w v xs := ⟨h, Ext.refl _ _, hb⟩
theorem St.size {wB w' : World} {base : Nat} {v y : Value} {ys : List UInt8} (h : St wB base v w' y ys) : base ≤ w'.heap.size := Nat.le_trans h.ok h.ext.grow.size
theorem St.alloc {wB w' : World} {base : Nat} {v y : Value} {ys : List UInt8} (h : St wB base v w' y ys) (o : Obj) : St wB base v (w'.alloc o) y ys := ⟨h.own.alloc o, h.ext.alloc o, h.ok⟩
theorem St.step {wB w' w'' : World} {base : Nat} {v y z : Value} {ys zs : List UInt8} (h : St wB base v w' y ys) (ho : Own w'' base z zs) (he : Ext w' w'' y z) : St wB base v w'' z zs := ⟨ho, h.ext.trans he, h.ok⟩
theorem St.cell {wB w' : World} {base : Nat} {v y : Value} {ys : List UInt8} (h : St wB base v w' y ys) {g o : Nat} {x : Value} (hx : wB.cell? ⟨g, o, none⟩ = some x) (hoff : Off v g) : w'.cell? ⟨g, o, none⟩ = some x := h.ext.grow.cell hx (fun e => hoff e.symm)
theorem St.push {wB w' w3 : World} {base : Nat} {v y z : Value} {ys : List UInt8} {n : Nat} (h : St wB base v w' y ys) (hn : n < 256) (o : Obj) (h1 : w3.ownsRow base 5 1 z (ys.length + 1) (ys.map enc8 ++ [.int .u8 (n : Int)])) (h2 : (w'.alloc o).grownBy w3 y.ownBlock) (h3 : z.ownBlock = y.ownBlock ∨ z.ownBlock = some (w'.alloc o).heap.size) : St wB base v w3 z (ys ++ [UInt8.ofNat n]) :=
  (h.alloc o).step (Own.snoc hn h1) (Ext.made h2 h3)
theorem St.below {w0 wB w' : World} {v y : Value} {ys : List UInt8} (h : St wB w0.heap.size v w' y ys) (hb : Below w0.heap.size w0 wB) (hv : ∀ k, v.ownBlock = some k → w0.heap.size ≤ k) : Below w0.heap.size w0 w' := h.ext.below hb h.ok hv

def Stp (wB : World) (base : Nat) (v : Value) (ys : List UInt8) (e : Ending) (w' : World) : Prop := ∃ y, e = .returned y ∧ St wB base v w' y ys

theorem St.nums {wB w' : World} {base : Nat} {v y : Value} {ys : List UInt8} (h : St wB base v w' y ys) (zs : List Int) (hz : ∀ z ∈ zs, 0 ≤ z ∧ z ≤ 1099511627776) (hl : ys.length ≤ 90000) (hl' : zs.length ≤ 1000) :
    Calls Try.prog 93 #[y, .slice (some ⟨w'.heap.size, 0, none⟩) zs.length zs.length] (w'.alloc (.cells ((zs.map fun z => Value.int .i64 z).toArray) 3)) (Stp wB base v (ys ++ M.numsZ zs)) := by
  have hi := Ints.newZ w' zs (fun z hz' => (hz z hz').1)
  have := putNumbers_any (h.own.alloc (.cells ((zs.map fun z => Value.int .i64 z).toArray) 3)) (by have := h.size; simp; omega) hi (h.own.off (Nat.le_refl _)) (by
    intro n hn
    rw [List.mem_map] at hn
    obtain ⟨z, hz', rfl⟩ := hn
    have := hz z hz'
    omega) (by omega) (by simpa using hl')
  rw [M.numsZ_map] at this
  refine this.mono ?_
  rintro e w'' ⟨z, rfl, ho, he⟩
  exact ⟨z, rfl, (h.alloc _).step ho he⟩
theorem St.text {wB w' : World} {base : Nat} {v y : Value} {ys : List UInt8} (h : St wB base v w' y ys) (t : List UInt8) (hl : ys.length ≤ 90000) (hs : t.length ≤ 1000) :
    Calls Try.prog 94 #[y, .string ⟨t.toArray⟩] w' (Stp wB base v (ys ++ M.txt t)) :=
  (putText_any t h.own h.size hl hs).mono fun _ _ ⟨z, e, ho, he⟩ => ⟨z, e, h.step ho he⟩
theorem St.flag {wB w' : World} {base : Nat} {v y : Value} {ys : List UInt8} (h : St wB base v w' y ys) (b : Bool) (hl : ys.length ≤ 90000) :
    Calls Try.prog 95 #[y, .bool b] w' (Stp wB base v (ys ++ M.flag b)) :=
  (putBoolean_any b h.own h.size hl).mono fun _ _ ⟨z, e, ho, he⟩ => ⟨z, e, h.step ho he⟩
theorem Box.st {wB w' : World} {base : Nat} {v y : Value} {ys : List UInt8} {g : Nat} {c : M.Cmd} {va vb : Value} (X : Box wB g c va vb) (h : St wB base v w' y ys) (hoff : Off v g) : Box w' g c va vb :=
  ⟨Nat.lt_of_lt_of_le X.lt h.ext.grow.size, h.cell X.c0 hoff, h.cell X.c1 hoff, h.cell X.c2 hoff, h.cell X.c3 hoff, h.cell X.c4 hoff, h.cell X.c5 hoff, h.cell X.c6 hoff, h.cell X.c7 hoff, h.cell X.c8 hoff⟩

namespace M
def encRd (r : List UInt8 × Int × Int) : List UInt8 := txt r.1 ++ numsZ [r.2.1, r.2.2]
def encWr (r : List UInt8 × List UInt8) : List UInt8 := txt r.1 ++ txt r.2
/-- A command's bytes. -/
def encC (c : Cmd) : List UInt8 := [1] ++ numsZ [c.k, c.tc, c.tn] ++ numsZ [c.tt, c.tk, c.sh] ++ numsZ [(c.rs.length : Int)] ++ c.rs.flatMap encRd ++ numsZ [(c.ws.length : Int)] ++ c.ws.flatMap encWr ++ flag c.cm
/-- A number that can be encoded. -/
def Nb (z : Int) : Prop := 0 ≤ z ∧ z ≤ 1099511627776
structure Fits (c : Cmd) : Prop where
  k : Nb c.k
  tc : Nb c.tc
  tn : Nb c.tn
  tt : Nb c.tt
  tk : Nb c.tk
  sh : Nb c.sh
  rl : c.rs.length ≤ 20
  wl : c.ws.length ≤ 20
  rs : ∀ r ∈ c.rs, r.1.length ≤ 100 ∧ Nb r.2.1 ∧ Nb r.2.2
  ws : ∀ r ∈ c.ws, r.1.length ≤ 100 ∧ r.2.length ≤ 100
theorem nb1 {a : Int} (h : Nb a) : ∀ z ∈ [a], 0 ≤ z ∧ z ≤ 1099511627776 := by intro z hz; simp at hz; rw [hz]; exact h
theorem nb2 {a b : Int} (h : Nb a) (h' : Nb b) : ∀ z ∈ [a, b], 0 ≤ z ∧ z ≤ 1099511627776 := by intro z hz; simp at hz; rcases hz with rfl | rfl <;> assumption
theorem nb3 {a b d : Int} (h : Nb a) (h' : Nb b) (h'' : Nb d) : ∀ z ∈ [a, b, d], 0 ≤ z ∧ z ≤ 1099511627776 := by intro z hz; simp at hz; rcases hz with rfl | rfl | rfl <;> assumption
theorem nbl (n : Nat) (h : n ≤ 1000) : Nb (n : Int) := ⟨by omega, by omega⟩
theorem rd_take {l : List (List UInt8 × Int × Int)} {k : Nat} (h : k < l.length) : (l.take (k + 1)).flatMap encRd = (l.take k).flatMap encRd ++ (txt (l.getD k rd0).1 ++ numsZ [(l.getD k rd0).2.1, (l.getD k rd0).2.2]) := by
  rw [List.take_add_one, List.getElem?_eq_getElem h, List.flatMap_append, List.getD, List.getElem?_eq_getElem h]; simp [encRd]
theorem wr_take {l : List (List UInt8 × List UInt8)} {k : Nat} (h : k < l.length) : (l.take (k + 1)).flatMap encWr = (l.take k).flatMap encWr ++ (txt (l.getD k wr0).1 ++ txt (l.getD k wr0).2) := by
  rw [List.take_add_one, List.getElem?_eq_getElem h, List.flatMap_append, List.getD, List.getElem?_eq_getElem h]; simp [encWr]
theorem rds_len (l : List (List UInt8 × Int × Int)) (h : ∀ r ∈ l, r.1.length ≤ 100) : (l.flatMap encRd).length ≤ l.length * 121 := by
  induction l with
  | nil => simp
  | cons r l ih =>
    have h1 := txt_len r.1
    have h2 := numsZ_len [r.2.1, r.2.2]
    have h3 := h r (by simp)
    have h4 := ih (fun r hr => h r (by simp [hr]))
    simp only [List.flatMap_cons, List.length_append, List.length_cons, encRd] at *
    simp only [List.length_nil] at h2
    omega
theorem wrs_len (l : List (List UInt8 × List UInt8)) (h : ∀ r ∈ l, r.1.length ≤ 100 ∧ r.2.length ≤ 100) : (l.flatMap encWr).length ≤ l.length * 214 := by
  induction l with
  | nil => simp
  | cons r l ih =>
    have h1 := txt_len r.1
    have h2 := txt_len r.2
    have h3 := h r (by simp)
    have h4 := ih (fun r hr => h r (by simp [hr]))
    simp only [List.flatMap_cons, List.length_append, List.length_cons, encWr] at *
    omega
theorem flag_len (b : Bool) : (flag b).length = 1 := by cases b <;> rfl
end M

set_option maxHeartbeats 8000000 in
set_option maxRecDepth 100000 in
theorem putCommand_any {w0 w : World} {v : Value} {xs : List UInt8} (c : M.Cmd) {va vb : Value} (h : Rds w0 va c.rs) (h' : Wrs w0 vb c.ws) (hb0 : Below w0.heap.size w0 w) (hown : Own w w0.heap.size v xs) (hl : xs.length ≤ 1000) (F : M.Fits c) :
    Calls Try.prog 74 #[v, .agg #[.int .i64 c.k, .int .i64 c.tc, .int .i64 c.tn, .int .i64 c.tt, .int .i64 c.tk, .int .i64 c.sh, va, vb, .bool c.cm]] w (Stp w w0.heap.size v (xs ++ M.encC c)) := by
  obtain ⟨i0, hi, hz0, hz1, hz2⟩ := info_parts info5
  obtain ⟨A, c1, rfl, hc1, hx⟩ := h.opened
  obtain ⟨A', c2, rfl, hc2, hx'⟩ := h'.opened
  have HX := Lib.hid hx
  have HX' := Lib.hid hx'
  have hw : w0.heap.size ≤ w.heap.size := hb0.size
  have X0 := Lib.hid (Box.new w c (.slice A c.rs.length c1) (.slice A' c.ws.length c2))
  have HF := Lib.hid (hown.off (Nat.le_refl _))
  have HV := Lib.hid (show ∀ k, v.ownBlock = some k → w0.heap.size ≤ k from fun k e => (hown.lt e).1)
  have HB := Lib.hid (show Below w0.heap.size w0 (w.alloc (.cells #[.int .i64 c.k, .int .i64 c.tc, .int .i64 c.tn, .int .i64 c.tt, .int .i64 c.tk, .int .i64 c.sh, .slice A c.rs.length c1, .slice A' c.ws.length c2, .bool c.cm] 33)) from below_new hb0)
  have S0 := Lib.hid (show St (w.alloc (.cells #[.int .i64 c.k, .int .i64 c.tc, .int .i64 c.tn, .int .i64 c.tt, .int .i64 c.tk, .int .i64 c.sh, .slice A c.rs.length c1, .slice A' c.ws.length c2, .bool c.cm] 33)) w0.heap.size v (w.alloc (.cells #[.int .i64 c.k, .int .i64 c.tc, .int .i64 c.tn, .int .i64 c.tt, .int .i64 c.tk, .int .i64 c.sh, .slice A c.rs.length c1, .slice A' c.ws.length c2, .bool c.cm] 33)) v xs from St.new (hown.alloc _) (by simp; omega))
  have EB := Lib.hid (show Ext w (w.alloc (.cells #[.int .i64 c.k, .int .i64 c.tc, .int .i64 c.tn, .int .i64 c.tt, .int .i64 c.tk, .int .i64 c.sh, .slice A c.rs.length c1, .slice A' c.ws.length c2, .bool c.cm] 33)) v v from (Ext.refl _ _).alloc _)
  have hr1 := F.rl
  have hr2 := F.wl
  have FR := Lib.hid F.rs
  have FW := Lib.hid F.ws
  clear hx hx' h h' hb0 hown
  go_enter Try.func74, Try.ntmps74
  go_wp2_with
    (at_builtin
     refine wpList_append_own_at _ rfl _ _ 46 rfl w0.heap.size 5 i0 (.int .u8 0) 1 1 Try.underlying46 hi hz0 hz1 hz2 rfl (by decide) _ _ _ rfl (S0.out.own.alloc _) ⟨w.heap.size + 1, 0, none⟩ 1 1 [.int .u8 1] rfl rfl (cell_two_new _ _ _ _) (by simp [Value.oneCell']) (by unfold maxLen; omega) (by omega) (by simp; omega) ?_
     intro v1 w1 hown3 hgrow3 hnil3 hat3
     have S1 := Lib.hid (S0.out.push (n := 1) (by omega) _ hown3 hgrow3 hat3)
     clear hown3 hgrow3 hnil3 hat3
     have X1 := Lib.hid (X0.out.st S1.out HF.out)
     obtain ⟨l1, p10, p11, p12, p13, p14, p15, p16, p17, p18⟩ := X1.out)
  generalize (w.alloc _) = wB at *
  have L1 : (xs ++ [UInt8.ofNat 1]).length ≤ 1001 := by simp; omega
  generalize hy : xs ++ [UInt8.ofNat 1] = y1 at S1 L1
  have Y1 := Lib.hid hy
  clear hy
  refine (S1.out.nums [c.k, c.tc, c.tn] (M.nb3 F.k F.tc F.tn) (by omega) (by simp)).mono ?_
  rintro e w2 ⟨v2, rfl, hs⟩
  have L2 : (y1 ++ M.numsZ [c.k, c.tc, c.tn]).length ≤ 1022 := by have := M.numsZ_len [c.k, c.tc, c.tn]; simp at this ⊢; omega
  generalize hy : y1 ++ M.numsZ [c.k, c.tc, c.tn] = y2 at hs L2
  have Y2 := Lib.hid hy
  have S2 := Lib.hid hs
  have X2 := Lib.hid (X0.out.st hs HF.out)
  clear hs hy l1 p10 p11 p12 p13 p14 p15 p16 p17 p18 S1 X1
  obtain ⟨l1, p10, p11, p12, p13, p14, p15, p16, p17, p18⟩ := X2.out
  go_wp2_with (fail)
  refine (S2.out.nums [c.tt, c.tk, c.sh] (M.nb3 F.tt F.tk F.sh) (by omega) (by simp)).mono ?_
  rintro e w3 ⟨v3, rfl, hs⟩
  have L3 : (y2 ++ M.numsZ [c.tt, c.tk, c.sh]).length ≤ 1043 := by have := M.numsZ_len [c.tt, c.tk, c.sh]; simp at this ⊢; omega
  generalize hy : y2 ++ M.numsZ [c.tt, c.tk, c.sh] = y3 at hs L3
  have Y3 := Lib.hid hy
  have S3 := Lib.hid hs
  have X3 := Lib.hid (X0.out.st hs HF.out)
  clear hs hy l1 p10 p11 p12 p13 p14 p15 p16 p17 p18 S2 X2
  obtain ⟨l1, p10, p11, p12, p13, p14, p15, p16, p17, p18⟩ := X3.out
  go_wp2_with (fail)
  refine (S3.out.nums [(c.rs.length : Int)] (M.nb1 (M.nbl _ (by omega))) (by omega) (by simp)).mono ?_
  rintro e w4 ⟨v4, rfl, hs⟩
  have L4 : (y3 ++ M.numsZ [(c.rs.length : Int)]).length ≤ 1050 := by have := M.numsZ_len [(c.rs.length : Int)]; simp at this ⊢; omega
  generalize hy : y3 ++ M.numsZ [(c.rs.length : Int)] = y4 at hs L4
  have Y4 := Lib.hid hy
  have S4 := Lib.hid hs
  have X4 := Lib.hid (X0.out.st hs HF.out)
  clear hs hy l1 p10 p11 p12 p13 p14 p15 p16 p17 p18 S3 X3
  obtain ⟨l1, p10, p11, p12, p13, p14, p15, p16, p17, p18⟩ := X4.out
  have hv4 : y4 ++ (c.rs.take 0).flatMap M.encRd = y4 := by simp
  go_wp2
  go_loopw [0, 43] (fun y i wr => ∃ k : Nat, k ≤ c.rs.length ∧ i = .int .i64 k ∧ St wB w0.heap.size v wr y (y4 ++ (c.rs.take k).flatMap M.encRd)) (fun _ i _ => c.rs.length - (intOf i).toNat)
  case atStart => exact ⟨0, Nat.zero_le _, rfl, by rw [hv4]; exact S4.out⟩
  case round =>
    obtain ⟨k, hk, rfl, hst⟩ := hrel
    obtain ⟨wr, hwr, hst⟩ : ∃ wr', wr' = _ ∧ St wB w0.heap.size v wr' _ _ := ⟨_, rfl, hst⟩
    subst hwr
    have HS := Lib.hid hst
    have hbw := hst.below HB.out HV.out
    have hsz := hst.size
    by_cases hlt : k < c.rs.length
    · obtain ⟨b, o, rfl, hb, hy⟩ := HX.out (by omega)
      obtain ⟨z1, z2, z3⟩ := (hy k hlt).below hbw hb
      have HT := Lib.hid (M.rd_take hlt)
      obtain ⟨f1, f2, f3⟩ := FR.out (c.rs.getD k rd0) (by rw [List.getD, List.getElem?_eq_getElem hlt]; exact List.getElem_mem hlt)
      have hlen : (y4 ++ (c.rs.take k).flatMap M.encRd).length ≤ 4000 := by
        have := M.rds_len (c.rs.take k) (fun r hr => (FR.out r (List.mem_of_mem_take hr)).1)
        rw [List.length_take] at this; rw [List.length_append]; omega
      clear hy hst hbw
      generalize (c.rs.getD k rd0).1 = x at *
      generalize (c.rs.getD k rd0).2.1 = t at *
      generalize (c.rs.getD k rd0).2.2 = u at *
      generalize hq : y4 ++ (c.rs.take k).flatMap M.encRd = q0 at HS hlen
      have HQ := Lib.hid hq
      clear hq
      have N0 := Lib.hid (St.new (HS.out.own.alloc (.cells #[.string ⟨x.toArray⟩, .int .i64 t, .int .i64 u] 74)) (by simp; omega))
      have c1 : (wr.alloc (.cells #[.string ⟨x.toArray⟩, .int .i64 t, .int .i64 u] 74)).cell? ⟨wr.heap.size, 1, none⟩ = some (.int .i64 t) := by simp
      have c2 : (wr.alloc (.cells #[.string ⟨x.toArray⟩, .int .i64 t, .int .i64 u] 74)).cell? ⟨wr.heap.size, 2, none⟩ = some (.int .i64 u) := by simp
      have C1 := Lib.hid c1
      have C2 := Lib.hid c2
      have HOF := Lib.hid (HS.out.own.off (Nat.le_refl _))
      clear c1 c2
      go_wp2_with (fail)
      refine (N0.out.text x (by omega) (by omega)).mono ?_
      rintro e w5 ⟨v5, rfl, hs⟩
      have N1 := Lib.hid hs
      have d1 := hs.cell C1.out HOF.out
      have d2 := hs.cell C2.out HOF.out
      clear hs
      go_wp2_with (fail)
      refine (N1.out.nums [t, u] (M.nb2 f2 f3) (by have := M.txt_len x; simp; omega) (by simp)).mono ?_
      rintro e w6 ⟨v6, rfl, hs⟩
      have N2 := Lib.hid (((HS.out.alloc _).step hs.own hs.ext))
      clear hs d1 d2
      go_wp2
      go_roundw
      case rel => exact ⟨k + 1, by omega, by go_num, by rw [HT.out, ← List.append_assoc, HQ.out, ← List.append_assoc]; exact N2.out⟩
      case measure => simp [intOf]; omega
    · obtain rfl : k = c.rs.length := by omega
      rw [List.take_length] at hst HS
      have L5 : (y4 ++ c.rs.flatMap M.encRd).length ≤ 4000 := by
        have := M.rds_len c.rs (fun r hr => (FR.out r hr).1)
        rw [List.length_append]; omega
      clear hv4 S4 X4 l1 p10 p11 p12 p13 p14 p15 p16 p17 p18 HX HS hsz hbw
      have X5 := Lib.hid (X0.out.st hst HF.out)
      generalize hy : y4 ++ c.rs.flatMap M.encRd = y5 at hst L5
      have Y5 := Lib.hid hy
      have S5 := Lib.hid hst
      clear hst hy
      obtain ⟨l1, p10, p11, p12, p13, p14, p15, p16, p17, p18⟩ := X5.out
      go_wp2_with (fail)
      refine (S5.out.nums [(c.ws.length : Int)] (M.nb1 (M.nbl _ (by omega))) (by omega) (by simp)).mono ?_
      rintro e w6 ⟨v6, rfl, hs⟩
      have L6 : (y5 ++ M.numsZ [(c.ws.length : Int)]).length ≤ 4010 := by have := M.numsZ_len [(c.ws.length : Int)]; simp at this ⊢; omega
      generalize hy : y5 ++ M.numsZ [(c.ws.length : Int)] = y6 at hs L6
      have Y6 := Lib.hid hy
      have S6 := Lib.hid hs
      have X6 := Lib.hid (X0.out.st hs HF.out)
      clear hs hy l1 p10 p11 p12 p13 p14 p15 p16 p17 p18 S5 X5
      obtain ⟨l1, p10, p11, p12, p13, p14, p15, p16, p17, p18⟩ := X6.out
      have hv6 : y6 ++ (c.ws.take 0).flatMap M.encWr = y6 := by simp
      go_wp2
      go_loopw [0, 70] (fun y i wr => ∃ k : Nat, k ≤ c.ws.length ∧ i = .int .i64 k ∧ St wB w0.heap.size v wr y (y6 ++ (c.ws.take k).flatMap M.encWr)) (fun _ i _ => c.ws.length - (intOf i).toNat)
      case atStart => exact ⟨0, Nat.zero_le _, rfl, by rw [hv6]; exact S6.out⟩
      case round =>
        obtain ⟨k, hk, rfl, hst⟩ := hrel
        obtain ⟨wr, hwr, hst⟩ : ∃ wr', wr' = _ ∧ St wB w0.heap.size v wr' _ _ := ⟨_, rfl, hst⟩
        subst hwr
        have HS := Lib.hid hst
        have hbw := hst.below HB.out HV.out
        have hsz := hst.size
        by_cases hlt : k < c.ws.length
        · obtain ⟨b, o, rfl, hb, hy⟩ := HX'.out (by omega)
          obtain ⟨z1, z2⟩ := (hy k hlt).below hbw hb
          have HT := Lib.hid (M.wr_take hlt)
          obtain ⟨f1, f2⟩ := FW.out (c.ws.getD k wr0) (by rw [List.getD, List.getElem?_eq_getElem hlt]; exact List.getElem_mem hlt)
          have hlen : (y6 ++ (c.ws.take k).flatMap M.encWr).length ≤ 9000 := by
            have := M.wrs_len (c.ws.take k) (fun r hr => FW.out r (List.mem_of_mem_take hr))
            rw [List.length_take] at this; rw [List.length_append]; omega
          clear hy hst hbw
          generalize (c.ws.getD k wr0).1 = x at *
          generalize (c.ws.getD k wr0).2 = t at *
          generalize hq : y6 ++ (c.ws.take k).flatMap M.encWr = q0 at HS hlen
          have HQ := Lib.hid hq
          clear hq
          have N0 := Lib.hid (St.new (HS.out.own.alloc (.cells #[.string ⟨x.toArray⟩, .string ⟨t.toArray⟩] 76)) (by simp; omega))
          have c1 : (wr.alloc (.cells #[.string ⟨x.toArray⟩, .string ⟨t.toArray⟩] 76)).cell? ⟨wr.heap.size, 1, none⟩ = some (.string ⟨t.toArray⟩) := by simp
          have C1 := Lib.hid c1
          have HOF := Lib.hid (HS.out.own.off (Nat.le_refl _))
          clear c1
          go_wp2_with (fail)
          refine (N0.out.text x (by omega) (by omega)).mono ?_
          rintro e w7 ⟨v7, rfl, hs⟩
          have N1 := Lib.hid hs
          have d1 := hs.cell C1.out HOF.out
          clear hs
          go_wp2_with (fail)
          refine (N1.out.text t (by have := M.txt_len x; simp; omega) (by omega)).mono ?_
          rintro e w8 ⟨v8, rfl, hs⟩
          have N2 := Lib.hid (((HS.out.alloc _).step hs.own hs.ext))
          clear hs d1
          go_wp2
          go_roundw
          case rel => exact ⟨k + 1, by omega, by go_num, by rw [HT.out, ← List.append_assoc, HQ.out, ← List.append_assoc]; exact N2.out⟩
          case measure => simp [intOf]; omega
        · obtain rfl : k = c.ws.length := by omega
          rw [List.take_length] at hst HS
          have L7 : (y6 ++ c.ws.flatMap M.encWr).length ≤ 9000 := by
            have := M.wrs_len c.ws (fun r hr => FW.out r hr)
            rw [List.length_append]; omega
          clear hv6 S6 X6 l1 p10 p11 p12 p13 p14 p15 p16 p17 p18 HX' HS hsz hbw
          have X7 := Lib.hid (X0.out.st hst HF.out)
          generalize hy : y6 ++ c.ws.flatMap M.encWr = y7 at hst L7
          have Y7 := Lib.hid hy
          have S7 := Lib.hid hst
          clear hst hy
          obtain ⟨l1, p10, p11, p12, p13, p14, p15, p16, p17, p18⟩ := X7.out
          go_wp2_with (fail)
          refine (S7.out.flag c.cm (by omega)).mono ?_
          rintro e w9 ⟨v9, rfl, hs⟩
          have HE := Lib.hid (show y7 ++ M.flag c.cm = xs ++ M.encC c by
            rw [← Y7.out, ← Y6.out, ← Y5.out, ← Y4.out, ← Y3.out, ← Y2.out, ← Y1.out]
            simp only [M.encC, List.append_assoc]
            rfl)
          rw [HE.out] at hs
          have S9 := Lib.hid hs
          clear hs l1 p10 p11 p12 p13 p14 p15 p16 p17 p18
          go_wp2
          go_ret
          exact ⟨_, rfl, S9.out.own, EB.out.trans S9.out.ext, by omega⟩
end Go.Proofs.Ytagngbdlpdilnaa
