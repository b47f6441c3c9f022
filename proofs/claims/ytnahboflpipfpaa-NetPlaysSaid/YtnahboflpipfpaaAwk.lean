/- Contracts of the laws' message and of what the document fixes of what comes; no conditions. -/
import Derived.Test.YtnahboflpipfpaaTak
import Derived.Test.YtnahboflpipfpaaWiF
namespace Go.Proofs.Ytnahboflpipfpaa
open Go.ChangeShapes Go.WideShapes Go.ChangeAt Go.RowKit

/-- The laws' message. -/
def someM (f t : Int) : M.Msg := ⟨6, f, t, 0, 0, ⟨0, 1, 0, 0, 0, 0, 0, ⟨0, 0, 0, 0, 0, 0, [], [], false⟩, 0, 0, 0, 0, 0, 0, 0, 0, false⟩⟩
def someV (f t : Int) : Mv := ⟨someM f t, .slice none 0 0, .slice none 0 0⟩
theorem some_txt (f t : Int) (F : Nat → Prop) (w : World) : Txt F w (someV f t) := ⟨Rds.nil _, Wrs.nil _, fun h => absurd h (by show ¬ 0 < 0; omega), fun h => absurd h (by show ¬ 0 < 0; omega)⟩
theorem some_mod (f t : Int) : M.Mod (someM f t).r.c := M.modB_iff.1 rfl
set_option maxHeartbeats 2000000 in
set_option maxRecDepth 100000 in
theorem some_any (f t : Int) (w : World) : Calls Try.prog 26 #[.int .i64 f, .int .i64 t] w fun e w' => e = .returned (.agg (someV f t).cells.toArray) ∧ Below w.heap.size w w' := by
  have FH := Lib.hid (Hold.new w (someV f t).cells 49)
  have B0 := Lib.hid (below_new (o := .cells (someV f t).cells.toArray 49) (Below.refl w.heap.size w))
  go_enter Try.func26, Try.ntmps26
  go_wp2_with (with_reducible refine wpList_store_fresh rfl 49 _ _ rfl _ rfl 49 _ [.int .i64 (someV f t).m.k, .int .i64 (someV f t).m.fr, .int .i64 (someV f t).m.to, .int .i64 (someV f t).m.bn, .int .i64 (someV f t).m.br, .int .i64 (someV f t).m.r.ir, .int .i64 (someV f t).m.r.is, .int .i64 (someV f t).m.r.st, .int .i64 (someV f t).m.r.pn, .int .i64 (someV f t).m.r.pr, .int .i64 (someV f t).m.r.bn, .int .i64 (someV f t).m.r.br, .int .i64 (someV f t).m.r.c.k, .int .i64 (someV f t).m.r.c.tc, .int .i64 (someV f t).m.r.c.tn, .int .i64 (someV f t).m.r.c.tt, .int .i64 (someV f t).m.r.c.tk, .int .i64 (someV f t).m.r.c.sh, (someV f t).va, (someV f t).vb, .bool (someV f t).m.r.c.cm, .int .i64 (someV f t).m.r.sq, .int .i64 (someV f t).m.r.d0, .int .i64 (someV f t).m.r.d1, .int .i64 (someV f t).m.r.d2, .int .i64 (someV f t).m.r.d3, .int .i64 (someV f t).m.r.d4, .int .i64 (someV f t).m.r.d5, .int .i64 (someV f t).m.r.d6, .bool (someV f t).m.r.kp] rfl rfl rfl (by kernel_rfl) rfl ?_)
  refine bodyPost_ret (results_c rfl rfl FH.out.cel.whole _ Try.underlying49 rfl (by kernel_rfl)) rfl ?_
  exact ⟨rfl, B0.out⟩
def aw0 : St := St.new 2
def aw1 : St := ⟨2, 1, 0, 0, [someM 0 1]⟩
def aw2 : St := ⟨2, 2, 0, 0, [someM 0 1, someM 1 0]⟩
def aw3 : St := ⟨2, 3, 0, 1, [someM 0 1, someM 1 0]⟩
def aw4 : St := ⟨2, 3, 1, 1, [someM 1 0]⟩
theorem aw_1 : aw0.send (someM 0 1) = aw1 ∧ aw0.sendR (someM 0 1) = 0 := by constructor <;> rfl
theorem aw_2 : aw1.send (someM 1 0) = aw2 ∧ aw1.sendR (someM 1 0) = 0 := by constructor <;> rfl
theorem aw_3 : aw2.send (someM 2 0) = aw3 ∧ aw2.sendR (someM 2 0) = 7 := by constructor <;> rfl
theorem aw_4 : aw3.take 0 = aw4 ∧ aw3.at 0 = someM 0 1 ∧ aw3.lk 0 = 0 := by refine ⟨rfl, rfl, rfl⟩
theorem aw_ok {s : St} (h : 0 ≤ s.sent ∧ s.sent ≤ 1000000 ∧ 0 ≤ s.came ∧ s.came ≤ 1000000 ∧ 0 ≤ s.lost ∧ s.lost ≤ 1000000 ∧ s.ms.length ≤ 1000) (hm : ∀ m ∈ s.ms, ∃ f t, m = someM f t) : s.Ok :=
  ⟨h.1, h.2.1, h.2.2.1, h.2.2.2.1, h.2.2.2.2.1, h.2.2.2.2.2.1, h.2.2.2.2.2.2, fun m q => by obtain ⟨f, t, rfl⟩ := hm m q; exact some_mod f t⟩
theorem aw_k0 : aw0.Ok := aw_ok (by decide) (fun m h => (List.not_mem_nil h).elim)
theorem aw_k1 : aw1.Ok := aw_ok (by decide) (fun m h => ⟨0, 1, List.mem_singleton.1 h⟩)
theorem aw_m (m : M.Msg) (h : m ∈ [someM 0 1, someM 1 0]) : ∃ f t, m = someM f t := by
  rcases List.mem_cons.1 h with h | h
  · exact ⟨0, 1, h⟩
  · exact ⟨1, 0, List.mem_singleton.1 h⟩
theorem aw_k2 : aw2.Ok := aw_ok (by decide) (fun m h => aw_m m h)
theorem aw_k3 : aw3.Ok := aw_ok (by decide) (fun m h => aw_m m h)
theorem below_onlyB {B g : Nat} {w w1 w2 : World} (hg : B ≤ g) (hB : B ≤ w1.heap.size) (h : Below B w w1) (k : Keeps (only g) w1 w2) : Below B w w2 := h.trans (k.below (fun x e => by unfold only at e; omega) hB)
theorem below_only {w w1 w2 : World} {g : Nat} (hg : w.heap.size ≤ g) (h : Below w.heap.size w w1) (k : Keeps (only g) w1 w2) : Below w.heap.size w w2 := below_onlyB hg h.size h k
set_option maxHeartbeats 8000000 in
set_option maxRecDepth 100000 in
theorem awake_any (w : World) : Calls Try.prog 10 #[] w (Yes w) := by
  go_enter Try.func10, Try.ntmps10
  go_wp2_with (fail)
  refine (new_ok 2 _ rfl).mono ?_
  rintro e w1 ⟨rfl, rfl⟩
  have HN0 := Lib.hid (Nt.new (F := fun _ => False) 2 w (fun _ e => e.elim))
  have B0 := Lib.hid (below_new (o := .cells #[.int .i64 0, .int .i64 0, .int .i64 0, .int .i64 2, .slice none 0 0] 74) (Below.refl w.heap.size w))
  go_wp2_with (fail)
  refine (some_any _ _ _).mono ?_
  rintro e w2 ⟨rfl, hb⟩
  have HN1 := Lib.hid (HN0.out.below hb)
  have B1 := Lib.hid (below_on B0.out hb)
  clear hb HN0 B0
  go_wp2_with (fail)
  refine (send_any HN1.out aw_k0 (x := someV 0 1) (some_txt _ _ _ _) (some_mod _ _)).mono ?_
  rintro e w3 ⟨rfl, hn, hk⟩
  rw [show (St.new 2).sendR (someV 0 1).m = 0 from aw_1.2]
  have HN2 := Lib.hid (show Nt w3 w.heap.size (fun _ => False) aw1 from hn)
  have B2 := Lib.hid (below_only (Nat.le_refl _) B1.out hk)
  clear hn hk HN1 B1
  go_wp2_with (fail)
  refine (some_any _ _ _).mono ?_
  rintro e w4 ⟨rfl, hb⟩
  have HN3 := Lib.hid (HN2.out.below hb)
  have B3 := Lib.hid (below_on B2.out hb)
  clear hb HN2 B2
  go_wp2_with (fail)
  refine (send_any HN3.out aw_k1 (x := someV 1 0) (some_txt _ _ _ _) (some_mod _ _)).mono ?_
  rintro e w5 ⟨rfl, hn, hk⟩
  rw [show aw1.sendR (someV 1 0).m = 0 from aw_2.2]
  have HN4 := Lib.hid (show Nt w5 w.heap.size (fun _ => False) aw2 from hn)
  have B4 := Lib.hid (below_only (Nat.le_refl _) B3.out hk)
  clear hn hk HN3 B3
  go_wp2_with (fail)
  refine (some_any _ _ _).mono ?_
  rintro e w6 ⟨rfl, hb⟩
  have HN5 := Lib.hid (HN4.out.below hb)
  have B5 := Lib.hid (below_on B4.out hb)
  clear hb HN4 B4
  go_wp2_with (fail)
  refine (send_any HN5.out aw_k2 (x := someV 2 0) (some_txt _ _ _ _) (some_mod _ _)).mono ?_
  rintro e w7 ⟨rfl, hn, hk⟩
  rw [show aw2.sendR (someV 2 0).m = 7 from aw_3.2]
  have HN6 := Lib.hid (show Nt w7 w.heap.size (fun _ => False) aw3 from hn)
  have B6 := Lib.hid (below_only (Nat.le_refl _) B5.out hk)
  clear hn hk HN5 B5
  go_wp2_with (fail)
  refine (take_any HN6.out aw_k3 0).mono ?_
  rintro e w8 ⟨x, rfl, hx, ho, hn, hk⟩
  rw [show aw3.lk 0 = 0 from rfl]
  have HO := Lib.hid ho
  have b9 := below_new (o := .cells x.cells.toArray 49) (Below.refl w8.heap.size w8)
  have HN9 := Lib.hid (show Nt (w8.alloc (.cells x.cells.toArray 49)) w.heap.size (fun _ => False) aw4 from hn.below b9)
  have B9 := Lib.hid (below_on (below_only (Nat.le_refl _) B6.out hk) b9)
  have cx : (w8.alloc (.cells x.cells.toArray 49)).cell? ⟨w8.heap.size, 2, none⟩ = some (.int .i64 1) := by
    have := hold_cell (Hold.new w8 x.cells 49) 2 (show x.cells[2]? = some (.int .i64 x.m.to) from rfl)
    rw [this, hx]; rfl
  clear hn hk HN6 B6 hx ho b9
  go_wp2_with
    (first
     | (with_reducible refine wpList_store_fresh rfl 49 _ _ rfl _ rfl 49 _ x.cells rfl rfl rfl (mv_size _) HO.out.one ?_)
     | (go_at_call 16; refine (len_any HN9.out).mono ?_; rintro e w10 ⟨rfl, rfl⟩; rw [show ((aw4.ms.length : Nat) : Int) = 1 from rfl])
     | (go_at_call 15; refine (tally_any HN9.out).mono ?_; rintro e w11 ⟨rfl, hb⟩; rw [show tallyV aw4.sent aw4.came aw4.lost = .agg #[.int .i64 3, .int .i64 1, .int .i64 1] from rfl]; have B11 := Lib.hid (below_on B9.out hb); clear hb))
  go_ret
  exact ⟨rfl, B11.out⟩
end Go.Proofs.Ytnahboflpipfpaa
