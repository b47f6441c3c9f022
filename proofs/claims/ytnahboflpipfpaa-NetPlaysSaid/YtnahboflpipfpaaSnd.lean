/- Contracts of Send, Take, Lose and Twice of a net; no conditions but those that they name. -/
import Derived.Test.YtnahboflpipfpaaLook
import Derived.Test.YtnahboflpipfpaaWiE
namespace Go.Proofs.Ytnahboflpipfpaa
open Go.ChangeShapes Go.WideShapes Go.ChangeAt Go.RowKit

/-- What Send answers, and leaves. -/
def St.sendR (s : St) (m : M.Msg) : Int := if M.rightM m then (if s.full then 7 else 0) else 1
def St.send (s : St) (m : M.Msg) : St := if M.rightM m then (if s.full then ⟨s.room, s.sent + 1, s.came, s.lost + 1, s.ms⟩ else ⟨s.room, s.sent + 1, s.came, s.lost, s.ms ++ [m]⟩) else s
/-- Without the message at that index. -/
def St.cut (s : St) (k : Int) : List M.Msg := s.ms.take k.toNat ++ s.ms.drop (k.toNat + 1)
def St.take (s : St) (k : Int) : St := if s.lk k = 0 then ⟨s.room, s.sent, s.came + 1, s.lost, s.cut k⟩ else s
def St.lose (s : St) (k : Int) : St := if s.lk k = 0 then ⟨s.room, s.sent, s.came, s.lost + 1, s.cut k⟩ else s
def St.twiceR (s : St) (k : Int) : Int := if s.lk k = 0 then (if s.full then 7 else 0) else s.lk k
def St.twice (s : St) (k : Int) : St := if s.lk k = 0 then (if s.full then s else ⟨s.room, s.sent + 1, s.came, s.lost, s.ms ++ [s.at k]⟩) else s
/-- Its numbers are small. -/
structure St.Ok (s : St) : Prop where
  s0 : 0 ≤ s.sent
  s1 : s.sent ≤ 1000000
  c0 : 0 ≤ s.came
  c1 : s.came ≤ 1000000
  l0 : 0 ≤ s.lost
  l1 : s.lost ≤ 1000000
  n1 : s.ms.length ≤ 1000
  sm : Sm s.ms

theorem NtY.count {w : World} {g : Nat} {F : Nat → Prop} {s s' : St} {v : Value} {Y : List (Nat × Mv)} (h : NtY w g F s v Y) (i : Nat) (n : Value) (e : [Value.int .i64 s.sent, .int .i64 s.came, .int .i64 s.lost, .int .i64 s.room, v].set i n = [.int .i64 s'.sent, .int .i64 s'.came, .int .i64 s'.lost, .int .i64 s'.room, v]) (em : s'.ms = s.ms) :
    NtY (w.setCell ⟨g, i, none⟩ n) g F s' v Y := by
  have k : Keeps (only g) w (w.setCell ⟨g, i, none⟩ n) := (Keeps.refl (only g) w).setCell (p := ⟨g, i, none⟩) (.inl rfl) n
  have hb := hold_put h.blk i n
  rw [e] at hb
  exact h.write k hb (rowN_keepsN h.row h.out (k.wide fun _ _ e => .inl e)) (h.out.step k.size (fun _ e => .inl e)) h.tx (h.ms.trans em.symm)
theorem Nt.sent {w : World} {g : Nat} {F : Nat → Prop} {s : St} (h : Nt w g F s) (n : Int) : Nt (w.setCell ⟨g, 0, none⟩ (.int .i64 n)) g F ⟨s.room, n, s.came, s.lost, s.ms⟩ := by
  obtain ⟨v, Y, h⟩ := h
  exact ⟨v, Y, h.count 0 _ rfl rfl⟩
theorem Nt.came {w : World} {g : Nat} {F : Nat → Prop} {s : St} (h : Nt w g F s) (n : Int) : Nt (w.setCell ⟨g, 1, none⟩ (.int .i64 n)) g F ⟨s.room, s.sent, n, s.lost, s.ms⟩ := by
  obtain ⟨v, Y, h⟩ := h
  exact ⟨v, Y, h.count 1 _ rfl rfl⟩
theorem Nt.lost {w : World} {g : Nat} {F : Nat → Prop} {s : St} (h : Nt w g F s) (n : Int) : Nt (w.setCell ⟨g, 2, none⟩ (.int .i64 n)) g F ⟨s.room, s.sent, s.came, n, s.ms⟩ := by
  obtain ⟨v, Y, h⟩ := h
  exact ⟨v, Y, h.count 2 _ rfl rfl⟩
theorem Nt.cells {w : World} {g : Nat} {F : Nat → Prop} {s : St} (h : Nt w g F s) : w.cell? ⟨g, 0, none⟩ = some (.int .i64 s.sent) ∧ w.cell? ⟨g, 1, none⟩ = some (.int .i64 s.came) ∧ w.cell? ⟨g, 2, none⟩ = some (.int .i64 s.lost) ∧ w.frozen? ⟨g, 0, none⟩ = false ∧ w.frozen? ⟨g, 1, none⟩ = false ∧ w.frozen? ⟨g, 2, none⟩ = false := by
  obtain ⟨v, Y, h⟩ := h
  exact ⟨hold_cell h.blk 0 rfl, hold_cell h.blk 1 rfl, hold_cell h.blk 2 rfl, hold_soft h.blk 0, hold_soft h.blk 1, hold_soft h.blk 2⟩
theorem Nt.ltall {w : World} {g : Nat} {F : Nat → Prop} {s : St} (h : Nt w g F s) : ∀ y, Or1 g F y → y < w.heap.size := by
  obtain ⟨v, Y, q⟩ := h
  rintro y (e | e)
  · rw [e]; exact hold_lt q.blk
  · exact q.lt y e
theorem below_drewN' (w : World) (n : Nat) : Below w.heap.size w (w.drewN n) := below_drewN (Below.refl _ _) n
theorem right_mv {w : World} {F : Nat → Prop} {x : Mv} (h : Txt F w x) (K : M.Mod x.m.r.c) : Calls Try.prog 34 #[.agg x.cells.toArray] w fun e w' => e = .returned (.bool (M.rightM x.m)) ∧ Below w.heap.size w w' := right_msg x.m h.rs h.ws K.l K.l'
/-- What a method that changes a net answers, and leaves. -/
def Chg (g : Nat) (F : Nat → Prop) (s' : St) (r : Int) (w : World) (e : Ending) (w' : World) : Prop := e = .returned (.int .i64 r) ∧ Nt w' g F s' ∧ Keeps (only g) w w'

set_option maxHeartbeats 8000000 in
set_option maxRecDepth 100000 in
theorem send_any {w : World} {g : Nat} {F : Nat → Prop} {s : St} (h : Nt w g F s) (hs : s.Ok) {x : Mv} (hx : Txt (only g) w x) (K : M.Mod x.m.r.c) : Calls Try.prog 19 #[ptrV g, .agg x.cells.toArray] w (Chg g F (s.send x.m) (s.sendR x.m) w) := by
  have B0 := Lib.hid (below_new (o := .cells x.cells.toArray 49) (Below.refl w.heap.size w))
  have HN := Lib.hid (h.below B0.out)
  have HT := Lib.hid (hx.below B0.out)
  have HX := Lib.hid (Hold.new w x.cells 49)
  have HW := Lib.hid HX.out.cel.whole
  have hg := h.lt
  clear h hx
  rcases hr : M.rightM x.m with _ | _
  · have HR := Lib.hid hr
    have e1 : s.send x.m = s := by unfold St.send; rw [hr]; rfl
    have e2 : s.sendR x.m = 1 := by unfold St.sendR; rw [hr]; rfl
    rw [e1, e2]
    unfold ptrV
    clear hr e1 e2
    go_enter Try.func19, Try.ntmps19
    go_wp2_with
      (first
       | (refine wpList_load_mid_g ?_ 49 (.tmp 3) rfl w.heap.size 0 rfl _ _ HW.out Try.underlying49 rfl (mv_size _) ?_; rfl)
       | (go_at_call 34; refine (right_mv HT.out K).mono ?_; rintro e w1 ⟨rfl, hb⟩; rw [HR.out]; have HB := Lib.hid (below_on B0.out hb); have HN1 := Lib.hid (HN.out.below hb); clear hb))
    go_ret
    exact ⟨rfl, HN1.out, Keeps.of_below HB.out⟩
  · have HR := Lib.hid hr
    obtain ⟨s0, s1, -, -, l0, l1, n1, -⟩ := hs
    rcases hf : s.full with _ | _
    · have HF := Lib.hid hf
      have e1 : s.send x.m = ⟨s.room, s.sent + 1, s.came, s.lost, s.ms ++ [x.m]⟩ := by unfold St.send; rw [hr, hf]; rfl
      have e2 : s.sendR x.m = 0 := by unfold St.sendR; rw [hr, hf]; rfl
      rw [e1, e2]
      unfold ptrV
      clear hr hf e1 e2
      go_enter Try.func19, Try.ntmps19
      go_wp2_with
        (first
         | (refine wpList_load_mid_g ?_ 49 (.tmp 3) rfl w.heap.size 0 rfl _ _ HW.out Try.underlying49 rfl (mv_size _) ?_; rfl)
         | (go_at_call 34
            refine (right_mv HT.out K).mono ?_
            rintro e w1 ⟨rfl, hb⟩
            rw [HR.out]
            have N1 := HN.out.below hb
            obtain ⟨c0, -, -, f0, -, -⟩ := N1.cells
            have HN1 := Lib.hid (N1.sent (s.sent + 1))
            have k1 : Keeps (only g) w1 (w1.setCell ⟨g, 0, none⟩ (.int .i64 (s.sent + 1))) := (Keeps.refl (only g) w1).setCell (p := ⟨g, 0, none⟩) (.inl rfl) _
            have HK1 := Lib.hid ((Keeps.of_below (F := only g) (below_on B0.out hb)).trans k1 (fun _ _ e => e))
            have HT1 := Lib.hid ((HT.out.below hb).step k1 (fun _ e => e) (fun _ e => .inl e))
            have ng : ¬ only g w.heap.size := fun e => by unfold only at e; omega
            have HX1 := Lib.hid (hold_keeps (HX.out.on hb) k1 ng)
            clear hb N1 k1 ng)
         | (go_at_call 35
            refine (full_any HN1.out).mono ?_
            rintro e w2 ⟨rfl, n, rfl⟩
            rw [show St.full ⟨s.room, s.sent + 1, s.came, s.lost, s.ms⟩ = false from HF.out]
            have B2 := Lib.hid (below_drewN' (w1.setCell ⟨g, 0, none⟩ (.int .i64 (s.sent + 1))) n)
            have HN2 := Lib.hid (HN1.out.below B2.out)
            have HT2 := Lib.hid (HT1.out.below B2.out)
            have HX2 := Lib.hid (HX1.out.on B2.out).cel.whole
            have HK2 := Lib.hid (HK1.out.trans (Keeps.of_below (F := only g) B2.out) (fun _ _ e => e)))
         | (with_reducible refine wpList_load_mid rfl 49 _ rfl w.heap.size 0 rfl _ _ HX2.out Try.underlying49 rfl (mv_size _) ?_)
         | (go_at_call 36
            refine (apart_mv HT2.out K).mono ?_
            rintro e w3 ⟨va, vb, rfl, ho, hb⟩
            unfold Mv.val
            have HO := Lib.hid ho
            have b4 := below_new (o := .cells (Mv.cells ⟨x.m, va, vb⟩).toArray 49) hb
            have HN4 := Lib.hid (HN2.out.below b4)
            have HK4 := Lib.hid (HK2.out.trans (Keeps.of_below (F := only g) b4) (fun _ _ e => e))
            have HP := Lib.hid (show Ptr (Or1 g F) (w3.alloc (.cells (Mv.cells ⟨x.m, va, vb⟩).toArray 49)) (w3.heap.size, ⟨x.m, va, vb⟩) from by
              have lt := HN2.out.ltall
              exact ⟨Hold.new w3 _ 49, fun f => Nat.lt_irrefl w3.heap.size (Nat.lt_of_lt_of_le (lt _ f) hb.size), (ownM_push ho _).txt lt⟩)
            clear hb ho b4)
         | (with_reducible refine wpList_store_fresh rfl 49 _ _ rfl _ rfl 49 _ (Mv.cells ⟨x.m, va, vb⟩) rfl rfl rfl (mv_size _) HO.out.one ?_)
         | (go_at_call 37
            refine (put_any HN4.out HP.out n1).mono ?_
            rintro e w5 ⟨rfl, hn, hk⟩
            have HN5 := Lib.hid hn
            have HK5 := Lib.hid (HK4.out.trans hk (fun _ _ e => e))
            clear hn hk))
      go_ret
      exact ⟨rfl, HN5.out, HK5.out⟩
    · have HF := Lib.hid hf
      have e1 : s.send x.m = ⟨s.room, s.sent + 1, s.came, s.lost + 1, s.ms⟩ := by unfold St.send; rw [hr, hf]; rfl
      have e2 : s.sendR x.m = 7 := by unfold St.sendR; rw [hr, hf]; rfl
      rw [e1, e2]
      unfold ptrV
      clear hr hf e1 e2
      go_enter Try.func19, Try.ntmps19
      go_wp2_with
        (first
         | (refine wpList_load_mid_g ?_ 49 (.tmp 3) rfl w.heap.size 0 rfl _ _ HW.out Try.underlying49 rfl (mv_size _) ?_; rfl)
         | (go_at_call 34
            refine (right_mv HT.out K).mono ?_
            rintro e w1 ⟨rfl, hb⟩
            rw [HR.out]
            have N1 := HN.out.below hb
            obtain ⟨c0, -, -, f0, -, -⟩ := N1.cells
            have HN1 := Lib.hid (N1.sent (s.sent + 1))
            have k1 : Keeps (only g) w1 (w1.setCell ⟨g, 0, none⟩ (.int .i64 (s.sent + 1))) := (Keeps.refl (only g) w1).setCell (p := ⟨g, 0, none⟩) (.inl rfl) _
            have HK1 := Lib.hid ((Keeps.of_below (F := only g) (below_on B0.out hb)).trans k1 (fun _ _ e => e))
            clear hb N1 k1)
         | (go_at_call 35
            refine (full_any HN1.out).mono ?_
            rintro e w2 ⟨rfl, n, rfl⟩
            rw [show St.full ⟨s.room, s.sent + 1, s.came, s.lost, s.ms⟩ = true from HF.out]
            have b2 := below_drewN' (w1.setCell ⟨g, 0, none⟩ (.int .i64 (s.sent + 1))) n
            have N2 := HN1.out.below b2
            obtain ⟨-, -, c2, -, -, f2⟩ := N2.cells
            have HN3 := Lib.hid (N2.lost (s.lost + 1))
            have HK3 := Lib.hid ((HK1.out.trans (Keeps.of_below (F := only g) b2) (fun _ _ e => e)).setCell (p := ⟨g, 2, none⟩) (.inl rfl) (.int .i64 (s.lost + 1)))
            clear b2 N2))
      go_ret
      exact ⟨rfl, HN3.out, HK3.out⟩
end Go.Proofs.Ytnahboflpipfpaa
