/- A step of both: Look; no conditions but those that it names. -/
import Derived.Test.YtnahboflpipfpaaDso
namespace Go.Proofs.Ytnahboflpipfpaa
open Go.ChangeShapes Go.WideShapes Go.ChangeAt Go.RowKit

theorem St.at_mod {s : St} (h : s.Ok) (k : Int) : M.Mod (s.at k).r.c := by
  rcases s.lk_cases k with h0 | ⟨h0, j, rfl, hj⟩
  · rw [St.at_no h0]; exact M.modB_iff.1 rfl
  · exact h.sm _ (St.at_mem hj)
set_option maxHeartbeats 16000000 in
set_option maxRecDepth 100000 in
theorem does_look {w : World} {g : Nat} {F : Nat → Prop} {s : St} {v : Value} {d : Dv} (h : Nt w g F s) (hv : Dv0 (Or1 g F) w v s) (ht : Txt (Or1 g F) w d.x) (hs : s.Ok) (h0 : d.vb = 1) : Calls Try.prog 13 #[ptrV g, .agg (dnL s v).toArray, .agg d.cells.toArray] w (Dsr g F s w) := by
  obtain ⟨A, c, rfl⟩ := hv.slice
  obtain ⟨vb, kk, dx⟩ := d
  dsimp only at h0 ht
  subst h0
  have HB := Lib.hid (beg_of (d := ⟨1, kk, dx⟩) h hv ht)
  have c0 : World.cell? _ ⟨w.heap.size + 1, 0, none⟩ = some (.int .i64 1) := hold_cell HB.out.hx 0 rfl
  have c1 : World.cell? _ ⟨w.heap.size + 1, 1, none⟩ = some (.int .i64 kk) := hold_cell HB.out.hx 1 rfl
  have HM := Lib.hid (St.at_mod hs kk)
  have HSM := Lib.hid hs.sm
  obtain ⟨W, hW⟩ : ∃ W, W = (((w.alloc (.cells (([.int .i64 s.room, (.slice A s.ms.length c), .int .i64 s.sent, .int .i64 s.came, .int .i64 s.lost] : List Value)).toArray 29)).alloc (.cells (Dv.cells ⟨1, kk, dx⟩).toArray 51)).alloc (.cells (([.int .i64 0, .slice none 0 0, .int .i64 0, .int .i64 0, .int .i64 0] : List Value)).toArray 29)) := ⟨_, rfl⟩
  have HBW := Lib.hid (show Beg w W g F s A c ⟨1, kk, dx⟩ by rw [hW]; exact HB.out)
  have HWE := Lib.hid hW
  have LK := Lib.hid (look_any HB.out.nt HSM.out kk)
  unfold ptrV dnL
  unfold ptrV at LK
  clear h hv ht hs hW HB
  go_enter Try.func13, Try.ntmps13
  go_wp2_with (fail)
  refine LK.out.mono ?_
  rintro e w1 ⟨x, rfl, hx, ho, hb1⟩
  rw [← HWE.out] at ho hb1
  have HX := Lib.hid hx
  have HO := Lib.hid ho
  have b2 := below_new (o := .cells x.cells.toArray 49) hb1
  have HX2 := Lib.hid (Hold.new w1 x.cells 49)
  have HB2 := Lib.hid b2
  have LA2 := Lib.hid (HBW.out.hd.on b2).cel.whole
  have k2 : World.cell? _ ⟨w.heap.size + 1, 1, none⟩ = some (.int .i64 kk) := hold_cell (HBW.out.hx.on b2) 1 rfl
  have HD2 := Lib.hid (HBW.out.dv.below b2)
  have LQ := Lib.hid (dlook_any HD2.out kk)
  have HOW := Lib.hid (ownM_push ho (.cells x.cells.toArray 49))
  unfold dnL at LQ
  clear hx ho hb1 b2 LK c0 c1
  go_wp2_with (first
    | (with_reducible refine wpList_store_fresh rfl 49 _ _ rfl _ rfl 49 _ x.cells rfl rfl rfl (mv_size _) HO.out.one ?_)
    | (with_reducible refine wpList_load_mid rfl 29 _ rfl w.heap.size 0 rfl _ _ LA2.out Try.underlying29 rfl (by kernel_rfl) ?_)
    | fail)
  refine LQ.out.mono ?_
  rintro e w3 ⟨y, rfl, hy, ht3, hb3⟩
  have HY := Lib.hid hy
  have HOY := Lib.hid ht3.one
  have b4 := below_new (o := .cells y.cells.toArray 49) hb3
  have bn := below_new (o := .cells y.cells.toArray 49) (Below.refl w3.heap.size w3)
  have HX4 := Lib.hid (HX2.out.on b4)
  have HY4 := Lib.hid (Hold.new w3 y.cells 49)
  have LX4 := Lib.hid HX4.out.cel.whole
  have LY4 := Lib.hid HY4.out.cel.whole
  have HB4 := Lib.hid (below_on HB2.out b4)
  have HT4 := Lib.hid (ht3.below bn)
  have HOX := Lib.hid (show OwnM W.heap.size _ x from ownM_keeps (K := fun _ => False) HOW.out (Keeps.of_below b4) (fun _ e => e.elim))
  clear hy ht3 hb3 b4 bn LQ k2 HX2 HD2 LA2
  have HTX := Lib.hid (HOX.out.txt (F := fun _ => False) (fun _ e => e.elim))
  have hxy : x.m = y.m := HX.out.trans HY.out.symm
  have HXY := Lib.hid hxy
  have HMX := Lib.hid (show M.Mod x.m.r.c by rw [HX.out]; exact HM.out)
  clear hxy
  generalize hlk : s.lk kk = lk at *
  clear hlk
  go_wp2_with (first
    | (with_reducible refine wpList_store_fresh rfl 49 _ _ rfl _ rfl 49 _ y.cells rfl rfl rfl (mv_size _) HOY.out ?_)
    | (refine wpList_load_mid_g ?_ 49 (.tmp 14) rfl w1.heap.size 0 rfl _ _ LX4.out Try.underlying49 rfl (mv_size _) ?_; rfl)
    | (refine wpList_load_mid_g ?_ 49 (.tmp 16) rfl w3.heap.size 0 rfl _ _ LY4.out Try.underlying49 rfl (mv_size _) ?_; rfl)
    | (go_at_call 21
       refine (dsame_mv (x := x) (y := y) HTX.out.rs HTX.out.ws HT4.out.rs HT4.out.ws HMX.out HXY.out).mono ?_
       rintro e w5 ⟨rfl, hb5⟩
       have HB5 := Lib.hid (below_on HB4.out hb5)
       have HX5 := Lib.hid (HX4.out.on hb5)
       have HO5 := Lib.hid (show OwnM W.heap.size w5 x from ownM_keeps (K := fun _ => False) HOX.out (Keeps.of_below hb5) (fun _ e => e.elim))
       obtain ⟨B5, hB5, q5⟩ := HO5.out.ws
       obtain ⟨A5, c5, e5⟩ := ownsRow_slice q5
       have c19 : w5.cell? ⟨w1.heap.size, 19, none⟩ = some (.slice A5 x.m.r.c.ws.length c5) := by rw [← e5]; exact hold_cell HX5.out 19 rfl
       have C19 := Lib.hid c19
       rw [e5] at q5
       have HLO := Lib.hid (loose_wrs q5 rfl (mod_vals HMX.out))
       have HBK := Lib.hid (show ∀ y, blk A5 x.m.r.c.ws.length c5 y → W.heap.size ≤ y ∧ y ≠ w1.heap.size from fun y e => by
         have hq := q5.lt y e
         refine ⟨by omega, fun f => ?_⟩
         obtain ⟨cur, hc⟩ := owns_lt q5 y e
         have hh := HX5.out
         unfold Hold at hh
         rw [f, hh] at hc
         simp only [Option.some.injEq, Obj.cells.injEq] at hc
         exact absurd hc.2.1 (by decide))
       have hn20 : x.m.r.c.ws.length ≤ 20 := HMX.out.w
       clear hb5 q5 e5 hB5)
    | fail)
  generalize x.m.r.c.ws.length = n at *
  go_loopw [103] (fun i wr => ∃ q : Nat, i = .int .i64 q ∧ q ≤ n ∧ Hid (Loose wr A5 q n) ∧ Hid (Keeps (blk A5 n c5) w5 wr)) (fun i _ => n - (intOf i).toNat)
  case atStart => exact ⟨0, rfl, Nat.zero_le _, HLO, Lib.hid (Keeps.refl _ _)⟩
  case round =>
    clear HLO c19
    obtain ⟨q, rfl, hq, HL, HK⟩ := hrel
    have C := Lib.hid ((HK.out.cell (p := ⟨w1.heap.size, 19, none⟩) (hold_lt HX5.out) (fun e => (HBK.out _ e).2 rfl)).trans C19.out)
    by_cases hlt : q < n
    · obtain ⟨b, rfl, hsf⟩ := HL.out (by omega)
      obtain ⟨str, hcell, hsz, hfr⟩ := hsf q (Nat.le_refl _) hlt
      have c19 := C.out
      have hadd : ∀ X : World, (binOp .add 9 (.string str) (.string ⟨#[120]⟩)).run Try.prog X = .ok (.string (str ++ ⟨#[120]⟩)) X := fun X => by
        rw [binOp_string_add]; exact run_string_add_sum X str ⟨#[120]⟩ (by have : (⟨#[120]⟩ : ByteArray).size = 1 := rfl; omega)
      have HL2 := Lib.hid (HL.out.step (.string (str ++ ⟨#[120]⟩)))
      have HK2 := Lib.hid (HK.out.setCell (p := ⟨b, q * 2 + 1, none⟩) (.inl (show blk (some ⟨b, 0, none⟩) n c5 b from rfl)) (.string (str ++ ⟨#[120]⟩)))
      have hi1 : (q : Int) < (n : Int) := by omega
      clear hsf
      go_wp2
      go_roundw
      case rel => exact ⟨q + 1, by go_num, hlt, HL2, HK2⟩
      case measure => simp [intOf]; omega
    · obtain rfl : q = n := by omega
      have hbe : Below W.heap.size W wr := HB5.out.trans (HK.out.below (fun y e => (HBK.out y e).1) HB5.out.size)
      have c19 := C.out
      have LA := Lib.hid (HBW.out.hd.on hbe).cel.whole
      have h2 := HBW.out.hr.on hbe
      have TH := Lib.hid (show World.there _ (w.heap.size + 2) 0 (([.int .i64 s.room, (.slice A s.ms.length c), .int .i64 s.sent, .int .i64 s.came, .int .i64 s.lost] : List Value) : List Value).length from h2.there (by show 0 + 5 ≤ 5; omega))
      have RH := Lib.hid (Hold.set (([.int .i64 s.room, (.slice A s.ms.length c), .int .i64 s.sent, .int .i64 s.came, .int .i64 s.lost] : List Value)) [] ([.int .i64 0, .slice none 0 0, .int .i64 0, .int .i64 0, .int .i64 0] : List Value) [] rfl _ h2)
      have HFIN := Lib.hid (dsr_mk (L := ([.int .i64 s.room, (.slice A s.ms.length c), .int .i64 s.sent, .int .i64 s.came, .int .i64 s.lost] : List Value)) (HBW.out.nt.below hbe) (HBW.out.dv.below hbe) ((Keeps.of_below (F := only g) HBW.out.bel).trans (Keeps.of_below (F := only g) hbe) (fun _ _ e => e)) rfl)
      clear hbe h2
      go_wp2_with (first
        | (with_reducible refine wpList_load_mid rfl 29 _ rfl w.heap.size 0 rfl _ _ LA.out Try.underlying29 rfl (by kernel_rfl) ?_)
        | (with_reducible refine store_list rfl 29 _ _ rfl (w.heap.size + 2) 0 (([.int .i64 s.room, (.slice A s.ms.length c), .int .i64 s.sent, .int .i64 s.came, .int .i64 s.lost] : List Value)) rfl rfl TH.out (by kernel_rfl) rfl ?_))
      refine bodyPost_ret (results_cv rfl rfl rfl RH.out.cel.whole _ Try.underlying29 rfl (by kernel_rfl)) rfl ?_
      exact ⟨.slice A s.ms.length c, rfl, HFIN.out⟩
end Go.Proofs.Ytnahboflpipfpaa
