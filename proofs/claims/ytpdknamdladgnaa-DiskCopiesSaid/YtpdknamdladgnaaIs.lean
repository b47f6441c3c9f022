/- Contract of is; no conditions but what may be. -/
import Derived.Test.YtpdknamdladgnaaDkE
import Derived.Test.YtpdknamdladgnaaRefE
import Derived.Test.YtpdknamdladgnaaBump
import Derived.Deep.RegionHeld3
namespace Go.Proofs.Ytpdknamdladgnaa
open Go.RowKit

theorem copied_q {W w' : World} {xs : List UInt8} {n : Nat} {e : Ending} (h : Copied W.drew xs e w') (hn : xs.length = n) : ∃ q, e = .returned (.slice (some ⟨q, 0, none⟩) n n) ∧ Blk w' q xs ∧ Below W.heap.size W w' := by
  obtain ⟨he, hB, hb⟩ := h
  subst hn
  exact ⟨_, he, hB, ⟨hb.os, hb.tape, hb.output, hb.size, hb.block⟩⟩

set_option maxHeartbeats 4000000 in
theorem is_any {w : World} {g : Nat} {F R : Nat → Prop} {r : Value} {s : M.St} (h : Disk w g F s) (h' : Doc w R r s) : Calls Try.prog 15 #[.pointer (some ⟨g, 0, none⟩), r] w fun e w' => e = .returned (.bool true) ∧ Below w.heap.size w w' := by
  have HD := Lib.hid h
  have HR := Lib.hid h'
  obtain ⟨z, a, b, A1, c1, A2, c2, rfl, rfl, h1, h2, i1, i2, hR, hc1, hc2, hl, hz⟩ := h'.opened
  have nb := below_new (o := .cells #[.slice A1 a.length c1, .slice A2 b.length c2, .int .i64 z] 29) (Below.refl w.heap.size w)
  have NB := Lib.hid nb
  have HX := Lib.hid (Box.new w (.slice A1 a.length c1) (.slice A2 b.length c2) z)
  have e1 : IntKind.i64.wrap ((z : Int) - ((a.length : Int) + (b.length : Int))) = (z : Int) - ((a.length : Int) + (b.length : Int)) := IntWalk.i64_in _ (by omega)
  clear h h' h1 h2 i1 i2 hR nb
  go_enter Try.func15, Try.ntmps15
  go_wp2_with (fail)
  refine (bytes_any (HD.out.below NB.out)).mono ?_
  rintro e w1 ⟨rfl, hB, hb⟩
  have B1 := Lib.hid (below_on NB.out hb)
  have HX1 := Lib.hid (HX.out.below hb)
  have HR1 := Lib.hid (HR.out.below (below_on NB.out hb))
  have HB1 := Lib.hid hB
  obtain ⟨x0, x1, x2⟩ := (HX.out.below hb).at_
  clear hb hB HX
  generalize hgb : (w.alloc (.cells #[.slice A1 a.length c1, .slice A2 b.length c2, .int .i64 z] 29)).heap.size = gb at *
  have HG := Lib.hid (show gb = w.heap.size + 1 by rw [← hgb]; simp)
  clear hgb
  have FIRST := Lib.hid True.intro
  go_wp2
  go_region_held3 (fun w' => w'.cell? ⟨w.heap.size, 0, none⟩ = some (.slice A1 a.length c1) ∧ w'.cell? ⟨w.heap.size, 1, none⟩ = some (.slice A2 b.length c2) ∧ w'.cell? ⟨w.heap.size, 2, none⟩ = some (.int .i64 z)) (first | exact ⟨x0, x1, x2⟩ | exact ⟨by assumption, by assumption, by assumption⟩)
    (first
      | (go_at_call 31; clear FIRST; refine Calls.mono (all_any (R := R) (s := ⟨z, a ++ b, a.length⟩) (by exact HR1.out)) ?_; intro e w2 hm; obtain ⟨v2, rfl, ho, hb⟩ := made_drew hm; obtain ⟨A3, c3, rfl, hc3⟩ := ho.slice; rw [List.length_append]; rw [List.length_append] at ho; have HB2 := Lib.hid (HB1.out.below hb); have HO2 := Lib.hid ho.bts; have B2 := Lib.hid (below_on B1.out hb); have HX2 := Lib.hid (HX1.out.below hb); obtain ⟨y0, y1, y2⟩ := (HX1.out.below hb).at_; have S2 := Lib.hid (same_any HB2.out.bts HO2.out (by simp; omega)); simp only [List.length_append] at S2; clear hm hb ho)
      | (go_at_call 19; refine Calls.mono S2.out ?_; rintro e w3 ⟨rfl, hb⟩; rw [M.sameB_refl]; have B3 := Lib.hid (below_on B2.out hb); have HB3 := Lib.hid (HB2.out.below hb); have HX3 := Lib.hid (HX2.out.below hb); obtain ⟨u0, u1, u2⟩ := (HX2.out.below hb).at_; have P3 := Lib.hid (safe_any (HD.out.below B3.out)); dsimp only at P3; have Q3 := Lib.hid (room_any (HD.out.below B3.out)); simp only [List.length_append, Int.natCast_add] at Q3; clear hb)
      | (go_at_call 17; refine Calls.mono P3.out ?_; rintro e w4 ⟨rfl, rfl⟩)
      | (go_at_call 25; refine Calls.mono Q3.out ?_; rintro e w4 ⟨rfl, hb⟩; have B4 := Lib.hid (below_on B3.out hb); have HB4 := Lib.hid (HB3.out.below hb); have HX4 := Lib.hid (HX3.out.below hb); obtain ⟨t0, t1, t2⟩ := (HX3.out.below hb).at_; have A4 := Lib.hid (all_any (HR.out.below (below_on B3.out hb))); clear hb)
      | (go_at_call 31; refine Calls.mono A4.out ?_; rintro e w5 ⟨v5, rfl, ho, hb⟩; obtain ⟨A5, c5, rfl, hc5⟩ := ho.slice; rw [List.length_append]; have B5 := Lib.hid (below_on B4.out hb); have HB5 := Lib.hid (HB4.out.below hb); have HX5 := Lib.hid (HX4.out.below hb); obtain ⟨s0, s1, s2⟩ := (HX4.out.below hb).at_; clear hb ho))
  clear x0 x1 x2 y0 y1 y2 u0 u1 u2 t0 t1 t2 HX1 HX2 HX3 HX4 HB1 HB2 HB3 HB4 B1 B2 B3 B4 S2 P3 Q3 A4 HO2 HR1 NB
  have D5 := Lib.hid (HD.out.below B5.out)
  have R5 := Lib.hid (HR.out.below B5.out)
  have LD := Lib.hid HD.out.lt
  have LR := Lib.hid HR.out.lt
  clear s0 s1 s2 e1
  have BU := Lib.hid (Bump.begin (HB5.out.own (F := fun _ => True) trivial))
  simp only [List.length_append] at BU
  generalize hn : a.length + b.length = n at *
  have HN := Lib.hid hn
  have HLN := Lib.hid (show (a ++ b).length = n by rw [List.length_append]; exact hn)
  clear hn
  go_wp2
  go_loopw [35] (fun i wr => ∃ k : Nat, k ≤ n ∧ i = .int .i64 k ∧ Hid (Bump w5 (.slice (some ⟨gb, 0, none⟩) n n) n wr)) (fun i _ => n - (intOf i).toNat)
  case atStart => exact ⟨0, Nat.zero_le _, rfl, BU⟩
  case round =>
    obtain ⟨k, hk, rfl, BK⟩ := hrel
    clear BU
    by_cases hlt : k < n
    · obtain ⟨g', y, e', hg, hcell, hfz, hy, hbu⟩ := BK.out.round hlt
      cases e'
      have BN := Lib.hid hbu
      have hk1 : (k : Int) < (n : Int) := by omega
      clear hbu BK
      go_wp2
      go_roundw
      case rel => exact ⟨k + 1, by omega, by go_num, BN⟩
      case measure => simp [intOf]; omega
    · have hk1 : (n : Int) ≤ (k : Int) := by omega
      have hkk := BK.out.keeps
      have hgl := HG.out
      have hX := HX5.out.keeps hkk (fun e => by simp [Value.ownBlock] at e; omega)
      have hD := D5.out.keeps hkk (fun x e f => by simp [Value.ownBlock] at f; have := LD.out x e; omega)
      have hR := R5.out.keeps hkk (fun x e f => by simp [Value.ownBlock] at f; have := LR.out x e; omega)
      have hb6 := B5.out.trans (hkk.below (B := w.heap.size) (fun x f => by simp [Value.ownBlock] at f; omega) B5.out.size)
      have X6 := Lib.hid hX
      have D6 := Lib.hid hD
      have R6 := Lib.hid hR
      have B6 := Lib.hid hb6
      obtain ⟨x0, x1, x2⟩ := hX.at_
      have P6 := Lib.hid (bytes_any hD)
      clear hkk hgl hX hD hR hb6 HX5 D5 R5 B5 BK HB5 HG
      go_wp2
      go_region_held3 (fun w' => w'.cell? ⟨w.heap.size, 0, none⟩ = some (.slice A1 a.length c1) ∧ w'.cell? ⟨w.heap.size, 1, none⟩ = some (.slice A2 b.length c2) ∧ w'.cell? ⟨w.heap.size, 2, none⟩ = some (.int .i64 z)) (first | exact ⟨x0, x1, x2⟩ | exact ⟨by assumption, by assumption, by assumption⟩)
        (first
          | (go_at_call 16; refine Calls.mono (bytes_any (s := ⟨z, a ++ b, a.length⟩) (by exact D6.out.below (Below.refl wr.heap.size wr).drew)) ?_; intro e w7 hm; obtain ⟨q, rfl, hB, hb⟩ := copied_q hm HLN.out; have HB7 := Lib.hid (show Blk w7 q (a ++ b) from hB); have B7 := Lib.hid (below_on B6.out hb); have A7 := Lib.hid (show Calls Try.prog 31 #[.agg #[.slice A1 a.length c1, .slice A2 b.length c2, .int .i64 z]] w7 (Made w7 (a ++ b)) from all_any (R6.out.below hb)); have HX7 := Lib.hid (X6.out.below hb); obtain ⟨y0, y1, y2⟩ := (X6.out.below hb).at_; clear hb hB hm)
          | (go_at_call 31; refine Calls.mono A7.out ?_; rintro e w8 ⟨v8, rfl, ho, hb⟩; obtain ⟨A8, c8, rfl, hc8⟩ := ho.slice; have s8 := same_any (HB7.out.below hb).bts ho.bts (by rw [HLN.out]; omega); rw [HLN.out] at s8; rw [HLN.out]; have B8 := Lib.hid (below_on B7.out hb); have S8 := Lib.hid s8; have HX8 := Lib.hid (HX7.out.below hb); obtain ⟨u0, u1, u2⟩ := (HX7.out.below hb).at_; clear hb ho s8)
          | (go_at_call 19; refine Calls.mono S8.out ?_; rintro e w9 ⟨rfl, hb⟩; rw [M.sameB_refl]; have B9 := Lib.hid (below_on B8.out hb); obtain ⟨t0, t1, t2⟩ := (HX8.out.below hb).at_; clear hb))
      go_wp2
      go_ret
      exact ⟨rfl, B9.out⟩
end Go.Proofs.Ytpdknamdladgnaa
