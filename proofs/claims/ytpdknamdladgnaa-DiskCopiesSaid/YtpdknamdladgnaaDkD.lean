/- Contract of Crash; no conditions but what may be. -/
import Derived.Test.YtpdknamdladgnaaDkC
namespace Go.Proofs.Ytpdknamdladgnaa
open Go.RowKit

namespace M
def mx (x y : Int) : Int := if x < y then y else x
def mn (x y : Int) : Int := if y < x then y else x
theorem left_int (keep : Int) (s : St) (h : Ok s) : mn (mx keep 0) ((s.bs.length : Int) - (s.k : Int)) = (left keep s : Nat) := by
  have := h.2.2
  unfold mn mx left
  repeat' split
  all_goals omega
end M
theorem run_max_mx (P : Program) (w : World) (ts : Array TypeId) (t : TypeId) (x y : Int) : (Builtin.max_ ts t #[.int .i64 x, .int .i64 y]).run P w = .ok (.int .i64 (M.mx x y)) w := by
  simp [Builtin.max_, Builtin.max2, M.mx]
theorem run_min_mn (P : Program) (w : World) (ts : Array TypeId) (t : TypeId) (x y : Int) : (Builtin.min_ ts t #[.int .i64 x, .int .i64 y]).run P w = .ok (.int .i64 (M.mn x y)) w := by
  simp [Builtin.min_, Builtin.min2, M.mn]
attribute [local go_sem ↓] run_max_mx run_min_mn

theorem xor8 (a b : UInt8) : bits .xor .u8 (a.toNat : Int) (b.toNat : Int) = ((a ^^^ b).toNat : Int) := by
  have ha := byte_lt a
  have hb := byte_lt b
  have e : bits .xor .u8 (a.toNat : Int) (b.toNat : Int) = IntKind.u8.wrap ((BitVec.ofInt 8 (a.toNat : Int) ^^^ BitVec.ofInt 8 (b.toNat : Int)).toNat : Int) := rfl
  have hx := byte_lt (a ^^^ b)
  rw [UInt8.toNat_xor] at hx ⊢
  rw [e, wrap8, BitVec.toNat_xor, BitVec.ofInt_natCast, BitVec.ofInt_natCast, BitVec.toNat_ofNat, BitVec.toNat_ofNat, Nat.mod_eq_of_lt (by omega), Nat.mod_eq_of_lt (by omega)]
  omega

theorem copied_n {w : World} {v : Value} {xs : List UInt8} {n : Nat} (h : Bts w v xs) (hn : xs.length = n) (hl : n ≤ 100000000) : Calls Try.prog 32 #[v] w fun e w' => e = .returned (.slice (some ⟨w.heap.size, 0, none⟩) n n) ∧ Blk w' w.heap.size xs ∧ Below w.heap.size w w' := by
  subst hn
  exact copied_any h hl

theorem hold_n {w : World} {g : Nat} {F : Nat → Prop} {s : M.St} {b n : Nat} {xs : List UInt8} (h : Disk w g F s) (hb : Blk w b xs) (hn : xs.length = n) (hg : g ≠ b) (hl : n ≤ s.z) : Calls Try.prog 33 #[.pointer (some ⟨g, 0, none⟩), .slice (some ⟨b, 0, none⟩) n n] w
    fun e w' => e = .returned (.tuple #[]) ∧ Disk w' g (fun x => x = g ∨ x = b) ⟨s.z, xs, n⟩ ∧ Keeps (fun x => x = g) w w' := by
  subst hn
  exact hold_any h hb hg hl

/-- The disk behind a crash. -/
theorem crash_done {w w1 w2 w3 : World} {g b n : Nat} {F : Nat → Prop} {s : M.St} {keep pos : Int} {mask : UInt8} (hF : F g) (hb : b = w.heap.size) (h1 : Below w.heap.size w w1) (h2 : Keeps (fun x => x = b) w1 w2) (h3 : Keeps (fun x => x = g) w2 w3)
    (hd : Disk w3 g (fun x => x = g ∨ x = b) ⟨s.z, M.fell keep pos mask s, n⟩) (hn : n = s.k + M.left keep s) : ∃ F', Disk w3 g F' (M.crash keep pos mask s) ∧ Keeps F w w3 ∧ Grew F F' w w3 := by
  subst hn
  refine ⟨_, hd, ((Keeps.of_below h1).trans h2 fun x hx e => ?_).trans h3 fun x _ e => e ▸ hF, fun x e => ?_, hd.lt⟩
  · omega
  · rcases e with rfl | rfl
    · exact .inl hF
    · exact .inr (by omega)

set_option maxHeartbeats 1000000 in
theorem crashD_any {w : World} {g : Nat} {F : Nat → Prop} {s : M.St} (h : Disk w g F s) (keep pos : Int) (mask : UInt8) : Calls Try.prog 18 #[.pointer (some ⟨g, 0, none⟩), .int .i64 keep, .int .i64 pos, .int .u8 (mask.toNat : Int)] w (Stept (.returned (.tuple #[])) w g F (M.crash keep pos mask s)) := by
  have HD := Lib.hid h
  obtain ⟨v, u, h⟩ := h
  obtain ⟨A, c, rfl, hc⟩ := h.row.slice
  obtain ⟨c0, c1, c2, c3⟩ := h.blk.at_
  have hbs := h.ok.1
  have hz := h.ok.2.1
  have hk := h.ok.2.2
  have hg := h.blk.lt
  have e1 : IntKind.i64.wrap ((s.bs.length : Int) - (s.k : Int)) = (s.bs.length : Int) - (s.k : Int) := IntWalk.i64_in _ (by omega)
  have hL := M.left_int keep s h.ok
  have hLl := M.left_le keep s
  have HF := Lib.hid (M.fell_len (keep := keep) (pos := pos) (mask := mask) h.ok)
  obtain ⟨L, hLe⟩ : ∃ L, L = M.left keep s := ⟨_, rfl⟩
  rw [← hLe] at hL hLl HF
  have HL := Lib.hid hLe
  have HB := Lib.hid (h.row.bts.take (s.k + L) (by omega))
  have HG := Lib.hid h.own
  have e2 : IntKind.i64.wrap ((s.k : Int) + (L : Int)) = (s.k : Int) + (L : Int) := IntWalk.i64_in _ (by omega)
  have e3 : ((s.k : Int) + (L : Int)).toNat = s.k + L := by omega
  have e4 : 0 ≤ (s.k : Int) + (L : Int) := by omega
  have e5 : (s.k : Int) + (L : Int) ≤ (c : Int) := by omega
  clear h hLe
  go_enter Try.func18, Try.ntmps18
  go_wp2
  go_quiet (fail)
  go_wp2
  go_region_with (go_at_call 32; refine Calls.mono (copied_n (xs := s.bs.take (s.k + L)) (n := s.k + L) (by exact HB.out) (by simp; omega) (by omega)) ?_; rintro e w1 ⟨rfl, hB, hb⟩)
  all_goals
    have hB1 : Blk w1 w.heap.size (s.bs.take (s.k + L)) := hB
    have hb1 : Below w.heap.size w w1 := ⟨hb.os, hb.tape, hb.output, hb.size, hb.block⟩
    have H1 := Lib.hid (HD.out.below hb1)
    have c2' := (hb1.cell (p := ⟨g, 2, none⟩) hg).trans c2
    have HB1 := Lib.hid hB1
    have HN1 := Lib.hid hb1
    clear hB hb hb1 hB1
    by_cases hp : 0 ≤ pos ∧ pos < L
    · obtain ⟨j, rfl⟩ : ∃ j : Nat, pos = j := ⟨pos.toNat, by omega⟩
      have hj : j < L := by omega
      have hcell := HB1.out.at_ (k := s.k + j) (by simp; omega)
      have hfz := HB1.out.unfrozen (s.k + j)
      have HS := HB1.out.set (s.k + j) ((s.bs.take (s.k + L)).getD (s.k + j) 0 ^^^ mask)
      have hX := xor8 ((s.bs.take (s.k + L)).getD (s.k + j) 0) mask
      have HFe := Lib.hid (show (s.bs.take (s.k + L)).set (s.k + j) ((s.bs.take (s.k + L)).getD (s.k + j) 0 ^^^ mask) = M.fell keep j mask s by
        rw [M.fell, ← HL.out, if_pos hp]
        have : (s.bs.take (s.k + L)).getD (s.k + j) 0 = s.bs.getD (s.k + j) 0 := by rw [List.getD, List.getD, List.getElem?_take_of_lt (by omega)]
        rw [this]; simp)
      rw [HFe.out] at HS
      unfold enc8 at HS
      generalize (s.bs.take (s.k + L)).getD (s.k + j) 0 ^^^ mask = x at *
      generalize (s.bs.take (s.k + L)).getD (s.k + j) 0 = y at *
      have HS2 := Lib.hid HS
      have K2 := Lib.hid ((Keeps.refl (fun y => y = w.heap.size) w1).setCell (p := ⟨w.heap.size, s.k + j, none⟩) (.inl rfl) (.int .u8 (x.toNat : Int)))
      have H2 := Lib.hid (H1.out.keeps K2.out fun x e => by have := HD.out.lt x e; omega)
      have e6 : IntKind.i64.wrap ((s.k : Int) + (j : Int)) = (s.k : Int) + (j : Int) := IntWalk.i64_in _ (by omega)
      have e7 : ((s.k : Int) + (j : Int)).toNat = s.k + j := by omega
      have e8 : 0 ≤ (s.k : Int) + (j : Int) := by omega
      clear HS
      go_wp2_with (fail)
      refine (hold_n H2.out HS2.out HF.out (by omega) (by omega)).mono ?_
      rintro e w3 ⟨rfl, hd, hk3⟩
      have HX := Lib.hid hd
      have HK := Lib.hid hk3
      clear hd hk3
      go_wp2
      go_end0
      exact ⟨rfl, crash_done (b := w.heap.size) (n := s.k + L) HG.out rfl HN1.out K2.out HK.out HX.out (by rw [← HL.out])⟩
    · have HFe := Lib.hid (show s.bs.take (s.k + L) = M.fell keep pos mask s by rw [M.fell, ← HL.out, if_neg hp])
      rw [HFe.out] at HB1
      have HS2 := HB1
      have K2 := Lib.hid (Keeps.refl (fun y => y = w.heap.size) w1)
      have H2 := H1
      by_cases h0 : pos < 0
      · clear hp
        go_wp2_with (fail)
        refine (hold_n H2.out HS2.out HF.out (by omega) (by omega)).mono ?_
        rintro e w3 ⟨rfl, hd, hk3⟩
        have HX := Lib.hid hd
        have HK := Lib.hid hk3
        clear hd hk3
        go_wp2
        go_end0
        exact ⟨rfl, crash_done (b := w.heap.size) (n := s.k + L) HG.out rfl HN1.out K2.out HK.out HX.out (by rw [← HL.out])⟩
      · have h1 : (L : Int) ≤ pos := by omega
        clear hp
        go_wp2_with (fail)
        refine (hold_n H2.out HS2.out HF.out (by omega) (by omega)).mono ?_
        rintro e w3 ⟨rfl, hd, hk3⟩
        have HX := Lib.hid hd
        have HK := Lib.hid hk3
        clear hd hk3
        go_wp2
        go_end0
        exact ⟨rfl, crash_done (b := w.heap.size) (n := s.k + L) HG.out rfl HN1.out K2.out HK.out HX.out (by rw [← HL.out])⟩
end Go.Proofs.Ytpdknamdladgnaa
