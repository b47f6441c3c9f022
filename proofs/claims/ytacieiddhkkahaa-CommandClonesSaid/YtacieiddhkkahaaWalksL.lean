/- Contract of the library's Concat at two lists of texts; no conditions but the lengths that it names. -/
import Derived.Test.YtacieiddhkkahaaWalksK
namespace Go.Proofs.Ytacieiddhkkahaa
open Go.ChangeShapes Go.WideShapes Go.ChangeAt Go.RowKit

/-- One of three places. -/
def At3 (i : Value) (P0 P1 P2 : Prop) : Prop := (i = .int .i64 0 ∧ P0) ∨ (i = .int .i64 1 ∧ P1) ∨ (i = .int .i64 2 ∧ P2)

theorem Made.words {l : List (List UInt8)} {w' : World} {base : Nat} {v : Value} (h : w'.ownsRow base 9 1 v l.length (l.map encStr)) : Words w' v l := Row.of_owns h

set_option maxHeartbeats 2000000 in
set_option maxRecDepth 100000 in
theorem concat_any {w : World} {v u : Value} {ss ts : List (List UInt8)} {b : Nat} (h : Words w v ss) (h' : Words w u ts) (hl : ss.length ≤ 1000) (hl' : ts.length ≤ 1000) (hb : b < w.heap.size) (c0 : w.cell? ⟨b, 0, none⟩ = some v) (c1 : w.cell? ⟨b, 1, none⟩ = some u) :
    Calls Try.prog 60 #[.slice (some ⟨b, 0, none⟩) 2 2] w (Made (ss ++ ts) w) := by
  have HV := Lib.hid h
  have HU := Lib.hid h'
  obtain ⟨A, c, rfl, hc, hx⟩ := h.opened
  obtain ⟨A', c', rfl, hc', hx'⟩ := h'.opened
  clear hx hx' h h'
  have hg := grow_nil (ss.length + ts.length) w (by omega)
  rw [Int.natCast_add] at hg
  have HG := Lib.hid hg
  clear hg
  go_enter Try.func60, Try.ntmps60
  go_wp2
  go_loop [3, 11] (fun n i => At3 i (n = .int .i64 0) (n = .int .i64 ss.length) (n = .int .i64 (ss.length + ts.length))) (fun _ i => 2 - (intOf i).toNat)
  case atStart => exact .inl ⟨rfl, rfl⟩
  case round =>
    rcases hrel with ⟨rfl, rfl⟩ | ⟨rfl, rfl⟩ | ⟨rfl, rfl⟩
    · go_wp2
      go_round
      case rel => exact .inr (.inl ⟨rfl, by simp⟩)
      case measure => simp [intOf]
    · go_wp2
      go_round
      case rel => exact .inr (.inr ⟨rfl, rfl⟩)
      case measure => simp [intOf]
    · go_wp2_with (fail)
      refine HG.out.mono ?_
      rintro e w1 ⟨v1, rfl, hown, hbel⟩
      have HO := Lib.hid hown
      have HB := Lib.hid hbel
      clear hown hbel
      have C0 := Lib.hid c0
      have C1 := Lib.hid c1
      clear c0 c1 HG
      go_wp2
      go_loopw [6, 27] (fun x i wr => At3 i (wr.ownsRow w.heap.size 9 1 x 0 []) (wr.ownsRow w.heap.size 9 1 x ss.length (ss.map encStr)) (wr.ownsRow w.heap.size 9 1 x (ss.length + ts.length) (ss.map encStr ++ ts.map encStr)) ∧ Below w.heap.size w wr) (fun _ i _ => 2 - (intOf i).toNat)
      case atStart => exact ⟨.inl ⟨rfl, HO.out⟩, HB.out⟩
      case round =>
        clear HO HB
        obtain ⟨h3, hbw⟩ := hrel
        have hsz := hbw.size
        have c0 := (hbw.cell (p := ⟨b, 0, none⟩) hb).trans C0.out
        have c1 := (hbw.cell (p := ⟨b, 1, none⟩) hb).trans C1.out
        have HB := Lib.hid hbw
        clear hbw
        rcases h3 with ⟨rfl, hown⟩ | ⟨rfl, hown⟩ | ⟨rfl, hown⟩
        · obtain ⟨v', w', hr, hown', hgr⟩ := append_row hown (Row.below HV.out HB.out) (one_str ss) (by rw [List.length_map]; omega) hsz
          rw [List.length_map, Nat.zero_add, List.nil_append] at hown'
          have HO := Lib.hid hown'
          have HB2 := Lib.hid (HB.out.grown hgr hsz (fun k hk => (hown.lt k hk).1))
          clear hown' hgr c1
          go_wp2_with (at_builtin; refine Lib.wpList_append_run _ rfl _ _ _ _ rfl _ _ rfl rfl _ _ hr ?_)
          go_roundw
          case rel => exact ⟨.inr (.inl ⟨rfl, HO.out⟩), HB2.out⟩
          case measure => simp [intOf]
        · obtain ⟨v', w', hr, hown', hgr⟩ := append_row hown (Row.below HU.out HB.out) (one_str ts) (by rw [List.length_map]; omega) hsz
          rw [List.length_map] at hown'
          have HO := Lib.hid hown'
          have HB2 := Lib.hid (HB.out.grown hgr hsz (fun k hk => (hown.lt k hk).1))
          clear hown' hgr c0
          go_wp2_with (at_builtin; refine Lib.wpList_append_run _ rfl _ _ _ _ rfl _ _ rfl rfl _ _ hr ?_)
          go_roundw
          case rel => exact ⟨.inr (.inr ⟨rfl, HO.out⟩), HB2.out⟩
          case measure => simp [intOf]
        · have HO := Lib.hid hown
          clear hown c0 c1
          go_wp2
          go_ret
          exact ⟨_, rfl, by rw [List.length_append, List.map_append]; exact HO.out, HB.out⟩
end Go.Proofs.Ytacieiddhkkahaa
