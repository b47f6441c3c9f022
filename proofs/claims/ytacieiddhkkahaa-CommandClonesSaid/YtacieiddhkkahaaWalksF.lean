/- Contracts of Few, the document's In and Before, and same; no conditions but the lengths that they name. -/
import Derived.Test.YtacieiddhkkahaaMathB
import Derived.Test.YtacieiddhkkahaaOpens
import Derived.Sort.Walk0
namespace Go.Proofs.Ytacieiddhkkahaa
open Go.RowKit

theorem Words.opened {w : World} {v : Value} {ss : List (List UInt8)} (h : Words w v ss) : ∃ (A : Option Addr) (c : Nat), v = .slice A ss.length c ∧ ss.length ≤ c ∧ (0 < ss.length → ∃ b o, A = some ⟨b, o, none⟩ ∧ b < w.heap.size ∧ ∀ k, k < ss.length → w.cell? ⟨b, o + k, none⟩ = some (.string ⟨(ss.getD k []).toArray⟩)) := by
  obtain ⟨A, c, e, hl, hx⟩ := h
  rw [List.length_map] at e hl hx
  refine ⟨A, c, e, hl, fun h0 => ?_⟩
  obtain ⟨b, o, e1, hb, hy⟩ := hx h0
  exact ⟨b, o, e1, hb, fun k hk => hy k _ (by rw [List.getElem?_map, List.getD, List.getElem?_eq_getElem hk]; rfl)⟩
theorem size_mk (x : List UInt8) : (⟨x.toArray⟩ : ByteArray).size = x.length := by simp [ByteArray.size]

set_option maxHeartbeats 1000000 in
theorem in_any {w : World} {v : Value} {ss : List (List UInt8)} (x : List UInt8) (h : Words w v ss) (hl : ss.length ≤ 1000) : Calls Try.prog 40 #[v, .string ⟨x.toArray⟩] w fun e w' => e = .returned (.bool (M.inB ss x)) ∧ w = w' := by
  obtain ⟨A, c, rfl, hc, hx⟩ := h.opened
  have HX := Lib.hid hx
  clear hx h
  go_enter Try.func40, Try.ntmps40
  go_wp2
  go_loop [5] (fun i => ∃ k : Nat, k ≤ ss.length ∧ i = .int .i64 k ∧ M.inB (ss.take k) x = false) (fun i => ss.length - (intOf i).toNat)
  case atStart => exact ⟨0, Nat.zero_le _, rfl, by simp [M.inB]⟩
  case round =>
    obtain ⟨k, hk, rfl, hin⟩ := hrel
    have HS := Lib.hid hin
    clear hin
    by_cases hlt : k < ss.length
    · obtain ⟨b, o, rfl, hb, hy⟩ := HX.out (by omega)
      have hcell := hy k hlt
      obtain ⟨y, hyk⟩ : ∃ y, y = ss.getD k [] := ⟨_, rfl⟩
      rw [← hyk] at hcell
      have HY := Lib.hid hyk
      clear hy hyk
      rcases two (y == x) with e | e
      · go_wp2
        go_ret
        exact ⟨ret_bool (M.inB_at hlt (by rw [← HY.out]; exact e)), rfl⟩
      · go_wp2
        go_round
        case rel => exact ⟨k + 1, by omega, by go_num, M.inB_take hlt HS.out (by rw [← HY.out]; exact e)⟩
        case measure => simp [intOf]; omega
    · go_wp2
      go_ret
      exact ⟨ret_bool (M.inB_end hlt HS.out), rfl⟩
end Go.Proofs.Ytacieiddhkkahaa
