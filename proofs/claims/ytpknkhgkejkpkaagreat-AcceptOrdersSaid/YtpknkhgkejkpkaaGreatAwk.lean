/- Contract of the law's awake; no conditions. -/
import Derived.Test.YtpknkhgkejkpkaaGreatHan
import Derived.Test.YtpknkhgkejkpkaaGreatArg
namespace Go.Proofs.YtpknkhgkejkpkaaGreat
open Go.ChangeShapes Go.WideShapes Go.ChangeAt Go.RowKit

attribute [local go_sem ↓] run_same_ballot
theorem aw_mod : M.Mod (M.recI 0 4).c := M.modB_iff.1 (by kernel_rfl)
theorem aw_handle : M.handle [] 2 (M.Msg.mk 6 1 2 2 1 (M.recI 0 4)) = (M.keepS (M.Msg.mk 6 1 2 2 1 (M.recI 0 4)) 7 (M.recI 0 4), 0) := by kernel_rfl
set_option maxHeartbeats 4000000 in
set_option maxRecDepth 100000 in
theorem awake_any (w : World) : Calls Tryz.prog 10 #[] w fun e w' => e = .returned (.bool true) ∧ Below w.heap.size w w' := by
  have hb1 := below_new (o := .cells #[.int .i64 6, .int .i64 1, .int .i64 2, .int .i64 2, .int .i64 1, .int .i64 0, .int .i64 4, .int .i64 0, .int .i64 0, .int .i64 0, .int .i64 0, .int .i64 0, .int .i64 0, .int .i64 0, .int .i64 0, .int .i64 0, .int .i64 0, .int .i64 0, .slice none 0 0, .slice none 0 0, .bool false, .int .i64 0, .int .i64 0, .int .i64 0, .int .i64 0, .int .i64 0, .int .i64 0, .int .i64 0, .int .i64 0, .bool false] 49) (Below.refl w.heap.size w)
  have hM := Hold.new w [.int .i64 6, .int .i64 1, .int .i64 2, .int .i64 2, .int .i64 1, .int .i64 0, .int .i64 4, .int .i64 0, .int .i64 0, .int .i64 0, .int .i64 0, .int .i64 0, .int .i64 0, .int .i64 0, .int .i64 0, .int .i64 0, .int .i64 0, .int .i64 0, .slice none 0 0, .slice none 0 0, .bool false, .int .i64 0, .int .i64 0, .int .i64 0, .int .i64 0, .int .i64 0, .int .i64 0, .int .i64 0, .int .i64 0, .bool false] 49
  have HA := handle_any (w := w.alloc (.cells #[.int .i64 6, .int .i64 1, .int .i64 2, .int .i64 2, .int .i64 1, .int .i64 0, .int .i64 4, .int .i64 0, .int .i64 0, .int .i64 0, .int .i64 0, .int .i64 0, .int .i64 0, .int .i64 0, .int .i64 0, .int .i64 0, .int .i64 0, .int .i64 0, .slice none 0 0, .slice none 0 0, .bool false, .int .i64 0, .int .i64 0, .int .i64 0, .int .i64 0, .int .i64 0, .int .i64 0, .int .i64 0, .int .i64 0, .bool false] 49)) (rv_nil none 0) (by decide) (fun x hx => (List.not_mem_nil hx).elim) 2 (M.Msg.mk 6 1 2 2 1 (M.recI 0 4)) (va := NS) (vb := NS) ⟨Rds.nil _, Wrs.nil _⟩ aw_mod
  rw [aw_handle] at HA
  have HH := Lib.hid (show Calls Tryz.prog 18 #[.slice none 0 0, .int .i64 2, .agg #[.int .i64 6, .int .i64 1, .int .i64 2, .int .i64 2, .int .i64 1, .int .i64 0, .int .i64 4, .int .i64 0, .int .i64 0, .int .i64 0, .int .i64 0, .int .i64 0, .int .i64 0, .int .i64 0, .int .i64 0, .int .i64 0, .int .i64 0, .int .i64 0, .slice none 0 0, .slice none 0 0, .bool false, .int .i64 0, .int .i64 0, .int .i64 0, .int .i64 0, .int .i64 0, .int .i64 0, .int .i64 0, .int .i64 0, .bool false]] (w.alloc (.cells #[.int .i64 6, .int .i64 1, .int .i64 2, .int .i64 2, .int .i64 1, .int .i64 0, .int .i64 4, .int .i64 0, .int .i64 0, .int .i64 0, .int .i64 0, .int .i64 0, .int .i64 0, .int .i64 0, .int .i64 0, .int .i64 0, .int .i64 0, .int .i64 0, .slice none 0 0, .slice none 0 0, .bool false, .int .i64 0, .int .i64 0, .int .i64 0, .int .i64 0, .int .i64 0, .int .i64 0, .int .i64 0, .int .i64 0, .bool false] 49)) (Tldn (M.keepS (M.Msg.mk 6 1 2 2 1 (M.recI 0 4)) 7 (M.recI 0 4), 0) (w.alloc (.cells #[.int .i64 6, .int .i64 1, .int .i64 2, .int .i64 2, .int .i64 1, .int .i64 0, .int .i64 4, .int .i64 0, .int .i64 0, .int .i64 0, .int .i64 0, .int .i64 0, .int .i64 0, .int .i64 0, .int .i64 0, .int .i64 0, .int .i64 0, .int .i64 0, .slice none 0 0, .slice none 0 0, .bool false, .int .i64 0, .int .i64 0, .int .i64 0, .int .i64 0, .int .i64 0, .int .i64 0, .int .i64 0, .int .i64 0, .bool false] 49))) from HA)
  have HB1 := Lib.hid hb1
  have HM := Lib.hid hM
  have hsb : M.eq2 2 1 2 1 = true := by decide
  clear hb1 hM HA
  go_enter Tryz.func10, Tryz.ntmps10
  go_wp2_with (first
    | (with_reducible refine wpList_buildTo rfl 49 _ rfl _ rfl #[.int .i64 6, .int .i64 1, .int .i64 2, .int .i64 2, .int .i64 1, .int .i64 0, .int .i64 4, .int .i64 0, .int .i64 0, .int .i64 0, .int .i64 0, .int .i64 0, .int .i64 0, .int .i64 0, .int .i64 0, .int .i64 0, .int .i64 0, .int .i64 0, .slice none 0 0, .slice none 0 0, .bool false, .int .i64 0, .int .i64 0, .int .i64 0, .int .i64 0, .int .i64 0, .int .i64 0, .int .i64 0, .int .i64 0, .bool false] (by kernel_rfl) ?_)
    | (with_reducible refine wpList_store_fresh rfl 49 _ _ rfl w.heap.size rfl 49 _ [.int .i64 6, .int .i64 1, .int .i64 2, .int .i64 2, .int .i64 1, .int .i64 0, .int .i64 4, .int .i64 0, .int .i64 0, .int .i64 0, .int .i64 0, .int .i64 0, .int .i64 0, .int .i64 0, .int .i64 0, .int .i64 0, .int .i64 0, .int .i64 0, .slice none 0 0, .slice none 0 0, .bool false, .int .i64 0, .int .i64 0, .int .i64 0, .int .i64 0, .int .i64 0, .int .i64 0, .int .i64 0, .int .i64 0, .bool false] rfl rfl rfl (by kernel_rfl) rfl ?_)
    | (with_reducible refine wpList_load_mid rfl 49 _ rfl w.heap.size 0 rfl [.int .i64 6, .int .i64 1, .int .i64 2, .int .i64 2, .int .i64 1, .int .i64 0, .int .i64 4, .int .i64 0, .int .i64 0, .int .i64 0, .int .i64 0, .int .i64 0, .int .i64 0, .int .i64 0, .int .i64 0, .int .i64 0, .int .i64 0, .int .i64 0, .slice none 0 0, .slice none 0 0, .bool false, .int .i64 0, .int .i64 0, .int .i64 0, .int .i64 0, .int .i64 0, .int .i64 0, .int .i64 0, .int .i64 0, .bool false] _ HM.out.cel.whole Tryz.underlying49 rfl (by kernel_rfl) ?_)
    | (go_at_call 18
       refine HH.out.mono ?_
       rintro e w2 ⟨xa, xb, ya, yb, rfl, t1, t2, hb⟩
       have HB2 := Lib.hid (below_on HB1.out hb)
       have M2 := HM.out.on hb
       have x1 : xa.oneCell' = true := rds_one t1.rs
       have x2 : xb.oneCell' = true := wrs_one t1.ws
       have x3 : ya.oneCell' = true := rds_one t2.rs
       have x4 : yb.oneCell' = true := wrs_one t2.ws
       have o5 : (stc (M.keepS (M.Msg.mk 6 1 2 2 1 (M.recI 0 4)) 7 (M.recI 0 4)) xa xb ya yb).all (·.oneCell') = true := stc_one x1 x2 x3 x4
       clear hb t1 t2)
    | (with_reducible refine store_freshA rfl 52 _ _ rfl w2.heap.size rfl 52 _ (stc (M.keepS (M.Msg.mk 6 1 2 2 1 (M.recI 0 4)) 7 (M.recI 0 4)) xa xb ya yb) rfl rfl rfl (stc_size _ _ _ _ _) o5 ?_
       intro w3 S3 b3
       have HB3 := Lib.hid (below_on HB2.out b3)
       have M3 := M2.on b3
       have s25 : w3.cell? ⟨w2.heap.size, 25, none⟩ = some (.bool true) := hold_cell S3 25 rfl
       have s3 : w3.cell? ⟨w2.heap.size, 3, none⟩ = some (.int .i64 2) := hold_cell S3 3 rfl
       have s4 : w3.cell? ⟨w2.heap.size, 4, none⟩ = some (.int .i64 1) := hold_cell S3 4 rfl
       have m3 : w3.cell? ⟨w.heap.size, 3, none⟩ = some (.int .i64 2) := hold_cell M3 3 rfl
       have m4 : w3.cell? ⟨w.heap.size, 4, none⟩ = some (.int .i64 1) := hold_cell M3 4 rfl
       have s2 : w3.cell? ⟨w2.heap.size, 2, none⟩ = some (.int .i64 0) := hold_cell S3 2 rfl
       have s56 : w3.cell? ⟨w2.heap.size, 56, none⟩ = some (.bool true) := hold_cell S3 56 rfl
       have s26 : w3.cell? ⟨w2.heap.size, 26, none⟩ = some (.int .i64 7) := hold_cell S3 26 rfl
       have s28 : w3.cell? ⟨w2.heap.size, 28, none⟩ = some (.int .i64 1) := hold_cell S3 28 rfl
       clear b3 S3 M3)
    | fail)
  go_ret
  exact ⟨rfl, HB3.out⟩
end Go.Proofs.YtpknkhgkejkpkaaGreat
