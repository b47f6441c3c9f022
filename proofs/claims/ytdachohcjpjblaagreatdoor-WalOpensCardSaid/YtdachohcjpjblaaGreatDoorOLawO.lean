/- WalOpens: the law's walk; conditions: the table of sixteen, the argument's bytes. -/
import Derived.Test.YtdachohcjpjblaaGreatDoorOLawW
import Derived.Test.YtdachohcjpjblaaGreatDoorOOpe
import Derived.Test.YtdachohcjpjblaaGreatDoorORow
import Derived.Test.YtdachohcjpjblaaGreatDoorOByn
set_option maxHeartbeats 8000000
set_option maxRecDepth 100000
open Go.Lib renaming hid → V
namespace Go.Proofs.YtdachohcjpjblaaGreatDoor
open Go.ChangeShapes Go.WideShapes Go.ChangeAt Go.RowKit
open Di (Keeps In below_on below_new)
open Wi (Hold)
theorem small_rows {Y : List Rv} {b : List UInt8} (h : rcs Y = K.rd b) : ∀ x ∈ Y, x.r.c.rs.length ≤ 1000 ∧ x.r.c.ws.length ≤ 1000 := fun x hx => by
 have T := K.tiny (K.rd_rg b x.r (by rw [← h]; exact List.mem_map.2 ⟨x, hx, rfl⟩))
 have := T.rl; have := T.wl
 omega
theorem right_rows {Y : List Rv} {b : List UInt8} (h : rcs Y = K.rd b) : ∀ x ∈ Y, Wi.M.FitsR x.r ∧ (K.enc x.r).length ≤ 100000 := fun x hx => by
 have T := K.rd_rg b x.r (by rw [← h]; exact List.mem_map.2 ⟨x, hx, rfl⟩)
 have := K.enc_len T
 exact ⟨K.fits T, by omega⟩
theorem rows_few {Y : List Rv} {b : List UInt8} (h : rcs Y = K.rd b) (hb : b.length ≤ 100000) : Y.length ≤ 100000 := by
 have h1 := K.rd_len b
 have h2 := (K.rd_rg b).count
 have h3 := congrArg List.length h
 rw [rcs_len] at h3
 omega
theorem opn_rd (s : Di.M.St) : K.rd (K.opn s).bs = K.rd s.bs := K.rd_of_fb (K.rd_rg _)
theorem Log.disk {w : World} {gl gd : Nat} {F : Nat → Prop} {s : Di.M.St} (h : Log w gl gd F s) : ∃ Fd, Di.Disk w gd Fd s ∧ ∀ x, Fd x → F x := by
 obtain ⟨gc, Fd, Fc, X, rest, A, c, vr, ve, gm, L, hF⟩ := h
 exact ⟨Fd, L.dk, fun x f => (hF x).2 (.inl f)⟩
theorem open_law {w : World} {v : Value} {xs : List UInt8} (hT : Fr.Tab w) (h : Wi.Bts w v xs) : Calls Tryz.prog 3 #[v] w fun e w' => e = .returned (.bool true) ∧ Below w.heap.size w w' := by
 have HT := V hT
 obtain ⟨A, c, rfl⟩ := bts_slice (show Fr.Bts w v xs from h)
 have HX := V (show Fr.Bts w (.slice A xs.length c) xs from h)
 clear hT h
 by_cases hl : xs.length ≤ 4000
 ·have hz : ¬ ((4000 : Int) < (xs.length : Int)) := by omega
  go_enter Tryz.func3, Tryz.ntmps3
  go_wp2_with (fail)
  refine (Di.new_any 5000 w (by omega)).mono ?_
  rintro e w1 ⟨rfl, hd, hb⟩
  have HB1 := V hb
  have hb1 : Below w1.heap.size w1 (w1.alloc (.cells #[] 5)) := below_new (Below.refl _ _)
  have h2 := (HX.out.below HB1.out).below hb1
  have hown : (w1.alloc (.cells #[] 5)).ownsRow w1.heap.size 5 1 (.slice (some ⟨w1.heap.size, 0, none⟩) 0 0) ([] : List UInt8).length (([] : List UInt8).map Fr.enc8) := World.ownsRow_made w1 #[] 0 (Nat.le_refl _) (Nat.zero_le _) rfl
  obtain ⟨v2, w2, hr, ho, hg⟩ := Fr.append_any hown h2 (by simp only [List.length_nil]; omega) (by simp)
  have hb2 : Below w1.heap.size w1 w2 := (below_new (Below.refl _ _)).grown hg (by simp) (fun k e => by cases e; exact Nat.le_refl _)
  rw [List.nil_append] at ho
  have HD2 := V (hd.below hb2)
  have HB2 := V (below_on HB1.out hb2)
  have HR := V (Di.replaceD_any HD2.out (Wi.Own.bts ho) (by omega))
  rw [show Di.M.repE xs (Di.M.nil 5000) = 0 from if_pos (by simp only [Di.M.nil]; omega), show Di.M.rep xs (Di.M.nil 5000) = ⟨5000, xs, xs.length⟩ from if_pos (by simp only [Di.M.nil]; omega)] at HR
  have HF0 := V (show ∀ x, (x = w.heap.size) → w.heap.size ≤ x from fun x e => by omega)
  clear hd hb hb1 h2 hown ho hg hb2
  go_wp2_with (at_builtin; refine Lib.wpList_append_run _ rfl _ _ _ _ rfl _ _ rfl rfl _ _ hr ?_)
  refine HR.out.mono ?_
  rintro e w3 ⟨rfl, F3, hd, hk, hg⟩
  obtain ⟨hb3, hF3⟩ := since HB2.out HF0.out hk hg
  have HD3 := V hd
  have HB3 := V hb3
  have HF3 := V hF3
  have HN := V (show ¬ F3 0 from fun f => by have := hF3 0 f; have := HT.out.1; omega)
  clear hd hk hg hb3 hF3 HR hr
  go_wp2_with (fail)
  refine (open_any HD3.out (HT.out.below HB3.out) HN.out (by simp only []; omega)).mono ?_
  rintro e w4 ⟨gl, F4, rfl, hL, hk, hg⟩
  obtain ⟨hb4, hF4⟩ := since HB3.out HF3.out hk hg
  have hrd := opn_rd ⟨5000, xs, xs.length⟩
  have hbs : (K.opn ⟨5000, xs, xs.length⟩).bs = K.fb (K.rd xs) := rfl
  generalize K.opn ⟨5000, xs, xs.length⟩ = s at *
  have hsl : s.bs.length ≤ 4000 := by rw [hbs]; exact Nat.le_trans (K.rd_len xs) hl
  have HL4 := V hL
  have HB4 := V hb4
  have HF4 := V hF4
  have HG4 := V hg.2
  have HRD := V hrd
  have HBS := V hbs
  have HSL := V hsl
  dsimp only at HRD
  clear hL hb4 hF4 hk hg hrd hbs hsl HD3 HN
  go_wp2_with (fail)
  refine (open_ref (HX.out.below HB4.out) (by omega)).mono ?_
  rintro e w5 ⟨v5, Y, rfl, hY, hO, hb⟩
  have HB5 := V (below_on HB4.out hb)
  have HY := V hY
  have HO := V (hO.rws HG4.out)
  have HL5 := V (HL4.out.below hb)
  obtain ⟨A5, c5, rfl⟩ := rows_len HO.out.rows
  clear hY hO hb HL4
  go_wp2_with (fail)
  refine (all_any HL5.out (by have := HSL.out; omega)).mono ?_
  rintro e w6 ⟨v6, Y6, F6, rfl, hY6, hr6, hL, hk, hg⟩
  obtain ⟨A6, c6, rfl⟩ := rows_len hr6.rows
  obtain ⟨hb6, hF6⟩ := since HB5.out HF4.out hk hg
  have HO6 := V (HO.out.step hk hg)
  have HL6 := V hL
  have HB6 := V hb6
  have HF6 := V hF6
  have HY6 := V (hY6.trans HRD.out)
  have HR6 := V hr6.rows
  clear hL hk hg hb6 hF6 hY6 hr6 HL5 HO
  have HW6 := V (rows_any HR6.out HO6.out.rows (HY6.out.trans HY.out.symm) (by have := rows_few HY6.out (by omega); omega) (small_rows HY6.out))
  go_wp2_with (fail)
  refine HW6.out.mono ?_
  rintro e w7 ⟨rfl, hb⟩
  have HL7 := V (HL6.out.below hb)
  have HO7 := V (HO6.out.below hb)
  have HB7 := V (below_on HB6.out hb)
  clear hb HL6 HO6 HW6 HR6
  obtain ⟨Fd, hdk, hsub⟩ := HL7.out.disk
  have HD7 := V hdk
  have HO7 := V (HO7.out.sub hsub)
  have HFd := V (show ∀ x, Fd x → w.heap.size ≤ x from fun x f => HF6.out x (hsub x f))
  have HN := V (show ¬ Fd 0 from fun f => by have := HF6.out 0 (hsub 0 f); have := HT.out.1; omega)
  clear hdk hsub HL7 HF6
  go_wp2_with (fail)
  refine (Di.bytes_any HD7.out).mono ?_
  rintro e w8 ⟨rfl, -, hb⟩
  have HD8 := V (HD7.out.below hb)
  have HO8 := V (HO7.out.below hb)
  have HB8 := V (below_on HB7.out hb)
  have HBY := V (bytes_ref HO8.out.rows (right_rows HY.out) (rows_few HY.out (by omega)))
  rw [HY.out, ← HBS.out] at HBY
  clear hb HD7
  go_wp2_with (fail)
  refine HBY.out.mono ?_
  rintro e w9 ⟨rfl, hb⟩
  have HD9 := V (HD8.out.below hb)
  have HO9 := V (HO8.out.below hb)
  have HB9 := V (below_on HB8.out hb)
  clear hb HD8 HO8 HBY
  go_wp2_with (fail)
  refine (open_any HD9.out (HT.out.below HB9.out) HN.out (by have := HSL.out; omega)).mono ?_
  rintro e wa ⟨gm, Fa, rfl, hL, hk, hg⟩
  obtain ⟨hba, hFa⟩ := since HB9.out HFd.out hk hg
  have HLa := V hL
  have HBa := V hba
  have HFa := V hFa
  have HOa := V (HO9.out.step hk hg)
  have HSa := V (show (K.opn s).bs.length ≤ 100000 by have := HSL.out; have := K.rd_len s.bs; show (K.fb (K.rd s.bs)).length ≤ 100000; omega)
  have HRa := V ((opn_rd s).trans HRD.out)
  clear hL hk hg hba hFa HD9 HO9
  go_wp2_with (fail)
  refine (all_any HLa.out HSa.out).mono ?_
  rintro e wb ⟨vb, Yb, Fb, rfl, hYb, hrb, hL, hk, hg⟩
  obtain ⟨Ab, cb, rfl⟩ := rows_len hrb.rows
  obtain ⟨hbb, hFb⟩ := since HBa.out HFa.out hk hg
  have HOb := V (HOa.out.step hk hg)
  have HBb := V hbb
  have HYb := V (hYb.trans HRa.out)
  have HRb := V hrb.rows
  clear hL hk hg hbb hFb hYb hrb HLa HOa
  have HWb := V (rows_any HRb.out HOb.out.rows (HYb.out.trans HY.out.symm) (by have := rows_few HYb.out (by omega); omega) (small_rows HYb.out))
  go_wp2_with (fail)
  refine HWb.out.mono ?_
  rintro e wc ⟨rfl, hb⟩
  have HBc := V (below_on HBb.out hb)
  clear hb
  go_wp2_with (fail)
  refine (awake_any (HT.out.below HBc.out)).mono ?_
  rintro e wd ⟨rfl, hb⟩
  have HBd := V (below_on HBc.out hb)
  clear hb
  go_wp2
  go_ret
  exact ⟨rfl, HBd.out⟩
 ·have hz : (4000 : Int) < (xs.length : Int) := by omega
  go_enter Tryz.func3, Tryz.ntmps3
  go_wp2_with (fail)
  refine (awake_any HT.out).mono ?_
  rintro e w2 ⟨rfl, hb⟩
  have HB3 := V hb
  clear hb
  go_wp2
  go_ret
  exact ⟨rfl, HB3.out⟩
end Go.Proofs.YtdachohcjpjblaaGreatDoor
