/- The law's own look at one crash: contract of awake; no conditions. -/
import Derived.Test.YtdachohcjpjblaaGreatDoorFGet
set_option maxHeartbeats 8000000
set_option maxRecDepth 100000
namespace Go.Proofs.YtdachohcjpjblaaGreatDoor
open Go.ChangeShapes Go.WideShapes Go.ChangeAt Go.RowKit
open Di (Keeps In below_on below_new)
open Wi (Hold)
def K.srec (n : Int) : K.Rec := ⟨0, n, 1, 0, 0, 0, 0, ⟨0, 0, 0, 0, 0, 0, [], [], false⟩, 1, 0, 0, 0, 0, 0, 0, 0, false⟩
theorem K.srec_right1 : Wi.M.rightR (K.srec 1) = true := by decide
theorem K.srec_right2 : Wi.M.rightR (K.srec 2) = true := by decide
theorem K.srec_len1 : K.len (K.srec 1) ≤ 100 := by decide
theorem K.srec_len2 : K.len (K.srec 2) ≤ 100 := by decide
theorem results32 {tmps : Array Value} {w : World} {b : Nat} {L : List Value} (hp : tmps.getD 2 undef = .pointer (some ⟨b, 0, none⟩)) (hr : w.rangeAt b 0 L) (hi : (Tryz.prog.info? 67).map (·.size) = some L.length) :
 (results Tryz.f32 tmps).run Tryz.prog w = .ok (.agg L.toArray) w := by
 have hp' : tmps[2]?.getD undef = .pointer (some ⟨b, 0, none⟩) := by simpa using hp
 simp [results, hp', asAddr, run_loadVar_mid w b 0 67 L _ hr Tryz.underlying67 rfl hi]
theorem some_any (n : Int) (w : World) : Calls Tryz.prog 32 #[.int .i64 n] w fun e w' => e = .returned (.agg #[.int .i64 (K.srec n).ir,.int .i64 (K.srec n).is,.int .i64 (K.srec n).st,.int .i64 (K.srec n).pn,.int .i64 (K.srec n).pr,.int .i64 (K.srec n).bn,.int .i64 (K.srec n).br,.int .i64 (K.srec n).c.k,.int .i64 (K.srec n).c.tc,.int .i64 (K.srec n).c.tn,.int .i64 (K.srec n).c.tt,.int .i64 (K.srec n).c.tk,.int .i64 (K.srec n).c.sh, (.slice none 0 0), (.slice none 0 0),.bool (K.srec n).c.cm,.int .i64 (K.srec n).sq,.int .i64 (K.srec n).d0,.int .i64 (K.srec n).d1,.int .i64 (K.srec n).d2,.int .i64 (K.srec n).d3,.int .i64 (K.srec n).d4,.int .i64 (K.srec n).d5,.int .i64 (K.srec n).d6,.bool (K.srec n).kp]) ∧ Below w.heap.size w w' := by
 go_enter Tryz.func32, Tryz.ntmps32
 go_wp2_with (first
  | (with_reducible refine Wi.wpList_store_fresh rfl 67 _ _ rfl w.heap.size rfl 67 _ [.int .i64 0,.int .i64 n,.int .i64 1,.int .i64 0,.int .i64 0,.int .i64 0,.int .i64 0,.int .i64 0,.int .i64 0,.int .i64 0,.int .i64 0,.int .i64 0,.int .i64 0,.slice none 0 0,.slice none 0 0,.bool false,.int .i64 1,.int .i64 0,.int .i64 0,.int .i64 0,.int .i64 0,.int .i64 0,.int .i64 0,.int .i64 0,.bool false] rfl rfl rfl (by kernel_rfl) rfl ?_))
 have hh := Wi.Hold.new w [.int .i64 0,.int .i64 n,.int .i64 1,.int .i64 0,.int .i64 0,.int .i64 0,.int .i64 0,.int .i64 0,.int .i64 0,.int .i64 0,.int .i64 0,.int .i64 0,.int .i64 0,.slice none 0 0,.slice none 0 0,.bool false,.int .i64 1,.int .i64 0,.int .i64 0,.int .i64 0,.int .i64 0,.int .i64 0,.int .i64 0,.int .i64 0,.bool false] 67
 refine bodyPost_ret (results32 rfl hh.cel.whole (by kernel_rfl)) rfl ?_
 exact ⟨rfl, below_new (Below.refl _ _)⟩
theorem since {w w1 w2 : World} {F F' : Nat → Prop} (hb : Below w.heap.size w w1) (hF : ∀ x, F x → w.heap.size ≤ x) (k : Keeps F w1 w2) (g : Di.Grew F F' w1 w2) : Below w.heap.size w w2 ∧ ∀ x, F' x → w.heap.size ≤ x :=
 ⟨hb.trans (k.below hF hb.size), fun x f => (g.1 x f).elim (hF x) (fun e => Nat.le_trans hb.size e)⟩
theorem rws_one {F : Nat → Prop} {w : World} {x : Rv} (h : Txt w x) (ho : Out F w x.va ∧ Out F w x.vb) (hF : ∀ y, F y → y < w.heap.size) : Rws F (w.alloc (.cells x.cells.toArray 67)) (.slice (some ⟨w.heap.size, 0, none⟩) 1 1) [x] := by
 have hb : Below w.heap.size w (w.alloc (.cells x.cells.toArray 67)) := below_new (Below.refl _ _)
 have hh := Wi.Hold.new w x.cells 67
 have hs : w.heap.size < (w.alloc (.cells x.cells.toArray 67)).heap.size := by simp
 refine ⟨⟨⟨by rw [flat_len], _, 1, rfl, Nat.le_refl _, fun _ => ⟨w.heap.size, 0, rfl, hs, fun j v hj => ?_⟩⟩, fun y hy => ?_⟩, ?_, fun y hy => ?_⟩
 ·rw [List.flatMap_singleton] at hj
  exact hh.cel.whole j v hj
 ·rw [List.mem_singleton.1 hy]; exact h.below hb
 ·intro _ b e
  cases e
  exact ⟨fun f => by have := hF _ f; exact absurd this (Nat.lt_irrefl _), hs⟩
 ·rw [List.mem_singleton.1 hy]; exact .of ⟨ho.1.below hb.size, ho.2.below hb.size⟩
theorem txt_nil (w : World) (r : K.Rec) (h1 : r.c.rs = []) (h2 : r.c.ws = []) : Txt w ⟨r,.slice none 0 0,.slice none 0 0⟩ := by
 refine ⟨?_, ?_⟩
 ·show Wi.Rds w (.slice none 0 0) r.c.rs
  rw [h1]; exact Wi.RowN.of_owns (World.ownsRow_nil w 0 113 3)
 ·show Wi.Wrs w (.slice none 0 0) r.c.ws
  rw [h2]; exact Wi.RowN.of_owns (World.ownsRow_nil w 0 115 2)
def K.x1 : Rv := ⟨K.srec 1,.slice none 0 0,.slice none 0 0⟩
def K.x2 : Rv := ⟨K.srec 2,.slice none 0 0,.slice none 0 0⟩
def K.S1 : Di.M.St := ⟨200, K.fb [K.srec 1], 0⟩
def K.S2 : Di.M.St := ⟨200, K.fb [K.srec 1], (K.fb [K.srec 1]).length⟩
def K.S3 : Di.M.St := ⟨200, K.fb [K.srec 1] ++ K.fb [K.srec 2], (K.fb [K.srec 1]).length⟩
def K.S5 : Di.M.St := ⟨200, K.fb [K.srec 1], (K.fb [K.srec 1]).length⟩
theorem K.rg1 : K.Rg [K.srec 1] := fun r hr => by rw [List.mem_singleton.1 hr]; exact K.srec_right1
theorem K.rg2 : K.Rg [K.srec 2] := fun r hr => by rw [List.mem_singleton.1 hr]; exact K.srec_right2
theorem K.f1 : (K.fb [K.srec 1]).length ≤ 100 := by rw [K.fb_len_cons, K.fb_nil]; exact K.srec_len1
theorem K.f2 : (K.fb [K.srec 2]).length ≤ 100 := by rw [K.fb_len_cons, K.fb_nil]; exact K.srec_len2
theorem K.opn0 : K.opn (Di.M.nil 200) = Di.M.nil 200 := by
 unfold K.opn Di.M.nil
 rw [K.rd_nil, K.fb_nil]; rfl
theorem K.b1 : rgB [K.x1] = true := rgB_iff.2 K.rg1
theorem K.b2 : rgB [K.x2] = true := rgB_iff.2 K.rg2
theorem K.ap1 : K.apE [K.x1] (Di.M.nil 200) = 0 ∧ K.apS [K.x1] (Di.M.nil 200) = K.S1 := by
 have h : (Di.M.nil 200).bs.length + (K.fb [K.srec 1]).length ≤ (Di.M.nil 200).z := by have := K.f1; show 0 + _ ≤ 200; omega
 unfold K.apE K.apS
 rw [K.b1, if_pos rfl, if_pos rfl]
 unfold Di.M.appE Di.M.app
 exact ⟨if_pos h, if_pos h⟩
theorem K.ap2 : K.apE [K.x2] K.S2 = 0 ∧ K.apS [K.x2] K.S2 = K.S3 := by
 have h : K.S2.bs.length + (K.fb [K.srec 2]).length ≤ K.S2.z := by have := K.f1; have := K.f2; show (K.fb [K.srec 1]).length + _ ≤ 200; omega
 unfold K.apE K.apS
 rw [K.b2, if_pos rfl, if_pos rfl]
 unfold Di.M.appE Di.M.app
 exact ⟨if_pos h, if_pos h⟩
theorem K.crash3 : K.rd (Di.M.crash 1 9 0 K.S3).bs = [K.srec 1] ∧ (Di.M.crash 1 9 0 K.S3).bs.length ≤ 200 := by
 have h : (Di.M.crash 1 9 0 K.S3).bs = K.fb [K.srec 1] ++ K.fall 1 9 0 (K.fb [K.srec 2]) := K.fell_fall 200 (K.fb [K.srec 1]) (K.fb [K.srec 2]) 1 9 0
 have hc : K.cnt (decide ((0 : UInt8) ≠ 0)) 1 9 [K.srec 2] = 0 := by
  have := (K.enc_len K.srec_right2).1
  rw [K.cnt, if_pos (.inl (by unfold K.len; omega))]
 constructor
 ·rw [h, K.rd_fb K.rg1, K.rd_fall _ _ _ _ K.rg2, hc, List.take_zero, List.append_nil]
 ·rw [h, List.length_append, K.fall_len]
  have := K.f1
  have := K.f2
  have := K.left_le 1 (K.fb [K.srec 2])
  omega
theorem K.opn3 : K.opn (Di.M.crash 1 9 0 K.S3) = K.S5 := by
 unfold K.opn
 rw [K.crash3.1]
 have : (Di.M.crash 1 9 0 K.S3).k = (K.fb [K.srec 1]).length + Di.M.left 1 K.S3 := rfl
 rw [this, Nat.min_eq_right (Nat.le_add_right _ _)]; rfl
theorem K.last5 : K.lastR (K.rd K.S5.bs) (0, 1) = some (K.srec 1) := by
 rw [show K.S5.bs = K.fb [K.srec 1] from rfl, K.rd_of_fb K.rg1]; rfl
theorem K.mod1 : ∀ x ∈ [K.x1], Wi.M.Mod x.r.c := fun x hx => by rw [List.mem_singleton.1 hx]; exact Wi.M.tiny_mod (K.tiny K.srec_right1)
theorem K.mod2 : ∀ x ∈ [K.x2], Wi.M.Mod x.r.c := fun x hx => by rw [List.mem_singleton.1 hx]; exact Wi.M.tiny_mod (K.tiny K.srec_right2)
theorem Log.parts {w : World} {gl gd : Nat} {F : Nat → Prop} {s : Di.M.St} (h : Log w gl gd F s) : ∃ Fd, Di.Disk w gd Fd s ∧ (∀ x, Fd x → F x) ∧ ¬ Fd 0 := by
 obtain ⟨gc, Fd, Fc, X, rest, A, c, vr, ve, gm, L, hF⟩ := h
 exact ⟨Fd, L.dk, fun x f => (hF x).2 (.inl f), L.zd⟩
theorem Grew.sub {F F1 F' : Nat → Prop} {w w' : World} (g : Di.Grew F1 F' w w') (h : ∀ x, F1 x → F x) : Di.Grew F F' w w' := ⟨fun x f => (g.1 x f).imp (h x) id, g.2⟩
theorem Keeps.sub {F F1 : Nat → Prop} {w w' : World} (k : Keeps F1 w w') (h : ∀ x, F1 x → F x) : Keeps F w w' := k.wide fun x _ => h x
theorem awake_any {w : World} (hT : Fr.Tab w) : Calls Tryz.prog 9 #[] w fun e w' => e = .returned (.bool true) ∧ Below w.heap.size w w' := by
 have HT := Lib.hid hT
 clear hT
 go_enter Tryz.func9, Tryz.ntmps9
 go_wp2_with (fail)
 refine (Di.new_any 200 w (by omega)).mono ?_
 rintro e w1 ⟨rfl, hd, hb1⟩
 have HD := Lib.hid hd
 have HB1 := Lib.hid hb1
 have HF1 := Lib.hid (show ∀ x, (x = w.heap.size) → w.heap.size ≤ x from fun x e => by omega)
 have HN := Lib.hid (show ¬ (0 = w.heap.size) from by have := HT.out.1; omega)
 clear hd hb1
 go_wp2_with (fail)
 refine (open_any HD.out (HT.out.below HB1.out) HN.out (by simp [Di.M.nil])).mono ?_
 rintro e w2 ⟨gl, F2, rfl, hL, hk, hg⟩
 rw [K.opn0] at hL
 obtain ⟨hb2, hF2⟩ := since HB1.out HF1.out hk hg
 have HL2 := Lib.hid hL
 have HB2 := Lib.hid hb2
 have HF2 := Lib.hid hF2
 clear hL hb2 hF2 hk hg
 go_wp2_with (fail)
 refine (some_any 1 w2).mono ?_
 rintro e w3 ⟨rfl, hb3⟩
 have HL3 := Lib.hid (HL2.out.below hb3)
 have HB3 := Lib.hid (below_on HB2.out hb3)
 clear hb3
 have hx1 : Rws F2 (w3.alloc (.cells K.x1.cells.toArray 67)) (.slice (some ⟨w3.heap.size, 0, none⟩) 1 1) [K.x1] := rws_one (txt_nil _ _ rfl rfl) ⟨Out.nil _ _ _ _, Out.nil _ _ _ _⟩ HL3.out.lt
 have HX1 := Lib.hid hx1
 have hb4 : Below w3.heap.size w3 (w3.alloc (.cells K.x1.cells.toArray 67)) := below_new (Below.refl _ _)
 have HL4 := Lib.hid (HL3.out.below hb4)
 have HB4 := Lib.hid (below_on HB3.out hb4)
 clear hx1 hb4
 go_wp2_with (first
  | (with_reducible refine wpList_build67 rfl (.tmp 17) rfl K.x1 rfl ?_)
  | fail)
 refine (appendL_any (A0 := []) HL4.out rfl K.Rg.nil (by simp [Di.M.nil]) HX1.out K.mod1 (by simp)).mono ?_
 rintro e w5 ⟨rfl, F5, hL, hk, hg⟩
 rw [K.ap1.2] at hL
 rw [K.ap1.1]
 obtain ⟨hb5, hF5⟩ := since HB4.out HF2.out hk hg
 have HL5 := Lib.hid hL
 have HB5 := Lib.hid hb5
 have HF5 := Lib.hid hF5
 clear hL hb5 hF5 hk hg
 go_wp2_with (fail)
 refine (syncL_any HL5.out).mono ?_
 rintro e w6 ⟨rfl, F6, hL, hk, hg⟩
 obtain ⟨hb6, hF6⟩ := since HB5.out HF5.out hk hg
 have HL6 := Lib.hid (show Log w6 gl w.heap.size F6 K.S2 from hL)
 have HB6 := Lib.hid hb6
 have HF6 := Lib.hid hF6
 clear hL hb6 hF6 hk hg
 go_wp2_with (fail)
 refine (some_any 2 w6).mono ?_
 rintro e w7 ⟨rfl, hb7⟩
 have HL7 := Lib.hid (HL6.out.below hb7)
 have HB7 := Lib.hid (below_on HB6.out hb7)
 clear hb7
 have hx2 : Rws F6 (w7.alloc (.cells K.x2.cells.toArray 67)) (.slice (some ⟨w7.heap.size, 0, none⟩) 1 1) [K.x2] := rws_one (txt_nil _ _ rfl rfl) ⟨Out.nil _ _ _ _, Out.nil _ _ _ _⟩ HL7.out.lt
 have HX2 := Lib.hid hx2
 have hb8 : Below w7.heap.size w7 (w7.alloc (.cells K.x2.cells.toArray 67)) := below_new (Below.refl _ _)
 have HL8 := Lib.hid (HL7.out.below hb8)
 have HB8 := Lib.hid (below_on HB7.out hb8)
 clear hx2 hb8
 go_wp2_with (first
  | (with_reducible refine wpList_build67 rfl (.tmp 23) rfl K.x2 rfl ?_)
  | fail)
 refine (appendL_any (A0 := [K.srec 1]) HL8.out rfl K.rg1 (by have := K.f1; show (K.fb [K.srec 1]).length ≤ _; omega) HX2.out K.mod2 (by simp)).mono ?_
 rintro e w9 ⟨rfl, F9, hL, hk, hg⟩
 rw [K.ap2.2] at hL
 rw [K.ap2.1]
 obtain ⟨hb9, hF9⟩ := since HB8.out HF6.out hk hg
 have HL9 := Lib.hid hL
 have HB9 := Lib.hid hb9
 have HF9 := Lib.hid hF9
 clear hL hb9 hF9 hk hg
 obtain ⟨Fd, hd, hs, hz⟩ := HL9.out.parts
 have HCR := Lib.hid (Di.crashD_any hd 1 9 0)
 have HSB := Lib.hid hs
 have HZ := Lib.hid hz
 clear hd hs hz
 go_wp2_with (fail)
 refine HCR.out.mono ?_
 rintro e wa ⟨rfl, Fd2, hd, hk, hg⟩
 obtain ⟨hba, hFa⟩ := since HB9.out (fun x f => HF9.out x (HSB.out x f)) hk hg
 have HDa := Lib.hid hd
 have HBa := Lib.hid hba
 have HFa := Lib.hid hFa
 have HZa := Lib.hid (show ¬ Fd2 0 from fun f => by have := hFa 0 f; have := HT.out.1; omega)
 clear hd hk hg hba hFa HCR
 go_wp2_with (fail)
 refine (open_any HDa.out (HT.out.below HBa.out) HZa.out (by have := K.crash3.2; omega)).mono ?_
 rintro e wb ⟨gm, Fb, rfl, hL, hk, hg⟩
 rw [K.opn3] at hL
 obtain ⟨hbb, hFb⟩ := since HBa.out HFa.out hk hg
 have HLb := Lib.hid hL
 have HBb := Lib.hid hbb
 have HFb := Lib.hid hFb
 have HSZ := Lib.hid (show K.S5.bs.length ≤ 100000 by have := K.f1; show (K.fb [K.srec 1]).length ≤ _; omega)
 clear hL hbb hFb hk hg
 have HG := Lib.hid (getL_any (0, 1) HLb.out HSZ.out)
 go_wp2_with (fail)
 refine HG.out.mono ?_
 rintro e wc ⟨⟨r, va, vb⟩, rfl, hy, ⟨B1, -, o1⟩, ⟨B2, -, o2⟩, Fc, hL, hk, hg⟩
 rw [K.last5] at hy ⊢
 dsimp only at o1 o2
 obtain ⟨A1, k1, rfl⟩ := Wi.ownsRow_slice o1
 obtain ⟨A2, k2, rfl⟩ := Wi.ownsRow_slice o2
 have hv : (⟨r,.slice A1 r.c.rs.length k1,.slice A2 r.c.ws.length k2⟩ : Rv).val = .agg #[.int .i64 r.ir,.int .i64 r.is,.int .i64 r.st,.int .i64 r.pn,.int .i64 r.pr,.int .i64 r.bn,.int .i64 r.br,.int .i64 r.c.k,.int .i64 r.c.tc,.int .i64 r.c.tn,.int .i64 r.c.tt,.int .i64 r.c.tk,.int .i64 r.c.sh, (.slice A1 r.c.rs.length k1), (.slice A2 r.c.ws.length k2),.bool r.c.cm,.int .i64 r.sq,.int .i64 r.d0,.int .i64 r.d1,.int .i64 r.d2,.int .i64 r.d3,.int .i64 r.d4,.int .i64 r.d5,.int .i64 r.d6,.bool r.kp] := rfl
 rw [hv]
 simp only [Option.isSome_some]
 obtain ⟨hbc, hFc⟩ := since HBb.out HFb.out hk hg
 have hba : Below wc.heap.size wc (wc.alloc (.cells #[.int .i64 r.ir,.int .i64 r.is,.int .i64 r.st,.int .i64 r.pn,.int .i64 r.pr,.int .i64 r.bn,.int .i64 r.br,.int .i64 r.c.k,.int .i64 r.c.tc,.int .i64 r.c.tn,.int .i64 r.c.tt,.int .i64 r.c.tk,.int .i64 r.c.sh, (.slice A1 r.c.rs.length k1), (.slice A2 r.c.ws.length k2),.bool r.c.cm,.int .i64 r.sq,.int .i64 r.d0,.int .i64 r.d1,.int .i64 r.d2,.int .i64 r.d3,.int .i64 r.d4,.int .i64 r.d5,.int .i64 r.d6,.bool r.kp] 67)) := below_new (Below.refl _ _)
 have HLc := Lib.hid (hL.below hba)
 have HBc := Lib.hid (below_on hbc hba)
 have HFc := Lib.hid hFc
 clear hy o1 o2 hL hk hg hbc HG hv hba hFc
 go_wp2_with (first
  | (with_reducible refine Wi.wpList_store_fresh rfl 67 _ _ rfl wc.heap.size rfl 67 _ [.int .i64 r.ir,.int .i64 r.is,.int .i64 r.st,.int .i64 r.pn,.int .i64 r.pr,.int .i64 r.bn,.int .i64 r.br,.int .i64 r.c.k,.int .i64 r.c.tc,.int .i64 r.c.tn,.int .i64 r.c.tt,.int .i64 r.c.tk,.int .i64 r.c.sh, (.slice A1 r.c.rs.length k1), (.slice A2 r.c.ws.length k2),.bool r.c.cm,.int .i64 r.sq,.int .i64 r.d0,.int .i64 r.d1,.int .i64 r.d2,.int .i64 r.d3,.int .i64 r.d4,.int .i64 r.d5,.int .i64 r.d6,.bool r.kp] rfl rfl rfl (by kernel_rfl) rfl ?_)
  | (go_at_call 15
     refine (all_any HLc.out HSZ.out).mono ?_
     rintro e wd ⟨v, Y, Fd9, rfl, hY, hr, hL, hk, hg⟩
     have hyl : Y.length = 1 := by
      have := congrArg List.length hY
      rw [rcs_len, show K.S5.bs = K.fb [K.srec 1] from rfl, K.rd_of_fb K.rg1] at this
      exact this
     obtain ⟨A3, k3, hv3⟩ := rowN_sliceOf hr.rows.row
     rw [hyl] at hv3
     subst hv3
     have HBd := Lib.hid (since HBc.out HFc.out hk hg).1
     clear hY hr hL hk hg hyl))
 go_ret
 exact ⟨rfl, HBd.out⟩
end Go.Proofs.YtdachohcjpjblaaGreatDoor
