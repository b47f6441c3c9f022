/- The program's log and the document's agree, as plain values; conditions: those that each theorem names. -/
import Derived.Test.YtdachohcjpjblaaGreatDoorFLawW
import Derived.Test.YtdachohcjpjblaaGreatDoorFByn
import Derived.Test.YtdachohcjpjblaaGreatDoorFCpt
import Derived.Test.YtdachohcjpjblaaGreatDoorFRfh
set_option maxHeartbeats 8000000
set_option maxRecDepth 100000
namespace Go.Proofs.YtdachohcjpjblaaGreatDoor
open Go.ChangeShapes Go.WideShapes Go.ChangeAt Go.RowKit
open Di (Keeps In below_on below_new)
open Wi (Hold)
namespace Rf
def lv (v : Value) (sf sz : Int) : Value := .agg #[v,.int .i64 sf,.int .i64 sz]
theorem sync_ref {w : World} (A : Option Addr) (n c : Nat) (sf sz : Int) : Calls Tryz.prog 42 #[.agg #[.slice A n c,.int .i64 sf,.int .i64 sz]] w fun e w' => e = .returned (.agg #[.slice A n c,.int .i64 n,.int .i64 sz]) ∧ Below w.heap.size w w' := by
 go_enter Tryz.func42, Tryz.ntmps42
 go_wp2
 exact bodyPost_ret (v := .agg #[.slice A n c,.int .i64 n,.int .i64 sz]) (by simp [results, Tryz.results42, go_sem]) rfl ⟨rfl, below_new (below_new (Below.refl _ _))⟩
theorem find_key {k : Ky} (f : Ky → K.Rec) : ∀ (L : List Ky), (∀ a ∈ L, ((f a).ir, (f a).is) = a) → (L.map f).reverse.find? (fun r => decide (k = (r.ir, r.is))) = if k ∈ L then some (f k) else none
 | [], _ => rfl
 | a :: L, hf => by
   have ih := find_key (k := k) f L (fun b hb => hf b (List.mem_cons_of_mem _ hb))
   rw [List.map_cons, List.reverse_cons, List.find?_append, ih]
   by_cases h1 : k ∈ L
   ·rw [if_pos h1, if_pos (List.mem_cons_of_mem _ h1)]; rfl
   ·rw [if_neg h1]
    have ha := hf a List.mem_cons_self
    by_cases h2 : k = a
    ·subst h2
     rw [if_pos List.mem_cons_self]
     simp [ha]
    ·rw [if_neg (by simp [h1, h2])]
     simp [ha, h2]
theorem picked_last {X : List Rv} {ks : List Ky} (h : ks.Perm ((cur X).map (·.1))) (k : Ky) : K.lastR (rcs (ks.map (Cp.kf (cur X)))) k = K.lastR (rcs X) k := by
 have hk : ∀ a ∈ ks, ∃ y, (a, y) ∈ cur X ∧ Cp.kf (cur X) a = y := fun a ha => by
  obtain ⟨⟨a', y⟩, hy, rfl⟩ := List.mem_map.1 (h.mem_iff.1 ha)
  exact ⟨y, hy, by unfold Cp.kf; rw [Ls.mget_mem (Ls.cur_nodup X) hy]; rfl⟩
 have e1 : rcs (ks.map (Cp.kf (cur X))) = ks.map (fun a => (Cp.kf (cur X) a).r) := by simp [rcs, Function.comp_def]
 unfold K.lastR
 rw [e1, find_key (fun a => (Cp.kf (cur X) a).r) ks (fun a ha => by
  obtain ⟨y, hy, e⟩ := hk a ha
  have := (cur_mem X _ hy).2
  rw [e]; exact this.symm)]
 show _ = K.lastR (rcs X) k
 by_cases hm : k ∈ ks
 ·obtain ⟨y, hy, e⟩ := hk k hm
  rw [if_pos hm, e, Ls.cur_last hy]
 ·rw [if_neg hm, ← lastX_rcs, ← mget_cur]
  cases e : mget (cur X) k with
  | none => rfl
  | some x =>
    exfalso
    rw [mget_cur] at e
    have h1 : (mget (cur X) k).isSome := by rw [mget_cur, e]; rfl
    have h2 : ∀ (m : List (Ky × Rv)), (mget m k).isSome → k ∈ m.map (·.1) := by
     intro m
     induction m with
     | nil => intro h; simp [mget] at h
     | cons p m ih =>
       intro h
       unfold mget at h
       by_cases hp : k = p.1
       ·simp [hp]
       ·rw [if_neg hp] at h
        exact List.mem_cons_of_mem _ (ih h)
    exact hm (h.mem_iff.2 (h2 _ h1))
end Rf
end Go.Proofs.YtdachohcjpjblaaGreatDoor
namespace Go.Proofs.YtdachohcjpjblaaGreatDoor
open Go.ChangeShapes Go.WideShapes Go.ChangeAt Go.RowKit
open Di (Keeps In below_on below_new)
open Wi (Hold)
namespace Ag
theorem lastR_app (A B : List K.Rec) (k : Ky) : K.lastR (A ++ B) k = (K.lastR B k).or (K.lastR A k) := by
 unfold K.lastR
 rw [List.reverse_append, List.find?_append]
structure Eqv (B B' : List K.Rec) : Prop where
 n : B.length = B'.length
 l : (K.fb B).length = (K.fb B').length
 k : ∀ k, K.lastR B k = K.lastR B' k
 r : K.Rg B
 r' : K.Rg B'
theorem Eqv.app {B B' C : List K.Rec} (h : Eqv B B') (g : K.Rg C) : Eqv (B ++ C) (B' ++ C) :=
 ⟨by simp [h.n], by simp [K.fb_append, h.l], fun k => by rw [lastR_app, lastR_app, h.k], h.r.app g, h.r'.app g⟩
theorem Eqv.nil : Eqv [] [] := ⟨rfl, rfl, fun _ => rfl, K.Rg.nil, K.Rg.nil⟩
def Agr (s : Di.M.St) (Y : List K.Rec) (sf : Nat) : Prop := ∃ B B' C, Eqv B B' ∧ K.Rg C ∧ s.bs = K.fb (B ++ C) ∧ s.k = (K.fb B).length ∧ Y = B' ++ C ∧ sf = B'.length
theorem Agr.nil (z : Nat) : Agr (Di.M.nil z) [] 0 := ⟨[], [], [], Eqv.nil, K.Rg.nil, rfl, rfl, rfl, rfl⟩
section
variable {s : Di.M.St} {Y : List K.Rec} {sf : Nat}
theorem Agr.sf_le (h : Agr s Y sf) : sf ≤ Y.length := by
 obtain ⟨B, B', C, -, -, -, -, rfl, rfl⟩ := h
 simp
theorem Agr.rd (h : Agr s Y sf) : Eqv (K.rd s.bs) Y ∧ s.bs = K.fb (K.rd s.bs) := by
 obtain ⟨B, B', C, e, g, hb, -, rfl, -⟩ := h
 have := e.app g
 rw [hb, K.rd_of_fb this.r]
 exact ⟨this, rfl⟩
theorem Agr.len (h : Agr s Y sf) : s.bs.length = (K.fb Y).length := by
 rw [h.rd.2, h.rd.1.l]
theorem Agr.app (h : Agr s Y sf) (X : List Rv) : Agr (K.apS X s) (dapp X s.z Y) sf := by
 have hl := h.len
 unfold K.apS dapp
 cases hr : rgB X with
 | false => exact h
 | true =>
   simp only [if_true]
   unfold Di.M.app
   rw [hl]
   by_cases hz : (K.fb Y).length + (K.fb (rcs X)).length ≤ s.z
   ·rw [if_pos hz, if_pos hz]
    obtain ⟨B, B', C, e, g, hb, hk, rfl, hs⟩ := h
    exact ⟨B, B', C ++ rcs X, e, g.app (rgB_iff.1 hr), by rw [← List.append_assoc, K.fb_append (B ++ C), ← hb], hk, by rw [List.append_assoc], hs⟩
   ·rw [if_neg hz, if_neg hz]
    exact h
theorem Agr.syn (h : Agr s Y sf) : Agr (Di.M.syn s) Y Y.length := by
 obtain ⟨B, B', C, e, g, hb, hk, rfl, hs⟩ := h
 exact ⟨B ++ C, B' ++ C, [], e.app g, K.Rg.nil, by rw [List.append_nil]; exact hb, by show s.bs.length = _; rw [hb], by rw [List.append_nil], rfl⟩
theorem Eqv.perm {P Q : List K.Rec} (h : P.Perm Q) (hk : ∀ k, K.lastR P k = K.lastR Q k) (r : K.Rg P) : Eqv P Q :=
 ⟨h.length_eq, by rw [Cp.fb_sum, Cp.fb_sum]; exact (h.map K.len).sum_nat, hk, r, fun x hx => r x (h.mem_iff.2 hx)⟩
theorem last_key {Y : List K.Rec} {k : Ky} {r : K.Rec} (h : K.lastR Y k = some r) : (r.ir, r.is) = k := by
 have := List.find?_some h
 exact (of_decide_eq_true this).symm
theorem last_mem {Y : List K.Rec} {k : Ky} {r : K.Rec} (h : K.lastR Y k = some r) : r ∈ Y := List.mem_reverse.1 (List.mem_of_find?_eq_some h)
theorem pick_last {Y : List K.Rec} {ks : List Ky} (h : ∀ k, k ∈ ks ↔ (K.lastR Y k).isSome) (k : Ky) : K.lastR (pick Y ks) k = K.lastR Y k := by
 have e : K.lastR (pick Y ks) k = if k ∈ ks then some ((K.lastR Y k).getD K.norec) else none := Rf.find_key (k := k) (fun k => (K.lastR Y k).getD K.norec) ks (fun a ha => by
  obtain ⟨r, e⟩ := Option.isSome_iff_exists.1 ((h a).1 ha)
  rw [e]; exact last_key e)
 rw [e]
 by_cases hk : k ∈ ks
 ·obtain ⟨r, e⟩ := Option.isSome_iff_exists.1 ((h k).1 hk)
  rw [if_pos hk, e]; rfl
 ·rw [if_neg hk]
  cases e : K.lastR Y k with
  | none => rfl
  | some r => exact absurd ((h k).2 (by rw [e]; rfl)) hk
theorem pick_rg {Y : List K.Rec} {ks : List Ky} (hY : K.Rg Y) (h : ∀ k, k ∈ ks ↔ (K.lastR Y k).isSome) : K.Rg (pick Y ks) := fun r hr => by
 obtain ⟨k, hk, rfl⟩ := List.mem_map.1 hr
 obtain ⟨r, e⟩ := Option.isSome_iff_exists.1 ((h k).1 hk)
 rw [e]; exact hY r (last_mem e)
theorem cur_isSome (X : List Rv) (k : Ky) : k ∈ (cur X).map (·.1) ↔ (K.lastR (rcs X) k).isSome := by
 constructor
 ·intro h
  obtain ⟨⟨a, y⟩, hy, rfl⟩ := List.mem_map.1 h
  rw [Ls.cur_last hy]; rfl
 ·intro h
  rw [← lastX_rcs, Option.isSome_map, ← mget_cur] at h
  have h2 : ∀ (m : List (Ky × Rv)), (mget m k).isSome → k ∈ m.map (·.1) := by
   intro m
   induction m with
   | nil => intro h; simp [mget] at h
   | cons p m ih =>
     intro h
     unfold mget at h
     by_cases hp : k = p.1
     ·simp [hp]
     ·rw [if_neg hp] at h
      exact List.mem_cons_of_mem _ (ih h)
  exact h2 _ h
theorem kf_pick {X : List Rv} {ks : List Ky} (h : ks.Perm ((cur X).map (·.1))) : rcs (ks.map (Cp.kf (cur X))) = pick (rcs X) ks := by
 unfold rcs pick
 rw [List.map_map]
 refine List.map_congr_left fun k hk => ?_
 obtain ⟨⟨a, y⟩, hy, rfl⟩ := List.mem_map.1 (h.mem_iff.1 hk)
 have e1 := Ls.cur_last hy
 have e2 := Ls.mget_mem (Ls.cur_nodup X) hy
 show (Cp.kf (cur X) a).r = ((K.lastR (rcs X) a).getD K.norec)
 rw [e1]; unfold Cp.kf; rw [e2]; rfl
theorem Agr.compact (h : Agr s Y sf) {X : List Rv} {ks ks' : List Ky} (hX : rcs X = K.rd s.bs) (hp : ks.Perm ((cur X).map (·.1))) (hn : ks'.Nodup) (hm : ∀ k, k ∈ ks' ↔ (K.lastR Y k).isSome) :
 Agr ⟨s.z, K.fb (rcs (ks.map (Cp.kf (cur X)))), (K.fb (rcs (ks.map (Cp.kf (cur X))))).length⟩ (pick Y ks') ks'.length := by
 obtain ⟨e, -⟩ := h.rd
 have hk : ∀ k, k ∈ ks ↔ (K.lastR (rcs X) k).isSome := fun k => by rw [hp.mem_iff]; exact cur_isSome X k
 have hy : ∀ k, K.lastR (rcs X) k = K.lastR Y k := fun k => by rw [hX]; exact e.k k
 have h1 : ks.Perm ks' := (List.perm_ext_iff_of_nodup (hp.nodup_iff.2 (Ls.cur_nodup X)) hn).2 fun k => by rw [hk, hm, hy]
 have h2 : pick (rcs X) ks = pick Y ks := by unfold pick; exact List.map_congr_left fun k _ => by rw [hy]
 rw [kf_pick hp, h2]
 have hm' : ∀ k, k ∈ ks ↔ (K.lastR Y k).isSome := fun k => by rw [hk, hy]
 exact ⟨pick Y ks, pick Y ks', [], Eqv.perm (h1.map _) (fun k => by rw [pick_last hm', pick_last hm]) (pick_rg e.r' hm'), K.Rg.nil, by rw [List.append_nil], rfl, by rw [List.append_nil], by simp [pick]⟩
theorem Agr.crash (h : Agr s Y sf) (keep pos : Int) (mask : UInt8) : Agr (K.opn (Di.M.crash keep pos mask s)) (Y.take (sf + K.cnt (decide (mask ≠ 0)) keep pos (Y.drop sf))) (sf + K.cnt (decide (mask ≠ 0)) keep pos (Y.drop sf)) := by
 obtain ⟨B, B', C, e, g, hb, hk, rfl, rfl⟩ := h
 rw [List.drop_left]
 have hs : s = ⟨s.z, K.fb B ++ K.fb C, (K.fb B).length⟩ := by rw [← K.fb_append, ← hb, ← hk]
 have hf : Di.M.fell keep pos mask s = K.fb B ++ K.fall keep pos mask (K.fb C) := by rw [hs]; exact K.fell_fall _ _ _ _ _ _
 have hc := K.cnt_le (decide (mask ≠ 0)) C keep pos
 have hrd : K.rd (Di.M.fell keep pos mask s) = B ++ C.take (K.cnt (decide (mask ≠ 0)) keep pos C) := by rw [hf, K.rd_fb e.r, K.rd_fall C keep pos mask g]
 generalize K.cnt (decide (mask ≠ 0)) keep pos C = n at *
 have hok : (K.fb (B ++ C.take n)).length ≤ (Di.M.crash keep pos mask s).k := by
  have h1 := K.rd_len (Di.M.fell keep pos mask s)
  have h2 : (Di.M.fell keep pos mask s).length = (Di.M.crash keep pos mask s).k := by
   have h3 := congrArg List.length hf
   rw [List.length_append, K.fall_len] at h3
   have hl : Di.M.left keep s = K.left keep (K.fb C) := by
    unfold Di.M.left K.left
    rw [hb, hk, K.fb_append, List.length_append]
    congr 1; omega
   show _ = s.k + Di.M.left keep s
   rw [h3, hk, hl]
  rw [hrd] at h1
  omega
 refine ⟨B ++ C.take n, B' ++ C.take n, [], e.app (g.take n), K.Rg.nil, ?_, ?_, ?_, ?_⟩
 ·rw [List.append_nil]
  show K.fb (K.rd (Di.M.fell keep pos mask s)) = _
  rw [hrd]
 ·show min (Di.M.crash keep pos mask s).k (K.fb (K.rd (Di.M.fell keep pos mask s))).length = _
  rw [hrd]; omega
 ·rw [List.append_nil, List.take_append, List.take_of_length_le (by omega), Nat.add_sub_cancel_left]
 ·rw [List.length_append, List.length_take, Nat.min_eq_left hc]
theorem Agr.fell (h : Agr s Y sf) (keep pos : Int) (mask : UInt8) : (∃ m, sf ≤ m ∧ m ≤ (K.rd s.bs).length ∧ K.rd (K.opn (Di.M.crash keep pos mask s)).bs = (K.rd s.bs).take m) ∧ (K.opn (Di.M.crash keep pos mask s)).k = (K.opn (Di.M.crash keep pos mask s)).bs.length := by
 obtain ⟨B, B', C, e, g, hb, hk, rfl, rfl⟩ := h
 have hs : s = ⟨s.z, K.fb B ++ K.fb C, (K.fb B).length⟩ := by rw [← K.fb_append, ← hb, ← hk]
 have hf : Di.M.fell keep pos mask s = K.fb B ++ K.fall keep pos mask (K.fb C) := by rw [hs]; exact K.fell_fall _ _ _ _ _ _
 have hc := K.cnt_le (decide (mask ≠ 0)) C keep pos
 have hrd : K.rd (Di.M.fell keep pos mask s) = B ++ C.take (K.cnt (decide (mask ≠ 0)) keep pos C) := by rw [hf, K.rd_fb e.r, K.rd_fall C keep pos mask g]
 generalize K.cnt (decide (mask ≠ 0)) keep pos C = n at *
 have hra : K.rd s.bs = B ++ C := by rw [hb, K.rd_of_fb (e.r.app g)]
 have hbs : (K.opn (Di.M.crash keep pos mask s)).bs = K.fb (B ++ C.take n) := by
  show K.fb (K.rd (Di.M.fell keep pos mask s)) = _
  rw [hrd]
 refine ⟨⟨B.length + n, by have := e.n; omega, by rw [hra, List.length_append]; omega, ?_⟩, ?_⟩
 ·rw [hbs, K.rd_of_fb (e.r.app (g.take n)), hra, List.take_append, List.take_of_length_le (l := B) (by omega), Nat.add_sub_cancel_left]
 ·have h1 := K.rd_len (Di.M.fell keep pos mask s)
  have h2 : (Di.M.fell keep pos mask s).length = (Di.M.crash keep pos mask s).k := by
   have h3 := congrArg List.length hf
   rw [List.length_append, K.fall_len] at h3
   have hl : Di.M.left keep s = K.left keep (K.fb C) := by
    unfold Di.M.left K.left
    rw [hb, hk, K.fb_append, List.length_append]
    congr 1; omega
   show _ = s.k + Di.M.left keep s
   rw [h3, hk, hl]
  rw [hrd] at h1
  rw [hbs]
  show min (Di.M.crash keep pos mask s).k (K.fb (K.rd (Di.M.fell keep pos mask s))).length = _
  rw [hrd]; omega
theorem flat_le : ∀ (A : List K.Rec), K.Rg A → (K.fb A).length ≤ A.length * 808
 | [], _ => by simp [K.fb_nil]
 | r :: A, h => by
   have h1 := flat_le A h.cons.2
   have h2 := (K.enc_len h.cons.1).2
   rw [K.fb_len_cons, List.length_cons]
   unfold K.len
   omega
theorem Agr.small (h : Agr s Y sf) : s.bs.length ≤ Y.length * 808 := by
 rw [h.len]; exact flat_le Y h.rd.1.r'
theorem pick_len (Y : List K.Rec) (ks : List Ky) : (pick Y ks).length = ks.length := by simp [pick]
end
end Ag
end Go.Proofs.YtdachohcjpjblaaGreatDoor
