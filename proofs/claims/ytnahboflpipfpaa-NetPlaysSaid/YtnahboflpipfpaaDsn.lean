/- The document's Send; no conditions but those that it names. -/
import Derived.Test.YtnahboflpipfpaaStq
namespace Go.Proofs.Ytnahboflpipfpaa
open Go.ChangeShapes Go.WideShapes Go.ChangeAt Go.RowKit

/-- What the document's methods that change a net answer. -/
def Dsd (F : Nat → Prop) (s' : St) (r : Int) (w : World) (e : Ending) (w' : World) : Prop := ∃ v', e = .returned (.tuple #[.agg (dnL s' v').toArray, .int .i64 r]) ∧ Dv0 F w' v' s' ∧ Below w.heap.size w w'
theorem hold_new2 (w : World) (o o' : Obj) (L : List Value) (t : TypeId) : Hold (((w.alloc o).alloc o').alloc (.cells L.toArray t)) (w.heap.size + 2) t L := by
  have := Hold.new ((w.alloc o).alloc o') L t
  rwa [show ((w.alloc o).alloc o').heap.size = w.heap.size + 2 by simp] at this
theorem Dv0.like {F : Nat → Prop} {w : World} {v : Value} {s s' : St} (h : Dv0 F w v s) (e : s'.ms = s.ms) : Dv0 F w v s' := by
  obtain ⟨Y, h, q⟩ := h
  exact ⟨Y, h, q.trans e.symm⟩

set_option maxHeartbeats 16000000 in
set_option maxRecDepth 100000 in
theorem dsend_any {w : World} {F : Nat → Prop} {v : Value} {s : St} {x : Mv} (h : Dv0 F w v s) (hF : ∀ x, F x → x < w.heap.size) (hx : Txt F w x) (K : M.Mod x.m.r.c) (hs : s.Ok) : Calls Try.prog 27 #[.agg (dnL s v).toArray, .agg x.cells.toArray] w (Dsd F (s.send x.m) (s.sendR x.m) w) := by
  obtain ⟨A, c, rfl⟩ := h.slice
  have b0 : Below w.heap.size w (((w.alloc (.cells (([.int .i64 s.room, (.slice A s.ms.length c), .int .i64 s.sent, .int .i64 s.came, .int .i64 s.lost] : List Value)).toArray 29)).alloc (.cells x.cells.toArray 49)).alloc (.cells (([.int .i64 0, .slice none 0 0, .int .i64 0, .int .i64 0, .int .i64 0] : List Value)).toArray 29)) := below_new (below_new (below_new (Below.refl w.heap.size w)))
  have HD := Lib.hid h
  have HB0 := Lib.hid b0
  have HA0 := Lib.hid ((Hold.new w ([.int .i64 s.room, (.slice A s.ms.length c), .int .i64 s.sent, .int .i64 s.came, .int .i64 s.lost] : List Value) 29).on (below_new (o := .cells (([.int .i64 0, .slice none 0 0, .int .i64 0, .int .i64 0, .int .i64 0] : List Value)).toArray 29) (below_new (o := .cells x.cells.toArray 49) (Below.refl _ _))))
  have HX0 := Lib.hid ((hold_new1 w (.cells (([.int .i64 s.room, (.slice A s.ms.length c), .int .i64 s.sent, .int .i64 s.came, .int .i64 s.lost] : List Value)).toArray 29) x.cells 49).on (below_new (o := .cells (([.int .i64 0, .slice none 0 0, .int .i64 0, .int .i64 0, .int .i64 0] : List Value)).toArray 29) (Below.refl _ _)))
  have HC0 := Lib.hid (hold_new2 w (.cells (([.int .i64 s.room, (.slice A s.ms.length c), .int .i64 s.sent, .int .i64 s.came, .int .i64 s.lost] : List Value)).toArray 29) (.cells x.cells.toArray 49) ([.int .i64 0, .slice none 0 0, .int .i64 0, .int .i64 0, .int .i64 0] : List Value) 29)
  have LX0 := Lib.hid HX0.out.cel.whole
  have HF := Lib.hid hF
  have HT := Lib.hid hx
  have R0 := Lib.hid (hx.rs.below b0)
  have R1 := Lib.hid (hx.ws.below b0)
  obtain ⟨s0, s1, -, -, l0, l1, n1, -⟩ := hs
  clear h b0 hF hx
  unfold dnL
  rcases hr : M.rightM x.m with _ | _
  · have e1 : s.send x.m = s := by unfold St.send; rw [hr]; rfl
    have e2 : s.sendR x.m = 1 := by unfold St.sendR; rw [hr]; rfl
    rw [e1, e2]
    have HR := Lib.hid hr
    clear hr e1 e2
    go_enter Try.func27, Try.ntmps27
    go_wp2_with (first
      | (with_reducible refine wpList_load_mid rfl 49 _ rfl (w.heap.size + 1) 0 rfl _ _ LX0.out Try.underlying49 rfl (mv_size _) ?_)
      | (go_at_call 25
         refine (dright_mv R0.out R1.out K).mono ?_
         rintro e w1 ⟨rfl, hb⟩
         rw [HR.out]
         have LA := Lib.hid (HA0.out.on hb).cel.whole
         have h2 := HC0.out.on hb
         have TH := Lib.hid (show w1.there (w.heap.size + 2) 0 ([.int .i64 s.room, (.slice A s.ms.length c), .int .i64 s.sent, .int .i64 s.came, .int .i64 s.lost] : List Value).length from h2.there (by show 0 + 5 ≤ 5; omega))
         have RH := Lib.hid (Hold.set ([.int .i64 s.room, (.slice A s.ms.length c), .int .i64 s.sent, .int .i64 s.came, .int .i64 s.lost] : List Value) [] ([.int .i64 0, .slice none 0 0, .int .i64 0, .int .i64 0, .int .i64 0] : List Value) [] rfl _ h2)
         have HBF := Lib.hid ((below_on HB0.out hb).trans ((keeps_puts ([.int .i64 s.room, (.slice A s.ms.length c), .int .i64 s.sent, .int .i64 s.came, .int .i64 s.lost] : List Value) 0 (b := w.heap.size + 2) (w := w1)).below (fun x e => by unfold only at e; omega) (below_on HB0.out hb).size))
         clear hb h2)
      | (with_reducible refine wpList_load_mid rfl 29 _ rfl w.heap.size 0 rfl _ _ LA.out Try.underlying29 rfl (by kernel_rfl) ?_)
      | (with_reducible refine store_list rfl 29 _ _ rfl (w.heap.size + 2) 0 ([.int .i64 s.room, (.slice A s.ms.length c), .int .i64 s.sent, .int .i64 s.came, .int .i64 s.lost] : List Value) rfl rfl TH.out (by kernel_rfl) rfl ?_))
    refine bodyPost_ret (results_cv rfl rfl rfl RH.out.cel.whole _ Try.underlying29 rfl (by kernel_rfl)) rfl ?_
    exact ⟨_, rfl, HD.out.below HBF.out, HBF.out⟩
  · rcases hf : s.full with _ | _
    · have e1 : s.send x.m = ⟨s.room, s.sent + 1, s.came, s.lost, s.ms ++ [x.m]⟩ := by unfold St.send; rw [hr, hf]; rfl
      have e2 : s.sendR x.m = 0 := by unfold St.sendR; rw [hr, hf]; rfl
      rw [e1, e2]
      have HR := Lib.hid hr
      have q1 : decide (s.room ≤ (s.ms.length : Int)) = false := hf
      clear hr hf e1 e2
      go_enter Try.func27, Try.ntmps27
      go_wp2_with (first
        | (with_reducible refine wpList_load_mid rfl 49 _ rfl (w.heap.size + 1) 0 rfl _ _ LX0.out Try.underlying49 rfl (mv_size _) ?_)
        | fail)
      refine (dright_mv R0.out R1.out K).mono ?_
      rintro e w1 ⟨rfl, hb⟩
      rw [HR.out]
      have h1 := HA0.out.on hb
      have c0 := hold_cell h1 0 rfl
      have c1 := hold_cell h1 1 rfl
      have c2 := hold_cell h1 2 rfl
      have f2 := hold_soft h1 2
      have B1 := below_on HB0.out hb
      have hlt1 : w.heap.size + 2 < w1.heap.size := hold_lt (HC0.out.on hb)
      have k2 : Keeps (only w.heap.size) w1 (w1.setCell ⟨w.heap.size, 2, none⟩ (.int .i64 (s.sent + 1))) := (Keeps.refl (only w.heap.size) w1).setCell (p := ⟨w.heap.size, 2, none⟩) (.inl rfl) _
      have b2 := B1.trans (k2.below (fun x e => by unfold only at e; omega) B1.size)
      have h2 : Hold (w1.setCell ⟨w.heap.size, 2, none⟩ (.int .i64 (s.sent + 1))) w.heap.size 29 ([.int .i64 s.room, .slice A s.ms.length c, .int .i64 (s.sent + 1), .int .i64 s.came, .int .i64 s.lost] : List Value) := hold_put h1 2 _
      have x2 := hold_keeps (HX0.out.on hb) k2 (fun e => by unfold only at e; omega)
      have z2 := hold_keeps (HC0.out.on hb) k2 (fun e => by unfold only at e; omega)
      have HB2 := Lib.hid b2
      have HA2 := Lib.hid h2
      have HX2 := Lib.hid x2
      have HC2 := Lib.hid z2
      clear h1 B1 hb k2 b2 h2 x2 z2 hlt1
      go_wp2_with (fail)
      obtain ⟨W, hW⟩ : ∃ W, W = (w1.setCell ⟨w.heap.size, 2, none⟩ (.int .i64 (s.sent + 1))).drew := ⟨_, rfl⟩
      have bW : Below w.heap.size w W := by rw [hW]; exact HB2.out.drew
      have hA : Hold W w.heap.size 29 ([.int .i64 s.room, .slice A s.ms.length c, .int .i64 (s.sent + 1), .int .i64 s.came, .int .i64 s.lost] : List Value) := by rw [hW]; exact HA2.out
      have hX : Hold W (w.heap.size + 1) 49 x.cells := by rw [hW]; exact HX2.out
      have hC : Hold W (w.heap.size + 2) 29 ([.int .i64 0, .slice none 0 0, .int .i64 0, .int .i64 0, .int .i64 0] : List Value) := by rw [hW]; exact HC2.out
      have cW := hold_cell hA 1 rfl
      have SC := Lib.hid (show ∀ w', Below W.heap.size W w' → w'.cell? ⟨w.heap.size, 1, none⟩ = some (.slice A s.ms.length c) from fun w' q => (q.cell (p := ⟨w.heap.size, 1, none⟩) (hold_lt hA)).trans cW)
      have hltW : w.heap.size < W.heap.size := hold_lt hA
      have SX := Lib.hid (show ∀ w', Below W.heap.size W w' → w'.rangeAt (w.heap.size + 1) 0 x.cells from fun w' q => range_below hX.cel.whole (hold_lt hX) q)
      obtain ⟨Y, hY, eY⟩ := HD.out
      have hyl : Y.length = s.ms.length := by rw [← eY, List.length_map]
      have hrow := hY.row.below bW
      skip
      have hone := msgs_one hY.tx
      obtain ⟨v1a, w1a, v2a, w2a, r1a, r2a, ba, pa⟩ := way_a hrow hone HT.out.one (by omega)
      obtain ⟨v1b, w1b, v2b, w2b, r1b, r2b, bb, pb⟩ := way_b hrow hone HT.out.one (by omega)
      obtain ⟨v1c, w1c, v2c, w2c, r1c, r2c, bc, pc⟩ := way_c hrow hone HT.out.one (by omega)
      have HFIN : Hid (∀ (V : Value) (W2 : World), Apnd W Y x V W2 → ∃ A2 k2, V = .slice A2 (Y ++ [x]).length k2 ∧ W2.frozen? ⟨w.heap.size, 1, none⟩ = false ∧ W2.cell? ⟨w.heap.size, 1, none⟩ = some (.slice A s.ms.length c) ∧ Hold (W2.setCell ⟨w.heap.size, 1, none⟩ V) w.heap.size 29 ([.int .i64 s.room, V, .int .i64 (s.sent + 1), .int .i64 s.came, .int .i64 s.lost] : List Value) ∧ Hold (W2.setCell ⟨w.heap.size, 1, none⟩ V) (w.heap.size + 2) 29 ([.int .i64 0, .slice none 0 0, .int .i64 0, .int .i64 0, .int .i64 0] : List Value) ∧ (∀ q, Below W2.heap.size W2 q → q.rangeAt (w.heap.size + 1) 0 x.cells) ∧ (W2.setCell ⟨w.heap.size, 1, none⟩ V).rangeAt (w.heap.size + 1) 0 x.cells ∧
          Dv0 F ((W2.setCell ⟨w.heap.size, 1, none⟩ V).setCells (w.heap.size + 2) 0 ([.int .i64 s.room, V, .int .i64 (s.sent + 1), .int .i64 s.came, .int .i64 s.lost] : List Value)) V ⟨s.room, s.sent + 1, s.came, s.lost, s.ms ++ [x.m]⟩ ∧ Below w.heap.size w ((W2.setCell ⟨w.heap.size, 1, none⟩ V).setCells (w.heap.size + 2) 0 ([.int .i64 s.room, V, .int .i64 (s.sent + 1), .int .i64 s.came, .int .i64 s.lost] : List Value))) := Lib.hid (fun V W2 p => by
        obtain ⟨ho, hb⟩ := p
        obtain ⟨A2, k2, ev⟩ := ownsRow_slice ho
        have hA2 := hA.on hb
        have hC2 := hC.on hb
        have hX2 := hX.on hb
        have kk : Keeps (only w.heap.size) W2 (W2.setCell ⟨w.heap.size, 1, none⟩ V) := (Keeps.refl (only w.heap.size) W2).setCell (p := ⟨w.heap.size, 1, none⟩) (.inl rfl) _
        have kc := keeps_puts ([.int .i64 s.room, V, .int .i64 (s.sent + 1), .int .i64 s.came, .int .i64 s.lost] : List Value) 0 (b := w.heap.size + 2) (w := W2.setCell ⟨w.heap.size, 1, none⟩ V)
        have hlc := hold_lt hC
        have ho2 := owns_keeps (owns_keeps ho kk (fun q e f => by have := (ho.lt q e).1; unfold only at f; omega)) kc (fun q e f => by have := (ho.lt q e).1; unfold only at f; omega)
        have bf := ((bW.trans (hb.mono bW.size)).trans (kk.below (fun x e => by unfold only at e; omega) (Nat.le_trans bW.size hb.size))).trans (kc.below (fun x e => by unfold only at e; omega) (Nat.le_trans (Nat.le_trans bW.size hb.size) kk.size))
        refine ⟨A2, k2, ev, hold_soft hA2 1, hold_cell hA2 1 rfl, hold_put hA2 1 V, hold_keeps hC2 kk (fun e => by unfold only at e; omega), fun q hq => (hX2.on hq).cel.whole, (hold_keeps hX2 kk (fun e => by unfold only at e; omega)).cel.whole, ?_, bf⟩
        refine ⟨Y ++ [x], ⟨RowN.of_owns ho2, fun _ => Out.of_owns ho2 (fun y f => by have := HF.out y f; omega), fun y hy => ?_⟩, by rw [List.map_append, eY]; rfl⟩
        rcases List.mem_append.1 hy with hy | hy
        · exact (hY.tx y hy).below bf
        · rw [List.mem_singleton.1 hy]; exact HT.out.below bf)
      clear hY eY hyl hrow hone hA hX hC bW HA2 HX2 HC2 HB2 c0 c1 c2 f2 q1
      refine wp_region_held_drew (S := fun w' => w'.rangeAt (w.heap.size + 1) 0 x.cells) (by kernel_rfl) (by rw [← hW]; exact SX.out _ (Below.refl _ _)) (fun hHeld => ?_)
      rw [← hW] at hHeld ⊢
      clear hW
      refine wpAnyH_take (i := 1) (oi := ⟨some 26, .fieldAddr 29 (.tmp 2) 1, 0, _, _, none⟩) (v := ?_) rfl (by kernel_rfl) (by kernel_rfl) (by kernel_rfl) (fun _ _ _ h => h) (Or.inl ⟨by rfl, ?_⟩) (by assumption) ?_
      rotate_left
      · (intro w hSw; (try dsimp only at hSw); go_split_ands; go_simp; (try with_reducible rfl))
      (try simp only [Act.put]); (try simp only [List.setIfInBounds_toArray]); (try simp only [List.set_cons_succ]); (try simp only [List.set_cons_zero])
      refine wpAnyH_take (i := 4) (oi := ⟨some 29, .load 49 (.tmp 3), 49, _, _, none⟩) (v := .agg (x.cells).toArray) rfl (by kernel_rfl) (by kernel_rfl) (by kernel_rfl) (fun _ _ _ h => h) (yieldsIf_load_mid (by rfl) 49 _ rfl (w.heap.size + 1) 0 rfl x.cells _ (fun w hSw => hSw) Try.underlying49 rfl (mv_size x)) (by assumption) ?_
      (try simp only [Act.put]); (try simp only [List.setIfInBounds_toArray]); (try simp only [List.set_cons_succ]); (try simp only [List.set_cons_zero])
      refine wpAnyH_ready (rs := [0, 2, 5]) (by kernel_rfl) (by simp) ?_
      refine AllReadyH.cons (o := ⟨some 25, .buildSlice 27 0 #[], 27, _, _, none⟩) rfl (fun K hK => ?_) (AllReadyH.cons (o := ⟨some 27, .load 27 (.tmp 26), 27, _, _, none⟩) rfl (fun K hK => ?_) (AllReadyH.cons (o := ⟨some 30, .buildSlice 27 1 #[(0, .tmp 29)], 27, _, _, none⟩) rfl (fun K hK => ?_) AllReadyH.nil))
      · refine step_build0 rfl rfl ?_
        refine hK.out _ _ (by exact SX.out _ (below_new (Below.refl _ _))) (fun hHeld => ?_)
        clear hK K
        (try simp only [Act.put]); (try simp only [List.setIfInBounds_toArray]); (try simp only [List.set_cons_succ]); (try simp only [List.set_cons_zero])
        refine wpAnyH_ready (rs := [2, 5]) (by kernel_rfl) (by simp) ?_
        refine AllReadyH.cons (o := ⟨some 27, .load 27 (.tmp 26), 27, _, _, none⟩) rfl (fun K hK => ?_) (AllReadyH.cons (o := ⟨some 30, .buildSlice 27 1 #[(0, .tmp 29)], 27, _, _, none⟩) rfl (fun K hK => ?_) AllReadyH.nil)
        · refine step_ld27 rfl (.tmp 26) rfl w.heap.size 1 (by simp [Act.eval]) _ (SC.out _ (below_new (Below.refl _ _))) ?_
          refine hK.out _ _ (by exact SX.out _ (below_new (Below.refl _ _))) (fun hHeld => ?_)
          clear hK K
          (try simp only [Act.put]); (try simp only [List.setIfInBounds_toArray]); (try simp only [List.set_cons_succ]); (try simp only [List.set_cons_zero])
          refine wpAnyH_ready (rs := [3, 5]) (by kernel_rfl) (by simp) ?_
          refine AllReadyH.cons (o := ⟨some 28, .call { callee := .builtin .append, args := #[.tmp 25, .tmp 27], argTypes := #[27, 27] }, 27, _, _, none⟩) rfl (fun K hK => ?_) (AllReadyH.cons (o := ⟨some 30, .buildSlice 27 1 #[(0, .tmp 29)], 27, _, _, none⟩) rfl (fun K hK => ?_) AllReadyH.nil)
          · refine step_appr rfl (.tmp 25) (.tmp 27) 27 27 rfl _ _ (by simp [Act.eval]) (by simp [Act.eval]) _ _ r1a ?_
            refine hK.out _ _ (by exact SX.out _ ba) (fun hHeld => ?_)
            clear hK K
            (try simp only [Act.put]); (try simp only [List.setIfInBounds_toArray]); (try simp only [List.set_cons_succ]); (try simp only [List.set_cons_zero])
            refine wpAnyH_ready (rs := [5]) (by kernel_rfl) (by simp) ?_
            refine AllReadyH.cons (o := ⟨some 30, .buildSlice 27 1 #[(0, .tmp 29)], 27, _, _, none⟩) rfl (fun K hK => ?_) AllReadyH.nil
            refine step_build1 rfl (.tmp 29) rfl x (by simp [Act.eval]) ?_
            refine hK.out _ _ (by exact SX.out _ (below_new ba)) (fun hHeld => ?_)
            clear hK K
            (try simp only [Act.put]); (try simp only [List.setIfInBounds_toArray]); (try simp only [List.set_cons_succ]); (try simp only [List.set_cons_zero])
            refine wpAnyH_ready (rs := [6]) (by kernel_rfl) (by simp) ?_
            refine AllReadyH.cons (o := ⟨some 31, .call { callee := .builtin .append, args := #[.tmp 28, .tmp 30], argTypes := #[27, 27] }, 27, _, _, none⟩) rfl (fun K hK => ?_) AllReadyH.nil
            refine step_appr rfl (.tmp 28) (.tmp 30) 27 27 rfl _ _ (by simp [Act.eval]) (by simp [Act.eval]) _ _ r2a ?_
            obtain ⟨A2, k2, ev, f1, c1, hh, hc, sx, sx2, dv, bf⟩ := HFIN.out _ _ pa
            subst ev
            refine hK.out _ _ (by exact SX.out _ pa.2) (fun hHeld => ?_)
            clear hK K
            (try simp only [Act.put]); (try simp only [List.setIfInBounds_toArray]); (try simp only [List.set_cons_succ]); (try simp only [List.set_cons_zero])
            refine wpAnyH_take (i := 7) (oi := ⟨some 32, .fieldAddr 29 (.tmp 2) 1, 0, _, _, none⟩) (v := ?_) rfl (by kernel_rfl) (by kernel_rfl) (by kernel_rfl) (fun _ _ _ h => h) (Or.inl ⟨by rfl, ?_⟩) (by assumption) ?_
            rotate_left
            · (intro w hSw; (try dsimp only at hSw); go_split_ands; go_simp; (try with_reducible rfl))
            (try simp only [Act.put]); (try simp only [List.setIfInBounds_toArray]); (try simp only [List.set_cons_succ]); (try simp only [List.set_cons_zero])
            refine wpAnyH_last_st27 (i := 8) (o := ⟨none, .store 27 (.tmp 32) (.tmp 31), 0, _, _, none⟩) (by kernel_rfl) rfl rfl (.tmp 32) (.tmp 31) rfl w.heap.size 1 A2 (Y ++ [x]).length k2 (by simp [Act.eval]) (by simp [Act.eval]) _ c1 f1 (by kernel_rfl) (by exact sx2) ?_
            (try simp only [Act.put]); (try simp only [List.setIfInBounds_toArray]); (try simp only [List.set_cons_succ]); (try simp only [List.set_cons_zero])
            have LA := Lib.hid hh.cel.whole
            generalize hm : (Y ++ [x]).length = m at *
            clear hm
            have TH := Lib.hid (show World.there _ (w.heap.size + 2) 0 ([.int .i64 s.room, .slice A2 m k2, .int .i64 (s.sent + 1), .int .i64 s.came, .int .i64 s.lost] : List Value).length from hc.there (by show 0 + 5 ≤ 5; omega))
            have RH := Lib.hid (Hold.set ([.int .i64 s.room, .slice A2 m k2, .int .i64 (s.sent + 1), .int .i64 s.came, .int .i64 s.lost] : List Value) [] ([.int .i64 0, .slice none 0 0, .int .i64 0, .int .i64 0, .int .i64 0] : List Value) [] rfl _ hc)
            have FIN := Lib.hid (And.intro dv bf)
            clear hh hc dv bf sx sx2 r1a r2a r1b r2b r1c r2c c1 f1 cW ba bb bc pa pb pc hHeld
            go_wp2_with (first
              | (with_reducible refine wpList_load_mid rfl 29 _ rfl w.heap.size 0 rfl _ _ LA.out Try.underlying29 rfl (by kernel_rfl) ?_)
              | (with_reducible refine store_list rfl 29 _ _ rfl (w.heap.size + 2) 0 ([.int .i64 s.room, .slice A2 m k2, .int .i64 (s.sent + 1), .int .i64 s.came, .int .i64 s.lost] : List Value) rfl rfl TH.out (by kernel_rfl) rfl ?_))
            refine bodyPost_ret (results_cv rfl rfl rfl RH.out.cel.whole _ Try.underlying29 rfl (by kernel_rfl)) rfl ?_
            exact ⟨.slice A2 m k2, rfl, FIN.out.1, FIN.out.2⟩
          · refine step_build1 rfl (.tmp 29) rfl x (by simp [Act.eval]) ?_
            refine hK.out _ _ (by exact SX.out _ (below_new (below_new (Below.refl _ _)))) (fun hHeld => ?_)
            clear hK K
            (try simp only [Act.put]); (try simp only [List.setIfInBounds_toArray]); (try simp only [List.set_cons_succ]); (try simp only [List.set_cons_zero])
            refine wpAnyH_ready (rs := [3]) (by kernel_rfl) (by simp) ?_
            refine AllReadyH.cons (o := ⟨some 28, .call { callee := .builtin .append, args := #[.tmp 25, .tmp 27], argTypes := #[27, 27] }, 27, _, _, none⟩) rfl (fun K hK => ?_) AllReadyH.nil
            refine step_appr rfl (.tmp 25) (.tmp 27) 27 27 rfl _ _ (by simp [Act.eval]) (by simp [Act.eval]) _ _ r1b ?_
            refine hK.out _ _ (by exact SX.out _ bb) (fun hHeld => ?_)
            clear hK K
            (try simp only [Act.put]); (try simp only [List.setIfInBounds_toArray]); (try simp only [List.set_cons_succ]); (try simp only [List.set_cons_zero])
            refine wpAnyH_ready (rs := [6]) (by kernel_rfl) (by simp) ?_
            refine AllReadyH.cons (o := ⟨some 31, .call { callee := .builtin .append, args := #[.tmp 28, .tmp 30], argTypes := #[27, 27] }, 27, _, _, none⟩) rfl (fun K hK => ?_) AllReadyH.nil
            refine step_appr rfl (.tmp 28) (.tmp 30) 27 27 rfl _ _ (by simp [Act.eval]) (by simp [Act.eval]) _ _ r2b ?_
            obtain ⟨A2, k2, ev, f1, c1, hh, hc, sx, sx2, dv, bf⟩ := HFIN.out _ _ pb
            subst ev
            refine hK.out _ _ (by exact SX.out _ pb.2) (fun hHeld => ?_)
            clear hK K
            (try simp only [Act.put]); (try simp only [List.setIfInBounds_toArray]); (try simp only [List.set_cons_succ]); (try simp only [List.set_cons_zero])
            refine wpAnyH_take (i := 7) (oi := ⟨some 32, .fieldAddr 29 (.tmp 2) 1, 0, _, _, none⟩) (v := ?_) rfl (by kernel_rfl) (by kernel_rfl) (by kernel_rfl) (fun _ _ _ h => h) (Or.inl ⟨by rfl, ?_⟩) (by assumption) ?_
            rotate_left
            · (intro w hSw; (try dsimp only at hSw); go_split_ands; go_simp; (try with_reducible rfl))
            (try simp only [Act.put]); (try simp only [List.setIfInBounds_toArray]); (try simp only [List.set_cons_succ]); (try simp only [List.set_cons_zero])
            refine wpAnyH_last_st27 (i := 8) (o := ⟨none, .store 27 (.tmp 32) (.tmp 31), 0, _, _, none⟩) (by kernel_rfl) rfl rfl (.tmp 32) (.tmp 31) rfl w.heap.size 1 A2 (Y ++ [x]).length k2 (by simp [Act.eval]) (by simp [Act.eval]) _ c1 f1 (by kernel_rfl) (by exact sx2) ?_
            (try simp only [Act.put]); (try simp only [List.setIfInBounds_toArray]); (try simp only [List.set_cons_succ]); (try simp only [List.set_cons_zero])
            have LA := Lib.hid hh.cel.whole
            generalize hm : (Y ++ [x]).length = m at *
            clear hm
            have TH := Lib.hid (show World.there _ (w.heap.size + 2) 0 ([.int .i64 s.room, .slice A2 m k2, .int .i64 (s.sent + 1), .int .i64 s.came, .int .i64 s.lost] : List Value).length from hc.there (by show 0 + 5 ≤ 5; omega))
            have RH := Lib.hid (Hold.set ([.int .i64 s.room, .slice A2 m k2, .int .i64 (s.sent + 1), .int .i64 s.came, .int .i64 s.lost] : List Value) [] ([.int .i64 0, .slice none 0 0, .int .i64 0, .int .i64 0, .int .i64 0] : List Value) [] rfl _ hc)
            have FIN := Lib.hid (And.intro dv bf)
            clear hh hc dv bf sx sx2 r1a r2a r1b r2b r1c r2c c1 f1 cW ba bb bc pa pb pc hHeld
            go_wp2_with (first
              | (with_reducible refine wpList_load_mid rfl 29 _ rfl w.heap.size 0 rfl _ _ LA.out Try.underlying29 rfl (by kernel_rfl) ?_)
              | (with_reducible refine store_list rfl 29 _ _ rfl (w.heap.size + 2) 0 ([.int .i64 s.room, .slice A2 m k2, .int .i64 (s.sent + 1), .int .i64 s.came, .int .i64 s.lost] : List Value) rfl rfl TH.out (by kernel_rfl) rfl ?_))
            refine bodyPost_ret (results_cv rfl rfl rfl RH.out.cel.whole _ Try.underlying29 rfl (by kernel_rfl)) rfl ?_
            exact ⟨.slice A2 m k2, rfl, FIN.out.1, FIN.out.2⟩
        · refine step_build1 rfl (.tmp 29) rfl x (by simp [Act.eval]) ?_
          refine hK.out _ _ (by exact SX.out _ (below_new (below_new (Below.refl _ _)))) (fun hHeld => ?_)
          clear hK K
          (try simp only [Act.put]); (try simp only [List.setIfInBounds_toArray]); (try simp only [List.set_cons_succ]); (try simp only [List.set_cons_zero])
          refine wpAnyH_ready (rs := [2]) (by kernel_rfl) (by simp) ?_
          refine AllReadyH.cons (o := ⟨some 27, .load 27 (.tmp 26), 27, _, _, none⟩) rfl (fun K hK => ?_) AllReadyH.nil
          refine step_ld27 rfl (.tmp 26) rfl w.heap.size 1 (by simp [Act.eval]) _ (SC.out _ (below_new (below_new (Below.refl _ _)))) ?_
          refine hK.out _ _ (by exact SX.out _ (below_new (below_new (Below.refl _ _)))) (fun hHeld => ?_)
          clear hK K
          (try simp only [Act.put]); (try simp only [List.setIfInBounds_toArray]); (try simp only [List.set_cons_succ]); (try simp only [List.set_cons_zero])
          refine wpAnyH_ready (rs := [3]) (by kernel_rfl) (by simp) ?_
          refine AllReadyH.cons (o := ⟨some 28, .call { callee := .builtin .append, args := #[.tmp 25, .tmp 27], argTypes := #[27, 27] }, 27, _, _, none⟩) rfl (fun K hK => ?_) AllReadyH.nil
          refine step_appr rfl (.tmp 25) (.tmp 27) 27 27 rfl _ _ (by simp [Act.eval]) (by simp [Act.eval]) _ _ r1b ?_
          refine hK.out _ _ (by exact SX.out _ bb) (fun hHeld => ?_)
          clear hK K
          (try simp only [Act.put]); (try simp only [List.setIfInBounds_toArray]); (try simp only [List.set_cons_succ]); (try simp only [List.set_cons_zero])
          refine wpAnyH_ready (rs := [6]) (by kernel_rfl) (by simp) ?_
          refine AllReadyH.cons (o := ⟨some 31, .call { callee := .builtin .append, args := #[.tmp 28, .tmp 30], argTypes := #[27, 27] }, 27, _, _, none⟩) rfl (fun K hK => ?_) AllReadyH.nil
          refine step_appr rfl (.tmp 28) (.tmp 30) 27 27 rfl _ _ (by simp [Act.eval]) (by simp [Act.eval]) _ _ r2b ?_
          obtain ⟨A2, k2, ev, f1, c1, hh, hc, sx, sx2, dv, bf⟩ := HFIN.out _ _ pb
          subst ev
          refine hK.out _ _ (by exact SX.out _ pb.2) (fun hHeld => ?_)
          clear hK K
          (try simp only [Act.put]); (try simp only [List.setIfInBounds_toArray]); (try simp only [List.set_cons_succ]); (try simp only [List.set_cons_zero])
          refine wpAnyH_take (i := 7) (oi := ⟨some 32, .fieldAddr 29 (.tmp 2) 1, 0, _, _, none⟩) (v := ?_) rfl (by kernel_rfl) (by kernel_rfl) (by kernel_rfl) (fun _ _ _ h => h) (Or.inl ⟨by rfl, ?_⟩) (by assumption) ?_
          rotate_left
          · (intro w hSw; (try dsimp only at hSw); go_split_ands; go_simp; (try with_reducible rfl))
          (try simp only [Act.put]); (try simp only [List.setIfInBounds_toArray]); (try simp only [List.set_cons_succ]); (try simp only [List.set_cons_zero])
          refine wpAnyH_last_st27 (i := 8) (o := ⟨none, .store 27 (.tmp 32) (.tmp 31), 0, _, _, none⟩) (by kernel_rfl) rfl rfl (.tmp 32) (.tmp 31) rfl w.heap.size 1 A2 (Y ++ [x]).length k2 (by simp [Act.eval]) (by simp [Act.eval]) _ c1 f1 (by kernel_rfl) (by exact sx2) ?_
          (try simp only [Act.put]); (try simp only [List.setIfInBounds_toArray]); (try simp only [List.set_cons_succ]); (try simp only [List.set_cons_zero])
          have LA := Lib.hid hh.cel.whole
          generalize hm : (Y ++ [x]).length = m at *
          clear hm
          have TH := Lib.hid (show World.there _ (w.heap.size + 2) 0 ([.int .i64 s.room, .slice A2 m k2, .int .i64 (s.sent + 1), .int .i64 s.came, .int .i64 s.lost] : List Value).length from hc.there (by show 0 + 5 ≤ 5; omega))
          have RH := Lib.hid (Hold.set ([.int .i64 s.room, .slice A2 m k2, .int .i64 (s.sent + 1), .int .i64 s.came, .int .i64 s.lost] : List Value) [] ([.int .i64 0, .slice none 0 0, .int .i64 0, .int .i64 0, .int .i64 0] : List Value) [] rfl _ hc)
          have FIN := Lib.hid (And.intro dv bf)
          clear hh hc dv bf sx sx2 r1a r2a r1b r2b r1c r2c c1 f1 cW ba bb bc pa pb pc hHeld
          go_wp2_with (first
            | (with_reducible refine wpList_load_mid rfl 29 _ rfl w.heap.size 0 rfl _ _ LA.out Try.underlying29 rfl (by kernel_rfl) ?_)
            | (with_reducible refine store_list rfl 29 _ _ rfl (w.heap.size + 2) 0 ([.int .i64 s.room, .slice A2 m k2, .int .i64 (s.sent + 1), .int .i64 s.came, .int .i64 s.lost] : List Value) rfl rfl TH.out (by kernel_rfl) rfl ?_))
          refine bodyPost_ret (results_cv rfl rfl rfl RH.out.cel.whole _ Try.underlying29 rfl (by kernel_rfl)) rfl ?_
          exact ⟨.slice A2 m k2, rfl, FIN.out.1, FIN.out.2⟩
      · refine step_ld27 rfl (.tmp 26) rfl w.heap.size 1 (by simp [Act.eval]) _ (SC.out _ (Below.refl _ _)) ?_
        refine hK.out _ _ (by exact SX.out _ (Below.refl _ _)) (fun hHeld => ?_)
        clear hK K
        (try simp only [Act.put]); (try simp only [List.setIfInBounds_toArray]); (try simp only [List.set_cons_succ]); (try simp only [List.set_cons_zero])
        refine wpAnyH_ready (rs := [0, 5]) (by kernel_rfl) (by simp) ?_
        refine AllReadyH.cons (o := ⟨some 25, .buildSlice 27 0 #[], 27, _, _, none⟩) rfl (fun K hK => ?_) (AllReadyH.cons (o := ⟨some 30, .buildSlice 27 1 #[(0, .tmp 29)], 27, _, _, none⟩) rfl (fun K hK => ?_) AllReadyH.nil)
        · refine step_build0 rfl rfl ?_
          refine hK.out _ _ (by exact SX.out _ (below_new (Below.refl _ _))) (fun hHeld => ?_)
          clear hK K
          (try simp only [Act.put]); (try simp only [List.setIfInBounds_toArray]); (try simp only [List.set_cons_succ]); (try simp only [List.set_cons_zero])
          refine wpAnyH_ready (rs := [3, 5]) (by kernel_rfl) (by simp) ?_
          refine AllReadyH.cons (o := ⟨some 28, .call { callee := .builtin .append, args := #[.tmp 25, .tmp 27], argTypes := #[27, 27] }, 27, _, _, none⟩) rfl (fun K hK => ?_) (AllReadyH.cons (o := ⟨some 30, .buildSlice 27 1 #[(0, .tmp 29)], 27, _, _, none⟩) rfl (fun K hK => ?_) AllReadyH.nil)
          · refine step_appr rfl (.tmp 25) (.tmp 27) 27 27 rfl _ _ (by simp [Act.eval]) (by simp [Act.eval]) _ _ r1a ?_
            refine hK.out _ _ (by exact SX.out _ ba) (fun hHeld => ?_)
            clear hK K
            (try simp only [Act.put]); (try simp only [List.setIfInBounds_toArray]); (try simp only [List.set_cons_succ]); (try simp only [List.set_cons_zero])
            refine wpAnyH_ready (rs := [5]) (by kernel_rfl) (by simp) ?_
            refine AllReadyH.cons (o := ⟨some 30, .buildSlice 27 1 #[(0, .tmp 29)], 27, _, _, none⟩) rfl (fun K hK => ?_) AllReadyH.nil
            refine step_build1 rfl (.tmp 29) rfl x (by simp [Act.eval]) ?_
            refine hK.out _ _ (by exact SX.out _ (below_new ba)) (fun hHeld => ?_)
            clear hK K
            (try simp only [Act.put]); (try simp only [List.setIfInBounds_toArray]); (try simp only [List.set_cons_succ]); (try simp only [List.set_cons_zero])
            refine wpAnyH_ready (rs := [6]) (by kernel_rfl) (by simp) ?_
            refine AllReadyH.cons (o := ⟨some 31, .call { callee := .builtin .append, args := #[.tmp 28, .tmp 30], argTypes := #[27, 27] }, 27, _, _, none⟩) rfl (fun K hK => ?_) AllReadyH.nil
            refine step_appr rfl (.tmp 28) (.tmp 30) 27 27 rfl _ _ (by simp [Act.eval]) (by simp [Act.eval]) _ _ r2a ?_
            obtain ⟨A2, k2, ev, f1, c1, hh, hc, sx, sx2, dv, bf⟩ := HFIN.out _ _ pa
            subst ev
            refine hK.out _ _ (by exact SX.out _ pa.2) (fun hHeld => ?_)
            clear hK K
            (try simp only [Act.put]); (try simp only [List.setIfInBounds_toArray]); (try simp only [List.set_cons_succ]); (try simp only [List.set_cons_zero])
            refine wpAnyH_take (i := 7) (oi := ⟨some 32, .fieldAddr 29 (.tmp 2) 1, 0, _, _, none⟩) (v := ?_) rfl (by kernel_rfl) (by kernel_rfl) (by kernel_rfl) (fun _ _ _ h => h) (Or.inl ⟨by rfl, ?_⟩) (by assumption) ?_
            rotate_left
            · (intro w hSw; (try dsimp only at hSw); go_split_ands; go_simp; (try with_reducible rfl))
            (try simp only [Act.put]); (try simp only [List.setIfInBounds_toArray]); (try simp only [List.set_cons_succ]); (try simp only [List.set_cons_zero])
            refine wpAnyH_last_st27 (i := 8) (o := ⟨none, .store 27 (.tmp 32) (.tmp 31), 0, _, _, none⟩) (by kernel_rfl) rfl rfl (.tmp 32) (.tmp 31) rfl w.heap.size 1 A2 (Y ++ [x]).length k2 (by simp [Act.eval]) (by simp [Act.eval]) _ c1 f1 (by kernel_rfl) (by exact sx2) ?_
            (try simp only [Act.put]); (try simp only [List.setIfInBounds_toArray]); (try simp only [List.set_cons_succ]); (try simp only [List.set_cons_zero])
            have LA := Lib.hid hh.cel.whole
            generalize hm : (Y ++ [x]).length = m at *
            clear hm
            have TH := Lib.hid (show World.there _ (w.heap.size + 2) 0 ([.int .i64 s.room, .slice A2 m k2, .int .i64 (s.sent + 1), .int .i64 s.came, .int .i64 s.lost] : List Value).length from hc.there (by show 0 + 5 ≤ 5; omega))
            have RH := Lib.hid (Hold.set ([.int .i64 s.room, .slice A2 m k2, .int .i64 (s.sent + 1), .int .i64 s.came, .int .i64 s.lost] : List Value) [] ([.int .i64 0, .slice none 0 0, .int .i64 0, .int .i64 0, .int .i64 0] : List Value) [] rfl _ hc)
            have FIN := Lib.hid (And.intro dv bf)
            clear hh hc dv bf sx sx2 r1a r2a r1b r2b r1c r2c c1 f1 cW ba bb bc pa pb pc hHeld
            go_wp2_with (first
              | (with_reducible refine wpList_load_mid rfl 29 _ rfl w.heap.size 0 rfl _ _ LA.out Try.underlying29 rfl (by kernel_rfl) ?_)
              | (with_reducible refine store_list rfl 29 _ _ rfl (w.heap.size + 2) 0 ([.int .i64 s.room, .slice A2 m k2, .int .i64 (s.sent + 1), .int .i64 s.came, .int .i64 s.lost] : List Value) rfl rfl TH.out (by kernel_rfl) rfl ?_))
            refine bodyPost_ret (results_cv rfl rfl rfl RH.out.cel.whole _ Try.underlying29 rfl (by kernel_rfl)) rfl ?_
            exact ⟨.slice A2 m k2, rfl, FIN.out.1, FIN.out.2⟩
          · refine step_build1 rfl (.tmp 29) rfl x (by simp [Act.eval]) ?_
            refine hK.out _ _ (by exact SX.out _ (below_new (below_new (Below.refl _ _)))) (fun hHeld => ?_)
            clear hK K
            (try simp only [Act.put]); (try simp only [List.setIfInBounds_toArray]); (try simp only [List.set_cons_succ]); (try simp only [List.set_cons_zero])
            refine wpAnyH_ready (rs := [3]) (by kernel_rfl) (by simp) ?_
            refine AllReadyH.cons (o := ⟨some 28, .call { callee := .builtin .append, args := #[.tmp 25, .tmp 27], argTypes := #[27, 27] }, 27, _, _, none⟩) rfl (fun K hK => ?_) AllReadyH.nil
            refine step_appr rfl (.tmp 25) (.tmp 27) 27 27 rfl _ _ (by simp [Act.eval]) (by simp [Act.eval]) _ _ r1b ?_
            refine hK.out _ _ (by exact SX.out _ bb) (fun hHeld => ?_)
            clear hK K
            (try simp only [Act.put]); (try simp only [List.setIfInBounds_toArray]); (try simp only [List.set_cons_succ]); (try simp only [List.set_cons_zero])
            refine wpAnyH_ready (rs := [6]) (by kernel_rfl) (by simp) ?_
            refine AllReadyH.cons (o := ⟨some 31, .call { callee := .builtin .append, args := #[.tmp 28, .tmp 30], argTypes := #[27, 27] }, 27, _, _, none⟩) rfl (fun K hK => ?_) AllReadyH.nil
            refine step_appr rfl (.tmp 28) (.tmp 30) 27 27 rfl _ _ (by simp [Act.eval]) (by simp [Act.eval]) _ _ r2b ?_
            obtain ⟨A2, k2, ev, f1, c1, hh, hc, sx, sx2, dv, bf⟩ := HFIN.out _ _ pb
            subst ev
            refine hK.out _ _ (by exact SX.out _ pb.2) (fun hHeld => ?_)
            clear hK K
            (try simp only [Act.put]); (try simp only [List.setIfInBounds_toArray]); (try simp only [List.set_cons_succ]); (try simp only [List.set_cons_zero])
            refine wpAnyH_take (i := 7) (oi := ⟨some 32, .fieldAddr 29 (.tmp 2) 1, 0, _, _, none⟩) (v := ?_) rfl (by kernel_rfl) (by kernel_rfl) (by kernel_rfl) (fun _ _ _ h => h) (Or.inl ⟨by rfl, ?_⟩) (by assumption) ?_
            rotate_left
            · (intro w hSw; (try dsimp only at hSw); go_split_ands; go_simp; (try with_reducible rfl))
            (try simp only [Act.put]); (try simp only [List.setIfInBounds_toArray]); (try simp only [List.set_cons_succ]); (try simp only [List.set_cons_zero])
            refine wpAnyH_last_st27 (i := 8) (o := ⟨none, .store 27 (.tmp 32) (.tmp 31), 0, _, _, none⟩) (by kernel_rfl) rfl rfl (.tmp 32) (.tmp 31) rfl w.heap.size 1 A2 (Y ++ [x]).length k2 (by simp [Act.eval]) (by simp [Act.eval]) _ c1 f1 (by kernel_rfl) (by exact sx2) ?_
            (try simp only [Act.put]); (try simp only [List.setIfInBounds_toArray]); (try simp only [List.set_cons_succ]); (try simp only [List.set_cons_zero])
            have LA := Lib.hid hh.cel.whole
            generalize hm : (Y ++ [x]).length = m at *
            clear hm
            have TH := Lib.hid (show World.there _ (w.heap.size + 2) 0 ([.int .i64 s.room, .slice A2 m k2, .int .i64 (s.sent + 1), .int .i64 s.came, .int .i64 s.lost] : List Value).length from hc.there (by show 0 + 5 ≤ 5; omega))
            have RH := Lib.hid (Hold.set ([.int .i64 s.room, .slice A2 m k2, .int .i64 (s.sent + 1), .int .i64 s.came, .int .i64 s.lost] : List Value) [] ([.int .i64 0, .slice none 0 0, .int .i64 0, .int .i64 0, .int .i64 0] : List Value) [] rfl _ hc)
            have FIN := Lib.hid (And.intro dv bf)
            clear hh hc dv bf sx sx2 r1a r2a r1b r2b r1c r2c c1 f1 cW ba bb bc pa pb pc hHeld
            go_wp2_with (first
              | (with_reducible refine wpList_load_mid rfl 29 _ rfl w.heap.size 0 rfl _ _ LA.out Try.underlying29 rfl (by kernel_rfl) ?_)
              | (with_reducible refine store_list rfl 29 _ _ rfl (w.heap.size + 2) 0 ([.int .i64 s.room, .slice A2 m k2, .int .i64 (s.sent + 1), .int .i64 s.came, .int .i64 s.lost] : List Value) rfl rfl TH.out (by kernel_rfl) rfl ?_))
            refine bodyPost_ret (results_cv rfl rfl rfl RH.out.cel.whole _ Try.underlying29 rfl (by kernel_rfl)) rfl ?_
            exact ⟨.slice A2 m k2, rfl, FIN.out.1, FIN.out.2⟩
        · refine step_build1 rfl (.tmp 29) rfl x (by simp [Act.eval]) ?_
          refine hK.out _ _ (by exact SX.out _ (below_new (Below.refl _ _))) (fun hHeld => ?_)
          clear hK K
          (try simp only [Act.put]); (try simp only [List.setIfInBounds_toArray]); (try simp only [List.set_cons_succ]); (try simp only [List.set_cons_zero])
          refine wpAnyH_ready (rs := [0]) (by kernel_rfl) (by simp) ?_
          refine AllReadyH.cons (o := ⟨some 25, .buildSlice 27 0 #[], 27, _, _, none⟩) rfl (fun K hK => ?_) AllReadyH.nil
          refine step_build0 rfl rfl ?_
          refine hK.out _ _ (by exact SX.out _ (below_new (below_new (Below.refl _ _)))) (fun hHeld => ?_)
          clear hK K
          (try simp only [Act.put]); (try simp only [List.setIfInBounds_toArray]); (try simp only [List.set_cons_succ]); (try simp only [List.set_cons_zero])
          refine wpAnyH_ready (rs := [3]) (by kernel_rfl) (by simp) ?_
          refine AllReadyH.cons (o := ⟨some 28, .call { callee := .builtin .append, args := #[.tmp 25, .tmp 27], argTypes := #[27, 27] }, 27, _, _, none⟩) rfl (fun K hK => ?_) AllReadyH.nil
          refine step_appr rfl (.tmp 25) (.tmp 27) 27 27 rfl _ _ (by simp [Act.eval]) (by simp [Act.eval]) _ _ r1c ?_
          refine hK.out _ _ (by exact SX.out _ bc) (fun hHeld => ?_)
          clear hK K
          (try simp only [Act.put]); (try simp only [List.setIfInBounds_toArray]); (try simp only [List.set_cons_succ]); (try simp only [List.set_cons_zero])
          refine wpAnyH_ready (rs := [6]) (by kernel_rfl) (by simp) ?_
          refine AllReadyH.cons (o := ⟨some 31, .call { callee := .builtin .append, args := #[.tmp 28, .tmp 30], argTypes := #[27, 27] }, 27, _, _, none⟩) rfl (fun K hK => ?_) AllReadyH.nil
          refine step_appr rfl (.tmp 28) (.tmp 30) 27 27 rfl _ _ (by simp [Act.eval]) (by simp [Act.eval]) _ _ r2c ?_
          obtain ⟨A2, k2, ev, f1, c1, hh, hc, sx, sx2, dv, bf⟩ := HFIN.out _ _ pc
          subst ev
          refine hK.out _ _ (by exact SX.out _ pc.2) (fun hHeld => ?_)
          clear hK K
          (try simp only [Act.put]); (try simp only [List.setIfInBounds_toArray]); (try simp only [List.set_cons_succ]); (try simp only [List.set_cons_zero])
          refine wpAnyH_take (i := 7) (oi := ⟨some 32, .fieldAddr 29 (.tmp 2) 1, 0, _, _, none⟩) (v := ?_) rfl (by kernel_rfl) (by kernel_rfl) (by kernel_rfl) (fun _ _ _ h => h) (Or.inl ⟨by rfl, ?_⟩) (by assumption) ?_
          rotate_left
          · (intro w hSw; (try dsimp only at hSw); go_split_ands; go_simp; (try with_reducible rfl))
          (try simp only [Act.put]); (try simp only [List.setIfInBounds_toArray]); (try simp only [List.set_cons_succ]); (try simp only [List.set_cons_zero])
          refine wpAnyH_last_st27 (i := 8) (o := ⟨none, .store 27 (.tmp 32) (.tmp 31), 0, _, _, none⟩) (by kernel_rfl) rfl rfl (.tmp 32) (.tmp 31) rfl w.heap.size 1 A2 (Y ++ [x]).length k2 (by simp [Act.eval]) (by simp [Act.eval]) _ c1 f1 (by kernel_rfl) (by exact sx2) ?_
          (try simp only [Act.put]); (try simp only [List.setIfInBounds_toArray]); (try simp only [List.set_cons_succ]); (try simp only [List.set_cons_zero])
          have LA := Lib.hid hh.cel.whole
          generalize hm : (Y ++ [x]).length = m at *
          clear hm
          have TH := Lib.hid (show World.there _ (w.heap.size + 2) 0 ([.int .i64 s.room, .slice A2 m k2, .int .i64 (s.sent + 1), .int .i64 s.came, .int .i64 s.lost] : List Value).length from hc.there (by show 0 + 5 ≤ 5; omega))
          have RH := Lib.hid (Hold.set ([.int .i64 s.room, .slice A2 m k2, .int .i64 (s.sent + 1), .int .i64 s.came, .int .i64 s.lost] : List Value) [] ([.int .i64 0, .slice none 0 0, .int .i64 0, .int .i64 0, .int .i64 0] : List Value) [] rfl _ hc)
          have FIN := Lib.hid (And.intro dv bf)
          clear hh hc dv bf sx sx2 r1a r2a r1b r2b r1c r2c c1 f1 cW ba bb bc pa pb pc hHeld
          go_wp2_with (first
            | (with_reducible refine wpList_load_mid rfl 29 _ rfl w.heap.size 0 rfl _ _ LA.out Try.underlying29 rfl (by kernel_rfl) ?_)
            | (with_reducible refine store_list rfl 29 _ _ rfl (w.heap.size + 2) 0 ([.int .i64 s.room, .slice A2 m k2, .int .i64 (s.sent + 1), .int .i64 s.came, .int .i64 s.lost] : List Value) rfl rfl TH.out (by kernel_rfl) rfl ?_))
          refine bodyPost_ret (results_cv rfl rfl rfl RH.out.cel.whole _ Try.underlying29 rfl (by kernel_rfl)) rfl ?_
          exact ⟨.slice A2 m k2, rfl, FIN.out.1, FIN.out.2⟩
      · refine step_build1 rfl (.tmp 29) rfl x (by simp [Act.eval]) ?_
        refine hK.out _ _ (by exact SX.out _ (below_new (Below.refl _ _))) (fun hHeld => ?_)
        clear hK K
        (try simp only [Act.put]); (try simp only [List.setIfInBounds_toArray]); (try simp only [List.set_cons_succ]); (try simp only [List.set_cons_zero])
        refine wpAnyH_ready (rs := [0, 2]) (by kernel_rfl) (by simp) ?_
        refine AllReadyH.cons (o := ⟨some 25, .buildSlice 27 0 #[], 27, _, _, none⟩) rfl (fun K hK => ?_) (AllReadyH.cons (o := ⟨some 27, .load 27 (.tmp 26), 27, _, _, none⟩) rfl (fun K hK => ?_) AllReadyH.nil)
        · refine step_build0 rfl rfl ?_
          refine hK.out _ _ (by exact SX.out _ (below_new (below_new (Below.refl _ _)))) (fun hHeld => ?_)
          clear hK K
          (try simp only [Act.put]); (try simp only [List.setIfInBounds_toArray]); (try simp only [List.set_cons_succ]); (try simp only [List.set_cons_zero])
          refine wpAnyH_ready (rs := [2]) (by kernel_rfl) (by simp) ?_
          refine AllReadyH.cons (o := ⟨some 27, .load 27 (.tmp 26), 27, _, _, none⟩) rfl (fun K hK => ?_) AllReadyH.nil
          refine step_ld27 rfl (.tmp 26) rfl w.heap.size 1 (by simp [Act.eval]) _ (SC.out _ (below_new (below_new (Below.refl _ _)))) ?_
          refine hK.out _ _ (by exact SX.out _ (below_new (below_new (Below.refl _ _)))) (fun hHeld => ?_)
          clear hK K
          (try simp only [Act.put]); (try simp only [List.setIfInBounds_toArray]); (try simp only [List.set_cons_succ]); (try simp only [List.set_cons_zero])
          refine wpAnyH_ready (rs := [3]) (by kernel_rfl) (by simp) ?_
          refine AllReadyH.cons (o := ⟨some 28, .call { callee := .builtin .append, args := #[.tmp 25, .tmp 27], argTypes := #[27, 27] }, 27, _, _, none⟩) rfl (fun K hK => ?_) AllReadyH.nil
          refine step_appr rfl (.tmp 25) (.tmp 27) 27 27 rfl _ _ (by simp [Act.eval]) (by simp [Act.eval]) _ _ r1c ?_
          refine hK.out _ _ (by exact SX.out _ bc) (fun hHeld => ?_)
          clear hK K
          (try simp only [Act.put]); (try simp only [List.setIfInBounds_toArray]); (try simp only [List.set_cons_succ]); (try simp only [List.set_cons_zero])
          refine wpAnyH_ready (rs := [6]) (by kernel_rfl) (by simp) ?_
          refine AllReadyH.cons (o := ⟨some 31, .call { callee := .builtin .append, args := #[.tmp 28, .tmp 30], argTypes := #[27, 27] }, 27, _, _, none⟩) rfl (fun K hK => ?_) AllReadyH.nil
          refine step_appr rfl (.tmp 28) (.tmp 30) 27 27 rfl _ _ (by simp [Act.eval]) (by simp [Act.eval]) _ _ r2c ?_
          obtain ⟨A2, k2, ev, f1, c1, hh, hc, sx, sx2, dv, bf⟩ := HFIN.out _ _ pc
          subst ev
          refine hK.out _ _ (by exact SX.out _ pc.2) (fun hHeld => ?_)
          clear hK K
          (try simp only [Act.put]); (try simp only [List.setIfInBounds_toArray]); (try simp only [List.set_cons_succ]); (try simp only [List.set_cons_zero])
          refine wpAnyH_take (i := 7) (oi := ⟨some 32, .fieldAddr 29 (.tmp 2) 1, 0, _, _, none⟩) (v := ?_) rfl (by kernel_rfl) (by kernel_rfl) (by kernel_rfl) (fun _ _ _ h => h) (Or.inl ⟨by rfl, ?_⟩) (by assumption) ?_
          rotate_left
          · (intro w hSw; (try dsimp only at hSw); go_split_ands; go_simp; (try with_reducible rfl))
          (try simp only [Act.put]); (try simp only [List.setIfInBounds_toArray]); (try simp only [List.set_cons_succ]); (try simp only [List.set_cons_zero])
          refine wpAnyH_last_st27 (i := 8) (o := ⟨none, .store 27 (.tmp 32) (.tmp 31), 0, _, _, none⟩) (by kernel_rfl) rfl rfl (.tmp 32) (.tmp 31) rfl w.heap.size 1 A2 (Y ++ [x]).length k2 (by simp [Act.eval]) (by simp [Act.eval]) _ c1 f1 (by kernel_rfl) (by exact sx2) ?_
          (try simp only [Act.put]); (try simp only [List.setIfInBounds_toArray]); (try simp only [List.set_cons_succ]); (try simp only [List.set_cons_zero])
          have LA := Lib.hid hh.cel.whole
          generalize hm : (Y ++ [x]).length = m at *
          clear hm
          have TH := Lib.hid (show World.there _ (w.heap.size + 2) 0 ([.int .i64 s.room, .slice A2 m k2, .int .i64 (s.sent + 1), .int .i64 s.came, .int .i64 s.lost] : List Value).length from hc.there (by show 0 + 5 ≤ 5; omega))
          have RH := Lib.hid (Hold.set ([.int .i64 s.room, .slice A2 m k2, .int .i64 (s.sent + 1), .int .i64 s.came, .int .i64 s.lost] : List Value) [] ([.int .i64 0, .slice none 0 0, .int .i64 0, .int .i64 0, .int .i64 0] : List Value) [] rfl _ hc)
          have FIN := Lib.hid (And.intro dv bf)
          clear hh hc dv bf sx sx2 r1a r2a r1b r2b r1c r2c c1 f1 cW ba bb bc pa pb pc hHeld
          go_wp2_with (first
            | (with_reducible refine wpList_load_mid rfl 29 _ rfl w.heap.size 0 rfl _ _ LA.out Try.underlying29 rfl (by kernel_rfl) ?_)
            | (with_reducible refine store_list rfl 29 _ _ rfl (w.heap.size + 2) 0 ([.int .i64 s.room, .slice A2 m k2, .int .i64 (s.sent + 1), .int .i64 s.came, .int .i64 s.lost] : List Value) rfl rfl TH.out (by kernel_rfl) rfl ?_))
          refine bodyPost_ret (results_cv rfl rfl rfl RH.out.cel.whole _ Try.underlying29 rfl (by kernel_rfl)) rfl ?_
          exact ⟨.slice A2 m k2, rfl, FIN.out.1, FIN.out.2⟩
        · refine step_ld27 rfl (.tmp 26) rfl w.heap.size 1 (by simp [Act.eval]) _ (SC.out _ (below_new (Below.refl _ _))) ?_
          refine hK.out _ _ (by exact SX.out _ (below_new (Below.refl _ _))) (fun hHeld => ?_)
          clear hK K
          (try simp only [Act.put]); (try simp only [List.setIfInBounds_toArray]); (try simp only [List.set_cons_succ]); (try simp only [List.set_cons_zero])
          refine wpAnyH_ready (rs := [0]) (by kernel_rfl) (by simp) ?_
          refine AllReadyH.cons (o := ⟨some 25, .buildSlice 27 0 #[], 27, _, _, none⟩) rfl (fun K hK => ?_) AllReadyH.nil
          refine step_build0 rfl rfl ?_
          refine hK.out _ _ (by exact SX.out _ (below_new (below_new (Below.refl _ _)))) (fun hHeld => ?_)
          clear hK K
          (try simp only [Act.put]); (try simp only [List.setIfInBounds_toArray]); (try simp only [List.set_cons_succ]); (try simp only [List.set_cons_zero])
          refine wpAnyH_ready (rs := [3]) (by kernel_rfl) (by simp) ?_
          refine AllReadyH.cons (o := ⟨some 28, .call { callee := .builtin .append, args := #[.tmp 25, .tmp 27], argTypes := #[27, 27] }, 27, _, _, none⟩) rfl (fun K hK => ?_) AllReadyH.nil
          refine step_appr rfl (.tmp 25) (.tmp 27) 27 27 rfl _ _ (by simp [Act.eval]) (by simp [Act.eval]) _ _ r1c ?_
          refine hK.out _ _ (by exact SX.out _ bc) (fun hHeld => ?_)
          clear hK K
          (try simp only [Act.put]); (try simp only [List.setIfInBounds_toArray]); (try simp only [List.set_cons_succ]); (try simp only [List.set_cons_zero])
          refine wpAnyH_ready (rs := [6]) (by kernel_rfl) (by simp) ?_
          refine AllReadyH.cons (o := ⟨some 31, .call { callee := .builtin .append, args := #[.tmp 28, .tmp 30], argTypes := #[27, 27] }, 27, _, _, none⟩) rfl (fun K hK => ?_) AllReadyH.nil
          refine step_appr rfl (.tmp 28) (.tmp 30) 27 27 rfl _ _ (by simp [Act.eval]) (by simp [Act.eval]) _ _ r2c ?_
          obtain ⟨A2, k2, ev, f1, c1, hh, hc, sx, sx2, dv, bf⟩ := HFIN.out _ _ pc
          subst ev
          refine hK.out _ _ (by exact SX.out _ pc.2) (fun hHeld => ?_)
          clear hK K
          (try simp only [Act.put]); (try simp only [List.setIfInBounds_toArray]); (try simp only [List.set_cons_succ]); (try simp only [List.set_cons_zero])
          refine wpAnyH_take (i := 7) (oi := ⟨some 32, .fieldAddr 29 (.tmp 2) 1, 0, _, _, none⟩) (v := ?_) rfl (by kernel_rfl) (by kernel_rfl) (by kernel_rfl) (fun _ _ _ h => h) (Or.inl ⟨by rfl, ?_⟩) (by assumption) ?_
          rotate_left
          · (intro w hSw; (try dsimp only at hSw); go_split_ands; go_simp; (try with_reducible rfl))
          (try simp only [Act.put]); (try simp only [List.setIfInBounds_toArray]); (try simp only [List.set_cons_succ]); (try simp only [List.set_cons_zero])
          refine wpAnyH_last_st27 (i := 8) (o := ⟨none, .store 27 (.tmp 32) (.tmp 31), 0, _, _, none⟩) (by kernel_rfl) rfl rfl (.tmp 32) (.tmp 31) rfl w.heap.size 1 A2 (Y ++ [x]).length k2 (by simp [Act.eval]) (by simp [Act.eval]) _ c1 f1 (by kernel_rfl) (by exact sx2) ?_
          (try simp only [Act.put]); (try simp only [List.setIfInBounds_toArray]); (try simp only [List.set_cons_succ]); (try simp only [List.set_cons_zero])
          have LA := Lib.hid hh.cel.whole
          generalize hm : (Y ++ [x]).length = m at *
          clear hm
          have TH := Lib.hid (show World.there _ (w.heap.size + 2) 0 ([.int .i64 s.room, .slice A2 m k2, .int .i64 (s.sent + 1), .int .i64 s.came, .int .i64 s.lost] : List Value).length from hc.there (by show 0 + 5 ≤ 5; omega))
          have RH := Lib.hid (Hold.set ([.int .i64 s.room, .slice A2 m k2, .int .i64 (s.sent + 1), .int .i64 s.came, .int .i64 s.lost] : List Value) [] ([.int .i64 0, .slice none 0 0, .int .i64 0, .int .i64 0, .int .i64 0] : List Value) [] rfl _ hc)
          have FIN := Lib.hid (And.intro dv bf)
          clear hh hc dv bf sx sx2 r1a r2a r1b r2b r1c r2c c1 f1 cW ba bb bc pa pb pc hHeld
          go_wp2_with (first
            | (with_reducible refine wpList_load_mid rfl 29 _ rfl w.heap.size 0 rfl _ _ LA.out Try.underlying29 rfl (by kernel_rfl) ?_)
            | (with_reducible refine store_list rfl 29 _ _ rfl (w.heap.size + 2) 0 ([.int .i64 s.room, .slice A2 m k2, .int .i64 (s.sent + 1), .int .i64 s.came, .int .i64 s.lost] : List Value) rfl rfl TH.out (by kernel_rfl) rfl ?_))
          refine bodyPost_ret (results_cv rfl rfl rfl RH.out.cel.whole _ Try.underlying29 rfl (by kernel_rfl)) rfl ?_
          exact ⟨.slice A2 m k2, rfl, FIN.out.1, FIN.out.2⟩
    · have e1 : s.send x.m = ⟨s.room, s.sent + 1, s.came, s.lost + 1, s.ms⟩ := by unfold St.send; rw [hr, hf]; rfl
      have e2 : s.sendR x.m = 7 := by unfold St.sendR; rw [hr, hf]; rfl
      rw [e1, e2]
      have HR := Lib.hid hr
      have q1 : decide (s.room ≤ (s.ms.length : Int)) = true := hf
      clear hr hf e1 e2
      go_enter Try.func27, Try.ntmps27
      go_wp2_with (first
        | (with_reducible refine wpList_load_mid rfl 49 _ rfl (w.heap.size + 1) 0 rfl _ _ LX0.out Try.underlying49 rfl (mv_size _) ?_)
        | fail)
      refine (dright_mv R0.out R1.out K).mono ?_
      rintro e w1 ⟨rfl, hb⟩
      rw [HR.out]
      have h1 := HA0.out.on hb
      have c0 := hold_cell h1 0 rfl
      have c1 := hold_cell h1 1 rfl
      have c2 := hold_cell h1 2 rfl
      have f2 := hold_soft h1 2
      have B1 := below_on HB0.out hb
      have hlt1 : w.heap.size + 2 < w1.heap.size := hold_lt (HC0.out.on hb)
      have c4 := hold_cell h1 4 rfl
      have f4 := hold_soft h1 4
      have k2 : Keeps (only w.heap.size) w1 ((w1.setCell ⟨w.heap.size, 2, none⟩ (.int .i64 (s.sent + 1))).setCell ⟨w.heap.size, 4, none⟩ (.int .i64 (s.lost + 1))) := ((Keeps.refl (only w.heap.size) w1).setCell (p := ⟨w.heap.size, 2, none⟩) (.inl rfl) _).setCell (p := ⟨w.heap.size, 4, none⟩) (.inl rfl) _
      have h3 : Hold ((w1.setCell ⟨w.heap.size, 2, none⟩ (.int .i64 (s.sent + 1))).setCell ⟨w.heap.size, 4, none⟩ (.int .i64 (s.lost + 1))) w.heap.size 29 ([.int .i64 s.room, .slice A s.ms.length c, .int .i64 (s.sent + 1), .int .i64 s.came, .int .i64 (s.lost + 1)] : List Value) := hold_put (hold_put h1 2 _) 4 _
      have hc3 := hold_keeps (HC0.out.on hb) k2 (fun e => by unfold only at e; omega)
      have LA := Lib.hid h3.cel.whole
      have TH := Lib.hid (show World.there ((w1.setCell ⟨w.heap.size, 2, none⟩ (.int .i64 (s.sent + 1))).setCell ⟨w.heap.size, 4, none⟩ (.int .i64 (s.lost + 1))) (w.heap.size + 2) 0 ([.int .i64 s.room, .slice A s.ms.length c, .int .i64 (s.sent + 1), .int .i64 s.came, .int .i64 (s.lost + 1)] : List Value).length from hc3.there (by show 0 + 5 ≤ 5; omega))
      have RH := Lib.hid (Hold.set ([.int .i64 s.room, .slice A s.ms.length c, .int .i64 (s.sent + 1), .int .i64 s.came, .int .i64 (s.lost + 1)] : List Value) [] ([.int .i64 0, .slice none 0 0, .int .i64 0, .int .i64 0, .int .i64 0] : List Value) [] rfl _ hc3)
      have HBF := Lib.hid ((B1.trans (k2.below (fun x e => by unfold only at e; omega) B1.size)).trans ((keeps_puts ([.int .i64 s.room, .slice A s.ms.length c, .int .i64 (s.sent + 1), .int .i64 s.came, .int .i64 (s.lost + 1)] : List Value) 0 (b := w.heap.size + 2)).below (fun x e => by unfold only at e; omega) (by have := B1.size; have := k2.size; omega)))
      clear h1 B1 hb k2 h3 hc3 hlt1
      go_wp2_with (first
        | (with_reducible refine wpList_load_mid rfl 29 _ rfl w.heap.size 0 rfl _ _ LA.out Try.underlying29 rfl (by kernel_rfl) ?_)
        | (with_reducible refine store_list rfl 29 _ _ rfl (w.heap.size + 2) 0 ([.int .i64 s.room, .slice A s.ms.length c, .int .i64 (s.sent + 1), .int .i64 s.came, .int .i64 (s.lost + 1)] : List Value) rfl rfl TH.out (by kernel_rfl) rfl ?_))
      refine bodyPost_ret (results_cv rfl rfl rfl RH.out.cel.whole _ Try.underlying29 rfl (by kernel_rfl)) rfl ?_
      exact ⟨.slice A s.ms.length c, rfl, (HD.out.below HBF.out).like rfl, HBF.out⟩

end Go.Proofs.Ytnahboflpipfpaa
