/- Contract of a log's Get, by what stands behind look; no conditions but those that it names. -/
import Derived.Test.YtdachohcjpjblaaGreatDoorOApp
set_option maxHeartbeats 8000000
set_option maxRecDepth 100000
open Go.Value renaming int → J
open Go.IntKind renaming i64 → U
open Go.Lib renaming hid → V
open List renaming setIfInBounds_toArray → O
namespace Go.Proofs.YtdachohcjpjblaaGreatDoor
open Go.ChangeShapes Go.WideShapes Go.ChangeAt Go.RowKit
open Di (Keeps In below_on below_new)
open Wi (Hold)
def Bet (w W : World) : Nat → Prop := fun j => w.heap.size ≤ j ∧ j < W.heap.size
def Asked (w W : World) (k : Ky) (r : K.Rec) (b : Bool) (Φ : World → World → Prop) (e : Ending) (w' : World) : Prop := ∃ (g : Nat) (mp : Value) (x : Rv), e = .returned (.pointer (some ⟨g, 0, none⟩)) ∧ w'.cell? ⟨g, 4, none⟩ = some mp ∧ g < w'.heap.size ∧ (∀ W', Below w'.heap.size w' W' → (Instr.lookup 73 mp (kv k) true).run Tryz.prog W' = .ok (.tuple #[x.val,.bool b]) W') ∧ x.r = r ∧ Txt w' x ∧ (Out (Bet w W) w' x.va ∧ Out (Bet w W) w' x.vb) ∧
 (∀ j, Bet w W j → w'.heap[j]? = W.heap[j]?) ∧ W.heap.size ≤ w'.heap.size ∧ Φ W w'
def Gets (w : World) (r : K.Rec) (b : Bool) (Φ : World → World → Prop) (e : Ending) (w' : World) : Prop := ∃ y : Rv, e = .returned (.tuple #[y.val,.bool b]) ∧ y.r = r ∧ Wi.OwnR w.heap.size w' y.va r.c.rs ∧ Wi.OwnW w.heap.size w' y.vb r.c.ws ∧ ∃ W, w.heap.size + 2 ≤ W.heap.size ∧ Φ W w'
theorem step_store {ops : Array Oper} {o : Oper} {a : Act} {w : World} {K : Act → World → Prop} {Q : Exit → Act → World → Prop} {E : Prop} (hg : o.guard = none) (ty : TypeId) (x y : Operand) (ho : o.op = .store ty x y) (b off : Nat) (L : List Value) (hx : a.eval x = .pointer (some ⟨b, off, none⟩)) (hy : a.eval y = .agg L.toArray)
 (ht : w.there b off L.length) (hi : (Tryz.prog.info? ty).map (·.size) = some L.length) (h1 : L.all (·.oneCell') = true) (hK : K (a.put o.dst undef) (w.setCells b off L)) : if Region.wanted o (yielded ops a.tmps) = true then Oper.wp Tryz.prog o a w K Q else E := by
 rw [if_pos (by simp [Region.wanted, hg])]
 exact wp_store_mid ty x y ho b off L.toArray hx hy (by simpa using ht) (by simpa using hi) (by simpa using h1) (by simpa using hK)
theorem hold_w2 (w : World) (a c : Value) : Hold ((w.alloc (.cells #[a, c] 53)).alloc (.cells #[J U 0,J U 0,J U 0,J U 0,J U 0,J U 0,J U 0,J U 0,J U 0,J U 0,J U 0,J U 0,J U 0,.slice none 0 0,.slice none 0 0,.bool false,J U 0,J U 0,J U 0,J U 0,J U 0,J U 0,J U 0,J U 0,.bool false] 67)).drew (w.heap.size + 1) 67 [J U 0,J U 0,J U 0,J U 0,J U 0,J U 0,J U 0,J U 0,J U 0,J U 0,J U 0,J U 0,J U 0,.slice none 0 0,.slice none 0 0,.bool false,J U 0,J U 0,J U 0,J U 0,J U 0,J U 0,J U 0,J U 0,.bool false] := by
 have := Wi.Hold.new (w.alloc (.cells #[a, c] 53)) [J U 0,J U 0,J U 0,J U 0,J U 0,J U 0,J U 0,J U 0,J U 0,J U 0,J U 0,J U 0,J U 0,.slice none 0 0,.slice none 0 0,.bool false,J U 0,J U 0,J U 0,J U 0,J U 0,J U 0,J U 0,J U 0,.bool false] 67
 rw [show (w.alloc (.cells #[a, c] 53)).heap.size = w.heap.size + 1 by simp] at this
 exact this
theorem hold_w3 (w : World) (a c : Value) : Hold (((w.alloc (.cells #[a, c] 53)).alloc (.cells #[J U 0,J U 0,J U 0,J U 0,J U 0,J U 0,J U 0,J U 0,J U 0,J U 0,J U 0,J U 0,J U 0,.slice none 0 0,.slice none 0 0,.bool false,J U 0,J U 0,J U 0,J U 0,J U 0,J U 0,J U 0,J U 0,.bool false] 67)).alloc (.cells #[J U 0,J U 0,J U 0,J U 0,J U 0,J U 0,J U 0,J U 0,J U 0,J U 0,J U 0,J U 0,J U 0,.slice none 0 0,.slice none 0 0,.bool false,J U 0,J U 0,J U 0,J U 0,J U 0,J U 0,J U 0,J U 0,.bool false] 67)).drew (w.heap.size + 1) 67 [J U 0,J U 0,J U 0,J U 0,J U 0,J U 0,J U 0,J U 0,J U 0,J U 0,J U 0,J U 0,J U 0,.slice none 0 0,.slice none 0 0,.bool false,J U 0,J U 0,J U 0,J U 0,J U 0,J U 0,J U 0,J U 0,.bool false] := (hold_w2 w a c).on (below_new (Below.refl _ _))
theorem hold_w4 (w : World) (a c : Value) : Hold (((w.alloc (.cells #[a, c] 53)).alloc (.cells #[J U 0,J U 0,J U 0,J U 0,J U 0,J U 0,J U 0,J U 0,J U 0,J U 0,J U 0,J U 0,J U 0,.slice none 0 0,.slice none 0 0,.bool false,J U 0,J U 0,J U 0,J U 0,J U 0,J U 0,J U 0,J U 0,.bool false] 67)).alloc (.cells #[J U 0,J U 0,J U 0,J U 0,J U 0,J U 0,J U 0,J U 0,J U 0,J U 0,J U 0,J U 0,J U 0,.slice none 0 0,.slice none 0 0,.bool false,J U 0,J U 0,J U 0,J U 0,J U 0,J U 0,J U 0,J U 0,.bool false] 67)).drew (w.heap.size + 2) 67 [J U 0,J U 0,J U 0,J U 0,J U 0,J U 0,J U 0,J U 0,J U 0,J U 0,J U 0,J U 0,J U 0,.slice none 0 0,.slice none 0 0,.bool false,J U 0,J U 0,J U 0,J U 0,J U 0,J U 0,J U 0,J U 0,.bool false] := by
 have := Wi.Hold.new ((w.alloc (.cells #[a, c] 53)).alloc (.cells #[J U 0,J U 0,J U 0,J U 0,J U 0,J U 0,J U 0,J U 0,J U 0,J U 0,J U 0,J U 0,J U 0,.slice none 0 0,.slice none 0 0,.bool false,J U 0,J U 0,J U 0,J U 0,J U 0,J U 0,J U 0,J U 0,.bool false] 67)) [J U 0,J U 0,J U 0,J U 0,J U 0,J U 0,J U 0,J U 0,J U 0,J U 0,J U 0,J U 0,J U 0,.slice none 0 0,.slice none 0 0,.bool false,J U 0,J U 0,J U 0,J U 0,J U 0,J U 0,J U 0,J U 0,.bool false] 67
 rw [show ((w.alloc (.cells #[a, c] 53)).alloc (.cells #[J U 0,J U 0,J U 0,J U 0,J U 0,J U 0,J U 0,J U 0,J U 0,J U 0,J U 0,J U 0,J U 0,.slice none 0 0,.slice none 0 0,.bool false,J U 0,J U 0,J U 0,J U 0,J U 0,J U 0,J U 0,J U 0,.bool false] 67)).heap.size = w.heap.size + 2 by simp] at this
 exact this
theorem results25 {tmps : Array Value} {w : World} {b : Nat} {L : List Value} {x : Value} (hp : tmps.getD 4 undef = .pointer (some ⟨b, 0, none⟩)) (hx : tmps.getD 5 undef = x) (hr : w.rangeAt b 0 L) (hi : (Tryz.prog.info? 67).map (·.size) = some L.length) :
 (results Tryz.f25 tmps).run Tryz.prog w = .ok (.tuple #[.agg L.toArray, x]) w := by
 rw [results_cell_tmp rfl, hp, hx]
 simp [asAddr, run_loadVar_mid w b 0 67 L _ hr Tryz.underlying67 rfl hi, Result.andThen]
theorem setCells_keeps (w : World) (b : Nat) : ∀ (o : Nat) (L : List Value), Keeps (fun y => y = b) w (w.setCells b o L) := by
 intro o L
 induction L generalizing w o with
 | nil => exact Keeps.refl _ _
 | cons v L ih =>
   rw [World.setCells]
   have h1 : Keeps (fun y => y = b) w (w.setCell ⟨b, o, none⟩ v) := (Keeps.refl (fun y => y = b) w).setCell (p := ⟨b, o, none⟩) (.inl rfl) v
   exact h1.trans (ih _ _) (fun _ _ e => e)
theorem get_gen {w : World} {p : Value} (k : Ky) (r : K.Rec) (b : Bool) {Φ : World → World → Prop} (hl : ∀ W, Below w.heap.size w W → Calls Tryz.prog 36 #[p] W (Asked w W k r b Φ)) (hΦ : ∀ W W1 W2, Φ W W1 → Keeps (Bet w W) W1 W2 → Φ W W2) (hr : r.c.rs.length ≤ 1000) (hw : r.c.ws.length ≤ 1000) :
 Calls Tryz.prog 25 #[p,.agg #[J U k.1,J U k.2]] w (Gets w r b Φ) := by
 have HK := V hl
 have HP := V hΦ
 have b0 : Below w.heap.size w ((w.alloc (.cells #[J U k.1,J U k.2] 53)).alloc (.cells #[J U 0,J U 0,J U 0,J U 0,J U 0,J U 0,J U 0,J U 0,J U 0,J U 0,J U 0,J U 0,J U 0,.slice none 0 0,.slice none 0 0,.bool false,J U 0,J U 0,J U 0,J U 0,J U 0,J U 0,J U 0,J U 0,.bool false] 67)).drew := (below_new (below_new (Below.refl _ _))).drew
 have b1 : Below w.heap.size w (((w.alloc (.cells #[J U k.1,J U k.2] 53)).alloc (.cells #[J U 0,J U 0,J U 0,J U 0,J U 0,J U 0,J U 0,J U 0,J U 0,J U 0,J U 0,J U 0,J U 0,.slice none 0 0,.slice none 0 0,.bool false,J U 0,J U 0,J U 0,J U 0,J U 0,J U 0,J U 0,J U 0,.bool false] 67)).alloc (.cells #[J U 0,J U 0,J U 0,J U 0,J U 0,J U 0,J U 0,J U 0,J U 0,J U 0,J U 0,J U 0,J U 0,.slice none 0 0,.slice none 0 0,.bool false,J U 0,J U 0,J U 0,J U 0,J U 0,J U 0,J U 0,J U 0,.bool false] 67)).drew := (below_new (below_new (below_new (Below.refl _ _)))).drew
 have BA := V b0
 have BB := V b1
 have hix : (Tryz.prog.info? 67).map (·.size) = some 25 := by kernel_rfl
 clear hl hΦ b0 b1
 go_enter Tryz.func25, Tryz.ntmps25
 go_wp2
 rename_i K0 hK0
 have key : ∀ (W W' : World) (nb g : Nat) (mp : Value) (A1 A2 : Option Addr) (c1 c2 : Nat), w.heap.size + 2 ≤ W.heap.size → W.heap.size ≤ W'.heap.size → Hid (Hold W' nb 67 [J U r.ir,J U r.is,J U r.st,J U r.pn,J U r.pr,J U r.bn,J U r.br,J U r.c.k,J U r.c.tc,J U r.c.tn,J U r.c.tt,J U r.c.tk,J U r.c.sh, (.slice A1 r.c.rs.length c1), (.slice A2 r.c.ws.length c2),.bool r.c.cm,J U r.sq,J U r.d0,J U r.d1,J U r.d2,J U r.d3,J U r.d4,J U r.d5,J U r.d6,.bool r.kp]) → Hid (Hold W' (w.heap.size + 1) 67 [J U 0,J U 0,J U 0,J U 0,J U 0,J U 0,J U 0,J U 0,J U 0,J U 0,J U 0,J U 0,J U 0,.slice none 0 0,.slice none 0 0,.bool false,J U 0,J U 0,J U 0,J U 0,J U 0,J U 0,J U 0,J U 0,.bool false]) → Hid (Txt W' ⟨r,.slice A1 r.c.rs.length c1,.slice A2 r.c.ws.length c2⟩) → Hid (Φ W W') →
  Exit.then K0 (bodyPost Tryz.prog Tryz.f25 (Gets w r b Φ)) Exit.normal ⟨#[p,.agg #[J U k.1,J U k.2], undef,.pointer (some ⟨w.heap.size, 0, none⟩),.pointer (some ⟨w.heap.size + 1, 0, none⟩),.bool false,.pointer (some ⟨nb, 0, none⟩),.bool b, .tuple #[.agg #[J U r.ir,J U r.is,J U r.st,J U r.pn,J U r.pr,J U r.bn,J U r.br,J U r.c.k,J U r.c.tc,J U r.c.tn,J U r.c.tt,J U r.c.tk,J U r.c.sh, (.slice A1 r.c.rs.length c1), (.slice A2 r.c.ws.length c2),.bool r.c.cm,J U r.sq,J U r.d0,J U r.d1,J U r.d2,J U r.d3,J U r.d4,J U r.d5,J U r.d6,.bool r.kp],.bool b], p,.pointer (some ⟨g, 0, none⟩),.pointer (some ⟨g, 0, none⟩),.pointer (some ⟨g, 4, none⟩), mp,.agg #[J U k.1,J U k.2], .tuple #[.agg #[J U r.ir,J U r.is,J U r.st,J U r.pn,J U r.pr,J U r.bn,J U r.br,J U r.c.k,J U r.c.tc,J U r.c.tn,J U r.c.tt,J U r.c.tk,J U r.c.sh, (.slice A1 r.c.rs.length c1), (.slice A2 r.c.ws.length c2),.bool r.c.cm,J U r.sq,J U r.d0,J U r.d1,J U r.d2,J U r.d3,J U r.d4,J U r.d5,J U r.d6,.bool r.kp],.bool b],.agg #[J U r.ir,J U r.is,J U r.st,J U r.pn,J U r.pr,J U r.bn,J U r.br,J U r.c.k,J U r.c.tc,J U r.c.tn,J U r.c.tt,J U r.c.tk,J U r.c.sh, (.slice A1 r.c.rs.length c1), (.slice A2 r.c.ws.length c2),.bool r.c.cm,J U r.sq,J U r.d0,J U r.d1,J U r.d2,J U r.d3,J U r.d4,J U r.d5,J U r.d6,.bool r.kp],.bool b, undef, undef, undef, undef], []⟩ W' := by
  intro W W' nb g mp A1 A2 c1 c2 hs1 hs2 HN HZ HX HF
  refine hK0 _ _ ?_
  have L67 := V HN.out.cel.whole
  go_wp2_with (first
   | (with_reducible refine wpList_load_mid rfl 67 _ rfl nb 0 rfl [J U r.ir,J U r.is,J U r.st,J U r.pn,J U r.pr,J U r.bn,J U r.br,J U r.c.k,J U r.c.tc,J U r.c.tn,J U r.c.tt,J U r.c.tk,J U r.c.sh, (.slice A1 r.c.rs.length c1), (.slice A2 r.c.ws.length c2),.bool r.c.cm,J U r.sq,J U r.d0,J U r.d1,J U r.d2,J U r.d3,J U r.d4,J U r.d5,J U r.d6,.bool r.kp] _ L67.out Tryz.underlying67 rfl (by kernel_rfl) ?_)
   | (go_at_call 48
      refine (Wi.must_rec r HX.out.rs HX.out.ws hr hw).mono ?_
      rintro e w2 ⟨va, vb, rfl, ⟨B1, hB1, o1⟩, ⟨B2, hB2, o2⟩, hb2⟩
      obtain ⟨A3, k3, rfl⟩ := Wi.ownsRow_slice o1
      obtain ⟨A4, k4, rfl⟩ := Wi.ownsRow_slice o2
      have N2 := HZ.out.on hb2
      have TH := V (show w2.there (w.heap.size + 1) 0 ([J U r.ir,J U r.is,J U r.st,J U r.pn,J U r.pr,J U r.bn,J U r.br,J U r.c.k,J U r.c.tc,J U r.c.tn,J U r.c.tt,J U r.c.tk,J U r.c.sh, (.slice A3 r.c.rs.length k3), (.slice A4 r.c.ws.length k4),.bool r.c.cm,J U r.sq,J U r.d0,J U r.d1,J U r.d2,J U r.d3,J U r.d4,J U r.d5,J U r.d6,.bool r.kp] : List Value).length from N2.there (by simp))
      have FH := V (show Hold (w2.setCells (w.heap.size + 1) 0 [J U r.ir,J U r.is,J U r.st,J U r.pn,J U r.pr,J U r.bn,J U r.br,J U r.c.k,J U r.c.tc,J U r.c.tn,J U r.c.tt,J U r.c.tk,J U r.c.sh, (.slice A3 r.c.rs.length k3), (.slice A4 r.c.ws.length k4),.bool r.c.cm,J U r.sq,J U r.d0,J U r.d1,J U r.d2,J U r.d3,J U r.d4,J U r.d5,J U r.d6,.bool r.kp]) (w.heap.size + 1) 67 [J U r.ir,J U r.is,J U r.st,J U r.pn,J U r.pr,J U r.bn,J U r.br,J U r.c.k,J U r.c.tc,J U r.c.tn,J U r.c.tt,J U r.c.tk,J U r.c.sh, (.slice A3 r.c.rs.length k3), (.slice A4 r.c.ws.length k4),.bool r.c.cm,J U r.sq,J U r.d0,J U r.d1,J U r.d2,J U r.d3,J U r.d4,J U r.d5,J U r.d6,.bool r.kp] from Wi.Hold.set [J U r.ir,J U r.is,J U r.st,J U r.pn,J U r.pr,J U r.bn,J U r.br,J U r.c.k,J U r.c.tc,J U r.c.tn,J U r.c.tt,J U r.c.tk,J U r.c.sh, (.slice A3 r.c.rs.length k3), (.slice A4 r.c.ws.length k4),.bool r.c.cm,J U r.sq,J U r.d0,J U r.d1,J U r.d2,J U r.d3,J U r.d4,J U r.d5,J U r.d6,.bool r.kp] [] [J U 0,J U 0,J U 0,J U 0,J U 0,J U 0,J U 0,J U 0,J U 0,J U 0,J U 0,J U 0,J U 0,.slice none 0 0,.slice none 0 0,.bool false,J U 0,J U 0,J U 0,J U 0,J U 0,J U 0,J U 0,J U 0,.bool false] [] rfl _ N2)
      have R2 := V (show Wi.OwnR w.heap.size (w2.setCells (w.heap.size + 1) 0 [J U r.ir,J U r.is,J U r.st,J U r.pn,J U r.pr,J U r.bn,J U r.br,J U r.c.k,J U r.c.tc,J U r.c.tn,J U r.c.tt,J U r.c.tk,J U r.c.sh, (.slice A3 r.c.rs.length k3), (.slice A4 r.c.ws.length k4),.bool r.c.cm,J U r.sq,J U r.d0,J U r.d1,J U r.d2,J U r.d3,J U r.d4,J U r.d5,J U r.d6,.bool r.kp]) (.slice A3 r.c.rs.length k3) r.c.rs from ⟨B1, by omega, Wi.ownsRow_setCells o1 (by omega) _ 0⟩)
      have W2 := V (show Wi.OwnW w.heap.size (w2.setCells (w.heap.size + 1) 0 [J U r.ir,J U r.is,J U r.st,J U r.pn,J U r.pr,J U r.bn,J U r.br,J U r.c.k,J U r.c.tc,J U r.c.tn,J U r.c.tt,J U r.c.tk,J U r.c.sh, (.slice A3 r.c.rs.length k3), (.slice A4 r.c.ws.length k4),.bool r.c.cm,J U r.sq,J U r.d0,J U r.d1,J U r.d2,J U r.d3,J U r.d4,J U r.d5,J U r.d6,.bool r.kp]) (.slice A4 r.c.ws.length k4) r.c.ws from ⟨B2, by omega, Wi.ownsRow_setCells o2 (by omega) _ 0⟩)
      have P2 := V (HP.out W W' (w2.setCells (w.heap.size + 1) 0 [J U r.ir,J U r.is,J U r.st,J U r.pn,J U r.pr,J U r.bn,J U r.br,J U r.c.k,J U r.c.tc,J U r.c.tn,J U r.c.tt,J U r.c.tk,J U r.c.sh, (.slice A3 r.c.rs.length k3), (.slice A4 r.c.ws.length k4),.bool r.c.cm,J U r.sq,J U r.d0,J U r.d1,J U r.d2,J U r.d3,J U r.d4,J U r.d5,J U r.d6,.bool r.kp]) HF.out ((Keeps.of_below hb2).trans (setCells_keeps w2 (w.heap.size + 1) 0 [J U r.ir,J U r.is,J U r.st,J U r.pn,J U r.pr,J U r.bn,J U r.br,J U r.c.k,J U r.c.tc,J U r.c.tn,J U r.c.tt,J U r.c.tk,J U r.c.sh, (.slice A3 r.c.rs.length k3), (.slice A4 r.c.ws.length k4),.bool r.c.cm,J U r.sq,J U r.d0,J U r.d1,J U r.d2,J U r.d3,J U r.d4,J U r.d5,J U r.d6,.bool r.kp]) (fun x _ e => by subst e; exact ⟨by omega, by omega⟩)))
      clear N2 o1 o2 hb2)
   | (with_reducible refine Wi.store_list rfl 67 _ _ rfl (w.heap.size + 1) 0 [J U r.ir,J U r.is,J U r.st,J U r.pn,J U r.pr,J U r.bn,J U r.br,J U r.c.k,J U r.c.tc,J U r.c.tn,J U r.c.tt,J U r.c.tk,J U r.c.sh, (.slice A3 r.c.rs.length k3), (.slice A4 r.c.ws.length k4),.bool r.c.cm,J U r.sq,J U r.d0,J U r.d1,J U r.d2,J U r.d3,J U r.d4,J U r.d5,J U r.d6,.bool r.kp] rfl rfl TH.out (by kernel_rfl) (by kernel_rfl) ?_))
  refine bodyPost_ret (results25 rfl rfl FH.out.cel.whole (by kernel_rfl)) rfl ?_
  exact ⟨⟨r,.slice A3 r.c.rs.length k3,.slice A4 r.c.ws.length k4⟩, rfl, rfl, R2.out, W2.out, W, hs1, P2.out⟩
 have KEY := V key
 clear key hK0
 refine wp_region_held_drew (S := fun w' => w'.cell? ⟨w.heap.size, 0, none⟩ = some (J U k.1) ∧ w'.cell? ⟨w.heap.size, 1, none⟩ = some (J U k.2)) (by kernel_rfl) (by refine ⟨?_, ?_⟩ <;> first | assumption | go_simp) (fun hHeld => ?_)
 refine wpAnyH_take (i := 0) (v := ?_) rfl (by kernel_rfl) (by kernel_rfl) (by kernel_rfl) (fun _ _ _ h => h) (Or.inl ⟨by rfl, ?_⟩) (by assumption) ?_
 rotate_left
 ·(intro w hSw; (try dsimp only at hSw); go_split_ands; go_simp; (try with_reducible rfl))
 (try simp only [Act.put]); (try simp only [O]); (try simp only [List.set_cons_succ]); (try simp only [List.set_cons_zero])
 refine wpAnyH_take (i := 5) (v := ?_) rfl (by kernel_rfl) (by kernel_rfl) (by kernel_rfl) (fun _ _ _ h => h) (Or.inl ⟨by rfl, ?_⟩) (by assumption) ?_
 rotate_left
 ·(intro w hSw; (try dsimp only at hSw); go_split_ands; go_simp; (try with_reducible rfl))
 (try simp only [Act.put]); (try simp only [O]); (try simp only [List.set_cons_succ]); (try simp only [List.set_cons_zero])
 refine wpAnyH_ready (rs := [1, 10]) (by kernel_rfl) (by simp) ?_
 refine AllReadyH.cons rfl (fun K hK => ?_) (AllReadyH.cons rfl (fun K hK => ?_) AllReadyH.nil)
 focus
  go_simp
  refine Calls.mono (HK.out _ (by first | exact BA.out | exact BB.out)) ?_
  rintro e w1 ⟨g, mp, ⟨xr, va, vb⟩, rfl, hmp, hg, hlk, hx, htx, hot, hkp, hsz, hph⟩
  obtain rfl : r = xr := hx.symm
  obtain ⟨A1, c1, ea⟩ := rowN_sliceOf htx.rs
  obtain ⟨A2, c2, eb⟩ := rowN_sliceOf htx.ws
  dsimp only at ea eb
  subst ea eb
  have hs1 : w.heap.size + 2 ≤ w1.heap.size := Nat.le_trans (by simp) hsz
  have y0 : w1.cell? ⟨w.heap.size, 0, none⟩ = some (J U k.1) := (World.cell?_of_block (hkp w.heap.size ⟨Nat.le_refl _, Nat.lt_of_lt_of_le (Nat.lt_add_of_pos_right (by omega)) (show w.heap.size + 2 ≤ _ by simp)⟩)).trans (by go_simp)
  have y1 : w1.cell? ⟨w.heap.size, 1, none⟩ = some (J U k.2) := (World.cell?_of_block (hkp w.heap.size ⟨Nat.le_refl _, Nat.lt_of_lt_of_le (Nat.lt_add_of_pos_right (by omega)) (show w.heap.size + 2 ≤ _ by simp)⟩)).trans (by go_simp)
  have z0 : (w1.alloc (.cells #[J U 0,J U 0,J U 0,J U 0,J U 0,J U 0,J U 0,J U 0,J U 0,J U 0,J U 0,J U 0,J U 0,.slice none 0 0,.slice none 0 0,.bool false,J U 0,J U 0,J U 0,J U 0,J U 0,J U 0,J U 0,J U 0,.bool false] 67)).cell? ⟨w.heap.size, 0, none⟩ = some (J U k.1) := ((below_new (Below.refl _ w1)).cell (p := ⟨w.heap.size, 0, none⟩) (by show w.heap.size < _; omega)).trans y0
  have z1 : (w1.alloc (.cells #[J U 0,J U 0,J U 0,J U 0,J U 0,J U 0,J U 0,J U 0,J U 0,J U 0,J U 0,J U 0,J U 0,.slice none 0 0,.slice none 0 0,.bool false,J U 0,J U 0,J U 0,J U 0,J U 0,J U 0,J U 0,J U 0,.bool false] 67)).cell? ⟨w.heap.size, 1, none⟩ = some (J U k.2) := ((below_new (Below.refl _ w1)).cell (p := ⟨w.heap.size, 1, none⟩) (by show w.heap.size < _; omega)).trans y1
  have zm : (w1.alloc (.cells #[J U 0,J U 0,J U 0,J U 0,J U 0,J U 0,J U 0,J U 0,J U 0,J U 0,J U 0,J U 0,J U 0,.slice none 0 0,.slice none 0 0,.bool false,J U 0,J U 0,J U 0,J U 0,J U 0,J U 0,J U 0,J U 0,.bool false] 67)).cell? ⟨g, 4, none⟩ = some mp := ((below_new (Below.refl _ w1)).cell (p := ⟨g, 4, none⟩) hg).trans hmp
  have hl1 : (Instr.lookup 73 mp (.agg #[J U k.1,J U k.2]) true).run Tryz.prog w1 = .ok (.tuple #[.agg #[J U r.ir,J U r.is,J U r.st,J U r.pn,J U r.pr,J U r.bn,J U r.br,J U r.c.k,J U r.c.tc,J U r.c.tn,J U r.c.tt,J U r.c.tk,J U r.c.sh, (.slice A1 r.c.rs.length c1), (.slice A2 r.c.ws.length c2),.bool r.c.cm,J U r.sq,J U r.d0,J U r.d1,J U r.d2,J U r.d3,J U r.d4,J U r.d5,J U r.d6,.bool r.kp],.bool b]) w1 := hlk w1 (Below.refl _ _)
  have hl2 : (Instr.lookup 73 mp (.agg #[J U k.1,J U k.2]) true).run Tryz.prog (w1.alloc (.cells #[J U 0,J U 0,J U 0,J U 0,J U 0,J U 0,J U 0,J U 0,J U 0,J U 0,J U 0,J U 0,J U 0,.slice none 0 0,.slice none 0 0,.bool false,J U 0,J U 0,J U 0,J U 0,J U 0,J U 0,J U 0,J U 0,.bool false] 67)) = .ok (.tuple #[.agg #[J U r.ir,J U r.is,J U r.st,J U r.pn,J U r.pr,J U r.bn,J U r.br,J U r.c.k,J U r.c.tc,J U r.c.tn,J U r.c.tt,J U r.c.tk,J U r.c.sh, (.slice A1 r.c.rs.length c1), (.slice A2 r.c.ws.length c2),.bool r.c.cm,J U r.sq,J U r.d0,J U r.d1,J U r.d2,J U r.d3,J U r.d4,J U r.d5,J U r.d6,.bool r.kp],.bool b]) (w1.alloc (.cells #[J U 0,J U 0,J U 0,J U 0,J U 0,J U 0,J U 0,J U 0,J U 0,J U 0,J U 0,J U 0,J U 0,.slice none 0 0,.slice none 0 0,.bool false,J U 0,J U 0,J U 0,J U 0,J U 0,J U 0,J U 0,J U 0,.bool false] 67)) := hlk _ (below_new (Below.refl _ _))
  have HTX := V htx
  have HKP := V hkp
  have HPH := V hph
  have HSZ := V hsz
  have HMP := V hg
  have HOT := V hot
  clear htx hkp hph hsz hlk hg hot
  try go_simp
  refine hK.out _ _ (by exact ⟨y0, y1⟩) (fun hHeld => ?_)
  clear hK K
  (try simp only [Act.put]); (try simp only [O]); (try simp only [List.set_cons_succ]); (try simp only [List.set_cons_zero])
  refine wpAnyH_take (i := 2) (v := ?_) rfl (by kernel_rfl) (by kernel_rfl) (by kernel_rfl) (fun _ _ _ h => h) (Or.inl ⟨by rfl, ?_⟩) (by assumption) ?_
  rotate_left
  ·(intro w hSw; (try dsimp only at hSw); go_split_ands; go_simp; (try with_reducible rfl))
  (try simp only [Act.put]); (try simp only [O]); (try simp only [List.set_cons_succ]); (try simp only [List.set_cons_zero])
  refine wpAnyH_take (i := 3) (v := ?_) rfl (by kernel_rfl) (by kernel_rfl) (by kernel_rfl) (fun _ _ _ h => h) (Or.inl ⟨by rfl, ?_⟩) (by assumption) ?_
  rotate_left
  ·(intro w hSw; (try dsimp only at hSw); go_split_ands; go_simp; (try with_reducible rfl))
  (try simp only [Act.put]); (try simp only [O]); (try simp only [List.set_cons_succ]); (try simp only [List.set_cons_zero])
  refine wpAnyH_ready (rs := [4, 10]) (by kernel_rfl) (by simp) ?_
  refine AllReadyH.cons rfl (fun K hK => ?_) (AllReadyH.cons rfl (fun K hK => ?_) AllReadyH.nil)
  focus
   go_simp
   refine hK.out _ _ (by exact ⟨y0, y1⟩) (fun hHeld => ?_)
   clear hK K
   (try simp only [Act.put]); (try simp only [O]); (try simp only [List.set_cons_succ]); (try simp only [List.set_cons_zero])
   refine wpAnyH_ready (rs := [6, 10]) (by kernel_rfl) (by simp) ?_
   refine AllReadyH.cons rfl (fun K hK => ?_) (AllReadyH.cons rfl (fun K hK => ?_) AllReadyH.nil)
   focus
    go_simp
    refine hK.out _ _ (by exact ⟨y0, y1⟩) (fun hHeld => ?_)
    clear hK K
    (try simp only [Act.put]); (try simp only [O]); (try simp only [List.set_cons_succ]); (try simp only [List.set_cons_zero])
    refine wpAnyH_take (i := 7) (v := ?_) rfl (by kernel_rfl) (by kernel_rfl) (by kernel_rfl) (fun _ _ _ h => h) (Or.inl ⟨by rfl, ?_⟩) (by assumption) ?_
    rotate_left
    ·(intro w hSw; (try dsimp only at hSw); go_split_ands; go_simp; (try with_reducible rfl))
    (try simp only [Act.put]); (try simp only [O]); (try simp only [List.set_cons_succ]); (try simp only [List.set_cons_zero])
    refine wpAnyH_take (i := 8) (v := ?_) rfl (by kernel_rfl) (by kernel_rfl) (by kernel_rfl) (fun _ _ _ h => h) (Or.inl ⟨by rfl, ?_⟩) (by assumption) ?_
    rotate_left
    ·(intro w hSw; (try dsimp only at hSw); go_split_ands; go_simp; (try with_reducible rfl))
    (try simp only [Act.put]); (try simp only [O]); (try simp only [List.set_cons_succ]); (try simp only [List.set_cons_zero])
    refine wpAnyH_take (i := 9) (v := ?_) rfl (by kernel_rfl) (by kernel_rfl) (by kernel_rfl) (fun _ _ _ h => h) (Or.inl ⟨by rfl, ?_⟩) (by assumption) ?_
    rotate_left
    ·(intro w hSw; (try dsimp only at hSw); go_split_ands; go_simp; (try with_reducible rfl))
    (try simp only [Act.put]); (try simp only [O]); (try simp only [List.set_cons_succ]); (try simp only [List.set_cons_zero])
    refine wpAnyH_ready (rs := [10]) (by kernel_rfl) (by simp) ?_
    refine AllReadyH.cons rfl (fun K hK => ?_) AllReadyH.nil
    go_simp
    refine hK.out _ _ (by exact ⟨z0, z1⟩) (fun hHeld => ?_)
    clear hK K
    (try simp only [Act.put]); (try simp only [O]); (try simp only [List.set_cons_succ]); (try simp only [List.set_cons_zero])
    refine wpAnyH_ready (rs := [11]) (by kernel_rfl) (by simp) ?_
    refine AllReadyH.cons rfl (fun K hK => ?_) AllReadyH.nil
    have hz : Hold (w1.alloc (.cells #[J U 0,J U 0,J U 0,J U 0,J U 0,J U 0,J U 0,J U 0,J U 0,J U 0,J U 0,J U 0,J U 0,.slice none 0 0,.slice none 0 0,.bool false,J U 0,J U 0,J U 0,J U 0,J U 0,J U 0,J U 0,J U 0,.bool false] 67)) w1.heap.size 67 [J U 0,J U 0,J U 0,J U 0,J U 0,J U 0,J U 0,J U 0,J U 0,J U 0,J U 0,J U 0,J U 0,.slice none 0 0,.slice none 0 0,.bool false,J U 0,J U 0,J U 0,J U 0,J U 0,J U 0,J U 0,J U 0,.bool false] := Wi.Hold.new w1 [J U 0,J U 0,J U 0,J U 0,J U 0,J U 0,J U 0,J U 0,J U 0,J U 0,J U 0,J U 0,J U 0,.slice none 0 0,.slice none 0 0,.bool false,J U 0,J U 0,J U 0,J U 0,J U 0,J U 0,J U 0,J U 0,.bool false] 67
    have hb2 : Below w1.heap.size w1 (w1.alloc (.cells #[J U 0,J U 0,J U 0,J U 0,J U 0,J U 0,J U 0,J U 0,J U 0,J U 0,J U 0,J U 0,J U 0,.slice none 0 0,.slice none 0 0,.bool false,J U 0,J U 0,J U 0,J U 0,J U 0,J U 0,J U 0,J U 0,.bool false] 67)) := below_new (Below.refl _ w1)
    have hzz : Hold w1 (w.heap.size + 1) 67 [J U 0,J U 0,J U 0,J U 0,J U 0,J U 0,J U 0,J U 0,J U 0,J U 0,J U 0,J U 0,J U 0,.slice none 0 0,.slice none 0 0,.bool false,J U 0,J U 0,J U 0,J U 0,J U 0,J U 0,J U 0,J U 0,.bool false] := (HKP.out (w.heap.size + 1) ⟨by omega, by show _ < Array.size _; simp⟩).trans (by first | exact hold_w2 w _ _ | exact hold_w3 w _ _)
    have hs := Wi.Hold.set [J U r.ir,J U r.is,J U r.st,J U r.pn,J U r.pr,J U r.bn,J U r.br,J U r.c.k,J U r.c.tc,J U r.c.tn,J U r.c.tt,J U r.c.tk,J U r.c.sh, (.slice A1 r.c.rs.length c1), (.slice A2 r.c.ws.length c2),.bool r.c.cm,J U r.sq,J U r.d0,J U r.d1,J U r.d2,J U r.d3,J U r.d4,J U r.d5,J U r.d6,.bool r.kp] [] [J U 0,J U 0,J U 0,J U 0,J U 0,J U 0,J U 0,J U 0,J U 0,J U 0,J U 0,J U 0,J U 0,.slice none 0 0,.slice none 0 0,.bool false,J U 0,J U 0,J U 0,J U 0,J U 0,J U 0,J U 0,J U 0,.bool false] [] rfl _ hz
    have HNB := V (show Hold ((w1.alloc (.cells #[J U 0,J U 0,J U 0,J U 0,J U 0,J U 0,J U 0,J U 0,J U 0,J U 0,J U 0,J U 0,J U 0,.slice none 0 0,.slice none 0 0,.bool false,J U 0,J U 0,J U 0,J U 0,J U 0,J U 0,J U 0,J U 0,.bool false] 67)).setCells w1.heap.size 0 [J U r.ir,J U r.is,J U r.st,J U r.pn,J U r.pr,J U r.bn,J U r.br,J U r.c.k,J U r.c.tc,J U r.c.tn,J U r.c.tt,J U r.c.tk,J U r.c.sh, (.slice A1 r.c.rs.length c1), (.slice A2 r.c.ws.length c2),.bool r.c.cm,J U r.sq,J U r.d0,J U r.d1,J U r.d2,J U r.d3,J U r.d4,J U r.d5,J U r.d6,.bool r.kp]) w1.heap.size 67 [J U r.ir,J U r.is,J U r.st,J U r.pn,J U r.pr,J U r.bn,J U r.br,J U r.c.k,J U r.c.tc,J U r.c.tn,J U r.c.tt,J U r.c.tk,J U r.c.sh, (.slice A1 r.c.rs.length c1), (.slice A2 r.c.ws.length c2),.bool r.c.cm,J U r.sq,J U r.d0,J U r.d1,J U r.d2,J U r.d3,J U r.d4,J U r.d5,J U r.d6,.bool r.kp] from hs)
    have KNB := V (setCells_keeps (w1.alloc (.cells #[J U 0,J U 0,J U 0,J U 0,J U 0,J U 0,J U 0,J U 0,J U 0,J U 0,J U 0,J U 0,J U 0,.slice none 0 0,.slice none 0 0,.bool false,J U 0,J U 0,J U 0,J U 0,J U 0,J U 0,J U 0,J U 0,.bool false] 67)) w1.heap.size 0 [J U r.ir,J U r.is,J U r.st,J U r.pn,J U r.pr,J U r.bn,J U r.br,J U r.c.k,J U r.c.tc,J U r.c.tn,J U r.c.tt,J U r.c.tk,J U r.c.sh, (.slice A1 r.c.rs.length c1), (.slice A2 r.c.ws.length c2),.bool r.c.cm,J U r.sq,J U r.d0,J U r.d1,J U r.d2,J U r.d3,J U r.d4,J U r.d5,J U r.d6,.bool r.kp])
    have HB2 := V hb2
    have HZZ := V hzz
    refine step_store rfl 67 _ _ rfl w1.heap.size 0 [J U r.ir,J U r.is,J U r.st,J U r.pn,J U r.pr,J U r.bn,J U r.br,J U r.c.k,J U r.c.tc,J U r.c.tn,J U r.c.tt,J U r.c.tk,J U r.c.sh, (.slice A1 r.c.rs.length c1), (.slice A2 r.c.ws.length c2),.bool r.c.cm,J U r.sq,J U r.d0,J U r.d1,J U r.d2,J U r.d3,J U r.d4,J U r.d5,J U r.d6,.bool r.kp] rfl rfl (hz.there (by simp)) (by kernel_rfl) (by kernel_rfl) ?_
    have u0 : ((w1.alloc (.cells #[J U 0,J U 0,J U 0,J U 0,J U 0,J U 0,J U 0,J U 0,J U 0,J U 0,J U 0,J U 0,J U 0,.slice none 0 0,.slice none 0 0,.bool false,J U 0,J U 0,J U 0,J U 0,J U 0,J U 0,J U 0,J U 0,.bool false] 67)).setCells w1.heap.size 0 [J U r.ir,J U r.is,J U r.st,J U r.pn,J U r.pr,J U r.bn,J U r.br,J U r.c.k,J U r.c.tc,J U r.c.tn,J U r.c.tt,J U r.c.tk,J U r.c.sh, (.slice A1 r.c.rs.length c1), (.slice A2 r.c.ws.length c2),.bool r.c.cm,J U r.sq,J U r.d0,J U r.d1,J U r.d2,J U r.d3,J U r.d4,J U r.d5,J U r.d6,.bool r.kp]).cell? ⟨w.heap.size, 0, none⟩ = some (J U k.1) := (KNB.out.cell (p := ⟨w.heap.size, 0, none⟩) (Nat.lt_of_lt_of_le (by show w.heap.size < w1.heap.size; omega) hb2.size) (by show ¬ w.heap.size = w1.heap.size; omega)).trans z0
    have u1 : ((w1.alloc (.cells #[J U 0,J U 0,J U 0,J U 0,J U 0,J U 0,J U 0,J U 0,J U 0,J U 0,J U 0,J U 0,J U 0,.slice none 0 0,.slice none 0 0,.bool false,J U 0,J U 0,J U 0,J U 0,J U 0,J U 0,J U 0,J U 0,.bool false] 67)).setCells w1.heap.size 0 [J U r.ir,J U r.is,J U r.st,J U r.pn,J U r.pr,J U r.bn,J U r.br,J U r.c.k,J U r.c.tc,J U r.c.tn,J U r.c.tt,J U r.c.tk,J U r.c.sh, (.slice A1 r.c.rs.length c1), (.slice A2 r.c.ws.length c2),.bool r.c.cm,J U r.sq,J U r.d0,J U r.d1,J U r.d2,J U r.d3,J U r.d4,J U r.d5,J U r.d6,.bool r.kp]).cell? ⟨w.heap.size, 1, none⟩ = some (J U k.2) := (KNB.out.cell (p := ⟨w.heap.size, 1, none⟩) (Nat.lt_of_lt_of_le (by show w.heap.size < w1.heap.size; omega) hb2.size) (by show ¬ w.heap.size = w1.heap.size; omega)).trans z1
    clear hz hb2 hzz hs
    refine hK.out _ _ (by exact ⟨u0, u1⟩) (fun hHeld => ?_)
    clear hK K
    (try simp only [Act.put]); (try simp only [O]); (try simp only [List.set_cons_succ]); (try simp only [List.set_cons_zero])
    refine wpAnyH_ready (rs := [12]) (by kernel_rfl) (by simp) ?_
    refine AllReadyH.cons rfl (fun K hK => ?_) AllReadyH.nil
    go_simp
    refine hK.out _ _ (by exact ⟨u0, u1⟩) (fun hHeld => ?_)
    clear hK K
    (try simp only [Act.put]); (try simp only [O]); (try simp only [List.set_cons_succ]); (try simp only [List.set_cons_zero])
    refine wpAnyH_done (by kernel_rfl) ?_ _
    have KW := V (show Keeps (Bet w ((w.alloc (.cells #[J U k.1,J U k.2] 53)).alloc (.cells #[J U 0,J U 0,J U 0,J U 0,J U 0,J U 0,J U 0,J U 0,J U 0,J U 0,J U 0,J U 0,J U 0,.slice none 0 0,.slice none 0 0,.bool false,J U 0,J U 0,J U 0,J U 0,J U 0,J U 0,J U 0,J U 0,.bool false] 67)).drew) w1 ((w1.alloc (.cells #[J U 0,J U 0,J U 0,J U 0,J U 0,J U 0,J U 0,J U 0,J U 0,J U 0,J U 0,J U 0,J U 0,.slice none 0 0,.slice none 0 0,.bool false,J U 0,J U 0,J U 0,J U 0,J U 0,J U 0,J U 0,J U 0,.bool false] 67)).setCells w1.heap.size 0 [J U r.ir,J U r.is,J U r.st,J U r.pn,J U r.pr,J U r.bn,J U r.br,J U r.c.k,J U r.c.tc,J U r.c.tn,J U r.c.tt,J U r.c.tk,J U r.c.sh, (.slice A1 r.c.rs.length c1), (.slice A2 r.c.ws.length c2),.bool r.c.cm,J U r.sq,J U r.d0,J U r.d1,J U r.d2,J U r.d3,J U r.d4,J U r.d5,J U r.d6,.bool r.kp]) from (Keeps.of_below HB2.out).trans KNB.out (fun x hx e => absurd hx (by omega)))
    exact KEY.out ((w.alloc (.cells #[J U k.1,J U k.2] 53)).alloc (.cells #[J U 0,J U 0,J U 0,J U 0,J U 0,J U 0,J U 0,J U 0,J U 0,J U 0,J U 0,J U 0,J U 0,.slice none 0 0,.slice none 0 0,.bool false,J U 0,J U 0,J U 0,J U 0,J U 0,J U 0,J U 0,J U 0,.bool false] 67)).drew ((w1.alloc (.cells #[J U 0,J U 0,J U 0,J U 0,J U 0,J U 0,J U 0,J U 0,J U 0,J U 0,J U 0,J U 0,J U 0,.slice none 0 0,.slice none 0 0,.bool false,J U 0,J U 0,J U 0,J U 0,J U 0,J U 0,J U 0,J U 0,.bool false] 67)).setCells w1.heap.size 0 [J U r.ir,J U r.is,J U r.st,J U r.pn,J U r.pr,J U r.bn,J U r.br,J U r.c.k,J U r.c.tc,J U r.c.tn,J U r.c.tt,J U r.c.tk,J U r.c.sh, (.slice A1 r.c.rs.length c1), (.slice A2 r.c.ws.length c2),.bool r.c.cm,J U r.sq,J U r.d0,J U r.d1,J U r.d2,J U r.d3,J U r.d4,J U r.d5,J U r.d6,.bool r.kp]) w1.heap.size g mp A1 A2 c1 c2 (by show _ ≤ Array.size _; simp) (Nat.le_trans HSZ.out KW.out.size) HNB (V (hold_keeps (HZZ.out.on HB2.out) KNB.out (by omega))) (V (txt_keeps HTX.out KW.out HOT.out)) (V (HP.out _ _ _ HPH.out KW.out))
   rotate_left
   focus
    go_simp
    refine hK.out _ _ (by exact ⟨z0, z1⟩) (fun hHeld => ?_)
    clear hK K
    (try simp only [Act.put]); (try simp only [O]); (try simp only [List.set_cons_succ]); (try simp only [List.set_cons_zero])
    refine wpAnyH_ready (rs := [6]) (by kernel_rfl) (by simp) ?_
    refine AllReadyH.cons rfl (fun K hK => ?_) AllReadyH.nil
    go_simp
    refine hK.out _ _ (by exact ⟨z0, z1⟩) (fun hHeld => ?_)
    clear hK K
    (try simp only [Act.put]); (try simp only [O]); (try simp only [List.set_cons_succ]); (try simp only [List.set_cons_zero])
    refine wpAnyH_take (i := 7) (v := ?_) rfl (by kernel_rfl) (by kernel_rfl) (by kernel_rfl) (fun _ _ _ h => h) (Or.inl ⟨by rfl, ?_⟩) (by assumption) ?_
    rotate_left
    ·(intro w hSw; (try dsimp only at hSw); go_split_ands; go_simp; (try with_reducible rfl))
    (try simp only [Act.put]); (try simp only [O]); (try simp only [List.set_cons_succ]); (try simp only [List.set_cons_zero])
    refine wpAnyH_take (i := 8) (v := ?_) rfl (by kernel_rfl) (by kernel_rfl) (by kernel_rfl) (fun _ _ _ h => h) (Or.inl ⟨by rfl, ?_⟩) (by assumption) ?_
    rotate_left
    ·(intro w hSw; (try dsimp only at hSw); go_split_ands; go_simp; (try with_reducible rfl))
    (try simp only [Act.put]); (try simp only [O]); (try simp only [List.set_cons_succ]); (try simp only [List.set_cons_zero])
    refine wpAnyH_take (i := 9) (v := ?_) rfl (by kernel_rfl) (by kernel_rfl) (by kernel_rfl) (fun _ _ _ h => h) (Or.inl ⟨by rfl, ?_⟩) (by assumption) ?_
    rotate_left
    ·(intro w hSw; (try dsimp only at hSw); go_split_ands; go_simp; (try with_reducible rfl))
    (try simp only [Act.put]); (try simp only [O]); (try simp only [List.set_cons_succ]); (try simp only [List.set_cons_zero])
    refine wpAnyH_ready (rs := [11]) (by kernel_rfl) (by simp) ?_
    refine AllReadyH.cons rfl (fun K hK => ?_) AllReadyH.nil
    have hz : Hold (w1.alloc (.cells #[J U 0,J U 0,J U 0,J U 0,J U 0,J U 0,J U 0,J U 0,J U 0,J U 0,J U 0,J U 0,J U 0,.slice none 0 0,.slice none 0 0,.bool false,J U 0,J U 0,J U 0,J U 0,J U 0,J U 0,J U 0,J U 0,.bool false] 67)) w1.heap.size 67 [J U 0,J U 0,J U 0,J U 0,J U 0,J U 0,J U 0,J U 0,J U 0,J U 0,J U 0,J U 0,J U 0,.slice none 0 0,.slice none 0 0,.bool false,J U 0,J U 0,J U 0,J U 0,J U 0,J U 0,J U 0,J U 0,.bool false] := Wi.Hold.new w1 [J U 0,J U 0,J U 0,J U 0,J U 0,J U 0,J U 0,J U 0,J U 0,J U 0,J U 0,J U 0,J U 0,.slice none 0 0,.slice none 0 0,.bool false,J U 0,J U 0,J U 0,J U 0,J U 0,J U 0,J U 0,J U 0,.bool false] 67
    have hb2 : Below w1.heap.size w1 (w1.alloc (.cells #[J U 0,J U 0,J U 0,J U 0,J U 0,J U 0,J U 0,J U 0,J U 0,J U 0,J U 0,J U 0,J U 0,.slice none 0 0,.slice none 0 0,.bool false,J U 0,J U 0,J U 0,J U 0,J U 0,J U 0,J U 0,J U 0,.bool false] 67)) := below_new (Below.refl _ w1)
    have hzz : Hold w1 (w.heap.size + 1) 67 [J U 0,J U 0,J U 0,J U 0,J U 0,J U 0,J U 0,J U 0,J U 0,J U 0,J U 0,J U 0,J U 0,.slice none 0 0,.slice none 0 0,.bool false,J U 0,J U 0,J U 0,J U 0,J U 0,J U 0,J U 0,J U 0,.bool false] := (HKP.out (w.heap.size + 1) ⟨by omega, by show _ < Array.size _; simp⟩).trans (by first | exact hold_w2 w _ _ | exact hold_w3 w _ _)
    have hs := Wi.Hold.set [J U r.ir,J U r.is,J U r.st,J U r.pn,J U r.pr,J U r.bn,J U r.br,J U r.c.k,J U r.c.tc,J U r.c.tn,J U r.c.tt,J U r.c.tk,J U r.c.sh, (.slice A1 r.c.rs.length c1), (.slice A2 r.c.ws.length c2),.bool r.c.cm,J U r.sq,J U r.d0,J U r.d1,J U r.d2,J U r.d3,J U r.d4,J U r.d5,J U r.d6,.bool r.kp] [] [J U 0,J U 0,J U 0,J U 0,J U 0,J U 0,J U 0,J U 0,J U 0,J U 0,J U 0,J U 0,J U 0,.slice none 0 0,.slice none 0 0,.bool false,J U 0,J U 0,J U 0,J U 0,J U 0,J U 0,J U 0,J U 0,.bool false] [] rfl _ hz
    have HNB := V (show Hold ((w1.alloc (.cells #[J U 0,J U 0,J U 0,J U 0,J U 0,J U 0,J U 0,J U 0,J U 0,J U 0,J U 0,J U 0,J U 0,.slice none 0 0,.slice none 0 0,.bool false,J U 0,J U 0,J U 0,J U 0,J U 0,J U 0,J U 0,J U 0,.bool false] 67)).setCells w1.heap.size 0 [J U r.ir,J U r.is,J U r.st,J U r.pn,J U r.pr,J U r.bn,J U r.br,J U r.c.k,J U r.c.tc,J U r.c.tn,J U r.c.tt,J U r.c.tk,J U r.c.sh, (.slice A1 r.c.rs.length c1), (.slice A2 r.c.ws.length c2),.bool r.c.cm,J U r.sq,J U r.d0,J U r.d1,J U r.d2,J U r.d3,J U r.d4,J U r.d5,J U r.d6,.bool r.kp]) w1.heap.size 67 [J U r.ir,J U r.is,J U r.st,J U r.pn,J U r.pr,J U r.bn,J U r.br,J U r.c.k,J U r.c.tc,J U r.c.tn,J U r.c.tt,J U r.c.tk,J U r.c.sh, (.slice A1 r.c.rs.length c1), (.slice A2 r.c.ws.length c2),.bool r.c.cm,J U r.sq,J U r.d0,J U r.d1,J U r.d2,J U r.d3,J U r.d4,J U r.d5,J U r.d6,.bool r.kp] from hs)
    have KNB := V (setCells_keeps (w1.alloc (.cells #[J U 0,J U 0,J U 0,J U 0,J U 0,J U 0,J U 0,J U 0,J U 0,J U 0,J U 0,J U 0,J U 0,.slice none 0 0,.slice none 0 0,.bool false,J U 0,J U 0,J U 0,J U 0,J U 0,J U 0,J U 0,J U 0,.bool false] 67)) w1.heap.size 0 [J U r.ir,J U r.is,J U r.st,J U r.pn,J U r.pr,J U r.bn,J U r.br,J U r.c.k,J U r.c.tc,J U r.c.tn,J U r.c.tt,J U r.c.tk,J U r.c.sh, (.slice A1 r.c.rs.length c1), (.slice A2 r.c.ws.length c2),.bool r.c.cm,J U r.sq,J U r.d0,J U r.d1,J U r.d2,J U r.d3,J U r.d4,J U r.d5,J U r.d6,.bool r.kp])
    have HB2 := V hb2
    have HZZ := V hzz
    refine step_store rfl 67 _ _ rfl w1.heap.size 0 [J U r.ir,J U r.is,J U r.st,J U r.pn,J U r.pr,J U r.bn,J U r.br,J U r.c.k,J U r.c.tc,J U r.c.tn,J U r.c.tt,J U r.c.tk,J U r.c.sh, (.slice A1 r.c.rs.length c1), (.slice A2 r.c.ws.length c2),.bool r.c.cm,J U r.sq,J U r.d0,J U r.d1,J U r.d2,J U r.d3,J U r.d4,J U r.d5,J U r.d6,.bool r.kp] rfl rfl (hz.there (by simp)) (by kernel_rfl) (by kernel_rfl) ?_
    have u0 : ((w1.alloc (.cells #[J U 0,J U 0,J U 0,J U 0,J U 0,J U 0,J U 0,J U 0,J U 0,J U 0,J U 0,J U 0,J U 0,.slice none 0 0,.slice none 0 0,.bool false,J U 0,J U 0,J U 0,J U 0,J U 0,J U 0,J U 0,J U 0,.bool false] 67)).setCells w1.heap.size 0 [J U r.ir,J U r.is,J U r.st,J U r.pn,J U r.pr,J U r.bn,J U r.br,J U r.c.k,J U r.c.tc,J U r.c.tn,J U r.c.tt,J U r.c.tk,J U r.c.sh, (.slice A1 r.c.rs.length c1), (.slice A2 r.c.ws.length c2),.bool r.c.cm,J U r.sq,J U r.d0,J U r.d1,J U r.d2,J U r.d3,J U r.d4,J U r.d5,J U r.d6,.bool r.kp]).cell? ⟨w.heap.size, 0, none⟩ = some (J U k.1) := (KNB.out.cell (p := ⟨w.heap.size, 0, none⟩) (Nat.lt_of_lt_of_le (by show w.heap.size < w1.heap.size; omega) hb2.size) (by show ¬ w.heap.size = w1.heap.size; omega)).trans z0
    have u1 : ((w1.alloc (.cells #[J U 0,J U 0,J U 0,J U 0,J U 0,J U 0,J U 0,J U 0,J U 0,J U 0,J U 0,J U 0,J U 0,.slice none 0 0,.slice none 0 0,.bool false,J U 0,J U 0,J U 0,J U 0,J U 0,J U 0,J U 0,J U 0,.bool false] 67)).setCells w1.heap.size 0 [J U r.ir,J U r.is,J U r.st,J U r.pn,J U r.pr,J U r.bn,J U r.br,J U r.c.k,J U r.c.tc,J U r.c.tn,J U r.c.tt,J U r.c.tk,J U r.c.sh, (.slice A1 r.c.rs.length c1), (.slice A2 r.c.ws.length c2),.bool r.c.cm,J U r.sq,J U r.d0,J U r.d1,J U r.d2,J U r.d3,J U r.d4,J U r.d5,J U r.d6,.bool r.kp]).cell? ⟨w.heap.size, 1, none⟩ = some (J U k.2) := (KNB.out.cell (p := ⟨w.heap.size, 1, none⟩) (Nat.lt_of_lt_of_le (by show w.heap.size < w1.heap.size; omega) hb2.size) (by show ¬ w.heap.size = w1.heap.size; omega)).trans z1
    clear hz hb2 hzz hs
    refine hK.out _ _ (by exact ⟨u0, u1⟩) (fun hHeld => ?_)
    clear hK K
    (try simp only [Act.put]); (try simp only [O]); (try simp only [List.set_cons_succ]); (try simp only [List.set_cons_zero])
    refine wpAnyH_ready (rs := [12]) (by kernel_rfl) (by simp) ?_
    refine AllReadyH.cons rfl (fun K hK => ?_) AllReadyH.nil
    go_simp
    refine hK.out _ _ (by exact ⟨u0, u1⟩) (fun hHeld => ?_)
    clear hK K
    (try simp only [Act.put]); (try simp only [O]); (try simp only [List.set_cons_succ]); (try simp only [List.set_cons_zero])
    refine wpAnyH_done (by kernel_rfl) ?_ _
    have KW := V (show Keeps (Bet w ((w.alloc (.cells #[J U k.1,J U k.2] 53)).alloc (.cells #[J U 0,J U 0,J U 0,J U 0,J U 0,J U 0,J U 0,J U 0,J U 0,J U 0,J U 0,J U 0,J U 0,.slice none 0 0,.slice none 0 0,.bool false,J U 0,J U 0,J U 0,J U 0,J U 0,J U 0,J U 0,J U 0,.bool false] 67)).drew) w1 ((w1.alloc (.cells #[J U 0,J U 0,J U 0,J U 0,J U 0,J U 0,J U 0,J U 0,J U 0,J U 0,J U 0,J U 0,J U 0,.slice none 0 0,.slice none 0 0,.bool false,J U 0,J U 0,J U 0,J U 0,J U 0,J U 0,J U 0,J U 0,.bool false] 67)).setCells w1.heap.size 0 [J U r.ir,J U r.is,J U r.st,J U r.pn,J U r.pr,J U r.bn,J U r.br,J U r.c.k,J U r.c.tc,J U r.c.tn,J U r.c.tt,J U r.c.tk,J U r.c.sh, (.slice A1 r.c.rs.length c1), (.slice A2 r.c.ws.length c2),.bool r.c.cm,J U r.sq,J U r.d0,J U r.d1,J U r.d2,J U r.d3,J U r.d4,J U r.d5,J U r.d6,.bool r.kp]) from (Keeps.of_below HB2.out).trans KNB.out (fun x hx e => absurd hx (by omega)))
    exact KEY.out ((w.alloc (.cells #[J U k.1,J U k.2] 53)).alloc (.cells #[J U 0,J U 0,J U 0,J U 0,J U 0,J U 0,J U 0,J U 0,J U 0,J U 0,J U 0,J U 0,J U 0,.slice none 0 0,.slice none 0 0,.bool false,J U 0,J U 0,J U 0,J U 0,J U 0,J U 0,J U 0,J U 0,.bool false] 67)).drew ((w1.alloc (.cells #[J U 0,J U 0,J U 0,J U 0,J U 0,J U 0,J U 0,J U 0,J U 0,J U 0,J U 0,J U 0,J U 0,.slice none 0 0,.slice none 0 0,.bool false,J U 0,J U 0,J U 0,J U 0,J U 0,J U 0,J U 0,J U 0,.bool false] 67)).setCells w1.heap.size 0 [J U r.ir,J U r.is,J U r.st,J U r.pn,J U r.pr,J U r.bn,J U r.br,J U r.c.k,J U r.c.tc,J U r.c.tn,J U r.c.tt,J U r.c.tk,J U r.c.sh, (.slice A1 r.c.rs.length c1), (.slice A2 r.c.ws.length c2),.bool r.c.cm,J U r.sq,J U r.d0,J U r.d1,J U r.d2,J U r.d3,J U r.d4,J U r.d5,J U r.d6,.bool r.kp]) w1.heap.size g mp A1 A2 c1 c2 (by show _ ≤ Array.size _; simp) (Nat.le_trans HSZ.out KW.out.size) HNB (V (hold_keeps (HZZ.out.on HB2.out) KNB.out (by omega))) (V (txt_keeps HTX.out KW.out HOT.out)) (V (HP.out _ _ _ HPH.out KW.out))
  rotate_left
  focus
   go_simp
   refine hK.out _ _ (by exact ⟨z0, z1⟩) (fun hHeld => ?_)
   clear hK K
   (try simp only [Act.put]); (try simp only [O]); (try simp only [List.set_cons_succ]); (try simp only [List.set_cons_zero])
   refine wpAnyH_ready (rs := [4]) (by kernel_rfl) (by simp) ?_
   refine AllReadyH.cons rfl (fun K hK => ?_) AllReadyH.nil
   go_simp
   refine hK.out _ _ (by exact ⟨z0, z1⟩) (fun hHeld => ?_)
   clear hK K
   (try simp only [Act.put]); (try simp only [O]); (try simp only [List.set_cons_succ]); (try simp only [List.set_cons_zero])
   refine wpAnyH_ready (rs := [6]) (by kernel_rfl) (by simp) ?_
   refine AllReadyH.cons rfl (fun K hK => ?_) AllReadyH.nil
   go_simp
   refine hK.out _ _ (by exact ⟨z0, z1⟩) (fun hHeld => ?_)
   clear hK K
   (try simp only [Act.put]); (try simp only [O]); (try simp only [List.set_cons_succ]); (try simp only [List.set_cons_zero])
   refine wpAnyH_take (i := 7) (v := ?_) rfl (by kernel_rfl) (by kernel_rfl) (by kernel_rfl) (fun _ _ _ h => h) (Or.inl ⟨by rfl, ?_⟩) (by assumption) ?_
   rotate_left
   ·(intro w hSw; (try dsimp only at hSw); go_split_ands; go_simp; (try with_reducible rfl))
   (try simp only [Act.put]); (try simp only [O]); (try simp only [List.set_cons_succ]); (try simp only [List.set_cons_zero])
   refine wpAnyH_take (i := 8) (v := ?_) rfl (by kernel_rfl) (by kernel_rfl) (by kernel_rfl) (fun _ _ _ h => h) (Or.inl ⟨by rfl, ?_⟩) (by assumption) ?_
   rotate_left
   ·(intro w hSw; (try dsimp only at hSw); go_split_ands; go_simp; (try with_reducible rfl))
   (try simp only [Act.put]); (try simp only [O]); (try simp only [List.set_cons_succ]); (try simp only [List.set_cons_zero])
   refine wpAnyH_take (i := 9) (v := ?_) rfl (by kernel_rfl) (by kernel_rfl) (by kernel_rfl) (fun _ _ _ h => h) (Or.inl ⟨by rfl, ?_⟩) (by assumption) ?_
   rotate_left
   ·(intro w hSw; (try dsimp only at hSw); go_split_ands; go_simp; (try with_reducible rfl))
   (try simp only [Act.put]); (try simp only [O]); (try simp only [List.set_cons_succ]); (try simp only [List.set_cons_zero])
   refine wpAnyH_ready (rs := [11]) (by kernel_rfl) (by simp) ?_
   refine AllReadyH.cons rfl (fun K hK => ?_) AllReadyH.nil
   have hz : Hold (w1.alloc (.cells #[J U 0,J U 0,J U 0,J U 0,J U 0,J U 0,J U 0,J U 0,J U 0,J U 0,J U 0,J U 0,J U 0,.slice none 0 0,.slice none 0 0,.bool false,J U 0,J U 0,J U 0,J U 0,J U 0,J U 0,J U 0,J U 0,.bool false] 67)) w1.heap.size 67 [J U 0,J U 0,J U 0,J U 0,J U 0,J U 0,J U 0,J U 0,J U 0,J U 0,J U 0,J U 0,J U 0,.slice none 0 0,.slice none 0 0,.bool false,J U 0,J U 0,J U 0,J U 0,J U 0,J U 0,J U 0,J U 0,.bool false] := Wi.Hold.new w1 [J U 0,J U 0,J U 0,J U 0,J U 0,J U 0,J U 0,J U 0,J U 0,J U 0,J U 0,J U 0,J U 0,.slice none 0 0,.slice none 0 0,.bool false,J U 0,J U 0,J U 0,J U 0,J U 0,J U 0,J U 0,J U 0,.bool false] 67
   have hb2 : Below w1.heap.size w1 (w1.alloc (.cells #[J U 0,J U 0,J U 0,J U 0,J U 0,J U 0,J U 0,J U 0,J U 0,J U 0,J U 0,J U 0,J U 0,.slice none 0 0,.slice none 0 0,.bool false,J U 0,J U 0,J U 0,J U 0,J U 0,J U 0,J U 0,J U 0,.bool false] 67)) := below_new (Below.refl _ w1)
   have hzz : Hold w1 (w.heap.size + 1) 67 [J U 0,J U 0,J U 0,J U 0,J U 0,J U 0,J U 0,J U 0,J U 0,J U 0,J U 0,J U 0,J U 0,.slice none 0 0,.slice none 0 0,.bool false,J U 0,J U 0,J U 0,J U 0,J U 0,J U 0,J U 0,J U 0,.bool false] := (HKP.out (w.heap.size + 1) ⟨by omega, by show _ < Array.size _; simp⟩).trans (by first | exact hold_w2 w _ _ | exact hold_w3 w _ _)
   have hs := Wi.Hold.set [J U r.ir,J U r.is,J U r.st,J U r.pn,J U r.pr,J U r.bn,J U r.br,J U r.c.k,J U r.c.tc,J U r.c.tn,J U r.c.tt,J U r.c.tk,J U r.c.sh, (.slice A1 r.c.rs.length c1), (.slice A2 r.c.ws.length c2),.bool r.c.cm,J U r.sq,J U r.d0,J U r.d1,J U r.d2,J U r.d3,J U r.d4,J U r.d5,J U r.d6,.bool r.kp] [] [J U 0,J U 0,J U 0,J U 0,J U 0,J U 0,J U 0,J U 0,J U 0,J U 0,J U 0,J U 0,J U 0,.slice none 0 0,.slice none 0 0,.bool false,J U 0,J U 0,J U 0,J U 0,J U 0,J U 0,J U 0,J U 0,.bool false] [] rfl _ hz
   have HNB := V (show Hold ((w1.alloc (.cells #[J U 0,J U 0,J U 0,J U 0,J U 0,J U 0,J U 0,J U 0,J U 0,J U 0,J U 0,J U 0,J U 0,.slice none 0 0,.slice none 0 0,.bool false,J U 0,J U 0,J U 0,J U 0,J U 0,J U 0,J U 0,J U 0,.bool false] 67)).setCells w1.heap.size 0 [J U r.ir,J U r.is,J U r.st,J U r.pn,J U r.pr,J U r.bn,J U r.br,J U r.c.k,J U r.c.tc,J U r.c.tn,J U r.c.tt,J U r.c.tk,J U r.c.sh, (.slice A1 r.c.rs.length c1), (.slice A2 r.c.ws.length c2),.bool r.c.cm,J U r.sq,J U r.d0,J U r.d1,J U r.d2,J U r.d3,J U r.d4,J U r.d5,J U r.d6,.bool r.kp]) w1.heap.size 67 [J U r.ir,J U r.is,J U r.st,J U r.pn,J U r.pr,J U r.bn,J U r.br,J U r.c.k,J U r.c.tc,J U r.c.tn,J U r.c.tt,J U r.c.tk,J U r.c.sh, (.slice A1 r.c.rs.length c1), (.slice A2 r.c.ws.length c2),.bool r.c.cm,J U r.sq,J U r.d0,J U r.d1,J U r.d2,J U r.d3,J U r.d4,J U r.d5,J U r.d6,.bool r.kp] from hs)
   have KNB := V (setCells_keeps (w1.alloc (.cells #[J U 0,J U 0,J U 0,J U 0,J U 0,J U 0,J U 0,J U 0,J U 0,J U 0,J U 0,J U 0,J U 0,.slice none 0 0,.slice none 0 0,.bool false,J U 0,J U 0,J U 0,J U 0,J U 0,J U 0,J U 0,J U 0,.bool false] 67)) w1.heap.size 0 [J U r.ir,J U r.is,J U r.st,J U r.pn,J U r.pr,J U r.bn,J U r.br,J U r.c.k,J U r.c.tc,J U r.c.tn,J U r.c.tt,J U r.c.tk,J U r.c.sh, (.slice A1 r.c.rs.length c1), (.slice A2 r.c.ws.length c2),.bool r.c.cm,J U r.sq,J U r.d0,J U r.d1,J U r.d2,J U r.d3,J U r.d4,J U r.d5,J U r.d6,.bool r.kp])
   have HB2 := V hb2
   have HZZ := V hzz
   refine step_store rfl 67 _ _ rfl w1.heap.size 0 [J U r.ir,J U r.is,J U r.st,J U r.pn,J U r.pr,J U r.bn,J U r.br,J U r.c.k,J U r.c.tc,J U r.c.tn,J U r.c.tt,J U r.c.tk,J U r.c.sh, (.slice A1 r.c.rs.length c1), (.slice A2 r.c.ws.length c2),.bool r.c.cm,J U r.sq,J U r.d0,J U r.d1,J U r.d2,J U r.d3,J U r.d4,J U r.d5,J U r.d6,.bool r.kp] rfl rfl (hz.there (by simp)) (by kernel_rfl) (by kernel_rfl) ?_
   have u0 : ((w1.alloc (.cells #[J U 0,J U 0,J U 0,J U 0,J U 0,J U 0,J U 0,J U 0,J U 0,J U 0,J U 0,J U 0,J U 0,.slice none 0 0,.slice none 0 0,.bool false,J U 0,J U 0,J U 0,J U 0,J U 0,J U 0,J U 0,J U 0,.bool false] 67)).setCells w1.heap.size 0 [J U r.ir,J U r.is,J U r.st,J U r.pn,J U r.pr,J U r.bn,J U r.br,J U r.c.k,J U r.c.tc,J U r.c.tn,J U r.c.tt,J U r.c.tk,J U r.c.sh, (.slice A1 r.c.rs.length c1), (.slice A2 r.c.ws.length c2),.bool r.c.cm,J U r.sq,J U r.d0,J U r.d1,J U r.d2,J U r.d3,J U r.d4,J U r.d5,J U r.d6,.bool r.kp]).cell? ⟨w.heap.size, 0, none⟩ = some (J U k.1) := (KNB.out.cell (p := ⟨w.heap.size, 0, none⟩) (Nat.lt_of_lt_of_le (by show w.heap.size < w1.heap.size; omega) hb2.size) (by show ¬ w.heap.size = w1.heap.size; omega)).trans z0
   have u1 : ((w1.alloc (.cells #[J U 0,J U 0,J U 0,J U 0,J U 0,J U 0,J U 0,J U 0,J U 0,J U 0,J U 0,J U 0,J U 0,.slice none 0 0,.slice none 0 0,.bool false,J U 0,J U 0,J U 0,J U 0,J U 0,J U 0,J U 0,J U 0,.bool false] 67)).setCells w1.heap.size 0 [J U r.ir,J U r.is,J U r.st,J U r.pn,J U r.pr,J U r.bn,J U r.br,J U r.c.k,J U r.c.tc,J U r.c.tn,J U r.c.tt,J U r.c.tk,J U r.c.sh, (.slice A1 r.c.rs.length c1), (.slice A2 r.c.ws.length c2),.bool r.c.cm,J U r.sq,J U r.d0,J U r.d1,J U r.d2,J U r.d3,J U r.d4,J U r.d5,J U r.d6,.bool r.kp]).cell? ⟨w.heap.size, 1, none⟩ = some (J U k.2) := (KNB.out.cell (p := ⟨w.heap.size, 1, none⟩) (Nat.lt_of_lt_of_le (by show w.heap.size < w1.heap.size; omega) hb2.size) (by show ¬ w.heap.size = w1.heap.size; omega)).trans z1
   clear hz hb2 hzz hs
   refine hK.out _ _ (by exact ⟨u0, u1⟩) (fun hHeld => ?_)
   clear hK K
   (try simp only [Act.put]); (try simp only [O]); (try simp only [List.set_cons_succ]); (try simp only [List.set_cons_zero])
   refine wpAnyH_ready (rs := [12]) (by kernel_rfl) (by simp) ?_
   refine AllReadyH.cons rfl (fun K hK => ?_) AllReadyH.nil
   go_simp
   refine hK.out _ _ (by exact ⟨u0, u1⟩) (fun hHeld => ?_)
   clear hK K
   (try simp only [Act.put]); (try simp only [O]); (try simp only [List.set_cons_succ]); (try simp only [List.set_cons_zero])
   refine wpAnyH_done (by kernel_rfl) ?_ _
   have KW := V (show Keeps (Bet w ((w.alloc (.cells #[J U k.1,J U k.2] 53)).alloc (.cells #[J U 0,J U 0,J U 0,J U 0,J U 0,J U 0,J U 0,J U 0,J U 0,J U 0,J U 0,J U 0,J U 0,.slice none 0 0,.slice none 0 0,.bool false,J U 0,J U 0,J U 0,J U 0,J U 0,J U 0,J U 0,J U 0,.bool false] 67)).drew) w1 ((w1.alloc (.cells #[J U 0,J U 0,J U 0,J U 0,J U 0,J U 0,J U 0,J U 0,J U 0,J U 0,J U 0,J U 0,J U 0,.slice none 0 0,.slice none 0 0,.bool false,J U 0,J U 0,J U 0,J U 0,J U 0,J U 0,J U 0,J U 0,.bool false] 67)).setCells w1.heap.size 0 [J U r.ir,J U r.is,J U r.st,J U r.pn,J U r.pr,J U r.bn,J U r.br,J U r.c.k,J U r.c.tc,J U r.c.tn,J U r.c.tt,J U r.c.tk,J U r.c.sh, (.slice A1 r.c.rs.length c1), (.slice A2 r.c.ws.length c2),.bool r.c.cm,J U r.sq,J U r.d0,J U r.d1,J U r.d2,J U r.d3,J U r.d4,J U r.d5,J U r.d6,.bool r.kp]) from (Keeps.of_below HB2.out).trans KNB.out (fun x hx e => absurd hx (by omega)))
   exact KEY.out ((w.alloc (.cells #[J U k.1,J U k.2] 53)).alloc (.cells #[J U 0,J U 0,J U 0,J U 0,J U 0,J U 0,J U 0,J U 0,J U 0,J U 0,J U 0,J U 0,J U 0,.slice none 0 0,.slice none 0 0,.bool false,J U 0,J U 0,J U 0,J U 0,J U 0,J U 0,J U 0,J U 0,.bool false] 67)).drew ((w1.alloc (.cells #[J U 0,J U 0,J U 0,J U 0,J U 0,J U 0,J U 0,J U 0,J U 0,J U 0,J U 0,J U 0,J U 0,.slice none 0 0,.slice none 0 0,.bool false,J U 0,J U 0,J U 0,J U 0,J U 0,J U 0,J U 0,J U 0,.bool false] 67)).setCells w1.heap.size 0 [J U r.ir,J U r.is,J U r.st,J U r.pn,J U r.pr,J U r.bn,J U r.br,J U r.c.k,J U r.c.tc,J U r.c.tn,J U r.c.tt,J U r.c.tk,J U r.c.sh, (.slice A1 r.c.rs.length c1), (.slice A2 r.c.ws.length c2),.bool r.c.cm,J U r.sq,J U r.d0,J U r.d1,J U r.d2,J U r.d3,J U r.d4,J U r.d5,J U r.d6,.bool r.kp]) w1.heap.size g mp A1 A2 c1 c2 (by show _ ≤ Array.size _; simp) (Nat.le_trans HSZ.out KW.out.size) HNB (V (hold_keeps (HZZ.out.on HB2.out) KNB.out (by omega))) (V (txt_keeps HTX.out KW.out HOT.out)) (V (HP.out _ _ _ HPH.out KW.out))
 rotate_left
 focus
  go_simp
  refine hK.out _ _ (by refine ⟨?_, ?_⟩ <;> first | assumption | go_simp) (fun hHeld => ?_)
  clear hK K
  (try simp only [Act.put]); (try simp only [O]); (try simp only [List.set_cons_succ]); (try simp only [List.set_cons_zero])
  refine wpAnyH_ready (rs := [1]) (by kernel_rfl) (by simp) ?_
  refine AllReadyH.cons rfl (fun K hK => ?_) AllReadyH.nil
  go_simp
  refine Calls.mono (HK.out _ (by first | exact BA.out | exact BB.out)) ?_
  rintro e w1 ⟨g, mp, ⟨xr, va, vb⟩, rfl, hmp, hg, hlk, hx, htx, hot, hkp, hsz, hph⟩
  obtain rfl : r = xr := hx.symm
  obtain ⟨A1, c1, ea⟩ := rowN_sliceOf htx.rs
  obtain ⟨A2, c2, eb⟩ := rowN_sliceOf htx.ws
  dsimp only at ea eb
  subst ea eb
  have hs1 : w.heap.size + 2 ≤ w1.heap.size := Nat.le_trans (by simp) hsz
  have y0 : w1.cell? ⟨w.heap.size, 0, none⟩ = some (J U k.1) := (World.cell?_of_block (hkp w.heap.size ⟨Nat.le_refl _, Nat.lt_of_lt_of_le (Nat.lt_add_of_pos_right (by omega)) (show w.heap.size + 2 ≤ _ by simp)⟩)).trans (by go_simp)
  have y1 : w1.cell? ⟨w.heap.size, 1, none⟩ = some (J U k.2) := (World.cell?_of_block (hkp w.heap.size ⟨Nat.le_refl _, Nat.lt_of_lt_of_le (Nat.lt_add_of_pos_right (by omega)) (show w.heap.size + 2 ≤ _ by simp)⟩)).trans (by go_simp)
  have z0 : (w1.alloc (.cells #[J U 0,J U 0,J U 0,J U 0,J U 0,J U 0,J U 0,J U 0,J U 0,J U 0,J U 0,J U 0,J U 0,.slice none 0 0,.slice none 0 0,.bool false,J U 0,J U 0,J U 0,J U 0,J U 0,J U 0,J U 0,J U 0,.bool false] 67)).cell? ⟨w.heap.size, 0, none⟩ = some (J U k.1) := ((below_new (Below.refl _ w1)).cell (p := ⟨w.heap.size, 0, none⟩) (by show w.heap.size < _; omega)).trans y0
  have z1 : (w1.alloc (.cells #[J U 0,J U 0,J U 0,J U 0,J U 0,J U 0,J U 0,J U 0,J U 0,J U 0,J U 0,J U 0,J U 0,.slice none 0 0,.slice none 0 0,.bool false,J U 0,J U 0,J U 0,J U 0,J U 0,J U 0,J U 0,J U 0,.bool false] 67)).cell? ⟨w.heap.size, 1, none⟩ = some (J U k.2) := ((below_new (Below.refl _ w1)).cell (p := ⟨w.heap.size, 1, none⟩) (by show w.heap.size < _; omega)).trans y1
  have zm : (w1.alloc (.cells #[J U 0,J U 0,J U 0,J U 0,J U 0,J U 0,J U 0,J U 0,J U 0,J U 0,J U 0,J U 0,J U 0,.slice none 0 0,.slice none 0 0,.bool false,J U 0,J U 0,J U 0,J U 0,J U 0,J U 0,J U 0,J U 0,.bool false] 67)).cell? ⟨g, 4, none⟩ = some mp := ((below_new (Below.refl _ w1)).cell (p := ⟨g, 4, none⟩) hg).trans hmp
  have hl1 : (Instr.lookup 73 mp (.agg #[J U k.1,J U k.2]) true).run Tryz.prog w1 = .ok (.tuple #[.agg #[J U r.ir,J U r.is,J U r.st,J U r.pn,J U r.pr,J U r.bn,J U r.br,J U r.c.k,J U r.c.tc,J U r.c.tn,J U r.c.tt,J U r.c.tk,J U r.c.sh, (.slice A1 r.c.rs.length c1), (.slice A2 r.c.ws.length c2),.bool r.c.cm,J U r.sq,J U r.d0,J U r.d1,J U r.d2,J U r.d3,J U r.d4,J U r.d5,J U r.d6,.bool r.kp],.bool b]) w1 := hlk w1 (Below.refl _ _)
  have hl2 : (Instr.lookup 73 mp (.agg #[J U k.1,J U k.2]) true).run Tryz.prog (w1.alloc (.cells #[J U 0,J U 0,J U 0,J U 0,J U 0,J U 0,J U 0,J U 0,J U 0,J U 0,J U 0,J U 0,J U 0,.slice none 0 0,.slice none 0 0,.bool false,J U 0,J U 0,J U 0,J U 0,J U 0,J U 0,J U 0,J U 0,.bool false] 67)) = .ok (.tuple #[.agg #[J U r.ir,J U r.is,J U r.st,J U r.pn,J U r.pr,J U r.bn,J U r.br,J U r.c.k,J U r.c.tc,J U r.c.tn,J U r.c.tt,J U r.c.tk,J U r.c.sh, (.slice A1 r.c.rs.length c1), (.slice A2 r.c.ws.length c2),.bool r.c.cm,J U r.sq,J U r.d0,J U r.d1,J U r.d2,J U r.d3,J U r.d4,J U r.d5,J U r.d6,.bool r.kp],.bool b]) (w1.alloc (.cells #[J U 0,J U 0,J U 0,J U 0,J U 0,J U 0,J U 0,J U 0,J U 0,J U 0,J U 0,J U 0,J U 0,.slice none 0 0,.slice none 0 0,.bool false,J U 0,J U 0,J U 0,J U 0,J U 0,J U 0,J U 0,J U 0,.bool false] 67)) := hlk _ (below_new (Below.refl _ _))
  have HTX := V htx
  have HKP := V hkp
  have HPH := V hph
  have HSZ := V hsz
  have HMP := V hg
  have HOT := V hot
  clear htx hkp hph hsz hlk hg hot
  try go_simp
  refine hK.out _ _ (by exact ⟨y0, y1⟩) (fun hHeld => ?_)
  clear hK K
  (try simp only [Act.put]); (try simp only [O]); (try simp only [List.set_cons_succ]); (try simp only [List.set_cons_zero])
  refine wpAnyH_take (i := 2) (v := ?_) rfl (by kernel_rfl) (by kernel_rfl) (by kernel_rfl) (fun _ _ _ h => h) (Or.inl ⟨by rfl, ?_⟩) (by assumption) ?_
  rotate_left
  ·(intro w hSw; (try dsimp only at hSw); go_split_ands; go_simp; (try with_reducible rfl))
  (try simp only [Act.put]); (try simp only [O]); (try simp only [List.set_cons_succ]); (try simp only [List.set_cons_zero])
  refine wpAnyH_take (i := 3) (v := ?_) rfl (by kernel_rfl) (by kernel_rfl) (by kernel_rfl) (fun _ _ _ h => h) (Or.inl ⟨by rfl, ?_⟩) (by assumption) ?_
  rotate_left
  ·(intro w hSw; (try dsimp only at hSw); go_split_ands; go_simp; (try with_reducible rfl))
  (try simp only [Act.put]); (try simp only [O]); (try simp only [List.set_cons_succ]); (try simp only [List.set_cons_zero])
  refine wpAnyH_ready (rs := [4]) (by kernel_rfl) (by simp) ?_
  refine AllReadyH.cons rfl (fun K hK => ?_) AllReadyH.nil
  go_simp
  refine hK.out _ _ (by exact ⟨y0, y1⟩) (fun hHeld => ?_)
  clear hK K
  (try simp only [Act.put]); (try simp only [O]); (try simp only [List.set_cons_succ]); (try simp only [List.set_cons_zero])
  refine wpAnyH_ready (rs := [6]) (by kernel_rfl) (by simp) ?_
  refine AllReadyH.cons rfl (fun K hK => ?_) AllReadyH.nil
  go_simp
  refine hK.out _ _ (by exact ⟨y0, y1⟩) (fun hHeld => ?_)
  clear hK K
  (try simp only [Act.put]); (try simp only [O]); (try simp only [List.set_cons_succ]); (try simp only [List.set_cons_zero])
  refine wpAnyH_take (i := 7) (v := ?_) rfl (by kernel_rfl) (by kernel_rfl) (by kernel_rfl) (fun _ _ _ h => h) (Or.inl ⟨by rfl, ?_⟩) (by assumption) ?_
  rotate_left
  ·(intro w hSw; (try dsimp only at hSw); go_split_ands; go_simp; (try with_reducible rfl))
  (try simp only [Act.put]); (try simp only [O]); (try simp only [List.set_cons_succ]); (try simp only [List.set_cons_zero])
  refine wpAnyH_take (i := 8) (v := ?_) rfl (by kernel_rfl) (by kernel_rfl) (by kernel_rfl) (fun _ _ _ h => h) (Or.inl ⟨by rfl, ?_⟩) (by assumption) ?_
  rotate_left
  ·(intro w hSw; (try dsimp only at hSw); go_split_ands; go_simp; (try with_reducible rfl))
  (try simp only [Act.put]); (try simp only [O]); (try simp only [List.set_cons_succ]); (try simp only [List.set_cons_zero])
  refine wpAnyH_take (i := 9) (v := ?_) rfl (by kernel_rfl) (by kernel_rfl) (by kernel_rfl) (fun _ _ _ h => h) (Or.inl ⟨by rfl, ?_⟩) (by assumption) ?_
  rotate_left
  ·(intro w hSw; (try dsimp only at hSw); go_split_ands; go_simp; (try with_reducible rfl))
  (try simp only [Act.put]); (try simp only [O]); (try simp only [List.set_cons_succ]); (try simp only [List.set_cons_zero])
  refine wpAnyH_ready (rs := [11]) (by kernel_rfl) (by simp) ?_
  refine AllReadyH.cons rfl (fun K hK => ?_) AllReadyH.nil
  have hz : Hold w1 (w.heap.size + 2) 67 [J U 0,J U 0,J U 0,J U 0,J U 0,J U 0,J U 0,J U 0,J U 0,J U 0,J U 0,J U 0,J U 0,.slice none 0 0,.slice none 0 0,.bool false,J U 0,J U 0,J U 0,J U 0,J U 0,J U 0,J U 0,J U 0,.bool false] := (HKP.out (w.heap.size + 2) ⟨by omega, by show _ < Array.size _; simp⟩).trans (hold_w4 w _ _)
  have hb2 : Below w1.heap.size w1 w1 := Below.refl _ _
  have hzz : Hold w1 (w.heap.size + 1) 67 [J U 0,J U 0,J U 0,J U 0,J U 0,J U 0,J U 0,J U 0,J U 0,J U 0,J U 0,J U 0,J U 0,.slice none 0 0,.slice none 0 0,.bool false,J U 0,J U 0,J U 0,J U 0,J U 0,J U 0,J U 0,J U 0,.bool false] := (HKP.out (w.heap.size + 1) ⟨by omega, by show _ < Array.size _; simp⟩).trans (by first | exact hold_w2 w _ _ | exact hold_w3 w _ _)
  have hs := Wi.Hold.set [J U r.ir,J U r.is,J U r.st,J U r.pn,J U r.pr,J U r.bn,J U r.br,J U r.c.k,J U r.c.tc,J U r.c.tn,J U r.c.tt,J U r.c.tk,J U r.c.sh, (.slice A1 r.c.rs.length c1), (.slice A2 r.c.ws.length c2),.bool r.c.cm,J U r.sq,J U r.d0,J U r.d1,J U r.d2,J U r.d3,J U r.d4,J U r.d5,J U r.d6,.bool r.kp] [] [J U 0,J U 0,J U 0,J U 0,J U 0,J U 0,J U 0,J U 0,J U 0,J U 0,J U 0,J U 0,J U 0,.slice none 0 0,.slice none 0 0,.bool false,J U 0,J U 0,J U 0,J U 0,J U 0,J U 0,J U 0,J U 0,.bool false] [] rfl _ hz
  have HNB := V (show Hold (w1.setCells (w.heap.size + 2) 0 [J U r.ir,J U r.is,J U r.st,J U r.pn,J U r.pr,J U r.bn,J U r.br,J U r.c.k,J U r.c.tc,J U r.c.tn,J U r.c.tt,J U r.c.tk,J U r.c.sh, (.slice A1 r.c.rs.length c1), (.slice A2 r.c.ws.length c2),.bool r.c.cm,J U r.sq,J U r.d0,J U r.d1,J U r.d2,J U r.d3,J U r.d4,J U r.d5,J U r.d6,.bool r.kp]) (w.heap.size + 2) 67 [J U r.ir,J U r.is,J U r.st,J U r.pn,J U r.pr,J U r.bn,J U r.br,J U r.c.k,J U r.c.tc,J U r.c.tn,J U r.c.tt,J U r.c.tk,J U r.c.sh, (.slice A1 r.c.rs.length c1), (.slice A2 r.c.ws.length c2),.bool r.c.cm,J U r.sq,J U r.d0,J U r.d1,J U r.d2,J U r.d3,J U r.d4,J U r.d5,J U r.d6,.bool r.kp] from hs)
  have KNB := V (setCells_keeps w1 (w.heap.size + 2) 0 [J U r.ir,J U r.is,J U r.st,J U r.pn,J U r.pr,J U r.bn,J U r.br,J U r.c.k,J U r.c.tc,J U r.c.tn,J U r.c.tt,J U r.c.tk,J U r.c.sh, (.slice A1 r.c.rs.length c1), (.slice A2 r.c.ws.length c2),.bool r.c.cm,J U r.sq,J U r.d0,J U r.d1,J U r.d2,J U r.d3,J U r.d4,J U r.d5,J U r.d6,.bool r.kp])
  have HB2 := V hb2
  have HZZ := V hzz
  refine step_store rfl 67 _ _ rfl (w.heap.size + 2) 0 [J U r.ir,J U r.is,J U r.st,J U r.pn,J U r.pr,J U r.bn,J U r.br,J U r.c.k,J U r.c.tc,J U r.c.tn,J U r.c.tt,J U r.c.tk,J U r.c.sh, (.slice A1 r.c.rs.length c1), (.slice A2 r.c.ws.length c2),.bool r.c.cm,J U r.sq,J U r.d0,J U r.d1,J U r.d2,J U r.d3,J U r.d4,J U r.d5,J U r.d6,.bool r.kp] rfl rfl (hz.there (by simp)) (by kernel_rfl) (by kernel_rfl) ?_
  have u0 : (w1.setCells (w.heap.size + 2) 0 [J U r.ir,J U r.is,J U r.st,J U r.pn,J U r.pr,J U r.bn,J U r.br,J U r.c.k,J U r.c.tc,J U r.c.tn,J U r.c.tt,J U r.c.tk,J U r.c.sh, (.slice A1 r.c.rs.length c1), (.slice A2 r.c.ws.length c2),.bool r.c.cm,J U r.sq,J U r.d0,J U r.d1,J U r.d2,J U r.d3,J U r.d4,J U r.d5,J U r.d6,.bool r.kp]).cell? ⟨w.heap.size, 0, none⟩ = some (J U k.1) := (KNB.out.cell (p := ⟨w.heap.size, 0, none⟩) (Nat.lt_of_lt_of_le (by show w.heap.size < w1.heap.size; omega) hb2.size) (by show ¬ w.heap.size = (w.heap.size + 2); omega)).trans y0
  have u1 : (w1.setCells (w.heap.size + 2) 0 [J U r.ir,J U r.is,J U r.st,J U r.pn,J U r.pr,J U r.bn,J U r.br,J U r.c.k,J U r.c.tc,J U r.c.tn,J U r.c.tt,J U r.c.tk,J U r.c.sh, (.slice A1 r.c.rs.length c1), (.slice A2 r.c.ws.length c2),.bool r.c.cm,J U r.sq,J U r.d0,J U r.d1,J U r.d2,J U r.d3,J U r.d4,J U r.d5,J U r.d6,.bool r.kp]).cell? ⟨w.heap.size, 1, none⟩ = some (J U k.2) := (KNB.out.cell (p := ⟨w.heap.size, 1, none⟩) (Nat.lt_of_lt_of_le (by show w.heap.size < w1.heap.size; omega) hb2.size) (by show ¬ w.heap.size = (w.heap.size + 2); omega)).trans y1
  clear hz hb2 hzz hs
  refine hK.out _ _ (by exact ⟨u0, u1⟩) (fun hHeld => ?_)
  clear hK K
  (try simp only [Act.put]); (try simp only [O]); (try simp only [List.set_cons_succ]); (try simp only [List.set_cons_zero])
  refine wpAnyH_ready (rs := [12]) (by kernel_rfl) (by simp) ?_
  refine AllReadyH.cons rfl (fun K hK => ?_) AllReadyH.nil
  go_simp
  refine hK.out _ _ (by exact ⟨u0, u1⟩) (fun hHeld => ?_)
  clear hK K
  (try simp only [Act.put]); (try simp only [O]); (try simp only [List.set_cons_succ]); (try simp only [List.set_cons_zero])
  refine wpAnyH_done (by kernel_rfl) ?_ _
  have KW := V (show Keeps (Bet w (((w.alloc (.cells #[J U k.1,J U k.2] 53)).alloc (.cells #[J U 0,J U 0,J U 0,J U 0,J U 0,J U 0,J U 0,J U 0,J U 0,J U 0,J U 0,J U 0,J U 0,.slice none 0 0,.slice none 0 0,.bool false,J U 0,J U 0,J U 0,J U 0,J U 0,J U 0,J U 0,J U 0,.bool false] 67)).alloc (.cells #[J U 0,J U 0,J U 0,J U 0,J U 0,J U 0,J U 0,J U 0,J U 0,J U 0,J U 0,J U 0,J U 0,.slice none 0 0,.slice none 0 0,.bool false,J U 0,J U 0,J U 0,J U 0,J U 0,J U 0,J U 0,J U 0,.bool false] 67)).drew) w1 (w1.setCells (w.heap.size + 2) 0 [J U r.ir,J U r.is,J U r.st,J U r.pn,J U r.pr,J U r.bn,J U r.br,J U r.c.k,J U r.c.tc,J U r.c.tn,J U r.c.tt,J U r.c.tk,J U r.c.sh, (.slice A1 r.c.rs.length c1), (.slice A2 r.c.ws.length c2),.bool r.c.cm,J U r.sq,J U r.d0,J U r.d1,J U r.d2,J U r.d3,J U r.d4,J U r.d5,J U r.d6,.bool r.kp]) from KNB.out.wide (fun x _ e => by subst e; exact ⟨by omega, by show _ < Array.size _; simp⟩))
  exact KEY.out (((w.alloc (.cells #[J U k.1,J U k.2] 53)).alloc (.cells #[J U 0,J U 0,J U 0,J U 0,J U 0,J U 0,J U 0,J U 0,J U 0,J U 0,J U 0,J U 0,J U 0,.slice none 0 0,.slice none 0 0,.bool false,J U 0,J U 0,J U 0,J U 0,J U 0,J U 0,J U 0,J U 0,.bool false] 67)).alloc (.cells #[J U 0,J U 0,J U 0,J U 0,J U 0,J U 0,J U 0,J U 0,J U 0,J U 0,J U 0,J U 0,J U 0,.slice none 0 0,.slice none 0 0,.bool false,J U 0,J U 0,J U 0,J U 0,J U 0,J U 0,J U 0,J U 0,.bool false] 67)).drew (w1.setCells (w.heap.size + 2) 0 [J U r.ir,J U r.is,J U r.st,J U r.pn,J U r.pr,J U r.bn,J U r.br,J U r.c.k,J U r.c.tc,J U r.c.tn,J U r.c.tt,J U r.c.tk,J U r.c.sh, (.slice A1 r.c.rs.length c1), (.slice A2 r.c.ws.length c2),.bool r.c.cm,J U r.sq,J U r.d0,J U r.d1,J U r.d2,J U r.d3,J U r.d4,J U r.d5,J U r.d6,.bool r.kp]) (w.heap.size + 2) g mp A1 A2 c1 c2 (by show _ ≤ Array.size _; simp) (Nat.le_trans HSZ.out KW.out.size) HNB (V (hold_keeps (HZZ.out.on HB2.out) KNB.out (by omega))) (V (txt_keeps HTX.out KW.out HOT.out)) (V (HP.out _ _ _ HPH.out KW.out))
end Go.Proofs.YtdachohcjpjblaaGreatDoor
