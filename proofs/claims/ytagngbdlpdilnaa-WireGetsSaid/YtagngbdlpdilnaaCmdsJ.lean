/- Contract of Keys; no conditions but the lengths that it names. -/
import Derived.Test.YtagngbdlpdilnaaCmdsH
namespace Go.Proofs.Ytagngbdlpdilnaa
open Go.ChangeShapes Go.WideShapes Go.ChangeAt Go.RowKit

namespace M
/-- Few reads and writes, and short. -/
structure Mod (c : Cmd) : Prop where
  r : c.rs.length ≤ 20
  w : c.ws.length ≤ 20
  rk : ∀ r ∈ c.rs, r.1.length ≤ 100
  wk : ∀ r ∈ c.ws, r.1.length ≤ 100
  wv : ∀ r ∈ c.ws, r.2.length ≤ 100
theorem Mod.l {c : Cmd} (h : Mod c) : c.rs.length ≤ 1000 := by have := h.r; omega
theorem Mod.l' {c : Cmd} (h : Mod c) : c.ws.length ≤ 1000 := by have := h.w; omega
theorem Mod.rks {c : Cmd} (h : Mod c) : ∀ x ∈ M.rk c.rs, x.length ≤ 1000 := fun x hx => by
  unfold M.rk at hx
  rw [List.mem_map] at hx
  obtain ⟨r, hr, rfl⟩ := hx
  have := h.rk r hr; omega
theorem Mod.wks {c : Cmd} (h : Mod c) : ∀ x ∈ M.wk c.ws, x.length ≤ 1000 := fun x hx => by
  unfold M.wk at hx
  rw [List.mem_map] at hx
  obtain ⟨r, hr, rfl⟩ := hx
  have := h.wk r hr; omega
def keysL (c : Cmd) : List (List UInt8) := join (M.rk c.rs) (M.wk c.ws)
theorem keysL_len {c : Cmd} (h : Mod c) : (keysL c).length ≤ 74 := by
  have := join_len (M.rk c.rs) (M.wk c.ws)
  rw [rk_len, wk_len] at this
  have := h.r; have := h.w
  unfold keysL; omega
theorem keysL_short {c : Cmd} (h : Mod c) : ∀ x ∈ keysL c, x.length ≤ 1000 := fun x hx => by
  rcases (join_mem _ _ x).1 hx with hx | hx
  · exact h.rks x hx
  · exact h.wks x hx
end M

end Go.Proofs.Ytagngbdlpdilnaa
