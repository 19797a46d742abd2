/-
  A row of texts does not lie in a box that holds no text.
-/
import Derived.Test.YtnpaejknoipicaeStay
namespace Go.Proofs.Ytnpaejknoipicae
open Go.RowKit

theorem StrsIn.off {S : Nat → Prop} {w : World} {v : Value} {l : List ByteArray} {b : Nat} {C : Array Value} {t : TypeId} (h : StrsIn S w v l) (hb : Blk w b C t) (hC : ∀ (j : Nat) (s : ByteArray), ¬ C[j]? = some (.string s)) : StrsIn (fun g => S g ∧ g ≠ b) w v l := by
  obtain ⟨h1, h2, h3⟩ := h
  refine ⟨h1, h2, fun g hg h0 => ⟨⟨(h3 g hg h0).1, fun e => ?_⟩, (h3 g hg h0).2⟩⟩
  subst e
  obtain ⟨hl, h4 | ⟨b', off, c, rfl, _, hc⟩⟩ := h1
  · omega
  · have e1 : b' = g := by simpa [Value.ownBlock] using hg
    subst e1
    have hx : (l.map Value.string)[0]? = some (.string l[0]) := by rw [List.getElem?_map, List.getElem?_eq_getElem h0]; rfl
    have := hc 0 _ hx
    have hb' : w.heap[b']? = some (.cells C t (0, 0)) := hb
    simp [World.cell?, hb'] at this
    exact hC _ _ this

end Go.Proofs.Ytnpaejknoipicae
