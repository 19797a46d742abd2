/-
  Contract: frame.Add, whatever the builder's check is.
-/
import Derived.Test.YtnpaejknoipicadMaker2
import Derived.Test.YtnpaejknoipicadBufPlain
import Derived.Test.YtnpaejknoipicadSlotCheck
namespace Go.Proofs.Ytnpaejknoipicad
open Go.RowKit

theorem blocks4 {w w1 : World} {A B C D : Array Value} {s t u v : TypeId} (hb : Below ((((w.alloc (.cells A s)).alloc (.cells B t)).alloc (.cells C u)).alloc (.cells D v)).heap.size ((((w.alloc (.cells A s)).alloc (.cells B t)).alloc (.cells C u)).alloc (.cells D v)) w1) :
    Blk w1 w.heap.size A s ∧ Blk w1 (w.heap.size + 1) B t ∧ Blk w1 (w.heap.size + 1 + 1) C u ∧ Blk w1 (w.heap.size + 1 + 1 + 1) D v ∧ Below w.heap.size w w1 ∧ w.heap.size + 1 + 1 + 1 + 1 ≤ w1.heap.size := by
  have hs := hb.size
  simp only [World.size_alloc] at hs
  have h2 := ((((Blk.new w A s).alloc (.cells B t)).alloc (.cells C u)).alloc (.cells D v)).below hb (by simp; omega)
  have h3 := (((Blk.new (w.alloc (.cells A s)) B t).alloc (.cells C u)).alloc (.cells D v)).below hb (by simp)
  have h4 := ((Blk.new ((w.alloc (.cells A s)).alloc (.cells B t)) C u).alloc (.cells D v)).below hb (by simp)
  have h5 := (Blk.new (((w.alloc (.cells A s)).alloc (.cells B t)).alloc (.cells C u)) D v).below hb (by simp)
  simp only [World.size_alloc] at h3 h4 h5
  exact ⟨h2, h3, h4, h5, (((((Below.refl _ w).alloc (Nat.le_refl _) _).alloc (by simp) _).alloc (by simp; omega) _).alloc (by simp; omega) _).trans (hb.mono (by simp; omega)), hs⟩

end Go.Proofs.Ytnpaejknoipicad
