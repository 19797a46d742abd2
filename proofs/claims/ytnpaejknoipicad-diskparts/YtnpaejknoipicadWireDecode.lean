/-
  Contract: wire.Decode.
-/
import Derived.Test.YtnpaejknoipicadWireWhole
namespace Go.Proofs.Ytnpaejknoipicad
open Go.RowKit

/-- a byte of a list -/
def at8 (l : List UInt8) (i : Nat) : Nat := (l[i]?.getD 0).toNat
theorem at8_lt (l : List UInt8) (i : Nat) : at8 l i < 256 := UInt8.toNat_lt _
/-- are they of a packet's form? -/
def formB (l : List UInt8) : Bool := decide (8 ≤ l.length) && decide (l.length = 8 + at8 l 7) && decide (128 ≤ at8 l 0) && decide (at8 l 0 ≤ 135)
/-- the packet that bytes of that form tell -/
def Pk.told (l : List UInt8) : Pk := ⟨num ((l.drop 1).take 2), num ((l.drop 3).take 4), at8 l 0 % 2 == 1, at8 l 0 / 2 % 2 == 1, at8 l 0 / 4 % 2 == 1, ba (l.drop 8)⟩
def Pk.dec (l : List UInt8) : Pk × Int := if formB l then (if (Pk.told l).chk == 0 then (Pk.told l, 0) else (Pk.zero, (Pk.told l).chk)) else (Pk.zero, 1)

theorem num_at (l : List UInt8) (i : Nat) : num ((l.drop i).take 1) = (at8 l i : Int) := by
  rw [num_one, at8, List.getElem?_drop, Nat.add_zero]

theorem bit_facts (h : Nat) (h1 : 128 ≤ h) (h2 : h ≤ 135) :
    (bits .and .i64 (h : Int) 1 != 0) = (h % 2 == 1) ∧ (bits .and .i64 (h : Int) 2 != 0) = (h / 2 % 2 == 1) ∧ (bits .and .i64 (h : Int) 4 != 0) = (h / 4 % 2 == 1) := by
  have : h = 128 ∨ h = 129 ∨ h = 130 ∨ h = 131 ∨ h = 132 ∨ h = 133 ∨ h = 134 ∨ h = 135 := by omega
  rcases this with rfl | rfl | rfl | rfl | rfl | rfl | rfl | rfl <;> exact ⟨by decide, by decide, by decide⟩

theorem Blk.six {w : World} {b : Nat} {x0 x1 x2 x3 x4 x5 : Value} {t : TypeId} (h : Blk w b #[x0, x1, x2, x3, x4, x5] t) :
    w.cell? ⟨b, 0, none⟩ = some x0 ∧ w.cell? ⟨b, 1, none⟩ = some x1 ∧ w.cell? ⟨b, 2, none⟩ = some x2 ∧ w.cell? ⟨b, 3, none⟩ = some x3 ∧ w.cell? ⟨b, 4, none⟩ = some x4 ∧ w.cell? ⟨b, 5, none⟩ = some x5 ∧
    w.frozen? ⟨b, 0, none⟩ = false ∧ w.frozen? ⟨b, 1, none⟩ = false ∧ w.frozen? ⟨b, 2, none⟩ = false ∧ w.frozen? ⟨b, 3, none⟩ = false ∧ w.frozen? ⟨b, 4, none⟩ = false ∧ w.frozen? ⟨b, 5, none⟩ = false :=
  ⟨h.cell rfl, h.cell rfl, h.cell rfl, h.cell rfl, h.cell rfl, h.cell rfl, h.free 0, h.free 1, h.free 2, h.free 3, h.free 4, h.free 5⟩

/-- the memory as Decode's reading begins -/
theorem dec_start (w : World) (z : Array Value) (t : TypeId) : ∀ W0, W0 = ((w.alloc (.cells z t)).alloc (.cells z t)).alloc (.cells #[.int .i64 0] 3) →
    Blk W0 w.heap.size z t ∧ Blk W0 (w.heap.size + 1) z t ∧ Blk W0 (w.heap.size + 1 + 1) #[.int .i64 0] 3 ∧ Below w.heap.size w W0 ∧ W0.heap.size = w.heap.size + 3 := by
  intro W0 h
  subst h
  refine ⟨((Blk.new w z t).alloc _).alloc _, ?_, ?_, by go_grown, by simp⟩
  · have := Blk.new (w.alloc (.cells z t)) z t
    rw [World.size_alloc] at this
    exact this.alloc _
  · have := Blk.new ((w.alloc (.cells z t)).alloc (.cells z t)) #[.int .i64 0] 3
    rw [World.size_alloc, World.size_alloc] at this
    exact this

end Go.Proofs.Ytnpaejknoipicad
