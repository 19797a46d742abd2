/-
  Contracts: slices.IndexFunc and slices.ContainsFunc over slots, whatever closure they are handed.
-/
import Derived.Test.YtnpaejknoipicadSlotRows
import Derived.Shelf.Abstract
namespace Go.Proofs.Ytnpaejknoipicad
open Go.RowKit

/-- the place of the first one, or -1 -/
def idxOf (p : Sk → Bool) (l : List Sk) : Int := match l.findIdx? p with
  | some i => i
  | none => -1

/-- a closure that tells p of a slot, and changes nothing that was there -/
def Tells (g : Nat) (lb : Array Value) (p : Sk → Bool) (w : World) : Prop :=
  ∀ (W : World) (x : Sk), Below w.heap.size w W → Calls Try.prog g (#[x.val] ++ lb) W fun e w' => e = .returned (.bool (p x)) ∧ Below W.heap.size W w'

theorem idxOf_hit {p : Sk → Bool} {l : List Sk} {k : Nat} (hk : k < l.length) (hno : ∀ j, j < k → p (l[j]?.getD Sk.zero) = false) (hp : p (l[k]?.getD Sk.zero) = true) : idxOf p l = k := by
  have : l.findIdx? p = some k := by
    rw [List.findIdx?_eq_some_iff_getElem]
    refine ⟨hk, by rw [List.getElem?_eq_getElem hk] at hp; exact hp, fun j hj => ?_⟩
    have := hno j hj
    rw [List.getElem?_eq_getElem (by omega), Option.getD_some] at this
    rw [this]; simp
  simp [idxOf, this]
theorem idxOf_miss {p : Sk → Bool} {l : List Sk} (hno : ∀ j, j < l.length → p (l[j]?.getD Sk.zero) = false) : idxOf p l = -1 := by
  have : l.findIdx? p = none := by
    rw [List.findIdx?_eq_none_iff]
    intro x hx
    obtain ⟨j, hj, rfl⟩ := List.getElem_of_mem hx
    have := hno j hj
    rw [List.getElem?_eq_getElem hj] at this
    exact this
  simp [idxOf, this]
theorem idxOf_any (p : Sk → Bool) (l : List Sk) : decide (0 ≤ idxOf p l) = l.any p := by
  unfold idxOf
  cases h : l.findIdx? p with
  | none =>
    have h2 : l.any p = false := by rw [List.findIdx?_eq_none_iff] at h; simpa using h
    simp [h2]
  | some i =>
    have h2 : l.any p = true := by
      rw [List.findIdx?_eq_some_iff_getElem] at h
      obtain ⟨h1, h2, _⟩ := h
      exact List.any_eq_true.2 ⟨l[i], List.getElem_mem h1, h2⟩
    simp [h2]

end Go.Proofs.Ytnpaejknoipicad
