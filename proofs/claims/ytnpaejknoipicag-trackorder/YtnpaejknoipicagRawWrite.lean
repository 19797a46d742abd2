/-
  Contracts: the writer of package raw: Put, Number, Text, All.
-/
import Derived.Test.YtnpaejknoipicagWireNum
import Derived.Test.YtnpaejknoipicagAppAny
import Derived.Test.YtnpaejknoipicagButB
import Derived.Lib.AppendStr
namespace Go.Proofs.Ytnpaejknoipicag
open Go.RowKit

theorem owns_slice {w : World} {base : Nat} {e : TypeId} {size n : Nat} {v : Value} {xs : List Value} (h : w.ownsRow base e size v n xs) : ∃ a c, v = .slice a n c := by
  obtain ⟨_, ⟨rfl, rfl⟩ | ⟨g, cap, cur, rfl, _⟩⟩ := h
  · exact ⟨_, _, rfl⟩
  · exact ⟨_, _, rfl⟩
theorem bcells_one2 (l : List UInt8) : ∀ y ∈ bcells l, y.oneCell' = true := fun y hy => by
  obtain ⟨b, _, rfl⟩ := List.mem_map.1 hy
  rfl

theorem Sl.marked (w : World) (s : ByteArray) (cap : Nat) (t : TypeId) (mk : Nat × Nat) (c : Nat) : Sl ((w.alloc (.cells (bytesRow s cap) t mk)).drew) (.slice (some ⟨w.heap.size, 0, none⟩) s.size c) s.size 1 (bcells s.data.toList) := by
  refine ⟨by rw [bcells_len, Nat.mul_one]; exact Array.length_toList, .inr ⟨w.heap.size, 0, c, rfl, by simp, fun j u hj => ?_⟩⟩
  have h1 := World.cell?_alloc_mark w (bytesRow s cap) t mk j
  rw [Nat.zero_add]
  refine h1.trans ?_
  rw [bcells, List.getElem?_map] at hj
  have hlt : j < s.data.size := by
    cases h : decide (j < s.data.size)
    · simp at h
      rw [List.getElem?_eq_none (by simpa using h)] at hj; cases hj
    · exact of_decide_eq_true h
  unfold bytesRow
  rw [Array.getElem?_append_left (by simpa using hlt), Array.getElem?_map, Array.getElem?_eq_getElem hlt]
  rw [Array.getElem?_toList, Array.getElem?_eq_getElem hlt] at hj
  exact hj

end Go.Proofs.Ytnpaejknoipicag
