/-
  One more slot behind a row of the call's own, with what else stays.
-/
import Derived.Test.YtnpaejknoipicafSlotRows
import Derived.Test.YtnpaejknoipicafAppAny
namespace Go.Proofs.Ytnpaejknoipicaf
open Go.RowKit

theorem Sk.one2 (x : Sk) : ∀ u ∈ x.cells.toList, u.oneCell' = true := fun u hu => by
  simp [Sk.cells] at hu
  rcases hu with rfl | rfl | rfl | rfl | rfl | rfl | rfl <;> rfl
theorem sk_snoc {base : Nat} {w : World} {v : Value} {n : Nat} {l : List Sk} (x : Sk) (h : w.ownsRow base 41 7 v n (skCells l)) (hl : n ≤ 999) (hb : base ≤ w.heap.size) :
    ∃ v' w', (Builtin.append_ #[36, 36] 36 #[v, .slice (some ⟨w.heap.size, 0, none⟩) 1 1]).run Try.prog (w.alloc (.cells x.cells 41)) = .ok v' w' ∧ w'.ownsRow base 41 7 v' (n + 1) (skCells (l ++ [x])) ∧ (w.alloc (.cells x.cells 41)).grownBy w' v.ownBlock := by
  obtain ⟨i0, hi, hz0, hz1, hz2⟩ := info_parts Try.infoSlot
  obtain ⟨v', w', r, o, g, _⟩ := run_append_any (P := Try.prog) (w.alloc (.cells x.cells 41)) base 36 36 41 i0 _ 7 48 Try.underlying36 hi hz0 hz1 hz2 rfl (by decide) v n (skCells l) (h.alloc _) 1 x.cells.toList (.slice (some ⟨w.heap.size, 0, none⟩) 1 1) (Sl.new w x.cells 41 1 7 1 rfl) x.one2 (by unfold maxLen; omega) (by omega) (by simp; omega)
  exact ⟨v', w', r, by rw [skCells_append, skCells_one]; exact o, g⟩

end Go.Proofs.Ytnpaejknoipicaf
