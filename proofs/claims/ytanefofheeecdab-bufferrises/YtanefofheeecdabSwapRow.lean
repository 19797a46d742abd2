/-
  A row of slots in which two change places; where a slot belongs among those that rise.
-/
import Derived.Test.YtanefofheeecdabBufMath
namespace Go.Proofs.Ytanefofheeecdab
open Go.RowKit

theorem own_set {w : World} {base : Nat} {e : TypeId} {size g n cap j : Nat} {xs : List Value} (h : w.ownsRow base e size (.slice (some ⟨g, 0, none⟩) n cap) n xs) (u : Value) :
    (w.setCell ⟨g, j, none⟩ u).ownsRow base e size (.slice (some ⟨g, 0, none⟩) n cap) n (xs.set j u) := by
  obtain ⟨hl, ⟨h1, _⟩ | ⟨g', cap', cur, h1, hb, hh, h2, h3, h4, h5⟩⟩ := h
  · cases h1
  · injection h1 with e1 e2 e3
    injection e1 with e1
    injection e1 with e1
    subst e1 e3
    refine ⟨by simpa using hl, .inr ⟨g, cap, cur.setIfInBounds j u, rfl, hb, Blk.set (show Blk w g cur e from hh) j u, h2, h3, by simpa using h4, ?_⟩⟩
    rw [Array.toList_setIfInBounds, List.take_set, h5]

def set7 (xs : List Value) (j : Nat) (y : Sk) : List Value :=
  ((((((xs.set j (.int .i64 y.n)).set (j + 1) (.int .i64 y.p.seq)).set (j + 2) (.int .i64 y.p.time)).set (j + 3) (.bool y.p.f)).set (j + 4) (.bool y.p.e)).set (j + 5) (.bool y.p.k)).set (j + 6) (.string y.p.t)
theorem set7_append (a b : List Value) (j : Nat) (y : Sk) : set7 (a ++ b) (a.length + j) y = a ++ set7 b j y := by
  have h : ∀ (b : List Value) (i : Nat) (u : Value), (a ++ b).set (a.length + i) u = a ++ b.set i u := fun b i u => by
    rw [List.set_append_right _ _ (by omega)]; congr 2; omega
  unfold set7
  simp only [Nat.add_assoc, h]
theorem set7_cells (y : Sk) : ∀ (l : List Sk) (k : Nat), k < l.length → set7 (skCells l) (k * 7) y = skCells (l.set k y)
  | [], _, h => by simp at h
  | x :: r, 0, _ => by simp [skCells, Sk.cells, set7]
  | x :: r, k + 1, h => by
    have e : skCells (x :: r) = x.cells.toList ++ skCells r := by simp [skCells]
    have e2 : skCells ((x :: r).set (k + 1) y) = x.cells.toList ++ skCells (r.set k y) := by simp [skCells]
    rw [e, e2, show (k + 1) * 7 = x.cells.toList.length + k * 7 by simp [Sk.cells]; omega, set7_append, set7_cells y r k (by simpa using h)]

/-- seven cells of a slot, stored -/
def World.put7 (w : World) (g j : Nat) (y : Sk) : World :=
  ((((((w.setCell ⟨g, j, none⟩ (.int .i64 y.n)).setCell ⟨g, j + 1, none⟩ (.int .i64 y.p.seq)).setCell ⟨g, j + 2, none⟩ (.int .i64 y.p.time)).setCell ⟨g, j + 3, none⟩ (.bool y.p.f)).setCell ⟨g, j + 4, none⟩ (.bool y.p.e)).setCell ⟨g, j + 5, none⟩ (.bool y.p.k)).setCell ⟨g, j + 6, none⟩ (.string y.p.t)
theorem own_put7 {w : World} {base : Nat} {e : TypeId} {g n cap k : Nat} {l : List Sk} (h : w.ownsRow base e 7 (.slice (some ⟨g, 0, none⟩) n cap) n (skCells l)) (hk : k < l.length) (y : Sk) :
    (World.put7 w g (k * 7) y).ownsRow base e 7 (.slice (some ⟨g, 0, none⟩) n cap) n (skCells (l.set k y)) := by
  rw [← set7_cells y l k hk]
  exact own_set (own_set (own_set (own_set (own_set (own_set (own_set h _) _) _) _) _) _) _
theorem put7_block {w : World} {g j : Nat} {y : Sk} {b : Nat} (h : b ≠ g) : (World.put7 w g j y).heap[b]? = w.heap[b]? := by
  unfold World.put7
  rw [Below.heap_setCell _ _ _ _ (by exact h), Below.heap_setCell _ _ _ _ (by exact h), Below.heap_setCell _ _ _ _ (by exact h), Below.heap_setCell _ _ _ _ (by exact h), Below.heap_setCell _ _ _ _ (by exact h), Below.heap_setCell _ _ _ _ (by exact h), Below.heap_setCell _ _ _ _ (by exact h)]
theorem put7_size {w : World} {g j : Nat} {y : Sk} : (World.put7 w g j y).heap.size = w.heap.size := by simp [World.put7]
theorem put7_below {B : Nat} {w0 w : World} {g j : Nat} {y : Sk} (h : Below B w0 w) (hg : B ≤ g) : Below B w0 (World.put7 w g j y) := by
  unfold World.put7
  exact (((((((h.setCell (by exact hg) _).setCell (by exact hg) _).setCell (by exact hg) _).setCell (by exact hg) _).setCell (by exact hg) _).setCell (by exact hg) _).setCell (by exact hg) _)

theorem putAt_len (l : List Sk) (k : Nat) (x : Sk) (hk : k ≤ l.length) : (putAt l k x).length = l.length + 1 := by simp [putAt]; omega
theorem putAt_at (l : List Sk) (k : Nat) (x : Sk) (hk : k ≤ l.length) : (putAt l k x)[k]? = some x := by
  unfold putAt
  rw [List.getElem?_append_right (by simp; omega)]
  simp [Nat.min_eq_left hk]
theorem putAt_ahead (l : List Sk) (k j : Nat) (x : Sk) (hk : k ≤ l.length) (hj : j < k) : (putAt l k x)[j]? = l[j]? := by
  unfold putAt
  rw [List.getElem?_append_left (by simp; omega), List.getElem?_take, if_pos hj]
theorem putAt_swap (x : Sk) : ∀ (l : List Sk) (k : Nat), k < l.length → ((putAt l (k + 1) x).set (k + 1) (l[k]?.getD Sk.zero)).set k x = putAt l k x
  | [], _, h => by simp at h
  | y :: r, 0, _ => by simp [putAt]
  | y :: r, k + 1, h => by
    have := putAt_swap x r k (by simpa using h)
    simp only [putAt, List.take_succ_cons, List.drop_succ_cons, List.cons_append, List.set_cons_succ, List.getElem?_cons_succ, List.cons.injEq, true_and] at this ⊢
    exact this
theorem upB_ge {a : Int} {l : List Sk} (h : upB a l = true) {k : Nat} (hk : k < l.length) : (l[0]?.getD Sk.zero).n ≤ (l[k]?.getD Sk.zero).n := by
  cases l with
  | nil => simp at hk
  | cons y r =>
    cases k with
    | zero => exact Int.le_refl _
    | succ k =>
      simp only [upB, Bool.and_eq_true] at h
      have hk' : k < r.length := by simpa using hk
      have := upB_all h.2 r[k] (List.getElem_mem hk')
      simp [hk']
      omega
theorem place_of (x : Sk) : ∀ (l : List Sk) (k : Nat) (a : Int), upB a l = true → k ≤ l.length → (∀ y ∈ l.drop k, x.n < y.n) → (k = 0 ∨ ¬ x.n < (l[k - 1]?.getD Sk.zero).n) → place l x = k
  | [], k, _, _, hk, _, _ => by have : k = 0 := by simpa using hk
                                rw [this]; rfl
  | y :: r, 0, _, _, _, h1, _ => by
    rw [place_cons, if_pos (h1 y (by simp))]
  | y :: r, k + 1, a, hu, hk, h1, h2 => by
    have hge := upB_ge hu (k := k) (by simp at hk ⊢; omega)
    have h2' : ¬ x.n < ((y :: r)[k]?.getD Sk.zero).n := by
      rcases h2 with h2 | h2
      · omega
      · simpa using h2
    have hy : ¬ x.n < y.n := by
      have : ((y :: r)[0]?.getD Sk.zero).n = y.n := rfl
      omega
    rw [place_cons, if_neg hy]
    simp only [upB, Bool.and_eq_true] at hu
    rw [place_of x r k y.n hu.2 (by simpa using hk) (by simpa using h1) (by
      cases k with
      | zero => left; rfl
      | succ k => right; simpa using h2')]

end Go.Proofs.Ytanefofheeecdab
