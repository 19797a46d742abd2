/-
  Rows of slots: what a slice of slots shows; slot.CopyAll.
-/
import Derived.Test.YtnpaejknoipicadStrClone
import Derived.Test.YtnpaejknoipicadGrow
namespace Go.Proofs.Ytnpaejknoipicad
open Go.RowKit

/-- v shows these slots in world w -/
def Sls (w : World) (v : Value) (l : List Sk) : Prop := Sl w v l.length 7 (skCells l)

theorem Sls.below {w w' : World} {v : Value} {l : List Sk} (h : Sls w v l) (hb : Below w.heap.size w w') : Sls w' v l := Sl.below h hb
theorem Sls.len {w : World} {v : Value} {l : List Sk} (h : Sls w v l) : ∃ a c, v = .slice a l.length c := Sl.len h
theorem Sls.nil (w : World) : Sls w (.slice none 0 0) [] := ⟨rfl, .inl ⟨rfl, none, 0, rfl⟩⟩
/-- a slot's seven cells from an address on -/
def At7 (w : World) (b off : Nat) (x : Sk) : Prop :=
  w.cell? ⟨b, off, none⟩ = some (.int .i64 x.n) ∧ w.cell? ⟨b, off + 1, none⟩ = some (.int .i64 x.p.seq) ∧ w.cell? ⟨b, off + 2, none⟩ = some (.int .i64 x.p.time) ∧ w.cell? ⟨b, off + 3, none⟩ = some (.bool x.p.f) ∧
  w.cell? ⟨b, off + 4, none⟩ = some (.bool x.p.e) ∧ w.cell? ⟨b, off + 5, none⟩ = some (.bool x.p.k) ∧ w.cell? ⟨b, off + 6, none⟩ = some (.string x.p.t)

theorem Sls.parts {w : World} {v : Value} {l : List Sk} (h : Sls w v l) :
    ∃ ao c, v = .slice ao l.length c ∧ ∀ k, k < l.length → ∃ b off, ao = some ⟨b, off, none⟩ ∧ b < w.heap.size ∧ At7 w b (off + k * 7) (l[k]?.getD Sk.zero) := by
  obtain ⟨hl, ⟨h0, a, c, rfl⟩ | ⟨b, off, c, rfl, hb, hc⟩⟩ := h
  · exact ⟨a, c, by rw [h0], fun k hk => by omega⟩
  · refine ⟨_, c, rfl, fun k hk => ⟨b, off, rfl, hb, ?_⟩⟩
    have g : ∀ i u, i < 7 → ((l[k]?.getD Sk.zero).cells)[i]? = some u → w.cell? ⟨b, off + k * 7 + i, none⟩ = some u := fun i u hi hu => by
      rw [Nat.add_assoc]
      exact hc (k * 7 + i) u (by rw [skCells_at l k i hi hk]; exact hu)
    exact ⟨g 0 _ (by omega) rfl, g 1 _ (by omega) rfl, g 2 _ (by omega) rfl, g 3 _ (by omega) rfl, g 4 _ (by omega) rfl, g 5 _ (by omega) rfl, g 6 _ (by omega) rfl⟩

theorem At7.below {w w' : World} {b off B : Nat} {x : Sk} (h : At7 w b off x) (hb : Below B w w') (hB : b < B) : At7 w' b off x := by
  have g : ∀ j u, w.cell? ⟨b, j, none⟩ = some u → w'.cell? ⟨b, j, none⟩ = some u := fun j u hu => (hb.cell (p := ⟨b, j, none⟩) hB).trans hu
  obtain ⟨h0, h1, h2, h3, h4, h5, h6⟩ := h
  exact ⟨g _ _ h0, g _ _ h1, g _ _ h2, g _ _ h3, g _ _ h4, g _ _ h5, g _ _ h6⟩

/-- a row of the call's own, where its block is as it was -/
theorem owns_same {w w' : World} {base : Nat} {e : TypeId} {size : Nat} {v : Value} {n : Nat} {xs : List Value} (h : w.ownsRow base e size v n xs) (hs : ∀ g, v.ownBlock = some g → w'.heap[g]? = w.heap[g]?) : w'.ownsRow base e size v n xs := by
  obtain ⟨hl, h | ⟨g, cap, cur, rfl, hb, hh, h1, h2, h3, h4⟩⟩ := h
  · exact ⟨hl, .inl h⟩
  · exact ⟨hl, .inr ⟨g, cap, cur, rfl, hb, (hs g rfl).trans hh, h1, h2, h3, h4⟩⟩
theorem owns_below {w w' : World} {base B : Nat} {e : TypeId} {size : Nat} {v : Value} {n : Nat} {xs : List Value} (h : w.ownsRow base e size v n xs) (hb : Below B w w') (hB : w.heap.size ≤ B) : w'.ownsRow base e size v n xs :=
  owns_same h fun g hg => hb.block g (by have := (h.lt g hg).2; omega)

/-- one new slot, as append's law asks it -/
theorem newSlot {w : World} {x : Sk} {t : TypeId} {n : Nat} (hn : n = w.heap.size) : ∀ j u, x.cells.toList[j]? = some u → (w.alloc (.cells x.cells t)).cell? ((⟨n, 0, none⟩ : Addr).add j) = some u := by
  intro j u hj
  subst hn
  rw [Addr.add_lit, Nat.zero_add, World.cell?_alloc_new]
  simpa using hj
theorem oneSlot (x : Sk) : ∀ u ∈ x.cells.toList, u.oneCell' = true := by
  intro u hu
  simp [Sk.cells] at hu
  rcases hu with h | h | h | h | h | h | h <;> subst h <;> rfl

end Go.Proofs.Ytnpaejknoipicad
