/-
  What a slice value shows of memory: 'Sl w v n size xs': v has n elements of 'size' cells each, and its cells read xs in world w.
-/
import Derived.WalkKit
import Derived.WalkSpells
namespace Go.Proofs.Ytnpaejknoipicad
open Go.RowKit

def Sl (w : World) (v : Value) (n size : Nat) (xs : List Value) : Prop :=
  xs.length = n * size ∧ ((n = 0 ∧ ∃ a c, v = .slice a 0 c) ∨
    ∃ b off c, v = .slice (some ⟨b, off, none⟩) n c ∧ b < w.heap.size ∧ ∀ j u, xs[j]? = some u → w.cell? ⟨b, off + j, none⟩ = some u)

theorem Sl.below {w w' : World} {v : Value} {n size : Nat} {xs : List Value} (h : Sl w v n size xs) (hb : Below w.heap.size w w') : Sl w' v n size xs := by
  obtain ⟨hl, h | ⟨b, off, c, rfl, hlt, hc⟩⟩ := h
  · exact ⟨hl, .inl h⟩
  · exact ⟨hl, .inr ⟨b, off, c, rfl, Nat.lt_of_lt_of_le hlt hb.size, fun j u hj => (hb.cell (p := ⟨b, off + j, none⟩) hlt).trans (hc j u hj)⟩⟩

theorem Sl.of_owns {w : World} {base : Nat} {e : TypeId} {size : Nat} {v : Value} {n : Nat} {xs : List Value} (h : w.ownsRow base e size v n xs) : Sl w v n size xs := by
  obtain ⟨hl, ⟨rfl, rfl⟩ | ⟨g, cap, cur, rfl, hb, hh, hn, hm, hs, ht⟩⟩ := h
  · exact ⟨hl, .inl ⟨rfl, none, 0, rfl⟩⟩
  · refine ⟨hl, .inr ⟨g, 0, cap, rfl, lt_of_block hh, fun j u hj => ?_⟩⟩
    have hlt : j < xs.length := by
      cases h : decide (j < xs.length)
      · simp at h; rw [List.getElem?_eq_none h] at hj; cases hj
      · exact of_decide_eq_true h
    have : cur.toList[j]? = some u := by
      rw [← ht, List.getElem?_take] at hj
      rw [if_pos (by omega)] at hj
      exact hj
    simp [World.cell?, hh]
    simpa using this

theorem Sl.new (w : World) (cs : Array Value) (t : TypeId) (n size c : Nat) (h : cs.size = n * size) : Sl (w.alloc (.cells cs t)) (.slice (some ⟨w.heap.size, 0, none⟩) n c) n size cs.toList :=
  ⟨by simpa using h, .inr ⟨w.heap.size, 0, c, rfl, by simp, fun j u hj => by rw [Nat.zero_add, World.cell?_alloc_new]; simpa using hj⟩⟩

/-- a slice value's length -/
theorem Sl.len {w : World} {v : Value} {n size : Nat} {xs : List Value} (h : Sl w v n size xs) : ∃ a c, v = .slice a n c := by
  obtain ⟨_, ⟨rfl, a, c, rfl⟩ | ⟨b, off, c, rfl, _, _⟩⟩ := h
  · exact ⟨_, _, rfl⟩
  · exact ⟨_, _, rfl⟩

theorem Sl.parts {w : World} {v : Value} {n size : Nat} {xs : List Value} (h : Sl w v n size xs) :
    ∃ ao c, v = .slice ao n c ∧ ∀ j u, xs[j]? = some u → ∃ b off, ao = some ⟨b, off, none⟩ ∧ b < w.heap.size ∧ w.cell? ⟨b, off + j, none⟩ = some u := by
  obtain ⟨hl, ⟨rfl, a, c, rfl⟩ | ⟨b, off, c, rfl, hb, hc⟩⟩ := h
  · exact ⟨a, c, rfl, fun j u hj => by rw [Nat.zero_mul] at hl; rw [List.eq_nil_of_length_eq_zero hl] at hj; cases hj⟩
  · exact ⟨_, c, rfl, fun j u hj => ⟨b, off, rfl, hb, hc j u hj⟩⟩

theorem Sl.ints {w : World} {v : Value} {zs : List Int} {k : IntKind} (h : Sl w v zs.length 1 (zs.map (Value.int k))) :
    ∃ ao c, v = .slice ao zs.length c ∧ ∀ j, j < zs.length → ∃ b off, ao = some ⟨b, off, none⟩ ∧ b < w.heap.size ∧ w.cell? ⟨b, off + j, none⟩ = some (.int k (zs[j]?.getD 0)) := by
  obtain ⟨ao, c, hv, hc⟩ := h.parts
  exact ⟨ao, c, hv, fun j hj => hc j _ (by simp [List.getElem?_eq_getElem hj])⟩

/-- block b holds these cells -/
def Boxed (w : World) (b : Nat) (C : Array Value) : Prop := b < w.heap.size ∧ ∀ j u, C[j]? = some u → w.cell? ⟨b, j, none⟩ = some u
theorem Boxed.new (w : World) (C : Array Value) (t : TypeId) : Boxed (w.alloc (.cells C t)) w.heap.size C :=
  ⟨by simp, fun j u h => by rw [World.cell?_alloc_new]; exact h⟩
theorem Boxed.alloc {w : World} {b : Nat} {C : Array Value} (h : Boxed w b C) (o : Obj) : Boxed (w.alloc o) b C :=
  ⟨by have := h.1; simp; omega, fun j u hj => (World.cell?_alloc_past _ _ _ h.1).trans (h.2 j u hj)⟩
theorem Boxed.below {w w' : World} {b B : Nat} {C : Array Value} (h : Boxed w b C) (hb : Below B w w') (hB : b < B) : Boxed w' b C :=
  ⟨Nat.lt_of_lt_of_le h.1 hb.size, fun j u hj => (hb.cell (p := ⟨b, j, none⟩) hB).trans (h.2 j u hj)⟩
theorem Boxed.six {w : World} {b : Nat} {x0 x1 x2 x3 x4 x5 : Value} (h : Boxed w b #[x0, x1, x2, x3, x4, x5]) :
    w.cell? ⟨b, 0, none⟩ = some x0 ∧ w.cell? ⟨b, 1, none⟩ = some x1 ∧ w.cell? ⟨b, 2, none⟩ = some x2 ∧ w.cell? ⟨b, 3, none⟩ = some x3 ∧ w.cell? ⟨b, 4, none⟩ = some x4 ∧ w.cell? ⟨b, 5, none⟩ = some x5 :=
  ⟨h.2 0 _ rfl, h.2 1 _ rfl, h.2 2 _ rfl, h.2 3 _ rfl, h.2 4 _ rfl, h.2 5 _ rfl⟩

/-- one new cell, as append's law asks it -/
theorem news1 {w : World} {x : Value} {t : TypeId} {n : Nat} (hn : n = w.heap.size) : ∀ j u, [x][j]? = some u → (w.alloc (.cells #[x] t)).cell? ((⟨n, 0, none⟩ : Addr).add j) = some u := by
  intro j u hj
  match j, hj with
  | 0, hj => simp at hj; subst hj; subst hn; simp [Addr.add]
theorem one1 {k : IntKind} {n : Int} : ∀ u ∈ [Value.int k n], u.oneCell' = true := by
  intro u hu; simp at hu; subst hu; rfl

/-- the whole of an argument's view: the numbers, as the frame's opening gives them -/
theorem Sl.of_row {w : World} {a : Option Addr} {len cap : Nat} {zs : List Int} {k : IntKind}
    (h : (a = none ∧ len = 0 ∧ cap = 0 ∧ zs = []) ∨ ∃ x, a = some x ∧ len ≤ cap ∧ cap ≤ maxLen ∧ zs.length = cap ∧ (∀ i, i < zs.length → w.cell? (x.add i) = some (.int k (zs.getD i 0))) ∧ ∀ n ∈ zs, (Lit.int k n).wf = true) :
    Sl w (.slice a len cap) len 1 ((zs.take len).map (Value.int k)) ∧ ∀ n ∈ zs.take len, (Lit.int k n).wf = true := by
  rcases h with ⟨rfl, rfl, rfl, rfl⟩ | ⟨x, rfl, hl, hm, hz, hc, hwf⟩
  · exact ⟨⟨by simp, .inl ⟨rfl, none, 0, rfl⟩⟩, by simp⟩
  · refine ⟨?_, fun n hn => hwf n (List.mem_of_mem_take hn)⟩
    have hlen : ((zs.take len).map (Value.int k)).length = len * 1 := by simp; omega
    by_cases h0 : len = 0
    · subst h0
      exact ⟨hlen, .inl ⟨rfl, some x, cap, rfl⟩⟩
    · obtain ⟨b, off, spot⟩ := x
      have hc0 := hc 0 (by omega)
      have hspot : spot = none := by simpa [Addr.add] using World.cell?_spot hc0
      subst hspot
      refine ⟨hlen, .inr ⟨b, off, cap, rfl, by simpa [Addr.add] using World.block_lt_of_cell? w _ hc0, fun j u hj => ?_⟩⟩
      have hlt : j < len := by
        have := (List.getElem?_eq_some_iff.1 hj).1
        simp at this; omega
      have hcj := hc j (by omega)
      simp [Addr.add] at hcj
      rw [List.getElem?_map, List.getElem?_take, if_pos hlt] at hj
      have hzj : zs[j]? = some (zs.getD j 0) := by
        rw [List.getElem?_eq_getElem (by omega)]; simp [List.getD, List.getElem?_eq_getElem (show j < zs.length by omega)]
      rw [hzj] at hj
      simp at hj
      rw [← hj]
      by_cases hj0 : j = 0
      · subst hj0; simpa using hcj
      · rw [if_neg hj0] at hcj; exact hcj

end Go.Proofs.Ytnpaejknoipicad
