/-
  Small facts on blocks, rows and worlds.
-/
import Derived.Test.YtnpaejknoipicadSlotRows
import Derived.Test.YtnpaejknoipicadBlocks
import Derived.Lib.QuietBelow
import Derived.Deep.QuietTactic
namespace Go.Proofs.Ytnpaejknoipicad
open Go.RowKit

theorem Blk.three {w : World} {b : Nat} {t : TypeId} {x0 x1 x2 : Value} (h : Blk w b #[x0, x1, x2] t) :
    w.cell? ⟨b, 0, none⟩ = some x0 ∧ w.cell? ⟨b, 1, none⟩ = some x1 ∧ w.cell? ⟨b, 2, none⟩ = some x2 := ⟨h.cell rfl, h.cell rfl, h.cell rfl⟩
theorem Sls.alloc {w : World} {v : Value} {l : List Sk} (h : Sls w v l) (o : Obj) : Sls (w.alloc o) v l := h.below ((Below.refl _ w).alloc (Nat.le_refl _) _)
theorem Apart_type {w : World} {K g : Nat} {C D : Array Value} {s t : TypeId} (hK : Blk w K C s) (hg : Blk w g D t) (hst : s ≠ t) : K ≠ g := fun e => by
  subst e
  have h1 : w.heap[K]? = some (.cells C s (0, 0)) := hK
  have h2 : w.heap[K]? = some (.cells D t (0, 0)) := hg
  rw [h1] at h2
  injection h2 with h2
  injection h2 with _ h2 _
  exact hst h2
theorem owns_blk {w : World} {base : Nat} {e : TypeId} {size : Nat} {v : Value} {n : Nat} {xs : List Value} (h : w.ownsRow base e size v n xs) {g : Nat} (hg : v.ownBlock = some g) : base ≤ g ∧ ∃ cur, Blk w g cur e := by
  obtain ⟨_, ⟨rfl, _⟩ | ⟨g', cap, cur, rfl, hb, hh, _⟩⟩ := h
  · simp [Value.ownBlock] at hg
  · simp [Value.ownBlock] at hg; subst hg; exact ⟨hb, cur, hh⟩
theorem heap_drewN (w : World) (q : Nat) : (w.drewN q).heap = w.heap := rfl
theorem below_drewN {B : Nat} {w w' : World} (h : Below B w w') (q : Nat) : Below B w (w'.drewN q) := h.trans ⟨rfl, rfl, rfl, Nat.le_refl _, fun _ _ => rfl⟩
theorem Blk.two {w : World} {b : Nat} {t : TypeId} {x0 x1 : Value} (h : Blk w b #[x0, x1] t) : w.cell? ⟨b, 0, none⟩ = some x0 ∧ w.cell? ⟨b, 1, none⟩ = some x1 := ⟨h.cell rfl, h.cell rfl⟩
theorem owns_base {w : World} {base base' : Nat} {e : TypeId} {size : Nat} {v : Value} {n : Nat} {xs : List Value} (h : w.ownsRow base e size v n xs) (hb : base' ≤ base) : w.ownsRow base' e size v n xs := by
  obtain ⟨hl, h | ⟨g, cap, cur, rfl, h0, hh, h1, h2, h3, h4⟩⟩ := h
  · exact ⟨hl, .inl h⟩
  · exact ⟨hl, .inr ⟨g, cap, cur, rfl, by omega, hh, h1, h2, h3, h4⟩⟩
/-- v shows these slots, in memory from base on -/
def Fresh (base : Nat) (w : World) (v : Value) (l : List Sk) : Prop := Sls w v l ∧ ∀ g, v.ownBlock = some g → base ≤ g ∧ g < w.heap.size
theorem Fresh.nil (base : Nat) (w : World) : Fresh base w (.slice none 0 0) [] := ⟨Sls.nil w, fun g hg => by simp [Value.ownBlock] at hg⟩
theorem Fresh.set {base : Nat} {w : World} {v : Value} {l : List Sk} (h : Fresh base w v l) {p : Addr} (hp : p.block < base) (u : Value) : Fresh base (w.setCell p u) v l := by
  obtain ⟨⟨hl, hs⟩, hg⟩ := h
  refine ⟨⟨hl, ?_⟩, fun g e => by have := hg g e; simpa using this⟩
  rcases hs with hs | ⟨b, off, c, rfl, hb, hc⟩
  · exact .inl hs
  · refine .inr ⟨b, off, c, rfl, by simpa using hb, fun j x hj => ?_⟩
    have := (hg b rfl).1
    exact (World.cell?_of_block (Below.heap_setCell w p u b (by omega))).trans (hc j x hj)
theorem Fresh.base {base base' : Nat} {w : World} {v : Value} {l : List Sk} (h : Fresh base w v l) (hb : base' ≤ base) : Fresh base' w v l := ⟨h.1, fun g hg => by have := h.2 g hg; omega⟩
theorem Fresh.below {base : Nat} {w w' : World} {v : Value} {l : List Sk} (h : Fresh base w v l) (hb : Below w.heap.size w w') : Fresh base w' v l := ⟨h.1.below hb, fun g hg => by have := h.2 g hg; have := hb.size; omega⟩
theorem blocks3 {w w1 : World} {A B C : Array Value} {s t u : TypeId} (hb : Below (((w.alloc (.cells A s)).alloc (.cells B t)).alloc (.cells C u)).heap.size (((w.alloc (.cells A s)).alloc (.cells B t)).alloc (.cells C u)) w1) :
    Blk w1 w.heap.size A s ∧ Blk w1 (w.heap.size + 1) B t ∧ Blk w1 (w.heap.size + 1 + 1) C u ∧ Below w.heap.size w w1 ∧ w.heap.size + 1 + 1 + 1 ≤ w1.heap.size := by
  have hs := hb.size
  simp only [World.size_alloc] at hs
  have h2 := (((Blk.new w A s).alloc (.cells B t)).alloc (.cells C u)).below hb (by simp; omega)
  have h3 := ((Blk.new (w.alloc (.cells A s)) B t).alloc (.cells C u)).below hb (by simp)
  have h4 := (Blk.new ((w.alloc (.cells A s)).alloc (.cells B t)) C u).below hb (by simp)
  simp only [World.size_alloc] at h3 h4
  exact ⟨h2, h3, h4, ((((Below.refl _ w).alloc (Nat.le_refl _) _).alloc (by simp) _).alloc (by simp; omega) _).trans (hb.mono (by simp; omega)), hs⟩
theorem blocks2 {w w1 : World} {A B : Array Value} {s t : TypeId} (hb : Below ((w.alloc (.cells A s)).alloc (.cells B t)).heap.size ((w.alloc (.cells A s)).alloc (.cells B t)) w1) :
    Blk w1 w.heap.size A s ∧ Blk w1 (w.heap.size + 1) B t ∧ Below w.heap.size w w1 ∧ w.heap.size + 1 + 1 ≤ w1.heap.size := by
  have hs := hb.size
  simp only [World.size_alloc] at hs
  have h2 := ((Blk.new w A s).alloc (.cells B t)).below hb (by simp; omega)
  have h3 := (Blk.new (w.alloc (.cells A s)) B t).below hb (by simp)
  simp only [World.size_alloc] at h3
  exact ⟨h2, h3, (((Below.refl _ w).alloc (Nat.le_refl _) _).alloc (by simp) _).trans (hb.mono (by simp; omega)), hs⟩

theorem Below.on {a b c : World} (h : Below a.heap.size a b) (k : Below b.heap.size b c) : Below a.heap.size a c := h.trans (k.mono h.size)
theorem sk_one (l : List Sk) : ∀ u ∈ skCells l, u.oneCell' = true := fun u hu => by
  obtain ⟨z, _, hz⟩ := List.mem_flatMap.1 hu
  exact oneSlot z u hz

end Go.Proofs.Ytnpaejknoipicad
